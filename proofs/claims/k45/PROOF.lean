import PyProof.Rows.All
import Wide.All
import OpenK.AllK
import Wide.FinOn
import Lean
import PyProof.EqAt
import PyProof.EqKinds
import PyProof.TupleCall
import PyProof.NeKinds
import PyProof.SumWalkG
import PyProof.Rows.CallKwBuiltin
import PyProof.Rows.FStr
import PyProof.ListRange
import PyProof.ZipIter
import PyProof.CompFree
import KE.KIntText
import PyProof.StrWalks
import PyProof.Rows.StrMul
import PyProof.ConsumeWalk
import Wide.Txt
import PySem.Challenge.RW_beltshares_k45_reported
open PySem.W (instObj methodObj lookIn InstAt plainGet hasDictIn findIn handedIn plainGet_of isFn takerIn any_some looks_clsIn makesIn typeIn emptyDict looks_findIn keepIn specialIn takesIn mroIn fnOf codeIn callWith_K methodCall_KW kitOne kitCls subIn looks_subIn nsIn mg_of findObj clsIn readsIn findCls Looks)
set_option Elab.async false
set_option linter.all false
set_option maxRecDepth 100000
set_option compiler.extract_closed false
set_option bootstrap.genMatcherCode false
set_option hygiene false
local macro_rules | `(tactic| walk_at "p")=>`(tactic| first|exact Or.inl rfl|exact Or.inr rfl|assumption)
local macro_rules | `(tactic| walk_at "q")=>`(tactic| first|exact L2.nobehind _ (by decide) (by decide)|rfl)
set_option hygiene true
open List (nodup_append foldl_append length_range cons_append of_mem_zip all_cons map_nil)
def aa:=@List.getElem?_eq_some_iff
def ac:=@List.getElem?_eq_getElem
def ae:=@PySem.wpAny_bind
def af:=@List.length_map
def ah:=@PySem.Heap.get?_push_of_some
def ai:=@List.mem_of_getElem?
def aj:=@List.getD_eq_getElem?_getD
def ak:=@List.mem_singleton
def am:=@if_neg
def ao:=@PySem.F.plainAttrs_list
def ap:=@List.getElem?_map
def aq:=@if_pos
def ar:=@Nat.le_refl
def au:=@List.mem_cons
def av:=@PySem.F.type_list_append
def aw:=@PySem.F.slot_list_append
def ax:=@List.size_toArray
def ay:=@List.mem_append
def az:=@PySem.Heap.lt_size
def aA:=@List.mem_cons_of_mem
def aB:=@Option.map_eq_some_iff
def aC:=@Bool.false_ne_true
def aD:=@List.length_append
def aE:=@PySem.wpAny_pure
def aF:=@PySem.Heap.get?_push_size
def aG:=@PySem.Str.length_append
def aH:=@Nat.lt_of_lt_of_le
def aI:=@PySem.wpAny_mono
def aJ:=@Nat.le_trans
def aK:=@List.mem_map
def aM:=@List.length_cons
def aN:=@Nat.ne_of_lt
def aO:=@Option.some.inj
def aP:=@Int.toNat_natCast
def aQ:=@List.map_append
def aR:=@decide_eq_false
def aS:=@List.length_take
def aT:=@List.take_add_one
def aU:=@List.getElem?_set_self
def aV:=@List.take_length
def aW:=@PySem.F.plainAttrs_str
def aX:=@List.mem_append_right
def aY:=@List.getElem?_append_right
def aZ:=@decide_eq_true
def a7:=@List.mem_cons_self
def a8:=@Int.natCast_nonneg
def a9:=@beq_eq_false_iff_ne
def ba:=@List.getElem?_append_left
def bb:=@Ne.symm
def bc:=@Option.getD_some
def bd:=@PySem.Obj.data_mapFields
def be:=@PySem.Heap.get?_update_other
def bg:=@Array.length_toList
def bh:=@PySem.F.type_str_join
def bj:=@PySem.F.slot_str_join
def bn:=@List.not_mem_nil
def bp:=@congrArg
def br:=@List.mem_range
def bt:=@List.Perm.refl
def bu:=@Int.natAbs_natCast
def bw:=@Array.getElem?_eq_some_iff
def bx:=@PySem.wpAny_field
def bz:=@List.mem_append_left
def bA:=@List.length_replicate
def bB:=@List.append_nil
def bD:=@PySem.Heap.get?_update_self
def bE:=@List.getElem?_set_ne
def bF:=@List.getElem?_of_mem
def bH:=@PyProof.Rows.callWith_type1
def bI:=@List.getLastD_eq_getLast?
def bJ:=@beq_iff_eq
def bK:=@PySem.Str.empty_append
def bL:=@PySem.wpAny_truthy_bool
def bM:=@Int.emod_lt_of_pos
def bN:=@List.map_cons
def bO:=@Int.le_refl
def bP:=@List.length_singleton
def bQ:=@PySem.wpAny_Call_Name_kw
def bR:=@or_false
def bS:=@PySem.mem_of_lookup
def bT:=@PySem.Heap.size_push
def bU:=@List.all_eq_true
def bV:=@Nat.lt_of_le_of_lt
def bW:=@PySem.wpAny_standAt
def bX:=@List.length_nil
def bY:=@Int.emod_nonneg
def bZ:=@PySem.wpAny_seqItems
def b5:=@of_decide_eq_true
def b6:=@Nat.lt_trichotomy
def b7:=@Nat.le_of_lt
def b9:=@PySem.Obj.isFreed_of_fields
def cc:=@List.getElem_mem
def cf:=@Bool.and_false
def cg:=@Bool.and_eq_true
def ci:=@List.length_set
def cj:=@Nat.zero_le
def ck:=@List.set_eq_of_length_le
def cm:=@Nat.not_lt_zero
def cn:=@Nat.lt_irrefl
def cq:=@List.Perm.append_left
def cr:=@PySem.wpAny_setField_rec
def cu:=@PySem.codeAny_mono
def cv:=@PySem.wpAny_passesOwn
def cw:=@PySem.wpAny_execs_nil
def cx:=@Int.fdiv_eq_ediv_of_nonneg
def cy:=@PySem.wpAny_holding
def cz:=@PySem.codeAny_handlers_test
def cA:=@Option.bind_some
def cB:=@List.mem_flatMap
def cD:=@PySem.wpAny_loadPart_at
def cE:=@Int.toNat_of_nonneg
def cF:=@List.find?_cons
def cG:=@PySem.F.slot_tuple_iterator_next
def cH:=@List.take_zero
def cI:=@List.append_assoc
def cJ:=@List.mem_filter
def cK:=@List.mem_replicate
def cM:=@Int.lt_of_le_of_lt
def cN:=@Option.bind_eq_some_iff
def cO:=@PySem.wpAny_handleBy_cons
def cP:=@if_false
def cQ:=@Option.map_eq_none_iff
def cR:=@Int.zero_add
def cS:=@Int.le_of_lt
def cT:=@List.lookup_cons
def cU:=@List.length_drop
def cV:=@PySem.call_meets
def cW:=@PySem.SeqAt.EqAt.of_refs
def cX:=@PySem.wpAny_callSpecial?_slot
def cY:=@Int.natAbs_dvd_natAbs
def cZ:=@Array.getElem?_toList
def c8:=@Nat.lt_succ_self
def c9:=@Nat.le_add_right
def da:=@List.take_of_length_le
def db:=@List.replicate_succ
def de:=@List.cons.inj
def dg:=@PySem.wpAny_setField
def dh:=@PySem.wpAny_newObj_type
def di:=@PySem.SeqAt.RcAt.tuples
def dj:=@Nat.le_succ
def dk:=@List.exists_cons_of_ne_nil
def dm:=@List.ne_nil_of_length_pos
def dq:=@PySem.Paired.length
def dA:=@PySem.codeAny_call_builtin
def dB:=@List.pairwise_cons
def dC:=@PySem.Heap.get?_none_of_le
def dD:=@Bool.false_eq_true
def dE:=@List.getLast?_eq_getElem?
def dF:=@List.getElem?_eq_none_iff
def dG:=@decide_eq_true_eq
def dH:=@Function.comp_def
def dI:=@PySem.wpAny_call
def dJ:=@PySem.W.looks_findIn
def dL:=@PySem.F.slot_list_index
def dM:=@Nat.mod_eq_of_lt
def dN:=@List.length_eq_zero_iff
def dO:=@PySem.F.type_str_split
def dP:=@PySem.F.slot_str_split
def dQ:=@Nat.ne_of_gt
def dR:=@Nat.mod_lt
def dS:=@Int.lt_trans
def dU:=@PySem.wpAny_pyIter_list
def dW:=@PySem.sizeLine_eq
def dX:=@List.getLast?_eq_some_getLast
def dY:=@List.nodup_cons
def dZ:=@PySem.F.attr_ValueError
def d0:=@Bool.eq_iff_iff
def d5:=@PySem.F.type_list_pop
def d6:=@PySem.F.slot_list_pop
def d7:=@List.getElem?_zipWith
def d8:=@PySem.wpAny_call_entry
def d9:=@PySem.W.methodCall_KW
def ef:=@if_true
def eu:=@List.flatten_cons
def eB:=@ne_true_of_eq_false
def eC:=@PySem.codeAny_handlers_suite
def eE:=@PySem.StrLaws.join_length_le
def eF:=@List.length_pos_iff
def eG:=@PySem.SeqAt.EqAt.same
def eI:=@PySem.F.slot_zip_next
def eJ:=@PySem.W.callWith_K
def eK:=@Int.mul_nonpos_of_nonneg_of_nonpos
def eM:=@Int.lt_of_lt_of_le
def eO:=@Array.append_assoc
def eP:=@List.getElem_of_mem
def eQ:=@PySem.wpAny_updateSeq_pair
def eR:=@List.map_map
def eT:=@Option.some.injEq
def eU:=@Option.isSome_map
def eV:=@Nat.lt_trans
def eW:=@Int.gcd_dvd_right
def eX:=@PySem.F.excBase_ValueError
def eY:=@PySem.Calls.evalArgs_plain
def eZ:=@Bool.not_eq_true'
def fe:=@PyProof.Rows.toString_length_le
def ff:=@Option.getD_none
def fh:=@PySem.wpAny_onRaise
def fj:=@PySem.typeIs_str
def fm:=@Nat.min_eq_left
def fo:=@List.dropLast_concat_getLast
def fq:=@PySem.F.args_str_split_2
def ft:=@List.map_set
def fu:=@Nat.isDigit_of_mem_toDigits
def fv:=@PySem.wpAny_Call_ofName
def fz:=@Option.map_map
def fA:=@PySem.F.entry_str_split
def fB:=@List.take_append_drop
def fC:=@PySem.plainObj_wpAny_Assign_Attribute
def fD:=@List.perm_append_comm
def fE:=@List.getElem?_eq_none
def fF:=@Nat.eq_of_mul_eq_mul_left
def fG:=@List.pairwise_iff_getElem
def fH:=@List.mem_or_eq_of_mem_set
def fI:=@Classical.byContradiction
def fJ:=@Array.getElem?_eq_getElem
def fK:=@PySem.wpAny_execs_cons
def fM:=@PySem.wpAny_Try_except
def fN:=@List.getLast_mem
def fO:=@PySem.W.any_some
def fP:=@PySem.SeqAt.RcAt.lists
def fQ:=@PySem.F.type_list_extend
def fR:=@PySem.F.slot_list_extend
def fS:=@PyProof.Rows.digit_range
def fT:=@Nat.add_assoc
def fU:=@Bool.not_true
def fV:=@Bool.and_true
def fW:=@PySem.Around.in1_units
def fX:=@PySem.wpAny_letGo
def fY:=@PySem.seqIndex_of
def fZ:=@PySem.F.type_list_index
def f9:=@List.getElem?_replicate
def gb:=@Int.eq_ofNat_of_zero_le
def gc:=@PySem.W.cellsFrom_some
def gd:=@PyProof.noPylong_small
def gf:=@List.pairwise_lt_range
def gi:=@List.append_eq_nil_iff
def gj:=@List.Perm.append_right
def gk:=@Int.le_trans
def gm:=@PySem.F.args_tuple_iterator_next_1
def gr:=@List.range_succ
def gu:=@List.length_zipWith
def gv:=@List.forIn_cons
def gx:=@List.flatMap_append
def gy:=@List.filterMap_cons
def gz:=@List.any_cons
def gA:=@PySem.W.KIN.signs_num
def gC:=@List.countP_le_length
def gF:=@PySem.F.entry_tuple_iterator_next
def gG:=@PySem.wpAny_loadPart
def gH:=@Nat.pow_lt_pow_right
def gI:=@Nat.pow_le_pow_right
def gJ:=@Nat.log2_lt
def gM:=@List.length_dropLast
def gN:=@Decidable.of_not_not
def gP:=@PySem.Calls.Name_function_global
def gQ:=@Bool.or_eq_false_iff
def gS:=@PySem.intBits_le_64
def gU:=@PySem.W.pyHash_slot
def gW:=@PySem.W.findObj_own
def gX:=@PySem.W.callWith_K0
def gY:=@List.toList_toArray
def gZ:=@PySem.wpAny_comprehension_free
def hJ:=@PySem.wpAny_attempt
def hW:=@List.take_succ
def hX:=@PySem.SeqAt.RcAt.lists_lengths
def hZ:=@PySem.W.tail_of_in
def ia:=@PySem.W.method_cls
def ib:=@PySem.W.looks_find
def ic:=@PySem.W.isNs_of_in
def ie:=@List.mem_filterMap
def ig:=@Array.forIn_toList
def ik:=@Array.find?_toList
abbrev A0:=PySem.W.Frag
abbrev A1:=List (Int × Int)
abbrev A2:=List (PySem.Addr × PySem.Obj)
abbrev A3:=PySem.Value->PySem.Shared->Prop
abbrev A4:=PySem.Str->Option PySem.Value
abbrev A5:=PySem.Addr->Prop
abbrev A6:=List Int
abbrev A7:=List PySem.Value
abbrev A8:=List PySem.Str
abbrev A9:=Option Int
abbrev Aa:=Option PySem.Addr
abbrev Ab:=List PySem.Addr
abbrev Ac:=Array PySem.Value
abbrev Ae:=Array (Option PySem.Value)
abbrev Af:=PySem.Program
abbrev Ag:=Unit->PySem.Shared->Prop
abbrev Ah:=Option PySem.Value
abbrev Ai:=List Bool
abbrev Aj:=List Nat
abbrev Ak:=Option Nat × Option Nat × Nat
abbrev Al:=PySem.Value->PySem.Value->PySem.Sem PySem.Value
abbrev Am:=PySem.Value
abbrev An:=PySem.Shared
abbrev Ao:=PySem.Around
def rcp:Nat->Lean.TSyntax `term->Lean.MacroM (Lean.TSyntax `rcasesPat)
 |0,_=>Lean.Macro.throwUnsupported
 |n+1,t=>match t with
  |`(_)=>`(rcasesPat| _)
  |`($x:ident)=>`(rcasesPat| $x:ident)
  |`(⟨$s,*⟩)=>do let p<-s.getElems.mapM (rcp n);`(rcasesPat| ⟨$[$p],*⟩)
  |_=>Lean.Macro.throwUnsupported
local macro_rules(kind:=Lean.Parser.Tactic.tacticLet__)|x=>do
 let d:=x[2][0]
 if d.getKind !=``Lean.Parser.Term.letPatDecl then Lean.Macro.throwUnsupported
 let p<-rcp 9 ⟨d[0]⟩
 let e:Lean.TSyntax `term:=⟨d[4]⟩
 if d[2].getNumArgs==0 then `(tactic| obtain $p:rcasesPat := $e) else
  let t:Lean.TSyntax `term:=⟨d[2][0][1]⟩
  `(tactic| obtain $p:rcasesPat : $t := $e)
namespace L2
open PySem PySem.Spec PyProof.Rows
variable{A:Ao}{s:An}{K:A0}{p8:A2}{w:World}{P:Af}{E Q:A3}{u:Am}{x:Str}{us:A7}{k t' i:Nat}{b C:Addr}{M:Model}{mg:A4}{base:Heap}{pos:Pos}{op:CmpOp}{f:Al}{tg:Expr}{fd:FuncData}
abbrev Key:=Sum Int Str
noncomputable def ziS:Key->Value->Bool
 | .inl k,v=>Value.isInt k v
 | .inr x,v=>Value.isStrOf x v
noncomputable def zk5(w:World):Key->Int
 | .inl k=>hashInt k
 | .inr x=>hashStr w x
theorem qK:∀{k:Key}{v:Am},ziS k v=true->(∃i t,k=Sum.inl i/\v=Value.int i t)\/(∃x t,k=Sum.inr x/\v=Value.str x t)
 | .inl i,v,h=>by
  let⟨t,e⟩:=Value.isInt_shape (k:=i) (v:=v) h;exact .inl ⟨i,t,rfl,e⟩
 | .inr x,v,h=>by
  let⟨t,e⟩:=Value.isStrOf_shape (x:=x) (v:=v) h;exact .inr ⟨x,t,rfl,e⟩
def zjL(a b:Int):decide ((Sum.inl a:Key)=Sum.inl b)=(a == b):=by
 by_cases e:a=b
 .subst e;simp
 .have h:¬(Sum.inl a:Key)=Sum.inl b:=λq=>e (Sum.inl.inj q);rw[aR h];exact(a9.mpr e).symm
def zjI(a b:Str):decide ((Sum.inr a:Key)=Sum.inr b)=decide (a=b):=by
 by_cases e:a=b
 .subst e;simp
 .have h:¬(Sum.inr a:Key)=Sum.inr b:=λq=>e (Sum.inr.inj q);rw[aR h,aR e]
def zjK(a:Int)(b:Str):decide ((Sum.inl a:Key)=Sum.inr b)=false:=aR (λq=>nomatch q)
def zjJ(a:Str)(b:Int):decide ((Sum.inr a:Key)=Sum.inl b)=false:=aR (λq=>nomatch q)
noncomputable def zay(prog:Af)(w:World):PySem.KeyKind prog w Key where
 is:=ziS
 hash:=zk5 w
 inj:=λv a b ha hb=>by
  rcases qK ha with⟨i,t,rfl,rfl⟩|⟨x,t,rfl,rfl⟩
  .rcases qK hb with⟨j,u,rfl,e⟩|⟨y,u,rfl,e⟩
   .injection e with e1 _;rw[e1]
   .exact nomatch e
  .rcases qK hb with⟨j,u,rfl,e⟩|⟨y,u,rfl,e⟩
   .exact nomatch e
   .injection e with e1 _;rw[e1]
 byValue:=λk v h=>by
  rcases qK h with⟨i,t,rfl,rfl⟩|⟨x,t,rfl,rfl⟩<;>rfl
 pyHash:=λhv h=>by
  rcases qK hv with⟨i,t,rfl,rfl⟩|⟨x,t,rfl,rfl⟩
  .exact wpAny_pyHash_int h
  .exact wpAny_pyHash_str h
 eqBool:=λhu hv h=>by
  rcases qK hu with⟨i,t,rfl,rfl⟩|⟨x,t,rfl,rfl⟩
  .rcases qK hv with⟨j,u,rfl,rfl⟩|⟨y,u,rfl,rfl⟩
   .rw[zjL]at h;exact wpAny_eqBool_int h
   .rw[zjK]at h;exact SeqAt.EqAt.int_str i t y u _ _ _ _ h
  .rcases qK hv with⟨j,u,rfl,rfl⟩|⟨y,u,rfl,rfl⟩
   .rw[zjJ]at h;exact SeqAt.EqAt.str_int x t j u _ _ _ _ h
   .rw[zjI]at h;exact wpAny_eqBool_str h
 «strs»:=λk x t v h=>by
  rcases qK h with⟨i,u,rfl,e⟩|⟨y,u,rfl,e⟩
  .exact nomatch e
  .injection e with e1 _
   subst e1;cases v<;>rfl
inductive V where
 |non|bl (b:Bool)|int (i:Int)|str (x:Str)|byt (b:Array UInt8)|flt (b:UInt64)|ref (a:Addr)|ty (n:String)
 deriving DecidableEq
abbrev As:=List (List Key×V)
abbrev Ar:=List (Str×V)
abbrev Aq:=Option V
abbrev Ap:=List V
def RelV:V->Value->Prop
 | .non,u=>u=Value.none
 | .bl b,u=>u=Value.bool b
 | .int i,u=>∃t,u=Value.int i t
 | .str x,u=>∃t,u=Value.str x t
 | .byt b,u=>∃t,u=Value.bytes b t
 | .flt b,u=>∃t,u=Value.float b t
 | .ref a,u=>u=Value.ref a
 | .ty n,u=>u=Value.type n
abbrev Vals:List V->List Value->Prop:=Paired RelV
def Vals.length{xs:Ap}(r:Vals xs us):xs.length=us.length:=dq r
theorem Vals.get:∀{xs:Ap}{us:A7}{i:Nat}{x:V},Vals xs us->xs[i]?=some x->∃u,us[i]?=some u/\RelV x u
 |_,_,_,_,.nil,e=>by simp at e
 |_,_,0,_,.cons r _,e=>by simp at e;subst e;exact⟨_,rfl,r⟩
 |_,_,i+1,x,.cons _ t,e=>by
  let⟨u,h1,h2⟩:=Vals.get (i:=i) (x:=x) t (by simpa using e);exact⟨u,by simpa using h1,h2⟩
theorem Vals.set{x:V}{u:Am}(r:RelV x u):∀{xs:Ap}{us:A7}(i:Nat),Vals xs us->Vals (xs.set i x) (us.set i u)
 |_,_,_,.nil=>.nil
 |_,_,0,.cons _ t=>.cons r t
 |_,_,i+1,.cons q t=>.cons q (Vals.set r i t)
theorem Vals.append:∀{xs ys:Ap}{us ws:A7},Vals xs us->Vals ys ws->Vals (xs++ys) (us++ws)
 |_,_,_,_,.nil,s=>s
 |_,_,_,_,.cons r t,s=>.cons r (Vals.append t s)
theorem Vals.take:∀{xs:Ap}{us:A7}(n:Nat),Vals xs us->Vals (xs.take n) (us.take n)
 |_,_,0,_=>.nil
 |_,_,_+1,.nil=>.nil
 |_,_,n+1,.cons r t=>.cons r (Vals.take n t)
theorem Vals.drop:∀{xs:Ap}{us:A7}(n:Nat),Vals xs us->Vals (xs.drop n) (us.drop n)
 |_,_,0,r=>r
 |_,_,_+1,.nil=>.nil
 |_,_,n+1,.cons _ t=>Vals.drop n t
def Vals.none_of:∀{xs:Ap}{us:A7}{i:Nat},Vals xs us->xs[i]?=none->us[i]?=none:=λ{xs us i} r e=>by
 have h1:=r.length;have h2:xs.length<=i:=dF.mp e;exact dF.mpr (by lia)
def RelO:Option V->Option Value->Prop
 |some v,some u=>RelV v u
 |none,none=>True
 |_,_=>False
def KV{κ:Type}:List (κ×V)->List (κ×Value)->Prop:=Paired λ(p:κ×V)(q:κ×Value)=>p.1=q.1/\RelV p.2 q.2
noncomputable def kV:Key->V
 | .inl i=>.int i
 | .inr x=>.str x
inductive HO where
 |lst (xs:Ap)
 |tup (xs:Ap)
 |dK (pW:List (Key×V))|dT (pW:As)
 |set (S:Int->Bool) (n:Nat)
 |ins (C dx:Addr) (fs:Ar)
 |own (x:Addr)
 |xd (fs:Ar)
 |met (f x:Addr)
 |rng (lo hi:Int)
 |frz (o:Obj) (u:HO)
 |tbl (ps:Ac)
 |ext (φ:Heap->Prop)
variable{o:HO}
abbrev Hp:=Addr->Option HO
variable{H:Hp}
noncomputable def upd(H:Hp)(a:Addr)(o:HO):Hp:=λb=>if b=a then some o else H b
def upd_same{a:Addr}:upd H a o a=some o:=by unfold upd;rw[aq rfl]
def rh:=@upd_same
def upd_ne{a b:Addr}(h:b≠a):upd H a o b=H b:=by unfold upd;rw[am h]
def rj:=@upd_ne
def ZR{a:Addr}{o u:HO}:upd (upd H a o) a u=upd H a u:=by
 funext b;unfold upd;split<;>rfl
def Q2{a b:Addr}{o u:HO}(h:H a=some o)(h':H b=some u)(d:o≠u):a≠b:=by
 intro e;subst e;rw[h]at h';exact d (aO h')
def ne_of_none{a b:Addr}(h:H a=some o)(h':H b=none):a≠b:=by
 intro e;subst e;rw[h]at h';cases h'
def rn:=@ne_of_none
section
variable(P:Af)(w:World)
def ObjOk(H:Hp)(h:Heap)(a:Addr):HO->Prop
 | .lst xs=>xs.length<=sizeLine/\∃(pS:A7)(n:Nat),Vals xs pS/\h.get? a=some {cls:=.type "list",data:=.seq pS.toArray n}
 | .tup xs=>xs.length<=sizeLine/\∃pS:List Value,Vals xs pS/\IsTup h a pS.toArray
 | .dK pW=>pW.length<=sizeLine/\(a == sysModules)=false/\∃vs,KV pW vs/\h.DictOf (zay P w) a vs
 | .dT pW=>pW.length<=sizeLine/\(a == sysModules)=false/\∃xs:List (List Key×Addr×Value),
   Paired (λ(p:List Key×V)(q:List Key×Addr×Value)=>p.1=q.1/\H q.2.1=some (.tup (p.1.map kV))/\RelV p.2 q.2.2) pW xs /\
   ∃o es ep,h.get? a=some o/\o.ExactDict/\o.data=.dict es ep/\es.toList=xs.map (entryOfKey (tupleKind (zay P w)))/\(xs.map (·.1)).Nodup
 | .set S n=>h.SetOf (intKind P w) a S n
 | .ins C dx fs=>H dx=some (.own a)/\fs.length<=1000/\dx≠a/\h.get? a=some (instObj C dx) /\
   ∃mA,h.Ns1 dx mA/\(∀f,RelO (fs.lookup f) (mA f))/\PySem.Within mA (fs.map (·.1))
 | .own _=>∃o,h.get? a=some o
 | .xd fs=>∃mA,h.Ns1 a mA/\∀f,RelO (fs.lookup f) (mA f)
 | .rng lo hi=>∃t u v,h.get? a=some {cls:=.type "range",data:=.fields #[.int lo t,.int hi u,.int 1 v]}
 | .frz o u=>h.get? a=some o/\ObjOk H h a u
 | .tbl ps=>h.get? a=some {cls:=.none,data:=.fields ps}
 | .met f x=>h.get? a=some (methodObj (.ref f) (.ref x))
 | .ext φ=>φ h/\(∃o,h.get? a=some o)/\∀h1 h2:Heap,φ h1->(∀o,h1.get? a=some o->h2.get? a=some o)->φ h2
def HOk(H:Hp)(h:Heap):Prop:=∀a o,H a=some o->ObjOk P w H h a o
end
section
variable{P:Af}{w:World}{H H':Hp}{h h':Heap}{a:Addr}{o:HO}
def ObjOk.lt(x:ObjOk P w H h a o):a<h.objs.size:=by
 cases o with
 |lst xs=>let⟨_,_,_,_,e⟩:=x;exact az e
 |tup xs=>let⟨_,_,_,p⟩:=x;exact p.lt
 |dK pW=>let⟨_,_,_,_,o,_,_,e,_⟩:=x;exact az e
 |dT pW=>let⟨_,_,_,_,o,_,_,e,_⟩:=x;exact az e
 |set S n=>let⟨o,_,_,_,e,_⟩:=x;exact az e
 |ins C dx fs=>let⟨_,_,_,e,_⟩:=x;exact az e
 |own y=>let⟨_,e⟩:=x;exact az e
 |xd fs=>let⟨_,⟨_,_,_,e,_⟩,_⟩:=x;exact az e
 |rng lo hi=>let⟨_,_,_,e⟩:=x;exact az e
 |frz ob u=>let⟨e,_⟩:=x;exact az e
 |tbl ps=>exact az (show h.get? a=some _ from x)
 |met f y=>exact az (show h.get? a=some _ from x)
 |ext φ=>let⟨_,⟨_,e⟩,_⟩:=x;exact az e
theorem Paired.mapP{α β:Type}{F G:α->β->Prop}:∀{l₁:List α}{l₂:List β},Paired F l₁ l₂->(∀a b,F a b->G a b)->Paired G l₁ l₂
 |_,_,.nil,_=>.nil
 |_,_,.cons r t,f=>.cons (f _ _ r) (Paired.mapP t f)
theorem ObjOk.stay(x:ObjOk P w H h a o)(k:∀b u,(b=a\/H b=some (.own a))->h.get? b=some u->h'.get? b=some u)(ho:∀b,H b=some (.own a)->H' b=some (.own a))(ht:∀b xs,H b=some (.tup xs)->H' b=some (.tup xs)):ObjOk P w H' h' a o:=by
 induction o with
 |lst xs=>let⟨z,pS,n,r,e⟩:=x;exact⟨z,pS,n,r,k _ _ (.inl rfl) e⟩
 |tup xs=>let⟨z,pS,r,ob,e,c⟩:=x;exact⟨z,pS,r,ob,k _ _ (.inl rfl) e,c⟩
 |dK pW=>let⟨z,y,vs,r,ob,es,ep,e,c⟩:=x;exact⟨z,y,vs,r,ob,es,ep,k _ _ (.inl rfl) e,c⟩
 |dT pW =>
  let⟨z,y,xs,r,ob,es,ep,e,c⟩:=x;exact⟨z,y,xs,Paired.mapP r λp q z=>⟨z.1,ht _ _ z.2.1,z.2.2⟩,ob,es,ep,k _ _ (.inl rfl) e,c⟩
 |set S n=>let⟨ob,es,ep,t,e,c⟩:=x;exact⟨ob,es,ep,t,k _ _ (.inl rfl) e,c⟩
 |ins C dx fs =>
  let⟨d,z,ne,e,mA,⟨od,es,ep,e2,c⟩,r⟩:=x;exact⟨ho _ d,z,ne,k _ _ (.inl rfl) e,mA,⟨od,es,ep,k _ _ (.inr d) e2,c⟩,r⟩
 |own y=>let⟨ob,e⟩:=x;exact⟨ob,k _ _ (.inl rfl) e⟩
 |xd fs=>let⟨mA,⟨od,es,ep,e,c⟩,r⟩:=x;exact⟨mA,⟨od,es,ep,k _ _ (.inl rfl) e,c⟩,r⟩
 |rng lo hi=>let⟨t,u,v,e⟩:=x;exact⟨t,u,v,k _ _ (.inl rfl) e⟩
 |frz ob u ih=>let⟨e,q⟩:=x;exact⟨k _ _ (.inl rfl) e,ih q⟩
 |tbl ps =>
  have e:h.get? a=some {cls:=.none,data:=.fields ps}:=x;show h'.get? a=some {cls:=.none,data:=.fields ps}
  exact k a _ (.inl rfl) e
 |met f y =>
  have e:h.get? a=some (methodObj (.ref f) (.ref y)):=x;show h'.get? a=some (methodObj (.ref f) (.ref y))
  exact k a _ (.inl rfl) e
 |ext φ=>let⟨p,⟨o,e⟩,st⟩:=x;exact⟨st _ _ p λo q=>k _ _ (.inl rfl) q,⟨o,k _ _ (.inl rfl) e⟩,st⟩
def HOk.lt(x:HOk P w H h)(e:H a=some o):a<h.objs.size:=(x a o e).lt
def HOk.fresh(x:HOk P w H h)(e:h.objs.size<=a):H a=none:=by
 cases q:H a with
 |none=>rfl
 |some u=>exact absurd (aH (x.lt q) e) (cn _)
def HOk.kept(x:HOk P w H h)(k:∀b u,h.get? b=some u->h'.get? b=some u):HOk P w H h':=λa o e =>
 (x a o e).stay (λb u _ q=>k b u q) (λ_ q=>q) λ_ _ q=>q
def HOk.laid(x:HOk P w H h)(k:∀b u,h.get? b=some u->h'.get? b=some u)(hp:h.objs.size<=a)(new:ObjOk P w (upd H a o) h' a o):HOk P w (upd H a o) h':=λb u e=>by
 have hn:=x.fresh hp;by_cases hb:b=a
 .subst hb;rw[rh]at e;cases e;exact new
 .rw[rj hb]at e;exact(x b u e).stay (λc v _ q=>k c v q) (λc q=>by rw[rj (rn q hn)];exact q) λc xs q=>by rw[rj (rn q hn)];exact q
end
def Rd(H:Hp)(a:Addr)(u:HO):Prop:=H a=some u\/∃o,H a=some (.frz o u)
def Rd.of{a:Addr}{u:HO}(h:H a=some u):Rd H a u:=.inl h
def Rd.ok{h:Heap}{a:Addr}{u:HO}(r:Rd H a u)(x:HOk P w H h):ObjOk P w H h a u:=by
 rcases r with r|⟨o,r⟩
 .exact x a u r
 .obtain⟨_,q⟩:=x a _ r;exact q
def Mut:Option HO->Prop
 |some (.lst _)=>True
 |some (.dK _)=>True
 |some (.dT _)=>True
 |some (.set _ _)=>True
 |some (.ins _ _ _)=>True
 |some (.ext _)=>True
 |_=>False
section
variable{P:Af}{w:World}{H:Hp}{h h':Heap}{x e:Addr}{o':HO}
def HOk.write(ok:HOk P w H h)(mu:Mut (H x))(he:e=x\/H e=some (.own x))(k:∀b u,b≠e->h.get? b=some u->h'.get? b=some u)(heo:∃u,h'.get? e=some u)(new:ObjOk P w (upd H x o') h' x o'):HOk P w (upd H x o') h':=λb u q=>by
 have nown:∀c y,H c=some (.own y)->c≠x:=λc y r z=>by subst z;rw[r]at mu;exact mu
 have ntup:∀c xs,H c=some (.tup xs)->c≠x:=λc xs r z=>by subst z;rw[r]at mu;exact mu
 by_cases hb:b=x
 .subst hb;rw[rh]at q;cases q;exact new
 .rw[rj hb]at q;by_cases hbe:b=e
  .have q':H b=some (.own x):=by
    rcases he with z|z
    .exact absurd (hbe.trans z) hb
    .rw[hbe];exact z
   rw[q]at q';cases q';let⟨v,hv⟩:=heo;exact⟨v,by rw[hbe];exact hv⟩
  .refine(ok b u q).stay (λc v hc r=>k c v ?_ r) (λc r=>by rw[rj (nown c b r)];exact r) λc xs r=>by rw[rj (ntup c xs r)];exact r
   rcases hc with rfl|hc
   .exact hbe
   .rintro rfl;rcases he with z|z
    .exact nown c b hc z
    .rw[hc]at z;cases z;exact hb rfl
end
structure Un(fs ex:Ab)(H H':Hp)(h h':Heap):Prop where
 keep:∀b o,h.get? b=some o->H b=none->b∉fs->b∉ex->h'.get? b=some o
 slot:∀b o,h.get? b=some o->H b=none->b∈fs->b∉ex->∃sl,h'.get? b=some {o with slots:=sl}
 free:∀b o,h.get? b=some o->H b=none->b∉ex->H' b=none
 there:∀b o,h.get? b=some o->b∉ex->∃o',h'.get? b=some o'
 tups:∀b xs,H b=some (.tup xs)->H' b=some (.tup xs)
 frzs:∀b o u,H b=some (.frz o u)->H' b=some (.frz o u)
 tbls:∀b ps,H b=some (.tbl ps)->∃more,H' b=some (.tbl (ps++more))
section
variable{fs fs' ex ex':Ab}{H H1 H2:Hp}{h h1 h2 h':Heap}{a x e:Addr}{o:HO}
def Un.any(u:Un fs ex H H1 h h1){ob:Obj}(q:h.get? b=some ob)(n:H b=none)(hx:b∉ex):∃sl,h1.get? b=some {ob with slots:=sl}:=by
 by_cases hb:b∈fs
 .exact u.slot b ob q n hb hx
 .exact⟨ob.slots,u.keep b ob q n hb hx⟩
def Un.trans(a:Un fs ex H H1 h h1)(b:Un fs ex H1 H2 h1 h2):Un fs ex H H2 h h2 where
 keep:=λc ob q n hc hx=>b.keep c ob (a.keep c ob q n hc hx) (a.free c ob q n hx) hc hx
 slot:=λc ob q n hc hx=>by
  let⟨sl,e1⟩:=a.slot c ob q n hc hx;let⟨sl',e2⟩:=b.slot c _ e1 (a.free c ob q n hx) hc hx;exact⟨sl',e2⟩
 free:=λc ob q n hx=>by
  let⟨o',e1⟩:=a.there c ob q hx;exact b.free c o' e1 (a.free c ob q n hx) hx
 there:=λc ob q hx=>by
  let⟨o',e1⟩:=a.there c ob q hx;exact b.there c o' e1 hx
 tups:=λc xs q=>b.tups c xs (a.tups c xs q)
 frzs:=λc ob xs q=>b.frzs c ob xs (a.frzs c ob xs q)
 tbls:=λc ps q=>by
  let⟨m1,e1⟩:=a.tbls c ps q;let⟨m2,e2⟩:=b.tbls c _ e1;exact⟨m1++m2,by rw[e2,eO]⟩
def Un.kept(k:∀b u,h.get? b=some u->h'.get? b=some u):Un fs ex H H h h' :=
 ⟨λb ob q _ _ _=>k b ob q,λb ob q _ _ _=>⟨ob.slots,k b ob q⟩,λ_ _ _ n _=>n,λb ob q _=>⟨ob,k b ob q⟩,λ_ _ q=>q,λ_ _ _ q=>q,λ_ ps q=>⟨#[],by rw[q];simp⟩⟩
def Un.refl:Un fs ex H H h h:=Un.kept λ_ _ q=>q
def Un.laid(k:∀b u,h.get? b=some u->h'.get? b=some u)(hp:h.objs.size<=a)(hn:H a=none):Un fs ex H (upd H a o) h h' where
 keep:=λb u q _ _ _=>k b u q
 slot:=λb u q _ _ _=>⟨u.slots,k b u q⟩
 free:=λb u q n _=>by rw[rj (aN (aH (az q) hp))];exact n
 there:=λb u q _=>⟨u,k b u q⟩
 tups:=λb xs q=>by rw[rj (rn q hn)];exact q
 frzs:=λb u xs q=>by rw[rj (rn q hn)];exact q
 tbls:=λb ps q=>⟨#[],by rw[rj (rn q hn),q];simp⟩
def Un.write(mu:Mut (H x))(he:e=x\/H e=some (.own x))(k:∀b u,b≠e->h.get? b=some u->h'.get? b=some u)(heo:∃u,h'.get? e=some u):Un fs ex H (upd H x o) h h':=by
 have hx:∀b,H b=none->b≠x:=λb n z=>by subst z;rw[n]at mu;exact mu
 have hb:∀b,H b=none->b≠e:=λb n z=>by
  subst z;rcases he with r|r
  .exact hx b n r
  .rw[n]at r;cases r
 have hm:∀b u,H b=some u->¬Mut (some u)->b≠x:=λb u q nm z=>by subst z;rw[q]at mu;exact nm mu
 refine⟨λb u q n _ _=>k b u (hb b n) q,λb u q n _ _=>⟨u.slots,k b u (hb b n) q⟩,λb u q n _=>by rw[rj (hx b n)];exact n,λb u q _=>?_,
  λb xs q=>by rw[rj (hm b _ q λz=>z)];exact q,λb u xs q=>by rw[rj (hm b _ q λz=>z)];exact q,λb ps q=>⟨#[],by rw[rj (hm b _ q λz=>z),q];simp⟩⟩
 by_cases hbe:b=e
 .subst hbe;exact heo
 .exact⟨u,k b u hbe q⟩
def Un.mono(u:Un fs ex H H1 h h1)(hs:∀b∈fs,b∈fs')(hx:∀b∈ex,b∈ex'):Un fs' ex' H H1 h h1 :=
 ⟨λb ob q n hb he=>u.keep b ob q n (λz=>hb (hs b z)) λz=>he (hx b z),λ_ _ q n _ he=>u.any q n λz=>he (hx _ z),λb ob q n he=>u.free b ob q n λz=>he (hx b z),λb ob q he=>u.there b ob q λz=>he (hx b z),u.tups,u.frzs,u.tbls⟩
end
noncomputable def trk(h:Heap)(H:Hp):List Addr:=(List.range h.objs.size).filter λa=>(H a).isSome
noncomputable def zaF(h:Heap)(H:Hp):Heap:=PySem.W.hideAll h (trk h H)
def zfi(h:Heap)(H:Hp):(zaF h H).objs.size=h.objs.size:=PySem.W.hideAll_size _ _
def zgW{h:Heap}{o:Obj}(e:h.get? b=some o)(n:H b=none):(zaF h H).get? b=some o :=
 PySem.W.hideAll_get _ e λhm=>by
  have q:(H b).isSome=true:=(cJ.mp hm).2;rw[n]at q;simp at q
def zh3{h:Heap}{o:Obj}(e:(zaF h H).get? b=some o):h.get? b=some o/\H b=none:=by
 have e':h.get? b=some o:=PySem.W.of_hideAll (trk h H) e;refine⟨e',?_⟩;cases q:H b with
 |none=>rfl
 |some x =>
  have hm:b∈trk h H:=cJ.mpr ⟨br.mpr (az e'),by simp[q]⟩;have z:(zaF h H).get? b=none:=PySem.W.hideAll_none (trk h H) hm;rw[z]at e;cases e
noncomputable def zix(g h:Heap)(L:Addr):List (Addr×Obj):=(List.range h.objs.size).filterMap λa=>if a=L\/(g.get? a).isSome=true then none else(h.get? a).map λo=>(a,o)
noncomputable def rest(g h:Heap)(L d:Addr):List (Addr×Obj):=(zix g h L).filter λp=>decide (p.1≠d)
structure Mod(K:A0)(mg:A4)(base:Heap):Prop where
 kin:K.In base
 glob:base.Ns mainGlobals mg
 blt:∃mb,base.Ns builtinsNs mb/\∀x:Str,x≠"__name__"->mb x=bootBuiltins x
 nolimit:base.NoLimit
structure Cx where
 prog:Program
 w:World
 K:PySem.W.Frag
 mg:Str->Option Value
 base:Heap
 A:Around
 N:List Str
 s₀:Shared
 H₀:Hp
 env:Env
 outer:List Env
 stack:List Env
 ex:List Addr
 fn:Str->Bool
 calm:Bool
 pn:List (Addr×Obj)
 xe:Value->Shared->Prop
variable{X:Cx}
noncomputable def frs(l:List Env):List Addr:=l.filterMap (·.frame)
noncomputable abbrev Cx.fs(X:Cx):List Addr:=frs X.outer
def Vis(sc:Scope)(x:Str):Prop:=sc.names.lookup x=some .local\/sc.names.lookup x=some .cell\/sc.names.lookup x=some .free
def Loc(sc:Scope)(x:Str):Prop:=sc.names.lookup x=some .local\/sc.names.lookup x=some .cell
def zla(env:Env)(h:Heap)(m:A4)(x:Str)(u:Am):Prop :=
 (env.kindOf x=some .local/\m x=some u)\/((env.kindOf x=some .cell\/env.kindOf x=some .free)/\∃c,env.cells.lookup x=some c/\h.IsCell c (some u))
structure Cx.Ok(X:Cx):Prop where
 mod:Mod X.K X.mg X.base
 kind:X.env.scope.kind=.function
 glob:X.env.globals=mainGlobals
 blt:X.env.builtins=builtinsNs
 above:X.s₀.heap.objs.size<=X.env.locals
 inj:∀x y c,X.env.cells.lookup x=some c->X.env.cells.lookup y=some c->x=y
 has:∀x,(X.env.kindOf x=some .cell\/X.env.kindOf x=some .free)->∃c,X.env.cells.lookup x=some c
 cab:∀x c,X.fn x=true->X.env.cells.lookup x=some c->X.s₀.heap.objs.size<=c
 hd:X.calm=true->X.A.handled=none
 frames:X.A.frames=some X.stack
 stk:X.stack=X.outer\/(X.stack=X.env::X.outer/\X.env.frame=some X.env.locals)
 exf:∀b∈X.ex,b≠X.env.locals/\∀x c,X.env.cells.lookup x=some c->c≠b
 bs:∀b o,X.base.get? b=some o->X.s₀.heap.get? b=some o/\X.H₀ b=none
 bsz:X.base.objs.size<=X.s₀.heap.objs.size
 noex:∀b o,X.base.get? b=some o->b∉X.ex
 exfs:∀b∈X.ex,b∉X.fs
 funs:X.s₀.heap.FunFrames X.base X.outer
 frf:∀b∈X.fs,X.H₀ b=none
structure Inv(X:Cx)(p8:A2)(σ:List Aq)(H:Hp)(s:An):Prop where
 ok:X.Ok
 os:s.os=X.s₀.os
 bare:AllBare s.gens
 base:Un X.fs X.ex X.H₀ H X.s₀.heap s.heap
 loc:∃m,s.heap.Ns X.env.locals m/\∀(i:Nat)(x:Str)(v:V),X.N[i]?=some x->σ[i]?=some (some v)->Vis X.env.scope x->∃u,RelV v u/\zla X.env s.heap m x u
 cell:∀x c,X.env.cells.lookup x=some c->∃v,s.heap.IsCell c v
 free:H X.env.locals=none
 freeC:∀x c,X.env.cells.lookup x=some c->H c=none
 pin:∀p∈X.pn++p8,s.heap.get? p.1=some p.2/\H p.1=none/\p.1≠X.env.locals/\p.1∉X.fs/\∀v,p.2.data≠.cell v
 hok:HOk X.prog X.w H s.heap
 len:σ.length=X.N.length
section
variable{X:Cx}{p8:A2}{σ:List Aq}{H H':Hp}{s:An}{h':Heap}
def Cx.Ok.nofr(ok:X.Ok){o:Obj}(e:X.base.get? b=some o):b∉X.fs:=λhb=>by
 have:=(ok.funs.mem hb).1;rw[e]at this;cases this
def Inv.bs(I:Inv X p8 σ H s):∀b o,X.base.get? b=some o->s.heap.get? b=some o/\H b=none:=λb o e =>
 ⟨I.base.keep b o (I.ok.bs b o e).1 (I.ok.bs b o e).2 (I.ok.nofr e) (I.ok.noex b o e),I.base.free b o (I.ok.bs b o e).1 (I.ok.bs b o e).2 (I.ok.noex b o e)⟩
def Inv.bk(I:Inv X p8 σ H s):∀b o,X.base.get? b=some o->s.heap.get? b=some o:=λb o e=>(I.bs b o e).1
def Inv.mod(I:Inv X p8 σ H s):Mod X.K X.mg X.base:=I.ok.mod
def Inv.kIn(I:Inv X p8 σ H s):X.K.In s.heap:=I.ok.mod.kin.keeps I.bk
def Inv.nolimit(I:Inv X p8 σ H s):s.heap.NoLimit:=I.ok.mod.nolimit.keeps I.bk
def Inv.fr(I:Inv X p8 σ H s):∃m,Fr X.base X.env.locals s.heap m :=
 let⟨m,hn,_⟩:=I.loc
 ⟨m,hn,I.bk,aJ I.ok.bsz I.ok.above⟩
def Inv.lt(I:Inv X p8 σ H s):X.env.locals<s.heap.objs.size:=by
 let⟨_,hn,_⟩:=I.loc;exact hn.lt
def Inv.sz(I:Inv X p8 σ H s):X.s₀.heap.objs.size<=s.heap.objs.size:=aJ I.ok.above (b7 I.lt)
def Inv.nofs(I:Inv X p8 σ H s){a:Addr}(h:s.heap.objs.size<=a):a∉X.fs:=λhb=>by
 let⟨_,o,ho,_⟩:=I.ok.funs.mem hb;exact absurd (aH (az ho) (aJ I.sz h)) (cn _)
def Inv.cne(I:Inv X p8 σ H s):∀x c,X.env.cells.lookup x=some c->c≠X.env.locals:=λx c e z=>by
 let⟨v,o,ho,hd⟩:=I.cell x c e;let⟨m,⟨o',es,ep,ho',hd',_⟩,_⟩:=I.loc;rw[z,ho']at ho;cases ho;rw[hd']at hd;cases hd
def Inv.funs(I:Inv X p8 σ H s):s.heap.FunFrames X.base X.outer:=by
 have all:∀(l:List Env),(∀b∈frs l,b∈X.fs)->X.s₀.heap.FunFrames X.base l->s.heap.FunFrames X.base l:=by
  intro l
  induction l with
  |nil=>intro _ _;trivial
  |cons env r ih =>
   intro hs hl;let⟨hk,⟨L,o,hf,hn,ho,hd⟩,hr⟩:=hl;have hL:L∈X.fs:=hs L (by unfold frs;rw[gy,hf];exact a7);let⟨sl,e⟩:=I.base.slot L o ho (I.ok.frf L hL) hL λz=>I.ok.exfs L z hL;exact⟨hk,⟨L,_,hf,hn,e,hd⟩,ih (λb hb=>hs b (by unfold frs;rw[gy,hf];exact aA _ hb)) hr⟩
 exact all X.outer (λ_ hb=>hb) I.ok.funs
def Inv.stack(I:Inv X p8 σ H s):s.heap.FunFrames X.base X.stack:=by
 rcases I.ok.stk with e|⟨e,hf⟩
 .rw[e];exact I.funs
 .rw[e];let⟨m,hn,_⟩:=I.loc;refine .cons (by rw[I.ok.kind];decide) hf hn ?_ I.funs;exact dC (aJ I.ok.bsz I.ok.above)
def Inv.stkSub(I:Inv X p8 σ H s):∀b∈frs X.stack,b∈X.env.locals::X.fs:=λb hb=>by
 rcases I.ok.stk with e|⟨e,hf⟩
 .rw[e]at hb;exact aA _ hb
 .rw[e]at hb;unfold frs at hb;rw[gy,hf]at hb;exact hb
def Inv.stkFree(I:Inv X p8 σ H s):∀b∈frs X.stack,H b=none:=λb hb=>by
 rcases au.mp (I.stkSub b hb)with e|hb
 .rw[e];exact I.free
 .obtain⟨_,o,ho,_⟩:=I.ok.funs.mem hb;exact I.base.free b o ho (I.ok.frf b hb) λz=>I.ok.exfs b z hb
def Inv.step{g':Array GenState}{d':Drawn}{ch:Ab}(I:Inv X p8 σ H s)(hch:∀b∈ch,(b∈X.ex\/X.s₀.heap.objs.size<=b)/\b≠X.env.locals/\(∀x c,X.env.cells.lookup x=some c->c≠b)/\∀p∈X.pn++p8,p.1≠b)(keep:∀b o,b≠X.env.locals->b∉X.fs->b∉ch->s.heap.get? b=some o->H b=none->h'.get? b=some o)(slot:∀b o,b≠X.env.locals->b∈X.fs->b∉ch->s.heap.get? b=some o->H b=none->∃sl,h'.get? b=some {o with slots:=sl})(free:∀b o,b∉ch->s.heap.get? b=some o->H b=none->H' b=none)(there:∀b o,b∉ch->s.heap.get? b=some o->∃o',h'.get? b=some o')(tups:∀b xs,H b=some (.tup xs)->H' b=some (.tup xs))(frzs:∀b o u,H b=some (.frz o u)->H' b=some (.frz o u))(tbls:∀b ps,H b=some (.tbl ps)->∃more,H' b=some (.tbl (ps++more)))(ns:∀m,s.heap.Ns X.env.locals m->h'.Ns X.env.locals m)(hok:HOk X.prog X.w H' h')(hg:AllBare g') :
  Inv X p8 σ H' {s with heap:=h',gens:=g',drawn:=d',toks:=t'}:=by
 have neL:∀b o,X.s₀.heap.get? b=some o->b≠X.env.locals:=λb o e=>aN (aH (az e) I.ok.above);have neC:∀b o,X.s₀.heap.get? b=some o->b∉X.ex->b∉ch:=λb o e hx hb=>by
  rcases(hch b hb).1 with z|z
  .exact hx z
  .exact absurd (aH (az e) z) (cn _)
 have cellK:∀x c,X.env.cells.lookup x=some c->∀v,s.heap.IsCell c v->h'.IsCell c v:=λx c e v ⟨o,ho,hd⟩=>by
  have nch:c∉ch:=λz=>(hch c z).2.2.1 x c e rfl;by_cases hc:c∈X.fs
  .obtain⟨sl,q⟩:=slot c o (I.cne x c e) hc nch ho (I.freeC x c e);exact⟨_,q,hd⟩
  .exact⟨o,keep c o (I.cne x c e) hc nch ho (I.freeC x c e),hd⟩
 refine⟨I.ok,I.os,hg,⟨λb o e n hb hx=>?_,λb o e n hb hx=>?_,λb o e n hx=>?_,λb o e hx=>?_,λb xs e=>tups b xs (I.base.tups b xs e),λb o xs e=>frzs b o xs (I.base.frzs b o xs e),λb ps e=>?_⟩,?_,λx c e=>?_,?_,λx c e=>?_,λp hp=>?_,hok,I.len⟩
 .exact keep b o (neL b o e) hb (neC b o e hx) (I.base.keep b o e n hb hx) (I.base.free b o e n hx)
 .obtain⟨sl,e1⟩:=I.base.slot b o e n hb hx;let⟨sl',e2⟩:=slot b _ (neL b o e) hb (neC b o e hx) e1 (I.base.free b o e n hx);exact⟨sl',e2⟩
 .obtain⟨o',e1⟩:=I.base.there b o e hx;exact free b o' (neC b o e hx) e1 (I.base.free b o e n hx)
 .obtain⟨o',e1⟩:=I.base.there b o e hx;exact there b o' (neC b o e hx) e1
 .obtain⟨m1,e1⟩:=I.base.tbls b ps e;let⟨m2,e2⟩:=tbls b _ e1;exact⟨m1++m2,by rw[e2,eO]⟩
 .obtain⟨m,hn,hl⟩:=I.loc;refine⟨m,ns m hn,λi x v e1 e2 e3=>?_⟩;let⟨u,r,l⟩:=hl i x v e1 e2 e3;refine⟨u,r,?_⟩;rcases l with l|⟨k,c,e,z⟩
  .exact .inl l
  .exact .inr ⟨k,c,e,cellK x c e _ z⟩
 .obtain⟨v,z⟩:=I.cell x c e;exact⟨v,cellK x c e v z⟩
 .obtain⟨m,⟨o,_,_,ho,_⟩,_⟩:=I.loc;exact free _ o (λz=>(hch _ z).2.1 rfl) ho I.free
 .obtain⟨v,o,ho,hd⟩:=I.cell x c e;exact free c o (λz=>(hch c z).2.2.1 x c e rfl) ho (I.freeC x c e)
 .obtain⟨e,n,ne,nf,d⟩:=I.pin p hp;have nch:p.1∉ch:=λz=>(hch p.1 z).2.2.2 p hp rfl;exact⟨keep p.1 p.2 ne nf nch e n,free p.1 p.2 nch e n,ne,nf,d⟩
def Inv.un(I:Inv X p8 σ H s)(u:Un X.fs [] H H' s.heap h')(hok:HOk X.prog X.w H' h'):Inv X p8 σ H' {s with heap:=h',toks:=t'}:=by
 let⟨m,⟨o,es,ep,ho,r⟩,_⟩:=id I.loc;let⟨sl,hL⟩:=u.any ho I.free (by simp);exact I.step (g':=s.gens) (d':=s.drawn) (ch:=[]) (λ_ z=>nomatch z) (λb o _ hb _ e n=>u.keep b o e n hb (by simp)) (λb o _ hb _ e n=>u.slot b o e n hb (by simp)) (λb o _ e n=>u.free b o e n (by simp)) (λb o _ e=>u.there b o e (by simp)) u.tups u.frzs u.tbls (λm' hm=>by
  let⟨o',es',ep',ho',r'⟩:=hm;rw[ho]at ho';cases ho';exact⟨_,es',ep',hL,r'⟩) hok I.bare
def Inv.call{g':Array GenState}{d':Drawn}{ch:Ab}(I:Inv X p8 σ H s)(u:Un (frs X.stack) ch H H' s.heap h')(hok:HOk X.prog X.w H' h')(hg:AllBare g')(hch:∀b∈ch,(b∈X.ex\/X.s₀.heap.objs.size<=b)/\b≠X.env.locals/\(∀x c,X.env.cells.lookup x=some c->c≠b)/\∀p∈X.pn++p8,p.1≠b) :
  Inv X p8 σ H' {s with heap:=h',gens:=g',drawn:=d',toks:=t'}:=by
 let⟨m,⟨o,es,ep,ho,r⟩,_⟩:=id I.loc;let⟨sl,hL⟩:=u.any ho I.free λz=>(hch _ z).2.1 rfl;exact I.step (ch:=ch) hch (λb o hL hb hc e n=>u.keep b o e n (λz=>(au.mp (I.stkSub b z)).elim hL hb) hc) (λb o _ _ hc e n=>u.any e n hc) (λb o hc e n=>u.free b o e n hc) (λb o hc e=>u.there b o e hc) u.tups u.frzs u.tbls (λm' hm=>by
  let⟨o',es',ep',ho',r'⟩:=hm;rw[ho]at ho';cases ho';exact⟨_,es',ep',hL,r'⟩) hok hg
def Inv.turned{it:Addr}(I:Inv X p8 σ H s)(k:∀b o,b≠it->s.heap.get? b=some o->h'.get? b=some o)(hn:H it=none)(hL:it≠X.env.locals)(h1:it∈X.ex\/X.s₀.heap.objs.size<=it)(h2:∀x c,X.env.cells.lookup x=some c->c≠it)(h3:∀p∈X.pn++p8,p.1≠it):Inv X p8 σ H {s with heap:=h',toks:=t'}:=by
 have nit:∀b u,H b=some u->b≠it:=λb u e z=>by rw[z,hn]at e;cases e
 refine I.step (g':=s.gens) (d':=s.drawn) (ch:=[it]) (λb hb=>?_) (λb o _ _ hc e _=>k b o (λz=>hc (by simp[z])) e) (λb o _ _ hc e _=>⟨o.slots,k b o (λz=>hc (by simp[z])) e⟩) (λ_ _ _ _ n=>n)
  (λb o hc e=>⟨o,k b o (λz=>hc (by simp[z])) e⟩) (λ_ _ e=>e) (λ_ _ _ e=>e) (λb ps e=>⟨#[],by rw[e];simp⟩) (λm hm=>?_) (λb u e=>?_) I.bare
 .have e:b=it:=by simpa using hb
  subst e;exact⟨h1,hL,h2,h3⟩
 .obtain⟨o,es,ep,ho,r⟩:=hm;exact⟨o,es,ep,k _ o (bb hL) ho,r⟩
 .refine(I.hok b u e).stay (λc v hc q=>k c v ?_ q) (λ_ q=>q) λ_ _ q=>q;rcases hc with z|z
  .rw[z];exact nit b u e
  .exact nit c _ z
def Inv.tok(I:Inv X p8 σ H s)(t:Nat):Inv X p8 σ H {s with toks:=t}:=I.un (h':=s.heap) (t':=t) Un.refl I.hok
def Inv.kept(I:Inv X p8 σ H s)(k:∀b u,s.heap.get? b=some u->h'.get? b=some u):Inv X p8 σ H {s with heap:=h',toks:=t'}:=I.un (Un.kept k) (I.hok.kept k)
def Inv.laid{a:Addr}(I:Inv X p8 σ H s)(k:∀b u,s.heap.get? b=some u->h'.get? b=some u)(hp:s.heap.objs.size<=a)(new:ObjOk X.prog X.w (upd H a o) h' a o) :
  Inv X p8 σ (upd H a o) {s with heap:=h',toks:=t'}:=I.un (Un.laid k hp (I.hok.fresh hp)) (I.hok.laid k hp new)
def Inv.write{x e:Addr}(I:Inv X p8 σ H s)(mu:Mut (H x))(he:e=x\/H e=some (.own x))(k:∀b u,b≠e->s.heap.get? b=some u->h'.get? b=some u)(heo:∃u,h'.get? e=some u)(new:ObjOk X.prog X.w (upd H x o) h' x o):Inv X p8 σ (upd H x o) {s with heap:=h',toks:=t'}:=I.un (Un.write mu he k heo) (I.hok.write mu he k heo new)
def Inv.pins_of{pins':A2}(I:Inv X p8 σ H s)(h:∀p∈pins',s.heap.get? p.1=some p.2/\H p.1=none/\p.1≠X.env.locals/\p.1∉X.fs/\∀v,p.2.data≠.cell v):Inv X pins' σ H s :=
 ⟨I.ok,I.os,I.bare,I.base,I.loc,I.cell,I.free,I.freeC,λp hp=>(ay.mp hp).elim (λz=>I.pin p (bz _ z)) (h p),I.hok,I.len⟩
def XO{N:A8}(hN:N.Nodup){i j:Nat}(a:N[i]?=some x)(b:N[j]?=some x):i=j:=by
 let⟨h1,e1⟩:=aa.mp a;let⟨h2,e2⟩:=aa.mp b;exact(List.getElem_inj hN).mp (e1.trans e2.symm)
def WU{v:V}{Q:Ag}(I:Inv X p8 σ H s)(hN:X.N.Nodup)(hi:X.N[i]?=some x)(hx:Loc X.env.scope x)(r:RelV v u)(h:∀s',Inv X p8 (σ.set i (some v)) H s'->(∃a,Heap.SameBut a s.heap s'.heap/\(a=X.env.locals\/X.env.cells.lookup x=some a))->Q () s')(hf:X.fn x=true\/X.env.scope.names.lookup x=some .local:=by walk_at"p"):wpAny M A (storeName X.env x u) Q E s:=by
 let⟨m,hn,hl⟩:=id I.loc;have hcls:(X.env.scope.kind == .class||(X.env.scope.kind == .module&&X.env.locals != X.env.globals))=false:=by rw[I.ok.kind];rfl
 have hiσ:i<σ.length:=by rw[I.len];exact(aa.mp hi).1
 have cne:=I.cne;have tracked:∀{a:Addr}{h':Heap},(∃o,s.heap.get? a=some o/\H a=none)->Heap.SameBut a s.heap h'->HOk X.prog X.w H h':=λ{a h'} ha hs b ob e=>by
  let⟨_,_,hfree⟩:=ha;refine(I.hok b ob e).stay (λc w' hc q=>(hs.2 c ?_).trans q) (λ_ q=>q) λ_ _ q=>q;rintro rfl;rcases hc with rfl|hc
  .rw[hfree]at e;cases e
  .rw[hfree]at hc;cases hc
 rcases hx with hk|hk
 .refine wpAny_storeName_local hk hn (λh' hn' hs=>?_) hcls;let⟨oL,_,_,hoL,_⟩:=id hn;refine h _ ⟨I.ok,I.os,I.bare,⟨λb o e n hb hx=>?_,λb o e n hb hx=>?_,I.base.free,λb o e hx=>?_,I.base.tups,I.base.frzs,I.base.tbls⟩,⟨_,hn',λj y v' e1 e2 e3=>?_⟩,λy c e=>?_,I.free,I.freeC,λp hp=>?_,tracked ⟨oL,hoL,I.free⟩ hs,by simpa using I.len⟩ ⟨_,hs,.inl rfl⟩
  .exact(hs.2 b (aN (aH (az e) I.ok.above))).trans (I.base.keep b o e n hb hx)
  .obtain⟨sl,e1⟩:=I.base.slot b o e n hb hx;exact⟨sl,(hs.2 b (aN (aH (az e) I.ok.above))).trans e1⟩
  .obtain⟨o',e1⟩:=I.base.there b o e hx;exact⟨o',(hs.2 b (aN (aH (az e) I.ok.above))).trans e1⟩
  .by_cases hj:j=i
   .subst hj;rw[hi]at e1;cases e1;rw[aU hiσ]at e2;cases e2;exact⟨u,r,.inl ⟨hk,by simp⟩⟩
   .rw[bE (bb hj)]at e2;let⟨u',r',q⟩:=hl j y v' e1 e2 e3;refine⟨u',r',?_⟩;rcases q with⟨k,e⟩|⟨k,c,e,z⟩
    .refine .inl ⟨k,?_⟩;have:y≠x:=λe=>hj (XO hN e1 (e ▸ hi));simp[this,e]
    .exact .inr ⟨k,c,e,z.sameBut hs (cne y c e)⟩
  .obtain⟨w',z⟩:=I.cell y c e;exact⟨w',z.sameBut hs (cne y c e)⟩
  .obtain⟨e,n,ne,nf,d⟩:=I.pin p hp;exact⟨(hs.2 p.1 ne).trans e,n,ne,nf,d⟩
 .have hfn:X.fn x=true:=by
   rcases hf with z|z
   .exact z
   .rw[z]at hk;cases hk
  let⟨c,hc⟩:=I.ok.has x (.inl hk);let⟨w',z⟩:=I.cell x c hc;refine wpAny_storeName_cell I.ok.kind hk hc z (λh' hc' hs=>?_);let⟨oc,hoc,hocd⟩:=id z;refine h {s with heap:=h'} ⟨I.ok,I.os,I.bare,⟨λb o e n hb hx=>?_,λb o e n hb hx=>?_,I.base.free,λb o e hx=>?_,I.base.tups,I.base.frzs,I.base.tbls⟩,⟨m,hn.sameBut hs (bb (cne x c hc)),λj y v' e1 e2 e3=>?_⟩,λy c' e=>?_,I.free,I.freeC,λp hp=>?_,tracked ⟨oc,hoc,I.freeC x c hc⟩ hs,by simpa using I.len⟩ ⟨c,hs,.inr hc⟩
  .exact(hs.2 b (aN (aH (az e) (I.ok.cab x c hfn hc)))).trans (I.base.keep b o e n hb hx)
  .obtain⟨sl,e1⟩:=I.base.slot b o e n hb hx;exact⟨sl,(hs.2 b (aN (aH (az e) (I.ok.cab x c hfn hc)))).trans e1⟩
  .obtain⟨o',e1⟩:=I.base.there b o e hx;exact⟨o',(hs.2 b (aN (aH (az e) (I.ok.cab x c hfn hc)))).trans e1⟩
  .by_cases hj:j=i
   .subst hj;rw[hi]at e1;cases e1;rw[aU hiσ]at e2;cases e2;exact⟨u,r,.inr ⟨.inl hk,c,hc,hc'⟩⟩
   .rw[bE (bb hj)]at e2;let⟨u',r',q⟩:=hl j y v' e1 e2 e3;refine⟨u',r',?_⟩;rcases q with q|⟨k,c',e,z'⟩
    .exact .inl q
    .refine .inr ⟨k,c',e,z'.sameBut hs ?_⟩;rintro rfl;exact hj (XO hN e1 (I.ok.inj _ _ _ e hc ▸ hi))
  .by_cases hcc:c'=c
   .subst hcc;exact⟨_,hc'⟩
   .obtain⟨w2,z2⟩:=I.cell y c' e;exact⟨w2,z2.sameBut hs hcc⟩
  .obtain⟨e,n,ne,nf,d⟩:=I.pin p hp;refine⟨(hs.2 p.1 ?_).trans e,n,ne,nf,d⟩;intro q;rw[q,hoc]at e;have q':oc=p.2:=aO e;exact d w' (by rw[<- q'];exact hocd)
def JR{v:V}{Q:Ag}(I:Inv X p8 σ H s)(hN:X.N.Nodup)(hi:X.N[i]?=some x)(hx:Loc X.env.scope x)(r:RelV v u)(h:∀s',Inv X p8 (σ.set i (some v)) H s'->Q () s')(hf:X.fn x=true\/X.env.scope.names.lookup x=some .local:=by walk_at"p"):wpAny M A (storeName X.env x u) Q E s :=
 WU I hN hi hx r (λs' I' _=>h s' I') hf
def Inv.call'{s':An}{ch:Ab}(I:Inv X p8 σ H s)(ho:s'.os=s.os)(u:Un (frs X.stack) ch H H' s.heap s'.heap)(hok:HOk X.prog X.w H' s'.heap)(hg:AllBare s'.gens)(hch:∀b∈ch,(b∈X.ex\/X.s₀.heap.objs.size<=b)/\b≠X.env.locals/\(∀x c,X.env.cells.lookup x=some c->c≠b)/\∀p∈X.pn++p8,p.1≠b):Inv X p8 σ H' s':=by
 let⟨h',g',d',t',o'⟩:=s';have e:o'=s.os:=ho;subst e;exact I.call (g':=g') (t':=t') (d':=d') u hok hg hch
end
abbrev XK:=Value->Option Addr->Hp->Prop
abbrev St:=List Aq
variable{σ:St}
abbrev VK:=V->Hp->Prop
abbrev TE:=St->Hp->VK->Prop
abbrev TT:=St->Hp->(Bool->Hp->Prop)->Prop
abbrev TA:=St->Hp->(List V->Hp->Prop)->Prop
structure Ends where
 nx:St->Hp->Prop
 rt:VK
 bk:St->Hp->Prop:=λ_ _=>False
 ct:St->Hp->Prop:=λ_ _=>False
abbrev TS:=Ends->St->Hp->Prop
def EP(X:Cx)(p8:A2)(σ:St)(Q:VK)(u:Am)(s':An):Prop:=∃v H',Inv X p8 σ H' s'/\RelV v u/\Q v H'
def TP(X:Cx)(p8:A2)(σ:St)(Q:Bool->Hp->Prop)(b:Bool)(s':An):Prop:=∃H',Inv X p8 σ H' s'/\Q b H'
def AP(X:Cx)(p8:A2)(σ:St)(Q:List V->Hp->Prop)(us:A7)(s':An):Prop:=∃vs H',Inv X p8 σ H' s'/\Vals vs us/\Q vs H'
def SP(X:Cx)(p8:A2)(D:Ends)(f:Flow)(s':An):Prop :=
 match f with
 | .next=>∃σ' H',Inv X p8 σ' H' s'/\D.nx σ' H'
 | .brk=>∃σ' H',Inv X p8 σ' H' s'/\D.bk σ' H'
 | .cont=>∃σ' H',Inv X p8 σ' H' s'/\D.ct σ' H'
 | .ret u=>∃v σ' H',Inv X p8 σ' H' s'/\RelV v u/\D.rt v H'
def PE(X:Cx)(e:Expr)(t:TE):Prop :=
 ∀(p8:A2)(s:An)(σ:St)(H:Hp)(Q:VK),Inv X p8 σ H s->t σ H Q->wpAny (model X.prog X.w) X.A (eval e X.env) (EP X p8 σ Q) X.xe s
def PT(X:Cx)(e:Expr)(t:TT):Prop :=
 ∀(p8:A2)(s:An)(σ:St)(H:Hp)(Q:Bool->Hp->Prop),Inv X p8 σ H s->t σ H Q->wpAny (model X.prog X.w) X.A (isTrue e X.env (eval e X.env)) (TP X p8 σ Q) X.xe s
def PW(X:Cx)(e:Expr)(t:TT):Prop :=
 ∀(whole:Sem Value)(p8:A2)(s:An)(σ:St)(H:Hp)(Q:Bool->Hp->Prop),Inv X p8 σ H s->t σ H Q->wpAny (model X.prog X.w) X.A (isTrue e X.env whole) (TP X p8 σ Q) X.xe s
def PW.pt{e:Expr}{t:TT}(h:PW X e t):PT X e t:=h _
def PA(X:Cx)(es:List Expr)(t:TA):Prop :=
 ∀(pos:Pos)(p8:A2)(s:An)(σ:St)(H:Hp)(Q:List V->Hp->Prop),Inv X p8 σ H s->t σ H Q->wpAny (model X.prog X.w) X.A (spliced (backTo pos (starEach es X.env))) (AP X p8 σ Q) X.xe s
def PS(X:Cx)(st:Stmt)(t:TS):Prop :=
 ∀(p8:A2)(s:An)(σ:St)(H:Hp)(D:Ends),Inv X p8 σ H s->t D σ H->wpAny (model X.prog X.w) X.A (exec st X.env) (SP X p8 D) X.xe s
def PSs(X:Cx)(st:List Stmt)(t:TS):Prop :=
 ∀(p8:A2)(s:An)(σ:St)(H:Hp)(D:Ends),Inv X p8 σ H s->t D σ H->wpAny (model X.prog X.w) X.A (execs st X.env) (SP X p8 D) X.xe s
def thn{α:Type}{t:Sem α}{Q Q':α->Shared->Prop}(h:wpAny M A t Q E s)(hQ:∀a s,Q a s->Q' a s):wpAny M A t Q' E s:=aI h hQ λ_ _ x=>x
def qJ{Q:VK}{t:Sem Value}{Q':A3}(h:wpAny M A t (EP X p8 σ Q) E s)(k:∀u s1 x H1,Inv X p8 σ H1 s1->RelV x u->Q x H1->Q' u s1):wpAny M A t Q' E s:=thn h λu s1 e=>by
 let⟨x,H1,I1,r,q⟩:=e;exact k u s1 x H1 I1 r q
def vn{Q:List V->Hp->Prop}{t:Sem A7}{Q':List Value->Shared->Prop}(h:wpAny M A t (AP X p8 σ Q) E s)(k:∀us s1 vs H1,Inv X p8 σ H1 s1->Vals vs us->Q vs H1->Q' us s1):wpAny M A t Q' E s:=thn h λu s1 e=>by
 let⟨x,H1,I1,r,q⟩:=e;exact k u s1 x H1 I1 r q
section
variable{X:Cx}
def bq:V->(Bool->Prop)->Prop
 | .bl k,P=>P k
 |_,_=>False
def Jb{x:V}{P:Bool->Prop}(h:bq x P):∃k,x=.bl k/\P k:=by
 cases x<;>first|exact⟨_,rfl,h⟩|exact False.elim h
def iq:V->(Int->Prop)->Prop
 | .int i,P=>P i
 |_,_=>False
def Qe{x:V}{P:Int->Prop}(h:iq x P):∃i,x=.int i/\P i:=by
 cases x<;>first|exact⟨_,rfl,h⟩|exact False.elim h
def X2{x y:V}{P:Int->Int->Prop}(h:iq x λi=>iq y λj=>P i j):∃i j,x=.int i/\y=.int j/\P i j:=by
 let⟨i,e,h⟩:=Qe h;let⟨j,e2,h⟩:=Qe h;exact⟨i,j,e,e2,h⟩
def nq:V->Prop->Prop
 | .non,P=>P
 |_,_=>False
def zd9{x:V}{P:Prop}(h:nq x P):x=.non/\P:=by
 cases x<;>first|exact⟨rfl,h⟩|exact False.elim h
def lq:List V->(V->Prop)->Prop
 |[v],P=>P v
 |_,_=>False
theorem zgH:∀{xs:Ap}{P:V->Prop},lq xs P->∃v,xs=[v]/\P v
 |[_],_,h=>⟨_,rfl,h⟩
 |[],_,h=>h.elim
 |_::_::_,_,h=>h.elim
def vq:Option Aq->(V->Prop)->Prop
 |some (some v),P=>P v
 |_,_=>False
theorem zka:∀{o:Option Aq}{P:V->Prop},vq o P->∃v,o=some (some v)/\P v
 |some (some v),_,h=>⟨v,rfl,h⟩
 |some none,_,h=>h.elim
 |none,_,h=>h.elim
def szl(xs:Ap)(P:Prop):Prop:=cond (Nat.ble xs.length 12) P False
def VR{xs:Ap}{P:Prop}(h:szl xs P):xs.length<=sizeLine/\P:=by
 unfold szl at h;cases e:Nat.ble xs.length 12 with
 |true=>rw[e]at h;exact⟨aJ (Nat.le_of_ble_eq_true e) (by decide),h⟩
 |false=>rw[e]at h;exact h.elim
def tVar(i:Nat):TE:=λσ H Q=>vq σ[i]? λv=>Q v H
def tC(v:V):TE:=λ_ H Q=>Q v H
def zjq(hN:X.N[i]?=some x)(hv:Vis X.env.scope x)(hd:(x == ("__debug__":Str))=false:=by decide)(hcd:(x == ("__classdict__":Str))=false:=by decide):PE X (.Name x pos) (tVar i):=by
 intro p8 s σ H Q I h;let⟨v,e,h⟩:=zka h;let⟨m,hn,hl⟩:=I.loc;let⟨u,r,l⟩:=hl i x v hN e hv;have fin:EP X p8 σ Q u s:=⟨v,H,I,r,h⟩;rcases l with⟨hk,hm⟩|⟨hk,c,hc,hcell⟩
 .exact wpAny_Name (wpAny_loadName_local I.ok.kind hk hn hm fin) hd
 .rcases hk with hk|hk
  .exact wpAny_Name (wpAny_loadName_cell I.ok.kind hk hc hcell fin) hd
  .exact wpAny_Name (wpAny_loadName_free I.ok.kind hk hc hcell fin hcd) hd
def zh{i j pos}:PE X (.Constant (.int i) j pos) (tC (.int i)):=λ_ _ _ H _ I h=>wpAny_Constant_int ⟨.int i,H,I.tok _,⟨_,rfl⟩,h⟩
def ziN{b j pos}:PE X (.Constant (.bool b) j pos) (tC (.bl b)):=λ_ _ _ H _ I h=>Constant_bool ⟨.bl b,H,I,rfl,h⟩
def zA{j pos}:PE X (.Constant .none j pos) (tC .non):=λ_ _ _ H _ I h=>Constant_none ⟨.non,H,I,rfl,h⟩
def zy{x j pos}:PE X (.Constant (.str x) j pos) (tC (.str x)):=λ_ _ _ H _ I h=>Calls.Constant_str ⟨.str x,H,I.tok _,⟨_,rfl⟩,h⟩
def Gl(X:Cx)(x:Str):Prop:=X.env.kindOf x=some .globalImplicit
def jc(I:Inv X p8 σ H s)(hg:Gl X x)(hm:X.mg x=some u)(h:Q u s)(hd:(x == ("__debug__":Str))=false:=by decide):wpAny (model X.prog X.w) X.A (eval (.Name x pos) X.env) Q E s :=
 gP I.ok.kind hg (Calls.loadGlobal_global (by rw[I.ok.glob];exact I.mod.glob.keeps I.bk) hm h) hd
def vQ(I:Inv X p8 σ H s)(hg:Gl X x)(hm:X.mg x=none)(hv:bootBuiltins x=some u)(h:Q u s)(hn:x≠"__name__":=by decide)(hd:(x == ("__debug__":Str))=false:=by decide):wpAny (model X.prog X.w) X.A (eval (.Name x pos) X.env) Q E s:=by
 let⟨mb,h1,h2⟩:=I.mod.blt;exact gP I.ok.kind hg (Calls.loadGlobal_builtin (by rw[I.ok.glob];exact I.mod.glob.keeps I.bk) hm (by rw[I.ok.blt];exact h1.keeps I.bk) ((h2 x hn).trans hv) h) hd
variable{a b:Expr}{ta tb:TE}{pos:Pos}
def PC(X:Cx)(op:CmpOp)(a b:Expr)(t:TE):Prop :=
 ∀(p8:A2)(s:An)(σ:St)(H:Hp)(Q:VK),Inv X p8 σ H s->t σ H Q ->
  wpAny (model X.prog X.w) X.A (eval a X.env) (λv s₁=>wpAny (model X.prog X.w) X.A (eval b X.env) (λu s₂=>wpAny (model X.prog X.w) X.A (compareOp op v u) (EP X p8 σ Q) X.xe s₂) X.xe s₁) X.xe s
def nobehind(b:Expr)(h:op≠.In)(h2:op≠.NotIn):behindInMarks op b=false:=by
 have e1:(op == CmpOp.In)=false:=by cases op<;>first|rfl|exact absurd rfl h
 have e2:(op == CmpOp.NotIn)=false:=by cases op<;>first|rfl|exact absurd rfl h2
 cases b<;>simp[behindInMarks,e1,e2]
def tB(t:TE):TT:=λσ H Q=>t σ H λx H1=>bq x λc=>Q c H1
def zjl{t:TE}(h:PC X op a b t)(h1:behindInMarks op b=false:=by walk_at"q"):PT X (.Compare a [op] [b] pos) (tB t):=by
 intro p8 s σ H Q I hw;refine wpAny_isTrue_Compare1 (thn (h p8 s σ H _ I hw) λv s1 h1=>thn h1 λu s2 h2=>thn h2 λc s3 ⟨x,H1,I1,r1,q1⟩=>?_) h1;let⟨d,rfl,q⟩:=Jb q1;cases r1;exact bL ⟨H1,I1,q⟩
variable{tA tB':TT}{rest:List Expr}
def tAnd(t u:TT):TT:=λσ H Q=>t σ H λc H1=>if c=true then u σ H1 Q else Q false H1
def tOr(t u:TT):TT:=λσ H Q=>t σ H λc H1=>if c=true then Q true H1 else u σ H1 Q
def tNot(t:TT):TT:=λσ H Q=>t σ H λc H1=>Q (!c) H1
def pw_and1(ha:PT X a tA):PW X (.BoolOp .And [a] pos) tA:=by
 intro wh p8 s σ H Q I h;refine isTrue_and (thn (ha p8 s σ H Q I h) λc s1 e=>?_);cases c with
 |true=>exact isTrue_and_nil e
 |false=>exact e
def pw_or1(ha:PT X a tA):PW X (.BoolOp .Or [a] pos) tA:=by
 intro wh p8 s σ H Q I h;refine isTrue_or (thn (ha p8 s σ H Q I h) λc s1 e=>?_);cases c with
 |false=>exact isTrue_or_nil e
 |true=>exact e
def pw_and(ha:PT X a tA)(hb:PW X (.BoolOp .And (b::rest) pos) tB'):PW X (.BoolOp .And (a::b::rest) pos) (tAnd tA tB'):=by
 intro wh p8 s σ H Q I h;refine isTrue_and (thn (ha p8 s σ H _ I h) λc s1 ⟨H1,I1,q1⟩=>?_);cases c with
 |true=>exact hb wh p8 s1 σ H1 Q I1 q1
 |false=>exact⟨H1,I1,q1⟩
def pw_or(ha:PT X a tA)(hb:PW X (.BoolOp .Or (b::rest) pos) tB'):PW X (.BoolOp .Or (a::b::rest) pos) (tOr tA tB'):=by
 intro wh p8 s σ H Q I h;refine isTrue_or (thn (ha p8 s σ H _ I h) λc s1 ⟨H1,I1,q1⟩=>?_);cases c with
 |true=>exact⟨H1,I1,q1⟩
 |false=>exact hb wh p8 s1 σ H1 Q I1 q1
def jA(ha:PT X a tA):PT X (.UnaryOp .Not a pos) (tNot tA):=by
 intro p8 s σ H Q I h;exact isTrue_not (ha p8 s σ H (λc H1=>Q (!c) H1) I h)
def tAndV(ta tb:TE):TE:=λσ H Q=>ta σ H λx H1=>bq x λc=>if c=true then tb σ H1 Q else Q (.bl false) H1
def tOrV(ta tb:TE):TE:=λσ H Q=>ta σ H λx H1=>bq x λc=>if c=true then Q (.bl true) H1 else tb σ H1 Q
def tNotV(ta:TE):TE:=λσ H Q=>ta σ H λx H1=>bq x λc=>Q (.bl (!c)) H1
def zc3{op}{t:TE}(h:PE X a t):PE X (.BoolOp op [a] pos) t:=λp8 s σ H Q I hw=>BoolOp_one (h p8 s σ H Q I hw)
def zc4(ha:PE X a ta)(hb:PE X (.BoolOp .And (b::rest) pos) tb):PE X (.BoolOp .And (a::b::rest) pos) (tAndV ta tb):=by
 intro p8 s σ H Q I h;refine BoolOp_and (qJ (ha p8 s σ H _ I h) λv s1 x H1 I1 r1 q1=>?_);let⟨c,rfl,q1⟩:=Jb q1;cases r1;refine bL ?_;cases c with
 |true=>exact hb p8 s1 σ H1 Q I1 q1
 |false=>exact⟨.bl false,H1,I1,rfl,q1⟩
def zgr(ha:PE X a ta)(hb:PE X (.BoolOp .Or (b::rest) pos) tb):PE X (.BoolOp .Or (a::b::rest) pos) (tOrV ta tb):=by
 intro p8 s σ H Q I h;refine BoolOp_or (qJ (ha p8 s σ H _ I h) λv s1 x H1 I1 r1 q1=>?_);let⟨c,rfl,q1⟩:=Jb q1;cases r1;refine bL ?_;cases c with
 |false=>exact hb p8 s1 σ H1 Q I1 q1
 |true=>exact⟨.bl true,H1,I1,rfl,q1⟩
def zgs(ha:PE X a ta):PE X (.UnaryOp .Not a pos) (tNotV ta):=by
 intro p8 s σ H Q I h;refine UnaryOp_ (qJ (ha p8 s σ H _ I h) λv s1 x H1 I1 r1 q1=>?_);let⟨c,rfl,q1⟩:=Jb q1;cases r1;exact not_of (bL ⟨.bl (!c),H1,I1,rfl,q1⟩)
def tIf(t:TT)(ta tb:TE):TE:=λσ H Q=>t σ H λc H1=>if c=true then ta σ H1 Q else tb σ H1 Q
def jE{c:Expr}(hc:PT X c tA)(ha:PE X a ta)(hb:PE X b tb):PE X (.IfExp c a b pos) (tIf tA ta tb):=by
 intro p8 s σ H Q I h;refine wpAny_IfExp (thn (hc p8 s σ H _ I h) λd s1 ⟨H1,I1,q1⟩=>?_);cases d with
 |true=>exact ha p8 s1 σ H1 Q I1 q1
 |false=>exact hb p8 s1 σ H1 Q I1 q1
end
def SqL(K:A0)(H:Hp)(a:Addr)(xs:Ap):Prop :=
 Rd H a (.lst xs) \/
  ∃(o:Obj)(pS:Ac)(n:Nat),K.lookup a=some o/\o.cls=.type "list"/\o.dict=none/\o.data=.seq pS n/\pS.size<=sizeLine/\Vals xs pS.toList
def SqT(K:A0)(H:Hp)(a:Addr)(xs:Ap):Prop :=
 Rd H a (.tup xs) \/
  ∃(o:Obj)(pS:Ac)(n:Nat),K.lookup a=some o/\o.cls=.type "tuple"/\o.data=.seq pS n/\pS.size<=sizeLine/\Vals xs pS.toList
noncomputable def zk7:Value->Option V
 | .none=>some .non
 | .bool b=>some (.bl b)
 | .int i _=>some (.int i)
 | .str x _=>some (.str x)
 | .bytes b _=>some (.byt b)
 | .float b _=>some (.flt b)
 | .ref a=>some (.ref a)
 | .type n=>some (.ty n)
 |_=>none
def RelV.abs{x:V}(r:RelV x u):zk7 u=some x:=by
 cases x with
 |non=>cases r;rfl
 |bl _=>cases r;rfl
 |int _=>let⟨t,rfl⟩:=r;rfl
 |str _=>let⟨t,rfl⟩:=r;rfl
 |byt _=>let⟨t,rfl⟩:=r;rfl
 |flt _=>let⟨t,rfl⟩:=r;rfl
 |ref _=>cases r;rfl
 |ty _=>cases r;rfl
def RelV.inj{x y:V}(r:RelV x u)(q:RelV y u):x=y:=aO (r.abs.symm.trans q.abs)
theorem Vals.inj:∀{xs ys:Ap}{us:A7},Vals xs us->Vals ys us->xs=ys
 |_,_,_,.nil,.nil=>rfl
 |_,_,_,.cons r t,.cons r' t'=>by rw[r.inj r',Vals.inj t t']
section
variable{X:Cx}{p8:A2}{σ:St}{H:Hp}{s:An}{a:Addr}{xs ys:Ap}
def SqL.of(h:H a=some (.lst xs)):SqL K H a xs:=.inl (.inl h)
def SqT.of(h:H a=some (.tup xs)):SqT K H a xs:=.inl (.inl h)
def Inv.list(I:Inv X p8 σ H s)(h:SqL X.K H a xs):∃pS:List Value,Vals xs pS/\PlainL s.heap a pS.toArray/\xs.length<=sizeLine:=by
 rcases h with h|⟨o,pS,n,hk,hc,hd,hs,hz,r⟩
 .obtain⟨z,pS,n,r,e⟩:=h.ok I.hok;exact⟨pS,r,⟨_,n,e,rfl,rfl,rfl⟩,z⟩
 .refine⟨pS.toList,r,⟨o,n,I.kIn a o hk,hc,hd,by simpa using hs⟩,?_⟩;have e:=r.length;simp only[bg]at e
  lia
def Inv.tuple(I:Inv X p8 σ H s)(h:SqT X.K H a xs):∃pS:List Value,Vals xs pS/\IsTup s.heap a pS.toArray/\xs.length<=sizeLine:=by
 rcases h with h|⟨o,pS,n,hk,hc,hs,hz,r⟩
 .obtain⟨z,pS,r,p⟩:=h.ok I.hok;exact⟨pS,r,p,z⟩
 .refine⟨pS.toList,r,⟨o,I.kIn a o hk,hc,n,by simpa using hs⟩,?_⟩;have e:=r.length;simp only[bg]at e
  lia
def Inv.list_inj(I:Inv X p8 σ H s)(h:SqL X.K H a xs)(h':SqL X.K H a ys):xs=ys:=by
 let⟨pS,r,⟨o,n,e,_,_,d⟩,_⟩:=I.list h;let⟨its',r',⟨o',n',e',_,_,d'⟩,_⟩:=I.list h';rw[e]at e';cases e';rw[d]at d';injection d' with d1 _
 have:pS=its':=by simpa using bp Array.toList d1
 subst this;exact r.inj r'
def Inv.tuple_inj(I:Inv X p8 σ H s)(h:SqT X.K H a xs)(h':SqT X.K H a ys):xs=ys:=by
 let⟨pS,r,⟨o,e,_,n,d⟩,_⟩:=I.tuple h;let⟨its',r',⟨o',e',_,n',d'⟩,_⟩:=I.tuple h';rw[e]at e';cases e';rw[d]at d';injection d' with d1 _
 have:pS=its':=by simpa using bp Array.toList d1
 subst this;exact r.inj r'
end
noncomputable abbrev Cx.wish(X:Cx)(E:A3):Cx:={X with xe:=E}
noncomputable abbrev Cx.nox(X:Cx):Cx:=X.wish λ_ _=>False
def Cx.Ok.wish(ok:X.Ok)(E:A3):(X.wish E).Ok :=
 ⟨ok.mod,ok.kind,ok.glob,ok.blt,ok.above,ok.inj,ok.has,ok.cab,ok.hd,ok.frames,ok.stk,ok.exf,ok.bs,ok.bsz,ok.noex,ok.exfs,ok.funs,ok.frf⟩
def Cx.Ok.unwish(ok:(X.wish E).Ok):X.Ok :=
 ⟨ok.mod,ok.kind,ok.glob,ok.blt,ok.above,ok.inj,ok.has,ok.cab,ok.hd,ok.frames,ok.stk,ok.exf,ok.bs,ok.bsz,ok.noex,ok.exfs,ok.funs,ok.frf⟩
section
variable{X:Cx}{p8:A2}{σ:St}{H:Hp}{s:An}{E:A3}
def Inv.wish(I:Inv X p8 σ H s)(E:A3):Inv (X.wish E) p8 σ H s:=⟨I.ok.wish E,I.os,I.bare,I.base,I.loc,I.cell,I.free,I.freeC,I.pin,I.hok,I.len⟩
def Inv.unwish(I:Inv (X.wish E) p8 σ H s):Inv X p8 σ H s:=⟨I.ok.unwish,I.os,I.bare,I.base,I.loc,I.cell,I.free,I.freeC,I.pin,I.hok,I.len⟩
def SP.unwish{D:Ends}{f:Flow}{s':An}(h:SP (X.wish E) p8 D f s'):SP X p8 D f s':=by
 cases f with
 |next=>let⟨σ',H',I,q⟩:=h;exact⟨σ',H',I.unwish,q⟩
 |brk=>let⟨σ',H',I,q⟩:=h;exact⟨σ',H',I.unwish,q⟩
 |cont=>let⟨σ',H',I,q⟩:=h;exact⟨σ',H',I.unwish,q⟩
 |ret u=>let⟨v,σ',H',I,r,q⟩:=h;exact⟨v,σ',H',I.unwish,r,q⟩
def PE.nox{e:Expr}{t:TE}(h:PE X.nox e t):PE X e t:=λp8 s σ H Q I hw =>
 aI (h p8 s σ H Q (I.wish _) hw) (λ_ _ ⟨v,H',I',r,q⟩=>⟨v,H',I'.unwish,r,q⟩) λ_ _ z=>False.elim z
def PT.nox{e:Expr}{t:TT}(h:PT X.nox e t):PT X e t:=λp8 s σ H Q I hw =>
 aI (h p8 s σ H Q (I.wish _) hw) (λ_ _ ⟨H',I',q⟩=>⟨H',I'.unwish,q⟩) λ_ _ z=>False.elim z
def PSs.nox{st:List Stmt}{t:TS}(h:PSs X.nox st t):PSs X st t:=λp8 s σ H D I hw =>
 aI (h p8 s σ H D (I.wish _) hw) (λ_ _ q=>q.unwish) λ_ _ z=>False.elim z
end
section
variable{X:Cx}{st:Stmt}{rest:List Stmt}{t u:TS}{e:Expr}{te:TE}{pos:Pos}
def tNext:TS:=λD σ H=>D.nx σ H
def tSeq(t u:TS):TS:=λD σ H=>t {D with nx:=u D} σ H
def zp:PSs X [] tNext:=λ_ _ σ H _ I h=>cw ⟨σ,H,I,h⟩
def zl(h1:PS X st t)(h2:PSs X rest u):PSs X (st::rest) (tSeq t u):=by
 intro p8 s σ H D I h;refine fK (thn (h1 p8 s σ H {D with nx:=u D} I h) λf s1 q=>?_);cases f with
 |next =>
  let⟨σ',H',I',q⟩:=q;exact h2 p8 s1 σ' H' D I' q
 |ret v=>exact q
 |brk=>exact q
 |cont=>exact q
def zg(h1:PS X st t):PSs X [st] t:=by
 intro p8 s σ H D I h;refine fK (thn (h1 p8 s σ H D I h) λf s1 q=>?_);cases f with
 |next=>exact cw q
 |ret v=>exact q
 |brk=>exact q
 |cont=>exact q
def tBreak:TS:=λD σ H=>D.bk σ H
def zgn:PS X (.Break pos) tBreak:=λ_ _ σ H _ I h=>wpAny_Break ⟨σ,H,I,h⟩
def Inv.quiet(I:Inv X p8 σ H s):interactive X.env=false:=by simp[interactive,I.ok.kind]
def tDrop(te:TE):TS:=λD σ H=>te σ H λ_ H1=>D.nx σ H1
def zD(he:PE X e te)(hs:swapsWith e none pos.line X.env=pure false:=by rfl):PS X (.Expr e pos) (tDrop te):=by
 intro p8 s σ H D I h;exact wpAny_Expr_any (qJ (he p8 s σ H _ I h) λv s1 x H1 I1 r1 q1=>⟨σ,H1,I1,q1⟩) I.quiet hs
def tRet(te:TE):TS:=λD σ H=>te σ H D.rt
def zk(he:PE X e te):PS X (.Return (some e) pos) (tRet te):=by
 intro p8 s σ H D I h;exact wpAny_Return_some (qJ (he p8 s σ H _ I h) λv s1 x H1 I1 r1 q1=>⟨x,σ,H1,I1,r1,q1⟩)
def tIfS(c:TT)(t u:TS):TS:=λD σ H=>c σ H λb H1=>if b=true then t D σ H1 else u D σ H1
def zH{c:Expr}{a b:List Stmt}{tc:TT}(hc:PT X c tc)(ha:PSs X a t)(hb:PSs X b u):PS X (.If c a b pos) (tIfS tc t u):=by
 intro p8 s σ H D I h;refine wpAny_If (thn (hc p8 s σ H _ I h) λd s1 ⟨H1,I1,q1⟩=>?_);cases d with
 |true=>exact ha p8 s1 σ H1 D I1 q1
 |false=>exact hb p8 s1 σ H1 D I1 q1
end
abbrev TG:=V->St->Hp->(St->Hp->Prop)->Prop
abbrev TGs:=List V->St->Hp->(St->Hp->Prop)->Prop
def PG(X:Cx)(target:Expr)(t:TG):Prop :=
 ∀(p8:A2)(s:An)(σ:St)(H:Hp)(v:V)(u:Am)(Q:St->Hp->Prop),Inv X p8 σ H s->RelV v u->t v σ H Q ->
  wpAny (model X.prog X.w) X.A (assign target X.env u) (λ_ s'=>∃σ' H',Inv X p8 σ' H' s'/\Q σ' H') X.xe s
def PGs(X:Cx)(ts:List Expr)(t:TGs):Prop :=
 ∀(p8:A2)(s:An)(σ:St)(H:Hp)(vs:Ap)(us:A7)(Q:St->Hp->Prop),Inv X p8 σ H s->Vals vs us->t vs σ H Q ->
  wpAny (model X.prog X.w) X.A (assignInOrder ((assignEach ts X.env).map (·.2)) us) (λ_ s'=>∃σ' H',Inv X p8 σ' H' s'/\Q σ' H') X.xe s
abbrev zhp:=V->V->V->Hp->(Hp->Prop)->Prop
def zj6(X:Cx)(t:zhp):Prop :=
 ∀(p8:A2)(s:An)(σ:St)(H:Hp)(o i v:V)(ov iv u:Am)(Q:Hp->Prop),Inv X p8 σ H s->RelV o ov->RelV i iv->RelV v u->t o i v H Q ->
  wpAny (model X.prog X.w) X.A (setItem ov iv u) (λ_ s'=>∃H',Inv X p8 σ H' s'/\Q H') X.xe s
abbrev TIp:=V->V->Hp->VK->Prop
def PIp(X:Cx)(op:Operator)(t:TIp):Prop :=
 ∀(p8:A2)(s:An)(σ:St)(H:Hp)(x y:V)(v u:Am)(Q:VK),Inv X p8 σ H s->RelV x v->RelV y u->t x y H Q ->
  wpAny (model X.prog X.w) X.A (inplaceOp op v u) (EP X p8 σ Q) X.xe s
section
variable{X:Cx}{pos:Pos}
def gName(i:Nat):TG:=λv σ H Q=>Q (σ.set i (some v)) H
def zan(hN:X.N.Nodup)(hi:X.N[i]?=some x)(hx:Loc X.env.scope x)(hf:X.fn x=true\/X.env.scope.names.lookup x=some .local:=by walk_at"p"):PG X (.Name x pos) (gName i):=by
 intro p8 s σ H v u Q I r h;exact wpAny_assign_Name (JR I hN hi hx r (λs' I'=>⟨_,H,I',h⟩) hf)
def gNil:TGs:=λvs σ H Q=>vs=[]/\Q σ H
def gCons(t:TG)(u:TGs):TGs:=λvs σ H Q=>∃v r,vs=v::r/\t v σ H λσ' H'=>u r σ' H' Q
def jO:PGs X [] gNil:=by
 intro p8 s σ H vs us Q I r h;let⟨e,h⟩:=h;subst e;cases r;exact assignInOrder_nil ⟨σ,H,I,h⟩
theorem qd{e:Expr}{es:List Expr}{t:TG}{u:TGs}(h1:PG X e t)(h2:PGs X es u)(hs:(assignEach (e::es) X.env).map (·.2)=assign e X.env::(assignEach es X.env).map (·.2):=by rfl):PGs X (e::es) (gCons t u):=by
 intro p8 s σ H vs us Q I r h;let⟨v,vr,e1,h⟩:=h;subst e1;cases r with
 |cons r rr =>
  rw[hs];refine assignInOrder_cons (thn (h1 p8 s σ H _ _ _ I r h) λ_ s1 ⟨σ1,H1,I1,q1⟩=>?_);exact h2 p8 s1 σ1 H1 _ _ Q I1 rr q1
def gTup(K:A0)(n:Nat)(t:TGs):TG:=λv σ H Q=>∃a xs,v=.ref a/\SqT K H a xs/\xs.length=n/\t xs σ H Q
def xW{es:List Expr}{t:TGs}{n:Nat}(hc:X.calm=true)(h:PGs X es t)(hn:(assignEach es X.env).length=n:=by rfl)(hst:(assignEach es X.env).findIdx? (·.1)=none:=by rfl):PG X (.Tuple es k pos) (gTup X.K n t):=by
 intro p8 s σ H v u Q I r hw;let⟨a,xs,e1,hq,hl,hw⟩:=hw;subst e1;cases r;let⟨pS,rv,ht,hz⟩:=I.tuple hq;refine assign_Tuple_tuple (I.ok.hd hc) ht (by simp[hn,<- hl,rv.length]) hst λh' hx=>?_;have I1:Inv X p8 σ H {s with heap:=h'}:=I.kept (t':=s.toks) λb o e=>hx b o (aN (az e)) e;exact h p8 _ σ H xs _ Q I1 (by simpa using rv) hw
def gSub(to ti:TE)(t:zhp):TG:=λv σ H Q=>to σ H λo H1=>ti σ H1 λi H2=>t o i v H2 λH3=>Q σ H3
def Qz{o i:Expr}{to ti:TE}{t:zhp}(ho:PE X o to)(hi:PE X i ti)(hs:zj6 X t)(ha:∀v,assign (.Subscript o i pos) X.env v=(do
   let ov <- holding [v] (eval o X.env)
   let iv <- holding [v,ov] (eval i X.env)
   standAt pos
   holding [v,ov,iv] (setItem ov iv v)
   release [v,ov,iv] []):=by intro _;rfl):PG X (.Subscript o i pos) (gSub to ti t):=by
 intro p8 s σ H v u Q I r h;rw[ha];refine ae (cy (qJ (ho p8 s σ H _ I h) λov s1 x H1 I1 r1 q1=>?_));refine ae (cy (qJ (hi p8 s1 σ H1 _ I1 q1) λiv s2 y H2 I2 r2 q2=>?_));refine ae (bW (ae (cy (thn (hs p8 s2 σ H2 x y v ov iv u _ I2 r1 r2 r q2) λ_ s3 ⟨H3,I3,q3⟩=>?_))));exact wpAny_release ⟨σ,H3,I3,q3⟩
def tAsg(te:TE)(g:TG):TS:=λD σ H=>te σ H λx H1=>g x σ H1 D.nx
def wH{tg e:Expr}{te:TE}{g:TG}(he:PE X e te)(hg:PG X tg g)(hs:swapsWithSole [tg] e pos.line X.env=pure false:=by rfl)(hw:swappedStores [tg] e X.env=pure none:=by rfl)(h1:(assignEach [tg] X.env).map (·.2)=[assign tg X.env]:=by rfl):PS X (.Assign [tg] e pos) (tAsg te g):=by
 intro p8 s σ H D I h;refine wpAny_Assign_stores (qJ (he p8 s σ H _ I h) λv s1 x H1 I1 r1 q1=>?_) hs hw;rw[h1];exact thn (hg p8 s1 σ H1 x v _ I1 r1 q1) λ_ s2 q=>q
def zc0{e:Expr}{te:TE}{pos':Pos}(hN:X.N.Nodup)(hi:X.N[i]?=some x)(hx:Loc X.env.scope x)(he:PE X e te)(hs:swapsWith e (some (.Name x pos')) pos.line X.env=pure false:=by rfl)(hf:X.fn x=true\/X.env.scope.names.lookup x=some .local:=by walk_at"p") :
  PS X (.Assign [.Name x pos'] e pos) (tAsg te (gName i)):=by
 intro p8 s σ H D I h;refine wpAny_Assign_Name (qJ (he p8 s σ H _ I h) λv s1 y H1 I1 r1 q1=>?_) hs;exact JR I1 hN hi hx r1 (λs2 I2=>⟨_,H1,I2,q1⟩) hf
def ziF(to ti te:TE)(tget:V->V->Hp->VK->Prop)(tip:TIp)(tset:zhp):TS:=λD σ H=>to σ H λo H1=>ti σ H1 λi H2=>tget o i H2 λx H3=>te σ H3 λy H4=>tip x y H4 λz H5=>tset o i z H5 λH6=>D.nx σ H6
def zkL(X:Cx)(t:V->V->Hp->VK->Prop):Prop :=
 ∀(p8:A2)(s:An)(σ:St)(H:Hp)(o i:V)(ov iv:Am)(Q:VK),Inv X p8 σ H s->RelV o ov->RelV i iv->t o i H Q ->
  wpAny (model X.prog X.w) X.A (getItem ov iv) (EP X p8 σ Q) X.xe s
def zhS{o i e:Expr}{to ti te:TE}{tget:V->V->Hp->VK->Prop}{tip:TIp}{tset:zhp}{op:Operator}{tpos:Pos}(ho:PE X o to)(hi:PE X i ti)(hg:zkL X tget)(he:PE X e te)(hp:PIp X op tip)(hs:zj6 X tset)(ha:∀ov iv new,augStore i ov iv new=(do holding [new,ov,iv] (setItem ov iv new);release [new,ov,iv] [];pure .next):=by intros;rfl):PS X (.AugAssign (.Subscript o i tpos) op e pos) (ziF to ti te tget tip tset):=by
 intro p8 s σ H D I h;refine wpAny_AugAssign_SubscriptAny (qJ (ho p8 s σ H _ I h) λov s1 x1 H1 I1 r1 q1=>?_) ha;refine qJ (hi p8 s1 σ H1 _ I1 q1) λiv s2 x2 H2 I2 r2 q2=>?_;refine qJ (hg p8 s2 σ H2 x1 x2 ov iv _ I2 r1 r2 q2) λold s3 x3 H3 I3 r3 q3=>?_;refine qJ (he p8 s3 σ H3 _ I3 q3) λv s4 x4 H4 I4 r4 q4=>?_;refine qJ (hp p8 s4 σ H4 x3 x4 old v _ I4 r3 r4 q4) λnew s5 x5 H5 I5 r5 q5=>?_;exact thn (hs p8 s5 σ H5 x1 x2 x5 ov iv new _ I5 r1 r2 r5 q5) λ_ s6 ⟨H6,I6,q6⟩=>⟨σ,H6,I6,q6⟩
def ipI(f:Int->Int->Int):TIp:=λx y H Q=>iq x λi=>iq y λj=>Q (.int (f i j)) H
def zjQ:PIp X .Add (ipI λi j=>i+j):=by
 intro p8 s σ H x y v u Q I r1 r2 h;let⟨i,j,e1,e2,q⟩:=X2 h;subst e1;subst e2;let⟨t,rfl⟩:=r1;let⟨t',rfl⟩:=r2;exact iadd_int ⟨.int _,H,I.tok _,⟨_,rfl⟩,q⟩
end
section
variable{X:Cx}{pos:Pos}
def zi3(c:TT)(tb:TS):TS:=λD σ H=>∃W:Nat->St->Hp->Prop,(∃m,W m σ H)/\∀m σ H,W m σ H ->
 c σ H λb H1=>if b=true then ∃N:St->Hp->Prop,(∀σ' H',N σ' H'->∃m',m'<m/\W m' σ' H')/\tb {D with nx:=N,ct:=N,bk:=D.nx} σ H1 else D.nx σ H1
def zbD{c:Expr}{body:List Stmt}{tc:TT}{tb:TS}(hp:PassesOwn (model X.prog X.w) X.A X.env X.xe)(hc:PT X c tc)(hb:PSs X body tb):PS X (.While c body [] pos) (zi3 tc tb):=by
 intro p8 s σ H D I h;let⟨W,⟨m0,w0⟩,turn⟩:=h;refine wpAny_While (codeAny_whileLoop (λn s'=>∃σ' H',Inv X p8 σ' H' s'/\W n σ' H') ?_ m0 ⟨σ,H,I,w0⟩);rintro n s1 ⟨σ1,H1,I1,w1⟩;refine cv hp (thn (hc p8 s1 σ1 H1 _ I1 (turn n σ1 H1 w1)) λb s2 ⟨H2,I2,q2⟩=>?_);cases b with
 |true =>
  let⟨N,hN,q2⟩:=q2;rw[aq rfl];refine cv hp (thn (hb p8 s2 σ1 H2 _ I2 q2) λf s3 q3=>?_);cases f with
  |next =>
   let⟨σ3,H3,I3,n3⟩:=q3;let⟨m',hm,w3⟩:=hN σ3 H3 n3;exact⟨m',hm,σ3,H3,I3,w3⟩
  |cont =>
   let⟨σ3,H3,I3,n3⟩:=q3;let⟨m',hm,w3⟩:=hN σ3 H3 n3;exact⟨m',hm,σ3,H3,I3,w3⟩
  |brk=>exact q3
  |ret v=>exact q3
 |false =>
  rw[am aC];exact cw ⟨σ1,H2,I2,q2⟩
end
structure It where
 go:Nat->Hp->Prop
 yld:Nat->Hp->V->Hp->Prop
 stop:Nat->Hp->Prop
def QN(X:Cx)(p8:A2)(H:Hp)(b:Addr):Prop :=
 H b=none/\b≠X.env.locals/\b∉X.fs/\(b∈X.ex\/X.s₀.heap.objs.size<=b)/\(∀x c,X.env.cells.lookup x=some c->c≠b)/\∀p∈X.pn++p8,p.1≠b
def Inv.fpOk{H H':Hp}(I:Inv X p8 σ H s)(hb:s.heap.objs.size<=b)(hn:H' b=none):QN X p8 H' b:=by
 refine⟨hn,dQ (aH I.lt hb),I.nofs hb,.inr (aJ I.sz hb),λx c e z=>?_,λp hp z=>?_⟩
 .obtain⟨v,q⟩:=I.cell x c e;exact absurd (aH q.lt (by rw[z];exact hb)) (cn _)
 .exact absurd (aH (az (I.pin p hp).1) (by rw[z];exact hb)) (cn _)
structure Turn(P:Af)(w:World)(K:A0)(tg:Expr)(J:It)(fp:Ab)(it:Addr)(tn:Nat->Heap->Prop):Prop where
 mem:it∈fp
 obj:∀i h,tn i h->∀b∈fp,∃o,h.get? b=some o/\∀v,o.data≠.cell v
 keep:∀i h h',tn i h->(∀b∈fp,∀o,h.get? b=some o->h'.get? b=some o)->tn i h'
 item:∀(X:Cx),X.prog=P->X.w=w->X.K=K->X.calm=true->∀(i:Nat)(p8:A2)(s:An)(σ:St)(H:Hp)(E:A3),Inv X p8 σ H s->(∀b∈fp,QN X p8 H b)->tn i s.heap->J.go i H ->
  wpAny (model P w) X.A (pyNext (.ref it)) (λr s1=>∃u,r=some u /\
   wpAny (model P w) X.A (letOwnedTupleGo tg (.ref it) u) (λ_ s2=>∃x H',Inv X p8 σ H' s2/\RelV x u/\J.yld i H x H'/\tn (i+1) s2.heap/\∀b∈fp,H' b=none) E s1) E s
 done:∀(X:Cx),X.prog=P->X.w=w->X.K=K->X.calm=true->∀(i:Nat)(p8:A2)(s:An)(σ:St)(H:Hp)(E:A3),Inv X p8 σ H s->(∀b∈fp,QN X p8 H b)->tn i s.heap->J.stop i H ->
  wpAny (model P w) X.A (pyNext (.ref it)) (λr s1=>r=none/\Inv X p8 σ H s1) E s
 self:∀(A:Ao)(i:Nat)(s:An)(Q:A3)(E:A3),tn i s.heap->Q (.ref it) s->wpAny (model P w) A (pyIter (.ref it)) Q E s
abbrev TI:=St->Hp->(It->Hp->Prop)->Prop
def PIE(X:Cx)(p8:A2)(σ:St)(tg:Expr)(R:It->Hp->Prop)(itv:Am)(s2:An):Prop :=
 ∃(it:Addr)(fp:Ab)(tn:Nat->Heap->Prop)(J:It)(H':Hp),itv=.ref it/\Inv X p8 σ H' s2/\Turn X.prog X.w X.K tg J fp it tn/\tn 0 s2.heap/\(∀b∈fp,QN X p8 H' b)/\R J H'
def PI(X:Cx)(tg iter:Expr)(wi:TI):Prop :=
 ∀(p8:A2)(s:An)(σ:St)(H:Hp)(R:It->Hp->Prop),Inv X p8 σ H s->wi σ H R ->
  wpAny (model X.prog X.w) X.A (eval iter X.env) (λv s1=>wpAny (model X.prog X.w) X.A (pyIter v) (PIE X p8 σ tg R) X.xe s1) X.xe s
theorem zcb{it:Addr}{o:Obj}{n:String}{vs:Ac}{Q:Ag}(ho:s.heap.get? it=some o)(hc:o.cls=.type n)(hd:o.data=.fields vs)(hn:["enumerate","zip","dict_itemiterator","dict_reverseitemiterator","odict_iterator","itertools.zip_longest","itertools.pairwise"].contains n=false)(hQ:Q () s):wpAny M A (letOwnedTupleGo tg (.ref it) u) Q E s:=by
 unfold letOwnedTupleGo;cases tg<;>first
  |exact aE hQ
  | (cases u<;>first
    |exact aE hQ
    | (refine ae (wpAny_load ho ?_)
       rw[hc,hd];show wpAny M A (if (["enumerate","zip","dict_itemiterator","dict_reverseitemiterator","odict_iterator","itertools.zip_longest","itertools.pairwise"].contains n&&vs[0]? == some (rawInt _))=true then _ else _) Q E s
       rw[am (by intro h;rw[hn,Bool.false_and]at h;cases h)];exact aE hQ))
noncomputable def Itl(K:A0)(a:Addr):It :=
 ⟨λi H=>∃xs x,SqL K H a xs/\xs[i]?=some x,λi H x H'=>H'=H/\∀xs,SqL K H a xs->xs[i]?=some x,λi H=>∃xs,SqL K H a xs/\xs.length<=i⟩
noncomputable def Itt(K:A0)(a:Addr):It :=
 ⟨λi H=>∃xs x,SqT K H a xs/\xs[i]?=some x,λi H x H'=>H'=H/\∀xs,SqT K H a xs->xs[i]?=some x,λi H=>∃xs,SqT K H a xs/\xs.length<=i⟩
noncomputable def Itr(lo:Int)(n:Nat):It:=⟨λi _=>i<n,λi H x H'=>H'=H/\x=.int (lo+i),λi _=>n<=i⟩
def zeB(a it:Addr):Turn P w K tg (Itl K a) [it] it (λi h=>h.IsListIter it a i) where
 mem:=by simp
 obj:=λi h st b hb=>by
  have e:b=it:=by simpa using hb
  subst e;let⟨o,e,c,d⟩:=st;exact⟨o,e,λv z=>by rw[d]at z;cases z⟩
 keep:=λi h h' st k=>st.at λo e=>k it (by simp) o e
 item:=by
  intro X hP hw hK hc i p8 s σ H E I hf st hg;subst hP hw hK;let⟨xs,x,hq,hx⟩:=hg;let⟨pS,rv,p,hz⟩:=I.list hq;let⟨u,hu,ru⟩:=rv.get hx;let⟨f0,f1,f2,f3,f4,f5⟩:=hf it (by simp);refine wpAny_pyNext_list_item st p.isList (x:=u) (by simpa using hu) λh' st' sb=>?_;have I1:Inv X p8 σ H {s with heap:=h'}:=I.turned (t':=s.toks) (λb o hb e=>(sb.2 b hb).trans e) f0 f1 f3 f4 f5;let⟨o,e,c,d⟩:=id st';exact⟨u,rfl,zcb (s:={s with heap:=h'}) e c d (by decide) ⟨x,H,I1,ru,⟨rfl,λys hy=>by rw[I.list_inj hy hq];exact hx⟩,st',λb hb=>(hf b hb).1⟩⟩
 done:=by
  intro X hP hw hK hc i p8 s σ H E I hf st hg;subst hP hw hK;let⟨xs,hq,hx⟩:=hg;let⟨pS,rv,p,hz⟩:=I.list hq;let⟨f0,f1,f2,f3,f4,f5⟩:=hf it (by simp);have hl:=rv.length;exact wpAny_pyNext_list_end (I.ok.hd hc) st p.isList (by simp;lia) λh' eb=>⟨rfl,I.turned (t':=s.toks) (λb o hb e=>eb b o hb e) f0 f1 f3 f4 f5⟩
 self:=λ_ _ _ _ _ st h=>wpAny_pyIter_listiter st h
def zcz(a it:Addr):Turn P w K tg (Itt K a) [it] it (λi h=>h.IsTupleIter it a i) where
 mem:=by simp
 obj:=λi h st b hb=>by
  have e:b=it:=by simpa using hb
  subst e;let⟨o,e,c,d⟩:=st;exact⟨o,e,λv z=>by rw[d]at z;cases z⟩
 keep:=λi h h' st k=>st.at λo e=>k it (by simp) o e
 item:=by
  intro X hP hw hK hc i p8 s σ H E I hf st hg;subst hP hw hK;let⟨xs,x,hq,hx⟩:=hg;let⟨pS,rv,p,hz⟩:=I.tuple hq;let⟨u,hu,ru⟩:=rv.get hx;let⟨f0,f1,f2,f3,f4,f5⟩:=hf it (by simp);refine wpAny_pyNext_tuple_item st (show s.heap.IsTuple a pS.toArray from p) (x:=u) (by simpa using hu) λh' st' sb=>?_;have I1:Inv X p8 σ H {s with heap:=h'}:=I.turned (t':=s.toks) (λb o hb e=>(sb.2 b hb).trans e) f0 f1 f3 f4 f5;let⟨o,e,c,d⟩:=id st';exact⟨u,rfl,zcb (s:={s with heap:=h'}) e c d (by decide) ⟨x,H,I1,ru,⟨rfl,λys hy=>by rw[I.tuple_inj hy hq];exact hx⟩,st',λb hb=>(hf b hb).1⟩⟩
 done:=by
  intro X hP hw hK hc i p8 s σ H E I hf st hg;subst hP hw hK;let⟨xs,hq,hx⟩:=hg;let⟨pS,rv,p,hz⟩:=I.tuple hq;let⟨f0,f1,f2,f3,f4,f5⟩:=hf it (by simp);have hl:=rv.length;exact wpAny_pyNext_tuple_end (I.ok.hd hc) st (show s.heap.IsTuple a pS.toArray from p) (by simp;lia) λh' eb=>⟨rfl,I.turned (t':=s.toks) (λb o hb e=>eb b o hb e) f0 f1 f3 f4 f5⟩
 self:=λ_ _ _ _ _ st h=>wpAny_pyIter_tupleiter st h
def zcA(it:Addr)(lo:Int)(n:Nat):Turn P w K tg (Itr lo n) [it] it (λi h=>IsRangeIter h it (lo+(i:Nat)*1) ((n:Int)-(i:Nat)) 1) where
 mem:=by simp
 obj:=λi h st b hb=>by
  have e:b=it:=by simpa using hb
  subst e;exact⟨_,st,λv z=>by
   have z':Data.fields _=Data.cell v:=z;cases z'⟩
 keep:=λi h h' st k=>k it (by simp) _ st
 item:=by
  intro X hP hw hK hc i p8 s σ H E I hf st hg;subst hP hw hK;let⟨f0,f1,f2,f3,f4,f5⟩:=hf it (by simp);have W:=Walks.range (prog:=X.prog) (w:=X.w) (I.ok.hd hc) it lo 1 n;refine W.item i s _ _ hg st λv h' tk hv st' kk=>?_;let⟨t,rfl⟩:=hv;have I1:Inv X p8 σ H {s with heap:=h',toks:=tk}:=I.turned (λb o hb e=>kk b o (by simpa using hb) e) f0 f1 f3 f4 f5;refine⟨_,rfl,zcb (s:={s with heap:=h',toks:=tk}) (n:="range_iterator") st' rfl rfl (by decide) ⟨.int (lo+i),H,I1,⟨t,?_⟩,⟨rfl,rfl⟩,st',λb hb=>(hf b hb).1⟩⟩;rw[Int.mul_one]
 done:=by
  intro X hP hw hK hc i p8 s σ H E I hf st hg;subst hP hw hK;let⟨f0,f1,f2,f3,f4,f5⟩:=hf it (by simp);exact wpAny_pyNext_range_end (I.ok.hd hc) st (by have:n<=i:=hg;lia) λh' eb=>⟨rfl,I.turned (t':=s.toks) (λb o hb e=>eb b o hb e) f0 f1 f3 f4 f5⟩
 self:=λ_ _ _ _ _ st h=>wpAny_pyIter_rangeiter st h
section
variable{X:Cx}{tg:Expr}
def zgi{R:It->Hp->Prop}{lo hi:Int}{t u v:Tok}{tk:Nat}(I:Inv X p8 σ H s)(h1:-(2^62)<=lo)(h2:lo<2^62)(h3:-(2^62)<=hi)(h4:hi<2^62)(q:R (Itr lo (hi-lo).toNat) H):wpAny (model X.prog X.w) X.A (pyIter (.ref s.heap.objs.size)) (PIE X p8 σ tg R) E {s with heap:=s.heap.push {cls:=.type "range",data:=.fields #[.int lo t,.int hi u,.int 1 v]},toks:=tk}:=by
 refine wpAny_pyIter_range (IsRange.new ..) (small_one h1 h2 h3 h4) ?_;have I1:Inv X p8 σ H {s with heap:=s.heap.push {cls:=.type "range",data:=.fields #[.int lo t,.int hi u,.int 1 v]},toks:=tk}:=I.kept λb o e=>ah _ e;refine⟨(s.heap.push {cls:=.type "range",data:=.fields #[.int lo t,.int hi u,.int 1 v]}).objs.size,[(s.heap.push {cls:=.type "range",data:=.fields #[.int lo t,.int hi u,.int 1 v]}).objs.size],_,_,H,rfl,
  I1.kept (t':=tk) λb o e=>ah _ e,zcA _ lo (hi-lo).toNat,?_,λb hb=>?_,q⟩
 .have e1:lo+((0:Nat):Int)*1=lo:=by simp
  have e2:(((hi-lo).toNat:Nat):Int)-((0:Nat):Int)=Builtin.Range.rangeSize lo hi 1:=by rw[rangeSize_one];split<;>lia
  show IsRangeIter _ _ (lo+((0:Nat):Int)*1) ((((hi-lo).toNat:Nat):Int)-((0:Nat):Int)) 1
  rw[e1,e2];exact aF _ rfl
 .have e:b=(s.heap.push {cls:=.type "range",data:=.fields #[.int lo t,.int hi u,.int 1 v]}).objs.size:=by simpa using hb
  subst e;exact I1.fpOk (ar _) (I1.hok.fresh (ar _))
def iRng1(ta:TA):TI:=λσ H R=>ta σ H λvs H1=>lq vs λv=>iq v λj=>-(2^62)<=j/\j<2^62/\R (Itr 0 j.toNat) H1
def ze2{a:Expr}{ta:TA}{p pos:Pos}(hg:Gl X "range")(hm:X.mg "range"=none)(ha:PA X [a] ta)(hs:starEach [a] X.env=[(false,eval a X.env)]:=by rfl):PI X tg (.Call (.Name "range" p) [a] [] pos) (iRng1 ta):=by
 intro p8 s σ H R I h;refine Call_ (vQ I hg hm boot_range (bH (vn (ha pos p8 s σ H _ I h) λus s1 vs H1 I1 r1 q1=>?_) hs rfl));let⟨v,e,q0⟩:=zgH q1;clear q1;let⟨j,e2,q1,q2,q⟩:=Qe q0;subst e2;subst e;cases r1 with
 |cons r rr =>
  cases rr;let⟨t,rfl⟩:=r;exact call_range_1 (zgi I1 (by lia) (by lia) q1 q2 (by simpa using q))
def tFor(wi:TI)(g:TG)(tb:TS):TS:=λD σ H=>wi σ H λJ H1=>∃W:Nat->Nat->St->Hp->Prop,(∃m,W 0 m σ H1)/\∀i m σ H,W i m σ H ->
 (J.stop i H/\D.nx σ H)\/(J.go i H/\∃N:St->Hp->Prop,(∀σ' H',N σ' H'->∃m',m'<m/\W (i+1) m' σ' H')/\∀x H',J.yld i H x H'->g x σ H' λσ2 H2=>tb {D with nx:=N,ct:=N,bk:=D.nx} σ2 H2)
noncomputable def Xw(fp:Ab)(h:Heap):List (Addr×Obj):=fp.filterMap λb=>(h.get? b).map λo=>(b,o)
def wM{fp:Ab}{h:Heap}{o:Obj}(hb:b∈fp)(e:h.get? b=some o):(b,o)∈Xw fp h:=ie.mpr ⟨b,hb,by rw[e];rfl⟩
def zfb{fp:Ab}{h:Heap}{p:Addr×Obj}(hp:p∈Xw fp h):p.1∈fp/\h.get? p.1=some p.2:=by
 let⟨b,hb,e⟩:=ie.mp hp;cases q:h.get? b with
 |none=>rw[q]at e;cases e
 |some o =>
  rw[q]at e;have e':(b,o)=p:=aO e;subst e';exact⟨hb,q⟩
def Inv.pinned{fp:Ab}(I:Inv X p8 σ H s)(hf:∀b∈fp,QN X p8 H b)(ho:∀b∈fp,∃o,s.heap.get? b=some o/\∀v,o.data≠.cell v):Inv X (p8++Xw fp s.heap) σ H s :=
 I.pins_of λp hp=>(ay.mp hp).elim (λz=>I.pin p (aX _ z)) λz=>by
  let⟨hb,e⟩:=zfb z;let⟨f0,f1,f2,_⟩:=hf p.1 hb;let⟨o,e',d⟩:=ho p.1 hb;rw[e]at e';cases e';exact⟨e,f0,f1,f2,d⟩
def Inv.unpinned{p8 pl:A2}(I:Inv X (p8++pl) σ H s):Inv X p8 σ H s:=I.pins_of λp hp=>I.pin p (aX _ (bz _ hp))
theorem qU{iter:Expr}{body:List Stmt}{wi:TI}{g:TG}{tb:TS}(hp:PassesOwn (model X.prog X.w) X.A X.env X.xe)(hc:X.calm=true)(hi:PI X tg iter wi)(hg:PG X tg g)(hb:PSs X body tb)(hs:∀x,foldedSetIterable iter X.env x=pure x:=by intro _;rfl):PS X (.For tg iter body [] pos) (tFor wi g tb):=by
 intro p8 s σ H D I h;refine wpAny_For (thn (hi p8 s σ H _ I h) λv s1 h1=>thn h1 λitv s2 h2=>?_) hs;let⟨it,fp,tn,J,H2,e,I2,T,st2,f2,W,⟨m0,w0⟩,turn⟩:=h2;subst e;have stat:∀{H':Hp},(∀b∈fp,H' b=none)->∀b∈fp,QN X p8 H' b:=λhn b hb=>⟨hn b hb,(f2 b hb).2⟩;refine codeAny_forLoop_any (λn s'=>∃i σ' H',Inv X p8 σ' H' s'/\tn i s'.heap/\(∀b∈fp,H' b=none)/\W i n σ' H') ?_ m0 ⟨0,σ,H2,I2,st2,λb hb=>(f2 b hb).1,w0⟩;rintro n s3 ⟨i,σ3,H3,I3,st3,fr3,w3⟩;rcases turn i n σ3 H3 w3 with⟨stop,qn⟩|⟨go,N,hN,step⟩
 .refine cv hp (thn (T.done X rfl rfl rfl hc i p8 s3 σ3 H3 X.xe I3 (stat fr3) st3 stop) λr s4 ⟨hr,I4⟩=>?_);subst hr;exact cw ⟨σ3,H3,I4,qn⟩
 .refine cv hp (thn (T.item X rfl rfl rfl hc i p8 s3 σ3 H3 X.xe I3 (stat fr3) st3 go) λr s4 ⟨u,hr,h4⟩=>?_);subst hr;refine cv hp (thn h4 λ_ s5 ⟨x,H5,I5,r5,y5,st5,fr5⟩=>?_);have I5':=I5.pinned (stat fr5) (T.obj _ _ st5);refine cv hp (thn (hg _ s5 σ3 H5 x u _ I5' r5 (step x H5 y5)) λ_ s6 ⟨σ6,H6,I6,q6⟩=>?_);refine cv hp (thn (hb _ s6 σ6 H6 _ I6 q6) λf s7 q7=>?_);have again:∀{σ7:St}{H7:Hp},Inv X (p8++Xw fp s5.heap) σ7 H7 s7->N σ7 H7->∃m,m<n/\∃i σ' H',Inv X p8 σ' H' s7/\tn i s7.heap/\(∀b∈fp,H' b=none)/\W i m σ' H':=λ{σ7 H7} I7 n7=>by
   let⟨m',hm,w7⟩:=hN σ7 H7 n7;refine⟨m',hm,i+1,σ7,H7,I7.unpinned,T.keep _ _ _ st5 λb hb o e=>(I7.pin (b,o) (aX _ (aX _ (wM hb e)))).1,λb hb=>?_,w7⟩;let⟨o,e,d⟩:=T.obj _ _ st5 b hb;exact(I7.pin (b,o) (aX _ (aX _ (wM hb e)))).2.1
  cases f with
  |next=>let⟨σ7,H7,I7,n7⟩:=q7;exact again I7 n7
  |cont=>let⟨σ7,H7,I7,n7⟩:=q7;exact again I7 n7
  |brk=>let⟨σ7,H7,I7,q7⟩:=q7;exact⟨σ7,H7,I7.unpinned,q7⟩
  |ret v=>let⟨x7,σ7,H7,I7,r7,q7⟩:=q7;exact⟨x7,σ7,H7,I7.unpinned,r7,q7⟩
end
abbrev R2:=V->V->Hp->VK->Prop
def OpR(X:Cx)(f:Al)(r:R2):Prop :=
 ∀(p8:A2)(s:An)(σ:St)(H:Hp)(x y:V)(v u:Am)(Q:VK),Inv X p8 σ H s->RelV x v->RelV y u->r x y H Q ->
  wpAny (model X.prog X.w) X.A (f v u) (EP X p8 σ Q) X.xe s
def UnR(X:Cx)(f:Value->Sem Value)(r:V->Hp->VK->Prop):Prop :=
 ∀(p8:A2)(s:An)(σ:St)(H:Hp)(x:V)(v:Am)(Q:VK),Inv X p8 σ H s->RelV x v->r x H Q ->
  wpAny (model X.prog X.w) X.A (f v) (EP X p8 σ Q) X.xe s
def CallR(X:Cx)(f:Am)(r:List V->Hp->VK->Prop):Prop :=
 ∀(p8:A2)(s:An)(σ:St)(H:Hp)(xs:Ap)(us:A7)(Q:VK),Inv X p8 σ H s->Vals xs us->r xs H Q ->
  wpAny (model X.prog X.w) X.A (call f us) (EP X p8 σ Q) X.xe s
def zk9(X:Cx)(r:V->Hp->(Bool->Hp->Prop)->Prop):Prop :=
 ∀(p8:A2)(s:An)(σ:St)(H:Hp)(x:V)(v:Am)(Q:Bool->Hp->Prop),Inv X p8 σ H s->RelV x v->r x H Q ->
  wpAny (model X.prog X.w) X.A (truthy v) (TP X p8 σ Q) X.xe s
def tOp(r:R2)(ta tb:TE):TE:=λσ H Q=>ta σ H λx H1=>tb σ H1 λy H2=>r x y H2 Q
def tUn(r:V->Hp->VK->Prop)(ta:TE):TE:=λσ H Q=>ta σ H λx H1=>r x H1 Q
def rI(C:Int->Int->Prop)(g:Int->Int->V):R2:=λx y H Q=>iq x λi=>iq y λj=>C i j/\Q (g i j) H
def rI0(g:Int->Int->V):R2:=λx y H Q=>iq x λi=>iq y λj=>Q (g i j) H
def rU(g:Int->V):V->Hp->VK->Prop:=λx H Q=>iq x λi=>Q (g i) H
section
variable{X:Cx}{a b c:Expr}{ta tb tc:TE}{pos:Pos}
def zj2(ha:PE X a ta)(hb:PE X b tb){R:V->V->Hp->Prop}(I:Inv X p8 σ H s)(h:ta σ H λx H1=>tb σ H1 λy H2=>R x y H2)(hf:∀v u s2 x y H2,Inv X p8 σ H2 s2->RelV x v->RelV y u->R x y H2->wpAny (model X.prog X.w) X.A (f v u) Q X.xe s2) :
  wpAny (model X.prog X.w) X.A (eval a X.env) (λv s₁=>wpAny (model X.prog X.w) X.A (eval b X.env) (λu s₂=>wpAny (model X.prog X.w) X.A (f v u) Q X.xe s₂) X.xe s₁) X.xe s:=by
 refine qJ (ha p8 s σ H _ I h) λv s1 x H1 I1 r1 q1=>?_;refine qJ (hb p8 s1 σ H1 _ I1 q1) λu s2 y H2 I2 r2 q2=>?_;exact hf v u s2 x y H2 I2 r1 r2 q2
def zG{op:Operator}{r:R2}(ho:OpR X (binaryOp op) r)(ha:PE X a ta)(hb:PE X b tb):PE X (.BinOp a op b pos) (tOp r ta tb):=by
 intro p8 s σ H Q I h;exact wpAny_BinOp (zj2 ha hb I h λv u s2 x y H2 I2 rx ry q=>ho p8 s2 σ H2 x y v u Q I2 rx ry q)
def QZ{op:UnaryOp}{r:V->Hp->VK->Prop}(ho:UnR X (unaryOp op) r)(ha:PE X a ta):PE X (.UnaryOp op a pos) (tUn r ta):=by
 intro p8 s σ H Q I h;exact UnaryOp_ (qJ (ha p8 s σ H _ I h) λv s1 x H1 I1 r1 q1=>ho p8 s1 σ H1 x v Q I1 r1 q1)
def opI{C:Int->Int->Prop}{g:Int->Int->Int}(rule:∀(i j:Int)(t u:Tok)(s:An)(Q:A3)(E:A3),C i j->Q (.int (g i j) s.toks) {s with toks:=s.toks+1}->wpAny (model X.prog X.w) X.A (f (.int i t) (.int j u)) Q E s) :
  OpR X f (rI C λi j=>.int (g i j)):=by
 intro p8 s σ H x y v u Q I rx ry h;let⟨i,j,rfl,rfl,hc,q⟩:=X2 h;let⟨t,rfl⟩:=rx;let⟨t',rfl⟩:=ry;exact rule i j t t' s _ _ hc ⟨.int (g i j),H,I.tok _,⟨_,rfl⟩,q⟩
def zkx{g:Int->Int->Int}(rule:∀(i j:Int)(t u:Tok)(s:An)(Q:A3)(E:A3),Q (.int (g i j) s.toks) {s with toks:=s.toks+1}->wpAny (model X.prog X.w) X.A (f (.int i t) (.int j u)) Q E s) :
  OpR X f (rI0 λi j=>.int (g i j)):=by
 intro p8 s σ H x y v u Q I rx ry h;let⟨i,j,rfl,rfl,q⟩:=X2 h;let⟨t,rfl⟩:=rx;let⟨t',rfl⟩:=ry;exact rule i j t t' s _ _ ⟨.int (g i j),H,I.tok _,⟨_,rfl⟩,q⟩
def zh0{g:Int->Int->Bool}(rule:∀(i j:Int)(t u:Tok)(s:An)(Q:A3)(E:A3),Q (.bool (g i j)) s->wpAny (model X.prog X.w) X.A (f (.int i t) (.int j u)) Q E s) :
  OpR X f (rI0 λi j=>.bl (g i j)):=by
 intro p8 s σ H x y v u Q I rx ry h;let⟨i,j,rfl,rfl,q⟩:=X2 h;let⟨t,rfl⟩:=rx;let⟨t',rfl⟩:=ry;exact rule i j t t' s _ _ ⟨.bl (g i j),H,I,rfl,q⟩
def zlb(i j:Int):Prop:=0<j/\j<1073741824
def zkP(i j:Int):Prop:=0<=j/\j<=1000000/\i.natAbs<2^64
def CMul(i j:Int):Prop:=(-(2^64)<i/\i<2^64)\/(-(2^64)<j/\j<2^64)
def CMul.ok{i j:Int}(h:CMul i j):IntMulOk i j:=by
 rcases h with⟨h1,h2⟩|⟨h1,h2⟩
 .exact .of_left (intBits_le_64 h1 h2)
 .exact .of_right (intBits_le_64 h1 h2)
def op_add:OpR X (binaryOp .Add) (rI0 λi j=>.int (i+j)):=zkx λ_ _ _ _ _ _ _ q=>add_int q
def XE:OpR X (binaryOp .Sub) (rI0 λi j=>.int (i-j)):=zkx λ_ _ _ _ _ _ _ q=>sub_int q
def zhY:OpR X (binaryOp .FloorDiv) (rI zlb λi j=>.int (i/j)):=opI λi j _ _ _ _ _ hc q=>by
 have h1:(0:Int)<j:=hc.1;have h2:j<1073741824:=hc.2;exact floordiv_int (by lia) (by rw[cx i (by lia)];exact q) (.inl (gd (by lia)))
def ju:OpR X (binaryOp .Mod) (rI (λ_ j=>0<j) λi j=>.int (i%j)):=opI λi j _ _ _ _ _ hc q=>by
 have h1:(0:Int)<j:=hc;exact mod_int' (by lia) (by rw[Int.fmod_eq_emod_of_nonneg i (by lia)];exact q)
def zju:OpR X (binaryOp .Pow) (rI zkP λi j=>.int (i^j.toNat)):=opI λ_ _ _ _ _ _ _ hc q=>pow_int_small hc.1 hc.2.1 hc.2.2 q
def unI{f:Value->Sem Value}{g:Int->Int}(rule:∀(i:Int)(t:Tok)(s:An)(Q:A3)(E:A3),Q (.int (g i) s.toks) {s with toks:=s.toks+1}->wpAny (model X.prog X.w) X.A (f (.int i t)) Q E s) :
  UnR X f (rU λi=>.int (g i)):=by
 intro p8 s σ H x v Q I rx h;let⟨i,rfl,q⟩:=Qe h;let⟨t,rfl⟩:=rx;exact rule i t s _ _ ⟨.int (g i),H,I.tok _,⟨_,rfl⟩,q⟩
def vm:UnR X (unaryOp .USub) (rU λi=>.int (-i)):=unI λ_ _ _ _ _ q=>neg_int q
end
noncomputable def zkg:V->V->Bool
 | .non,.non=>true | .non,.int _=>true | .int _,.non=>true | .non,.bl _=>true | .bl _,.non=>true | .non,.str _=>true | .str _,.non=>true
 | .int _,.int _=>true | .bl _,.bl _=>true | .str _,.str _=>true | .byt _,.byt _=>true
 | .int _,.str _=>true | .str _,.int _=>true | .bl _,.str _=>true | .str _,.bl _=>true
 |_,_=>false
def rEq:R2:=λx y H Q=>zkg x y=true/\Q (.bl (decide (x=y))) H
def rNe:R2:=λx y H Q=>zkg x y=true/\Q (.bl (!decide (x=y))) H
def zel{i j:Int}:decide (V.int i=V.int j)=(i == j):=by
 rw[d0];simp
def zha{i j:Bool}:decide (V.bl i=V.bl j)=(i == j):=by
 rw[d0];simp
def zek{i j:Str}:decide (V.str i=V.str j)=(i == j):=by
 rw[d0];simp
def zem{i j:Array UInt8}:decide (V.byt i=V.byt j)=(i.toList == j.toList):=by
 rw[d0];cases i;cases j;simp
section
variable{X:Cx}{a b c:Expr}{ta tb tc:TE}{pos:Pos}
def z8{Q:VK}{k k':Bool}(I:Inv X p8 σ H s)(q:Q (.bl k) H)(e:k=k'):EP X p8 σ Q (.bool k') s:=by
 subst e;exact⟨.bl k,H,I,rfl,q⟩
def op_eq:OpR X (compareOp .Eq) rEq:=by
 intro p8 s σ H x y v u Q I rx ry h;let⟨hs,q⟩:=h;cases x with
 |non =>
  cases rx;cases y with
  |non=>cases ry;exact PySem.EqNone.eq_none_none (z8 I q (by simp))
  |bl j=>cases ry;exact PySem.EqNone.eq_none_bool (z8 I q (by simp))
  |int j=>let⟨t',rfl⟩:=ry;exact PySem.EqNone.eq_none_int (z8 I q (by simp))
  |str j=>let⟨t',rfl⟩:=ry;exact PySem.EqNone.eq_none_str (z8 I q (by simp))
  |_=>exact absurd (show false=true from hs) aC
 |bl i =>
  cases rx;cases y with
  |non=>cases ry;exact PySem.EqNone.eq_bool_none (z8 I q (by simp))
  |bl j=>cases ry;exact eq_bool (z8 I q zha)
  |str j=>let⟨t',rfl⟩:=ry;exact PySem.EqMixed.eq_bool_str (z8 I q (by simp))
  |_=>exact absurd (show false=true from hs) aC
 |int i =>
  let⟨t,rfl⟩:=rx;cases y with
  |non=>cases ry;exact PySem.EqNone.eq_int_none (z8 I q (by simp))
  |int j=>let⟨t',rfl⟩:=ry;exact eq_int (z8 I q zel)
  |str j=>let⟨t',rfl⟩:=ry;exact PySem.EqMixed.eq_int_str (z8 I q (by simp))
  |_=>exact absurd (show false=true from hs) aC
 |str i =>
  let⟨t,rfl⟩:=rx;cases y with
  |non=>cases ry;exact PySem.EqNone.eq_str_none (z8 I q (by simp))
  |bl j=>cases ry;exact PySem.EqMixed.eq_str_bool (z8 I q (by simp))
  |int j=>let⟨t',rfl⟩:=ry;exact PySem.EqMixed.eq_str_int (z8 I q (by simp))
  |str j=>let⟨t',rfl⟩:=ry;exact eq_str (z8 I q zek)
  |_=>exact absurd (show false=true from hs) aC
 |byt i =>
  let⟨t,rfl⟩:=rx;cases y with
  |byt j=>let⟨t',rfl⟩:=ry;exact PySem.W.eq_bytes (z8 I q zem)
  |_=>exact absurd (show false=true from hs) aC
 |_=>cases y<;>exact absurd (show false=true from hs) aC
def op_ne:OpR X (compareOp .NotEq) rNe:=by
 intro p8 s σ H x y v u Q I rx ry h;let⟨hs,q⟩:=h;cases x with
 |non =>
  cases rx;cases y with
  |non=>cases ry;exact PySem.EqNone.ne_none_none (z8 I q (by simp))
  |bl j=>cases ry;exact PySem.EqNone.ne_none_bool (z8 I q (by simp))
  |int j=>let⟨t',rfl⟩:=ry;exact PySem.EqNone.ne_none_int (z8 I q (by simp))
  |str j=>let⟨t',rfl⟩:=ry;exact PySem.EqNone.ne_none_str (z8 I q (by simp))
  |_=>exact absurd (show false=true from hs) aC
 |bl i =>
  cases rx;cases y with
  |non=>cases ry;exact PySem.EqNone.ne_bool_none (z8 I q (by simp))
  |bl j=>cases ry;exact ne_bool (z8 I q (bp not zha))
  |str j=>let⟨t',rfl⟩:=ry;exact PySem.EqMixed.ne_bool_str (z8 I q (by simp))
  |_=>exact absurd (show false=true from hs) aC
 |int i =>
  let⟨t,rfl⟩:=rx;cases y with
  |non=>cases ry;exact PySem.EqNone.ne_int_none (z8 I q (by simp))
  |int j=>let⟨t',rfl⟩:=ry;exact ne_int (z8 I q (bp not zel))
  |str j=>let⟨t',rfl⟩:=ry;exact PySem.EqMixed.ne_int_str (z8 I q (by simp))
  |_=>exact absurd (show false=true from hs) aC
 |str i =>
  let⟨t,rfl⟩:=rx;cases y with
  |non=>cases ry;exact PySem.EqNone.ne_str_none (z8 I q (by simp))
  |bl j=>cases ry;exact PySem.EqMixed.ne_str_bool (z8 I q (by simp))
  |int j=>let⟨t',rfl⟩:=ry;exact PySem.EqMixed.ne_str_int (z8 I q (by simp))
  |str j=>let⟨t',rfl⟩:=ry;exact ne_str (z8 I q (bp not zek))
  |_=>exact absurd (show false=true from hs) aC
 |byt i =>
  let⟨t,rfl⟩:=rx;cases y with
  |byt j=>let⟨t',rfl⟩:=ry;exact PySem.W.ne_bytes (z8 I q (bp not zem))
  |_=>exact absurd (show false=true from hs) aC
 |_=>cases y<;>exact absurd (show false=true from hs) aC
def op_lt:OpR X (compareOp .Lt) (rI0 λi j=>.bl (decide (i<j))):=zh0 λ_ _ _ _ _ _ _ q=>lt_int q
def op_le:OpR X (compareOp .LtE) (rI0 λi j=>.bl (decide (i<=j))):=zh0 λ_ _ _ _ _ _ _ q=>le_int q
def op_gt:OpR X (compareOp .Gt) (rI0 λi j=>.bl (decide (j<i))):=zh0 λ_ _ _ _ _ _ _ q=>gt_int q
def op_ge:OpR X (compareOp .GtE) (rI0 λi j=>.bl (decide (j<=i))):=zh0 λ_ _ _ _ _ _ _ q=>ge_int q
def ze7:OpR X (compareOp .In) (λx y H Q=>∃i j,x=.str i/\y=.str j/\Q (.bl (!(Builtin.Str.occurrences j i 0 j.length 1).isEmpty)) H):=by
 intro p8 s σ H x y v u Q I rx ry h;let⟨i,j,rfl,rfl,q⟩:=h;let⟨t,rfl⟩:=rx;let⟨t',rfl⟩:=ry;exact in_str (z8 I q rfl)
def op_isN:OpR X (compareOp .Is) (λx y H Q=>nq y (Q (.bl (decide (x=.non))) H)):=by
 intro p8 s σ H x y v u Q I rx ry h;let⟨rfl,q⟩:=zd9 h;cases ry;refine is_none_gen (z8 I q ?_);cases x<;>first
  |(cases rx;rfl)
  |(let⟨t,rfl⟩:=rx;rfl)
def op_notN:OpR X (compareOp .IsNot) (λx y H Q=>nq y (Q (.bl (!decide (x=.non))) H)):=by
 intro p8 s σ H x y v u Q I rx ry h;let⟨rfl,q⟩:=zd9 h;cases ry;refine isnot_none_gen (z8 I q ?_);cases x<;>first
  |(cases rx;rfl)
  |(let⟨t,rfl⟩:=rx;rfl)
def OpR.or{r r':R2}(h:OpR X f r)(h':OpR X f r'):OpR X f (λx y H Q=>r x y H Q\/r' x y H Q):=by
 intro p8 s σ H x y v u Q I rx ry q;rcases q with q|q
 .exact h p8 s σ H x y v u Q I rx ry q
 .exact h' p8 s σ H x y v u Q I rx ry q
def zu(b:Expr)(h:op≠.In:=by decide)(h2:op≠.NotIn:=by decide):behindInMarks op b=false:=by
 have e1:(op == CmpOp.In)=false:=by cases op<;>first|rfl|exact absurd rfl h
 have e2:(op == CmpOp.NotIn)=false:=by cases op<;>first|rfl|exact absurd rfl h2
 cases b<;>simp[behindInMarks,e1,e2]
def xa{r:R2}(ho:OpR X (compareOp op) r)(ha:PE X a ta)(hb:PE X b tb)(hm:behindInMarks op b=false):PE X (.Compare a [op] [b] pos) (tOp r ta tb):=by
 intro p8 s σ H Q I h;exact wpAny_Compare1 (zj2 ha hb I h λv u s2 x y H2 I2 rx ry q=>ho p8 s2 σ H2 x y v u Q I2 rx ry q) hm
def tTest(t:TE):TT:=λσ H Q=>t σ H λx H'=>bq x λk=>Q k H'
def zo{r:R2}(ho:OpR X (compareOp op) r)(ha:PE X a ta)(hb:PE X b tb)(hm:behindInMarks op b=false):PT X (.Compare a [op] [b] pos) (tTest (tOp r ta tb)):=by
 intro p8 s σ H Q I h;refine wpAny_isTrue_Compare1 (qJ (ha p8 s σ H _ I h) λv s1 x H1 I1 r1 q1=>qJ (hb p8 s1 σ H1 _ I1 q1) λu s2 y H2 I2 r2 q2 =>
  thn (ho p8 s2 σ H2 x y v u _ I2 r1 r2 q2) λc s3 ⟨z,H3,I3,r3,q3⟩=>?_) hm
 let⟨k,e,q3⟩:=Jb q3;subst e;cases r3;exact bL ⟨H3,I3,q3⟩
def tChain(r r':R2)(ta tb tc:TE):TE:=λσ H Q=>ta σ H λx H1=>tb σ H1 λy H2=>r x y H2 λz H3=>bq z λk =>
 (if k=true then tc σ H3 λw' H4=>r' y w' H4 Q else Q (.bl false) H3)
theorem jB{op op':CmpOp}{r r':R2}(ho:OpR X (compareOp op) r)(ho':OpR X (compareOp op') r')(ha:PE X a ta)(hb:PE X b tb)(hc:PE X c tc)(hm:lastMarks [op,op'] [b,c]=false:=by with_unfolding_all rfl):PT X (.Compare a [op,op'] [b,c] pos) (tTest (tChain r r' ta tb tc)):=by
 intro p8 s σ H Q I h;refine isTrue_chain (qJ (ha p8 s σ H _ I h) λv s1 x H1 I1 r1 q1=>test_link (qJ (hb p8 s1 σ H1 _ I1 q1) λu s2 y H2 I2 r2 q2 =>
  thn (ho p8 s2 σ H2 x y v u _ I2 r1 r2 q2) λd s3 ⟨z,H3,I3,r3,q3⟩=>?_)) hm
 let⟨k,e,q3⟩:=Jb q3;subst e;cases r3;refine bL ?_;cases k with
 |false =>
  let⟨k',e',q'⟩:=Jb q3;cases e';exact ite_ff ⟨H3,I3,q'⟩
 |true =>
  refine ite_tt (test_last (thn (hc p8 s3 σ H3 _ I3 q3) λw' s4 ⟨z',H4,I4,r4,q4⟩=>thn (ho' p8 s4 σ H4 y z' u w' _ I4 r2 r4 q4) λd' s5 ⟨z2,H5,I5,r5,q5⟩=>?_));let⟨k2,e2,q5⟩:=Jb q5;subst e2;cases r5;exact bL ⟨H5,I5,q5⟩
def zfH(K:A0)(x:V)(H:Hp)(k:Bool):Prop :=
 match x with
 | .non=>k=false
 | .bl b=>k=b
 | .int i=>k=(i != 0)
 | .str y=>y.length<=sizeLine/\k=((y.length:Int) != 0)
 | .byt y=>y.size<=sizeLine/\k=((y.size:Int) != 0)
 | .ref p=>(∃xs,SqL K H p xs/\k=!xs.isEmpty)\/(∃xs,SqT K H p xs/\k=!xs.isEmpty)\/∃pW,H p=some (.dK pW)/\k=!pW.isEmpty
 |_=>False
def zdm{κ:Type}{pW:List (κ×V)}{vs:List (κ×Value)}(r:KV pW vs):(!vs.isEmpty)=!pW.isEmpty:=by
 cases r<;>rfl
def X1{xs:Ap}{pS:A7}(r:Vals xs pS):(!pS.toArray.isEmpty)=!xs.isEmpty:=by
 cases r<;>simp
def ZI:(sizeLine:Nat)<2^63:=by rw[dW];decide
def zi1:zk9 X (λx H Q=>∃k,zfH X.K x H k/\Q k H):=by
 intro p8 s σ H x v Q I rx h;let⟨k,e,q⟩:=h;have hl:=ZI;have hs:sizeLine=16777216:=dW;cases x with
 |non =>
  cases rx;have e':k=false:=e;subst e';exact truthy_none ⟨H,I,q⟩
 |bl b =>
  cases rx;have e':k=b:=e;subst e';exact bL ⟨H,I,q⟩
 |int i =>
  let⟨t,rfl⟩:=rx;have e':k=(i != 0):=e;subst e';exact PySem.P.truthy_int ⟨H,I,q⟩
 |str y =>
  let⟨t,rfl⟩:=rx;let⟨hy,e'⟩:y.length<=sizeLine/\k=((y.length:Int) != 0):=e;subst e';exact PySem.P.truthy_str (by lia) ⟨H,I.tok _,q⟩
 |byt y =>
  let⟨t,rfl⟩:=rx;let⟨hy,e'⟩:y.size<=sizeLine/\k=((y.size:Int) != 0):=e;subst e';exact PySem.W.truthy_bytes (by lia) ⟨H,I.tok _,q⟩
 |ref p =>
  cases rx;have e':(∃xs,SqL X.K H p xs/\k=!xs.isEmpty)\/(∃xs,SqT X.K H p xs/\k=!xs.isEmpty)\/∃pW,H p=some (.dK pW)/\k=!pW.isEmpty:=e;rcases e' with⟨xs,hx,e'⟩|⟨xs,hx,e'⟩|⟨pW,hx,e'⟩
  .subst e';let⟨pS,r,pl,hz⟩:=I.list hx;have hlen:=r.length;exact wpAny_truthy_list pl.isList (by simp only[ax];lia) ⟨H,I.tok _,by rw[X1 r];exact q⟩
  .subst e';let⟨pS,r,pl,hz⟩:=I.tuple hx;have hlen:=r.length;exact truthy_tuple pl (by simp only[ax];lia) ⟨H,I.tok _,by rw[X1 r];exact q⟩
  .subst e';let⟨hz,hS,vs,r,m⟩:pW.length<=sizeLine/\(p == sysModules)=false/\∃vs,KV pW vs/\s.heap.DictOf (zay X.prog X.w) p vs:=I.hok p _ hx;have hlen:pW.length=vs.length:=dq r;exact wpAny_truthy_dict hS m (by lia) ⟨H,I.tok _,by rw[zdm r];exact q⟩
 |_=>exact(show False from e).elim
def trq(K:A0)(x:V)(H:Hp)(Q:Bool->Hp->Prop):Prop :=
 match x with
 | .bl b=>Q b H
 |x=>∃k,zfH K x H k/\Q k H
def zi2{x:V}{Q:Bool->Hp->Prop}(h:trq K x H Q):∃k,zfH K x H k/\Q k H:=by
 cases x<;>first|exact⟨_,rfl,h⟩|exact h
def tTru(K:A0)(ta:TE):TT:=λσ H Q=>ta σ H λx H'=>trq K x H' Q
def qp(ha:PE X a ta)(he:∀whole,isTrue a X.env whole=(do let v <- whole;standAt a.pos;holding [v] (truthy v))) :
  PT X a (tTru X.K ta):=by
 intro p8 s σ H Q I h;exact isTrue_plain (qJ (ha p8 s σ H _ I h) λv s1 x H1 I1 r1 q1=>zi1 p8 s1 σ H1 x v Q I1 r1 (zi2 q1)) (he _)
def op_add_str:OpR X (binaryOp .Add) (λx y H Q=>∃i j,x=.str i/\y=.str j/\i.length+j.length<=sizeLine/\Q (.str (i++j)) H):=by
 intro p8 s σ H x y v u Q I rx ry h;let⟨i,j,rfl,rfl,hz,q⟩:=h;let⟨t,rfl⟩:=rx;let⟨t',rfl⟩:=ry;exact add_str (λt' tk=>⟨.str (i++j),H,I.tok _,⟨_,rfl⟩,q⟩) hz
def vj{x:V}(r:Vals [x] us):∃u,us=[u]/\RelV x u:=by
 cases r with
 |cons r1 r2=>cases r2;exact⟨_,rfl,r1⟩
def ziD{x y:V}(r:Vals [x,y] us):∃u w',us=[u,w']/\RelV x u/\RelV y w':=by
 cases r with
 |cons r1 r2 =>
  cases r2 with
  |cons r3 r4=>cases r4;exact⟨_,_,rfl,r1,r3⟩
def zhe:CallR X (.builtin "abs") (λxs H Q=>∃i,xs=[.int i]/\Q (.int (if i<0 then -i else i)) H):=by
 intro p8 s σ H xs us Q I r h;let⟨i,rfl,q⟩:=h;let⟨u,rfl,t,rfl⟩:=vj r;exact call_abs_int λu tk=>⟨.int (if i<0 then -i else i),H,I.tok _,⟨_,rfl⟩,q⟩
def zft(hc:X.calm=true):CallR X (.builtin "max") (λxs H Q=>∃i j,xs=[.int i,.int j]/\Q (.int (if j>i then j else i)) H):=by
 intro p8 s σ H xs us Q I r h;let⟨i,j,rfl,q⟩:=h;let⟨u,w',rfl,⟨t,rfl⟩,⟨t',rfl⟩⟩:=ziD r;refine max_two_ints (I.ok.hd hc) λh' tk k=>⟨_,H,I.kept k,?_,q⟩;by_cases hj:j>i
 .rw[aq hj,aq hj];exact⟨_,rfl⟩
 .rw[am hj,am hj];exact⟨_,rfl⟩
def zaM:CallR X (.type "str") (λxs H Q=>∃i,xs=[.int i]/\i.natAbs.log2<1920/\Q (.str (toString i)) H):=by
 intro p8 s σ H xs us Q I r h;let⟨i,rfl,hz,q⟩:=h;let⟨u,rfl,t,rfl⟩:=vj r;exact PySem.P.str_of_int hz ⟨.str _,H,I.tok _,⟨_,rfl⟩,q⟩
def zkN(K:A0)(x:V)(H:Hp)(n:Nat):Prop :=
 match x with
 | .str y=>y.length<=sizeLine/\n=y.length
 | .byt y=>y.size<=sizeLine/\n=y.size
 | .ref p=>(∃xs,SqL K H p xs/\n=xs.length)\/∃xs,SqT K H p xs/\n=xs.length
 |_=>False
def zhd:CallR X (.builtin "len") (λxs H Q=>∃x n,xs=[x]/\zkN X.K x H n/\Q (.int n) H):=by
 intro p8 s σ H xs us Q I r h;let⟨x,n,rfl,e,q⟩:=h;let⟨u,rfl,rx⟩:=vj r;have hl:=ZI;have hs:sizeLine=16777216:=dW;cases x with
 |str y =>
  let⟨t,rfl⟩:=rx;let⟨hy,e'⟩:y.length<=sizeLine/\n=y.length:=e;subst e';exact len_str (by lia) ⟨.int _,H,I.tok _,⟨_,rfl⟩,q⟩
 |byt y =>
  let⟨t,rfl⟩:=rx;let⟨hy,e'⟩:y.size<=sizeLine/\n=y.size:=e;subst e';exact PySem.W.len_bytes (by lia) ⟨.int _,H,I.tok _,⟨_,rfl⟩,q⟩
 |ref p =>
  cases rx;have e':(∃xs,SqL X.K H p xs/\n=xs.length)\/∃xs,SqT X.K H p xs/\n=xs.length:=e;rcases e' with⟨xs,hx,e'⟩|⟨xs,hx,e'⟩
  .subst e';let⟨pS,r',pl,hz⟩:=I.list hx;have hlen:=r'.length;exact Calls.call_len_list pl.isList (by simp only[ax];lia) ⟨.int xs.length,H,I.tok _,⟨_,by simp only[ax];rw[hlen]⟩,q⟩
  .subst e';let⟨pS,r',pl,hz⟩:=I.tuple hx;have hlen:=r'.length;exact len_tuple pl (by simp only[ax];lia) ⟨.int xs.length,H,I.tok _,⟨_,by simp only[ax];rw[hlen]⟩,q⟩
 |_=>exact(show False from e).elim
end
structure ObjM(h:Heap)(x dx C:Addr)(mA:A4):Prop where
 obj:h.get? x=some (instObj C dx)
 ns:h.Ns1 dx mA
 ne:dx≠x
def Vq{h:Heap}{dx:Addr}{mA:A4}(n:h.Ns1 dx mA):∃od,h.get? dx=some od/\∀name,lookIn name od=some (mA name):=by
 let⟨o,es,ep,ho,hd,hk,_,hm⟩:=n;refine⟨o,ho,λname=>?_⟩;have e:=hm name;unfold nsFind findBy at e;rw[<- ik]at e;unfold lookIn;rw[hd];dsimp only
 split
 .rename_i y q;rw[q]at e;exact bp some e
 .rename_i q;rw[q]at e;have a:es.toList.any (·.refKey)=false:=by
   rw[List.any_eq_false];intro y hy;let⟨z,t,hkey⟩:=hk y (Array.mem_toList_iff.mp hy);simp[DictEntry.refKey,hkey]
  have a':¬es.toList.any (·.refKey)=true:=by rw[a];exact aC
  rw[am a'];exact bp some e
def ObjM.look{h:Heap}{x dx C:Addr}{mA:A4}(I:ObjM h x dx C mA):∃od,InstAt h x (instObj C dx) C (some od)/\∀name,lookIn name od=some (mA name) :=
 let⟨od,ho,hl⟩:=Vq I.ns
 ⟨od,⟨I.obj,rfl,rfl,ho⟩,hl⟩
section
variable{prog:Af}{w:World}{A:Ao}{E:A3}{s:An}{K:A0}{x dx C f:Addr}{mA:A4}{name:Str}{v:Am}
def zic{expr:Bool}(X:K.In s.heap)(I:ObjM s.heap x dx C mA)(hg:plainGet K C name=true)(hh:hasDictIn K C=true)(ha:findIn K (.ref C) name=some none)(hv:mA name=some v)(hv':handedIn v=true)(h:Q v {s with toks:=s.toks+1}) :
  wpAny (model prog w) A (getAttr (.ref x) name expr) Q E s:=by
 let⟨od,J,hl⟩:=I.look;exact PySem.W.get_value X J (plainGet_of hg).1 (gW hh ha rfl (by rw[hl,hv])) hv' h
def zgY{pl:Sem Bool}{Q:Value×List Value->Shared->Prop}(X:K.In s.heap)(I:ObjM s.heap x dx C mA)(hg:plainGet K C name=true)(hf:findIn K (.ref C) name=some (some (.ref f)))(ht:isFn K (.ref f)=true)(hv:mA name=none)(h:Q (.ref f,[.ref x]) s) :
  wpAny (model prog w) A (getMethod (.ref x) name pl) Q E s:=by
 let⟨od,J,hl⟩:=I.look;exact PySem.W.method_fn X J (plainGet_of hg).1 (plainGet_of hg).2 hf (bJ.mp ht) (by show(lookIn name od).map (·.isSome)=some false;rw[hl,hv];rfl) h
def zhG{ns:A8}{Q:Ag}(X:K.In s.heap)(I:ObjM s.heap x dx C mA)(hs:findIn K (.ref C) "__setattr__"=some (some (.builtin "object.__setattr__")))(hp:PySem.W.plainOver K C=true)(ht:takerIn K C name=some none)(hh:hasDictIn K C=true)(hw:PySem.Within mA ns)(hsz:ns.length<=sizeLine)(h:∀h',ObjM h' x dx C (λy=>if y=name then some v else mA y)->Heap.SameBut dx s.heap h'->Q () {s with heap:=h',toks:=s.toks+2}) :
  wpAny (model prog w) A (setAttr (.ref x) name v) Q E s:=by
 let⟨od,J,hl⟩:=I.look;refine PySem.W.set_plain X J hs (PySem.W.osa_open (s:={s with toks:=s.toks+1}) (r:=none) X J hp ht λb=>?_);let⟨cd,hc,hd'⟩:=fO hh;have hx:s.heap.get? x=some ⟨.ref C,some dx,.plain,#[]⟩:=I.obj;refine ae (aE (ae (ae (gG hx (ae (PySem.W.Looks.here (s:={s with toks:=s.toks+1}) (looks_clsIn X hc) ?_))))));rw[hd'];refine aE (a:=some dx) (ae (aE (ae ?_)));refine wpAny_nsSet1 (s:={s with toks:=s.toks+1}) I.ns λh' hn2 hs2=>?_;let⟨oD,esD,epD,hoD,hdD,hcD⟩:=hn2.count (PySem.Within.cons name v hw);refine ae (wpAny_lookBehind hoD (by rw[hdD];exact pastItsLine_dict (aJ hcD (by rw[aM];lia))) ?_);exact aE (h _ ⟨(hs2.2 _ (bb I.ne)).trans I.obj,hn2,I.ne⟩ hs2)
def zbX{R:Result->Shared->Prop}{vs:A7}{kw:List (Str×Value)}(X:K.In s.heap)(hm:makesIn K C=true)(hi:findIn K (.ref C) "__init__"=some (some (.ref f)))(hf:typeIn K (.ref f)=some (.type "function"))(h:codeAny (model prog w) (A.under (.builtin "type.__call__" ⟨.ref C::vs,kw⟩)) (.call (.ref f) ⟨.ref (s.heap.objs.size+1)::vs,kw⟩) (PySem.W.InitBack (s.heap.objs.size+1) R)
   {s with heap:=(s.heap.push emptyDict).push (instObj C s.heap.objs.size)}) :
  codeAny (model prog w) A (.call (.ref C) ⟨vs,kw⟩) R s:=by
 let⟨hh,g,d,t,os⟩:=s;exact PySem.W.make_core (PySem.W.makes_of X hm) (dJ X hi) (λself=>PySem.W.bind_fn X self hf) (.inl rfl) h
end
noncomputable def qw(f:Str)(v:V):List (Str×V)->List (Str×V)
 |[]=>[(f,v)]
 |(g,x)::r=>if g=f then(g,v)::r else(g,x)::qw f v r
theorem qv(f g:Str)(v:V):∀fs:List (Str×V),(qw f v fs).lookup g=if g=f then some v else fs.lookup g
 |[]=>by
  show List.lookup g [(f,v)]=_
  by_cases h:g=f
  .have hb:(g == f)=true:=bJ.mpr h;simp only[List.lookup,hb,aq h]
  .have hb:(g == f)=false:=a9.mpr h;simp only[List.lookup,hb,am h]
 |(k,x)::r=>by
  have ih:=qv f g v r;rw[show qw f v ((k,x)::r)=(if k=f then(k,v)::r else(k,x)::qw f v r)from rfl];by_cases hk:k=f
  .rw[aq hk];by_cases h:g=k
   .have hb:(g == k)=true:=bJ.mpr h;simp only[List.lookup,hb,aq (h.trans hk)]
   .have hb:(g == k)=false:=a9.mpr h;simp only[List.lookup,hb,am (λe:g=f=>h (e.trans hk.symm))]
  .rw[am hk];by_cases h:g=k
   .have hb:(g == k)=true:=bJ.mpr h;simp only[List.lookup,hb,am (λe:g=f=>hk (h.symm.trans e))]
   .have hb:(g == k)=false:=a9.mpr h;simp only[List.lookup,hb];exact ih
theorem QC(f:Str)(v:V):∀fs:List (Str×V),f∈(qw f v fs).map (·.1)/\∀g,g∈fs.map (·.1)->g∈(qw f v fs).map (·.1)
 |[]=>⟨by simp[qw],λg h=>by simp at h⟩
 |(k,x)::r=>by
  let⟨i1,i2⟩:=QC f v r;rw[show qw f v ((k,x)::r)=(if k=f then(k,v)::r else(k,x)::qw f v r)from rfl];by_cases hk:k=f
  .rw[aq hk];subst hk;exact⟨by simp,λg h=>by simpa using h⟩
  .rw[am hk];refine⟨?_,λg h=>?_⟩
   .rw[bN];exact aA _ i1
   .rw[bN]at h ⊢;rcases au.mp h with e|e
    .exact au.mpr (.inl e)
    .exact aA _ (i2 g e)
theorem xH(f:Str)(v:V):∀fs:List (Str×V),(qw f v fs).length<=fs.length+1
 |[]=>by simp[qw]
 |(k,x)::r=>by
  have ih:=xH f v r;rw[show qw f v ((k,x)::r)=(if k=f then(k,v)::r else(k,x)::qw f v r)from rfl];by_cases hk:k=f
  .rw[aq hk,aM,aM];lia
  .rw[am hk,aM,aM];lia
def RelO.some_of{v:V}{o:Ah}(r:RelO (some v) o):∃u,o=some u/\RelV v u:=by
 cases o with
 |none=>exact(show False from r).elim
 |some u=>exact⟨u,rfl,r⟩
def RelO.none_of{o:Ah}(r:RelO none o):o=none:=by
 cases o with
 |none=>rfl
 |some u=>exact(show False from r).elim
def Vy{v:V}(r:RelV v u):handedIn u=true:=by
 cases v with
 |non=>cases (show u=Value.none from r);rfl
 |bl b=>cases (show u=Value.bool b from r);rfl
 |int i=>let⟨t,e⟩:=(show ∃t,u=Value.int i t from r);cases e;rfl
 |str x=>let⟨t,e⟩:=(show ∃t,u=Value.str x t from r);cases e;rfl
 |byt b=>let⟨t,e⟩:=(show ∃t,u=Value.bytes b t from r);cases e;rfl
 |flt b=>let⟨t,e⟩:=(show ∃t,u=Value.float b t from r);cases e;rfl
 |ref a=>cases (show u=Value.ref a from r);rfl
 |ty n=>cases (show u=Value.type n from r);rfl
section
variable{P:Af}{w:World}{H H':Hp}{h h':Heap}{a C dx:Addr}{fs fs':Ar}
def JH(hok:HOk P w H h)(e:H a=some (.ins C dx fs)):∃mA,ObjM h a dx C mA/\(∀f,RelO (fs.lookup f) (mA f))/\PySem.Within mA (fs.map (·.1))/\fs.length<=1000/\H dx=some (.own a):=by
 let⟨d,z,ne,ob,mA,n,r,q⟩:=(show ObjOk P w H h a (.ins C dx fs)from hok a _ e);exact⟨mA,⟨ob,n,ne⟩,r,q,z,d⟩
end
structure Cls(K:A0)(C:Addr):Prop where
 pg:plainGet K C Str.empty=true
 hd:hasDictIn K C=true
 po:PySem.W.plainOver K C=true
 sa:findIn K (.ref C) "__setattr__"=some (some (.builtin "object.__setattr__"))
def Cls.get(c:Cls K C)(f:Str):plainGet K C f=true:=c.pg
def NoAttr(K:A0)(C:Addr)(f:Str):Prop:=findIn K (.ref C) f=some none
def NoAttr.taker{f:Str}(n:NoAttr K C f):takerIn K C f=some none:=by
 unfold takerIn;rw[show findIn K (.ref C) f=some none from n]
 rfl
structure Meth(K:A0)(C:Addr)(m:Str)(f:Addr):Prop where
 at_:findIn K (.ref C) m=some (some (.ref f))
 fn:isFn K (.ref f)=true
 kp:keepIn K (.ref f)=true
section
variable{X:Cx}{p8:A2}{σ:St}{H:Hp}{s:An}{a C dx:Addr}{fs:Ar}{f:Str}{v:V}{A:Ao}{E:A3}
def X4{b:Bool}(I:Inv X p8 σ H s)(e:H a=some (.ins C dx fs))(c:Cls X.K C)(n:NoAttr X.K C f)(l:fs.lookup f=some v)(h:∀u s',Inv X p8 σ H s'->RelV v u->Q u s'):wpAny (model X.prog X.w) A (getAttr (.ref a) f b) Q E s:=by
 let⟨mA,O,r,_,_,_⟩:=JH I.hok e;let⟨u,hu,ru⟩:=RelO.some_of (v:=v) (o:=mA f) (by rw[<- l];exact r f);exact zic I.kIn O (c.get f) c.hd n hu (Vy ru) (h u _ (I.tok _) ru)
def ZK{m:Str}{g:Addr}{pl:Sem Bool}{Q:Value×List Value->Shared->Prop}(I:Inv X p8 σ H s)(e:H a=some (.ins C dx fs))(c:Cls X.K C)(k:Meth X.K C m g)(l:fs.lookup m=none)(h:Q (.ref g,[.ref a]) s):wpAny (model X.prog X.w) A (getMethod (.ref a) m pl) Q E s:=by
 let⟨mA,O,r,_,_,_⟩:=JH I.hok e;have hn:mA m=none:=RelO.none_of (by rw[<- l];exact r m);exact zgY I.kIn O (c.get m) k.at_ k.fn hn h
def Xa{y:V}{Q:Ag}(I:Inv X p8 σ H s)(e:H a=some (.ins C dx fs))(c:Cls X.K C)(n:NoAttr X.K C f)(hl:fs.length<1000)(ry:RelV y u)(h:∀s',Inv X p8 σ (upd H a (.ins C dx (qw f y fs))) s'->Q () s'):wpAny (model X.prog X.w) A (setAttr (.ref a) f u) Q E s:=by
 let⟨mA,O,r,wi,_,ho⟩:=JH I.hok e;have hz:(fs.map (·.1)).length<=sizeLine:=by rw[af,dW];lia
 refine zhG I.kIn O c.sa c.po n.taker c.hd wi hz λh' O' sb=>h _ ?_;have hd:∃o,h'.get? dx=some o:=let⟨o,_,_,e',_⟩:=O'.ns;⟨o,e'⟩
 refine I.write (x:=a) (e:=dx) (by rw[e];exact True.intro) (.inr ho) (λb q hb z=>(sb.2 b hb).trans z) hd ?_;refine⟨by rw[rj O.ne];exact ho,?_,O.ne,O'.obj,_,O'.ns,λg=>?_,λg hg=>?_⟩
 .have:=xH f y fs;lia
 .show RelO ((qw f y fs).lookup g) (if g=f then some u else mA g)
  rw[qv];by_cases q:g=f
  .rw[aq q,aq q];exact ry
  .rw[am q,am q];exact r g
 .by_cases q:g=f
  .rw[q];exact(QC f y fs).1
  .refine(QC f y fs).2 g (wi g λz=>hg ?_);show(if g=f then some u else mA g)=none
   rw[am q];exact z
def Inv.made(I:Inv X p8 σ H s):Inv X p8 σ (upd (upd H s.heap.objs.size (.own (s.heap.objs.size+1))) (s.heap.objs.size+1) (.ins C s.heap.objs.size []))
  {s with heap:=(s.heap.push emptyDict).push (instObj C s.heap.objs.size)}:=by
 have e1:(s.heap.push emptyDict).get? s.heap.objs.size=some emptyDict:=aF s.heap rfl;have e2:((s.heap.push emptyDict).push (instObj C s.heap.objs.size)).get? (s.heap.objs.size+1)=some (instObj C s.heap.objs.size):=by
  have:=aF (s.heap.push emptyDict) (o:=instObj C s.heap.objs.size) rfl
  rwa[bT]at this
 have e3:(s.heap.push emptyDict).Ns s.heap.objs.size (λ_=>none):=⟨emptyDict,#[],_,e1,rfl,(λe he=>absurd he (by simp)),λ_=>rfl⟩;have I1:=I.laid (a:=s.heap.objs.size) (o:=.own (s.heap.objs.size+1)) (h':=s.heap.push emptyDict) (t':=s.toks) (λb u q=>ah _ q) (ar _) ⟨_,e1⟩;refine I1.laid (a:=s.heap.objs.size+1) (o:=.ins C s.heap.objs.size []) (t':=s.toks) (λb u q=>ah _ q) (Nat.le_of_eq (bT _ _)) ?_;have ne:s.heap.objs.size≠s.heap.objs.size+1:=aN (c8 _);refine⟨by rw[rj ne,rh],cj _,ne,e2,λ_=>none,(Heap.Ns1.of_empty e3).at λo q=>ah _ q,λ_=>True.intro,λy hy=>absurd rfl hy⟩
def zev{prog:Af}{env:Env}{e:Expr}{f:Str}{s:An}(hb:attributeBase e f env (eval e env)=eval e env)(h:wpAny (model prog w) A (eval e env) (λo s₁=>wpAny (model prog w) A (getAttr o f true) Q E s₁) E s):wpAny (model prog w) A (eval (.Attribute e f pos) env) Q E s :=
 Attribute_any_ h (by rw[arm_eval_Attribute,hb])
end
def tFld(K:A0)(ta:TE)(f:Str):TE:=λσ H Q=>ta σ H λx H1=>∃a C dx fs v,x=.ref a/\H1 a=some (.ins C dx fs)/\Cls K C/\NoAttr K C f/\fs.lookup f=some v/\Q v H1
def sFld(K:A0)(ta tv:TE)(f:Str):TS:=λD σ H=>tv σ H λy H1=>ta σ H1 λx H2=>∃a C dx fs,x=.ref a/\H2 a=some (.ins C dx fs)/\Cls K C/\NoAttr K C f/\fs.length<1000 /\
 D.nx σ (upd H2 a (.ins C dx (qw f y fs)))
def zkO(X:Cx)(op:Operator)(rd:V->V->Hp->VK->Prop):Prop :=
 ∀(p8:A2)(s:An)(σ:St)(H:Hp)(x y:V)(u v:Am)(Q:VK),Inv X p8 σ H s->RelV x u->RelV y v->rd x y H Q->wpAny (model X.prog X.w) X.A (inplaceOp op u v) (EP X p8 σ Q) X.xe s
def zhH(K:A0)(ta tv:TE)(rd:V->V->Hp->VK->Prop)(f:Str):TS:=λD σ H=>ta σ H λx H1=>∃a C dx fs v,x=.ref a/\H1 a=some (.ins C dx fs)/\Cls K C/\NoAttr K C f/\fs.lookup f=some v /\
 tv σ H1 λy H2=>rd v y H2 λz H3=>∃dx' fs',H3 a=some (.ins C dx' fs')/\fs'.length<1000/\D.nx σ (upd H3 a (.ins C dx' (qw f z fs')))
section
variable{X:Cx}{o e value:Expr}{f:Str}{pos pos' tpos:Pos}{ta tv:TE}
def zr(he:PE X e ta)(hb:attributeBase e f X.env (eval e X.env)=eval e X.env):PE X (.Attribute e f pos) (tFld X.K ta f):=by
 intro p8 s σ H Q I h;refine zev hb (qJ (he p8 s σ H _ I h) λu s1 x H1 I1 rx qq_=>?_);let⟨a,C,dx,fs,v,ex,ea,c,n,l,q⟩:=qq_;subst ex;obtain rfl:u=Value.ref a:=rx;exact X4 I1 ea c n l λu' s2 I2 ru=>⟨v,H1,I2,ru,q⟩
def jC(ha:PE X o ta)(hv:PE X value tv)(hs:swapsWith value (some (.Attribute o f pos')) pos.line X.env=pure false):PS X (.Assign [.Attribute o f pos'] value pos) (sFld X.K ta tv f):=by
 intro p8 s σ H D I h;refine fC (qJ (hv p8 s σ H _ I h) λu s1 y H1 I1 ry q=>qJ (ha p8 s1 σ H1 _ I1 q) λov s2 x H2 I2 rx qq_=>?_) hs;let⟨a,C,dx,fs,ex,ea,c,n,l,q2⟩:=qq_;subst ex;obtain rfl:ov=Value.ref a:=rx;exact Xa I2 ea c n l ry λs3 I3=>⟨σ,_,I3,q2⟩
def ze0{op:Operator}{rd:V->V->Hp->VK->Prop}(ha:PE X o ta)(hv:PE X value tv)(hop:zkO X op rd):PS X (.AugAssign (.Attribute o f tpos) op value pos) (zhH X.K ta tv rd f):=by
 intro p8 s σ H D I h;refine wpAny_AugAssign_AttributeAny (qJ (ha p8 s σ H _ I h) λov s1 x H1 I1 rx qq_=>?_);let⟨a,C,dx,fs,v,ex,ea,c,n,l,q⟩:=qq_;subst ex;obtain rfl:ov=Value.ref a:=rx;refine X4 I1 ea c n l λu s2 I2 ru=>qJ (hv p8 s2 σ H1 _ I2 q) λw3 s3 y H2 I3 ry q3=>thn (hop p8 s3 σ H2 v y u w3 _ I3 ru ry q3) λw4 s4 ⟨z,H3,I4,rz,dx',fs',ea',l',q4⟩=>?_;exact Xa I4 ea' c n l' rz λs5 I5=>⟨σ,_,I5,q4⟩
def zk0:V->V->Hp->VK->Prop:=λx y H Q=>∃i j,x=.int i/\y=.int j/\Q (.int (i+j)) H
def zjR:zkO X .Add zk0:=by
 rintro p8 s σ H x y u v Q I rx ry ⟨i,j,rfl,rfl,q⟩;let⟨t,rfl⟩:=(show ∃t,u=Value.int i t from rx);let⟨t',rfl⟩:=(show ∃t',v=Value.int j t' from ry);exact PyProof.Rows.iadd_int ⟨.int (i+j),H,I.tok _,⟨_,rfl⟩,q⟩
end
section
variable{X:Cx}{p8:A2}{σ:St}{H:Hp}{s:An}{A:Ao}{E:A3}{Q:A3}{c:Am}{b:Bool}
inductive TyOf(K:A0)(H:Hp):V->Value->Prop where
 |non:TyOf K H .non (.type "NoneType")
 |bl (x:Bool):TyOf K H (.bl x) (.type "bool")
 |int (i:Int):TyOf K H (.int i) (.type "int")
 |str (x:Str):TyOf K H (.str x) (.type "str")
 |flt (x:UInt64):TyOf K H (.flt x) (.type "float")
 |lst {a:Addr} {xs:Ap} (e:H a=some (.lst xs)):TyOf K H (.ref a) (.type "list")
 |frz {a:Addr} {o:Obj} {xs:Ap} (e:H a=some (.frz o (.lst xs))):TyOf K H (.ref a) (.type "list")
 |tup {a:Addr} {xs:Ap} (e:H a=some (.tup xs)):TyOf K H (.ref a) (.type "tuple")
 |dK {a:Addr} {pW:List (Key×V)} (e:H a=some (.dK pW)):TyOf K H (.ref a) (.type "dict")
 |dT {a:Addr} {pW:As} (e:H a=some (.dT pW)):TyOf K H (.ref a) (.type "dict")
 | ins {a C dx:Addr} {fs:Ar} (e:H a=some (.ins C dx fs)) (cl:Cls K C) (ha:findIn K (.ref C) "__class__"=some (some (.builtin "object.__class__")))
   (hn:specialIn K (.builtin "object.__class__") "__get__"=some (some (.builtin "getset_descriptor.__get__"))) (htk:takesIn K (.builtin "object.__class__")=some true)
   (hm:mroIn K C (.type "object")=some true):TyOf K H (.ref a) (.ref C)
end
structure Room(k:Nat)(A:Ao):Prop where
 hd:A.handled=none
 dp:A.depth+3*k+5<recursionLimit
 un:A.units+16*k+200<cLine
def Room.mono{j k:Nat}(r:Room k A)(h:j<=k):Room j A:=⟨r.hd,by have:=r.dp;lia,by have:=r.un;lia⟩
def Room.deeper(r:Room (k+1) A)(env:Env):Room k (A.deeper env) :=
 ⟨r.hd,by have:=r.dp;show A.depth+1+3*k+5<_;lia,by have:=r.un;show A.units+3+16*k+200<_;lia⟩
def Room.in1(r:Room (k+1) A):Room k A.in1 :=
 ⟨r.hd,by have:=r.dp;show A.depth+3*k+5<_;lia,by have:=r.un;show A.units+1+16*k+200<_;lia⟩
def zdg{kw:List (Str×Value)}:(A.under (.builtin "type.__call__" ⟨.ref C::us,kw⟩)).depth=A.depth+1:=by
 first|rfl|simp[Around.under,Code.weight,Code.isCreation,Code.isGuard,Code.isCaller,Code.frames,Code.isFrame,guardIds]
def zdf{kw:List (Str×Value)}:(A.under (.builtin "type.__call__" ⟨.ref C::us,kw⟩)).units=A.units+1:=by
 first|rfl|simp[Around.under,Code.cUnits,Code.frames,Code.isFrame]
def Room.make(r:Room (k+1) A)(C:Addr)(us:A7)(kw:List (Str×Value)):Room k (A.under (.builtin "type.__call__" ⟨.ref C::us,kw⟩)) :=
 ⟨r.hd,by have:=r.dp;rw[zdg];lia,by have:=r.un;rw[zdf];lia⟩
def Room.depth(r:Room k A):A.depth<recursionLimit:=by have:=r.dp;lia
def Room.units(r:Room k A):A.units+64<cLine:=by have:=r.un;lia
def tNil:TA:=λ_ H Q=>Q [] H
def tCons(ta:TE)(tr:TA):TA:=λσ H Q=>ta σ H λx H1=>tr σ H1 λxs H2=>Q (x::xs) H2
section
variable{X:Cx}{e:Expr}{es:List Expr}{te:TE}{t:TA}{pos:Pos}
def ze:PA X [] tNil:=λ_ _ _ _ H Q I h=>Calls.spliced_nil ⟨[],H,I,.nil,h⟩
def za(ha:PE X e te)(hr:PA X es t)(hs:starEach (e::es) X.env=(false,eval e X.env)::starEach es X.env:=by rfl):PA X (e::es) (tCons te t):=by
 intro pos p8 s σ H Q I h;rw[hs];show wpAny _ _ (spliced ((false,eval e X.env)::backTo pos (starEach es X.env))) _ _ s
 refine Calls.spliced_cons (qJ (ha p8 s σ H _ I h) λu s1 x H1 I1 r1 q1=>?_);exact vn (hr pos p8 s1 σ H1 _ I1 q1) λus s2 xs H2 I2 r2 q2=>⟨x::xs,H2,I2,.cons r1 r2,q2⟩
def tTup(t:TA):TE:=λσ H Q=>t σ H λxs H1=>szl xs (∀p,H1 p=none->Q (.ref p) (upd H1 p (.tup xs)))
def tLst(t:TA):TE:=λσ H Q=>t σ H λxs H1=>szl xs (∀p,H1 p=none->Q (.ref p) (upd H1 p (.lst xs)))
def qV{x1}(h:PA X es t):PE X (.Tuple es x1 pos) (tTup t):=by
 intro p8 s σ H Q I hq;refine wpAny_Tuple_spliced (vn (h pos p8 s σ H _ I hq) λus s1 xs H1 I1 r q=>let⟨z,q⟩:=VR q;⟨by rw[<- r.length];exact z,?_⟩);have hf:H1 s1.heap.objs.size=none:=I1.hok.fresh (ar _);refine⟨.ref s1.heap.objs.size,upd H1 s1.heap.objs.size (.tup xs),I1.laid (t':=s1.toks) (λb u e=>ah _ e) (ar _) ?_,rfl,q _ hf⟩;exact⟨z,us,r,⟨_,aF _ rfl,rfl,_,rfl⟩⟩
def zB(h:PA X es t):PE X (.List es pos) (tLst t):=by
 intro p8 s σ H Q I hq;refine wpAny_List_spliced (vn (h pos p8 s σ H _ I hq) λus s1 xs H1 I1 r q=>let⟨z,q⟩:=VR q;⟨by rw[<- r.length];exact z,?_⟩);have hf:H1 s1.heap.objs.size=none:=I1.hok.fresh (ar _);refine⟨.ref s1.heap.objs.size,upd H1 s1.heap.objs.size (.lst xs),I1.laid (t':=s1.toks) (λb u e=>ah _ e) (ar _) ?_,rfl,q _ hf⟩;exact⟨z,us,0,r,aF _ rfl⟩
end
abbrev Sp:=List V->Hp->VK->XK->Prop
abbrev CXT:=List Env->Hp->Shared->XK->Value->Shared->Prop
variable{CX:CXT}
structure Env0(P:Af)(w:World)(K:A0)(mg:A4)(base:Heap)(A:Ao)(outer:List Env)(s:An)(H:Hp):Prop where
 frames:A.frames=some outer
 mod:Mod K mg base
 bs:∀b o,base.get? b=some o->s.heap.get? b=some o/\H b=none
 bsz:base.objs.size<=s.heap.objs.size
 funs:s.heap.FunFrames base outer
 frf:∀b∈frs outer,H b=none
 hok:HOk P w H s.heap
 bare:AllBare s.gens
def CE(outer:List Env)(P:Af)(w:World)(H:Hp)(s:An)(Q:VK)(u:Am)(s':An):Prop :=
 ∃v H',s'.os=s.os/\AllBare s'.gens/\Un (frs outer) [] H H' s.heap s'.heap/\HOk P w H' s'.heap/\RelV v u/\Q v H'
def CR(CX:CXT)(outer:List Env)(P:Af)(w:World)(H:Hp)(s:An)(Q:VK)(E:XK)(r:Result)(s':An):Prop :=
 match r with
 | .ok (.ret u)=>CE outer P w H s Q u s'
 | .ok _=>False
 | .error e=>CX outer H s E e s'
structure FnOk(P:Af)(w:World)(K:A0)(mg:A4)(base:Heap)(CX:CXT)(k:Nat)(f:Addr)(fd:FuncData)(ps:A8)(sp:Sp):Prop where
 len:∀vs H Q E,sp vs H Q E->vs.length=ps.length
 run:∀(A:Ao)(outer:List Env)(s:An)(H:Hp)(args:Args)(us:A7)(vs:Ap)(Q:VK)(E:XK),Room k A->Env0 P w K mg base A outer s H->BindsTo s fd args (ps.zip us)->Vals vs us->sp vs H Q E ->
  codeAny (model P w) A (.call (.ref f) args) (CR CX outer P w H s Q E) s
def FnOk.mono{j k:Nat}{f:Addr}{ps:A8}{sp:Sp}(F:FnOk P w K mg base CX j f fd ps sp)(h:j<=k) :
  FnOk P w K mg base CX k f fd ps sp:=⟨F.len,λA outer s H args us vs Q E hr=>F.run A outer s H args us vs Q E (hr.mono h)⟩
def FnOk.imp{f:Addr}{ps:A8}{sp sp':Sp}(F:FnOk P w K mg base CX k f fd ps sp)(h:∀vs H Q E,sp' vs H Q E->sp vs H Q E):FnOk P w K mg base CX k f fd ps sp' :=
 ⟨λvs H Q E q=>F.len vs H Q E (h _ _ _ _ q),λA outer s H args us vs Q E hr he hb hv hs=>F.run A outer s H args us vs Q E hr he hb hv (h _ _ _ _ hs)⟩
def Env0.make{outer:List Env}(e:Env0 P w K mg base A outer s H)(C:Addr)(us:A7)(kw:List (Str×Value)) :
  Env0 P w K mg base (A.under (.builtin "type.__call__" ⟨.ref C::us,kw⟩)) outer s H:=⟨by first|exact e.frames|(simpa[Around.under,Code.envs,Code.isFrame,pushEnvs]using e.frames),e.mod,e.bs,e.bsz,e.funs,e.frf,e.hok,e.bare⟩
def Env0.in1{outer:List Env}(e:Env0 P w K mg base A outer s H) :
  Env0 P w K mg base A.in1 outer s H:=⟨e.frames,e.mod,e.bs,e.bsz,e.funs,e.frf,e.hok,e.bare⟩
section
variable{X:Cx}{p8:A2}{σ:St}{H:Hp}{s s':An}
def Inv.env0(I:Inv X p8 σ H s):Env0 X.prog X.w X.K X.mg X.base X.A X.stack s H :=
 ⟨I.ok.frames,I.ok.mod,I.bs,aJ I.ok.bsz I.sz,I.stack,I.stkFree,I.hok,I.bare⟩
def Inv.after{Q:VK}(I:Inv X p8 σ H s)(h:CE X.stack X.prog X.w H s Q u s'):EP X p8 σ Q u s':=by
 let⟨v,H',os,bare,un,hok,r,q⟩:=h;let⟨hh,g,d,t,os'⟩:=s';obtain rfl:os'=s.os:=os;exact⟨v,H',I.call (h':=hh) (g':=g) (d':=d) (t':=t) (ch:=[]) un hok bare (λb z=>absurd z (by simp)),r,q⟩
end
def Binds(K:A0)(fd:FuncData)(ps:A8)(ds:A7):Prop :=
 ∀(s:An)(us:A7),K.In s.heap->(us++ds).length=ps.length->BindsTo s fd ⟨us,[]⟩ (ps.zip (us++ds))
def Binds.all{ps:A8}(h:∀us:List Value,us.length=ps.length->bindArgs fd ⟨us,[]⟩=pure (ps.zip us)):Binds K fd ps []:=λs us _ hl=>by
 rw[bB]at hl ⊢;exact .of_eq (h us hl)
def zdJ(CX:CXT)(X:Cx)(E:XK):Prop:=∀(p8:A2)(σ:St)(H:Hp)(s:An)(e:Am)(s':An),Inv X p8 σ H s->CX X.stack H s E e s'->X.xe e s'
section
variable{X:Cx}{CX:CXT}{k:Nat}{f C:Addr}{fd:FuncData}{ps:A8}{sp:Sp}{dvs:Ap}{ds:A7}{E:XK}{x m:Str}{p pos apos:Pos}{e o:Expr}{es:List Expr}{ta:TE}{t:TA}
theorem zgd{Q:VK}{vs:Ap}(F:FnOk X.prog X.w X.K X.mg X.base CX k f fd ps sp)(hr:Room k X.A)(hb:Binds X.K fd ps ds)(hd:Vals dvs ds)(hx:zdJ CX X E)(I:Inv X p8 σ H s)(r:Vals vs us)(h:sp (vs++dvs) H Q E):wpAny (model X.prog X.w) X.A (call (.ref f) us) (EP X p8 σ Q) X.xe s:=by
 have r2:Vals (vs++dvs) (us++ds):=r.append hd;have hl:(us++ds).length=ps.length:=by rw[<- r2.length];exact F.len _ _ _ _ h
 refine dI (cu (F.run X.A X.stack s H ⟨us,[]⟩ (us++ds) (vs++dvs) Q E hr I.env0 (hb s us I.kIn hl) r2 h) λr s' hq=>?_);cases r with
 |error e=>exact hx p8 σ H s e s' I hq
 |ok fl =>
  cases fl with
  |ret u=>exact I.after hq
  |next=>exact False.elim hq
  |brk=>exact False.elim hq
  |cont=>exact False.elim hq
structure Mk(K:A0)(C f:Addr):Prop where
 makes:makesIn K C=true
 init:findIn K (.ref C) "__init__"=some (some (.ref f))
 fn:isFn K (.ref f)=true
 kp:keepIn K (.ref C)=true
theorem zgc{Q:VK}{vs:Ap}(M:Mk X.K C f)(F:FnOk X.prog X.w X.K X.mg X.base CX k f fd ps sp)(hr:Room (k+1) X.A)(hb:Binds X.K fd ps ds)(hd:Vals dvs ds)(hx:zdJ CX X E)(I:Inv X p8 σ H s)(r:Vals vs us)(h:∀x dx,H x=none->H dx=none->dx≠x->sp (.ref x::(vs++dvs)) (upd (upd H dx (.own x)) x (.ins C dx [])) (λv H2=>v=.non/\Q (.ref x) H2) E) :
  wpAny (model X.prog X.w) X.A (call (.ref C) us) (EP X p8 σ Q) X.xe s:=by
 have hq:=h (s.heap.objs.size+1) s.heap.objs.size (I.hok.fresh (dj _)) (I.hok.fresh (ar _)) (aN (c8 _));have I2:=Inv.made (C:=C) I;have r2:Vals (V.ref (s.heap.objs.size+1)::(vs++dvs)) (Value.ref (s.heap.objs.size+1)::(us++ds)):=.cons rfl (r.append hd);have hl:(Value.ref (s.heap.objs.size+1)::us++ds).length=ps.length:=by
  have e:=r2.length;rw[F.len _ _ _ _ hq]at e;exact e.symm
 refine dI (zbX (f:=f) I.kIn M.makes M.init (bJ.mp M.fn) (cu (F.run _ X.stack _ _ ⟨Value.ref (s.heap.objs.size+1)::us,[]⟩ (Value.ref (s.heap.objs.size+1)::(us++ds)) _ _ E (hr.make C us [])
  (I2.env0.make C us []) (hb _ (Value.ref (s.heap.objs.size+1)::us) I2.kIn hl) r2 hq) λr s' hq'=>?_))
 cases r with
 |error e=>exact hx p8 σ _ _ e s' I2 hq'
 |ok fl =>
  cases fl with
  |ret u =>
   let⟨v,H',I3,rv,ev,q3⟩:=I2.after hq';subst ev;exact⟨rv,⟨V.ref (s.heap.objs.size+1),H',I3,rfl,q3⟩⟩
  |next=>exact False.elim hq'
  |brk=>exact False.elim hq'
  |cont=>exact False.elim hq'
end
def PK(X:Cx)(kws:List Keyword)(t:TA):Prop :=
 ∀(pos:Pos)(p8:A2)(s:An)(σ:St)(H:Hp)(Q:List V->Hp->Prop),Inv X p8 σ H s->t σ H Q->wpAny (model X.prog X.w) X.A (evalAll ((backToKw pos (keywordEach kws X.env)).map (·.2))) (AP X p8 σ Q) X.xe s
section
variable{X:Cx}{CX:CXT}{k:Nat}{f C:Addr}{fd:FuncData}{ps ks:A8}{sp:Sp}{E:XK}{x m:Str}{p pos apos kpos:Pos}{e o:Expr}{es:List Expr}{kws:List Keyword}{te ta:TE}{t tk:TA}{nm:Option Str}
variable{g:List Value->List Value->List Value}{gV:List V->List V->List V}
end
structure FnScope(N P:A8)(sc:Scope):Prop where
 kind:sc.kind=.function
 co:sc.isCoroutine=false
 gen:sc.isGenerator=false
 nd:N.Nodup
 pre:N.take P.length=P
 par:∀x∈P,sc.names.lookup x=some .local\/sc.names.lookup x=some .cell
 nofree:∀y∈sc.names,y.2≠.free
theorem VF{kindOf:Str->Option NameKind}{x:Str}:∀{binds:List (Str×Value)}{m:A4},(∀v,(x,v)∉binds)->bindL kindOf binds m x=m x
 |[],_,_=>rfl
 |(n,v)::r,m,h=>by
  unfold bindL;rw[VF λw hw=>h w (aA _ hw)]
  split
  .have:x≠n:=by rintro rfl;exact h v a7
   simp[this]
  .rfl
theorem VH{kindOf:Str->Option NameKind}{x:Str}:∀{binds:List (Str×Value)}{m:A4},(∀v,(x,v)∉binds)->bindC kindOf binds m x=m x
 |[],_,_=>rfl
 |(n,v)::r,m,h=>by
  unfold bindC;rw[VH λw hw=>h w (aA _ hw)]
  split
  .rfl
  .have:x≠n:=by rintro rfl;exact h v a7
   simp[this]
theorem VG{kindOf:Str->Option NameKind}{x:Str}{v:Am}:∀{P:A8}{vs:A7}{i:Nat}{m:A4},P.Nodup->P[i]?=some x->vs[i]?=some v->kindOf x=some .local ->
  bindL kindOf (P.zip vs) m x=some v
 |[],_,_,_,_,h,_,_=>by simp at h
 |_::_,[],_,_,_,_,h,_=>by simp at h
 |p::P,w::vs,0,m,nd,h1,h2,hk=>by
  simp at h1 h2;subst h1;subst h2;show bindL kindOf ((p,w)::P.zip vs) m p=_
  unfold bindL;rw[VF λv hv=>(dY.mp nd).1 (of_mem_zip hv).1,aq hk];simp
 |p::P,w::vs,i+1,m,nd,h1,h2,hk=>by
  show bindL kindOf ((p,w)::P.zip vs) m x=_
  unfold bindL;exact VG (i:=i) (dY.mp nd).2 (by simpa using h1) (by simpa using h2) hk
theorem VI{kindOf:Str->Option NameKind}{x:Str}{v:Am}:∀{P:A8}{vs:A7}{i:Nat}{m:A4},P.Nodup->P[i]?=some x->vs[i]?=some v->kindOf x≠some .local ->
  bindC kindOf (P.zip vs) m x=some v
 |[],_,_,_,_,h,_,_=>by simp at h
 |_::_,[],_,_,_,_,h,_=>by simp at h
 |p::P,w::vs,0,m,nd,h1,h2,hk=>by
  simp at h1 h2;subst h1;subst h2;show bindC kindOf ((p,w)::P.zip vs) m p=_
  unfold bindC;rw[VH λv hv=>(dY.mp nd).1 (of_mem_zip hv).1,am hk];simp
 |p::P,w::vs,i+1,m,nd,h1,h2,hk=>by
  show bindC kindOf ((p,w)::P.zip vs) m x=_
  unfold bindC;exact VI (i:=i) (dY.mp nd).2 (by simpa using h1) (by simpa using h2) hk
noncomputable def start(N:A8)(vs:Ap):St:=vs.map some++List.replicate (N.length-vs.length) none
noncomputable def Js(CX:CXT)(P:Af)(w:World)(K:A0)(mg:A4)(base:Heap)(N:A8)(qual:Str)(scope:Scope)(f:Addr)(cd:Am)(A:Ao)(outer:List Env)(s:An)(H:Hp)(E:XK):Cx where
 prog:=P
 w:=w
 K:=K
 mg:=mg
 base:=base
 A:=A.deeper (envOfC qual scope s.heap.objs.size f cd)
 N:=N
 s₀:=s
 H₀:=H
 env:=envOfC qual scope s.heap.objs.size f cd
 outer:=outer
 stack:=envOfC qual scope s.heap.objs.size f cd::outer
 ex:=[]
 calm:=true
 fn:=λ_=>true
 pn:=[]
 xe:=λe s'=>wpAny (model P w) (A.deeper (envOfC qual scope s.heap.objs.size f cd)) (leaving (envOfC qual scope s.heap.objs.size f cd) e) (λ_ s''=>CX outer H s E e s'') (λe' s''=>CX outer H s E e' s'') s'
def zck{sc:Scope}{n:Nat}(h:sc.names.lookup x=some .cell):∃c,(cellsFrom n sc.names []).lookup x=some c:=by
 have q:=gc sc.names n [] (.inl h);exact Option.isSome_iff_exists.mp q
theorem zfg{N ps:A8}{qual:Str}{scope:Scope}{f:Addr}{cd:Am}{outer:List Env}{s s1:An}{E:XK}{vs:Ap}(S:FnScope N ps scope)(hd:A.handled=none)(e0:Env0 P w K mg base A outer s H)(hl:vs.length=ps.length)(r:Vals vs us)(x:InCallC s s.heap.objs.size (bindL (envOfC qual scope s.heap.objs.size f cd).kindOf (ps.zip us) λ_=>none) (cellsFrom (s.heap.objs.size+1) scope.names []) (bindC (envOfC qual scope s.heap.objs.size f cd).kindOf (ps.zip us) λ_=>none) s1) :
  Inv (Js CX P w K mg base N qual scope f cd A outer s H E) [] (start N vs) H s1:=by
 have hpl:ps.length<=N.length:=by have:=bp List.length S.pre;rw[aS]at this;lia
 let⟨h1,tk,rfl,hk⟩:=x.done;have noA:∀b:Addr,b∉(Js CX P w K mg base N qual scope f cd A outer s H E).ex:=λb z=>absurd (show b∈([]:Ab)from z) (by simp);refine⟨⟨e0.mod,S.kind,rfl,rfl,ar _,λy z c h1 h2=>?_,λy hy=>?_,λy c _ h=>?_,λ_=>hd,Around.frames_deeper e0.frames,.inr ⟨rfl,rfl⟩,λb z=>absurd z (noA b),e0.bs,e0.bsz,λb _ _=>noA b,λb z=>absurd z (noA b),e0.funs,e0.frf⟩,
  rfl,e0.bare,Un.kept hk,⟨_,x.toInCall.ns,λi y v h1 h2 h3=>?_⟩,λy c h=>⟨_,x.cell y c h⟩,e0.hok.fresh (ar _),λy c h=>?_,λp hp=>absurd (show p∈([]:A2)from hp) (by simp),e0.hok.kept hk,?_⟩
 .exact name_of_addr x.apart (bS h1) (bS h2)
 .have hy:scope.names.lookup y=some .cell\/scope.names.lookup y=some .free:=hy;rcases hy with hy|hy
  .exact zck hy
  .exact absurd rfl (S.nofree _ (bS hy))
 .exact b7 (x.above y c (bS h))
 .have hi:i<vs.length:=by
   unfold start at h2;by_cases hi:i<vs.length
   .exact hi
   .rw[aY (by simpa using hi)]at h2;rw[f9]at h2
    split at h2<;>cases h2
  have ha:vs[i]?=some v:=by
   unfold start at h2;rw[ba (by simpa using hi),ap]at h2;cases e:vs[i]? with
   |none=>rw[e]at h2;cases h2
   |some a=>rw[e]at h2;cases h2;rfl
  let⟨u,hu,rv⟩:=r.get ha;have hp:ps[i]?=some y:=by
   rw[<- S.pre,List.getElem?_take_of_lt (by lia)];exact h1
  have ndP:ps.Nodup:=by rw[<- S.pre];exact S.nd.sublist (List.take_sublist _ _)
  refine⟨u,rv,?_⟩;rcases S.par y (ai hp)with k|k
  .exact .inl ⟨k,VG ndP hp hu k⟩
  .obtain⟨c,e⟩:=zck (n:=s.heap.objs.size+1) k;refine .inr ⟨.inl k,c,e,?_⟩;have q:=x.cell y c e;rw[VI ndP hp hu (by show scope.names.lookup y≠_;rw[k];decide)]at q;exact q
 .exact e0.hok.fresh (b7 (x.above y c (bS h)))
 .unfold start;show _=N.length
  rw[aD,af,bA]
  lia
theorem zg3{f:Addr}{name qual:Str}{params:Arguments}{body:List Stmt}{scope:Scope}{dV kV doc pm cdv ct oc:Am}{an od:Aa}{osl:Ae}{N ps:A8}{sp:Sp}(lk:K.lookup f=some ⟨oc,od,.func (fnOf name qual params body scope dV kV doc pm an cdv ct),osl⟩)(hcd:codeIn K cdv qual=true)(S:FnScope N ps scope)(len:∀vs H Q E,sp vs H Q E->vs.length=ps.length)(hbody:∀(A:Ao)(outer:List Env)(s:An)(H:Hp)(vs:Ap)(Q:VK)(E:XK),Room k (A.deeper (envOfC qual scope s.heap.objs.size f cdv))->sp vs H Q E ->
   ∃t,PSs (Js CX P w K mg base N qual scope f cdv A outer s H E) body t/\t {nx:=λ_ H'=>Q .non H',rt:=Q} (start N vs) H) :
  FnOk P w K mg base CX (k+1) f (fnOf name qual params body scope dV kV doc pm an cdv ct) ps sp:=by
 refine⟨len,λA outer s H args us vs Q E hr e0 hb r hsp=>?_⟩;have hl:=len _ _ _ _ hsp;have KX:K.In s.heap:=e0.mod.kin.keeps λb o e=>(e0.bs b o e).1;have lim:s.heap.NoLimit:=e0.mod.nolimit.keeps λb o e=>(e0.bs b o e).1;have hkind:∀y∈ps.zip us,scope.names.lookup y.1=some .local\/(scope.names.lookup y.1=some .cell/\((cellsFrom (s.heap.objs.size+1) scope.names []).lookup y.1).isSome=true):=λ⟨n,v⟩ hy=>by
  rcases S.par n (of_mem_zip hy).1 with q|q
  .exact .inl q
  .exact .inr ⟨q,gc _ _ _ (.inl q)⟩
 refine codeAny_call_function hr.depth (KX _ _ lk) rfl S.co S.gen rfl (PySem.W.codeRec_of KX hcd) (hb _ _ _ _ ?_);refine wpAny_newFunctionEnv_cells S.kind hkind λenv he s1 x=>?_;subst he;refine⟨lim.keeps x.toInCall.keep,codeAny_func ?_⟩;let⟨t,ht,hq⟩:=hbody A outer s H vs Q E (hr.deeper _) hsp;have I:Inv (Js CX P w K mg base N qual scope f cdv A outer s H E) [] (start N vs) H s1:=zfg S hr.hd e0 hl r x;refine aI (ht [] s1 (start N vs) H _ I hq) (λfl s' hs=>?_) λe s' hs=>hs;have fin:∀{σ':St}{H':Hp}{v:V}{u:Am},Inv (Js CX P w K mg base N qual scope f cdv A outer s H E) [] σ' H' s'->RelV v u->Q v H'->CE outer P w H s Q u s' :=
  λ{σ' H' v u} J rv q=>⟨v,H',J.os,J.bare,J.base,J.hok,rv,q⟩
 cases fl with
 |ret u =>
  let⟨v,σ',H',J,rv,q⟩:=hs;exact fin J rv q
 |next =>
  let⟨σ',H',J,q⟩:=hs;exact fin (v:=V.non) (u:=Value.none) J rfl q
 |brk =>
  let⟨_,_,_,q⟩:=hs;exact False.elim q
 |cont =>
  let⟨_,_,_,q⟩:=hs;exact False.elim q
section
variable{X:Cx}{x:Str}{p pos:Pos}{e:Expr}{es:List Expr}{t:TA}{id T:String}{r:List V->Hp->VK->Prop}
def tCB(r:List V->Hp->VK->Prop)(t:TA):TE:=λσ H Q=>t σ H λvs H1=>r vs H1 Q
def zgu(hc:CallR X (.builtin id) r)(hg:Gl X x)(hm:X.mg x=none)(hv:bootBuiltins x=some (.builtin id))(ha:PA X (e::es) t)(hn:x≠"__name__":=by decide)(hdb:(x == ("__debug__":Str))=false:=by decide)(he:starEach (e::es) X.env=(false,eval e X.env)::starEach es X.env:=by rfl)(hpl:(backTo pos (starEach es X.env)).any (·.1)=false:=by rfl):PE X (.Call (.Name x p) (e::es) [] pos) (tCB r t):=by
 intro p8 s σ H Q I h;refine bQ (vQ I hg hm hv ?_ hn hdb);exact PyProof.Rows.callWith_builtin1 (vn (ha pos p8 s σ H _ I h) λus s1 vs H1 I1 r1 q1=>hc p8 s1 σ H1 vs us Q I1 r1 q1) he hpl
def ze3(hc:CallR X (.type T) r)(hg:Gl X x)(hm:X.mg x=none)(hv:bootBuiltins x=some (.type T))(ha:PA X (e::es) t)(hn:x≠"__name__":=by decide)(hdb:(x == ("__debug__":Str))=false:=by decide)(he:starEach (e::es) X.env=(false,eval e X.env)::starEach es X.env:=by rfl)(hpl:(backTo pos (starEach es X.env)).any (·.1)=false:=by rfl):PE X (.Call (.Name x p) (e::es) [] pos) (tCB r t):=by
 intro p8 s σ H Q I h;refine bQ (vQ I hg hm hv ?_ hn hdb);exact bH (vn (ha pos p8 s σ H _ I h) λus s1 vs H1 I1 r1 q1=>hc p8 s1 σ H1 vs us Q I1 r1 q1) he hpl
end
end L2
namespace HT
open PySem PyProof.Rows
section
open PySem.SeqAt
open PySem.AutoSeq1 (wpAny_loadPart')
open PySem.MeetsSeq PySem.MeetsSeq2 PySem.MeetsSeq3
end
section
variable{prog:Af}{w:World}{A:Ao}{E:A3}{s:An}
noncomputable def sIx(n d:Nat):Option Int->Nat
 |none=>d
 |some v=>if v<0 then(v+(n:Int)).toNat else min v.toNat n
theorem sIx_none(n d:Nat):sIx n d none=d:=rfl
def sIx_nat(n d k:Nat):sIx n d (some (k:Int))=min k n:=by
 show(if (k:Int)<0 then((k:Int)+(n:Int)).toNat else min (k:Int).toNat n)=min k n
 rw[am (by lia),aP]
end
end HT
namespace L2
open PySem PySem.Spec PyProof.Rows
abbrev TO:=St->Hp->(Option Int->Hp->Prop)->Prop
def PO(X:Cx)(e:Option Expr)(t:TO):Prop :=
 ∀(p8:A2)(s:An)(σ:St)(H:Hp)(Q:Option Int->Hp->Prop),Inv X p8 σ H s->t σ H Q ->
  wpAny (model X.prog X.w) X.A (evalPart e X.env) (λu s'=>∃o H',Inv X p8 σ H' s'/\IsPart u o/\Q o H') X.xe s
def tNoPart:TO:=λ_ H Q=>Q none H
def tPart(t:TE):TO:=λσ H Q=>t σ H λx H1=>iq x λi=>Q (some i) H1
def zdo{ns:A6}:∀{us:A7},Vals (ns.map V.int) us->IntsAre us ns:=by
 induction ns with
 |nil=>intro us r;rw[map_nil]at r;cases r;exact .nil
 |cons n ns ih =>
  intro us r;rw[bN]at r;cases r with
  |cons r1 r2 =>
   let⟨t,e⟩:=r1;subst e;exact .cons n t (ih r2)
section
variable{X:Cx}{e:Expr}{te:TE}{lo hi:Option Expr}{tl th:TO}{pos p2:Pos}
def jD:PO X none tNoPart:=by
 intro p8 s σ H Q I h;rw[evalPart_none];exact aE ⟨none,H,I,.none,h⟩
def jk(h:PE X e te):PO X (some e) (tPart te):=by
 intro p8 s σ H Q I hw;rw[evalPart_some];refine qJ (h p8 s σ H _ I hw) λu s1 x H1 I1 r1 q1=>?_;let⟨i,rfl,q⟩:=Qe q1;let⟨t,rfl⟩:=r1;exact⟨some i,H1,I1,.int i t,q⟩
def SlR(X:Cx)(r:V->Option Int->Option Int->Hp->VK->Prop):Prop :=
 ∀(p8:A2)(s:An)(σ:St)(H:Hp)(x:V)(v vl vu:Am)(lo hi:A9)(sl:Addr)(Q:VK),Inv X p8 σ H s->RelV x v->s.heap.IsSliceOf sl vl vu .none->IsPart vl lo->IsPart vu hi->r x lo hi H Q ->
  ∃T id,typeLookup (.type T) "__getitem__"=pure (some (.builtin id))/\s.TypeIs v T/\wpAny (model X.prog X.w) X.A (getItem v (.ref sl)) (EP X p8 σ Q) X.xe s
def SlR.or{r r':V->Option Int->Option Int->Hp->VK->Prop}(h:SlR X r)(h':SlR X r'):SlR X (λx lo hi H Q=>r x lo hi H Q\/r' x lo hi H Q):=by
 intro p8 s σ H x v vl vu lo hi sl Q I rx hs pl pu q;rcases q with q|q
 .exact h p8 s σ H x v vl vu lo hi sl Q I rx hs pl pu q
 .exact h' p8 s σ H x v vl vu lo hi sl Q I rx hs pl pu q
def tSl(r:V->Option Int->Option Int->Hp->VK->Prop)(te:TE)(tl th:TO):TE:=λσ H Q=>te σ H λx H1=>tl σ H1 λl H2=>th σ H2 λu H3=>r x l u H3 Q
def qY{r:V->Option Int->Option Int->Hp->VK->Prop}(hr:SlR X r)(he:PE X e te)(hl:PO X lo tl)(hu:PO X hi th):PE X (.Subscript e (.Slice lo hi none p2) pos) (tSl r te tl th):=by
 intro p8 s σ H Q I h;refine Subscript_ (qJ (he p8 s σ H _ I h) λv s1 x H1 I1 r1 q1=>?_);refine wpAny_Slice (thn (hl p8 s1 σ H1 _ I1 q1) λvl s2 ⟨l,H2,I2,pl,q2⟩=>thn (hu p8 s2 σ H2 _ I2 q2) λvu s3 ⟨u,H3,I3,pu,q3⟩=>?_);rw[evalPart_none];refine aE ?_;have I4:Inv X p8 σ H3 {s3 with heap:=s3.heap.push {cls:=.type "slice",data:=.fields #[vl,vu,.none]} }:=I3.kept (t':=s3.toks) λb ob q=>ah _ q;let⟨T,id,hT,ht,hg⟩:=hr p8 {s3 with heap:=s3.heap.push {cls:=.type "slice",data:=.fields #[vl,vu,.none]} } σ H3 x v vl vu l u s3.heap.objs.size Q I4 r1 (Heap.IsSliceOf.new ..) pl pu q3;show wpAny (model X.prog X.w) X.A (subscriptTail e (.Slice lo hi none p2) v (.ref s3.heap.objs.size)) (EP X p8 σ Q) X.xe {s3 with heap:=s3.heap.push {cls:=.type "slice",data:=.fields #[vl,vu,.none]} }
 exact tail_any (ops:=[.ref s3.heap.objs.size,v]) ht hT hg (by with_unfolding_all rfl)
noncomputable def vh(xs:Ap)(lo hi:A9):List V:=(xs.drop (HT.sIx xs.length 0 lo)).take (HT.sIx xs.length xs.length hi-HT.sIx xs.length 0 lo)
def zcg(xs:Ap)(lo hi:A9):(vh xs lo hi).length<=xs.length:=by
 unfold vh;rw[aS,cU]
 lia
end
noncomputable def ixN(n:Nat)(i:Int):Option Nat:=if 0<=i then(if i<n then some i.toNat else none)else if -(n:Int)<=i then some (i+n).toNat else none
noncomputable def atI{α:Type}(xs:List α)(i:Int):Option α:=(ixN xs.length i).bind λj=>xs[j]?
def zee{n:Nat}{i:Int}{j:Nat}(h:ixN n i=some j):seqIndex? i n=some j/\j<n/\-(n:Int)<=i/\i<n:=by
 unfold ixN at h;by_cases h0:0<=i
 .rw[aq h0]at h;by_cases h1:i<n
  .rw[aq h1]at h;have e:i.toNat=j:=aO h;exact⟨by rw[fY h0 h1,e],by lia,by lia,h1⟩
  .rw[am h1]at h;cases h
 .rw[am h0]at h;by_cases h1:-(n:Int)<=i
  .rw[aq h1]at h;have e:(i+n).toNat=j:=aO h;exact⟨by rw[seqIndex_neg (by lia) h1,e],by lia,h1,by lia⟩
  .rw[am h1]at h;cases h
def JM{α:Type}{xs:List α}{i:Int}{v:α}(h:atI xs i=some v):∃j,seqIndex? i xs.length=some j/\xs[j]?=some v/\j<xs.length/\-(xs.length:Int)<=i/\i<xs.length:=by
 unfold atI at h;cases e:ixN xs.length i with
 |none=>rw[e]at h;cases h
 |some j =>
  rw[e]at h;let⟨h1,h2,h3,h4⟩:=zee e;exact⟨j,h1,h,h2,h3,h4⟩
def zJ{α:Type}{xs:List α}{j:Nat}{v:α}(h:xs[j]?=some v):atI xs (j:Int)=some v:=by
 have hj:j<xs.length:=(aa.mp h).1;have e:ixN xs.length (j:Int)=some j:=by
  unfold ixN;rw[aq (by lia),aq (by lia)];simp
 unfold atI;rw[e];exact h
def zez(b:Expr):Prop:=∀o i,subscripted b false o i=operate [o,i] (getItem o i)
def IxR(X:Cx)(r:R2):Prop :=
 ∀(value slice:Expr)(p8:A2)(s:An)(σ:St)(H:Hp)(x y:V)(v u:Am)(Q:VK),Inv X p8 σ H s->RelV x v->RelV y u->r x y H Q ->
  subscripted slice false v u=operate [v,u] (getItem v u)->wpAny (model X.prog X.w) X.A (subscriptTail value slice v u) (EP X p8 σ Q) X.xe s
def MtR(X:Cx)(id:String)(r:V->List V->Hp->VK->Prop):Prop :=
 ∀(p8:A2)(s:An)(σ:St)(H:Hp)(x:V)(xs:Ap)(v:Am)(us:A7)(Q:VK),Inv X p8 σ H s->RelV x v->Vals xs us->r x xs H Q ->
  wpAny (model X.prog X.w) X.A (call (.builtin id) (v::us)) (EP X p8 σ Q) X.xe s
section
variable{X:Cx}{a b:Expr}{ta tb:TE}{pos:Pos}
def IxR.or{r r':R2}(h:IxR X r)(h':IxR X r'):IxR X (λx y H Q=>r x y H Q\/r' x y H Q):=by
 intro value slice p8 s σ H x y v u Q I rx ry q hs;rcases q with q|q
 .exact h value slice p8 s σ H x y v u Q I rx ry q hs
 .exact h' value slice p8 s σ H x y v u Q I rx ry q hs
def MtR.or{id:String}{r r':V->List V->Hp->VK->Prop}(h:MtR X id r)(h':MtR X id r'):MtR X id (λx xs H Q=>r x xs H Q\/r' x xs H Q):=by
 intro p8 s σ H x xs v us Q I rx rs q;rcases q with q|q
 .exact h p8 s σ H x xs v us Q I rx rs q
 .exact h' p8 s σ H x xs v us Q I rx rs q
def zkv{r:R2}(hr:IxR X r)(ha:PE X a ta)(hb:PE X b tb)(hs:zez b):PE X (.Subscript a b pos) (tOp r ta tb):=by
 intro p8 s σ H Q I h;exact Subscript_ (zj2 ha hb I h λv u s2 x y H2 I2 rx ry q=>hr a b p8 s2 σ H2 x y v u Q I2 rx ry q (hs _ _))
def zkr(K:A0):R2:=λx y H Q=>∃p xs i v,x=.ref p/\y=.int i/\SqL K H p xs/\atI xs i=some v/\Q v H
def zkp(K:A0):R2:=λx y H Q=>∃p xs i v,x=.ref p/\y=.int i/\SqT K H p xs/\atI xs i=some v/\Q v H
def zkq:R2:=λx y H Q=>∃z i c,x=.str z/\y=.int i/\z.length<=sizeLine/\atI z.cps.toList i=some c/\Q (.str ⟨#[c]⟩) H
def ix_list:IxR X (zkr X.K):=by
 intro value slice p8 s σ H x y v u Q I rx ry h hs;let⟨p,xs,i,z,rfl,rfl,hq,he,q⟩:=h;cases rx;let⟨t,rfl⟩:=ry;let⟨pS,r,pl,hz⟩:=I.list hq;let⟨j,h1,h2,h3,h4,h5⟩:=JM he;let⟨w,ew,rw'⟩:=r.get h2;have hl:=r.length;have hn:=ZI;have fin:EP X p8 σ Q w s:=⟨z,H,I,rw',q⟩;by_cases h0:0<=i
 .have hj:i.toNat=j:=by
   rw[fY h0 h5]at h1;exact aO h1
  exact item_listR pl.isList h0 (by lia) (by rw[hj];simpa using ew) fin hs
 .have hj:(i+(pS.toArray.size:Int)).toNat=j:=by
   rw[seqIndex_neg (by lia) h4]at h1;rw[ax,<- hl];exact aO h1
  exact subscriptTail_builtinR (x:=w) pl.isList.typeIs slot_list_getitem.lookup
   (wpAny_getItem_list_neg (Q:=λr s'=>r=w/\EP X p8 σ Q r s') pl.isList (by lia) (by rw[ax]<;>lia) (by lia) (by rw[hj];simpa using ew) ⟨rfl,fin⟩) hs
def ix_tup:IxR X (zkp X.K):=by
 intro value slice p8 s σ H x y v u Q I rx ry h hs;let⟨p,xs,i,z,rfl,rfl,hq,he,q⟩:=h;cases rx;let⟨t,rfl⟩:=ry;let⟨pS,r,pl,hz⟩:=I.tuple hq;let⟨j,h1,h2,h3,h4,h5⟩:=JM he;let⟨w,ew,rw'⟩:=r.get h2;have hl:=r.length;have hn:=ZI;have fin:EP X p8 σ Q w s:=⟨z,H,I,rw',q⟩;exact subscriptTail_builtinR (x:=w) pl.typeIs slot_tuple_getitem.lookup
  (getItem_tuple (j:=j) (Q:=λr s'=>r=w/\EP X p8 σ Q r s') pl (by lia) (by lia) (by rw[ax,<- hl];exact h1) (by simpa using ew) ⟨rfl,fin⟩) hs
def zjN:IxR X zkq:=by
 intro value slice p8 s σ H x y v u Q I rx ry h hs;let⟨z,i,c,rfl,rfl,hz,he,q⟩:=h;let⟨t,rfl⟩:=rx;let⟨t',rfl⟩:=ry;let⟨j,h1,h2,h3,h4,h5⟩:=JM he;have hl:z.cps.toList.length=z.length:=by simp[Str.length]
 rw[hl]at h1 h4 h5;have hn:=ZI;exact tail_any (fj s z t) slot_str_getitem.lookup (getItem_str (c:=c) (by
  have e1:decide (i < -(2^63:Int))=false:=aR (by lia);have e2:decide (i ≥ 2^63)=false:=aR (by lia);rw[e1,e2,Bool.or_false]) (by rw[h1];simpa using h2) ⟨.str ⟨#[c]⟩,H,I.tok _,⟨_,rfl⟩,q⟩) hs
def rIx(K:A0):R2:=λx y H Q=>zkr K x y H Q\/zkp K x y H Q\/zkq x y H Q
def zjO:IxR X (rIx X.K):=ix_list.or (ix_tup.or zjN)
def zde(pS:A7)(n j:Nat)(u:Am):Obj.mapSeq (·.setIfInBounds j u) {cls:=.type "list",data:=.seq pS.toArray n}={cls:=.type "list",data:=.seq (pS.set j u).toArray n}:=by
 simp[Obj.mapSeq]
def Inv.lst{p8:A2}{σ:St}{H:Hp}{s:An}{p:Addr}{xs:Ap}(I:Inv X p8 σ H s)(h:H p=some (.lst xs)) :
  ∃(pS:A7)(n:Nat),Vals xs pS/\s.heap.get? p=some {cls:=.type "list",data:=.seq pS.toArray n}/\xs.length<=sizeLine:=by
 let⟨z,pS,n,r,e⟩:=I.hok p _ h;exact⟨pS,n,r,e,z⟩
def Inv.lstUpd{p8:A2}{σ:St}{H:Hp}{s:An}{p:Addr}{xs ys:Ap}{pS its':A7}{n n':Nat}{f:Obj->Obj}(I:Inv X p8 σ H s)(h:H p=some (.lst xs))(ho:s.heap.get? p=some {cls:=.type "list",data:=.seq pS.toArray n})(hf:f {cls:=.type "list",data:=.seq pS.toArray n}={cls:=.type "list",data:=.seq its'.toArray n'})(r:Vals ys its')(hz:ys.length<=sizeLine)(t:Nat) :
  Inv X p8 σ (upd H p (.lst ys)) {s with heap:=s.heap.update p f,toks:=t}:=by
 have e:(s.heap.update p f).get? p=some {cls:=.type "list",data:=.seq its'.toArray n'}:=by
  rw[bD f ho (by rw[hf]<;>rfl),hf]
 refine I.write (x:=p) (e:=p) (by rw[h];trivial) (.inl rfl) (λb u hb q=>(be _ _ (bb hb)).trans q) ⟨_,e⟩ ?_;exact⟨hz,its',n',r,e⟩
def ziM:V->V->V->Hp->(Hp->Prop)->Prop:=λo i v H Q=>∃p xs k j,o=.ref p/\i=.int k/\H p=some (.lst xs)/\ixN xs.length k=some j/\Q (upd H p (.lst (xs.set j v)))
def xn:zj6 X ziM:=by
 intro p8 s σ H o i v ov iv u Q I ro ri rv h;let⟨p,xs,k,j,rfl,rfl,hp,hj,q⟩:=h;cases ro;let⟨t,rfl⟩:=ri;let⟨pS,n,r,ho,hz⟩:=I.lst hp;let⟨h1,h2,h3,h4⟩:=zee hj;have hl:=r.length;have hn:=ZI;have I':Inv X p8 σ (upd H p (.lst (xs.set j v))) {s with heap:=s.heap.update p (Obj.mapSeq (·.setIfInBounds j u))} :=
  I.lstUpd hp ho (zde pS n j u) (r.set rv j) (by rw[ci];exact hz) s.toks
 by_cases h0:0<=k
 .have hk:k.toNat=j:=by
   rw[fY h0 h4]at h1;exact aO h1
  exact PySem.W.ki_setAt ho h0 (by lia) (by rw[ax,<- hl];exact h4) (by rw[hk];exact⟨_,I',q⟩)
 .have hk:(k+(pS.toArray.size:Int)).toNat=j:=by
   rw[seqIndex_neg (by lia) h3]at h1;rw[ax,<- hl];exact aO h1
  exact PySem.W.ki_setBack ho (by lia) (by rw[ax,<- hl];exact h3) (by lia) (by rw[hk];exact⟨_,I',q⟩)
def VU(lo hi:A9)(n:Nat):(sliceBounds lo hi none n).1=((HT.sIx n 0 lo:Nat):Int)/\(sliceBounds lo hi none n).2.1=((HT.sIx n n hi:Nat):Int)/\(sliceBounds lo hi none n).2.2=1:=by
 refine⟨?_,?_,rfl⟩
 .cases lo with
  |none=>simp[sliceBounds,HT.sIx]
  |some i =>
   simp only[sliceBounds,HT.sIx,ff,show(1:Int)>0 by decide,ef];by_cases h:i<0
   .simp only[h,ef]<;>lia
   .simp only[h,cP]<;>lia
 .cases hi with
  |none=>simp[sliceBounds,HT.sIx]
  |some i =>
   simp only[sliceBounds,HT.sIx,ff,show(1:Int)>0 by decide,ef];by_cases h:i<0
   .simp only[h,ef]<;>lia
   .simp only[h,cP]<;>lia
def Wm(pS:A7)(lo hi:A9):slicePick pS.toArray lo hi none=((pS.drop (HT.sIx pS.length 0 lo)).take (HT.sIx pS.length pS.length hi-HT.sIx pS.length 0 lo)).toArray:=by
 let⟨h1,h2,h3⟩:=VU lo hi pS.toArray.size;unfold slicePick;rw[h1,h2,h3];simp only[sliceRange_one,pick_run,ax]<;>rfl
def zjj(K:A0):V->Option Int->Option Int->Hp->VK->Prop:=λx lo hi H Q=>∃a xs,x=.ref a/\SqL K H a xs/\∀p,H p=none->Q (.ref p) (upd H p (.lst (vh xs lo hi)))
def zhD:SlR X (zjj X.K):=by
 intro p8 s σ H x v vl vu lo hi sl Q I rx hs pl pu h;let⟨a,xs,rfl,hx,q⟩:=h;cases rx;let⟨pS,r,ht,hz⟩:=I.list hx;have hlen:=r.length;refine⟨"list",_,slot_list_getitem.lookup,ht.isList.typeIs,?_⟩;refine wpAny_getItem_list_slice ht.isList hs pl pu .none (by simp) ?_ (by rw[ax]<;>lia);rw[Wm,<- hlen];refine⟨.ref s.heap.objs.size,_,I.laid (t':=s.toks) (o:=.lst (vh xs lo hi)) (λb ob q=>ah _ q) (ar _) ?_,rfl,q _ (I.hok.fresh (ar _))⟩;exact⟨aJ (zcg xs lo hi) hz,_,0,(r.drop (HT.sIx xs.length 0 lo)).take (HT.sIx xs.length xs.length hi-HT.sIx xs.length 0 lo),aF _ rfl⟩
noncomputable def jo:V->Bool
 | .non=>true
 | .bl _=>true
 | .int _=>true
 | .str _=>true
 |_=>false
noncomputable def eqV:V->V->Bool
 | .non,.non=>true
 | .bl a,.bl b=>a == b
 | .bl a,.int b=>(if a then 1 else 0) == b
 | .int a,.bl b=>a == (if b then 1 else 0)
 | .int a,.int b=>a == b
 | .str a,.str b=>a == b
 |_,_=>false
def ZM{A:Ao}{s:An}{y x:V}{u v:Am}(ry:RelV y u)(rx:RelV x v)(fy:jo y=true)(fx:jo x=true):SeqAt.EqAt A s u v (eqV y x):=by
 cases y with
 |non =>
  cases ry;cases x with
  |non=>cases rx;exact eG _
  |bl b=>cases rx;exact SeqAt.EqAt.none_bool b
  |int b=>let⟨t,rfl⟩:=rx;exact SeqAt.EqAt.none_int b t
  |str b=>let⟨t,rfl⟩:=rx;exact SeqAt.EqAt.none_str b t
  |_=>exact absurd (show false=true from fx) aC
 |bl a =>
  cases ry;cases x with
  |non=>cases rx;exact SeqAt.EqAt.bool_none a
  |bl b=>cases rx;exact SeqAt.EqAt.bool_bool a b
  |int b=>let⟨t,rfl⟩:=rx;exact SeqAt.EqAt.bool_int a b t
  |str b=>let⟨t,rfl⟩:=rx;exact SeqAt.EqAt.bool_str a b t
  |_=>exact absurd (show false=true from fx) aC
 |int a =>
  let⟨t',rfl⟩:=ry;cases x with
  |non=>cases rx;exact SeqAt.EqAt.int_none a t'
  |bl b=>cases rx;exact SeqAt.EqAt.int_bool a t' b
  |int b=>let⟨t,rfl⟩:=rx;exact SeqAt.EqAt.int_int a t' b t
  |str b=>let⟨t,rfl⟩:=rx;exact SeqAt.EqAt.int_str a t' b t
  |_=>exact absurd (show false=true from fx) aC
 |str a =>
  let⟨t',rfl⟩:=ry;cases x with
  |non=>cases rx;exact SeqAt.EqAt.str_none a t'
  |bl b=>cases rx;exact SeqAt.EqAt.str_bool a t' b
  |int b=>let⟨t,rfl⟩:=rx;exact SeqAt.EqAt.str_int a t' b t
  |str b=>let⟨t,rfl⟩:=rx;exact SeqAt.EqAt.str_str a t' b t
  |_=>exact absurd (show false=true from fx) aC
 |_=>exact absurd (show false=true from fy) aC
noncomputable def eqU(x:V)(u:Am):Bool:=match u with
 | .none=>eqV .non x
 | .bool b=>eqV (.bl b) x
 | .int i _=>eqV (.int i) x
 | .str z _=>eqV (.str z) x
 |_=>false
def zdy{x y:V}{u:Am}(r:RelV y u)(f:jo y=true):eqU x u=eqV y x:=by
 cases y with
 |non=>cases r;rfl
 |bl b=>cases r;rfl
 |int i=>let⟨t,rfl⟩:=r;rfl
 |str z=>let⟨t,rfl⟩:=r;rfl
 |_=>exact absurd (show false=true from f) aC
theorem Qm{x:V}:∀{xs:Ap}{us:A7},Vals xs us->xs.all jo=true->us.any (eqU x)=xs.any λy=>eqV y x
 |_,_,.nil,_=>rfl
 |y::xs,u::us,.cons r t,f=>by
  rw[all_cons,cg]at f;rw[gz,gz,zdy r f.1,Qm t f.2]
theorem wj{A:Ao}{s:An}{x:V}{v:Am}(rx:RelV x v)(fx:jo x=true):∀{xs:Ap}{us:A7},Vals xs us->xs.all jo=true->∀u∈us,SeqAt.EqAt A s u v (eqU x u)
 |_,_,.nil,_=>λu hu=>by cases hu
 |y::xs,u::us,.cons r t,f=>λu' hu=>by
  rw[all_cons,cg]at f;rcases au.mp hu with rfl|hu
  .rw[zdy r f.1];exact ZM r rx f.1 fx
  .exact wj rx fx t f.2 u' hu
noncomputable def inV(x:V)(xs:Ap):Bool:=xs.any λy=>eqV y x
def rIn(K:A0)(neg:Bool):R2:=λx y H Q=>∃p xs,y=.ref p/\(SqL K H p xs\/SqT K H p xs)/\jo x=true/\xs.all jo=true/\Q (.bl (if neg then !inV x xs else inV x xs)) H
def ze8:OpR X (compareOp .In) (rIn X.K false):=by
 intro p8 s σ H x y v u Q I rx ry h;let⟨p,xs,rfl,hq,fx,fs,q⟩:=h;cases ry;rcases hq with hq|hq
 .obtain⟨pS,r,pl,hz⟩:=I.list hq;refine SeqAt.in_listAt (eqU x) pl.isList (λw hw=>wj rx fx r fs w (by simpa using hw)) ⟨.bl _,H,I,rfl,?_⟩;rw[show pS.toArray.any (eqU x)=pS.any (eqU x) by simp,Qm r fs];exact q
 .obtain⟨pS,r,pl,hz⟩:=I.tuple hq;refine SeqAt.in_tupleAt (eqU x) pl (λw hw=>wj rx fx r fs w (by simpa using hw)) ⟨.bl _,H,I,rfl,?_⟩;rw[show pS.toArray.any (eqU x)=pS.any (eqU x) by simp,Qm r fs];exact q
def zap:OpR X (compareOp .NotIn) (rIn X.K true):=by
 intro p8 s σ H x y v u Q I rx ry h;let⟨p,xs,rfl,hq,fx,fs,q⟩:=h;cases ry;rcases hq with hq|hq
 .obtain⟨pS,r,pl,hz⟩:=I.list hq;refine SeqAt.notIn_listAt (eqU x) pl.isList (λw hw=>wj rx fx r fs w (by simpa using hw)) ⟨.bl _,H,I,rfl,?_⟩;rw[show pS.toArray.any (eqU x)=pS.any (eqU x) by simp,Qm r fs];exact q
 .obtain⟨pS,r,pl,hz⟩:=I.tuple hq;refine SeqAt.notIn_tupleAt (eqU x) pl (λw hw=>wj rx fx r fs w (by simpa using hw)) ⟨.bl _,H,I,rfl,?_⟩;rw[show pS.toArray.any (eqU x)=pS.any (eqU x) by simp,Qm r fs];exact q
def CallR.or{f:Am}{r r':List V->Hp->VK->Prop}(h:CallR X f r)(h':CallR X f r'):CallR X f (λxs H Q=>r xs H Q\/r' xs H Q):=by
 intro p8 s σ H xs us Q I rs q;rcases q with q|q
 .exact h p8 s σ H xs us Q I rs q
 .exact h' p8 s σ H xs us Q I rs q
def zaN:CallR X (.type "list") (λxs H Q=>∃p ys,xs=[.ref p]/\(SqL X.K H p ys\/SqT X.K H p ys)/\∀l,H l=none->Q (.ref l) (upd H l (.lst ys))):=by
 intro p8 s σ H xs us Q I r h;let⟨p,ys,rfl,hq,q⟩:=h;let⟨u,rfl,rx⟩:=vj r;cases rx;have fin:∀(pS:A7),Vals ys pS->ys.length<=sizeLine->∀(h':Heap)(c':Nat),(∀b o',s.heap.get? b=some o'->h'.get? b=some o') ->
   h'.get? s.heap.objs.size=some {cls:=.type "list",dict:=none,data:=.seq pS.toArray c',slots:=#[]}->EP X p8 σ Q (.ref s.heap.objs.size) {s with heap:=h'}:=λpS r' hz h' c' kp e =>
  ⟨.ref s.heap.objs.size,_,I.laid (t':=s.toks) kp (ar _) (show ObjOk X.prog X.w _ h' _ (.lst ys)from⟨hz,pS,c',r',e⟩),rfl,q _ (I.hok.fresh (ar _))⟩
 rcases hq with hq|hq
 .obtain⟨pS,r',pl,hz⟩:=I.list hq;have hlen:=r'.length;let⟨o,ho,hc,n,hd⟩:=pl.isList;exact call_list_seq p (.inl rfl) ho hc hd (λh' c' kp e=>fin pS r' hz h' c' kp e) (by simp only[ax]<;>lia)
 .obtain⟨pS,r',pl,hz⟩:=I.tuple hq;have hlen:=r'.length;let⟨o,ho,hc,n,hd⟩:=pl;exact call_list_seq p (.inr rfl) ho hc hd (λh' c' kp e=>fin pS r' hz h' c' kp e) (by simp only[ax]<;>lia)
def WL:CallR X (.type "tuple") (λxs H Q=>∃p ys,xs=[.ref p]/\((SqL X.K H p ys/\∀l,H l=none->Q (.ref l) (upd H l (.tup ys)))\/(SqT X.K H p ys/\Q (.ref p) H))):=by
 intro p8 s σ H xs us Q I r h;let⟨p,ys,rfl,h⟩:=h;let⟨u,rfl,rx⟩:=vj r;cases rx;rcases h with⟨hq,q⟩|⟨hq,q⟩
 .obtain⟨pS,r',pl,hz⟩:=I.list hq;have hlen:=r'.length;refine call_tuple_list pl.isList (λh' kp=>?_) (by simp only[ax]<;>lia);have I1:Inv X p8 σ H {s with heap:=h'}:=I.kept (t':=s.toks) kp;have I2:Inv X p8 σ (upd H h'.objs.size (.tup ys)) {s with heap:=h'.push {cls:=.type "tuple",data:=.seq pS.toArray} } :=
   I1.laid (t':=s.toks) (λb o e=>ah _ e) (ar _) (show ObjOk X.prog X.w _ _ _ (.tup ys)from⟨hz,pS,r',IsTup.new _ _⟩)
  exact⟨.ref h'.objs.size,_,I2,rfl,q _ (I1.hok.fresh (ar _))⟩
 .obtain⟨pS,r',pl,hz⟩:=I.tuple hq;exact call_tuple_same pl ⟨.ref p,H,I,rfl,q⟩
def tyV(K:A0)(T:String)(x:V)(H:Hp):Prop:=match x with
 | .str _=>T="str"
 | .int _=>T="int"
 | .ref p=>(T="list"/\∃xs,SqL K H p xs)\/(T="tuple"/\∃o,K.lookup p=some o/\o.cls=.type "tuple"/\o.dict=none) \/
   (T="dict"/\((∃pW,H p=some (.dK pW))\/∃pW,H p=some (.dT pW)))\/(T="set"/\∃S n,H p=some (.set S n))
 |_=>False
theorem zi0{p8:A2}{σ:St}{H:Hp}{s:An}{T:String}{x:V}{v:Am}(I:Inv X p8 σ H s)(r:RelV x v)(ty:tyV X.K T x H) :
  s.TypeIs v T/\∀a,v=.ref a->∃ob,s.heap.get? a=some ob/\ob.dict=none:=by
 cases x with
 |str z =>
  let⟨t,rfl⟩:=r;cases (show T="str" from ty);exact⟨fj s z t,λ_ e=>nomatch e⟩
 |int i =>
  let⟨t,rfl⟩:=r;cases (show T="int" from ty);exact⟨typeIs_int s i t,λ_ e=>nomatch e⟩
 |ref p =>
  cases r;rcases ty with⟨rfl,xs,hq⟩|⟨rfl,o,hk,hc,hd⟩|⟨rfl,hk⟩|⟨rfl,S,n,hk⟩
  .obtain⟨pS,_,pl,_⟩:=I.list hq;refine⟨pl.isList.typeIs,λa e=>?_⟩;cases e;let⟨o,n,e,c,hd,_⟩:=pl;exact⟨o,e,hd⟩
  .refine⟨⟨o,I.kIn p o hk,hc⟩,λa e=>?_⟩;cases e;exact⟨o,I.kIn _ o hk,hd⟩
  .have z:∃o,s.heap.get? p=some o/\o.ExactDict:=by
    rcases hk with⟨pW,hk⟩|⟨pW,hk⟩
    .obtain⟨_,_,_,_,o,_,_,e,ex,_⟩:=I.hok p _ hk;exact⟨o,e,ex⟩
    .obtain⟨_,_,_,_,o,_,_,e,ex,_⟩:=I.hok p _ hk;exact⟨o,e,ex⟩
   let⟨o,e,ex⟩:=z;refine⟨⟨o,e,ex.1⟩,λa e2=>?_⟩;cases e2;exact⟨o,e,ex.2.1⟩
  .obtain⟨o,_,_,_,e,ex,_⟩:=I.hok p _ hk;refine⟨⟨o,e,ex.1⟩,λa e2=>?_⟩;cases e2;exact⟨o,e,ex.2.1⟩
 |_=>exact False.elim ty
def tBM(K:A0)(T:String)(r:V->List V->Hp->VK->Prop)(to:TE)(t:TA):TE:=λσ H Q=>to σ H λx H1=>tyV K T x H1/\t σ H1 λxs H2=>r x xs H2 Q
variable{o e:Expr}{es:List Expr}{to:TE}{t:TA}{name:Str}{apos cpos:Pos}{T id:String}{r:V->List V->Hp->VK->Prop}
def z7(pa:PlainAttrs T)(slot:Slot T name id)(hty:typeOf (.builtin id)=pure (.type "method_descriptor"))(hm:MtR X id r)(ho:PE X o to)(ha:PA X (e::es) t)(hbase:attributeBase o name X.env (eval o X.env)=eval o X.env:=by rfl)(hfew:((backTo cpos (starEach (e::es) X.env)).all (λx=>!x.1)&&(backToKw cpos (keywordEach [] X.env)).all (λx=>x.1.isSome)
   && decide ((e::es).length+([]:List Keyword).length+(if ([]:List Keyword).isEmpty then 0 else 1)<30))=true:=by rfl)(hline:(apos.endLine == cpos.line)=true:=by rfl)(hs:starEach (e::es) X.env=(false,eval e X.env)::starEach es X.env:=by rfl)(hplain:(backTo cpos (starEach es X.env)).any (·.1)=false:=by rfl) :
  PE X (.Call (.Attribute o name apos) (e::es) [] cpos) (tBM X.K T r to t):=by
 intro p8 s σ H Q I h;refine wpAny_Call_method_late hbase hfew hline rfl (qJ (ho p8 s σ H _ I h) λv s1 x H1 I1 r1 qq_=>?_);let⟨ty,q1⟩:=qq_;let⟨h1,h2⟩:=zi0 I1 r1 ty;refine⟨T,id,pa,slot,hty,h1,h2,?_⟩;have hA:=ha cpos p8 s1 σ H1 _ I1 q1;rw[hs]at hA ⊢;refine Calls.callWith_builtin (by show(false||(backTo cpos (starEach es X.env)).any (·.1))=false;rw[hplain]<;>rfl) (eY ?_);exact thn hA λus s2 ⟨vs,H2,I2,r2,q2⟩=>hm p8 s2 σ H2 x vs v us Q I2 r1 r2 q2
end
def MtM(X:Cx)(id:String)(r:V->List V->Hp->VK->Prop):Prop :=
 ∀(p8:A2)(s:An)(σ:St)(H:Hp)(x:V)(xs:Ap)(v:Am)(us:A7)(Q:VK),Inv X p8 σ H s->RelV x v->Vals xs us->r x xs H Q ->
  wpAny (model X.prog X.w) X.A (call (.builtin id) (v::us)) (EP X p8 σ Q) X.xe s
def Vals.one{x:V}{us:A7}(h:Vals [x] us):∃u,us=[u]/\RelV x u:=by
 cases h with
 |cons r t=>cases t;exact⟨_,rfl,r⟩
def Vals.two{x y:V}{us:A7}(h:Vals [x,y] us):∃u v,us=[u,v]/\RelV x u/\RelV y v:=by
 cases h with
 |cons r t =>
  let⟨v,rfl,q⟩:=Vals.one t;exact⟨_,_,rfl,r,q⟩
theorem Vals.zero:∀{us:A7},Vals [] us->us=[]
 |_,.nil=>rfl
def Vals.dropLast{xs:Ap}{us:A7}(h:Vals xs us):Vals xs.dropLast us.dropLast:=by
 induction h with
 |nil=>exact .nil
 |cons r t ih =>
  cases t with
  |nil=>exact .nil
  |cons q t'=>exact .cons r ih
theorem Vals.eraseIdx:∀{xs:Ap}{us:A7}(i:Nat),Vals xs us->Vals (xs.eraseIdx i) (us.eraseIdx i)
 |_,_,_,.nil=>.nil
 |_,_,0,.cons _ t=>t
 |_,_,i+1,.cons r t=>.cons r (Vals.eraseIdx i t)
theorem Vals.rep{xs:Ap}{us:A7}(h:Vals xs us):∀k:Nat,Vals (List.replicate k xs).flatten (List.replicate k us).flatten
 |0=>.nil
 |k+1=>by
  rw[db,db,eu,eu];exact Vals.append h (Vals.rep h k)
theorem Vs{α:Type}:∀(l:List α)(i:Nat),(l.eraseIdx i).length<=l.length
 |[],_=>ar _
 |_::_,0=>dj _
 |_::r,i+1=>Nat.succ_le_succ (Vs r i)
theorem VA(pS:A7):∀(k:Nat)(pV:A7),
  List.foldl (λx1 x2=>x1++x2) pV.toArray (List.replicate k pS.toArray)=(pV++(List.replicate k pS).flatten).toArray
 |0,pV=>by simp
 |k+1,pV=>by
  have e:pV.toArray++pS.toArray=(pV++pS).toArray:=by simp
  have e2:(pV++pS)++(List.replicate k pS).flatten=pV++(List.replicate (k+1) pS).flatten:=by
   rw[db,eu,cI]
  rw[<- e2,<- VA pS k (pV++pS),<- e,db,List.foldl_cons]
section
variable{X:Cx}{p8:A2}{σ:St}{H:Hp}{s:An}{l b:Addr}{xs ys zs:Ap}
def Inv.lset{pS its':A7}{n:Nat}{f:Array Value->Array Value}{t':Nat}(I:Inv X p8 σ H s)(hH:H l=some (.lst xs))(e:s.heap.get? l=some {cls:=.type "list",data:=.seq pS.toArray n})(hf:f pS.toArray=its'.toArray)(hv:Vals ys its')(hz:ys.length<=sizeLine) :
  Inv X p8 σ (upd H l (.lst ys)) {s with heap:=s.heap.update l (Obj.mapSeq f),toks:=t'}:=by
 have q:=PySem.IsL.update e f;rw[hf]at q;refine I.write (x:=l) (e:=l) (by rw[hH];exact trivial) (.inl rfl) (λb' u hb hu=>(be s.heap (Obj.mapSeq f) (bb hb)).trans hu) ⟨_,q⟩ ?_;exact⟨hz,its',_,hv,q⟩
def Inv.lnew{pS:A7}{t':Nat}(I:Inv X p8 σ H s)(hv:Vals ys pS)(hz:ys.length<=sizeLine) :
  Inv X p8 σ (upd H s.heap.objs.size (.lst ys)) {s with heap:=s.heap.push {cls:=.type "list",data:=.seq pS.toArray},toks:=t'} :=
 I.laid (λ_ _ q=>ah _ q) (ar _) ⟨hz,pS,0,hv,aF _ rfl⟩
def Inv.fresh(I:Inv X p8 σ H s):H s.heap.objs.size=none:=I.hok.fresh (ar _)
def Inv.lstM(I:Inv X p8 σ H s)(hH:H l=some (.lst xs)):xs.length<=sizeLine/\∃(pS:A7)(n:Nat),Vals xs pS/\xs.length=pS.length/\s.heap.get? l=some {cls:=.type "list",data:=.seq pS.toArray n}:=by
 let⟨z,pS,n,r,e⟩:=I.hok l _ hH;exact⟨z,pS,n,r,r.length,e⟩
def zbQ{n:Nat}(h:n<=sizeLine):Builtin.List.listTooLong n=false:=by
 unfold Builtin.List.listTooLong;exact aR (by lia)
end
section
variable{X:Cx}
def zhO:V->List V->Hp->VK->Prop:=λx vs H Q=>∃l xs y,x=.ref l/\vs=[y]/\H l=some (.lst xs)/\xs.length<sizeLine/\Q .non (upd H l (.lst (xs++[y])))
def zN:MtM X "list.append" zhO:=by
 intro p8 s σ H x vs v us Q I rx rv h;let⟨l,xs,y,rfl,rfl,hH,hz,q⟩:=h;cases rx;let⟨u,rfl,ru⟩:=rv.one;let⟨z,pS,n,r,hl,e⟩:=I.lstM hH;refine cV F.slot_list_append ⟨_,e,rfl⟩ F.entry_list_append (F.args_list_append_2 _ _) (PySem.list_append l pS.toArray n u (by rw[ax];lia)) ⟨e,?_⟩;refine⟨.non,_,I.lset (its':=pS++[u]) hH e (by simp) (r.append (.cons ru .nil)) ?_,rfl,q⟩;rw[aD,bP]
 lia
def zhL:V->List V->Hp->VK->Prop:=λx vs H Q=>∃l b xs zs,x=.ref l/\vs=[.ref b]/\H l=some (.lst xs)/\H b=some (.lst zs)/\xs.length+zs.length<=sizeLine/\Q .non (upd H l (.lst (xs++zs)))
def Vp:MtM X "list.extend" zhL:=by
 intro p8 s σ H x vs v us Q I rx rv h;let⟨l,b,xs,zs,rfl,rfl,hH,hB,hz,q⟩:=h;cases rx;let⟨u,rfl,ru⟩:=rv.one;cases ru;let⟨z,pS,n,r,hl,e⟩:=I.lstM hH;let⟨z2,its2,n2,r2,hl2,e2⟩:=I.lstM hB;have hsz:pS.toArray.size+its2.toArray.size<=sizeLine:=by rw[ax,ax];lia
 have hlong:¬(!pS.toArray.isEmpty&&Builtin.List.listTooLong (pS.toArray.size+its2.toArray.size))=true:=by
  rw[zbQ hsz,cf];exact aC
 refine cV F.slot_list_extend ⟨_,e,rfl⟩ F.entry_list_extend (F.args_list_extend_2 _ _)
  (AutoSeq1.list_extend_list_list_0 l pS.toArray n b its2.toArray n2 hlong (by rw[ax];lia) (by lia)) ⟨e,e2,?_⟩
 refine⟨.non,_,I.lset (its':=pS++its2) hH e (by simp) (r.append r2) ?_,rfl,q⟩;rw[aD]
 lia
def zjk:V->List V->Hp->VK->Prop:=λx vs H Q=>∃l xs i k y,x=.ref l/\vs=[.int i]/\H l=some (.lst xs)/\-(2^63)<=i/\i<2^63/\seqIndex? i xs.length=some k/\xs[k]?=some y/\Q y (upd H l (.lst (xs.eraseIdx k)))
def XT:MtM X "list.pop" zjk:=by
 intro p8 s σ H x vs v us Q I rx rv h;let⟨l,xs,i,k,y,rfl,rfl,hH,h1,h2,hk,hy,q⟩:=h;cases rx;let⟨u,rfl,ru⟩:=rv.one;let⟨t,rfl⟩:=ru;let⟨z,pS,n,r,hl,e⟩:=I.lstM hH;let⟨w,hw,rw'⟩:=r.get hy;refine cV F.slot_list_pop ⟨_,e,rfl⟩ F.entry_list_pop (F.args_list_pop_2 _ _)
  (MeetsSeq.list_pop_at l pS.toArray n i t k w (fitsIndex_both h1 h2) (by rw[ax,<- hl];exact hk) (by rw[<- cZ];exact hw) (by rw[ax];lia)) ⟨e,?_⟩
 refine⟨y,_,I.lset (its':=pS.eraseIdx k) hH e ?_ (r.eraseIdx k) ?_,rw',q⟩
 .show pS.toArray.eraseIdxIfInBounds k=(pS.eraseIdx k).toArray
  rw[List.eraseIdxIfInBounds_toArray]
 .have:=Vs xs k
  lia
def zkZ:R2:=λx y H Q=>∃l k xs,x=.ref l/\y=.int k/\H l=some (.lst xs)/\-(2^63)<=k/\k<2^63/\xs.length*k.toNat<=sizeLine /\
 ∀p,H p=none->Q (.ref p) (upd H p (.lst (List.replicate k.toNat xs).flatten))
def zh6{α:Type}(xs:List α)(k:Nat):(List.replicate k xs).flatten.length=k*xs.length:=by
 induction k with
 |zero=>simp
 |succ k ih=>rw[db,eu,aD,ih,Nat.succ_mul,Nat.add_comm]
def zc7:OpR X (binaryOp .Mult) zkZ:=by
 intro p8 s σ H x y v u Q I rx ry h;let⟨l,k,xs,rfl,rfl,hH,h1,h2,hz,q⟩:=h;cases rx;let⟨t,rfl⟩:=ry;let⟨z,pS,n,r,hl,e⟩:=I.lstM hH;have hlen:pS.toArray.size*k.toNat<=sizeLine:=by rw[ax,<- hl];exact hz
 have hcap:¬pS.toArray.size*k.toNat>(2^63-1)/8:=by
  have:(sizeLine:Nat)<=(2^63-1)/8:=by decide
  lia
 have hfit:¬(!Builtin.List.listFitsIndex k)=true:=by
  rw[fitsIndex_both h1 h2];exact aC
 have hlong:¬Builtin.List.listTooLong (pS.toArray.size*k.toNat)=true:=by
  rw[zbQ hlen];exact aC
 have hnew:List.foldl (λx1 x2=>x1++x2) #[] (List.replicate (if pS.toArray.isEmpty=true then 0 else k.toNat) pS.toArray)=(List.replicate k.toNat pS).flatten.toArray:=by
  have f0:∀m:Nat,List.foldl (λx1 x2=>x1++x2) #[] (List.replicate m pS.toArray)=(List.replicate m pS).flatten.toArray:=λm=>by
   have:=VA pS m [];rw[List.nil_append]at this;exact this
  rw[f0];cases pS with
  |nil=>simp
  |cons a r'=>rw[am (by simp)]
 refine wpAny_binaryOp_repeat_ref (T:="list") (U:="int") (by decide) ⟨_,e,rfl⟩ (λs'=>typeIs_int s' k t) noFill_list_mul F.fills_int_mul F.slot_int_rmul repeat_list F.slot_int_index.lookup
  (cV F.slot_int_rmul (typeIs_int s k t) F.entry_int_rmul (F.args_int_rmul_2 _ _) (int___rmul___int_list k t l pS.toArray n)
   ⟨e,rfl,⟨_,e,rfl⟩,cV F.slot_list_mul ⟨_,e,rfl⟩ F.entry_list_mul (F.args_list_mul_2 _ _) (AutoListH.list___mul___list_int_3 l pS.toArray n k t hfit hcap hlong) ⟨e,?_⟩⟩)
 rw[hnew];exact⟨.ref _,_,I.lnew (t':=s.toks) (r.rep k.toNat) (by rw[zh6,Nat.mul_comm];exact hz),rfl,q _ I.fresh⟩
end
section
variable{prog:Af}{w:World}{A:Ao}{E:A3}{s:An}
end
section
variable{X:Cx}
end
end L2
namespace Att
open PySem PySem.W PySem.Calls PyProof.Rows
def Jr{P:Params}{h:Heap}:∀(ns:A6)(vs:A7),WellAll P h vs (ns.map WData.int)->IntsAre vs ns:=by
 intro ns
 induction ns with
 |nil =>
  intro vs w;rw[map_nil]at w;cases w;exact .nil
 |cons n ns ih =>
  intro vs w;rw[bN]at w;cases w with
  |cons a b =>
   cases a;exact .cons _ _ (ih _ b)
theorem zeL{l:OpenLaw}{n:Nat}(hn:l.most=some n){P:Params}{h:Heap}{args:List WData}{vals:A7}(hpre:l.row.toRowW.claim.pre args=true)(hwl:WellAll P h vals args) :
  ∃a vs ns,vals=[Value.ref a]/\args=[WData.list (ns.map WData.int)]/\h.get? a=some {cls:=.type "list",data:=.seq vs.toArray}/\IntsAre vs ns/\ns.length<=n:=by
 have hsh:WShape.hasAll [] args [.list .int]=true:=(pre_splitW hpre).1;have hc:l.pre.holds [] {args:=args}=true:=(pre_splitW hpre).2;let⟨d,r,rfl,h1,h2⟩:=hasAllW_cons hsh;obtain rfl:=hasAllW_nil h2;let⟨xs,rfl,h3⟩:=hasW_list h1;let⟨ns,rfl⟩:=items_int h3;have hlen:ns.length<=n:=by
  unfold OpenLaw.pre at hc;have h4:(WTm.not (.lt (.lit (.int (n:Int))) (.len (.arg 0)))).holds [] {args:=[.list (ns.map .int)]}=true:=by
   have h4:=(holds_andW hc).1;rw[hn]at h4;exact h4
  have h5:=condW_of h4 (w_not (w_lt w_lit (w_len_list (w_arg rfl))));rw[af]at h5;refine Nat.le_of_not_lt λq=>?_;have q':(n:Int)<((ns.length:Nat):Int):=by lia
  first
   |(rw[aZ q']at h5;exact absurd h5 (by decide))
   |(simp at h5;lia)
 cases hwl with
 |cons w1 w2 =>
  cases w2;cases w1 with
  |list ho hall=>exact⟨_,_,ns,rfl,rfl,ho,Jr ns _ hall,hlen⟩
def ze1(l:OpenLaw)(args:List WData):l.row.toRowW.claim.post args (.bool true) args=true :=
 postW_of (r:=l.row.toRowW) (X:=(true == true))
  (show WShape.has [] (.bool true) .bool=true by first|rfl|decide|simp[WShape.has,WShape.arms,WShape.armsAll])
  (show(WTm.eq .res (.lit (.bool true))).value [] {args:=args,res:=some (.bool true),after:=args}=some (.bool (true == true))from w_eq_bool (w_res rfl) w_lit) rfl
def attach_call{l:OpenLaw}{n:Nat}{q:Af}{loose:A8}{XP:(Str->Option Value)->Heap->Prop}{YP:World->Heap->Prop}{d:DefRec}(hn:l.most=some n)(hdf:d.params.defaults=[])(call:∀(w:World)(s₀ s₁:An)(mg mb:A4)(fa:Addr)(o:Obj)(pm cd doc:Am)(a:Addr)(vs:A7)(ns:A6),
   Ground q loose [] XP w s₀ mg mb s₁.heap->YP w s₁.heap ->
   s₁.heap.get? fa=some o->o.data=.func (docDef d.name d.params d.body d.scope pm cd doc)->s₁.heap.CodeRec cd d.name->mg d.name=some (.ref fa) ->
   s₁.heap.get? a=some {cls:=.type "list",data:=.seq vs.toArray}->IntsAre vs ns->ns.length<=n->s₁.gens=#[] ->
   codeAny (model l.prog w) callerA (.call (.ref fa) ⟨[.ref a],[]⟩) (λr s'=>r=.ok (.ret (.bool true))/\OldK s₁.heap s'.heap/\s'.os=s₁.os/\AllBare s'.gens) s₁) :
  WalkO q loose XP YP l.row.toRowW d [] (λf vs=>PySem.call f vs):=by
 intro w s₀ s₁ mg mb G Y fa o pm cd doc dV kV ho hd hcd hD hmg hg args vals as hpre hlay hrd hwl hlo;obtain rfl:dV=.none:=Dflts.none hD hdf;obtain rfl:kV=.none:=Dflts.noKw hD;let⟨a,vs,ns,rfl,rfl,hobj,hints,hlen⟩:=zeL hn hpre hwl;refine enter_call (cu (call w s₀ s₁ mg mb fa o pm cd doc a vs ns G Y ho (fd_plain hd) hcd hmg hobj hints hlen hg) λr s' hq=>?_);let⟨rfl,h2,h3,h4⟩:=hq;exact⟨.inl ⟨.bool true,.bool true,[],rfl,λ_=>rfl,.bool true,ze1 l _,λ_=>⟨List.Pairwise.nil,λ_ hm=>(nomatch hm)⟩⟩,h2,h3,h4⟩
section
variable{prog:Af}{w:World}{A:Ao}{E:A3}{s:An}{K:Frag}
noncomputable def ledger(h:Heap)(L d:Addr):List (Addr×Obj):=(List.range h.objs.size).filterMap λa=>if a=L\/a=d then none else(h.get? a).map λo=>(a,o)
end
end Att
namespace L2
open PySem PySem.Spec PyProof.Rows
variable{fd:FuncData}
theorem WR:∀{vs:A7}{ns:A6},IntsAre vs ns->Vals (ns.map V.int) vs
 |_,_,.nil=>.nil
 |_,_,.cons n t h=>.cons ⟨t,rfl⟩ (WR h)
def zj7(H:Hp):Prop:=∀b,H b=none\/∃o xs,H b=some (.frz o (.lst xs))
theorem zgI{P:Af}{w:World}{K:A0}{mg mb:A4}{CX:CXT}{k:Nat}{fa a:Addr}{x:Str}{sp:Sp}{s₁:An}{vs:A7}{ns:A6}(KX:K.In s₁.heap)(hns:s₁.heap.Ns mainGlobals mg)(hb:s₁.heap.Ns builtinsNs mb)(hbb:∀x:Str,x≠"__name__"->mb x=bootBuiltins x)(hlim:s₁.heap.NoLimit)(hg:s₁.gens=#[])(ha:s₁.heap.get? a=some {cls:=.type "list",data:=.seq vs.toArray})(hi:IntsAre vs ns)(hl:ns.length<=sizeLine)(hr:Room k callerA)(F:∀base:Heap,K.In base->base.Ns mainGlobals mg->FnOk P w K mg base CX k fa fd [x] sp)(hbind:∀(s:An)(u:Am),BindsTo s fd ⟨[u],[]⟩ [(x,u)])(hsp:∀H:Hp,zj7 H->SqL K H a (ns.map V.int)->sp [.ref a] H (λv _=>v=.bl true) λ_ _ _=>False)(hCX:∀H e s',CX [] H s₁ (λ_ _ _=>False) e s'->False) :
  codeAny (model P w) callerA (.call (.ref fa) ⟨[.ref a],[]⟩) (λr s'=>r=.ok (.ret (.bool true))/\OldK s₁.heap s'.heap/\s'.os=s₁.os/\AllBare s'.gens) s₁:=by
 have rv:=WR hi;have lenV:=hi.length;have core:∀H:Hp,zj7 H->SqL K H a (ns.map V.int)->HOk P w H s₁.heap->(∀b,H b≠none->b=a)->(H a≠none->K.lookup a=none) ->
   codeAny (model P w) callerA (.call (.ref fa) ⟨[.ref a],[]⟩) (λr s'=>r=.ok (.ret (.bool true))/\OldK s₁.heap s'.heap/\s'.os=s₁.os/\AllBare s'.gens) s₁:=by
  intro H hO hS hok hA hK;have base_of:∀{b:Addr}{o:Obj},s₁.heap.get? b=some o->H b=none->(zaF s₁.heap H).get? b=some o:=λe n=>zgW e n;have noA:∀{b:Addr}{o:Obj}{es:Array DictEntry}{ep:Nat},s₁.heap.get? b=some o->o.data=.dict es ep->H b=none:=λ{b o es ep} e d=>by
   cases q:H b with
   |none=>rfl
   |some u =>
    have e':b=a:=hA b (by rw[q];simp);subst e';rw[ha]at e;cases e;have d':Data.seq vs.toArray _=Data.dict es ep:=d;cases d'
  have nsK:∀{b:Addr}{m:A4},s₁.heap.Ns b m->(zaF s₁.heap H).Ns b m:=λ{b m} ⟨o,es,ep,e,d,r⟩=>⟨o,es,ep,base_of e (noA e d),d,r⟩;have hKb:K.In (zaF s₁.heap H):=λb o e=>base_of (KX b o e) (by
   cases q:H b with
   |none=>rfl
   |some u =>
    have e':b=a:=hA b (by rw[q];simp);subst e';rw[hK (by rw[q];simp)]at e;cases e)
  have hM:Mod K mg (zaF s₁.heap H):=⟨hKb,nsK hns,⟨mb,nsK hb,hbb⟩,let⟨mc,h1,h2⟩:=hlim;⟨mc,nsK h1,h2⟩⟩;have e0:Env0 P w K mg (zaF s₁.heap H) callerA [] s₁ H:=⟨rfl,hM,λb o e=>zh3 e,Nat.le_of_eq (zfi _ _),trivial,λb hb=>absurd (show b∈([]:Ab)from hb) (by simp),hok,.of_eq hg⟩;refine cu ((F _ hKb (nsK hns)).run callerA [] s₁ H ⟨[.ref a],[]⟩ [.ref a] [.ref a] _ _ hr e0 (hbind s₁ (.ref a)) (.cons rfl .nil) (hsp H hO hS)) λr s' h=>?_;cases r with
  |error e=>exact(hCX H e s' h).elim
  |ok fl =>
   cases fl with
   |next=>exact False.elim h
   |brk=>exact False.elim h
   |cont=>exact False.elim h
   |ret u =>
    let⟨v,H',os,bare,un,hok',r',q⟩:=h;have q':v=.bl true:=q;subst q';obtain rfl:u=Value.bool true:=r';refine⟨rfl,OldK.of_keep λb o e=>?_,os,bare⟩;cases q:H b with
    |none=>exact un.keep b o e q (by intro z;exact absurd (show b∈([]:Ab)from z) (by simp)) (by simp)
    |some u =>
     rcases hO b with z|⟨ob,xs,z⟩
     .rw[q]at z;cases z
     .have z2:=un.frzs b ob _ z;let⟨e1,_⟩:=hok b _ z;let⟨e2,_⟩:=hok' b _ z2;rw[e]at e1;cases e1;exact e2
 cases hk:K.lookup a with
 |some o =>
  have e:=KX a o hk;rw[ha]at e;cases e;refine core (λ_=>none) (λ_=>.inl rfl) (.inr ⟨_,vs.toArray,_,hk,rfl,rfl,rfl,by rw[ax,lenV];exact hl,by simpa using rv⟩) (λb u z=>by have z':(none:Option HO)=some u:=z;cases z') (λb z=>absurd rfl z) λz=>absurd rfl z
 |none =>
  refine core (λb=>if b=a then some (.frz {cls:=.type "list",data:=.seq vs.toArray} (.lst (ns.map V.int)))else none) (λb=>?_) (.inl (.inr ⟨{cls:=.type "list",data:=.seq vs.toArray},aq rfl⟩)) (λb u z=>?_) (λb z=>?_) λ_=>hk
  .by_cases hb:b=a
   .exact .inr ⟨_,_,aq hb⟩
   .exact .inl (am hb)
  .by_cases hb:b=a
   .have z':=(aq hb).symm.trans z;cases z';subst hb;exact⟨ha,by rw[af];exact hl,vs,_,rv,ha⟩
   .have z':=(am hb).symm.trans z;cases z'
  .by_cases hb:b=a
   .exact hb
   .exact absurd (am hb) z
def walk_of{l:PySem.W.OpenLaw}{n k:Nat}{q:Af}{loose:A8}{XP:(Str->Option Value)->Heap->Prop}{YP:World->Heap->Prop}{d:DefRec}{K:Params->PySem.W.Frag}{CX:World->CXT}{sp:World->Sp}{x:Str}(hn:l.most=some n)(hn2:n<=sizeLine)(hdf:d.params.defaults=[])(hr:Room k callerA)(hY:∀(w:World)(h:Heap),YP w h->(K w.params).In h)(F:∀(w:World)(mg:A4)(fa:Addr)(h:Heap),(K w.params).In h->h.Ns mainGlobals mg->mg d.name=some (.ref fa) ->
   ∃fd:FuncData,(∀(s:An)(u:Am),BindsTo s fd ⟨[u],[]⟩ [(x,u)]) /\
    ∀base:Heap,(K w.params).In base->base.Ns mainGlobals mg->FnOk l.prog w (K w.params) mg base (CX w) k fa fd [x] (sp w))(hsp:∀(w:World)(H:Hp)(a:Addr)(ns:A6),ns.length<=n->zj7 H->SqL (K w.params) H a (ns.map V.int)->sp w [.ref a] H (λv _=>v=.bl true) λ_ _ _=>False)(hCX:∀(w:World)(H:Hp)(s:An)(e:Am)(s':An),CX w [] H s (λ_ _ _=>False) e s'->False) :
  PySem.W.WalkO q loose XP YP l.row.toRowW d [] (λf vs=>PySem.call f vs):=by
 refine Att.attach_call hn hdf λw s₀ s₁ mg mb fa o pm cd doc a vs ns G Y ho hd hcd hmg hobj hints hlen hg=>?_;have KX:=hY w _ Y;let⟨fd,hb,hF⟩:=F w mg fa _ KX G.T.g hmg;exact zgI KX G.T.g G.T.b G.T.builtins G.T.nolimit hg hobj hints (aJ hlen hn2) hr hF hb (λH hO hS=>hsp w H a ns hlen hO hS) λH e s'=>hCX w H s₁ e s'
noncomputable def zZ(s:Stmt)(j:Nat):Stmt:=match s with
 | .ClassDef _ _ _ body _ _ _ _ _ _ _=>body.getD j (.Pass ⟨0,0,0,0⟩)
 |_=>.Pass ⟨0,0,0,0⟩
noncomputable def qo(s:Stmt):Arguments:=match s with
 | .FunctionDef _ a _ _ _ _ _ _ _ _=>a
 |_=>{posonlyargs:=[],args:=[],vararg:=none,kwonlyargs:=[],kw_defaults:=[],kwarg:=none,defaults:=[]}
noncomputable def qc(s:Stmt):List Stmt:=match s with
 | .FunctionDef _ _ b _ _ _ _ _ _ _=>b
 |_=>[]
noncomputable def zi(s:Stmt):Scope:=match s with
 | .FunctionDef _ _ _ _ _ _ sc _ _ _=>sc
 |_=>{kind:=.function,names:=[],isGenerator:=false,isCoroutine:=false}
abbrev CX0:CXT:=λ_ _ _ _ _ _=>False
structure Fun(K:A0)(x qual:Str)(st:Stmt)(f:Addr)(fd:FuncData):Prop where
 ex:∃(oc:Am)(od:Aa)(kV doc pm:Am)(an:Aa)(cdv ct:Am)(osl:Ae),
  fd=fnOf x qual (qo st) (qc st) (zi st) .none kV doc pm an cdv ct/\K.lookup f=some ⟨oc,od,.func fd,osl⟩/\codeIn K cdv qual=true
 kp:keepIn K (.ref f)=true
section
variable{P:Af}{w:World}{K:A0}{mg:A4}{base:Heap}
def Fun.ok{x qual:Str}{st:Stmt}{f:Addr}{N ps:A8}{k:Nat}{sp:Sp}(F:Fun K x qual st f fd)(S:FnScope N ps (zi st))(len:∀vs H Q E,sp vs H Q E->vs.length=ps.length)(hbody:∀(cdv:Am)(A:Ao)(outer:List Env)(s:An)(H:Hp)(vs:Ap)(Q:VK)(E:XK),Room k (A.deeper (envOfC qual (zi st) s.heap.objs.size f cdv))->sp vs H Q E ->
   ∃t,PSs (Js CX0 P w K mg base N qual (zi st) f cdv A outer s H E).nox (qc st) t/\t {nx:=λ_ H'=>Q .non H',rt:=Q} (start N vs) H):FnOk P w K mg base CX0 (k+1) f fd ps sp:=by
 let⟨oc,od,kV,doc,pm,an,cdv,ct,osl,rfl,lk,hcd⟩:=F.ex;refine zg3 lk hcd S len λA outer s H vs Q E hr hsp=>?_;let⟨t,h,q⟩:=hbody cdv A outer s H vs Q E hr hsp;exact⟨t,h.nox,q⟩
def Fun.binds{x qual:Str}{st:Stmt}{f:Addr}{ps:A8}(F:Fun K x qual st f fd)(h:∀(kV doc pm:Am)(an:Aa)(cdv ct:Am)(us:A7),us.length=ps.length->bindArgs (fnOf x qual (qo st) (qc st) (zi st) .none kV doc pm an cdv ct) ⟨us,[]⟩=pure (ps.zip us)):Binds K fd ps []:=by
 let⟨oc,od,kV,doc,pm,an,cdv,ct,osl,rfl,lk,hcd⟩:=F.ex;exact .all (h kV doc pm an cdv ct)
def xt{x qual:Str}{st:Stmt}{f:Addr}{oc:Am}{od an:Aa}{osl:Ae}{kV doc pm cdv ct:Am}(l:K.lookup f=some ⟨oc,od,.func (fnOf x qual (qo st) (qc st) (zi st) .none kV doc pm an cdv ct),osl⟩)(c:codeIn K cdv qual=true)(k:keepIn K (.ref f)=true):Fun K x qual st f (fnOf x qual (qo st) (qc st) (zi st) .none kV doc pm an cdv ct):=⟨⟨oc,od,kV,doc,pm,an,cdv,ct,osl,rfl,l,c⟩,k⟩
end
def zn{n:Nat}(h:n<=1000):n<sizeLine:=bV h (by decide)
section
variable{X:Cx}
end
def zR{c A B:Prop}[Decidable c](h1:c->A)(h2:¬c->B):if c then A else B:=by
 by_cases h:c
 .rw[aq h];exact h1 h
 .rw[am h];exact h2 h
def Same(H H':Hp):Prop:=∀b o,H b=some o->H' b=some o
def Same.refl(H:Hp):Same H H:=λ_ _ h=>h
def Same.trans{H H1 H2:Hp}(a:Same H H1)(b:Same H1 H2):Same H H2:=λc o h=>b c o (a c o h)
def Same.free{H H':Hp}(e:Same H H'){l:Addr}(h:H' l=Option.none):H l=Option.none:=by
 cases q:H l with
 |none=>rfl
 |some o =>
  rw[e l o q]at h;cases h
def Same.seq{K:A0}{H H':Hp}{a:Addr}{xs:Ap}(e:Same H H')(h:SqL K H a xs):SqL K H' a xs:=by
 rcases h with(h|⟨o,h⟩)|h
 .exact .inl (.inl (e _ _ h))
 .exact .inl (.inr ⟨o,e _ _ h⟩)
 .exact .inr h
end L2
set_option maxHeartbeats 4000000
namespace L2
open PySem PySem.Spec PyProof.Rows
variable{K:A0}{H:Hp}{P:Af}{w:World}{base:Heap}{s:An}{Q:Ag}{sp:Sp}{mg:A4}{ps:A8}{C:Addr}{oe:Obj}{p8:A2}{cls:Am}{x:Str}
abbrev GK:=Value->St->Hp->Prop
def Wb:Value->Option Addr
 | .ref C=>some C
 | .int _ C=>some C
 |_=>none
def ExC(o:Obj):Value->Prop
 | .int D C=>o.cls=.ref C/\o.dict=some D.toNat
 |v=>o.cls=v/\o.dict=none
def ExC.of{o:Obj}{v:Am}(h:ExC o v)(e:Wb v=some C):o.cls=.ref C:=by
 cases v<;>simp only[Wb,eT,reduceCtorEq]at e
 .subst e;exact h.1
 .subst e;exact h.1
def ExC.map{o:Obj}{v:Am}{f:Array Value->Array Value}(h:ExC o v):ExC (o.mapFields f) v:=by
 let⟨c,d,dt,sl⟩:=o;cases dt<;>exact h
structure Exc(g h:Heap)(H:Hp)(pn:A2)(a:Addr)(cls:Am):Prop where
 ex:∃(oe:Obj)(vs:Ac)(T:Addr)(oT:Obj)(ts:Ac),h.get? a=some oe/\ExC oe cls/\oe.data=.fields vs/\vs[1]?=some (.ref T)/\T≠a /\
  h.get? T=some oT/\oT.data=.fields ts/\ts[3]?=some .none/\g.get? T=none/\H T=none/\∀p∈pn,p.1≠T
 ga:g.get? a=none
 Ha:H a=none
 pa:∀p∈pn,p.1≠a
def ObjOk.there{h:Heap}{a:Addr}{o:HO}(x:ObjOk P w H h a o):∃ob,h.get? a=some ob:=by
 cases o with
 |lst xs=>let⟨_,_,_,_,e⟩:=x;exact⟨_,e⟩
 |tup xs=>let⟨_,_,_,ob,e,_⟩:=x;exact⟨_,e⟩
 |dK pW=>let⟨_,_,_,_,o,_,_,e,_⟩:=x;exact⟨_,e⟩
 |dT pW=>let⟨_,_,_,_,o,_,_,e,_⟩:=x;exact⟨_,e⟩
 |set S n=>let⟨o,_,_,_,e,_⟩:=x;exact⟨_,e⟩
 |ins C dx fs=>let⟨_,_,_,e,_⟩:=x;exact⟨_,e⟩
 |own y=>let⟨_,e⟩:=x;exact⟨_,e⟩
 |xd fs=>let⟨_,⟨_,_,_,e,_⟩,_⟩:=x;exact⟨_,e⟩
 |rng lo hi=>let⟨_,_,_,e⟩:=x;exact⟨_,e⟩
 |frz ob u=>let⟨e,_⟩:=x;exact⟨_,e⟩
 |tbl ps=>exact⟨_,(show h.get? a=some _ from x)⟩
 |met f y=>exact⟨_,(show h.get? a=some _ from x)⟩
 |ext φ=>let⟨_,⟨_,e⟩,_⟩:=x;exact⟨_,e⟩
section
variable{M:Model}{A:Ao}{E:A3}{s:An}
def VC{env:Env}{outer:List Env}{L e:Addr}{vs:Ac}{head:Am}{hadNext:Bool}(hfr:A.frames=some (env::outer))(hl:s.heap.FunFrames base (env::outer))(hf:env.frame=some L)(he:s.heap.get? e=some oe)(hd:oe.data=.fields vs)(hsz:1<vs.size)(h:∀h' T,(∀b o,b∉(env::outer).filterMap (·.frame)->b≠e->s.heap.get? b=some o->h'.get? b=some o)->(∀b o,b≠e->s.heap.get? b=some o->∃sl,h'.get? b=some {o with slots:=sl}) ->
   s.heap.get? T=none->T≠e->h'.get? e=some (oe.mapFields (·.setIfInBounds 1 (.ref T)))->(∃oT ts,h'.get? T=some oT/\oT.data=.fields ts/\ts[3]?=some .none)->Q () {s with heap:=h'}) :
  wpAny M A (do let a <- frameOf env;let pl <- entryPlaceOf L hadNext;let b <- EntryCells.newEntry head a .none (rawInt L) .none pl;setField (.ref e) 1 b) (λ_ s'=>wpAny M A (setFlight (.ref e) none) Q E s') E s:=by
 have hene:e∉(env::outer).filterMap (·.frame):=λhm=>by
  let⟨_,o,ho,hnf⟩:=hl.mem hm;rw[he]at ho;injection ho with ho;subst ho;exact hnf vs hd
 refine ae (wpAny_frameOf_fun hfr hl hf λh₁ hs₁=>?_);refine ae (wpAny_entryPlaceOf λpl hpl=>?_);unfold EntryCells.newEntry newFields;refine ae (dh ?_ (hpl.sizeOk5 _ _ _ _ _));have he₁:h₁.get? e=some oe:=(hs₁.2.1 e hene).trans he;have he₂:=ah (h:=h₁) {cls:=.type "traceback",dict:=none,data:=.fields ([head,.ref L,.none,rawInt L,.none]++(if pl.isEmpty then List.replicate 6 Value.none else pl)).toArray} he₁;refine dg he₂ hd hsz ?_;have hTe:h₁.objs.size≠e:=dQ (az he₁);have hd₃:=bd hd (·.setIfInBounds 1 (Value.ref h₁.objs.size));have he₃:=bD (Obj.mapFields (·.setIfInBounds 1 (Value.ref h₁.objs.size))) he₂ (b9 hd₃);have hT₃:=(be (h₁.push {cls:=.type "traceback",dict:=none,data:=.fields ([head,.ref L,.none,rawInt L,.none]++(if pl.isEmpty then List.replicate 6 Value.none else pl)).toArray})
  (Obj.mapFields (·.setIfInBounds 1 (Value.ref h₁.objs.size))) (bb hTe)).trans (aF h₁ rfl)
 unfold setFlight;refine ae (bx he₃ hd₃ (x:=.ref h₁.objs.size) (by simp[hsz]) ?_);rw[aq (show(Value.ref h₁.objs.size != Value.none)=true from by simp)];refine dg hT₃ rfl (by simp only[ax,aD,aM,bX]<;>lia) ?_;have keep:∀b o,b≠e->h₁.get? b=some o ->
   (((h₁.push {cls:=.type "traceback",dict:=none,data:=.fields ([head,.ref L,.none,rawInt L,.none]++(if pl.isEmpty then List.replicate 6 Value.none else pl)).toArray}).update e (Obj.mapFields (·.setIfInBounds 1 (Value.ref h₁.objs.size)))).update h₁.objs.size
    (Obj.mapFields (·.setIfInBounds 3 ((none:Aa).elim Value.none λf=>rawInt f)))).get? b=some o:=λb o hbe hb=>by
  have hbT:h₁.objs.size≠b:=dQ (az hb);rw[be _ _ hbT,be _ _ (bb hbe)];exact ah _ hb
 refine h _ h₁.objs.size (λb o hb hbe q=>keep b o hbe ((hs₁.2.1 b hb).trans q)) (λb o hbe q=>?_) (dC (by rw[hs₁.1];exact ar _)) hTe ?_ ?_
 .obtain⟨sl,hs⟩:=hs₁.2.2 b o q;exact⟨sl,keep b _ hbe hs⟩
 .rw[be _ _ hTe];exact he₃
 .exact⟨_,_,bD _ hT₃ (b9 (bd rfl _)),bd rfl _,by first|(simp;done)|(rcases hpl with rfl|⟨_,_,_,_,_,_,_,rfl⟩<;>simp)⟩
def Vt{env:Env}{outer:List Env}{L e:Addr}{vs:Ac}{ch:Ab}(hfr:A.frames=some (env::outer))(hl:s.heap.FunFrames base (env::outer))(hf:env.frame=some L)(he:s.heap.get? e=some oe)(hd:oe.data=.fields vs)(h1:(vs[1]?=some .none/\ch=[e])\/∃T oT ts,vs[1]?=some (.ref T)/\T≠e/\s.heap.get? T=some oT/\oT.data=.fields ts/\ts[3]?=some .none/\ch=[e,T])(h:∀h' T,(∀b o,b∉(env::outer).filterMap (·.frame)->b∉ch->s.heap.get? b=some o->h'.get? b=some o)->(∀b o,b∉ch->s.heap.get? b=some o->∃sl,h'.get? b=some {o with slots:=sl}) ->
   (∀b∈ch,∃o,h'.get? b=some o)->s.heap.get? T=none->T≠e->h'.get? e=some (oe.mapFields (·.setIfInBounds 1 (.ref T)))->(∃oT ts,h'.get? T=some oT/\oT.data=.fields ts/\ts[3]?=some .none)->Q () {s with heap:=h'}) :
  wpAny M A (noteFrame (.ref e) env) (λ_ s'=>wpAny M A (setFlight (.ref e) none) Q E s') E s:=by
 rcases h1 with⟨h1,rfl⟩|⟨T,oT,ts,h1,hTe,hT,hdT,h3,rfl⟩
 .unfold noteFrame;simp only[hf];refine ae (bx he hd h1 ?_);rw[am (by decide)];refine VC hfr hl hf he hd (bw.mp h1).1 λh' T k1 k2 k3 k4 k5 k6=>?_;refine h h' T (λb o hb hc q=>k1 b o hb (λz=>hc (by simp[z])) q) (λb o hc q=>k2 b o (λz=>hc (by simp[z])) q) (λb hb=>?_) k3 k4 k5 k6;obtain rfl:b=e:=by simpa using hb
  exact⟨_,k5⟩
 .unfold noteFrame;simp only[hf];refine ae (bx he hd h1 ?_);rw[aq (show(Value.ref T != Value.none)=true from by simp)];refine ae (bx hT hdT h3 ?_);rw[am (show ¬((Value.none == rawInt L)=true)from by simp[rawInt])];refine ae (dg hT hdT (bw.mp h3).1 ?_);have other:∀b,b≠T->(s.heap.update T (Obj.mapFields (·.setIfInBounds 3 Value.none))).get? b=s.heap.get? b:=λb hb=>be _ _ (bb hb);have noRecord:∀b o,s.heap.get? b=some o->(∀vs,o.data≠.fields vs)->b≠T:=λb o hb hnf q=>by
   rw[q,hT]at hb;injection hb with hb;subst hb;exact hnf ts hdT
  have hT':=bD (Obj.mapFields (·.setIfInBounds 3 Value.none)) hT (b9 (bd hdT _));refine VC hfr (hl.of_keeps λb o hb hnf=>⟨o,(other b (noRecord b o hb hnf)).trans hb,rfl⟩) hf ((other e (bb hTe)).trans he) hd (bw.mp h1).1 λh' T' k1 k2 k3 k4 k5 k6=>?_;have hTT:T'≠T:=λz=>by rw[z,hT']at k3;cases k3
  refine h h' T' (λb o hb hc q=>k1 b o hb (λz=>hc (by simp[z])) ((other b (λz=>hc (by simp[z]))).trans q)) (λb o hc q=>k2 b o (λz=>hc (by simp[z])) ((other b (λz=>hc (by simp[z]))).trans q)) (λb hb=>?_) ((other T' hTT).symm.trans k3) k4 k5 k6;rcases au.mp hb with rfl|hb
  .exact⟨_,k5⟩
  .obtain rfl:b=T:=by simpa using hb
   let⟨sl,q⟩:=k2 b _ hTe hT';exact⟨_,q⟩
end
section
variable{X:Cx}{p8:A2}{σ:List Aq}{H:Hp}{s:An}{h':Heap}
def Inv.stepx{ch:Ab}(I:Inv X p8 σ H s)(hch:∀b∈ch,X.s₀.heap.get? b=none/\H b=none/\∀p∈X.pn++p8,p.1≠b)(hrec:∀b∈ch,∃o vs,s.heap.get? b=some o/\o.data=.fields vs)(keep:∀b o,b∉frs X.stack->b∉ch->s.heap.get? b=some o->h'.get? b=some o)(slot:∀b o,b∉ch->s.heap.get? b=some o->∃sl,h'.get? b=some {o with slots:=sl})(there:∀b∈ch,∃o,h'.get? b=some o):Inv X p8 σ H {s with heap:=h'}:=by
 have neL:∀b∈ch,b≠X.env.locals:=λb hb z=>by
  let⟨o,vs,ho,hd⟩:=hrec b hb;let⟨m,⟨o',es,ep,ho',hd',_⟩,_⟩:=I.loc;rw[z,ho']at ho;cases ho;rw[hd']at hd;cases hd
 have neC:∀b∈ch,∀x c,X.env.cells.lookup x=some c->c≠b:=λb hb x c e z=>by
  let⟨o,vs,ho,hd⟩:=hrec b hb;let⟨v,o',ho',hd'⟩:=I.cell x c e;rw[z,ho]at ho';cases ho';rw[hd]at hd';cases hd'
 have nch:∀b o,X.s₀.heap.get? b=some o->b∉ch:=λb o e hb=>by rw[(hch b hb).1]at e;cases e
 have trk:∀b u,H b=some u->b∉ch/\b∉frs X.stack:=λb u e=>⟨(λhb=>by rw[(hch b hb).2.1]at e;cases e),(λhb=>by rw[I.stkFree b hb]at e;cases e)⟩;have nfs:∀b,b∉X.fs->b≠X.env.locals->b∉frs X.stack:=λb h1 h2 z=>(au.mp (I.stkSub b z)).elim h2 h1;have ltL:∀b o,X.s₀.heap.get? b=some o->b≠X.env.locals:=λb o e=>aN (aH (az e) I.ok.above);have cellK:∀x c,X.env.cells.lookup x=some c->∀v,s.heap.IsCell c v->h'.IsCell c v:=λx c e v ⟨o,ho,hd⟩=>by
  let⟨sl,q⟩:=slot c o (λz=>neC c z x c e rfl) ho;exact⟨_,q,hd⟩
 have hok:HOk X.prog X.w H h':=λb u e=>(I.hok b u e).stay (λc v hc q=>by
  have hcH:∃u',H c=some u':=by
   rcases hc with rfl|z
   .exact⟨_,e⟩
   .exact⟨_,z⟩
  let⟨u',hu⟩:=hcH;exact keep c v (trk c u' hu).2 (trk c u' hu).1 q) (λ_ q=>q) λ_ _ q=>q
 refine⟨I.ok,I.os,I.bare,⟨λb o e n hb hx=>?_,λb o e n hb hx=>?_,I.base.free,λb o e hx=>?_,I.base.tups,I.base.frzs,I.base.tbls⟩,?_,λx c e=>?_,I.free,I.freeC,λp hp=>?_,hok,I.len⟩
 .exact keep b o (nfs b hb (ltL b o e)) (nch b o e) (I.base.keep b o e n hb hx)
 .obtain⟨sl,e1⟩:=I.base.slot b o e n hb hx;let⟨sl',e2⟩:=slot b _ (nch b o e) e1;exact⟨sl',e2⟩
 .obtain⟨o',e1⟩:=I.base.there b o e hx;let⟨sl',e2⟩:=slot b _ (nch b o e) e1;exact⟨_,e2⟩
 .obtain⟨m,⟨o,es,ep,ho,r⟩,hl⟩:=I.loc;let⟨sl,q⟩:=slot _ o (λz=>neL _ z rfl) ho;refine⟨m,⟨_,es,ep,q,r⟩,λi x v e1 e2 e3=>?_⟩;let⟨u,r',l⟩:=hl i x v e1 e2 e3;refine⟨u,r',?_⟩;rcases l with l|⟨k,c,e,z⟩
  .exact .inl l
  .exact .inr ⟨k,c,e,cellK x c e _ z⟩
 .obtain⟨v,z⟩:=I.cell x c e;exact⟨v,cellK x c e v z⟩
 .obtain⟨e,n,ne,nf,d⟩:=I.pin p hp;exact⟨keep p.1 p.2 (nfs _ nf ne) (λz=>(hch p.1 z).2.2 p hp rfl) e,n,ne,nf,d⟩
theorem QB{a:Addr}{v:Am}{vs:Ac}{E:A3}(I:Inv X p8 σ H s)(hst:X.stack=X.env::X.outer)(hfr:X.env.frame=some X.env.locals)(hex:X.ex=[])(he:s.heap.get? a=some oe)(hdict:ExC oe v)(hd:oe.data=.fields vs)(ga:X.s₀.heap.get? a=none)(Ha:H a=none)(hpa:∀p∈X.pn++p8,p.1≠a)(h1:vs[1]?=some .none\/∃T oT ts,vs[1]?=some (.ref T)/\T≠a/\s.heap.get? T=some oT/\oT.data=.fields ts/\ts[3]?=some .none/\X.s₀.heap.get? T=none/\H T=none/\∀p∈X.pn++p8,p.1≠T)(hQ:∀s',Inv X p8 σ H s'->Exc X.s₀.heap s'.heap H (X.pn++p8) a v->Q () s') :
  wpAny (model X.prog X.w) X.A (noteFrame (.ref a) X.env) (λ_ s'=>wpAny (model X.prog X.w) X.A (setFlight (.ref a) none) Q E s') E s:=by
 have hfs:=I.ok.frames;have hFF:=I.stack;rw[hst]at hfs hFF;have hS:frs X.stack=(X.env::X.outer).filterMap (·.frame):=by rw[hst];rfl
 have fin:∀(ch:Ab),(∀b∈ch,X.s₀.heap.get? b=none/\H b=none/\∀p∈X.pn++p8,p.1≠b)->(∀b∈ch,∃o vs,s.heap.get? b=some o/\o.data=.fields vs)->a∈ch ->
   ∀h' T,(∀b o,b∉(X.env::X.outer).filterMap (·.frame)->b∉ch->s.heap.get? b=some o->h'.get? b=some o)->(∀b o,b∉ch->s.heap.get? b=some o->∃sl,h'.get? b=some {o with slots:=sl}) ->
   (∀b∈ch,∃o,h'.get? b=some o)->s.heap.get? T=none->T≠a->h'.get? a=some (oe.mapFields (·.setIfInBounds 1 (.ref T)))->(∃oT ts,h'.get? T=some oT/\oT.data=.fields ts/\ts[3]?=some .none)->Q () {s with heap:=h'}:=by
  intro ch hch hrec ha h' T k1 k2 k3 k4 k5 k6 k7;have I':=I.stepx (h':=h') hch hrec (λb o hb hc q=>k1 b o (by rw[<- hS];exact hb) hc q) k2 k3;refine hQ _ I' ⟨?_,ga,Ha,hpa⟩;let⟨oT,ts,q1,q2,q3⟩:=k7;have hsz:1<vs.size:=by
   rcases h1 with z|⟨_,_,_,z,_⟩<;>exact(bw.mp z).1
  refine⟨_,_,T,oT,ts,k6,hdict.map,bd hd _,by simp[hsz],k5,q1,q2,q3,?_,?_,λp hp z=>?_⟩
  .cases e:X.s₀.heap.get? T with
   |none=>rfl
   |some o =>
    let⟨o',e'⟩:=I.base.there T o e (by rw[hex];simp);rw[k4]at e';cases e'
  .cases e:H T with
   |none=>rfl
   |some u =>
    let⟨o',e'⟩:=(I.hok T u e).there;rw[k4]at e';cases e'
  .have:=(I.pin p hp).1;rw[z,k4]at this;cases this
 rcases h1 with h1|⟨T,oT,ts,h1,hTa,hT,hdT,h3,gT,HT,pT⟩
 .refine Vt (ch:=[a]) hfs hFF hfr he hd (.inl ⟨h1,rfl⟩) (fin [a] (λb hb=>?_) (λb hb=>?_) (by simp))
  .obtain rfl:b=a:=by simpa using hb
   exact⟨ga,Ha,hpa⟩
  .obtain rfl:b=a:=by simpa using hb
   exact⟨oe,vs,he,hd⟩
 .refine Vt (ch:=[a,T]) hfs hFF hfr he hd (.inr ⟨T,oT,ts,h1,hTa,hT,hdT,h3,rfl⟩) (fin [a,T] (λb hb=>?_) (λb hb=>?_) (by simp))
  .rcases au.mp hb with rfl|hb
   .exact⟨ga,Ha,hpa⟩
   .obtain rfl:b=T:=by simpa using hb
    exact⟨gT,HT,pT⟩
  .rcases au.mp hb with rfl|hb
   .exact⟨oe,vs,he,hd⟩
   .obtain rfl:b=T:=by simpa using hb
    exact⟨oT,ts,hT,hdT⟩
end
def JG(X:Cx)(G:GK)(e:Am)(s:An):Prop:=∃a cls σ H,e=Value.ref a/\Inv X [] σ H s/\Exc X.s₀.heap s.heap H X.pn a cls/\G cls σ H
def xeG(X:Cx)(G:GK)(e:Am)(s:An):Prop:=wpAny (model X.prog X.w) X.A (noteFrame e X.env) (λ_ s'=>wpAny (model X.prog X.w) X.A (setFlight e none) (λ_ s''=>JG X G e s'') (λ_ _=>False) s') (λ_ _=>False) s
noncomputable abbrev Cx.exg(X:Cx)(G:GK):Cx:=X.wish (xeG X G)
structure Bod(X:Cx):Prop where
 st:X.stack=X.env::X.outer
 fr:X.env.frame=some X.env.locals
 ex:X.ex=[]
def jn{X:Cx}{G:GK}:PassesOwn (model X.prog X.w) X.A X.env (xeG X G):=PassesOwn.looking
def Inv.nopins{X:Cx}{σ:St}(I:Inv X p8 σ H s):Inv X [] σ H s:=I.pins_of λp hp=>absurd hp (by simp)
def Exc.less{g h:Heap}{pn pn':A2}{a:Addr}(x:Exc g h H pn a cls)(hp:∀p∈pn',p∈pn):Exc g h H pn' a cls:=by
 let⟨⟨oe,vs,T,oT,ts,h1,h2,h4,h5,h6,h7,h8,h9,h10,h11,h12⟩,ga,Ha,pa⟩:=x;exact⟨⟨oe,vs,T,oT,ts,h1,h2,h4,h5,h6,h7,h8,h9,h10,h11,λp q=>h12 p (hp p q)⟩,ga,Ha,λp q=>pa p (hp p q)⟩
def CXr(P:Af)(w:World):CXT:=λouter H s E e s'=>∃a cls H',e=Value.ref a/\s'.os=s.os/\AllBare s'.gens/\Un (frs outer) [] H H' s.heap s'.heap/\HOk P w H' s'.heap /\
 Exc s.heap s'.heap H' [] a cls/\E cls none H'
section
variable{X:Cx}{p8:A2}{σ:St}{H:Hp}{s:An}{G:GK}
def QO{e:Am}{s':An}(B:Bod X)(I:Inv X p8 σ H s)(h:CXr X.prog X.w X.stack H s (λcls _ H'=>G cls σ H') e s'):xeG X G e s':=by
 let⟨a,cls,H',rfl,os,bare,un,hok,⟨⟨oe,vs,T,oT,ts,h1,h2,h4,h5,h6,h7,h8,h9,h10,h11,_⟩,ga,Ha,_⟩,hG⟩:=h;have I':Inv X p8 σ H' s':=I.call' os un hok bare (λb z=>absurd z (by simp));have old:∀b,s.heap.get? b=none->X.s₀.heap.get? b=none:=λb hb=>by
  cases e:X.s₀.heap.get? b with
  |none=>rfl
  |some o =>
   let⟨o',e'⟩:=I.base.there b o e (by rw[B.ex];simp);rw[hb]at e';cases e'
 have pin:∀b,s.heap.get? b=none->∀p∈X.pn++p8,p.1≠b:=λb hb p hp z=>by
  have:=(I.pin p hp).1;rw[z,hb]at this;cases this
 refine QB I' B.st B.fr B.ex h1 h2 h4 (old a ga) Ha (pin a ga) (.inr ⟨T,oT,ts,h5,h6,h7,h8,h9,old T h10,h11,pin T h10⟩) λs'' I2 x=>?_;exact⟨a,cls,σ,H',rfl,I2.nopins,x.less λp hp=>bz _ hp,hG⟩
def zcv{a C:Addr}{args:A7}{h':Heap}(B:Bod X)(I:Inv X p8 σ H s)(hm:Heap.MadeExcOf s.heap h' a (.ref C) args)(hG:G (.ref C) σ H):xeG X G (.ref a) {s with heap:=h'}:=by
 let⟨t,h1,h2,h3⟩:=hm.there;have I':Inv X p8 σ H {s with heap:=h'}:=I.kept (t':=s.toks) hm.keeps;have ga:X.s₀.heap.get? a=none:=by
  cases e:X.s₀.heap.get? a with
  |none=>rfl
  |some o =>
   let⟨o',e'⟩:=I.base.there a o e (by rw[B.ex];simp);rw[hm.new]at e';cases e'
 have Ha:H a=none:=by
  cases e:H a with
  |none=>rfl
  |some u =>
   let⟨o',e'⟩:=(I.hok a u e).there;rw[hm.new]at e';cases e'
 refine QB (v:=.ref C) (s:={s with heap:=h'}) I' B.st B.fr B.ex h1 ⟨rfl,rfl⟩ rfl ga Ha (λp hp z=>?_) (.inl rfl) λs'' I2 x=>?_
 .have:=(I.pin p hp).1;rw[z,hm.new]at this;cases this
 .exact⟨a,.ref C,σ,H,rfl,I2.nopins,x.less λp hp=>bz _ hp,hG⟩
end
section
variable{P:Af}{w:World}{K:A0}{mg:A4}{base:Heap}
noncomputable abbrev cxR(P:Af)(w:World)(K:A0)(mg:A4)(base:Heap)(N:A8)(qual:Str)(scope:Scope)(f:Addr)(cd:Am)(A:Ao)(outer:List Env)(s:An)(H:Hp)(E:XK):Cx :=
 Js (CXr P w) P w K mg base N qual scope f cd A outer s H E
def Fun.okx{x qual:Str}{st:Stmt}{f:Addr}{fd:FuncData}{N ps:A8}{k:Nat}(F:Fun K x qual st f fd)(S:FnScope N ps (zi st))(len:∀vs H Q E,sp vs H Q E->vs.length=ps.length)(hbody:∀(cdv:Am)(A:Ao)(outer:List Env)(s:An)(H:Hp)(vs:Ap)(Q:VK)(E:XK),Room k (A.deeper (envOfC qual (zi st) s.heap.objs.size f cdv))->sp vs H Q E ->
   ∃t,PSs ((cxR P w K mg base N qual (zi st) f cdv A outer s H E).exg λcls _ H'=>E cls none H') (qc st) t/\t {nx:=λ_ H'=>Q .non H',rt:=Q} (start N vs) H):FnOk P w K mg base (CXr P w) (k+1) f fd ps sp:=by
 let⟨oc,od,kV,doc,pm,an,cdv,ct,osl,rfl,lk,hcd⟩:=F.ex;refine zg3 lk hcd S len λA outer s H vs Q E hr hsp=>?_;let⟨t,h,q⟩:=hbody cdv A outer s H vs Q E hr hsp;refine⟨t,λp8 s σ H' D I hw=>?_,q⟩;refine aI (h p8 s σ H' D (I.wish _) hw) (λ_ _ z=>z.unwish) λe s' z=>?_;refine ae (aI (show wpAny _ _ _ _ _ _ from z) (λ_ s1 y1=>aI y1 (λ_ s'' y=>?_) λ_ _ y=>y.elim) λ_ _ y=>y.elim);let⟨a,cls,σ2,H2,rfl,J,xx,g⟩:=y;exact⟨a,cls,H2,rfl,J.os,J.bare,J.base,J.hok,xx.less (λp hp=>absurd hp (by simp)),g⟩
end
structure Cal(P:Af)(w:World)(K:A0)(mg:A4)(base:Heap)(x:Str)(k:Nat)(ps:A8)(dvs:Ap)(sp:Sp):Prop where
 ex:∃f fd ds,FnOk P w K mg base (CXr P w) k f fd ps sp/\mg x=some (.ref f)/\keepIn K (.ref f)=true/\Binds K fd ps ds/\Vals dvs ds
structure MCal(P:Af)(w:World)(K:A0)(mg:A4)(base:Heap)(C:Addr)(m:Str)(k:Nat)(ps:A8)(dvs:Ap)(sp:Sp):Prop where
 cl:Cls K C
 ex:∃f fd ds,FnOk P w K mg base (CXr P w) k f fd ps sp/\Meth K C m f/\Binds K fd ps ds/\Vals dvs ds
structure KCal(P:Af)(w:World)(K:A0)(mg:A4)(base:Heap)(x:Str)(C:Addr)(k:Nat)(ps:A8)(dvs:Ap)(sp:Sp):Prop where
 gl:mg x=some (.ref C)
 ex:∃f fd ds,FnOk P w K mg base (CXr P w) k f fd ps sp/\Mk K C f/\Binds K fd ps ds/\Vals dvs ds
def Cal.mono{j k:Nat}{dvs:Ap}(c:Cal P w K mg base x j ps dvs sp)(h:j<=k:=by decide):Cal P w K mg base x k ps dvs sp:=by
 let⟨f,fd,ds,a,b⟩:=c.ex;exact⟨f,fd,ds,a.mono h,b⟩
def MCal.mono{m:Str}{j k:Nat}{dvs:Ap}(c:MCal P w K mg base C m j ps dvs sp)(h:j<=k:=by decide):MCal P w K mg base C m k ps dvs sp:=by
 let⟨f,fd,ds,a,b⟩:=c.ex;exact⟨c.cl,f,fd,ds,a.mono h,b⟩
def KCal.mono{j k:Nat}{dvs:Ap}(c:KCal P w K mg base x C j ps dvs sp)(h:j<=k:=by decide):KCal P w K mg base x C k ps dvs sp:=by
 let⟨f,fd,ds,a,b⟩:=c.ex;exact⟨c.gl,f,fd,ds,a.mono h,b⟩
section
variable{X:Cx}{G:GK}{k:Nat}{f C:Addr}{fd:FuncData}{ps:A8}{sp:Sp}{dvs:Ap}{ds:A7}{x m:Str}{p pos apos:Pos}{e o:Expr}{es:List Expr}{ta:TE}{t:TA}
theorem JA{σ:St}{Q:VK}{us:A7}{vs:Ap}(B:Bod X)(F:FnOk X.prog X.w X.K X.mg X.base (CXr X.prog X.w) k f fd ps sp)(hr:Room k X.A)(hb:Binds X.K fd ps ds)(hd:Vals dvs ds)(I:Inv (X.exg G) p8 σ H s)(r:Vals vs us)(h:sp (vs++dvs) H Q (λcls _ H'=>G cls σ H')):wpAny (model X.prog X.w) X.A (call (.ref f) us) (EP (X.exg G) p8 σ Q) (xeG X G) s:=by
 have r2:Vals (vs++dvs) (us++ds):=r.append hd;have hl:(us++ds).length=ps.length:=by rw[<- r2.length];exact F.len _ _ _ _ h
 refine dI (cu (F.run X.A X.stack s H ⟨us,[]⟩ (us++ds) (vs++dvs) Q _ hr I.unwish.env0 (hb s us I.kIn hl) r2 h) λr s' hq=>?_);cases r with
 |error e=>exact QO B I.unwish hq
 |ok fl =>
  cases fl with
  |ret u=>exact I.after hq
  |next=>exact False.elim hq
  |brk=>exact False.elim hq
  |cont=>exact False.elim hq
theorem zeT{σ:St}{Q:VK}{us:A7}{vs:Ap}(B:Bod X)(M:Mk X.K C f)(F:FnOk X.prog X.w X.K X.mg X.base (CXr X.prog X.w) k f fd ps sp)(hr:Room (k+1) X.A)(hb:Binds X.K fd ps ds)(hd:Vals dvs ds)(I:Inv (X.exg G) p8 σ H s)(r:Vals vs us)(h:∀x dx,H x=none->H dx=none->dx≠x->sp (.ref x::(vs++dvs)) (upd (upd H dx (.own x)) x (.ins C dx [])) (λv H2=>v=.non/\Q (.ref x) H2) (λcls _ H'=>G cls σ H')) :
  wpAny (model X.prog X.w) X.A (call (.ref C) us) (EP (X.exg G) p8 σ Q) (xeG X G) s:=by
 have hq:=h (s.heap.objs.size+1) s.heap.objs.size (I.hok.fresh (dj _)) (I.hok.fresh (ar _)) (aN (c8 _));have I2:=Inv.made (C:=C) I;have r2:Vals (V.ref (s.heap.objs.size+1)::(vs++dvs)) (Value.ref (s.heap.objs.size+1)::(us++ds)):=.cons rfl (r.append hd);have hl:(Value.ref (s.heap.objs.size+1)::us++ds).length=ps.length:=by
  have e:=r2.length;rw[F.len _ _ _ _ hq]at e;exact e.symm
 refine dI (zbX (f:=f) I.kIn M.makes M.init (bJ.mp M.fn) (cu (F.run _ X.stack _ _ ⟨Value.ref (s.heap.objs.size+1)::us,[]⟩ (Value.ref (s.heap.objs.size+1)::(us++ds)) _ _ _ (hr.make C us [])
  (I2.unwish.env0.make C us []) (hb _ (Value.ref (s.heap.objs.size+1)::us) I2.kIn hl) r2 hq) λr s' hq'=>?_))
 cases r with
 |error e=>exact QO B I2.unwish hq'
 |ok fl =>
  cases fl with
  |ret u =>
   let⟨v,H',I3,rv,ev,q3⟩:=I2.after hq';subst ev;exact⟨rv,⟨V.ref (s.heap.objs.size+1),H',I3,rfl,q3⟩⟩
  |next=>exact False.elim hq'
  |brk=>exact False.elim hq'
  |cont=>exact False.elim hq'
def tCl(X:Cx)(k:Nat)(x:Str)(G:GK)(t:TA):TE:=λσ H Q=>∃ps dvs sp,Cal X.prog X.w X.K X.mg X.base x k ps dvs sp/\t σ H λvs H1=>sp (vs++dvs) H1 Q (λcls _ H'=>G cls σ H')
def zq(B:Bod X)(hr:Room k X.A)(ha:PA (X.exg G) (e::es) t)(hg:Gl X x:=by rfl)(hdb:(x == ("__debug__":Str))=false:=by decide)(he:starEach (e::es) X.env=(false,eval e X.env)::starEach es X.env:=by rfl)(hpl:(backTo pos (starEach es X.env)).any (·.1)=false:=by rfl) :
  PE (X.exg G) (.Call (.Name x p) (e::es) [] pos) (tCl X k x G t):=by
 intro p8 s σ H Q I h;let⟨ps,dvs,sp,⟨f,fd,ds,F,hm,hk,hb,hd⟩,h⟩:=h;refine bQ (jc I hg hm ?_ hdb);refine eJ (h₀:=X.base) I.ok.mod.kin hk (vn (ha pos p8 s σ H _ I h) λus s1 vs H1 I1 r q=>⟨I1.kIn,?_⟩) he hpl;exact JA B F hr hb hd I1 r q
def tMk(X:Cx)(k:Nat)(x:Str)(G:GK)(t:TA):TE:=λσ H Q=>∃C ps dvs sp,KCal X.prog X.w X.K X.mg X.base x C k ps dvs sp/\t σ H λvs H1=>∀y dx,H1 y=none->H1 dx=none->dx≠y ->
 sp (.ref y::(vs++dvs)) (upd (upd H1 dx (.own y)) y (.ins C dx [])) (λv H2=>v=.non/\Q (.ref y) H2) (λcls _ H'=>G cls σ H')
def j7(B:Bod X)(hr:Room (k+1) X.A)(ha:PA (X.exg G) (e::es) t)(hg:Gl X x:=by rfl)(hdb:(x == ("__debug__":Str))=false:=by decide)(he:starEach (e::es) X.env=(false,eval e X.env)::starEach es X.env:=by rfl)(hpl:(backTo pos (starEach es X.env)).any (·.1)=false:=by rfl) :
  PE (X.exg G) (.Call (.Name x p) (e::es) [] pos) (tMk X k x G t):=by
 intro p8 s σ H Q I h;let⟨C,ps,dvs,sp,⟨hm,f,fd,ds,F,M,hb,hd⟩,h⟩:=h;refine bQ (jc I hg hm ?_ hdb);refine eJ (h₀:=X.base) I.ok.mod.kin M.kp (vn (ha pos p8 s σ H _ I h) λus s1 vs H1 I1 r q=>⟨I1.kIn,?_⟩) he hpl;exact zeT B M F hr hb hd I1 r q
def tMth(X:Cx)(k:Nat)(m:Str)(G:GK)(ta:TE)(t:TA):TE:=λσ H Q=>ta σ H λy H1=>∃a C dx fs ps dvs sp,y=.ref a/\H1 a=some (.ins C dx fs)/\fs.lookup m=none /\
 MCal X.prog X.w X.K X.mg X.base C m k ps dvs sp/\t σ H1 λvs H2=>sp (.ref a::(vs++dvs)) H2 Q (λcls _ H'=>G cls σ H')
def zao{pl:Sem Bool}(B:Bod X)(hr:Room k X.A)(he:PE (X.exg G) o ta)(ha:PA (X.exg G) (e::es) t)(hst:starEach (e::es) X.env=(false,eval e X.env)::starEach es X.env:=by rfl)(hpl:(backTo pos (starEach es X.env)).any (·.1)=false:=by rfl)(ht:eval (.Call (.Attribute o m apos) (e::es) [] pos) X.env=(do
   let ov <- eval o X.env
   standAt apos.atName
   let(f,first) <- holding [ov] (getMethod ov m pl)
   callWith pos f first (backTo pos (starEach (e::es) X.env)) (backToKw pos (keywordEach [] X.env))):=by rfl) :
  PE (X.exg G) (.Call (.Attribute o m apos) (e::es) [] pos) (tMth X k m G ta t):=by
 intro p8 s σ H Q I h;refine d9 (pl:=pl) (thn (he p8 s σ H _ I h) λu s1 hz=>?_) ht;let⟨x,H1,I1,rx,a,C,dx,fs,ps,dvs,sp,ex,ea,l,⟨c,f,fd,ds,F,hm,hb,hd⟩,q⟩:=hz;subst ex;obtain rfl:u=Value.ref a:=rx;refine ZK I1 ea c hm l ?_;refine eJ (first:=[.ref a]) (h₀:=X.base) I.ok.mod.kin hm.kp (vn (ha pos p8 s1 σ H1 _ I1 q) λus s2 vs H2 I2 r q2=>⟨I2.kIn,?_⟩) hst hpl;exact JA (us:=.ref a::us) (vs:=.ref a::vs) B F hr hb hd I2 (.cons rfl r) q2
def JC{pl:Sem Bool}(B:Bod X)(hr:Room k X.A)(he:PE (X.exg G) o ta)(ht:eval (.Call (.Attribute o m apos) [] [] pos) X.env=(do
   let ov <- eval o X.env
   standAt apos.atName
   let(f,first) <- holding [ov] (getMethod ov m pl)
   callWith pos f first (backTo pos (starEach [] X.env)) (backToKw pos (keywordEach [] X.env))):=by rfl) :
  PE (X.exg G) (.Call (.Attribute o m apos) [] [] pos) (tMth X k m G ta tNil):=by
 intro p8 s σ H Q I h;refine d9 (pl:=pl) (thn (he p8 s σ H _ I h) λu s1 hz=>?_) ht;let⟨x,H1,I1,rx,a,C,dx,fs,ps,dvs,sp,ex,ea,l,⟨c,f,fd,ds,F,hm,hb,hd⟩,q⟩:=hz;subst ex;obtain rfl:u=Value.ref a:=rx;refine ZK I1 ea c hm l ?_;exact gX (first:=[.ref a]) I1.kIn hm.kp (JA (us:=[.ref a]) (vs:=[.ref a]) B F hr hb hd I1 (.cons rfl .nil) q)
def tGl(X:Cx)(x:Str):TE:=λ_ H Q=>∃v u,X.mg x=some u/\RelV v u/\Q v H
def qS(hg:Gl X x:=by rfl)(hd:(x == ("__debug__":Str))=false:=by decide):PE X (.Name x pos) (tGl X x):=λ_ _ _ H _ I h=>by
 let⟨v,u,hm,r,h⟩:=h;exact jc I hg hm ⟨v,H,I,r,h⟩ hd
def tBl(X:Cx)(x:Str)(v:V):TE:=λ_ H Q=>X.mg x=none/\Q v H
def zku{n:String}(hv:bootBuiltins x=some (.type n))(hg:Gl X x:=by rfl)(hn:x≠"__name__":=by decide)(hd:(x == ("__debug__":Str))=false:=by decide):PE X (.Name x pos) (tBl X x (.ty n)):=λ_ _ _ H _ I h=>by
 let⟨hm,h⟩:=h;exact vQ I hg hm hv ⟨.ty n,H,I,rfl,h⟩ hn hd
def tBi(X:Cx)(x:Str)(r:List V->Hp->VK->Prop)(t:TA):TE:=λσ H Q=>X.mg x=none/\t σ H λvs H1=>r vs H1 Q
def zS{id:String}{r:List V->Hp->VK->Prop}(hc:CallR X (.builtin id) r)(hv:bootBuiltins x=some (.builtin id))(ha:PA X (e::es) t)(hg:Gl X x:=by rfl)(hn:x≠"__name__":=by decide)(hdb:(x == ("__debug__":Str))=false:=by decide)(he:starEach (e::es) X.env=(false,eval e X.env)::starEach es X.env:=by rfl)(hpl:(backTo pos (starEach es X.env)).any (·.1)=false:=by rfl):PE X (.Call (.Name x p) (e::es) [] pos) (tBi X x r t):=λp8 s σ H Q I h =>
 zgu hc hg h.1 hv ha hn hdb he hpl p8 s σ H Q I h.2
def jS{T:String}{r:List V->Hp->VK->Prop}(hc:CallR X (.type T) r)(hv:bootBuiltins x=some (.type T))(ha:PA X (e::es) t)(hg:Gl X x:=by rfl)(hn:x≠"__name__":=by decide)(hdb:(x == ("__debug__":Str))=false:=by decide)(he:starEach (e::es) X.env=(false,eval e X.env)::starEach es X.env:=by rfl)(hpl:(backTo pos (starEach es X.env)).any (·.1)=false:=by rfl):PE X (.Call (.Name x p) (e::es) [] pos) (tBi X x r t):=λp8 s σ H Q I h =>
 ze3 hc hg h.1 hv ha hn hdb he hpl p8 s σ H Q I h.2
end
section
variable{X:Cx}{tg:Expr}{a b c e o:Expr}{ta tb tc:TE}{pos:Pos}
def iSeq(K:A0)(tl:TE):TI:=λσ H R=>tl σ H λx H1=>∃a,x=.ref a/\(((∃xs,SqL K H1 a xs)/\R (Itl K a) H1)\/((∃xs,SqT K H1 a xs)/\R (Itt K a) H1))
def qj{l:Expr}{tl:TE}(hl:PE X l tl):PI X tg l (iSeq X.K tl):=by
 intro p8 s σ H R I h;refine qJ (hl p8 s σ H _ I h) λv s1 x H1 I1 r1 q1=>?_;let⟨a,e,q⟩:=q1;subst e;cases r1;rcases q with⟨⟨xs,hq⟩,q⟩|⟨⟨xs,hq⟩,q⟩
 .obtain⟨pS,rv,p,hz⟩:=I1.list hq;refine dU p.isList ?_;refine⟨s1.heap.objs.size,[s1.heap.objs.size],_,_,H1,rfl,I1.kept (t':=s1.toks) λb o e=>ah _ e,zeB a _,⟨_,aF _ rfl,rfl,rfl⟩,λb hb=>?_,q⟩;have e:b=s1.heap.objs.size:=by simpa using hb
  subst e;exact I1.fpOk (ar _) (I1.hok.fresh (ar _))
 .obtain⟨pS,rv,p,hz⟩:=I1.tuple hq;refine wpAny_pyIter_tuple (show s1.heap.IsTuple a pS.toArray from p) ?_;refine⟨s1.heap.objs.size,[s1.heap.objs.size],_,_,H1,rfl,I1.kept (t':=s1.toks) λb o e=>ah _ e,zcz a _,⟨_,aF _ rfl,rfl,rfl⟩,λb hb=>?_,q⟩;have e:b=s1.heap.objs.size:=by simpa using hb
  subst e;exact I1.fpOk (ar _) (I1.hok.fresh (ar _))
def vH{ta:TA}{p pos:Pos}(ha:PA X [a] ta)(hg:Gl X "range":=by rfl)(hs:starEach [a] X.env=[(false,eval a X.env)]:=by rfl):PI X tg (.Call (.Name "range" p) [a] [] pos) (λσ H R=>X.mg "range"=none/\iRng1 ta σ H R) :=
 λp8 s σ H R I h=>ze2 hg h.1 ha hs p8 s σ H R I h.2
def zgk(K:A0):R2:=λx y H Q=>∃l b xs zs,x=.ref l/\y=.ref b/\SqL K H l xs/\SqL K H b zs/\xs.length+zs.length<=sizeLine/\∀p,H p=none->Q (.ref p) (upd H p (.lst (xs++zs)))
def zhZ:OpR X (binaryOp .Add) (zgk X.K):=by
 intro p8 s σ H x y v u Q I rx ry h;let⟨l,b,xs,zs,rfl,rfl,hH,hB,hz,q⟩:=h;cases rx;cases ry;let⟨pS,r,p,z⟩:=I.list hH;let⟨its2,r2,p2,z2⟩:=I.list hB;have e1:=r.length;have e2:=r2.length;let⟨⟨cls,dd,data,sl⟩,n,ho,hc,hdd,hd⟩:=p;let⟨⟨cls2,dd2,data2,sl2⟩,n2,ho2,hc2,hdd2,hd2⟩:=p2;simp only at hc hd hc2 hd2;subst hc hd hc2 hd2;have ea:pS.toArray++its2.toArray=(pS++its2).toArray:=by simp
 refine concat_meets ⟨_,ho,rfl⟩ ⟨_,ho2,rfl⟩ noFill_list_add seq_list_add PySem.F.slot_list_add PySem.F.entry_list_add (PySem.F.args_list_add_2 _ _) (list_addW l b pS.toArray its2.toArray n n2 dd dd2 sl sl2 (by simp only[ax];lia)) ⟨ho,ho2,?_⟩;rw[ea];exact⟨.ref _,_,I.lnew (t':=s.toks) (r.append r2) (by rw[aD];lia),rfl,q _ I.fresh⟩
def OpR.wk{f:Al}{r r':R2}(h:OpR X f r)(k:∀x y H Q,r' x y H Q->r x y H Q):OpR X f r':=λp8 s σ H x y v u Q I rx ry q=>h p8 s σ H x y v u Q I rx ry (k x y H Q q)
def zbB(K:A0):R2:=λx y H Q=>match x,y with
 | .int i,.int j=>Q (.int (i+j)) H
 | .str i,.str j=>i.length+j.length<=sizeLine/\Q (.str (i++j)) H
 |x,y=>zgk K x y H Q
def zK:OpR X (binaryOp .Add) (zbB X.K):=(op_add.or (op_add_str.or zhZ)).wk λx y H Q h=>by
 unfold zbB at h
 split at h
 .exact .inl h
 .exact .inr (.inl ⟨_,_,rfl,rfl,h⟩)
 .exact .inr (.inr h)
def rT(c:Int->Int->Prop)[∀i j,Decidable (c i j)]:R2:=λx y H Q=>iq x λi=>iq y λj=>if c i j then Q (.bl true) H else Q (.bl false) H
def zdl{c:Prop}[Decidable c]{Q:VK}(h:if c then Q (.bl true) H else Q (.bl false) H):Q (.bl (decide c)) H:=by
 by_cases e:c
 .rw[aq e]at h;rw[aZ e];exact h
 .rw[am e]at h;rw[aR e];exact h
def zef{c:Prop}[Decidable c]{Q:VK}(h:if ¬c then Q (.bl true) H else Q (.bl false) H):Q (.bl (!decide c)) H:=by
 by_cases e:c
 .rw[am (λz=>z e)]at h;rw[aZ e];exact h
 .rw[aq e]at h;rw[aR e];exact h
def OpR.t{f:Al}{c:Int->Int->Prop}[∀i j,Decidable (c i j)](h:OpR X f (rI0 λi j=>.bl (decide (c i j)))):OpR X f (rT c):=h.wk λx y H Q q=>by
 let⟨i,j,rfl,rfl,q⟩:=X2 q;exact zdl q
def zgw:OpR X (compareOp .Lt) (rT λi j=>i<j):=op_lt.t
def jT:OpR X (compareOp .LtE) (rT λi j=>i<=j):=op_le.t
def Q0:OpR X (compareOp .Gt) (rT λi j=>j<i):=op_gt.t
def zd8:OpR X (compareOp .GtE) (rT λi j=>j<=i):=op_ge.t
def qH:OpR X (compareOp .Is) (λx y H Q=>nq y (if x=.non then Q (.bl true) H else Q (.bl false) H)):=op_isN.wk λx y H Q q=>by
 let⟨rfl,q⟩:=zd9 q;exact zdl q
def wL:OpR X (compareOp .IsNot) (λx y H Q=>nq y (if ¬x=.non then Q (.bl true) H else Q (.bl false) H)):=op_notN.wk λx y H Q q=>by
 let⟨rfl,q⟩:=zd9 q;exact zef q
def zc2{op:Operator}{b:Expr}{y:V}{r:R2}(ho:OpR X (binaryOp op) r)(hb:PE X b (tC y)){ta:TE}{r':V->Hp->VK->Prop}(k:∀x H Q,r' x H Q->r x y H Q){pos:Pos}(ha:PE X a ta):PE X (.BinOp a op b pos) (tUn r' ta):=by
 intro p8 s σ H Q I h;refine wpAny_BinOp (qJ (ha p8 s σ H _ I h) λv s1 x H1 I1 r1 q1=>thn (hb p8 s1 σ H1 (λz H2=>z=y/\H2=H1) I1 ⟨rfl,rfl⟩) λu s2 ⟨z,H2,I2,r2,e,e2⟩=>?_);subst e e2;exact ho p8 s2 σ H2 x z v u Q I2 r1 r2 (k x H2 Q q1)
def wJ{k:Int}{j:Nat}{p2 pos:Pos}{ta:TE}(ha:PE X a ta)(h:decide (0<k)=true:=by rfl):PE X (.BinOp a .Mod (.Constant (.int k) j p2) pos) (tUn (rU λi=>.int (i%k)) ta) :=
 zc2 ju zh (λx H Q q=>by let⟨i,rfl,q⟩:=Qe q;exact⟨b5 h,q⟩) ha
def vI{k:Int}{j:Nat}{p2 pos:Pos}{ta:TE}(ha:PE X a ta)(h:decide (0<k/\k<1073741824)=true:=by rfl):PE X (.BinOp a .FloorDiv (.Constant (.int k) j p2) pos) (tUn (rU λi=>.int (i/k)) ta) :=
 zc2 zhY zh (λx H Q q=>by let⟨i,rfl,q⟩:=Qe q;have z:=b5 h;exact⟨z,q⟩) ha
def zgq{b k:Int}{j j2:Nat}{p1 p2 pos:Pos}(h:decide (0<=k/\k<=1000000/\b.natAbs<2^64)=true:=by rfl):PE X (.BinOp (.Constant (.int b) j p1) .Pow (.Constant (.int k) j2 p2) pos) (tC (.int (b^k.toNat))):=by
 intro p8 s σ H Q I q;have z:=b5 h;exact zG zju zh zh p8 s σ H Q I ⟨z,q⟩
def Xx{b k:Int}{j j2:Nat}{p1 p2 p3 pos:Pos}{ta:TE}(ha:PE X a ta)(h:decide (0<=k/\k<=1000000/\b.natAbs<2^64)=true:=by rfl)(h0:decide (0<b)=true:=by rfl) :
  PE X (.BinOp a .Mod (.BinOp (.Constant (.int b) j p1) .Pow (.Constant (.int k) j2 p2) p3) pos) (tUn (rU λi=>.int (i%b^k.toNat)) ta) :=
 zc2 ju (zgq h) (λx H Q q=>by let⟨i,rfl,q⟩:=Qe q;exact⟨Int.pow_pos (b5 h0),q⟩) ha
structure MulOk(i j:Int):Prop where
 h:IntMulOk i j
def zav:OpR X (binaryOp .Mult) (rI MulOk λi j=>.int (i*j)):=opI λ_ _ _ _ _ _ _ hc q=>mul_int q hc.h
structure CFd(_ j:Int):Prop where
 a:j≠0
 b:j.natAbs.log2<9000
def zaw:OpR X (binaryOp .FloorDiv) (rI CFd λi j=>.int (i.fdiv j)):=opI λ_ _ _ _ _ _ _ hc q=>floordiv_int hc.1 q (.inl (PyProof.noPylong_of_log2 hc.2))
def ziR:OpR X (compareOp .Gt) (rI0 λi j=>.bl (decide (j<i))):=op_gt
def mul_okL{i j:Int}(h1:-(2^64)<i)(h2:i<2^64):MulOk i j:=⟨PySem.IntMulOk.of_left (gS h1 h2)⟩
def mul_okR{i j:Int}(h1:-(2^64)<j)(h2:j<2^64):MulOk i j:=⟨PySem.IntMulOk.of_right (gS h1 h2)⟩
def fd_ok{i j:Int}(h1:0<j)(h2:j.natAbs<2^8999):CFd i j:=⟨by lia,by
 have:=(gJ (n:=j.natAbs) (k:=8999) (by lia)).mpr h2
 lia⟩
def zjU{i j:Int}(h1:j≠0)(h2:j.natAbs<2^8999):CFd i j:=⟨h1,by
 have:=(gJ (n:=j.natAbs) (k:=8999) (by lia)).mpr h2
 lia⟩
def fdiv_pos{i j:Int}(h:0<j):i.fdiv j=i/j:=cx i (cS h)
noncomputable def wc:List V->List V->Bool
 |[],[]=>true
 |x::xs,y::ys=>eqV x y&&wc xs ys
 |_,_=>false
theorem wa:∀{xs ys:Ap},xs.length≠ys.length->wc xs ys=false
 |[],[],h=>absurd rfl h
 |[],_::_,_=>rfl
 |_::_,[],_=>rfl
 |x::xs,y::ys,h=>by
  have:=wa (xs:=xs) (ys:=ys) (λe=>h (by simp[e]));unfold wc;rw[this,cf]
theorem wb:∀{xs ys:Ap},xs.length=ys.length->(List.range xs.length).all (λj=>eqV (xs.getD j .non) (ys.getD j .non))=wc xs ys
 |[],[],_=>rfl
 |[],_::_,h=>by simp at h
 |_::_,[],h=>by simp at h
 |x::xs,y::ys,h=>by
  have ih:=wb (xs:=xs) (ys:=ys) (by simpa using h);unfold wc;rw[<- ih,aM,List.range_succ_eq_map,all_cons,List.all_map]
  rfl
theorem Vals.getD:∀{xs:Ap}{us:A7}{j:Nat}(h:j<us.length),Vals xs us->RelV (xs.getD j .non) us[j]
 |_,_,0,_,.cons r _=>r
 |_,_,j+1,h,.cons _ t=>Vals.getD (j:=j) (by simpa using h) t
def jV{xs:Ap}(f:xs.all jo=true)(j:Nat):jo (xs.getD j .non)=true:=by
 rw[aj];cases e:xs[j]? with
 |none=>rfl
 |some x=>exact bU.mp f x (ai e)
def zhM(K:A0)(neg:Bool):R2:=λx y H Q=>∃a b xs ys,x=.ref a/\y=.ref b/\((SqL K H a xs/\SqL K H b ys)\/(SqT K H a xs/\SqT K H b ys))/\xs.all jo=true/\ys.all jo=true/\Q (.bl (if neg then !wc xs ys else wc xs ys)) H
def ze9(hu:X.A.units<cLine):OpR X (compareOp .Eq) (zhM X.K false):=by
 intro p8 s σ H x y v u Q I rx ry h;let⟨a,b,xs,ys,rfl,rfl,hq,fx,fy,q⟩:=h;cases rx;cases ry;have fin:EP X p8 σ Q (.bool (wc xs ys)) s:=⟨.bl (wc xs ys),H,I,rfl,q⟩;rcases hq with⟨h1,h2⟩|⟨h1,h2⟩
 .obtain⟨pS,r,p,_⟩:=I.list h1;let⟨its2,r2,p2,_⟩:=I.list h2;have e1:=r.length;have e2:=r2.length;by_cases hl:xs.length=ys.length
  .refine fP (e:=λj=>eqV (xs.getD j .non) (ys.getD j .non)) p.isList p2.isList (by simp only[ax];lia) hu (λj h1 h2=>?_) _ _ _ _ ?_
   .exact ZM (Vals.getD (by simpa using h1) r) (Vals.getD (by simpa using h2) r2) (jV fx j) (jV fy j)
   .rw[ax,<- e1,wb hl];exact fin
  .rw[wa hl]at fin;exact hX p.isList p2.isList (by simp only[ax];simp;lia) hu _ _ _ _ fin
 .obtain⟨pS,r,p,_⟩:=I.tuple h1;let⟨its2,r2,p2,_⟩:=I.tuple h2;have e1:=r.length;have e2:=r2.length;refine di (e:=λj=>eqV (xs.getD j .non) (ys.getD j .non)) p p2 hu (λj h1 h2=>?_) _ _ _ _ ?_
  .exact ZM (Vals.getD (by simpa using h1) r) (Vals.getD (by simpa using h2) r2) (jV fx j) (jV fy j)
  .by_cases hl:xs.length=ys.length
   .have em:min pS.toArray.size its2.toArray.size=xs.length:=by simp only[ax];lia
    have es:(pS.toArray.size == its2.toArray.size)=true:=by simp only[ax];rw[bJ];lia
    rw[em,es,wb hl,fV];exact fin
   .have es:(pS.toArray.size == its2.toArray.size)=false:=by simp only[ax];rw[a9];lia
    rw[es,cf];rw[wa hl]at fin;exact fin
def ze6(hu:X.A.units<cLine):OpR X (compareOp .NotEq) (zhM X.K true):=by
 intro p8 s σ H x y v u Q I rx ry h;let⟨a,b,xs,ys,rfl,rfl,hq,fx,fy,q⟩:=h;cases rx;cases ry;have fin:EP X p8 σ Q (.bool (!wc xs ys)) s:=⟨.bl (!wc xs ys),H,I,rfl,q⟩;rcases hq with⟨h1,h2⟩|⟨h1,h2⟩
 .obtain⟨pS,r,p,_⟩:=I.list h1;let⟨its2,r2,p2,_⟩:=I.list h2;have e1:=r.length;have e2:=r2.length;by_cases hl:xs.length=ys.length
  .refine SeqAt.RcNeAt.lists (e:=λj=>eqV (xs.getD j .non) (ys.getD j .non)) p.isList p2.isList (by simp only[ax];lia) hu (λj h1 h2=>?_) _ _ _ _ ?_
   .exact ZM (Vals.getD (by simpa using h1) r) (Vals.getD (by simpa using h2) r2) (jV fx j) (jV fy j)
   .rw[ax,<- e1,wb hl];exact fin
  .rw[wa hl]at fin;exact SeqAt.RcNeAt.lists_lengths p.isList p2.isList (by simp only[ax];simp;lia) hu _ _ _ _ fin
 .obtain⟨pS,r,p,_⟩:=I.tuple h1;let⟨its2,r2,p2,_⟩:=I.tuple h2;have e1:=r.length;have e2:=r2.length;refine SeqAt.RcNeAt.tuples (e:=λj=>eqV (xs.getD j .non) (ys.getD j .non)) p p2 hu (λj h1 h2=>?_) _ _ _ _ ?_
  .exact ZM (Vals.getD (by simpa using h1) r) (Vals.getD (by simpa using h2) r2) (jV fx j) (jV fy j)
  .by_cases hl:xs.length=ys.length
   .have em:min pS.toArray.size its2.toArray.size=xs.length:=by simp only[ax];lia
    have es:(pS.toArray.size == its2.toArray.size)=true:=by simp only[ax];rw[bJ];lia
    rw[em,es,wb hl,fV];exact fin
   .have es:(pS.toArray.size == its2.toArray.size)=false:=by simp only[ax];rw[a9];lia
    rw[es,cf];rw[wa hl]at fin;exact fin
inductive DE(K:A0)(H:Hp):Nat->V->V->Bool->Prop
 |flat {n:Nat} {x y:V}:jo x=true->jo y=true->DE K H n x y (eqV x y)
 |same {n:Nat} {p:Addr}:DE K H n (.ref p) (.ref p) true
 |lists {n:Nat} {p q:Addr} {xs ys:Ap} {e:Nat->Bool}:p≠q->SqL K H p xs->SqL K H q ys->xs.length=ys.length->(∀j x y,xs[j]?=some x->ys[j]?=some y->DE K H n x y (e j))->DE K H (n+1) (.ref p) (.ref q) ((List.range xs.length).all e)
 |listsL {n:Nat} {p q:Addr} {xs ys:Ap}:p≠q->SqL K H p xs->SqL K H q ys->xs.length≠ys.length->DE K H (n+1) (.ref p) (.ref q) false
 |tuples {n:Nat} {p q:Addr} {xs ys:Ap} {e:Nat->Bool}:p≠q->SqT K H p xs->SqT K H q ys->(∀j x y,xs[j]?=some x->ys[j]?=some y->DE K H n x y (e j))->DE K H (n+1) (.ref p) (.ref q) ((List.range (min xs.length ys.length)).all e&&xs.length == ys.length)
 |nt {n:Nat} {p:Addr} {xs:Ap}:SqT K H p xs->DE K H n .non (.ref p) false
 |tn {n:Nat} {p:Addr} {xs:Ap}:SqT K H p xs->DE K H n (.ref p) .non false
def Vals.at_{xs:Ap}{us:A7}(r:Vals xs us){j:Nat}(h:j<us.toArray.size):∃x,xs[j]?=some x/\RelV x us.toArray[j]:=by
 have h':j<us.length:=by simpa using h
 have hl:j<xs.length:=by rw[r.length];exact h'
 let⟨u,hu,ru⟩:=r.get (ac hl);have e:us.toArray[j]=u:=by
  have:=aa.mp hu;let⟨_,e⟩:=this;simpa using e
 exact⟨xs[j],ac hl,e ▸ ru⟩
def zen{σ:St}{n:Nat}{x y:V}{b:Bool}(I:Inv X p8 σ H s)(h:DE X.K H n x y b):∀{u v:Am}{A:Ao},RelV x u->RelV y v->A.units+n<cLine->SeqAt.EqAt A s u v b:=by
 induction h with
 |flat fx fy=>intro u v A rx ry _;exact ZM rx ry fx fy
 |same=>intro u v A rx ry _;cases rx;cases ry;exact eG _
 |lists hne h1 h2 hl _ ih =>
  intro u v A rx ry hu;cases rx;cases ry;let⟨pS,r,p,_⟩:=I.list h1;let⟨its2,r2,p2,_⟩:=I.list h2;have e1:=r.length;have e2:=r2.length;refine cW hne ?_;have:=fP (A:=A) (s:=s) p.isList p2.isList (by simp only[ax];lia) (by lia) (λj h1 h2=>by
   let⟨x,hx,rx⟩:=r.at_ h1;let⟨y,hy,ry⟩:=r2.at_ h2;exact ih j x y hx hy rx ry (by show A.units+1+_<_;lia))
  rw[ax,<- e1]at this;exact this
 |listsL hne h1 h2 hl =>
  intro u v A rx ry hu;cases rx;cases ry;let⟨pS,r,p,_⟩:=I.list h1;let⟨its2,r2,p2,_⟩:=I.list h2;have e1:=r.length;have e2:=r2.length;exact cW hne (hX p.isList p2.isList (by simp only[ax];simp;lia) (by lia))
 |tuples hne h1 h2 _ ih =>
  intro u v A rx ry hu;cases rx;cases ry;let⟨pS,r,p,_⟩:=I.tuple h1;let⟨its2,r2,p2,_⟩:=I.tuple h2;have e1:=r.length;have e2:=r2.length;refine cW hne ?_;have:=di (A:=A) (s:=s) p p2 (by lia) (λj h1 h2=>by
   let⟨x,hx,rx⟩:=r.at_ h1;let⟨y,hy,ry⟩:=r2.at_ h2;exact ih j x y hx hy rx ry (by show A.units+1+_<_;lia))
  simp only[ax,<- e1,<- e2]at this;exact this
 |nt h1 =>
  intro u v A rx ry hu;cases rx;cases ry;let⟨pS,r,p,_⟩:=I.tuple h1;exact SeqAt.EqAt.none_tuple p (by lia)
 |tn h1 =>
  intro u v A rx ry hu;cases rx;cases ry;let⟨pS,r,p,_⟩:=I.tuple h1;exact SeqAt.EqAt.tuple_none p (by lia)
def zhN(K:A0)(neg:Bool):R2:=λx y H Q=>∃p q xs ys n e,x=.ref p/\y=.ref q/\n<=8/\(∀j x y,xs[j]?=some x->ys[j]?=some y->DE K H n x y (e j)) /\
 ((SqL K H p xs/\SqL K H q ys/\xs.length=ys.length/\Q (.bl (if neg then !((List.range xs.length).all e)else(List.range xs.length).all e)) H) \/
   (SqT K H p xs/\SqT K H q ys/\Q (.bl (if neg then !((List.range (min xs.length ys.length)).all e&&xs.length == ys.length)else((List.range (min xs.length ys.length)).all e&&xs.length == ys.length))) H))
def zc9(hu:X.A.units+100<cLine):OpR X (compareOp .Eq) (zhN X.K false):=by
 intro p8 s σ H x y v u Q I rx ry h;let⟨p,q,xs,ys,n,e,rfl,rfl,hn,hde,h⟩:=h;cases rx;cases ry;rcases h with⟨h1,h2,hl,q⟩|⟨h1,h2,q⟩
 .obtain⟨pS,r,p,_⟩:=I.list h1;let⟨its2,r2,p2,_⟩:=I.list h2;have e1:=r.length;have e2:=r2.length;refine fP (e:=e) p.isList p2.isList (by simp only[ax];lia) (by lia) (λj h1 h2=>?_) _ _ _ _ ?_
  .obtain⟨x,hx,rx⟩:=r.at_ h1;let⟨y,hy,ry⟩:=r2.at_ h2;exact zen I (hde j x y hx hy) rx ry (by show X.A.units+1+_<_;lia)
  .rw[ax,<- e1];exact⟨.bl _,H,I,rfl,q⟩
 .obtain⟨pS,r,p,_⟩:=I.tuple h1;let⟨its2,r2,p2,_⟩:=I.tuple h2;have e1:=r.length;have e2:=r2.length;refine di (e:=e) p p2 (by lia) (λj h1 h2=>?_) _ _ _ _ ?_
  .obtain⟨x,hx,rx⟩:=r.at_ h1;let⟨y,hy,ry⟩:=r2.at_ h2;exact zen I (hde j x y hx hy) rx ry (by show X.A.units+1+_<_;lia)
  .simp only[ax,<- e1,<- e2];exact⟨.bl _,H,I,rfl,q⟩
def zc8(hu:X.A.units+100<cLine):OpR X (compareOp .NotEq) (zhN X.K true):=by
 intro p8 s σ H x y v u Q I rx ry h;let⟨p,q,xs,ys,n,e,rfl,rfl,hn,hde,h⟩:=h;cases rx;cases ry;rcases h with⟨h1,h2,hl,q⟩|⟨h1,h2,q⟩
 .obtain⟨pS,r,p,_⟩:=I.list h1;let⟨its2,r2,p2,_⟩:=I.list h2;have e1:=r.length;have e2:=r2.length;refine SeqAt.RcNeAt.lists (e:=e) p.isList p2.isList (by simp only[ax];lia) (by lia) (λj h1 h2=>?_) _ _ _ _ ?_
  .obtain⟨x,hx,rx⟩:=r.at_ h1;let⟨y,hy,ry⟩:=r2.at_ h2;exact zen I (hde j x y hx hy) rx ry (by show X.A.units+1+_<_;lia)
  .rw[ax,<- e1];exact⟨.bl _,H,I,rfl,q⟩
 .obtain⟨pS,r,p,_⟩:=I.tuple h1;let⟨its2,r2,p2,_⟩:=I.tuple h2;have e1:=r.length;have e2:=r2.length;refine SeqAt.RcNeAt.tuples (e:=e) p p2 (by lia) (λj h1 h2=>?_) _ _ _ _ ?_
  .obtain⟨x,hx,rx⟩:=r.at_ h1;let⟨y,hy,ry⟩:=r2.at_ h2;exact zen I (hde j x y hx hy) rx ry (by show X.A.units+1+_<_;lia)
  .simp only[ax,<- e1,<- e2];exact⟨.bl _,H,I,rfl,q⟩
def zcZ(K:A0):R2:=λx y H Q=>match x,y with
 | .int i,.int j=>Q (.bl (decide (i=j))) H
 | .str i,.str j=>Q (.bl (decide (i=j))) H
 | .bl i,.bl j=>Q (.bl (decide (i=j))) H
 |x,y=>rEq x y H Q\/zhM K false x y H Q\/zhN K false x y H Q
def zeX(K:A0):R2:=λx y H Q=>match x,y with
 | .int i,.int j=>Q (.bl (!decide (i=j))) H
 | .str i,.str j=>Q (.bl (!decide (i=j))) H
 | .bl i,.bl j=>Q (.bl (!decide (i=j))) H
 |x,y=>rNe x y H Q\/zhM K true x y H Q\/zhN K true x y H Q
def zeY(K:A0):R2:=λx y H Q=>match x,y with
 | .int i,.int j=>if i=j then Q (.bl true) H else Q (.bl false) H
 | .str i,.str j=>if i=j then Q (.bl true) H else Q (.bl false) H
 | .bl i,.bl j=>if i=j then Q (.bl true) H else Q (.bl false) H
 |x,y=>zcZ K x y H Q
def zeW(K:A0):R2:=λx y H Q=>match x,y with
 | .int i,.int j=>if ¬i=j then Q (.bl true) H else Q (.bl false) H
 | .str i,.str j=>if ¬i=j then Q (.bl true) H else Q (.bl false) H
 | .bl i,.bl j=>if ¬i=j then Q (.bl true) H else Q (.bl false) H
 |x,y=>zeX K x y H Q
def zgz(hu:X.A.units+100<cLine):OpR X (compareOp .Eq) (zcZ X.K):=(op_eq.or ((ze9 (by lia)).or (zc9 hu))).wk λx y H Q h=>by
 unfold zcZ at h
 split at h<;>first|exact h|exact .inl ⟨rfl,by simpa using h⟩
def zky(hu:X.A.units+100<cLine):OpR X (compareOp .NotEq) (zeX X.K):=(op_ne.or ((ze6 (by lia)).or (zc8 hu))).wk λx y H Q h=>by
 unfold zeX at h
 split at h<;>first|exact h|exact .inl ⟨rfl,by simpa using h⟩
def qT(hu:X.A.units+100<cLine):OpR X (compareOp .Eq) (zeY X.K):=(zgz hu).wk λx y H Q h=>by
 unfold zeY at h
 split at h<;>first|exact h|exact zdl (Q:=Q) h
def zbJ(hu:X.A.units+100<cLine):OpR X (compareOp .NotEq) (zeW X.K):=(zky hu).wk λx y H Q h=>by
 unfold zeW at h
 split at h<;>first|exact h|exact zef (Q:=Q) h
def Room.units1{k:Nat}{A:Ao}(r:Room k A):A.units+100<cLine:=by have:=r.un;lia
noncomputable def zhb:V->Option Value
 | .ty n=>some (.type n)
 | .ref a=>some (.ref a)
 |_=>none
def z9:bootBuiltins "len"=some (.builtin "len"):=by decide+kernel
def zhk:bootBuiltins "abs"=some (.builtin "abs"):=by decide+kernel
def zL:bootBuiltins "isinstance"=some (.builtin "isinstance"):=by decide+kernel
def zhj:bootBuiltins "max"=some (.builtin "max"):=by decide+kernel
def zj1:bootBuiltins "all"=some (.builtin "all"):=by decide+kernel
def zfD:bootBuiltins "sorted"=some (.builtin "sorted"):=by decide+kernel
def QK:bootBuiltins "str"=some (.type "str"):=by decide+kernel
def zj0:bootBuiltins "int"=some (.type "int"):=by decide+kernel
def wU:bootBuiltins "list"=some (.type "list"):=by decide+kernel
def Ql:bootBuiltins "tuple"=some (.type "tuple"):=by decide+kernel
def Q4:kitOne K (.type "int") (.type "int")=some true:=by rfl
def Qd:kitOne K (.type "int") (.type "bool")=some false:=by rfl
def Zp:kitOne K (.type "bool") (.type "bool")=some true:=by rfl
def Q3:kitOne K (.type "str") (.type "str")=some true:=by rfl
def zjP:IxR X (rIx X.K):=zjO
def qa:CallR X (.builtin "len") (λxs H Q=>lq xs λx=>∃n,zkN X.K x H n/\Q (.int n) H):=λp8 s σ H xs us Q I r h=>let⟨x,e,n,h⟩:=zgH h;zhd p8 s σ H xs us Q I r ⟨x,n,e,h⟩
def zdh{xs:Ap}{P:Int->Prop}(h:lq xs λv=>iq v P):∃i,xs=[.int i]/\P i:=by
 let⟨v,rfl,h⟩:=zgH h;let⟨i,rfl,h⟩:=Qe h;exact⟨i,rfl,h⟩
def zhl:CallR X (.builtin "abs") (λxs H Q=>lq xs λv=>iq v λi=>Q (.int (if i<0 then -i else i)) H):=λp8 s σ H xs us Q I r h=>zhe p8 s σ H xs us Q I r (zdh h)
end
abbrev bmV:List Value:=[.type "ValueError",.type "Exception",.type "BaseException",.type "object"]
structure XC(K:A0)(C:Addr):Prop where
 q:PySem.W.excIn K C bmV "ValueError.__new__"=true
def ziY{h₀:Heap}(X:K.In h₀)(x:XC K C):∃bm N nm q bs hdct sn sub ab col dd k0 k1 k2 k3 k5 mN,h₀.get? C=some (excClassObj nm q C N bs bm hdct sn sub ab col dd k0 k1 k2 k3 k5 "ValueError.__new__")/\h₀.Ns N mN/\mN "__init__"=none/\OwnTail h₀ bmV bm:=by
 have q:=x.q;unfold PySem.W.excIn at q
 split at q
 .rename_i dd cd sl ho
  split at q
  .rename_i C' bm k0 k1 k2 k3 n k5 hm hs;simp only[cg,bJ,eZ]at q;let⟨⟨⟨⟨⟨rfl,rfl⟩,hdel⟩,ht⟩,hok⟩,hni⟩:=q;let⟨nm,bs,mro,ns,qn,hd,sn,sub,ab,col,del⟩:=cd;dsimp only at hm hdel hok hni;subst hm hdel;have hsl:sl=#[k0,k1,k2,k3,some (.builtin "ValueError.__new__"),k5]:=by
    let⟨l⟩:=sl;simp only at hs;rw[hs]
   subst hsl;exact⟨bm,ns,nm,qn,bs,hd,sn,sub,ab,col,dd,k0,k1,k2,k3,k5,_,X _ _ ho,.of_isNs (ic X hok),PySem.W.nsMap_none_of_in X hok hni,hZ X ht⟩
  .cases q
 .cases q
section
variable{X:Cx}{G:GK}{x n:Str}{np cpos pos hpos:Pos}{e₀:Expr}{es:List Expr}{t:TA}
def tRaise(X:Cx)(x:Str)(G:GK)(t:TA):TS:=λ_ σ H=>∃C,X.mg x=some (.ref C)/\XC X.K C/\t σ H λvs H1=>szl vs (G (.ref C) σ H1)
def qN(B:Bod X)(hc:X.calm=true)(ha:PA (X.exg G) (e₀::es) t)(hg:Gl X x:=by rfl)(hdb:(x == ("__debug__":Str))=false:=by decide)(he:starEach (e₀::es) X.env=(false,eval e₀ X.env)::starEach es X.env:=by rfl)(hpl:(backTo cpos (starEach es X.env)).any (·.1)=false:=by rfl) :
  PS (X.exg G) (.Raise (some (.Call (.Name x np) (e₀::es) [] cpos)) none pos) (tRaise X x G t):=by
 intro p8 s σ H D I h;let⟨C,hm,xc,h⟩:=h;let⟨tl,N,nm,q,bs,hdct,sn,sub,ab,col,dd,k0,k1,k2,k3,k5,mN,hC,hN,hni,T⟩:=ziY I.ok.mod.kin xc;refine wpAny_Raise_call_subT (C:=C) (nm:=nm) (q:=q) (N:=N) (bs:=bs) (bm:=tl) (hdct:=hdct) (sn:=sn) (sub:=sub) (ab:=ab) (col:=col) (dd:=dd) (k0:=k0) (k1:=k1) (k2:=k2) (k3:=k3) (k5:=k5)
  eX (mN:=mN) (T.hasType eX.hasBase) (I.ok.hd hc) (by rw[he];show(false||(backTo cpos (starEach es X.env)).any (·.1))=false;rw[hpl];rfl) hni (jc I hg hm ⟨rfl,?_⟩ hdb)
 have hA:=ha cpos p8 s σ H _ I h;rw[he]at hA ⊢;refine eY (thn hA λus s2 ⟨vs,H2,I2,r,g⟩=>?_);let⟨hl,g⟩:=VR g;exact⟨rfl,by rw[<- r.length];exact hl,I2.bk _ _ hC,hN.keeps I2.bk,T.keeps I2.bk,λh' a hm=>zcv B I2.unwish hm g⟩
end
noncomputable def QG(a:Addr)(cls:Am):HO:=.ext λh=>∃o vs,h.get? a=some o/\ExC o cls/\o.data=.fields vs
def Exc.obj{g h:Heap}{pn:A2}{a:Addr}(x:Exc g h H pn a cls):∃o vs,h.get? a=some o/\ExC o cls/\o.data=.fields vs:=by
 let⟨oe,vs,_,_,_,h1,h2,h4,_⟩:=x.ex;exact⟨oe,vs,h1,h2,h4⟩
section
variable{X:Cx}{p8:A2}{σ:St}{H:Hp}{s:An}
def Inv.track{a:Addr}{u:HO}(I:Inv X p8 σ H s)(Ha:H a=none)(ga:X.s₀.heap.get? a=none)(hrec:∃o vs,s.heap.get? a=some o/\o.data=.fields vs)(pa:∀p∈X.pn++p8,p.1≠a)(new:ObjOk X.prog X.w (upd H a u) s.heap a u):Inv X p8 σ (upd H a u) s:=by
 let⟨o,vs,ho,hd⟩:=hrec;have neL:X.env.locals≠a:=λz=>by
  let⟨m,⟨o',es,ep,ho',hd',_⟩,_⟩:=I.loc;rw[z,ho]at ho';cases ho';rw[hd']at hd;cases hd
 have neC:∀x c,X.env.cells.lookup x=some c->c≠a:=λx c e z=>by
  let⟨v,o',ho',hd'⟩:=I.cell x c e;rw[z,ho]at ho';cases ho';rw[hd']at hd;cases hd
 have keep:∀b v,H b=some v->upd H a u b=some v:=λb v e=>by
  rw[rj (rn e Ha)];exact e
 refine⟨I.ok,I.os,I.bare,⟨I.base.keep,I.base.slot,λb o' e n hx=>?_,I.base.there,λb xs e=>keep b _ (I.base.tups b xs e),λb o' v e=>keep b _ (I.base.frzs b o' v e),λb ps e=>?_⟩,I.loc,I.cell,?_,λx c e=>?_,λp hp=>?_,λb v e=>?_,I.len⟩
 .have:b≠a:=λz=>by rw[z,ga]at e;cases e
  rw[rj this];exact I.base.free b o' e n hx
 .obtain⟨more,q⟩:=I.base.tbls b ps e;exact⟨more,keep b _ q⟩
 .rw[rj neL];exact I.free
 .rw[rj (neC x c e)];exact I.freeC x c e
 .obtain⟨e,n,ne,nf,d⟩:=I.pin p hp;exact⟨e,by rw[rj (pa p hp)];exact n,ne,nf,d⟩
 .by_cases hb:b=a
  .subst hb;rw[rh]at e;cases e;exact new
  .rw[rj hb]at e;exact(I.hok b v e).stay (λ_ _ _ q=>q) (λc q=>keep c _ q) λc xs q=>keep c _ q
def zif{a:Addr}{h:Heap}(x:∃o vs,h.get? a=some o/\ExC o cls/\o.data=.fields vs){H:Hp}:ObjOk P w H h a (QG a cls):=by
 refine⟨x,let⟨o,_,e,_⟩:=x;⟨o,e⟩,λh1 h2 p k=>?_⟩;let⟨o,vs,e,r⟩:=p;exact⟨o,vs,k o e,r⟩
def wP{M:Model}{A:Ao}{E:A3}{a:Addr}(I:Inv X p8 σ H s)(x:Exc X.s₀.heap s.heap H (X.pn++p8) a cls)(hQ:∀s',Inv X p8 σ H s'->Exc X.s₀.heap s'.heap H (X.pn++p8) a cls->Q () s'):wpAny M A (setFlight (.ref a) none) Q E s:=by
 let⟨⟨oe,vs,T,oT,ts,h1,h2,h4,h5,h6,h7,h8,h9,h10,h11,h12⟩,ga,Ha,pa⟩:=x;have h3s:3<ts.size:=(bw.mp h9).1;refine wpAny_setFlight_none h1 h4 h5 h7 h8 h3s ?_;have hT:=bD (Obj.mapFields (·.setIfInBounds 3 Value.none)) h7 (b9 (bd h8 _));have other:∀b,b≠T->(s.heap.update T (Obj.mapFields (·.setIfInBounds 3 Value.none))).get? b=s.heap.get? b:=λb hb=>be _ _ (bb hb);refine hQ _ (I.stepx (ch:=[T]) (λb hb=>?_) (λb hb=>?_) (λb o _ hc q=>(other b (λz=>hc (by simp[z]))).trans q) (λb o hc q=>⟨o.slots,(other b (λz=>hc (by simp[z]))).trans q⟩) λb hb=>?_)
  ⟨⟨oe,vs,T,_,_,(other a (bb h6)).trans h1,h2,h4,h5,h6,hT,bd h8 _,by simp[h3s],h10,h11,h12⟩,ga,Ha,pa⟩
 .obtain rfl:b=T:=by simpa using hb
  exact⟨h10,h11,h12⟩
 .obtain rfl:b=T:=by simpa using hb
  exact⟨oT,ts,h7,h8⟩
 .obtain rfl:b=T:=by simpa using hb
  exact⟨_,hT⟩
end
noncomputable abbrev Cx.suite(X:Cx)(pn:A2)(a:Addr):Cx:={X with pn:=pn,A:=X.A.mark (some (.ref a)),calm:=false,xe:=λ_ _=>False}
noncomputable abbrev Cx.pinned(X:Cx)(pn:A2):Cx:={X with pn:=pn}
section
variable{X:Cx}{p8:A2}{σ:St}{H:Hp}{s:An}
def Inv.topn(I:Inv X p8 σ H s):Inv (X.pinned (X.pn++p8)) [] σ H s :=
 ⟨⟨I.ok.mod,I.ok.kind,I.ok.glob,I.ok.blt,I.ok.above,I.ok.inj,I.ok.has,I.ok.cab,I.ok.hd,I.ok.frames,I.ok.stk,I.ok.exf,I.ok.bs,I.ok.bsz,I.ok.noex,I.ok.exfs,I.ok.funs,I.ok.frf⟩,
  I.os,I.bare,I.base,I.loc,I.cell,I.free,I.freeC,λp hp=>I.pin p (by rwa[bB]at hp),I.hok,I.len⟩
def Inv.ofpn(I:Inv (X.pinned (X.pn++p8)) [] σ H s):Inv X p8 σ H s :=
 ⟨⟨I.ok.mod,I.ok.kind,I.ok.glob,I.ok.blt,I.ok.above,I.ok.inj,I.ok.has,I.ok.cab,I.ok.hd,I.ok.frames,I.ok.stk,I.ok.exf,I.ok.bs,I.ok.bsz,I.ok.noex,I.ok.exfs,I.ok.funs,I.ok.frf⟩,
  I.os,I.bare,I.base,I.loc,I.cell,I.free,I.freeC,λp hp=>I.pin p (by rw[bB];exact hp),I.hok,I.len⟩
def Inv.tosuite{pn:A2}{a:Addr}(I:Inv (X.pinned pn) [] σ H s):Inv (X.suite pn a) [] σ H s :=
 ⟨⟨I.ok.mod,I.ok.kind,I.ok.glob,I.ok.blt,I.ok.above,I.ok.inj,I.ok.has,I.ok.cab,λh=>Bool.noConfusion h,I.ok.frames,I.ok.stk,I.ok.exf,I.ok.bs,I.ok.bsz,I.ok.noex,I.ok.exfs,I.ok.funs,I.ok.frf⟩,
  I.os,I.bare,I.base,I.loc,I.cell,I.free,I.freeC,I.pin,I.hok,I.len⟩
def Inv.ofsuite{pn:A2}{a:Addr}(hd:X.calm=true->X.A.handled=none)(I:Inv (X.suite pn a) [] σ H s):Inv (X.pinned pn) [] σ H s :=
 ⟨⟨I.ok.mod,I.ok.kind,I.ok.glob,I.ok.blt,I.ok.above,I.ok.inj,I.ok.has,I.ok.cab,hd,I.ok.frames,I.ok.stk,I.ok.exf,I.ok.bs,I.ok.bsz,I.ok.noex,I.ok.exfs,I.ok.funs,I.ok.frf⟩,
  I.os,I.bare,I.base,I.loc,I.cell,I.free,I.freeC,I.pin,I.hok,I.len⟩
def vZ{M:Model}{A:Ao}{E:A3}{i:Nat}{n:Str}{pos:Pos}(I:Inv X p8 σ H s)(hN:X.N.Nodup)(hi:X.N[i]?=some n)(hlo:X.env.kindOf n=some .local)(hQ:∀s',Inv X p8 (σ.set i none) H s'->Q () s'):wpAny M A (do bindName X.env n .none;unbindBehindTheSuite X.env n pos) Q E s:=by
 let⟨m,hn,hl⟩:=id I.loc;have hcls:(X.env.scope.kind == .class||(X.env.scope.kind == .module&&X.env.locals != X.env.globals))=false:=by rw[I.ok.kind];rfl
 refine wpAny_nameGoes_keeps hlo hn hcls λh' v hn' hs=>?_;have iσ:i<σ.length:=by rw[I.len];exact(aa.mp hi).1
 let⟨oL,_,_,hoL,_⟩:=id hn;have cne:=I.cne;refine hQ _ ⟨I.ok,I.os,I.bare,⟨λb o e n hb hx=>?_,λb o e n hb hx=>?_,I.base.free,λb o e hx=>?_,I.base.tups,I.base.frzs,I.base.tbls⟩,⟨_,hn',λj y v' e1 e2 e3=>?_⟩,λy c e=>?_,I.free,I.freeC,λp hp=>?_,λb ob e=>?_,by simpa using I.len⟩
 .exact(hs.2 b (aN (aH (az e) I.ok.above))).trans (I.base.keep b o e n hb hx)
 .obtain⟨sl,e1⟩:=I.base.slot b o e n hb hx;exact⟨sl,(hs.2 b (aN (aH (az e) I.ok.above))).trans e1⟩
 .obtain⟨o',e1⟩:=I.base.there b o e hx;exact⟨o',(hs.2 b (aN (aH (az e) I.ok.above))).trans e1⟩
 .by_cases hj:j=i
  .subst hj;rw[aU iσ]at e2;cases e2
  .rw[bE (bb hj)]at e2;let⟨u',r',q⟩:=hl j y v' e1 e2 e3;refine⟨u',r',?_⟩;rcases q with⟨k,e⟩|⟨k,c,e,z⟩
   .refine .inl ⟨k,?_⟩;have:y≠n:=λe=>hj (XO hN e1 (e ▸ hi));simp[this,e]
   .exact .inr ⟨k,c,e,z.sameBut hs (cne y c e)⟩
 .obtain⟨w',z⟩:=I.cell y c e;exact⟨w',z.sameBut hs (cne y c e)⟩
 .obtain⟨e,n,ne,nf,d⟩:=I.pin p hp;exact⟨(hs.2 p.1 ne).trans e,n,ne,nf,d⟩
 .refine(I.hok b ob e).stay (λc w' hc q=>(hs.2 c ?_).trans q) (λ_ q=>q) λ_ _ q=>q;rintro rfl;rcases hc with z|hc
  .rw[<- z]at e;rw[I.free]at e;cases e
  .rw[I.free]at hc;cases hc
end
def jU{M:Model}{A:Ao}{E:A3}{e C D:Addr}{b:Bool}{Q:Bool->Shared->Prop}(X:K.In s.heap)(he:s.heap.get? e=some oe)(hcls:oe.cls=.ref C)(k1:kitCls K (.ref C) (.ref D)=some b)(k2:subIn K (.ref D) (.type "BaseException")=some true)(hq:Q b s):wpAny M A (excMatches (.ref e) (.ref D)) Q E s:=by
 let⟨L1,L2,L3⟩:=PySem.W.kit_cls (M:=M) X k1;have L4:=looks_subIn (M:=M) X k2;have f:=tc_notTuple;let⟨hp,g,d,tk,os⟩:=s;unfold excMatches
 repeat (first|(with_reducible refine cD he ?_;rw[hcls])|with_reducible refine L1.at ?_|with_reducible refine L2.at ?_|with_reducible refine L3.at ?_|with_reducible refine L4.at ?_|wp_step)
 cases b
 .wp_walk
  exact hq
 .wp_walk
  exact hq
section
variable{X:Cx}{G:GK}{x n:Str}{np pos hpos:Pos}{i:Nat}{body suite:List Stmt}{b₀:Stmt}{tb:List (Addr×Obj)->GK->TS}{th:List (Addr×Obj)->Addr->TS}
def tTryAs(X:Cx)(i:Nat)(x:Str)(tb:List (Addr×Obj)->GK->TS)(th:List (Addr×Obj)->Addr->TS):TS:=λD σ H=>∃Dc,X.mg x=some (.ref Dc)/\subIn X.K (.ref Dc) (.type "BaseException")=some true /\
 ∀pn,tb pn (λcls σ' H'=>∃C,Wb cls=some C/\kitCls X.K (.ref C) (.ref Dc)=some true/\∀a,H' a=none ->
  th pn a {nx:=λσ2 H2=>D.nx (σ2.set i none) H2,rt:=D.rt,bk:=λσ2 H2=>D.bk (σ2.set i none) H2,ct:=λσ2 H2=>D.ct (σ2.set i none) H2} (σ'.set i (some (.ref a))) (upd H' a (QG a cls))) D σ H
theorem Vk(B:Bod X)(hc:X.calm=true)(hN:X.N.Nodup)(hi:X.N[i]?=some n)(hlo:X.env.kindOf n=some .local)(hb:∀pn G',PSs ((X.pinned pn).exg G') body (tb pn G'))(hs:∀pn a,PSs (X.suite pn a) (b₀::suite) (th pn a))(hg:Gl X x:=by rfl)(hdb:(x == ("__debug__":Str))=false:=by decide) :
  PS (X.exg G) (.Try body [.ExceptHandler (some (.Name x np)) (some n) (b₀::suite) hpos] [] [] pos) (tTryAs X i x tb th):=by
 intro p8 s σ H D I h;let⟨Dc,hm,hsub,h⟩:=h;have I1:=I.unwish.topn;refine fM (aI (hb (X.pn++p8) _ [] s σ H D (I1.wish _) (h (X.pn++p8))) (λf s1 q=>?_) λe s1 q=>?_)
 .cases f with
  |next =>
   let⟨σ',H',J,q⟩:=q;exact cw ⟨σ',H',J.unwish.ofpn.wish _,q⟩
  |brk=>let⟨σ',H',J,q⟩:=q;exact⟨σ',H',J.unwish.ofpn.wish _,q⟩
  |cont=>let⟨σ',H',J,q⟩:=q;exact⟨σ',H',J.unwish.ofpn.wish _,q⟩
  |ret u=>let⟨v,σ',H',J,r,q⟩:=q;exact⟨v,σ',H',J.unwish.ofpn.wish _,r,q⟩
 .refine aI (show wpAny _ _ _ _ _ _ from q) (λ_ s2 q2=>aI q2 (λ_ s3 q3=>?_) λ_ _ z=>z.elim) λ_ _ z=>z.elim;let⟨a,cls,σ',H',rfl,J,xx,C,hcl,hk,hth⟩:=q3;have J2:Inv (X.suite (X.pn++p8) a) [] σ' H' s3:=J.tosuite;let⟨oe,vs,he,hcls,_⟩:=xx.obj;have hcls:=hcls.of hcl;refine cO (cz (jc J2 hg hm (jU J2.kIn he hcls hk hsub ?_) hdb)) (by intro z;cases z);refine codeAny_handlers_suite_as ?_;refine wP J2 (xx.less λp hp=>by rwa[bB]at hp) λs4 J4 x4=>?_;have J5:=J4.track (u:=QG a cls) x4.Ha x4.ga (let⟨o,vs,e,_,d⟩:=x4.obj;⟨o,vs,e,d⟩) x4.pa (zif x4.obj);refine JR (X:=X.suite (X.pn++p8) a) (v:=.ref a) J5 hN hi (Or.inl hlo) rfl (λs5 J6=>?_) (Or.inr hlo);refine aI (hs (X.pn++p8) a [] s5 _ _ _ J6 (hth a xx.Ha)) (λf s6 q6=>?_) λ_ _ z=>False.elim z;cases f with
  |next =>
   let⟨σ7,H7,J7,q7⟩:=q6;exact vZ (X:=X.suite (X.pn++p8) a) J7 hN hi hlo λs8 J8=>⟨_,H7,(J8.ofsuite I.ok.hd).ofpn.wish _,q7⟩
  |brk =>
   let⟨σ7,H7,J7,q7⟩:=q6;exact vZ (X:=X.suite (X.pn++p8) a) J7 hN hi hlo λs8 J8=>⟨_,H7,(J8.ofsuite I.ok.hd).ofpn.wish _,q7⟩
  |cont =>
   let⟨σ7,H7,J7,q7⟩:=q6;exact vZ (X:=X.suite (X.pn++p8) a) J7 hN hi hlo λs8 J8=>⟨_,H7,(J8.ofsuite I.ok.hd).ofpn.wish _,q7⟩
  |ret u =>
   let⟨v,σ7,H7,J7,r7,q7⟩:=q6;exact vZ (X:=X.suite (X.pn++p8) a) J7 hN hi hlo λs8 J8=>⟨v,_,H7,(J8.ofsuite I.ok.hd).ofpn.wish _,r7,q7⟩
end
structure FA(K:A0)(mg:A4)(x:Str)(st:Stmt)(ps:A8):Prop where
 ex:∃f fd,Fun K x x st f fd/\mg x=some (.ref f)/\Binds K fd ps []
def FA.cal{st:Stmt}{k:Nat}(h:FA K mg x st ps)(ok:∀{f fd},Fun K x x st f fd->FnOk P w K mg base (CXr P w) k f fd ps sp) :
  Cal P w K mg base x k ps [] sp:=by
 let⟨f,fd,F,m,b⟩:=h.ex;exact⟨f,fd,[],ok F,m,F.kp,b,.nil⟩
def fa_mk{h:Heap}{st:Stmt}{f:Addr}{oc:Am}{od an:Aa}{osl:Ae}{kV doc pm cdv ct:Am}(X:K.In h)(G:h.Ns mainGlobals mg)(a:nsIn K mainGlobals x=some (some (.ref f)))(l:K.lookup f=some ⟨oc,od,.func (fnOf x x (qo st) (qc st) (zi st) .none kV doc pm an cdv ct),osl⟩)(c:codeIn K cdv x=true)(k:keepIn K (.ref f)=true)(hb:∀(kV doc pm:Am)(an:Aa)(cdv ct:Am)(us:A7),us.length=ps.length->bindArgs (fnOf x x (qo st) (qc st) (zi st) .none kV doc pm an cdv ct) ⟨us,[]⟩=pure (ps.zip us)):FA K mg x st ps :=
 ⟨f,_,xt l c k,mg_of X G a,(xt l c k).binds hb⟩
def zfo{e:Am}{s':An}(h:CXr P w [] H s (λ_ _ _=>False) e s'):False:=by
 let⟨_,_,_,_,_,_,_,_,_,z⟩:=h;exact z
end L2
namespace L2
open PySem PySem.Spec PySem.Calls PyProof.Rows
variable{K:A0}{C:Addr}{st:Stmt}{ps:A8}
structure XI(K:A0)(C:Addr):Prop where
 ga:findIn K (.ref C) "__getattribute__"=some (some (.builtin "BaseException.__getattribute__"))
 gt:findIn K (.ref C) "__getattr__"=some none
 cl:findIn K (.ref C) "__class__"=some (some (.builtin "object.__class__"))
 hd:hasDictIn K C=true
 gn:specialIn K (.builtin "object.__class__") "__get__"=some (some (.builtin "getset_descriptor.__get__"))
 tk:takesIn K (.builtin "object.__class__")=some true
 mo:mroIn K C (.type "object")=some true
 mb:subIn K (.ref C) (.type "BaseException")=some true
section
variable{prog:Af}{w:World}{A:Ao}{E:A3}{s:An}{K:A0}{a C:Addr}{o:Obj}{vs:Ac}
def zcd{hp:Heap}(hx:hp.get? a=some o)(hc:o.cls=.ref C)(hd:o.dict=none)(hv:o.data=.fields vs):InstAt hp a o C none:=by
 refine⟨hx,hc,?_,?_⟩
 .obtain⟨c,d,dt,sl⟩:=o;simp only at hv;subst hv
  rfl
 .rw[hd]
  trivial
def VB{hp:Heap}{D:Addr}{oD:Obj}(hx:hp.get? a=some o)(hc:o.cls=.ref C)(hd:o.dict=some D)(hv:o.data=.fields vs)(hD:hp.get? D=some oD):InstAt hp a o C (some oD):=by
 refine⟨hx,hc,?_,?_⟩
 .obtain⟨c,d,dt,sl⟩:=o;simp only at hv;subst hv
  rfl
 .rw[hd];exact hD
def zfm{od:Option Obj}{Q:Option Value->Shared->Prop}(X:K.In s.heap)(f:XI K C)(I:InstAt s.heap a o C od)(h:Q (some (.ref C)) {s with toks:=s.toks+1}):wpAny (model prog w) A (getAttr? (.ref a) "__class__") Q E s:=by
 have hf:findObj K C od "__class__"=some (.bind (.builtin "getset_descriptor.__get__") (.builtin "object.__class__")):=by
   let⟨cd,hcd,_⟩:=fO f.hd;simp[findObj,hcd,f.cl,f.gn,f.tk]
 let⟨hh,g,d,t,os⟩:=s;have T0:=I.type (M:=model prog w);have T1:=dJ (M:=model prog w) X f.ga;have T2:=ib (M:=model prog w) X I hf;have T3:=dJ (M:=model prog w) X f.gt;have T4:=looks_subIn (M:=model prog w) X f.mb;have f3:=dZ.ga.bind (.ref a);unfold getAttr? getAttrBy? getAttrBy;refine ae (wpAny_mkText (ae (hJ (cy (ae (T0.at (ae (T1.at ?_))))))));dsimp only;have nga:(onTheHeap (Value.ref C)&&Value.builtin "BaseException.__getattribute__" == Value.builtin "object.__getattribute__")=false:=by
  have z:(Value.builtin "BaseException.__getattribute__" == Value.builtin "object.__getattribute__")=false:=by decide+kernel
  rw[z,cf]
 rw[nga,am aC];unfold getAttrByItsOwn
 repeat (any_goals (first|assumption|with_reducible refine T0.at ?_|with_reducible refine T3.at ?_|with_reducible refine T1.at ?_|wp_step))
 refine dA dZ.ga.plain F.entry_bexc_ga ?_;have hk:builtinKind "BaseException.__getattribute__"=some .slot:=by decide+kernel
 have hsp:splitId "BaseException.__getattribute__"=some ("BaseException","__getattribute__"):=by decide+kernel
 have hav:=F.args_bexc_ga (.ref a) (Value.str (Str.ofString "__class__") t);simp only[checkBuiltinCall,hk,hsp];refine ae ?_;unfold isInstance
 repeat (first|with_reducible refine T2.at ?_|with_reducible refine T0.at ?_|with_reducible refine T4.at ?_|wp_step)
 refine PySem.W.class_get (s:=⟨hh,g,d,t+1,os⟩) (ox:=o) (od:=od) X I f.mo ?_;refine aE ?_;refine PySem.W.handed_on rfl ?_;exact aE h
def zb3(f:XI K C):PySem.W.KitX K (.ref a) (.ref C) (λh=>∃o od,InstAt h a o C od) where
 ty:=λM h _ ⟨o,od,I⟩=>I.type
 it:=λ_ _ X _=>by
  let⟨cd,hcd,_⟩:=fO f.hd;unfold clsIn at hcd
  split at hcd
  .rename_i c' d' cd' sl' ho;intro A' Q' E' s' k q;unfold isType loadHead;exact ae (gG (k _ _ (X _ _ ho)) (aE q))
  .cases hcd
 ne:=λh tp dd pS n sl X htp=>by
  let⟨cd,hcd,_⟩:=fO f.hd;refine Bool.eq_false_iff.mpr λq=>?_;have e:C=tp:=Value.ref.inj (bJ.mp q);subst e;unfold clsIn at hcd
  split at hcd
  .rename_i ho;have z:=(X _ _ ho).symm.trans htp;cases z
  .cases hcd
 ca:=λX ⟨o,od,I⟩ k=>zfm X f I k
end
inductive TyX(K:A0)(H:Hp):V->Value->Prop where
 |old {x:V} {t:Am} (h:TyOf K H x t):TyX K H x t
 |exc {a C:Addr} (h:H a=some (QG a (.ref C))) (f:XI K C):TyX K H (.ref a) (.ref C)
 |exd {a C:Addr} {D:Int} {fs:Ar} (h:H a=some (QG a (.int D C))) (hd:H D.toNat=some (.xd fs)) (f:XI K C):TyX K H (.ref a) (.ref C)
noncomputable def zes:List V->Option A7
 |[]=>some []
 | c::r=>match zhb c,zes r with
  |some u,some us=>some (u::us)
  |_,_=>none
def zet{c:V}{u v:Am}(h:zhb c=some u)(r:RelV c v):v=u:=by
 cases c with
 |ty n=>cases r;exact aO h
 |ref a=>cases r;exact aO h
 |_=>cases h
theorem zcj:∀{cs:Ap}{us vs:A7},zes cs=some us->Vals cs vs->vs=us
 |[],_,_,h,.nil=>aO h
 |c::r,us,v::vs,h,.cons rc rr=>by
  unfold zes at h
  split at h
  .rename_i u us' h1 h2;cases h;rw[zet h1 rc,zcj h2 rr]
  .cases h
theorem zjF{X:Cx}{p8:A2}{σ:St}{H:Hp}{s:An}{x:V}{u t:Am}(I:Inv X p8 σ H s)(rx:RelV x u)(ty:TyX X.K H x t) :
  ∃Hx:Heap->Prop,PySem.W.KitX X.K u t Hx/\Hx s.heap/\u≠.builtin "__main__.__loader__#opaque":=by
 cases ty with
 | @exc a C ea f =>
  cases (show u=Value.ref a from rx);let⟨⟨o,vs,e,⟨c,d⟩,v⟩,_⟩:=(show ObjOk X.prog X.w H s.heap a (QG a (.ref C))from I.hok a _ ea);exact⟨_,zb3 f,⟨o,_,zcd e c d v⟩,λz=>nomatch z⟩
 | @exd a C D fs ea ed f =>
  cases (show u=Value.ref a from rx);let⟨⟨o,vs,e,⟨c,d⟩,v⟩,_⟩:=(show ObjOk X.prog X.w H s.heap a (QG a (.int D C))from I.hok a _ ea);let⟨mA,⟨oD,es,ep,eD,_⟩,_⟩:=(show ObjOk X.prog X.w H s.heap D.toNat (.xd fs)from I.hok _ _ ed);exact⟨_,zb3 f,⟨o,_,VB e c d v eD⟩,λz=>nomatch z⟩
 |old ty =>
  cases ty with
  |non=>cases (show u=Value.none from rx);exact⟨_,PySem.W.kitx_none,True.intro,λz=>nomatch z⟩
  |bl y=>cases (show u=Value.bool y from rx);exact⟨_,PySem.W.kitx_bool,True.intro,λz=>nomatch z⟩
  |int i=>let⟨t,q⟩:=(show ∃t,u=Value.int i t from rx);cases q;exact⟨_,PySem.W.kitx_int,True.intro,λz=>nomatch z⟩
  |str y=>let⟨t,q⟩:=(show ∃t,u=Value.str y t from rx);cases q;exact⟨_,PySem.W.kitx_str,True.intro,λz=>nomatch z⟩
  |flt y=>let⟨t,q⟩:=(show ∃t,u=Value.float y t from rx);cases q;exact⟨_,PySem.W.kitx_float,True.intro,λz=>nomatch z⟩
  | @lst a xs ea =>
   cases (show u=Value.ref a from rx);let⟨_,_,n,_,h1⟩:=(show ObjOk X.prog X.w H s.heap a (.lst xs)from I.hok a _ ea);exact⟨_,PySem.W.kitx_list,⟨_,h1,rfl⟩,λz=>nomatch z⟩
  | @frz a ob xs ea =>
   cases (show u=Value.ref a from rx);let⟨_,_,_,n,_,h1⟩:=(show ObjOk X.prog X.w H s.heap a (.frz ob (.lst xs))from I.hok a _ ea);exact⟨_,PySem.W.kitx_list,⟨_,h1,rfl⟩,λz=>nomatch z⟩
  | @tup a xs ea =>
   cases (show u=Value.ref a from rx);let⟨_,_,_,p⟩:=(show ObjOk X.prog X.w H s.heap a (.tup xs)from I.hok a _ ea);let⟨o,h1,h2,_⟩:=p;exact⟨_,PySem.W.kitx_tuple,⟨o,h1,h2⟩,λz=>nomatch z⟩
  | @dK a pW ea =>
   cases (show u=Value.ref a from rx);let⟨_,_,vs,_,p⟩:=(show ObjOk X.prog X.w H s.heap a (.dK pW)from I.hok a _ ea);let⟨o,es,ep,h1,h2,_⟩:=p;exact⟨_,PySem.W.kitx_dict,⟨o,h1,h2.1⟩,λz=>nomatch z⟩
  | @dT a pW ea =>
   cases (show u=Value.ref a from rx);let⟨_,_,xs,_,o,es,ep,h1,h2,_⟩:=(show ObjOk X.prog X.w H s.heap a (.dT pW)from I.hok a _ ea);exact⟨_,PySem.W.kitx_dict,⟨o,h1,h2.1⟩,λz=>nomatch z⟩
  | @ins a C dx fs ea cl ha hn htk hm =>
   cases (show u=Value.ref a from rx);let⟨mA,O,_⟩:=JH I.hok ea;let⟨od,J,_⟩:=O.look;exact⟨_,PySem.W.kitx_own (cl.get _) cl.hd ha hn htk hm,J,λz=>nomatch z⟩
def zcY(K:A0):List V->Hp->VK->Prop:=λxs H Q=>∃x c t b,xs=[x,c]/\TyX K H x t/\((∃u,zhb c=some u/\kitOne K t u=some b)\/(∃p cs us,c=.ref p/\H p=some (.tup cs)/\zes cs=some us/\PySem.W.kitAny K t us=some b))/\Q (.bl b) H
def ji{X:Cx}:CallR X (.builtin "isinstance") (zcY X.K):=by
 intro p8 s σ H xs us Q I r h;let⟨x,c,t,b,rfl,ty,hc,q⟩:=h;let⟨v,v2,rfl,rx,rc⟩:=r.two;let⟨Hx,Z,p,nx⟩:=zjF I rx ty;rcases hc with⟨u,hu,e⟩|⟨pt,cs,us,rfl,hp,hu,e⟩
 .obtain rfl:=zet hu rc;exact PySem.W.kia_one Z I.kIn p e nx λtk=>⟨.bl b,H,I.tok tk,rfl,q⟩
 .cases rc;let⟨_,pS,rv,o,h1,h2,n,h3⟩:=(show ObjOk X.prog X.w H s.heap pt (.tup cs)from I.hok pt _ hp);obtain rfl:=zcj hu rv;let⟨cl,dd,dt,sl⟩:=o;simp only at h2 h3;subst h2 h3;exact PySem.W.kia_tup Z I.kIn p h1 e nx λtk=>⟨.bl b,H,I.tok tk,rfl,q⟩
def kitCls_of{t:Am}{D:Addr}{b:Bool}(h1:hasDictIn K D=true)(h2:typeIn K (.ref D)=some (.type "type"))(h3:subIn K t (.ref D)=some b):kitCls K t (.ref D)=some b:=by
 let⟨cd,hcd,_⟩:=fO h1;simp[kitCls,hcd,h2,h3]
structure FK(K:A0)(C:Addr)(qual:Str)(st:Stmt)(ps:A8):Prop where
 ex:∃f fd,Fun K "__init__" qual st f fd/\Mk K C f/\Binds K fd ps []
structure FM(K:A0)(C:Addr)(m qual:Str)(st:Stmt)(ps:A8):Prop where
 ex:∃f fd,Fun K m qual st f fd/\Meth K C m f/\Binds K fd ps []
def FK.cal{P:Af}{w:World}{mg:A4}{base:Heap}{x:Str}{qual:Str}{k:Nat}{sp:Sp}(h:FK K C qual st ps)(gl:mg x=some (.ref C))(ok:∀{f fd},Fun K "__init__" qual st f fd->FnOk P w K mg base (CXr P w) k f fd ps sp):KCal P w K mg base x C k ps [] sp:=by
 let⟨f,fd,F,m,b⟩:=h.ex;exact⟨gl,f,fd,[],ok F,m,b,.nil⟩
def FM.cal{P:Af}{w:World}{mg:A4}{base:Heap}{m qual:Str}{k:Nat}{sp:Sp}(h:FM K C m qual st ps)(cl:Cls K C)(ok:∀{f fd},Fun K m qual st f fd->FnOk P w K mg base (CXr P w) k f fd ps sp):MCal P w K mg base C m k ps [] sp:=by
 let⟨f,fd,F,mm,b⟩:=h.ex;exact⟨cl,f,fd,[],ok F,mm,b,.nil⟩
def fk_mk{qual:Str}{f:Addr}{oc:Am}{od an:Aa}{osl:Ae}{kV doc pm cdv ct:Am}(mk:makesIn K C=true)(kc:keepIn K (.ref C)=true)(a:findIn K (.ref C) "__init__"=some (some (.ref f)))(i:isFn K (.ref f)=true)(l:K.lookup f=some ⟨oc,od,.func (fnOf "__init__" qual (qo st) (qc st) (zi st) .none kV doc pm an cdv ct),osl⟩)(c:codeIn K cdv qual=true)(k:keepIn K (.ref f)=true)(hb:∀(kV doc pm:Am)(an:Aa)(cdv ct:Am)(us:A7),us.length=ps.length->bindArgs (fnOf "__init__" qual (qo st) (qc st) (zi st) .none kV doc pm an cdv ct) ⟨us,[]⟩=pure (ps.zip us)):FK K C qual st ps :=
 ⟨f,_,xt l c k,⟨mk,a,i,kc⟩,(xt l c k).binds hb⟩
def fm_mk{m qual:Str}{f:Addr}{oc:Am}{od an:Aa}{osl:Ae}{kV doc pm cdv ct:Am}(a:findIn K (.ref C) m=some (some (.ref f)))(i:isFn K (.ref f)=true)(l:K.lookup f=some ⟨oc,od,.func (fnOf m qual (qo st) (qc st) (zi st) .none kV doc pm an cdv ct),osl⟩)(c:codeIn K cdv qual=true)(k:keepIn K (.ref f)=true)(hb:∀(kV doc pm:Am)(an:Aa)(cdv ct:Am)(us:A7),us.length=ps.length->bindArgs (fnOf m qual (qo st) (qc st) (zi st) .none kV doc pm an cdv ct) ⟨us,[]⟩=pure (ps.zip us)):FM K C m qual st ps :=
 ⟨f,_,xt l c k,⟨a,i,k⟩,(xt l c k).binds hb⟩
structure WI(K:A0)(C:Addr):Prop where
 c:findIn K (.ref C) "__class__"=some (some (.builtin "object.__class__"))
 m:mroIn K C (.type "object")=some true
 g:specialIn K (.builtin "object.__class__") "__get__"=some (some (.builtin "getset_descriptor.__get__"))
 t:takesIn K (.builtin "object.__class__")=some true
def WI.ty{H:Hp}{a C dx:Addr}{fs:Ar}(f:WI K C)(cl:Cls K C)(h:H a=some (.ins C dx fs)):TyX K H (.ref a) (.ref C):=.old (.ins h cl f.c f.g f.t f.m)
section
variable{prog:Af}{w:World}{A:Ao}{E:A3}{s:An}
theorem Zw:∀{ns:A6}{pS:A7},Vals (ns.map V.int) pS->∀(i:Nat)(v:Am),pS[i]?=some v->∃t,v=.int (ns[i]?.getD 0) t
 |[],_,.nil,i,v,h=>by simp at h
 |n::ns,_,.cons (b:=y) ⟨t,e⟩ r,0,v,h=>by
  have:y=v:=by simpa using h
  exact⟨t,by rw[<- this,e];rfl⟩
 |n::ns,_,.cons _ r,i+1,v,h=>by
  let⟨t,e⟩:=Zw r i v (by simpa using h);exact⟨t,by simpa using e⟩
end
section
variable{X:Cx}{a e:Expr}{ta:TA}{te:TE}{pos p kp:Pos}
def jX:SlR X (zjj X.K):=zhD
def Ze:CallR X (.type "list") (λxs H Q=>∃p ys,xs=[.ref p]/\(SqL X.K H p ys\/SqT X.K H p ys)/\∀l,H l=none->Q (.ref l) (upd H l (.lst ys))):=zaN
end
section
variable{X:Cx}{v v1 v2:Expr}{es:List Expr}{te:TE}{pos p:Pos}
def tFv(te:TE):TE:=λσ H Q=>te σ H λx H1=>(∃i,x=.int i/\i.natAbs.log2<1920/\Q (.str (toString i)) H1)\/(∃y,x=.str y/\y.length<=sizeLine/\Q (.str y) H1)
def w9(h:PE X v te):PE X (.FormattedValue v (-1) none pos) (tFv te):=by
 intro p8 s σ H Q I hw;refine PyProof.Rows.FormattedValue_plain (qJ (h p8 s σ H _ I hw) λu s1 x H1 I1 r1 q1=>?_);rcases q1 with⟨i,rfl,hi,q⟩|⟨y,rfl,hy,q⟩
 .obtain⟨t,rfl⟩:=r1;exact formatField_int_small hi ⟨.str _,H1,I1.tok _,⟨_,rfl⟩,q⟩
 .obtain⟨t,rfl⟩:=r1;exact PyProof.Rows.formatField_str (λt' tk=>⟨.str _,H1,I1.tok _,⟨_,rfl⟩,q⟩) hy
def zkw(h:PE X v te):PE X (.JoinedStr [v] pos) te:=λp8 s σ H Q I hw=>PyProof.Rows.JoinedStr_one (h p8 s σ H Q I hw)
abbrev TJ:=Str->TE
def PJ(X:Cx)(es:List Expr)(t:TJ):Prop:=∀(out:Str)(p8:A2)(s:An)(σ:St)(H:Hp)(Q:VK),Inv X p8 σ H s->t out σ H Q->wpAny (model X.prog X.w) X.A (joinParts out (evalEach es X.env)) (EP X p8 σ Q) X.xe s
def tJ0:TJ:=λout _ H Q=>out.length<=sizeLine/\Q (.str out) H
def tJ1(te:TE)(t:TJ):TJ:=λout σ H Q=>te σ H λx H1=>∃y,x=.str y/\(out++y).length<=sizeLine/\t (out++y) σ H1 Q
def ZF:PJ X [] tJ0:=λ_ _ _ _ H _ I hw=>PyProof.Rows.joinParts_nil ⟨.str _,H,I.tok _,⟨_,rfl⟩,hw.2⟩ hw.1
def qm{t:TJ}(h:PE X v te)(hr:PJ X es t):PJ X (v::es) (tJ1 te t):=by
 intro out p8 s σ H Q I hw;show wpAny _ _ (joinParts out (eval v X.env::evalEach es X.env)) _ _ s
 refine PyProof.Rows.joinParts_cons (qJ (h p8 s σ H _ I hw) λu s1 x H1 I1 r1 q1=>?_);let⟨y,rfl,hz,q⟩:=q1;let⟨t',rfl⟩:=r1;exact⟨hz,hr _ p8 s1 σ H1 Q I1 q⟩
def Xy{t:TJ}(h:PJ X (v1::v2::es) t):PE X (.JoinedStr (v1::v2::es) pos) (t Str.empty):=λp8 s σ H Q I hw=>PyProof.Rows.JoinedStr_many (h _ p8 s σ H Q I hw)
def Wf:CallR X (.type "str") (λxs H Q=>lq xs λv=>iq v λi=>i.natAbs.log2<1920/\Q (.str (toString i)) H):=λp8 s σ H xs us Q I r h=>zaM p8 s σ H xs us Q I r (zdh h)
def zkc(t u:TS):TS:=λD σ H=>∃M:St->Hp->Prop,t {D with nx:=M} σ H/\∀σ' H',M σ' H'->u D σ' H'
def qf{st:Stmt}{rest:List Stmt}{t u:TS}(h1:PS X st t)(h2:PSs X rest u):PSs X (st::rest) (zkc t u):=by
 intro p8 s σ H D I ⟨M,ht,hu⟩;refine fK (thn (h1 p8 s σ H _ I ht) λf s1 q=>?_);cases f with
 |next=>exact let⟨σ',H',I',q⟩:=q;h2 p8 s1 σ' H' D I' (hu σ' H' q)
 |_=>exact q
def ziE(t u:TS):TS:=λD σ H=>tSeq t u D σ H
def zj{st:Stmt}{rest:List Stmt}{t u:TS}(h1:PS X st t)(h2:PSs X rest u):PSs X (st::rest) (ziE t u):=show PSs X (st::rest) (tSeq t u)from zl h1 h2
structure Nx(N:St->Hp->Prop)(u:TS)(D:Ends):Prop where
 h:∀σ H,u D σ H->N σ H
def nxt{t u:TS}{D:Ends}{σ:St}{H:Hp}(k:∀N,Nx N u D->t {D with nx:=N} σ H):ziE t u D σ H:=k (u D) ⟨λ_ _ h=>h⟩
def useN{N:St->Hp->Prop}{u:TS}{D:Ends}{σ:St}{H:Hp}(n:Nx N u D)(q:u D σ H):N σ H:=n.h σ H q
def cut{t u:TS}{D:Ends}{σ:St}{H:Hp}(M:St->Hp->Prop)(h1:t {D with nx:=M} σ H)(h2:∀σ' H',M σ' H'->u D σ' H'):zkc t u D σ H:=⟨M,h1,h2⟩
end
section
variable{X:Cx}{k:Nat}{x m:Str}{p pos apos:Pos}{e o:Expr}{es:List Expr}{ta:TE}{t:TA}
def passF:zdJ (CXr X.prog X.w) X (λ_ _ _=>False):=λ_ _ _ _ _ _ _ h=>let⟨_,_,_,_,_,_,_,_,_,z⟩:=h;z.elim
def tClN(X:Cx)(k:Nat)(x:Str)(t:TA):TE:=λσ H Q=>∃ps dvs sp,Cal X.prog X.w X.K X.mg X.base x k ps dvs sp/\t σ H λvs H1=>sp (vs++dvs) H1 Q (λ_ _ _=>False)
def wK(hr:Room k X.A)(ha:PA X (e::es) t)(hg:Gl X x:=by rfl)(hdb:(x == ("__debug__":Str))=false:=by decide)(he:starEach (e::es) X.env=(false,eval e X.env)::starEach es X.env:=by rfl)(hpl:(backTo pos (starEach es X.env)).any (·.1)=false:=by rfl) :
  PE X (.Call (.Name x p) (e::es) [] pos) (tClN X k x t):=by
 intro p8 s σ H Q I h;let⟨ps,dvs,sp,⟨f,fd,ds,F,hm,hk,hb,hd⟩,h⟩:=h;refine bQ (jc I hg hm ?_ hdb);refine eJ (h₀:=X.base) I.ok.mod.kin hk (vn (ha pos p8 s σ H _ I h) λus s1 vs H1 I1 r q=>⟨I1.kIn,?_⟩) he hpl;exact zgd F hr hb hd passF I1 r q
def tMkN(X:Cx)(k:Nat)(x:Str)(t:TA):TE:=λσ H Q=>∃C ps dvs sp,KCal X.prog X.w X.K X.mg X.base x C k ps dvs sp/\t σ H λvs H1=>∀y dx,H1 y=none->H1 dx=none->dx≠y ->
 sp (.ref y::(vs++dvs)) (upd (upd H1 dx (.own y)) y (.ins C dx [])) (λv H2=>v=.non/\Q (.ref y) H2) (λ_ _ _=>False)
def zjs(hr:Room (k+1) X.A)(ha:PA X (e::es) t)(hg:Gl X x:=by rfl)(hdb:(x == ("__debug__":Str))=false:=by decide)(he:starEach (e::es) X.env=(false,eval e X.env)::starEach es X.env:=by rfl)(hpl:(backTo pos (starEach es X.env)).any (·.1)=false:=by rfl) :
  PE X (.Call (.Name x p) (e::es) [] pos) (tMkN X k x t):=by
 intro p8 s σ H Q I h;let⟨C,ps,dvs,sp,⟨hm,f,fd,ds,F,M,hb,hd⟩,h⟩:=h;refine bQ (jc I hg hm ?_ hdb);refine eJ (h₀:=X.base) I.ok.mod.kin M.kp (vn (ha pos p8 s σ H _ I h) λus s1 vs H1 I1 r q=>⟨I1.kIn,?_⟩) he hpl;exact zgc M F hr hb hd passF I1 r q
def tMthN(X:Cx)(k:Nat)(m:Str)(ta:TE)(t:TA):TE:=λσ H Q=>ta σ H λy H1=>∃a C dx fs ps dvs sp,y=.ref a/\H1 a=some (.ins C dx fs)/\fs.lookup m=none /\
 MCal X.prog X.w X.K X.mg X.base C m k ps dvs sp/\t σ H1 λvs H2=>sp (.ref a::(vs++dvs)) H2 Q (λ_ _ _=>False)
def zgt{pl:Sem Bool}(hr:Room k X.A)(he:PE X o ta)(ht:eval (.Call (.Attribute o m apos) [] [] pos) X.env=(do
   let ov <- eval o X.env
   standAt apos.atName
   let(f,first) <- holding [ov] (getMethod ov m pl)
   callWith pos f first (backTo pos (starEach [] X.env)) (backToKw pos (keywordEach [] X.env))):=by rfl) :
  PE X (.Call (.Attribute o m apos) [] [] pos) (tMthN X k m ta tNil):=by
 intro p8 s σ H Q I h;refine d9 (pl:=pl) (thn (he p8 s σ H _ I h) λu s1 hz=>?_) ht;let⟨x,H1,I1,rx,a,C,dx,fs,ps,dvs,sp,ex,ea,l,⟨c,f,fd,ds,F,hm,hb,hd⟩,q⟩:=hz;subst ex;obtain rfl:u=Value.ref a:=rx;refine ZK I1 ea c hm l ?_;exact gX (first:=[.ref a]) I1.kIn hm.kp (zgd (us:=[.ref a]) (vs:=[.ref a]) F hr hb hd passF I1 (.cons rfl .nil) q)
end
noncomputable def jg(cells:List (Str×Addr)):List (Str×NameKind)->List (Str×Addr)->List (Str×Addr)
 |[],cs=>cs
 |(n,k)::r,cs=>if k=.free then jg cells r ((n,(cells.lookup n).getD 0)::cs)else jg cells r cs
def zfq(cells:List (Str×Addr))(ns:List (Str×NameKind)):Prop:=∀y∈ns,y.2=.free->∃c,cells.lookup y.1=some c
def Zr{scope:Scope}{env:Env}(h:zfq env.cells scope.names):closureFor scope env=pure (jg env.cells scope.names []):=by
 simp only[closureFor];have key:∀(ns:List (Str×NameKind))(cs:List (Str×Addr)),zfq env.cells ns ->
   (forIn ns cs λx r=>if (x.2 == NameKind.free)=true then do let c <- cellOf env x.1;pure (ForInStep.yield ((x.1,c)::r))else pure (ForInStep.yield r):Sem (List (Str×Addr)))=pure (jg env.cells ns cs):=by
  intro ns
  induction ns with
  |nil=>intro cs _;rfl
  |cons y r ih =>
   intro cs hc;let⟨n,k⟩:=y;have hr:zfq env.cells r:=λz hz=>hc z (aA _ hz);rw[gv];by_cases hk:k=.free
   .subst hk;let⟨c,e⟩:=hc (n,.free) a7 rfl;have e':cellOf env n=pure c:=by unfold cellOf;simp only at e;rw[e]
    simp only[beq_self_eq_true,ef,e',pure_bind];rw[ih _ hr];simp only at e;simp[jg,e]
   .have hb:(k == NameKind.free)=false:=by simpa using hk
    simp only[hb,dD,cP,pure_bind];rw[ih _ hr];simp[jg,hk]
 have:=key scope.names [] h
 first
  |exact this
  |(simp only[bind_pure]at *;exact this)
theorem ZO{cells:List (Str×Addr)}{x:Str}{c:Addr}:∀{ns:List (Str×NameKind)}{cs:List (Str×Addr)},zfq cells ns->(∀c,cs.lookup x=some c->cells.lookup x=some c)->(jg cells ns cs).lookup x=some c->cells.lookup x=some c
 |[],_,_,hs,h=>hs c h
 |(n,k)::r,cs,hc,hs,h=>by
  have hr:zfq cells r:=λz hz=>hc z (aA _ hz);unfold jg at h
  split at h
  .rename_i hk;let⟨d,e⟩:=hc (n,k) a7 hk;refine ZO hr (λc' hc'=>?_) h;rw[cT]at hc'
   split at hc'
   .rename_i hx;have hx:x=n:=by simpa using hx
    subst hx;simp only at e;rw[e]at hc' ⊢;exact hc'
   .exact hs c' hc'
  .exact ZO hr hs h
theorem vT{cells:List (Str×Addr)}{x:Str}:∀{ns:List (Str×NameKind)}{cs:List (Str×Addr)},(∃c,cs.lookup x=some c)->∃c,(jg cells ns cs).lookup x=some c
 |[],_,h=>h
 |(n,k)::r,cs,h=>by
  unfold jg
  split
  .refine vT ?_;rw[cT]
   split
   .exact⟨_,rfl⟩
   .exact h
  .exact vT h
theorem ZN{cells:List (Str×Addr)}{x:Str}:∀{ns:List (Str×NameKind)}{cs:List (Str×Addr)},(x,NameKind.free)∈ns->∃c,(jg cells ns cs).lookup x=some c
 |[],_,h=>by simp at h
 |(n,k)::r,cs,h=>by
  unfold jg;rcases au.mp h with h|h
  .cases h;rw[aq rfl];exact vT ⟨(cells.lookup x).getD 0,by rw[cT];simp⟩
  .split<;>exact ZN h
noncomputable def zgg(scope osc:Scope):Scope :=
 {scope with names:=scope.names.map λ(n,k)=>if (k == .free&&osc.kind == .function&&osc.names.lookup n == some .cell)then(n,.cell)else(n,k)}
def zcW{scope osc:Scope}{x:Str}(hcell:∀y∈scope.names,y.2≠.cell)(h:(zgg scope osc).names.lookup x=some .cell\/(zgg scope osc).names.lookup x=some .free):(x,NameKind.free)∈scope.names:=by
 have key:∀k,(k=.cell\/k=.free)->(zgg scope osc).names.lookup x=some k->(x,NameKind.free)∈scope.names:=λk hk hl=>by
  have hm:=bS hl;let⟨⟨n,k'⟩,hm',e⟩:=aK.mp hm;simp only at e
  split at e
  .rename_i hc;simp only[cg,bJ]at hc;cases e;rw[<- hc.1.1];exact hm'
  .cases e;rcases hk with rfl|rfl
   .exact absurd rfl (hcell _ hm')
   .exact hm'
 rcases h with h|h
 .exact key _ (.inl rfl) h
 .exact key _ (.inr rfl) h
noncomputable def cxC(X:Cx)(N:A8)(scope:Scope)(s:An)(H:Hp)(fp:Ab)(p8:A2):Cx where
 prog:=X.prog
 w:=X.w
 K:=X.K
 mg:=X.mg
 base:=X.base
 A:=X.A
 N:=N
 s₀:=s
 H₀:=H
 env:=compEnvC scope (jg X.env.cells scope.names []) s.heap.objs.size X.env
 outer:=X.stack
 stack:=X.stack
 ex:=fp
 fn:=λ_=>false
 calm:=X.calm
 pn:=X.pn++p8
 xe:=λ_ _=>False
noncomputable def stC(nv:Nat)(caps:Aj)(σ:St):St:=List.replicate nv none++caps.map λk=>(σ[k]?).getD none
structure CompOk(osc scope:Scope)(ON:A8)(vars:A8)(caps:Aj):Prop where
 kind:scope.kind=.function
 cell:∀y∈scope.names,y.2≠.cell
 loc:∀y∈scope.names,y.2=.local->scope.names.lookup y.1=some .local
 free:∀y∈scope.names,y.2=.free->osc.names.lookup y.1=some .cell\/osc.names.lookup y.1=some .free
 caps:∀k∈caps,k<ON.length/\scope.names.lookup (ON.getD k Str.empty)=some .free
noncomputable def zeq(osc scope:Scope)(ON:A8)(caps:Aj):Bool :=
 scope.kind == .function&&scope.names.all (λy=>y.2 != .cell)&&scope.names.all (λy=>y.2 != .local||scope.names.lookup y.1 == some .local) &&
 scope.names.all (λy=>y.2 != .free||(osc.names.lookup y.1 == some .cell||osc.names.lookup y.1 == some .free))&&caps.all λk=>decide (k<ON.length)&&scope.names.lookup (ON.getD k Str.empty) == some .free
def zch{osc scope:Scope}{ON vars:A8}{caps:Aj}(h:zeq osc scope ON caps=true):CompOk osc scope ON vars caps:=by
 simp only[zeq,cg,bU,bJ,bne_iff_ne,Bool.or_eq_true,dG]at h;let⟨⟨⟨⟨h1,h2⟩,h3⟩,h4⟩,h5⟩:=h;refine⟨h1,h2,λy hy e=>(h3 y hy).resolve_left (λz=>z e),λy hy e=>(h4 y hy).resolve_left (λz=>z e),λk hk=>h5 k hk⟩
theorem Xu{osc:Scope}{x:Str}:∀{ns:List (Str×NameKind)},ns.lookup x=some .free ->
  (ns.map λ(n,k)=>if (k == NameKind.free&&osc.kind == .function&&osc.names.lookup n == some .cell)then(n,NameKind.cell)else(n,k)).lookup x=some .cell \/
  (ns.map λ(n,k)=>if (k == NameKind.free&&osc.kind == .function&&osc.names.lookup n == some .cell)then(n,NameKind.cell)else(n,k)).lookup x=some .free
 |[],h=>by simp at h
 |(n,k)::r,h=>by
  have ih:=@Xu osc x r;rw[bN];show List.lookup x ((if (k == NameKind.free&&osc.kind == .function&&osc.names.lookup n == some .cell)=true then(n,NameKind.cell)else(n,k))::_)=_\/List.lookup x ((if (k == NameKind.free&&osc.kind == .function&&osc.names.lookup n == some .cell)=true then(n,NameKind.cell)else(n,k))::_)=_
  cases hx:x == n with
  |true =>
   simp only[cT,hx]at h;cases h
   split
   .exact .inl (by simp[cT,hx])
   .exact .inr (by simp[cT,hx])
  |false =>
   simp only[cT,hx]at h
   split<;>(simp only[cT,hx];exact ih h)
section
variable{X:Cx}{p8:A2}{σ:St}{H:Hp}{s:An}{fp:Ab}{N vars:A8}{caps:Aj}{scope osc:Scope}
theorem zgS(I:Inv X p8 σ H s)(hosc:X.env.scope=osc)(C:CompOk osc scope X.N vars caps)(hN:N=vars++caps.map λk=>X.N.getD k Str.empty)(hf:∀b∈fp,QN X p8 H b)(hfo:∀b∈fp,∃o,s.heap.get? b=some o){h':Heap}{tk:Nat}{mm:A4}(hns:h'.Ns s.heap.objs.size mm)(hk:∀b o,s.heap.get? b=some o->h'.get? b=some o) :
  Inv (cxC X N scope s H fp p8) [] (stC vars.length caps σ) H {s with heap:=h',toks:=tk}:=by
 have hkf:∀y∈scope.names,y.2=.free->X.env.kindOf y.1=some .cell\/X.env.kindOf y.1=some .free:=λy hy e=>by
  have z:=C.free y hy e;rw[<- hosc]at z;exact z
 have hcl:zfq X.env.cells scope.names:=λy hy e=>I.ok.has y.1 (hkf y hy e);have get:∀x c,(jg X.env.cells scope.names []).lookup x=some c->X.env.cells.lookup x=some c:=λx c h=>ZO hcl (λc h=>by simp at h) h;refine⟨⟨I.ok.mod,C.kind,I.ok.glob,I.ok.blt,ar _,λx y c h1 h2=>I.ok.inj x y c (get x c h1) (get y c h2),λx hx=>ZN (zcW (osc:=X.env.scope) C.cell hx),λ_ _ h _=>Bool.noConfusion h,I.ok.hd,I.ok.frames,.inl rfl,
   λb hb=>⟨?_,λx c h=>(hf b hb).2.2.2.2.1 x c (get x c h)⟩,I.bs,aJ I.ok.bsz I.sz,λb o e hb=>?_,λb hb z=>(au.mp (I.stkSub b z)).elim (hf b hb).2.1 (hf b hb).2.2.1,I.stack,I.stkFree⟩,
  rfl,I.bare,Un.kept hk,⟨_,hns,λi x v e1 e2 e3=>?_⟩,λx c h=>?_,I.hok.fresh (ar _),λx c h=>I.freeC x c (get x c h),λp hp=>?_,I.hok.kept hk,?_⟩
 .obtain⟨o,e⟩:=hfo b hb;exact aN (az e)
 .rcases(hf b hb).2.2.2.1 with z|z
  .exact I.ok.noex b o e z
  .exact absurd (aH (az (I.ok.bs b o e).1) z) (cn _)
 .have hi:¬i<vars.length:=λhi=>by
   unfold stC at e2;rw[ba (by simpa using hi),f9]at e2
   split at e2<;>cases e2
  have e1':(vars++caps.map λk=>X.N.getD k Str.empty)[i]?=some x:=by rw[<- hN];exact e1
  unfold stC at e2;rw[aY (by simpa using hi),bA,ap]at e2;rw[aY (by lia),ap]at e1';cases ek:caps[i-vars.length]? with
  |none=>rw[ek]at e2;cases e2
  |some k =>
   rw[ek]at e1' e2;let⟨hkl,hlk⟩:=C.caps k (ai ek);have ex:X.N.getD k Str.empty=x:=by simpa using e1'
   have es:σ[k]?.getD none=some v:=by simpa using e2
   have es':σ[k]?=some (some v):=by
    cases q:σ[k]? with
    |none=>rw[q]at es;cases es
    |some z=>rw[q]at es;simp only[bc]at es;rw[es]
   have eN:X.N[k]?=some x:=by
    rw[<- ex,aj,ac hkl];rfl
   rw[ex]at hlk;have hm:(x,NameKind.free)∈scope.names:=bS hlk;have hkx:=hkf _ hm rfl;let⟨m,_,hl⟩:=I.loc;let⟨u,r,L⟩:=hl k x v eN es' (hkx.elim (λz=>.inr (.inl z)) λz=>.inr (.inr z));refine⟨u,r,.inr ⟨Xu (osc:=X.env.scope) hlk,?_⟩⟩;let⟨c',ec⟩:=ZN (cells:=X.env.cells) (cs:=[]) hm;rcases L with⟨z,_⟩|⟨_,c,ec2,o,ho,hd⟩
   .rcases hkx with y|y<;>(simp only at y;rw[y]at z;cases z)
   .have z:=get x c' ec;rw[ec2]at z;obtain rfl:c=c':=aO z;exact⟨c,ec,o,hk _ _ ho,hd⟩
 .obtain⟨v,o,ho,hd⟩:=I.cell x c (get x c h);exact⟨v,o,hk _ _ ho,hd⟩
 .have hp':p∈X.pn++p8:=by simpa[cxC]using hp
  let⟨e,n,ne,nf,d⟩:=I.pin p hp';exact⟨hk _ _ e,n,aN (az e),λz=>(au.mp (I.stkSub _ z)).elim ne nf,d⟩
 .show(stC vars.length caps σ).length=N.length
  rw[hN];simp[stC]
def zdn{σ':St}{H':Hp}{s':An}(I:Inv X p8 σ H s)(hf:∀b∈fp,QN X p8 H b)(I':Inv (cxC X N scope s H fp p8) [] σ' H' s'):Inv X p8 σ H' s' :=
 I.call' (ch:=fp) I'.os I'.base I'.hok I'.bare λb hb=>⟨(hf b hb).2.2.2.1,(hf b hb).2.1,(hf b hb).2.2.2.2.1,(hf b hb).2.2.2.2.2⟩
end
section
variable{prog:Af}{w:World}{A:Ao}{R:Result->Shared->Prop}{s:An}
abbrev NoX:Value->Shared->Prop:=λ_ _=>False
theorem zfp{elt target iter:Expr}{ifs:List Expr}{scope:Scope}{pos:Pos}{it pV:Am}{env:Env}(I:Nat->Shared->Prop)(turn:∀n s,I n s->wpAny (model prog w) A (pyNext it) (λr s₁=>match r with
   |none=>R (.ok .next) s₁
   |some v=>wpAny (model prog w) A (letOwnedTupleGo target it v) (λ_ s₁'=>wpAny (model prog w) A (assign target env v) (λ_ s₂ =>
     wpAny (model prog w) A (forIn ifs true λc r=>if r=true then do let ok <- isTrue c env (eval c env);pure (ForInStep.yield ok)else pure (ForInStep.yield r)) (λok s₃ =>
      if ok=true then wpAny (model prog w) A (eval elt env) (λx s₄ =>
       wpAny (model prog w) A (call (.builtin "list.append") [pV,x]) (λ_ s₅=>∃m,m<n/\I m s₅) NoX s₄) NoX s₃
      else ∃m,m<n/\I m s₃) NoX s₂) NoX s₁') NoX s₁) NoX s)(n:Nat)(h:I n s) :
  codeAny (model prog w) A (.compLoop (.ListComp elt [⟨target,iter,ifs,0⟩] scope pos) 0 it pV env) R s:=by
 refine codeAny_loop rfl I (λn s hI=>?_) n h;show wpAny _ A ((compTurn (.ListComp elt [⟨target,iter,ifs,0⟩] scope pos) 0 it pV env).onRaise (λx=>do noteFrame x env;theTreesLotGoes x)) _ _ s
 refine wpAny_noted ?_;rw[compTurn_list];refine ae (bW (ae (aI (turn n s hI) (λr s₁ h₁=>?_) λ_ _ h'=>h'.elim)));cases r with
 |none=>exact aE h₁
 |some v =>
  refine ae (aI h₁ (λ_ s₁' h₁'=>?_) λ_ _ h'=>h'.elim);refine ae (aI h₁' (λ_ s₂ h₂=>ae (aI h₂ (λok s₃ h₃=>?_) λ_ _ h'=>h'.elim)) λ_ _ h'=>h'.elim);cases ok with
  |false=>exact aE ⟨rfl,h₃⟩
  |true =>
   exact ae (ae (aI h₃ (λx s₄ h₄=>ae (aI h₄ (λ_ s₅ h₅=>aE (aE ⟨rfl,h₅⟩)) λ_ _ h'=>h'.elim)) λ_ _ h'=>h'.elim))
end
def zhq(X:Cx)(ifs:List Expr)(t:TT):Prop :=
 ∀(p8:A2)(s:An)(σ:St)(H:Hp)(Q:Bool->Hp->Prop),Inv X p8 σ H s->t σ H Q ->
  wpAny (model X.prog X.w) X.A (forIn ifs true λc r=>if r=true then do let ok <- isTrue c X.env (eval c X.env);pure (ForInStep.yield ok)else pure (ForInStep.yield r)) (TP X p8 σ Q) X.xe s
def tYes:TT:=λ_ H Q=>Q true H
def qg{X:Cx}:zhq X [] tYes:=λ_ _ _ H _ I h=>wpAny_tests_nil ⟨H,I,h⟩
def zd5{X:Cx}{c:Expr}{t:TT}(h:PT X c t):zhq X [c] t:=λp8 s σ H Q I hw=>wpAny_tests_one (h p8 s σ H Q I hw)
abbrev CB(α:Type):=Shared->Hp->List Addr->List (Addr×Obj)->α
def tLc(wi:TI)(nv:Nat)(caps:Aj)(g:CB TG)(tt:CB TT)(te:CB TE):TE:=λσ H Q=>wi σ H λJ H1=>∀(s3:An)(H3:Hp)(fp:Ab)(pns:A2) pV,H1 pV=none ->
 ∃W:Nat->Nat->St->Hp->Prop,(∃m,W 0 m (stC nv caps σ) (upd H1 pV (.lst [])))/\∀i m σ' H',W i m σ' H' ->
  (J.stop i H'/\Q (.ref pV) H')\/(J.go i H'/\∃N:St->Hp->Prop,(∀σ'' H'',N σ'' H''->∃m',m'<m/\W (i+1) m' σ'' H'')/\∀x H'',J.yld i H' x H''->g s3 H3 fp pns x σ' H'' λσ2 H2=>tt s3 H3 fp pns σ2 H2 λb H5 =>
   if b=true then te s3 H3 fp pns σ2 H5 λy H4=>∃ys,H4 pV=some (.lst ys)/\ys.length<sizeLine/\N σ2 (upd H4 pV (.lst (ys++[y])))else N σ2 H5)
section
variable{X:Cx}{elt target iter:Expr}{ifs:List Expr}{scope osc:Scope}{pos:Pos}{wi:TI}{g:CB TG}{tt:CB TT}{te:CB TE}{N vars:A8}{caps:Aj}
theorem Wa{p8:A2}{σ:St}{H2:Hp}{s2:An}{it:Addr}{fp:Ab}{tn:Nat->Heap->Prop}{J:It}{Q:VK}{RR:Value->Addr->Result->Shared->Prop}{E:A3}(hosc:X.env.scope=osc)(C:CompOk osc scope X.N vars caps)(hN:N=vars++caps.map λk=>X.N.getD k Str.empty)(hc:X.calm=true)(hg:∀s H fp p8,PG (cxC X N scope s H fp p8) target (g s H fp p8))(ht:∀s H fp p8,zhq (cxC X N scope s H fp p8) ifs (tt s H fp p8))(he:∀s H fp p8,PE (cxC X N scope s H fp p8) elt (te s H fp p8))(I2:Inv X p8 σ H2 s2)(T:Turn X.prog X.w X.K target J fp it tn)(st2:tn 0 s2.heap)(hf:∀b∈fp,QN X p8 H2 b)(h:∀(s3:An)(H3:Hp)(fp:Ab)(pns:A2) pV,H2 pV=none->∃W:Nat->Nat->St->Hp->Prop,(∃m,W 0 m (stC vars.length caps σ) (upd H2 pV (.lst [])))/\∀i m σ' H',W i m σ' H' ->
   (J.stop i H'/\Q (.ref pV) H')\/(J.go i H'/\∃N:St->Hp->Prop,(∀σ'' H'',N σ'' H''->∃m',m'<m/\W (i+1) m' σ'' H'')/\∀x H'',J.yld i H' x H''->g s3 H3 fp pns x σ' H'' λσ2 H2=>tt s3 H3 fp pns σ2 H2 λb H5 =>
    if b=true then te s3 H3 fp pns σ2 H5 λy H4=>∃ys,H4 pV=some (.lst ys)/\ys.length<sizeLine/\N σ2 (upd H4 pV (.lst (ys++[y])))else N σ2 H5))(hRR:∀pV C s' H' m,Inv X p8 σ H' s'->Q (.ref pV) H'->s'.heap.Ns C m->H' C=none->C≠X.env.locals->X.s₀.heap.objs.size<=C->(∀x c,X.env.cells.lookup x=some c->c≠C)->(∀p∈X.pn++p8,p.1≠C)->RR (.ref pV) C (.ok .next) s') :
  wpAny (model X.prog X.w) X.A (newList []) (λpV s₃=>wpAny (model X.prog X.w) X.A (newFunctionEnv scope X.env.globals (jg X.env.cells scope.names []) [] X.env.qual none .none (some X.env)) (λcenv s₄ =>
   codeAny (model X.prog X.w) X.A (.compStart (.ListComp elt [⟨target,iter,ifs,0⟩] scope pos) 0 (.ref it) pV {cenv with scope:=relabel scope X.env}) (RR pV cenv.locals) s₄) E s₃) E s2:=by
 refine dh (wpAny_newFunctionEnv C.cell (by intro y hy;simp at hy) (λh₁ hns₁ hsb₁=>?_) C.kind);let⟨W,⟨m0,w0⟩,turn⟩:=h {s2 with heap:=s2.heap.push {cls:=.type "list",dict:=none,data:=.seq ([]:A7).toArray} } (upd H2 s2.heap.objs.size (.lst [])) fp p8 s2.heap.objs.size I2.fresh;have I3:Inv X p8 σ (upd H2 s2.heap.objs.size (.lst [])) {s2 with heap:=s2.heap.push {cls:=.type "list",dict:=none,data:=.seq ([]:A7).toArray} }:=I2.lnew (pS:=[]) (t':=s2.toks) .nil (by decide);dsimp only at hns₁ hsb₁ ⊢;have hfo:∀b∈fp,∃o,s2.heap.get? b=some o:=λb hb=>let⟨o,e,_⟩:=T.obj _ _ st2 b hb;⟨o,e⟩
 have hf3:∀b∈fp,QN X p8 (upd H2 s2.heap.objs.size (.lst [])) b:=λb hb=>by
  refine⟨?_,(hf b hb).2⟩;let⟨o,e⟩:=hfo b hb;rw[rj (aN (az e))];exact(hf b hb).1
 generalize hs3:({s2 with heap:=s2.heap.push {cls:=.type "list",dict:=none,data:=.seq ([]:A7).toArray} }:An)=s3 at I3 turn;have eh:s2.heap.push {cls:=.type "list",dict:=none,data:=.seq ([]:A7).toArray}=s3.heap:=by rw[<- hs3]
 have old:∀b o,s2.heap.get? b=some o->s3.heap.get? b=some o:=λb o e=>by rw[<- eh];exact ah _ e
 rw[eh]at hns₁ hsb₁ ⊢;have es:({s2 with heap:=h₁,toks:=s2.toks+([]:List (Str×Value)).length}:An)={s3 with heap:=h₁,toks:=s2.toks}:=by rw[<- hs3];rfl
 rw[es];generalize hH3:upd H2 s2.heap.objs.size (.lst [])=H3 at *;have hk:∀b o,s3.heap.get? b=some o->h₁.get? b=some o:=λb o e=>hsb₁.extBut b o (aN (az e)) (ah _ e);have I4:Inv (cxC X N scope s3 H3 fp p8) [] (stC vars.length caps σ) H3 {s3 with heap:=h₁,toks:=s2.toks}:=zgS I3 hosc C hN hf3 (λb hb=>let⟨o,e⟩:=hfo b hb;⟨o,old b o e⟩) hns₁ hk;have st4:tn 0 h₁:=T.keep _ _ _ st2 λb hb o e=>hk b o (old b o e);have stat:∀{H':Hp},(∀b∈fp,H' b=none)->∀b∈fp,QN (cxC X N scope s3 H3 fp p8) [] H' b:=λhn b hb =>
  ⟨hn b hb,(I4.ok.exf b hb).1,I4.ok.exfs b hb,.inl hb,(I4.ok.exf b hb).2,λp hp=>(hf b hb).2.2.2.2.2 p (by simpa[cxC]using hp)⟩
 have loop:∀s4:Shared,s4={s3 with heap:=h₁,toks:=s2.toks} ->
   codeAny (model X.prog X.w) X.A (.compLoop (.ListComp elt [⟨target,iter,ifs,0⟩] scope pos) 0 (.ref it) (.ref s2.heap.objs.size) (cxC X N scope s3 H3 fp p8).env) (RR (.ref s2.heap.objs.size) s3.heap.objs.size) s4:=by
  rintro s4 rfl;refine zfp (λn s'=>∃i σ' H',Inv (cxC X N scope s3 H3 fp p8) [] σ' H' s'/\tn i s'.heap/\(∀b∈fp,H' b=none)/\W i n σ' H') ?_ m0 ⟨0,_,H3,I4,st4,λb hb=>(hf3 b hb).1,w0⟩;rintro n s5 ⟨i,σ5,H5,I5,st5,fr5,w5⟩;rcases turn i n σ5 H5 w5 with⟨stop,qn⟩|⟨go,NN,hNN,step⟩
  .refine thn (T.done (cxC X N scope s3 H3 fp p8) rfl rfl rfl hc i [] s5 σ5 H5 NoX I5 (stat fr5) st5 stop) λr s6 ⟨hr,I6⟩=>?_;subst hr;let⟨m,hn,_⟩:=I6.loc;have hlt:∀b o,s3.heap.get? b=some o->b≠s3.heap.objs.size:=λb o e=>aN (az e);let⟨m3,⟨oL,_,_,hoL,_⟩,_⟩:=I3.loc;refine hRR _ _ s6 H5 m (zdn I3 hf3 I6) qn hn I6.free (λz=>hlt _ _ hoL z.symm) I3.sz (λx c ec z=>?_) λp hp z=>hlt _ _ (I3.pin p hp).1 z;let⟨v,o,ho,_⟩:=I3.cell x c ec;exact hlt _ _ ho z
  .refine thn (T.item (cxC X N scope s3 H3 fp p8) rfl rfl rfl hc i [] s5 σ5 H5 NoX I5 (stat fr5) st5 go) λr s6 ⟨u,hr,h6⟩=>?_;subst hr;refine thn h6 λ_ s7 ⟨x,H7,I7,r7,y7,st7,fr7⟩=>?_;have I7':=I7.pinned (stat fr7) (T.obj _ _ st7);have again:∀{σ8:St}{H8:Hp}{s8:An},Inv (cxC X N scope s3 H3 fp p8) ([]++Xw fp s7.heap) σ8 H8 s8->NN σ8 H8->∃m,m<n/\∃i σ' H',Inv (cxC X N scope s3 H3 fp p8) [] σ' H' s8/\tn i s8.heap/\(∀b∈fp,H' b=none)/\W i m σ' H':=λ{σ8 H8 s8} I8 n8=>by
    let⟨m',hm,w8⟩:=hNN σ8 H8 n8;refine⟨m',hm,i+1,σ8,H8,I8.unpinned,T.keep _ _ _ st7 λb hb o e=>(I8.pin (b,o) (aX _ (aX _ (wM hb e)))).1,λb hb=>?_,w8⟩;let⟨o,e,d⟩:=T.obj _ _ st7 b hb;exact(I8.pin (b,o) (aX _ (aX _ (wM hb e)))).2.1
   refine thn (hg s3 H3 fp p8 _ s7 σ5 H7 x u _ I7' r7 (step x H7 y7)) λ_ s8 ⟨σ8,H8,I8,q8⟩=>?_;refine thn (ht s3 H3 fp p8 _ s8 σ8 H8 _ I8 q8) λb s9 ⟨H9,I9,q9⟩=>?_;cases b with
   |false=>exact again I9 q9
   |true =>
    refine qJ (he s3 H3 fp p8 _ s9 σ8 H9 _ I9 q9) λv s10 y H10 I10 r10 qq_=>?_;let⟨ys,ea,hz,q10⟩:=qq_;refine thn (zN (X:=cxC X N scope s3 H3 fp p8) _ s10 σ8 H10 (.ref s2.heap.objs.size) [y] (.ref s2.heap.objs.size) [v] (λ_ H'=>NN σ8 H') I10 rfl (.cons r10 .nil) ⟨_,ys,y,rfl,rfl,ea,hz,q10⟩) λ_ s11 ⟨_,H11,I11,_,q11⟩=>?_;exact again I11 q11
 exact codeAny_compStart_list (loop _ rfl) (T.self X.A 0 _ _ _ st4 (loop _ rfl))
def jJ{ON:A8}(hosc:X.env.scope=osc)(hON:X.N=ON)(hB:zeq osc scope ON caps=true)(hN:N=vars++caps.map λk=>ON.getD k Str.empty)(hc:X.calm=true)(hi:PI X target iter wi)(hg:∀s H fp p8,PG (cxC X N scope s H fp p8) target (g s H fp p8))(ht:∀s H fp p8,zhq (cxC X N scope s H fp p8) ifs (tt s H fp p8))(he:∀s H fp p8,PE (cxC X N scope s H fp p8) elt (te s H fp p8))(hs:∀x,foldedSetIterable iter X.env x=pure x:=by intro _;rfl):PE X (.ListComp elt [⟨target,iter,ifs,0⟩] scope pos) (tLc wi vars.length caps g tt te):=by
 subst hON;intro p8 s σ H Q I h;have C:CompOk osc scope X.N vars caps:=zch hB;have hclos:closureFor scope X.env=pure (jg X.env.cells scope.names []):=Zr λy hy e=>I.ok.has y.1 (by have z:=C.free y hy e;rw[<- hosc]at z;exact z);rw[eval_ListComp];refine gZ (use:=none) rfl hs hclos C.kind C.loc (thn (hi p8 s σ H _ I h) λv s1 h1=>thn h1 λitv s2 h2=>?_);let⟨it,fp,tn,J,H2,e,I2,T,st2,f2,hw⟩:=h2;subst e;refine Wa (N:=N) (RR:=λpV Cc=>compPost (model X.prog X.w) X.A X.xe none (EP X p8 σ Q) pV Cc) hosc C hN hc hg ht he I2 T st2 f2 hw λpV Cc s' H' m I' q hn hC hL hsz hcc hpp=>?_;refine⟨m,hn,λh' hs'=>⟨.ref pV,H',?_,rfl,q⟩⟩;exact I'.turned (t':=s'.toks) (it:=Cc) (λb o hb e=>(hs'.2 b hb).trans e) hC (λz=>hL z) (.inr hsz) hcc hpp
def QY{ON:A8}{i:Nat}{x:Str}{pos' spos:Pos}(hNd:X.N.Nodup)(hix:X.N[i]?=some x)(hx:Loc X.env.scope x)(hosc:X.env.scope=osc)(hON:X.N=ON)(hB:zeq osc scope ON caps=true)(hN:N=vars++caps.map λk=>ON.getD k Str.empty)(hc:X.calm=true)(hi:PI X target iter wi)(hg:∀s H fp p8,PG (cxC X N scope s H fp p8) target (g s H fp p8))(ht:∀s H fp p8,zhq (cxC X N scope s H fp p8) ifs (tt s H fp p8))(he:∀s H fp p8,PE (cxC X N scope s H fp p8) elt (te s H fp p8))(hsw:swapsWith (.ListComp elt [⟨target,iter,ifs,0⟩] scope pos) (some (.Name x pos')) spos.line X.env=pure true:=by rfl)(hf:X.fn x=true\/X.env.scope.names.lookup x=some .local:=by walk_at"p")(hs:∀x,foldedSetIterable iter X.env x=pure x:=by intro _;rfl):PS X (.Assign [.Name x pos'] (.ListComp elt [⟨target,iter,ifs,0⟩] scope pos) spos) (tAsg (tLc wi vars.length caps g tt te) (gName i)):=by
 subst hON;intro p8 s σ H D I h;have C:CompOk osc scope X.N vars caps:=zch hB;have hclos:closureFor scope X.env=pure (jg X.env.cells scope.names []):=Zr λy hy e=>I.ok.has y.1 (by have z:=C.free y hy e;rw[<- hosc]at z;exact z);rw[exec_Assign_Name_used _ _ _ _ hsw];refine ae (bW (ae ?_));show wpAny _ X.A (do let _ <- comprehension (.ListComp elt [⟨target,iter,ifs,0⟩] scope pos) scope X.env _ (newList []) false (eval iter X.env) (some (assign (.Name x pos') X.env))) _ _ s
 refine ae (aI (gZ (use:=some (assign (.Name x pos') X.env)) (Q:=λ_ s'=>SP X p8 D .next s') rfl hs hclos C.kind C.loc (thn (hi p8 s σ H _ I h) λv s1 h1=>thn h1 λitv s2 h2=>?_)) (λ_ s' hq=>aE (aE hq)) λ_ _ e=>e);let⟨it,fp,tn,J,H2,e,I2,T,st2,f2,hw⟩:=h2;subst e;refine Wa (N:=N) (Q:=λv H1=>gName i v σ H1 D.nx) (RR:=λpV Cc=>compPost (model X.prog X.w) X.A X.xe (some (assign (.Name x pos') X.env)) (λ_ s'=>SP X p8 D .next s') pV Cc) hosc C hN hc hg ht he I2 T st2 f2 hw λpV Cc s' H' m I' q hn hC hL hsz hcc hpp=>?_;refine wpAny_assign_Name (WU I' hNd hix hx (v:=.ref pV) rfl (λs3 I3 ⟨a,sb,ha⟩=>?_) hf);have hne:Cc≠a:=λz=>by
  rcases ha with e|e
  .exact hL (z.trans e)
  .exact hcc x a e z.symm
 refine⟨m,hn.sameBut sb hne,λh' hs'=>⟨_,H',?_,q⟩⟩;exact I3.turned (t':=s3.toks) (it:=Cc) (λb o hb e=>(hs'.2 b hb).trans e) hC (λz=>hL z) (.inr hsz) hcc hpp
end
variable{b:Bool}{Q:A3}{i:Nat}{X:Cx}
section
variable{X:Cx}{p8:A2}{σ:St}{H:Hp}{s:An}{h':Heap}{ch:Ab}
def Inv.turnNew{T:Addr}{o:HO}{t':Nat}(I:Inv X p8 σ H s)(hch:∀b∈ch,QN X p8 H b)(hT:s.heap.objs.size<=T)(keep:∀b o,b∉ch->s.heap.get? b=some o->h'.get? b=some o)(new:ObjOk X.prog X.w (upd H T o) h' T o):Inv X p8 σ (upd H T o) {s with heap:=h',toks:=t'}:=by
 have hn:H T=none:=I.hok.fresh hT;have lt:∀b u,s.heap.get? b=some u->b≠T:=λb u e=>aN (aH (az e) hT);have nch:∀b u,H b=some u->b∉ch:=λb u e z=>by rw[(hch b z).1]at e;cases e
 refine I.step (g':=s.gens) (d':=s.drawn) (ch:=ch) (λb hb=>⟨(hch b hb).2.2.2.1,(hch b hb).2.1,(hch b hb).2.2.2.2.1,(hch b hb).2.2.2.2.2⟩) (λb o _ _ hc e _=>keep b o hc e) (λb o _ _ hc e _=>⟨o.slots,keep b o hc e⟩)
  (λb o _ e n=>by rw[rj (lt b o e)];exact n) (λb o hc e=>⟨o,keep b o hc e⟩) (λb xs e=>by rw[rj (rn e hn)];exact e) (λb o u e=>by rw[rj (rn e hn)];exact e)
  (λb ps e=>⟨#[],by rw[rj (rn e hn),e];simp⟩) (λm hm=>?_) (λb u e=>?_) I.bare
 .obtain⟨o,es,ep,ho,r⟩:=hm;exact⟨o,es,ep,keep _ o (λz=>(hch _ z).2.1 rfl) ho,r⟩
 .by_cases hb:b=T
  .subst hb;rw[rh]at e;cases e;exact new
  .rw[rj hb]at e;refine(I.hok b u e).stay (λc v hc q=>keep c v ?_ q) (λc q=>by rw[rj (rn q hn)];exact q) λc xs q=>by rw[rj (rn q hn)];exact q
   rcases hc with z|z
   .rw[z];exact nch b u e
   .exact nch c _ z
def Inv.turnL{t':Nat}(I:Inv X p8 σ H s)(hch:∀b∈ch,QN X p8 H b)(keep:∀b o,b∉ch->s.heap.get? b=some o->h'.get? b=some o):Inv X p8 σ H {s with heap:=h',toks:=t'}:=by
 have nch:∀b u,H b=some u->b∉ch:=λb u e z=>by rw[(hch b z).1]at e;cases e
 refine I.step (g':=s.gens) (d':=s.drawn) (ch:=ch) (λb hb=>⟨(hch b hb).2.2.2.1,(hch b hb).2.1,(hch b hb).2.2.2.2.1,(hch b hb).2.2.2.2.2⟩) (λb o _ _ hc e _=>keep b o hc e) (λb o _ _ hc e _=>⟨o.slots,keep b o hc e⟩)
  (λ_ _ _ _ n=>n) (λb o hc e=>⟨o,keep b o hc e⟩) (λ_ _ e=>e) (λ_ _ _ e=>e) (λb ps e=>⟨#[],by rw[e];simp⟩) (λm hm=>?_) (λb u e=>?_) I.bare
 .obtain⟨o,es,ep,ho,r⟩:=hm;exact⟨o,es,ep,keep _ o (λz=>(hch _ z).2.1 rfl) ho,r⟩
 .refine(I.hok b u e).stay (λc v hc q=>keep c v ?_ q) (λ_ q=>q) λ_ _ q=>q;rcases hc with z|z
  .rw[z];exact nch b u e
  .exact nch c _ z
end
noncomputable def Ite(K:A0)(a:Addr):It :=
 ⟨λi H=>∃xs x,SqL K H a xs/\xs[i]?=some x,λi H v H'=>∃t x,H t=none/\v=.ref t/\(∀xs,SqL K H a xs->xs[i]?=some x)/\H'=upd H t (.tup [.int i,x]),λi H=>∃xs,SqL K H a xs/\xs.length<=i⟩
def zeC{P:Af}{w:World}{K:A0}{elts:List Expr}{x1}{pos:Pos}(a e it:Addr)(hne:e≠it) :
  Turn P w K (.Tuple elts x1 pos) (Ite K a) [e,it] e (λi h=>(∃old,IsEnum h e it i old)/\h.IsListIter it a i) where
 mem:=by simp
 obj:=λi h st b hb=>by
  let⟨⟨old,he⟩,o,ho,c,d⟩:=st;rcases au.mp hb with rfl|hb
  .exact⟨_,he,λv z=>by cases z⟩
  .obtain rfl:b=it:=by simpa using hb
   exact⟨o,ho,λv z=>by rw[d]at z;cases z⟩
 keep:=λi h h' st k=>by
  let⟨⟨old,he⟩,hi⟩:=st;exact⟨⟨old,k e (by simp) _ he⟩,hi.at λo z=>k it (by simp) o z⟩
 item:=by
  intro X hP hw hK hc i p8 s σ H E I hf st hg;subst hP hw hK;let⟨⟨old,he⟩,hi⟩:=st;let⟨xs,x,hq,hx⟩:=hg;let⟨pS,rv,p,hz⟩:=I.list hq;let⟨u,hu,ru⟩:=rv.get hx;refine wpAny_pyNext_enum_item he hi p.isList (x:=u) (by simpa using hu) hne λh' he' hi' hT hsz hk=>?_;refine⟨_,rfl,?_⟩;have I1:Inv X p8 σ (upd H s.heap.objs.size (.tup [.int i,x])) {s with heap:=h',toks:=s.toks+1}:=I.turnNew hf (ar _) (λb o hb q=>hk b o (λz=>hb (by simp[z])) (λz=>hb (by simp[z])) q)
   ⟨by show 2<=sizeLine;decide,[.int i s.toks,u],.cons ⟨_,rfl⟩ (.cons ru .nil),⟨_,hT,rfl,_,rfl⟩⟩
  have hn:H s.heap.objs.size=none:=I.hok.fresh (ar _);have ne:∀b∈[e,it],b≠s.heap.objs.size:=λb hb=>by
   rcases au.mp hb with rfl|hb
   .exact aN (az he)
   .obtain rfl:b=it:=by simpa using hb
    let⟨o,ho,_⟩:=hi;exact aN (az ho)
  have fr:∀b∈[e,it],(upd H s.heap.objs.size (.tup [.int i,x])) b=none:=λb hb=>by rw[rj (ne b hb)];exact(hf b hb).1
  refine wpAny_letOwnedTupleGo_enum he' λh'' he'' hs''=>?_;refine⟨.ref s.heap.objs.size,_,I1.turnL (t':=s.toks+1) (ch:=[e]) (λb hb=>?_) (λb o hb q=>(hs''.2 b (λz=>hb (by simp[z]))).trans q),rfl,
   ⟨s.heap.objs.size,x,hn,rfl,λys hy=>by rw[I.list_inj hy hq];exact hx,rfl⟩,⟨⟨u,?_⟩,hi'.extBut hs''.extBut (bb hne)⟩,fr⟩
  .obtain rfl:b=e:=by simpa using hb
   exact⟨fr b (by simp),(hf b (by simp)).2⟩
  .exact he''
 done:=by
  intro X hP hw hK hc i p8 s σ H E I hf st hg;subst hP hw hK;let⟨⟨old,he⟩,hi⟩:=st;let⟨xs,hq,hx⟩:=hg;let⟨pS,rv,p,hz⟩:=I.list hq;have hl:=rv.length;exact wpAny_pyNext_enum_end (I.ok.hd hc) he hi p.isList (by simp;lia) λh' eb=>⟨rfl,I.turnL (t':=s.toks) hf λb o hb q=>eb b o (λz=>hb (by simp[z])) q⟩
 self:=λ_ _ _ _ _ st h=>by
  let⟨⟨old,he⟩,_⟩:=st;exact wpAny_pyIter_enum he h
def zaU:bootBuiltins "enumerate"=some (.type "enumerate"):=by decide+kernel
def zjZ:bootBuiltins "zip"=some (.type "zip"):=by decide+kernel
def iEnum(X:Cx)(ta:TA):TI:=λσ H R=>X.mg "enumerate"=none/\ta σ H λvs H1=>∃a xs,vs=[.ref a]/\H1 a=some (.lst xs)/\R (Ite X.K a) H1
def jl{a:Expr}{elts:List Expr}{x1}{tp p pos:Pos}{ta:TA}(ha:PA X [a] ta)(hg:Gl X "enumerate":=by rfl)(hs:starEach [a] X.env=(false,eval a X.env)::starEach [] X.env:=by rfl)(hpl:(backTo pos (starEach [] X.env)).any (·.1)=false:=by rfl) :
  PI X (.Tuple elts x1 tp) (.Call (.Name "enumerate" p) [a] [] pos) (iEnum X ta):=by
 intro p8 s σ H R I h;refine bQ (vQ I hg h.1 zaU ?_);refine bH (vn (ha pos p8 s σ H _ I h.2) λus s1 vs H1 I1 r1 q1=>?_) hs hpl;let⟨l,xs,rfl,hq,hR⟩:=q1;let⟨u,rfl,rx⟩:=vj r1;cases rx;let⟨hz,pS,n,rv,hl,e⟩:=I1.lstM hq;refine call_enumerate_1 e λh' he hi hsz hk=>wpAny_pyIter_enum he ?_;refine⟨s1.heap.objs.size+1,[s1.heap.objs.size+1,s1.heap.objs.size],_,_,H1,rfl,I1.kept (t':=s1.toks) hk,zeC l _ _ (Nat.succ_ne_self _),⟨⟨_,he⟩,hi⟩,λb hb=>?_,hR⟩;rcases au.mp hb with rfl|hb
 .exact I1.fpOk (dj _) (I1.hok.fresh (dj _))
 .obtain rfl:b=s1.heap.objs.size:=by simpa using hb
  exact I1.fpOk (ar _) (I1.hok.fresh (ar _))
def ItAt(b:Bool)(h:Heap)(it a:Addr)(i:Nat):Prop:=if b=true then h.IsListIter it a i else h.IsTupleIter it a i
def SqAt(b:Bool)(h:Heap)(a:Addr)(items:Ac):Prop:=if b=true then h.IsList a items else h.IsTuple a items
noncomputable def QE(b:Bool):String:=if b=true then"list_iterator" else"tuple_iterator"
def ItAt.at'{h h':Heap}{it a:Addr}(x:ItAt b h it a i)(hk:∀o,h.get? it=some o->h'.get? it=some o):ItAt b h' it a i:=by
 cases b<;>exact let⟨o,ho,r⟩:=x;⟨o,hk o ho,r⟩
def ItAt.obj{h:Heap}{it a:Addr}(x:ItAt b h it a i):∃o,h.get? it=some o/\∀v,o.data≠.cell v:=by
 cases b<;>exact let⟨o,ho,_,hd⟩:=x;⟨o,ho,λv z=>by rw[hd]at z;cases z⟩
def SqAt.at'{h h':Heap}{a:Addr}{items:Ac}(x:SqAt b h a items)(hk:∀o,h.get? a=some o->h'.get? a=some o):SqAt b h' a items:=by
 cases b<;>exact let⟨o,ho,r⟩:=x;⟨o,hk o ho,r⟩
section
variable{prog:Af}{w:World}{A:Ao}{E:A3}{s:An}
def Z8{it t:Addr}{items}{x:Am}(hit:s.heap.IsTupleIter it t i)(ht:s.heap.IsTuple t items)(hx:items[i]?=some x)(hQ:∀h',h'.IsTupleIter it t (i+1)->Heap.SameBut it s.heap h'->Q x {s with heap:=h'}):wpAny (model prog w) A (Builtin.SmallTypes.nextOf (.ref it)) Q E s:=by
 let⟨o,ho,hc,hd⟩:=id hit;let⟨ol,hol,_,nl,hdl⟩:=ht;unfold Builtin.SmallTypes.nextOf;refine ae (cX (name:=Str.ofString "__next__") hit.typeIs cG
  (d8 cG hit.typeIs gF ?_ (gm _)))
 show wpAny _ _ (field (.ref it) 0 >>= _) _ _ s
 refine ae (bx ho hd (x:=.ref t) rfl ?_);show wpAny _ _ (if (Value.ref t == Value.none)=true then _ else _) _ _ s
 rw[am (show ¬((Value.ref t == Value.none)=true)from aC)];show wpAny _ _ (field (.ref it) 1 >>= _) _ _ s
 refine ae (bx ho hd (x:=.int i 0) rfl ?_);show wpAny _ _ (seqItems? (.ref t) >>= _) _ _ s
 refine ae (bZ hol hdl ?_);simp only[aP,hx];refine ae (dg ho hd (by simp) (aE ⟨x,rfl,aE (hQ _ ?_ (Heap.SameBut.update ..))⟩));exact⟨_,bD _ ho (b9 (bd hd _)),(Obj.cls_mapFields ..).trans hc,by
  rw[bd hd];simp[rawInt]⟩
def QA{it t:Addr}{items}(hh:A.handled=none)(hit:s.heap.IsTupleIter it t i)(ht:s.heap.IsTuple t items)(hx:items[i]?=none)(hE:∀h' e,Heap.ExtBut it s.heap h'->(∃o,h'.get? e=some o/\o.cls=.type "StopIteration")->E (.ref e) {s with heap:=h'}) :
  wpAny (model prog w) A (Builtin.SmallTypes.nextOf (.ref it)) Q E s:=by
 let⟨o,ho,hc,hd⟩:=id hit;let⟨ol,hol,_,nl,hdl⟩:=ht;unfold Builtin.SmallTypes.nextOf;refine ae (cX (name:=Str.ofString "__next__") hit.typeIs cG
  (d8 cG hit.typeIs gF ?_ (gm _)))
 show wpAny _ _ (field (.ref it) 0 >>= _) _ _ s
 refine ae (bx ho hd (x:=.ref t) rfl ?_);show wpAny _ _ (if (Value.ref t == Value.none)=true then _ else _) _ _ s
 rw[am (show ¬((Value.ref t == Value.none)=true)from aC)];show wpAny _ _ (field (.ref it) 1 >>= _) _ _ s
 refine ae (bx ho hd (x:=.int i 0) rfl ?_);show wpAny _ _ (seqItems? (.ref t) >>= _) _ _ s
 refine ae (bZ hol hdl ?_);simp only[aP,hx];refine ae (wpAny_rule (ae (dg ho hd (by simp) ?_)));show wpAny _ _ (newExc (.type "StopIteration") [] >>= _) _ _ _
 refine ae ?_;simp only[newExc,newTuple];refine ae (dh ?_ (by size_fits));refine ae (m:=firstArgMember _ _) (wpAny_of_eq (a:=Value.none) (by first|rfl|(simp only[firstArgMember];rfl)) ?_);refine dh ?_ (by size_fits);simp only[raiseNew];refine ae (wpAny_handled ?_)
 first|rw[show A.in1.handled=none from hh] | rw[hh]
 refine ae (aE (wpAny_throw ?_));exact hE _ _ (((Heap.SameBut.update ..).extBut.push _).push _) ⟨_,aF _ rfl,rfl⟩
def vJ{it t:Addr}{items}{x:Am}(hit:ItAt b s.heap it t i)(ht:SqAt b s.heap t items)(hx:items[i]?=some x)(hQ:∀h',ItAt b h' it t (i+1)->Heap.SameBut it s.heap h'->Q x {s with heap:=h'}):wpAny (model prog w) A (Builtin.SmallTypes.nextOf (.ref it)) Q E s:=by
 cases b
 .exact Z8 hit ht hx hQ
 .exact wpAny_nextOf_list_item hit ht hx hQ
def XQ{it t:Addr}{items}(hh:A.handled=none)(hit:ItAt b s.heap it t i)(ht:SqAt b s.heap t items)(hx:items[i]?=none)(hE:∀h' e,Heap.ExtBut it s.heap h'->(∃o,h'.get? e=some o/\o.cls=.type "StopIteration")->E (.ref e) {s with heap:=h'}) :
  wpAny (model prog w) A (Builtin.SmallTypes.nextOf (.ref it)) Q E s:=by
 cases b
 .exact QA hh hit ht hx hE
 .exact wpAny_nextOf_list_end hh hit ht hx hE
def Vj{t:Addr}{items}(ht:SqAt b s.heap t items)(hQ:Q (.ref s.heap.objs.size) {s with heap:=s.heap.push {cls:=.type (QE b),data:=.fields #[.ref t,.int 0 0]} }):wpAny (model prog w) A (pyIter (.ref t)) Q E s:=by
 cases b
 .exact wpAny_pyIter_tuple ht hQ
 .exact dU ht hQ
def zfI{b1 b2:Bool}{z TI TO i1 i2 l1 l2:Addr}{k1 k2:Nat}{xs ys:Ac}{x y a b:Am}(D:ZipApart z TI TO i1 i2 l1 l2)(hz:IsZip s.heap z TI TO .none)(hTI:IsPair s.heap TI (.ref i1) (.ref i2))(hTO:IsPair s.heap TO a b)(h1:ItAt b1 s.heap i1 l1 k1)(h2:ItAt b2 s.heap i2 l2 k2)(hl1:SqAt b1 s.heap l1 xs)(hl2:SqAt b2 s.heap l2 ys)(hx:xs[k1]?=some x)(hy:ys[k2]?=some y)(hQ:∀h',IsZip h' z TI TO (rawInt s.heap.objs.size)->IsPair h' TO x y->ItAt b1 h' i1 l1 (k1+1)->ItAt b2 h' i2 l2 (k2+1)->IsPair h' s.heap.objs.size x y->h'.objs.size=s.heap.objs.size+1 ->
   (∀c o,c≠z->c≠TO->c≠i1->c≠i2->s.heap.get? c=some o->h'.get? c=some o)->Q (.ref s.heap.objs.size) {s with heap:=h'}) :
  wpAny (model prog w) A (Builtin.«zip.__next__» ⟨[.ref z],[]⟩) (λfin s'=>∃v,fin=.done (.ret v)/\Q v s') E s:=by
 show wpAny _ _ (field (.ref z) 2 >>= _) _ _ _
 refine ae (bx hz rfl (x:=.bool false) rfl ?_);show wpAny _ _ (field (.ref z) 3 >>= _) _ _ _
 refine ae (bx hz rfl (x:=.ref TI) rfl ?_);refine ae (bZ hTI rfl ?_);show wpAny _ _ (Builtin.SmallTypes.ownedTupleIsFree (.ref z) >>= _) _ _ _
 refine ae ?_;unfold Builtin.SmallTypes.ownedTupleIsFree;refine ae (bx hz rfl (x:=.none) rfl (aE ?_));simp only[ef];refine ae (wpAny_rule ?_);refine ae (bx hz rfl (x:=.ref TO) rfl ?_);refine ae (cr hz (by simp) λh₁ hz₁ hs₁=>?_);replace hz₁:IsZip h₁ z TI TO .ellipsis:=hz₁;refine ae ?_;simp only[List.zipIdx_cons,List.zipIdx_nil,gv,List.forIn_nil];refine ae (ae (fh ?_));show wpAny _ _ (Builtin.SmallTypes.nextOf (.ref i1) >>= _) _ _ _
 refine ae (vJ (h1.at' λo e=>hs₁.extBut _ _ D.i1z e) (hl1.at' λo e=>hs₁.extBut _ _ D.l1z e) hx λh₂ h1₂ hs₂=>aE ?_);have hTO₂:IsPair h₂ TO a b:=hs₂.extBut _ _ D.TOi1 (hs₁.extBut _ _ D.TOz hTO);refine ae (bZ hTO₂ rfl ?_);refine ae (eQ hTO₂ λh₃ hTO₃ hs₃=>?_);replace hTO₃:IsPair h₃ TO x b:=hTO₃;refine ae (fX (aE ?_));refine ae (ae (fh ?_));show wpAny _ _ (Builtin.SmallTypes.nextOf (.ref i2) >>= _) _ _ _
 refine ae (vJ (h2.at' λo e=>hs₃.extBut _ _ D.TOi2.symm (hs₂.extBut _ _ D.i12.symm (hs₁.extBut _ _ D.i2z e)))
  (hl2.at' λo e=>hs₃.extBut _ _ D.l2TO (hs₂.extBut _ _ D.l2i1 (hs₁.extBut _ _ D.l2z e))) hy λh₄ h2₄ hs₄=>aE ?_)
 have hTO₄:IsPair h₄ TO x b:=hs₄.extBut _ _ D.TOi2 hTO₃;refine ae (bZ hTO₄ rfl ?_);refine ae (eQ hTO₄ λh₅ hTO₅ hs₅=>?_);replace hTO₅:IsPair h₅ TO x y:=hTO₅;refine ae (fX (aE (aE ?_)));refine ae (bZ hTO₅ rfl ?_);refine ae (wpAny_newTuple ?_);have hsz:h₅.objs.size=s.heap.objs.size:=by rw[hs₅.1,hs₄.1,hs₃.1,hs₂.1,hs₁.1]
 have hz₅:IsZip h₅ z TI TO .ellipsis:=hs₅.extBut _ _ D.TOz.symm (hs₄.extBut _ _ D.i2z.symm (hs₃.extBut _ _ D.TOz.symm (hs₂.extBut _ _ D.i1z.symm hz₁)));have hk₅:∀c o,c≠z->c≠TO->c≠i1->c≠i2->s.heap.get? c=some o->h₅.get? c=some o:=λc o c1 c2 c3 c4 e =>
  hs₅.extBut _ _ c2 (hs₄.extBut _ _ c4 (hs₃.extBut _ _ c2 (hs₂.extBut _ _ c3 (hs₁.extBut _ _ c1 e))))
 have h1₅:ItAt b1 h₅ i1 l1 (k1+1):=h1₂.at' λo e=>hs₅.extBut _ _ D.TOi1.symm (hs₄.extBut _ _ D.i12 (hs₃.extBut _ _ D.TOi1.symm e));have h2₅:ItAt b2 h₅ i2 l2 (k2+1):=h2₄.at' λo e=>hs₅.extBut _ _ D.TOi2.symm e;have hzlt:z<h₅.objs.size:=az hz₅;show wpAny _ _ (Builtin.SmallTypes.ownedTupleHandOut (.ref z) (.ref h₅.objs.size) >>= _) _ _ _
 refine ae ?_;unfold Builtin.SmallTypes.ownedTupleHandOut;have hz₆:IsZip (h₅.push {cls:=.type "tuple",data:=.seq #[x,y]}) z TI TO .ellipsis:=ah _ hz₅;refine ae (cr hz₆ (by simp) λh₇ hz₇ hs₇=>?_);replace hz₇:IsZip h₇ z TI TO (rawInt h₅.objs.size):=hz₇;refine cr hz₇ (by simp) λh₈ hz₈ hs₈=>?_;replace hz₈:IsZip h₈ z TI TO (rawInt h₅.objs.size):=hz₈;have up:∀c o,c≠z->h₅.get? c=some o->h₈.get? c=some o:=λc o c1 e=>hs₈.extBut _ _ c1 (hs₇.extBut _ _ c1 (ah _ e));have hT₈:IsPair h₈ h₅.objs.size x y:=hs₈.extBut _ _ (dQ hzlt) (hs₇.extBut _ _ (dQ hzlt) (aF _ rfl));have hz8:h₈.objs.size=h₅.objs.size+1:=by rw[hs₈.1,hs₇.1,bT]
 rw[hsz]at hz₈ hT₈ hz8;refine aE ⟨_,rfl,?_⟩;show Q (.ref h₅.objs.size) _
 rw[hsz];exact hQ h₈ hz₈ (up _ _ D.TOz hTO₅) (h1₅.at' λo e=>up _ o D.i1z e) (h2₅.at' λo e=>up _ o D.i2z e) hT₈ hz8 λc o c1 c2 c3 c4 e=>up c o c1 (hk₅ c o c1 c2 c3 c4 e)
theorem zhr{b1 b2:Bool}{z TI TO i1 i2 l1 l2:Addr}{k1 k2:Nat}{xs ys:Ac}{a b:Am}{Q:Fin->Shared->Prop}(hh:A.handled=none)(D:ZipApart z TI TO i1 i2 l1 l2)(hz:IsZip s.heap z TI TO .none)(hTI:IsPair s.heap TI (.ref i1) (.ref i2))(hTO:IsPair s.heap TO a b)(h1:ItAt b1 s.heap i1 l1 k1)(h2:ItAt b2 s.heap i2 l2 k2)(hl1:SqAt b1 s.heap l1 xs)(hl2:SqAt b2 s.heap l2 ys)(hend:xs[k1]?=none\/ys[k2]?=none)(hE:∀h' e,(∀c o,c≠z->c≠TO->c≠i1->c≠i2->s.heap.get? c=some o->h'.get? c=some o)->(∃o,h'.get? e=some o/\o.cls=.type "StopIteration")->E (.ref e) {s with heap:=h'}) :
  wpAny (model prog w) A (Builtin.«zip.__next__» ⟨[.ref z],[]⟩) Q E s:=by
 show wpAny _ _ (field (.ref z) 2 >>= _) _ _ _
 refine ae (bx hz rfl (x:=.bool false) rfl ?_);show wpAny _ _ (field (.ref z) 3 >>= _) _ _ _
 refine ae (bx hz rfl (x:=.ref TI) rfl ?_);refine ae (bZ hTI rfl ?_);show wpAny _ _ (Builtin.SmallTypes.ownedTupleIsFree (.ref z) >>= _) _ _ _
 refine ae ?_;unfold Builtin.SmallTypes.ownedTupleIsFree;refine ae (bx hz rfl (x:=.none) rfl (aE ?_));simp only[ef];refine ae (wpAny_rule ?_);refine ae (bx hz rfl (x:=.ref TO) rfl ?_);refine ae (cr hz (by simp) λh₁ hz₁ hs₁=>?_);replace hz₁:IsZip h₁ z TI TO .ellipsis:=hz₁;refine ae ?_;simp only[List.zipIdx_cons,List.zipIdx_nil,gv,List.forIn_nil];refine ae (ae (fh ?_));show wpAny _ _ (Builtin.SmallTypes.nextOf (.ref i1) >>= _) _ _ _
 cases hx:xs[k1]? with
 |none =>
  refine ae (XQ hh (h1.at' λo e=>hs₁.extBut _ _ D.i1z e) (hl1.at' λo e=>hs₁.extBut _ _ D.l1z e) hx λh₂ e hs₂ he=>?_);let⟨oe,hoe,hce⟩:=he;have hz₂:IsZip h₂ z TI TO .ellipsis:=hs₂ _ _ D.i1z.symm hz₁;have hez:e≠z:=λx=>by subst x;rw[hz₂]at hoe;cases hoe;simp at hce
  refine cr hz₂ (by simp) λh₃ _ hs₃=>hE h₃ e (λc o c1 _ c3 _ x=>hs₃.extBut _ _ c1 (hs₂ _ _ c3 (hs₁.extBut _ _ c1 x))) ⟨oe,hs₃.extBut _ _ hez hoe,hce⟩
 |some x =>
  have hy:ys[k2]?=none:=by rcases hend with h|h;rw[hx]at h;cases h;exact h
  refine ae (vJ (h1.at' λo e=>hs₁.extBut _ _ D.i1z e) (hl1.at' λo e=>hs₁.extBut _ _ D.l1z e) hx λh₂ h1₂ hs₂=>aE ?_);have hTO₂:IsPair h₂ TO a b:=hs₂.extBut _ _ D.TOi1 (hs₁.extBut _ _ D.TOz hTO);refine ae (bZ hTO₂ rfl ?_);refine ae (eQ hTO₂ λh₃ hTO₃ hs₃=>?_);refine ae (fX (aE ?_));refine ae (ae (fh ?_));show wpAny _ _ (Builtin.SmallTypes.nextOf (.ref i2) >>= _) _ _ _
  refine ae (XQ hh (h2.at' λo e=>hs₃.extBut _ _ D.TOi2.symm (hs₂.extBut _ _ D.i12.symm (hs₁.extBut _ _ D.i2z e)))
   (hl2.at' λo e=>hs₃.extBut _ _ D.l2TO (hs₂.extBut _ _ D.l2i1 (hs₁.extBut _ _ D.l2z e))) hy λh₄ e hs₄ he=>?_)
  let⟨oe,hoe,hce⟩:=he;have hz₄:IsZip h₄ z TI TO .ellipsis:=hs₄ _ _ D.i2z.symm (hs₃.extBut _ _ D.TOz.symm (hs₂.extBut _ _ D.i1z.symm hz₁));have hez:e≠z:=λx=>by subst x;rw[hz₄]at hoe;cases hoe;simp at hce
  refine cr hz₄ (by simp) λh₅ _ hs₅=>hE h₅ e (λc o c1 c2 c3 c4 x=>hs₅.extBut _ _ c1 (hs₄ _ _ c4 (hs₃.extBut _ _ c2 (hs₂.extBut _ _ c3 (hs₁.extBut _ _ c1 x))))) ⟨oe,hs₅.extBut _ _ hez hoe,hce⟩
noncomputable abbrev zH1(h:Heap)(b1:Bool)(l1:Addr):Heap:=h.push {cls:=.type (QE b1),data:=.fields #[.ref l1,.int 0 0]}
noncomputable abbrev zH2(h:Heap)(b1 b2:Bool)(l1 l2:Addr):Heap:=(zH1 h b1 l1).push {cls:=.type (QE b2),data:=.fields #[.ref l2,.int 0 0]}
noncomputable abbrev zH3(h:Heap)(b1 b2:Bool)(l1 l2:Addr):Heap:=(zH2 h b1 b2 l1 l2).push {cls:=.type "tuple",data:=.seq #[.ref h.objs.size,.ref (zH1 h b1 l1).objs.size]}
noncomputable abbrev zH4(h:Heap)(b1 b2:Bool)(l1 l2:Addr):Heap:=(zH3 h b1 b2 l1 l2).push {cls:=.type "tuple",data:=.seq #[.none,.none]}
noncomputable abbrev zH5(h:Heap)(b1 b2:Bool)(l1 l2:Addr):Heap:=(zH4 h b1 b2 l1 l2).push {cls:=.type "zip",data:=.fields #[.none,.bool false,.bool false,.ref (zH2 h b1 b2 l1 l2).objs.size,.ref (zH3 h b1 b2 l1 l2).objs.size]}
end
def zfc{b1 b2:Bool}(l1 l2:Addr)(xs ys:Ac) :
  Meets (Builtin.«zip.__new__» ⟨[.type "zip",.ref l1,.ref l2],[]⟩) (λ_ R s=>SqAt b1 s.heap l1 xs/\SqAt b2 s.heap l2 ys /\
   R (.ok (.ret (.ref (zH4 s.heap b1 b2 l1 l2).objs.size))) {s with heap:=zH5 s.heap b1 b2 l1 l2}) :=
 .of_wp λprog w A R s h=>by
  let⟨hp,g,d,tk,os⟩:=s;let⟨hl1,hl2,h⟩:=h;have hsub:=sub_zip;have hL1:SqAt b1 (Shared.heap ⟨hp,g,d,tk,os⟩) l1 xs:=hl1;have hL2:SqAt b2 (Shared.heap ⟨hp.push {cls:=.type (QE b1),data:=.fields #[.ref l1,.int 0 0]},g,d,tk,os⟩) l2 ys:=hl2.at' λo e=>ah _ e
  wp_walk using Vj hL1,Vj hL2
  exact⟨_,rfl,h⟩
section
variable{prog:Af}{w:World}{A:Ao}{E:A3}{s:An}
def ItAt.new{h:Heap}{it l:Addr}(e:h.get? it=some {cls:=.type (QE b),data:=.fields #[.ref l,.int 0 0]}):ItAt b h it l 0:=by
 cases b<;>exact⟨_,e,rfl,rfl⟩
def zhc{b1 b2:Bool}{l1 l2:Addr}{xs ys:Ac}(hl1:SqAt b1 s.heap l1 xs)(hl2:SqAt b2 s.heap l2 ys)(h:∀h',IsZip h' (s.heap.objs.size+4) (s.heap.objs.size+2) (s.heap.objs.size+3) .none->IsPair h' (s.heap.objs.size+2) (.ref s.heap.objs.size) (.ref (s.heap.objs.size+1)) ->
   IsPair h' (s.heap.objs.size+3) .none .none->ItAt b1 h' s.heap.objs.size l1 0->ItAt b2 h' (s.heap.objs.size+1) l2 0->h'.objs.size=s.heap.objs.size+5 ->
   (∀c o,s.heap.get? c=some o->h'.get? c=some o)->Q (.ref (s.heap.objs.size+4)) {s with heap:=h'}) :
  wpAny (model prog w) A (call (.type "zip") [.ref l1,.ref l2]) Q E s:=by
 refine callType_new F.called_zip (by decide) (F.typeCall_zip_2 _ _) (F.newCall_zip_2 _ _) (λobj=>F.args_object_init_3 obj _ _) F.entry_zip_new
  (zfc (b1:=b1) (b2:=b2) l1 l2 xs ys) ⟨hl1,hl2,?_⟩
 have z1:(zH1 s.heap b1 l1).objs.size=s.heap.objs.size+1:=bT ..;have z2:(zH2 s.heap b1 b2 l1 l2).objs.size=s.heap.objs.size+2:=by rw[bT,z1]
 have z3:(zH3 s.heap b1 b2 l1 l2).objs.size=s.heap.objs.size+3:=by rw[bT,z2]
 have z4:(zH4 s.heap b1 b2 l1 l2).objs.size=s.heap.objs.size+4:=by rw[bT,z3]
 have z5:(zH5 s.heap b1 b2 l1 l2).objs.size=s.heap.objs.size+5:=by rw[bT,z4]
 have g5:(zH5 s.heap b1 b2 l1 l2).get? (zH4 s.heap b1 b2 l1 l2).objs.size=some _:=aF _ rfl;have g4:(zH5 s.heap b1 b2 l1 l2).get? (zH3 s.heap b1 b2 l1 l2).objs.size=some _:=ah _ (aF _ rfl);have g3:(zH5 s.heap b1 b2 l1 l2).get? (zH2 s.heap b1 b2 l1 l2).objs.size=some _:=ah _ (ah _ (aF _ rfl));have g2:(zH5 s.heap b1 b2 l1 l2).get? (zH1 s.heap b1 l1).objs.size=some _:=ah _ (ah _ (ah _ (aF _ rfl)));have g1:(zH5 s.heap b1 b2 l1 l2).get? s.heap.objs.size=some _:=ah _ (ah _ (ah _ (ah _ (aF _ rfl))));show _/\_
 rw[z2,z3,z4]at g5;rw[z1,z2]at g3;rw[z3]at g4;rw[z1]at g2;rw[z4];exact⟨⟨_,g5,rfl⟩,h _ g5 g3 g4 (ItAt.new g1) (ItAt.new g2) z5 λc o x =>
  ah _ (ah _ (ah _ (ah _ (ah _ x))))⟩
end
def SqB(b:Bool)(K:A0)(H:Hp)(a:Addr)(xs:Ap):Prop:=if b=true then SqL K H a xs else SqT K H a xs
def Inv.sqB{p8:A2}{σ:St}{H:Hp}{s:An}{a:Addr}{xs:Ap}(I:Inv X p8 σ H s)(h:SqB b X.K H a xs):∃pS:List Value,Vals xs pS/\SqAt b s.heap a pS.toArray:=by
 cases b
 .obtain⟨pS,r,p,_⟩:=I.tuple (show SqT X.K H a xs from h);exact⟨pS,r,p⟩
 .obtain⟨pS,r,p,_⟩:=I.list (show SqL X.K H a xs from h);exact⟨pS,r,p.isList⟩
def Inv.sqB_inj{p8:A2}{σ:St}{H:Hp}{s:An}{a:Addr}{xs ys:Ap}(I:Inv X p8 σ H s)(h1:SqB b X.K H a xs)(h2:SqB b X.K H a ys):xs=ys:=by
 cases b
 .exact I.tuple_inj (show SqT X.K H a xs from h1) (show SqT X.K H a ys from h2)
 .exact I.list_inj (show SqL X.K H a xs from h1) (show SqL X.K H a ys from h2)
noncomputable def Itz(K:A0)(b1 b2:Bool)(a1 a2:Addr):It :=
 ⟨λi H=>∃xs ys x y,SqB b1 K H a1 xs/\SqB b2 K H a2 ys/\xs[i]?=some x/\ys[i]?=some y,
   λi H v H'=>∃t x y,H t=none/\v=.ref t/\(∀xs,SqB b1 K H a1 xs->xs[i]?=some x)/\(∀ys,SqB b2 K H a2 ys->ys[i]?=some y)/\H'=upd H t (.tup [x,y]),
   λi H=>∃xs ys,SqB b1 K H a1 xs/\SqB b2 K H a2 ys/\(xs.length<=i\/ys.length<=i)⟩
def SqB.there{p8:A2}{σ:St}{H:Hp}{s:An}{a:Addr}{xs:Ap}(I:Inv X p8 σ H s)(h:SqB b X.K H a xs):∃o,s.heap.get? a=some o/\(o.cls=.type "list"\/o.cls=.type "tuple")/\∃pS n,o.data=.seq pS n:=by
 let⟨pS,_,p⟩:=I.sqB h;cases b
 .obtain⟨o,e,c,n,d⟩:=p;exact⟨o,e,.inr c,_,n,d⟩
 .obtain⟨o,e,c,n,d⟩:=p;exact⟨o,e,.inl c,_,n,d⟩
def zfP{P:Af}{w:World}{K:A0}{elts:List Expr}{x1}{pos:Pos}{b1 b2:Bool}(z TI TO i1 i2 l1 l2:Addr)(D:ZipApart z TI TO i1 i2 l1 l2) :
  Turn P w K (.Tuple elts x1 pos) (Itz K b1 b2 l1 l2) [z,TI,TO,i1,i2] z (λi h=>IsZip h z TI TO .none/\IsPair h TI (.ref i1) (.ref i2)/\(∃a b,IsPair h TO a b)/\ItAt b1 h i1 l1 i/\ItAt b2 h i2 l2 i) where
 mem:=by simp
 obj:=λi h st b hb=>by
  let⟨hz,hTI,⟨a,b',hTO⟩,h1,h2⟩:=st;simp only[au,bn,bR]at hb;rcases hb with rfl|rfl|rfl|rfl|rfl
  .exact⟨_,hz,λv z=>by cases z⟩
  .exact⟨_,hTI,λv z=>by cases z⟩
  .exact⟨_,hTO,λv z=>by cases z⟩
  .exact h1.obj
  .exact h2.obj
 keep:=λi h h' st k=>by
  let⟨hz,hTI,⟨a,b',hTO⟩,h1,h2⟩:=st;exact⟨k z (by simp) _ hz,k TI (by simp) _ hTI,⟨a,b',k TO (by simp) _ hTO⟩,h1.at' λo e=>k i1 (by simp) o e,h2.at' λo e=>k i2 (by simp) o e⟩
 item:=by
  intro X hP hw hK hc i p8 s σ H E I hf st hg;subst hP hw hK;let⟨hz,hTI,⟨a,b',hTO⟩,h1,h2⟩:=st;let⟨xs,ys,x,y,q1,q2,hx,hy⟩:=hg;let⟨its1,r1,p1⟩:=I.sqB q1;let⟨its2,r2,p2⟩:=I.sqB q2;let⟨u1,hu1,ru1⟩:=r1.get hx;let⟨u2,hu2,ru2⟩:=r2.get hy;have hT:s.TypeIs (.ref z) "zip":=⟨_,hz,rfl⟩;unfold pyNext;refine ae (hJ (cX (name:=Str.ofString "__next__") hT eI (d8 eI hT F.entry_zip_next
   (zfI D hz hTI hTO h1 h2 p1 p2 (x:=u1) (y:=u2) (by simpa using hu1) (by simpa using hu2) λh' a1 a2 a3 a4 a5 a6 hk=>aE ?_) (F.args_zip_next_1 _))))
  refine⟨_,rfl,?_⟩;have I1:Inv X p8 σ (upd H s.heap.objs.size (.tup [x,y])) {s with heap:=h'}:=I.turnNew (t':=s.toks) hf (ar _) (λb o hb q=>hk b o (λz=>hb (by simp[z])) (λz=>hb (by simp[z])) (λz=>hb (by simp[z])) (λz=>hb (by simp[z])) q)
   ⟨by show 2<=sizeLine;decide,[u1,u2],.cons ru1 (.cons ru2 .nil),⟨_,a5,rfl,_,rfl⟩⟩
  have hn:H s.heap.objs.size=none:=I.hok.fresh (ar _);have ne:∀b∈[z,TI,TO,i1,i2],b≠s.heap.objs.size:=λb hb=>by
   have:∃o,s.heap.get? b=some o:=by
    simp only[au,bn,bR]at hb;rcases hb with rfl|rfl|rfl|rfl|rfl
    .exact⟨_,hz⟩
    .exact⟨_,hTI⟩
    .exact⟨_,hTO⟩
    .exact let⟨o,e,_⟩:=h1.obj;⟨o,e⟩
    .exact let⟨o,e,_⟩:=h2.obj;⟨o,e⟩
   let⟨o,e⟩:=this;exact aN (az e)
  have fr:∀b∈[z,TI,TO,i1,i2],(upd H s.heap.objs.size (.tup [x,y])) b=none:=λb hb=>by rw[rj (ne b hb)];exact(hf b hb).1
  have hTI':IsPair h' TI (.ref i1) (.ref i2):=hk _ _ D.TIz D.TITO D.TIi1 D.TIi2 hTI;refine wpAny_letOwnedTupleGo_zip a1 λh'' hz'' hs''=>?_;refine⟨.ref s.heap.objs.size,_,I1.turnL (t':=s.toks) (ch:=[z]) (λb hb=>?_) (λb o hb q=>(hs''.2 b (λz=>hb (by simp[z]))).trans q),rfl,
   ⟨s.heap.objs.size,x,y,hn,rfl,λzs hy=>by rw[I.sqB_inj hy q1];exact hx,λzs hz=>by rw[I.sqB_inj hz q2];exact hy,rfl⟩,
   ⟨hz'',hs''.extBut _ _ D.TIz hTI',⟨_,_,hs''.extBut _ _ D.TOz a2⟩,a3.at' λo e=>hs''.extBut _ _ D.i1z e,a4.at' λo e=>hs''.extBut _ _ D.i2z e⟩,fr⟩
  obtain rfl:b=z:=by simpa using hb
  exact⟨fr b (by simp),(hf b (by simp)).2⟩
 done:=by
  intro X hP hw hK hc i p8 s σ H E I hf st hg;subst hP hw hK;let⟨hz,hTI,⟨a,b',hTO⟩,h1,h2⟩:=st;let⟨xs,ys,q1,q2,hx⟩:=hg;let⟨its1,r1,p1⟩:=I.sqB q1;let⟨its2,r2,p2⟩:=I.sqB q2;have e1:=r1.length;have e2:=r2.length;have hT:s.TypeIs (.ref z) "zip":=⟨_,hz,rfl⟩;have hend:its1.toArray[i]?=none\/its2.toArray[i]?=none:=by
   rcases hx with h|h
   .exact .inl (by simp;lia)
   .exact .inr (by simp;lia)
  unfold pyNext;refine ae (hJ (cX (name:=Str.ofString "__next__") hT eI
   (d8 eI hT F.entry_zip_next (zhr (I.ok.hd hc) D hz hTI hTO h1 h2 p1 p2 hend λh' e hk he=>?_) (F.args_zip_next_1 _))))
  let⟨o,ho,hcl⟩:=he;refine ae (wpAny_isInstance (T:="StopIteration") (b:=true) ⟨o,ho,hcl⟩ isSubtype_stop ?_);exact aE ⟨rfl,I.turnL (t':=s.toks) hf λb o hb q=>hk b o (λz=>hb (by simp[z])) (λz=>hb (by simp[z])) (λz=>hb (by simp[z])) (λz=>hb (by simp[z])) q⟩
 self:=λ_ _ _ _ _ st h=>wpAny_pyIter_zip st.1 h
def zeA(n l1 l2:Nat)(h1:l1<n)(h2:l2<n):ZipApart (n+4) (n+2) (n+3) n (n+1) l1 l2:=by
 constructor<;>(show(_:Nat)≠_)<;>lia
def iZip(X:Cx)(ta:TA):TI:=λσ H R=>X.mg "zip"=none/\ta σ H λvs H1=>∃b1 b2 l1 l2 xs ys,vs=[.ref l1,.ref l2]/\SqB b1 X.K H1 l1 xs/\SqB b2 X.K H1 l2 ys/\R (Itz X.K b1 b2 l1 l2) H1
def zjm{a b:Expr}{elts:List Expr}{x1}{tp p pos:Pos}{ta:TA}(ha:PA X [a,b] ta)(hg:Gl X "zip":=by rfl)(hs:starEach [a,b] X.env=(false,eval a X.env)::starEach [b] X.env:=by rfl)(hpl:(backTo pos (starEach [b] X.env)).any (·.1)=false:=by rfl) :
  PI X (.Tuple elts x1 tp) (.Call (.Name "zip" p) [a,b] [] pos) (iZip X ta):=by
 intro p8 s σ H R I h;refine bQ (vQ I hg h.1 zjZ ?_);refine bH (vn (ha pos p8 s σ H _ I h.2) λus s1 vs H1 I1 r1 q1=>?_) hs hpl;let⟨b1,b2,l1,l2,xs,ys,rfl,q1,q2,hR⟩:=q1;let⟨u1,u2,rfl,rx,ry⟩:=ziD r1;cases rx;cases ry;let⟨its1,rv1,p1⟩:=I1.sqB q1;let⟨its2,rv2,p2⟩:=I1.sqB q2;let⟨o1,e1,_⟩:=SqB.there I1 q1;let⟨o2,e2,_⟩:=SqB.there I1 q2;have n1:=az e1;have n2:=az e2;refine zhc p1 p2 λh' hz hTI hTO h1 h2 hsz hk=>wpAny_pyIter_zip hz ?_;refine⟨s1.heap.objs.size+4,[s1.heap.objs.size+4,s1.heap.objs.size+2,s1.heap.objs.size+3,s1.heap.objs.size,s1.heap.objs.size+1],_,_,H1,rfl,I1.kept (t':=s1.toks) hk,
  zfP _ _ _ _ _ l1 l2 (zeA _ _ _ n1 n2),⟨hz,hTI,⟨_,_,hTO⟩,h1,h2⟩,λb hb=>?_,hR⟩
 have ge:s1.heap.objs.size<=b:=by
  simp only[au,bn,bR]at hb;rcases hb with rfl|rfl|rfl|rfl|rfl
  .exact c9 _ _
  .exact c9 _ _
  .exact c9 _ _
  .exact ar _
  .exact c9 _ _
 exact I1.fpOk ge (I1.hok.fresh ge)
section
variable{K:A0}{σ:St}{H:Hp}
def Vz{a:Addr}{xs:Ap}{DN:St->Hp->Prop}{B:(St->Hp->Prop)->V->St->Hp->Prop}(Pv:Nat->St->Hp->Prop)(h0:Pv 0 σ H)(hl:∀i σ H,i<=xs.length->Pv i σ H->SqL K H a xs)(hs:∀i x t σ H,xs[i]?=some x->H t=none->Pv i σ H->B (Pv (i+1)) (.ref t) σ (upd H t (.tup [.int i,x])))(hd:∀σ H,Pv xs.length σ H->DN σ H) :
  ∃W:Nat->Nat->St->Hp->Prop,(∃m,W 0 m σ H)/\∀i m σ H,W i m σ H ->
   ((Ite K a).stop i H/\DN σ H)\/((Ite K a).go i H/\∃N:St->Hp->Prop,(∀σ' H',N σ' H'->∃m',m'<m/\W (i+1) m' σ' H')/\∀x H',(Ite K a).yld i H x H'->B N x σ H'):=by
 refine⟨λi m σ H=>m=xs.length-i/\i<=xs.length/\Pv i σ H,⟨xs.length,by simp,cj _,h0⟩,?_⟩;rintro i m σ H ⟨rfl,hi,p⟩;have q:=hl i σ H hi p;by_cases hlt:i<xs.length
 .refine .inr ⟨⟨xs,xs[i],q,by simp[hlt]⟩,Pv (i+1),λσ' H' p'=>⟨xs.length-(i+1),by lia,rfl,hlt,p'⟩,λv H' y=>?_⟩;let⟨t,x,ht,rfl,hx,rfl⟩:=y;exact hs i x t σ _ (hx xs q) ht p
 .have e:i=xs.length:=by lia
  subst e;exact .inl ⟨⟨xs,q,ar _⟩,hd σ H p⟩
def zkC{b1 b2:Bool}{a1 a2:Addr}{xs ys:Ap}{DN:St->Hp->Prop}{B:(St->Hp->Prop)->V->St->Hp->Prop}(Pv:Nat->St->Hp->Prop)(h0:Pv 0 σ H)(hl:∀i σ H,i<=min xs.length ys.length->Pv i σ H->SqB b1 K H a1 xs/\SqB b2 K H a2 ys)(hs:∀i x y t σ H,xs[i]?=some x->ys[i]?=some y->H t=none->Pv i σ H->B (Pv (i+1)) (.ref t) σ (upd H t (.tup [x,y])))(hd:∀σ H,Pv (min xs.length ys.length) σ H->DN σ H) :
  ∃W:Nat->Nat->St->Hp->Prop,(∃m,W 0 m σ H)/\∀i m σ H,W i m σ H ->
   ((Itz K b1 b2 a1 a2).stop i H/\DN σ H)\/((Itz K b1 b2 a1 a2).go i H/\∃N:St->Hp->Prop,(∀σ' H',N σ' H'->∃m',m'<m/\W (i+1) m' σ' H')/\∀x H',(Itz K b1 b2 a1 a2).yld i H x H'->B N x σ H'):=by
 refine⟨λi m σ H=>m=min xs.length ys.length-i/\i<=min xs.length ys.length/\Pv i σ H,⟨min xs.length ys.length,by simp,cj _,h0⟩,?_⟩;rintro i m σ H ⟨rfl,hi,p⟩;let⟨q1,q2⟩:=hl i σ H hi p;by_cases hlt:i<min xs.length ys.length
 .have l1:i<xs.length:=by lia
  have l2:i<ys.length:=by lia
  refine .inr ⟨⟨xs,ys,xs[i],ys[i],q1,q2,by simp[l1],by simp[l2]⟩,Pv (i+1),λσ' H' p'=>⟨min xs.length ys.length-(i+1),by lia,rfl,hlt,p'⟩,λv H' y=>?_⟩;let⟨t,x,y,ht,rfl,hx,hy,rfl⟩:=y;exact hs i x y t σ _ (hx xs q1) (hy ys q2) ht p
 .have e:i=min xs.length ys.length:=by lia
  subst e;exact .inl ⟨⟨xs,ys,q1,q2,by lia⟩,hd σ H p⟩
end
section
variable{X:Cx}{N:A8}{scope:Scope}{s:An}{H:Hp}{fp:Ab}{p8:A2}
theorem cxC_K:(cxC X N scope s H fp p8).K=X.K:=rfl
theorem cxC_mg:(cxC X N scope s H fp p8).mg=X.mg:=rfl
theorem cxC_prog:(cxC X N scope s H fp p8).prog=X.prog:=rfl
theorem cxC_w:(cxC X N scope s H fp p8).w=X.w:=rfl
theorem cxC_base:(cxC X N scope s H fp p8).base=X.base:=rfl
end
structure BCal(P:Af)(w:World)(K:A0)(mg:A4)(base:Heap)(x m:Str)(k:Nat)(ps:A8)(dvs:Ap)(sp:Sp):Prop where
 ex:∃C f fd ds,mg x=some (.ref C)/\specialIn K (.ref C) "__getattribute__"=some (some (.builtin "type.__getattribute__"))/\readsIn K C (.type "type")=true /\
  findCls K (.ref C) (.type "type") m=some (.val (.ref f))/\handedIn (.ref f)=true/\FnOk P w K mg base (CXr P w) k f fd ps sp/\keepIn K (.ref f)=true/\Binds K fd ps ds/\Vals dvs ds
def BCal.mono{P:Af}{w:World}{K:A0}{mg:A4}{base:Heap}{x m:Str}{j k:Nat}{ps:A8}{dvs:Ap}{sp:Sp}(c:BCal P w K mg base x m j ps dvs sp)(h:j<=k:=by decide):BCal P w K mg base x m k ps dvs sp:=by
 let⟨C,f,fd,ds,a,b,c,d,e,g,r⟩:=c.ex;exact⟨C,f,fd,ds,a,b,c,d,e,g.mono h,r⟩
section
variable{X:Cx}{G:GK}{k:Nat}{x m:Str}{p pos apos:Pos}{e:Expr}{es:List Expr}{t:TA}
def tBase(X:Cx)(k:Nat)(x m:Str)(G:GK)(t:TA):TE:=λσ H Q=>∃ps dvs sp,BCal X.prog X.w X.K X.mg X.base x m k ps dvs sp/\t σ H λvs H1=>sp (vs++dvs) H1 Q (λcls _ H'=>G cls σ H')
def vY{pl:Sem Bool}(B:Bod X)(hr:Room k X.A)(ha:PA (X.exg G) (e::es) t)(hg:Gl X x:=by rfl)(hdb:(x == ("__debug__":Str))=false:=by decide)(hst:starEach (e::es) X.env=(false,eval e X.env)::starEach es X.env:=by rfl)(hpl:(backTo pos (starEach es X.env)).any (·.1)=false:=by rfl)(ht:eval (.Call (.Attribute (.Name x p) m apos) (e::es) [] pos) X.env=(do
   let ov <- eval (.Name x p) X.env
   standAt apos.atName
   let(f,first) <- holding [ov] (getMethod ov m pl)
   callWith pos f first (backTo pos (starEach (e::es) X.env)) (backToKw pos (keywordEach [] X.env))):=by rfl) :
  PE (X.exg G) (.Call (.Attribute (.Name x p) m apos) (e::es) [] pos) (tBase X k x m G t):=by
 intro p8 s σ H Q I h;let⟨ps,dvs,sp,⟨C,f,fd,ds,hm,hga,hrd,hfc,hhd,F,hk,hb,hd⟩,h⟩:=h;refine d9 (pl:=pl) (jc I hg hm ?_ hdb) ht;refine ia I.kIn hga (PySem.W.cls_value I.kIn hrd hfc hhd ?_);have I0:=I.tok (s.toks+1);refine eJ (first:=[]) (h₀:=X.base) I.ok.mod.kin hk (vn (ha pos p8 _ σ H _ I0 h) λus s1 vs H1 I1 r q=>⟨I1.kIn,?_⟩) hst hpl;exact JA B F hr hb hd I1 r q
end
structure FB(K:A0)(mg:A4)(x m qual:Str)(st:Stmt)(ps:A8):Prop where
 ex:∃C f fd,mg x=some (.ref C)/\specialIn K (.ref C) "__getattribute__"=some (some (.builtin "type.__getattribute__"))/\readsIn K C (.type "type")=true /\
  findCls K (.ref C) (.type "type") m=some (.val (.ref f))/\Fun K m qual st f fd/\keepIn K (.ref f)=true/\Binds K fd ps []
def FB.cal{P:Af}{w:World}{K:A0}{mg:A4}{base:Heap}{x m qual:Str}{st:Stmt}{ps:A8}{k:Nat}{sp:Sp}(h:FB K mg x m qual st ps)(ok:∀{f fd},Fun K m qual st f fd->FnOk P w K mg base (CXr P w) k f fd ps sp):BCal P w K mg base x m k ps [] sp:=by
 let⟨C,f,fd,a,b,c,d,F,kp,bi⟩:=h.ex;exact⟨C,f,fd,[],a,b,c,d,rfl,ok F,kp,bi,.nil⟩
def fb_mk{K:A0}{mg:A4}{C:Addr}{x m qual:Str}{st:Stmt}{ps:A8}{f:Addr}{oc:Am}{od an:Aa}{osl:Ae}{kV doc pm cdv ct:Am}(gl:mg x=some (.ref C))(ga:specialIn K (.ref C) "__getattribute__"=some (some (.builtin "type.__getattribute__")))(rd:readsIn K C (.type "type")=true)(fc:findCls K (.ref C) (.type "type") m=some (.val (.ref f)))(l:K.lookup f=some ⟨oc,od,.func (fnOf m qual (qo st) (qc st) (zi st) .none kV doc pm an cdv ct),osl⟩)(c:codeIn K cdv qual=true)(k:keepIn K (.ref f)=true)(hb:∀(kV doc pm:Am)(an:Aa)(cdv ct:Am)(us:A7),us.length=ps.length->bindArgs (fnOf m qual (qo st) (qc st) (zi st) .none kV doc pm an cdv ct) ⟨us,[]⟩=pure (ps.zip us)):FB K mg x m qual st ps :=
 ⟨C,f,_,gl,ga,rd,fc,xt l c k,k,(xt l c k).binds hb⟩
section
variable{X:Cx}{a b:Expr}{ta:TA}{p pos lp lpos:Pos}
noncomputable def rgL(lo:Int)(n:Nat):List V:=(List.range n).map λ(i:Nat)=>V.int (lo+(i:Int))
def zcy{lo:Int}{n:Nat}{pV:Ac}(h:ItemsOf (λi v=>∃t,v=.int (lo+i*1) t) pV n):Vals (rgL lo n) pV.toList:=by
 have key:∀(k:Nat)(l:A7)(m:Nat),l.length=m->(∀i v,l[i]?=some v->∃t,v=Value.int (lo+((k+i:Nat):Int)) t)->Vals ((List.range' k m).map λ(i:Nat)=>V.int (lo+(i:Int))) l:=by
  intro k l
  induction l generalizing k with
  |nil=>intro m hm _;simp at hm;subst hm;exact .nil
  |cons x r ih =>
   intro m hm hv;let⟨m,rfl⟩:∃m',m=m'+1:=⟨r.length,by simpa using hm.symm⟩;rw[List.range'_succ,bN];refine .cons ?_ (ih (k+1) m (by simpa using hm) λi v e=>?_)
   .obtain⟨t,e⟩:=hv 0 x rfl;exact⟨t,by simpa using e⟩
   .obtain⟨t,e'⟩:=hv (i+1) v (by simpa using e);exact⟨t,by rw[e'];congr 2;lia⟩
 have:=key 0 pV.toList n (by simpa using h.1) λi v e=>by
  let⟨t,e'⟩:=h.2 i v (by simpa using e);exact⟨t,by rw[e'];simp⟩
 rw[rgL,List.range_eq_range'];exact this
def tRg1(X:Cx)(ta:TA):TE:=λσ H Q=>X.mg "range"=none/\ta σ H λvs H1=>lq vs λv=>iq v λj=>∀p,H1 p=none->Q (.ref p) (upd H1 p (.rng 0 j))
def zjr(ha:PA X [a] ta)(hg:Gl X "range":=by rfl)(hs:starEach [a] X.env=[(false,eval a X.env)]:=by rfl):PE X (.Call (.Name "range" p) [a] [] pos) (tRg1 X ta):=by
 intro p8 s σ H Q I h;refine Call_ (vQ I hg h.1 boot_range (bH (vn (ha pos p8 s σ H _ I h.2) λus s1 vs H1 I1 r1 q1=>?_) hs rfl));let⟨j,e,q⟩:=zdh q1;subst e;cases r1 with
 |cons r rr =>
  cases rr;let⟨t,rfl⟩:=r;exact call_range_1 ⟨.ref _,_,I1.laid (o:=.rng 0 j) (λb o e=>ah _ e) (ar _) ⟨_,_,_,aF _ rfl⟩,rfl,q _ I1.fresh⟩
def zcT{lo:Int}{n:Nat}:(rgL lo n).length=n:=by simp[rgL]
def zhi(hc:X.calm=true):CallR X (.type "list") (λxs H Q=>∃p lo hi,xs=[.ref p]/\H p=some (.rng lo hi)/\(-(2^62)<=lo/\lo<2^62/\-(2^62)<=hi/\hi<2^62/\(hi-lo).toNat<=1000)/\∀l,H l=none->Q (.ref l) (upd H l (.lst (rgL lo (hi-lo).toNat)))):=by
 intro p8 s σ H xs us Q I r h;let⟨p,lo,hi,rfl,hq,⟨h1,h2,h3,h4,h5⟩,q⟩:=h;let⟨u,rfl,rx⟩:=vj r;cases rx;let⟨t,u,v,e⟩:=I.hok p _ hq;refine call_list_range (n:=(hi-lo).toNat) (I.ok.hd hc) e (small_one h1 h2 h3 h4) (by rw[rangeSize_one];split<;>lia) (by lia) λh' tk acc' c' hk hS hit=>?_;exact⟨.ref _,_,I.laid (o:=.lst (rgL lo (hi-lo).toNat)) (t':=tk) hk (ar _) ⟨by rw[zcT];exact b7 (zn h5),acc'.toList,c',zcy hit,by simpa using hS⟩,rfl,q _ I.fresh⟩
end
end L2
namespace L2
open PySem PySem.Spec PyProof.Rows
noncomputable def Itd(lo:Int)(n:Nat):It:=⟨λi _=>i<n,λi H x H'=>H'=H/\x=.int (lo-i),λi _=>n<=i⟩
def zeD{P:Af}{w:World}{K:A0}{tg:Expr}(it:Addr)(lo:Int)(n:Nat):Turn P w K tg (Itd lo n) [it] it (λi h=>IsRangeIter h it (lo+(i:Nat)*(-1)) ((n:Int)-(i:Nat)) (-1)) where
 mem:=by simp
 obj:=λi h st b hb=>by
  have e:b=it:=by simpa using hb
  subst e;exact⟨_,st,λv z=>by
   have z':Data.fields _=Data.cell v:=z;cases z'⟩
 keep:=λi h h' st k=>k it (by simp) _ st
 item:=by
  intro X hP hw hK hc i p8 s σ H E I hf st hg;subst hP hw hK;let⟨f0,f1,f2,f3,f4,f5⟩:=hf it (by simp);have W:=Walks.range (prog:=X.prog) (w:=X.w) (I.ok.hd hc) it lo (-1) n;refine W.item i s _ _ hg st λv h' tk hv st' kk=>?_;let⟨t,rfl⟩:=hv;have I1:Inv X p8 σ H {s with heap:=h',toks:=tk}:=I.turned (λb o hb e=>kk b o (by simpa using hb) e) f0 f1 f3 f4 f5;refine⟨_,rfl,zcb (s:={s with heap:=h',toks:=tk}) (n:="range_iterator") st' rfl rfl (by decide) ⟨.int (lo-i),H,I1,⟨t,?_⟩,⟨rfl,rfl⟩,st',λb hb=>(hf b hb).1⟩⟩
  congr 1;lia
 done:=by
  intro X hP hw hK hc i p8 s σ H E I hf st hg;subst hP hw hK;let⟨f0,f1,f2,f3,f4,f5⟩:=hf it (by simp);exact wpAny_pyNext_range_end (I.ok.hd hc) st (by have:n<=i:=hg;lia) λh' eb=>⟨rfl,I.turned (t':=s.toks) (λb o hb e=>eb b o hb e) f0 f1 f3 f4 f5⟩
 self:=λ_ _ _ _ _ st h=>wpAny_pyIter_rangeiter st h
def vG(a b:Int):Builtin.Range.rangeSize a b (-1)=((a-b).toNat:Int):=by
 unfold Builtin.Range.rangeSize;rw[am (by decide),show(- (-1:Int))=1 from rfl,Int.ediv_one]
 split<;>lia
def zcG{a b:Int}(ha:-(2^62)<=a)(ha':a<2^62)(hb:-(2^62)<=b)(hb':b<2^62):Builtin.Range.small a b (-1)=true:=by
 unfold Builtin.Range.small;rw[vG];simp only[Builtin.Range.rangeFitsLong,cg,Bool.or_eq_true,dG,bJ,show ¬((-1:Int)>0) by decide,cP]
 lia
section
variable{X:Cx}{tg:Expr}
def zii{p8:A2}{σ:St}{H:Hp}{s:An}{R:It->Hp->Prop}{E:A3}{lo hi:Int}{t u v:Tok}{tk:Nat}(I:Inv X p8 σ H s)(h1:-(2^62)<=lo)(h2:lo<2^62)(h3:-(2^62)<=hi)(h4:hi<2^62)(q:R (Itd lo (lo-hi).toNat) H):wpAny (model X.prog X.w) X.A (pyIter (.ref s.heap.objs.size)) (PIE X p8 σ tg R) E {s with heap:=s.heap.push {cls:=.type "range",data:=.fields #[.int lo t,.int hi u,.int (-1) v]},toks:=tk}:=by
 refine wpAny_pyIter_range (IsRange.new ..) (zcG h1 h2 h3 h4) ?_;have I1:Inv X p8 σ H {s with heap:=s.heap.push {cls:=.type "range",data:=.fields #[.int lo t,.int hi u,.int (-1) v]},toks:=tk}:=I.kept λb o e=>ah _ e;refine⟨(s.heap.push {cls:=.type "range",data:=.fields #[.int lo t,.int hi u,.int (-1) v]}).objs.size,[(s.heap.push {cls:=.type "range",data:=.fields #[.int lo t,.int hi u,.int (-1) v]}).objs.size],_,_,H,rfl,
  I1.kept (t':=tk) λb o e=>ah _ e,zeD _ lo (lo-hi).toNat,?_,λb hb=>?_,q⟩
 .have e1:lo+((0:Nat):Int)*(-1)=lo:=by simp
  have e2:(((lo-hi).toNat:Nat):Int)-((0:Nat):Int)=Builtin.Range.rangeSize lo hi (-1):=by rw[vG];lia
  show IsRangeIter _ _ (lo+((0:Nat):Int)*(-1)) ((((lo-hi).toNat:Nat):Int)-((0:Nat):Int)) (-1)
  rw[e1,e2];exact aF _ rfl
 .have e:b=(s.heap.push {cls:=.type "range",data:=.fields #[.int lo t,.int hi u,.int (-1) v]}).objs.size:=by simpa using hb
  subst e;exact I1.fpOk (ar _) (I1.hok.fresh (ar _))
def iRng3(X:Cx)(ta:TA):TI:=λσ H R=>X.mg "range"=none/\ta σ H λvs H1=>∃i j:Int,vs=[.int i,.int j,.int (-1)]/\(-1000<=i/\i<1000/\-1000<=j/\j<1000)/\R (Itd i (i-j).toNat) H1
theorem zjo{a b c:Expr}{ta:TA}{p pos:Pos}(ha:PA X [a,b,c] ta)(hg:Gl X "range":=by rfl)(hs:starEach [a,b,c] X.env=[(false,eval a X.env),(false,eval b X.env),(false,eval c X.env)]:=by rfl)(hs2:starEach [b,c] X.env=[(false,eval b X.env),(false,eval c X.env)]:=by rfl) :
  PI X tg (.Call (.Name "range" p) [a,b,c] [] pos) (iRng3 X ta):=by
 intro p8 s σ H R I h;refine Call_ (vQ I hg h.1 boot_range (bH (vn (ha pos p8 s σ H _ I h.2) λus s1 vs H1 I1 r1 q1=>?_) (by rw[hs,hs2]) (by rw[hs2];rfl)));let⟨i,j,e,⟨q1,q2,q3,q4⟩,q⟩:=q1;subst e;cases r1 with
 |cons r rr =>
  cases rr with
  |cons r' rr =>
   cases rr with
   |cons r'' rr =>
    cases rr;let⟨t,rfl⟩:=r;let⟨t',rfl⟩:=r';let⟨t'',rfl⟩:=r'';exact call_range_3 (by decide) (zii I1 (by lia) (by lia) (by lia) (by lia) q) (Or.inl (gd (by lia)))
def zkE{K:A0}{σ:St}{H:Hp}{lo:Int}{n:Nat}{DN:St->Hp->Prop}{B:(St->Hp->Prop)->V->St->Hp->Prop}(Pv:Nat->St->Hp->Prop)(h0:Pv 0 σ H)(hs:∀i σ H,i<n->Pv i σ H->B (Pv (i+1)) (.int (lo-i)) σ H)(hd:∀σ H,Pv n σ H->DN σ H) :
  ∃W:Nat->Nat->St->Hp->Prop,(∃m,W 0 m σ H)/\∀i m σ H,W i m σ H ->
   ((Itd lo n).stop i H/\DN σ H)\/((Itd lo n).go i H/\∃N:St->Hp->Prop,(∀σ' H',N σ' H'->∃m',m'<m/\W (i+1) m' σ' H')/\∀x H',(Itd lo n).yld i H x H'->B N x σ H'):=by
 refine⟨λi m σ H=>m=n-i/\i<=n/\Pv i σ H,⟨n,by simp,cj _,h0⟩,?_⟩;rintro i m σ H ⟨rfl,hi,p⟩;by_cases hlt:i<n
 .refine .inr ⟨hlt,Pv (i+1),λσ' H' p'=>⟨n-(i+1),by lia,rfl,hlt,p'⟩,λx H' y=>?_⟩;let⟨e,y⟩:=y;subst e y;exact hs i σ _ hlt p
 .have e:i=n:=by lia
  subst e;exact .inl ⟨ar _,hd σ H p⟩
end
section
variable{X:Cx}{tg:Expr}
def Its(x:Str):It:=⟨λi _=>i<x.cps.size,λi H v H'=>H'=H/\∃c,x.cps[i]?=some c/\v=.str ⟨#[c]⟩,λi _=>i=x.cps.size⟩
def zfQ{P:Af}{w:World}{K:A0}{tg:Expr}(it:Addr)(x:Str)(t:Tok)(nm:String)(hn:nm="str_ascii_iterator"\/nm="str_iterator")(W:∀A:Around,A.handled=none->Walks P w A it [it] [it] x.cps.size (SignAt x) (λi h=>h.IsStrIter it nm x t i))(hself:∀(A:Ao)(i:Nat)(s:An)(Q:A3)(E:A3),s.heap.IsStrIter it nm x t i->Q (.ref it) s->wpAny (model P w) A (pyIter (.ref it)) Q E s):Turn P w K tg (Its x) [it] it (λi h=>h.IsStrIter it nm x t i) where
 mem:=by simp
 obj:=λi h st b hb=>by
  have e:b=it:=by simpa using hb
  subst e;let⟨o,e,c,d⟩:=st;exact⟨o,e,λv z=>by rw[d]at z;cases z⟩
 keep:=λi h h' st k=>let⟨o,e,r⟩:=st;⟨o,k it (by simp) o e,r⟩
 item:=by
  intro X hP hw hK hc i p8 s σ H E I hf st hg;subst hP hw hK;let⟨f0,f1,f2,f3,f4,f5⟩:=hf it (by simp);refine(W X.A (I.ok.hd hc)).item i s _ _ hg st λv h' tk hv st' kk=>?_;let⟨c,u,hcx,rfl⟩:=hv;have I1:Inv X p8 σ H {s with heap:=h',toks:=tk}:=I.turned (λb o hb e=>kk b o (by simpa using hb) e) f0 f1 f3 f4 f5;let⟨o,e,c1,d⟩:=id st';refine⟨_,rfl,zcb (s:={s with heap:=h',toks:=tk}) e c1 d (by rcases hn with rfl|rfl<;>decide) ⟨.str ⟨#[c]⟩,H,I1,⟨_,rfl⟩,⟨rfl,c,hcx,rfl⟩,st',λb hb=>(hf b hb).1⟩⟩
 done:=by
  intro X hP hw hK hc i p8 s σ H E I hf st hg;subst hP hw hK;have hg:i=x.cps.size:=hg;subst hg;let⟨f0,f1,f2,f3,f4,f5⟩:=hf it (by simp);exact(W X.A (I.ok.hd hc)).done s _ _ st λh' tk kk=>⟨rfl,I.turned (λb o hb e=>kk b o (by simpa using hb) e) f0 f1 f3 f4 f5⟩
 self:=hself
def iStr(tl:TE):TI:=λσ H R=>tl σ H λv H1=>∃x,v=.str x/\R (Its x) H1
def zjn{l:Expr}{tl:TE}(hl:PE X l tl):PI X tg l (iStr tl):=by
 intro p8 s σ H R I h;refine qJ (hl p8 s σ H _ I h) λv s1 y H1 I1 r1 q1=>?_;let⟨x,e,q⟩:=q1;subst e;let⟨t,rfl⟩:=r1;have fin:∀nm,nm="str_ascii_iterator"\/nm="str_iterator"->(∀A:Around,A.handled=none->Walks X.prog X.w A s1.heap.objs.size [s1.heap.objs.size] [s1.heap.objs.size] x.cps.size (SignAt x) (λi h=>h.IsStrIter s1.heap.objs.size nm x t i)) ->
   (∀(A:Ao)(i:Nat)(s:An)(Q:A3)(E:A3),s.heap.IsStrIter s1.heap.objs.size nm x t i->Q (.ref s1.heap.objs.size) s->wpAny (model X.prog X.w) A (pyIter (.ref s1.heap.objs.size)) Q E s) ->
   PIE X p8 σ tg R (.ref s1.heap.objs.size) {s1 with heap:=s1.heap.push {cls:=.type nm,data:=.fields #[.str x t,.int 0 0]} }:=by
  intro nm hn W hs;refine⟨s1.heap.objs.size,[s1.heap.objs.size],_,_,H1,rfl,I1.kept (t':=s1.toks) λb o e=>ah _ e,zfQ _ x t nm hn W hs,⟨_,aF _ rfl,rfl,rfl⟩,λb hb=>?_,q⟩;have e:b=s1.heap.objs.size:=by simpa using hb
  subst e;exact I1.fpOk (ar _) (I1.hok.fresh (ar _))
 cases ha:x.cps.all (· < 128)
 .exact wpAny_pyIter_wide ha (fin _ (.inr rfl) (λA hA=>Walks.strWide hA _ x t) λ_ _ _ _ _ st h=>wpAny_pyIter_striter_wide st h)
 .exact wpAny_pyIter_ascii ha (fin _ (.inl rfl) (λA hA=>Walks.strAscii hA _ x t) λ_ _ _ _ _ st h=>wpAny_pyIter_striter_ascii st h)
def zkD{σ:St}{H:Hp}{x:Str}{DN:St->Hp->Prop}{B:(St->Hp->Prop)->V->St->Hp->Prop}(Pv:Nat->St->Hp->Prop)(h0:Pv 0 σ H)(hs:∀i c σ H,x.cps[i]?=some c->Pv i σ H->B (Pv (i+1)) (.str ⟨#[c]⟩) σ H)(hd:∀σ H,Pv x.cps.size σ H->DN σ H) :
  ∃W:Nat->Nat->St->Hp->Prop,(∃m,W 0 m σ H)/\∀i m σ H,W i m σ H ->
   ((Its x).stop i H/\DN σ H)\/((Its x).go i H/\∃N:St->Hp->Prop,(∀σ' H',N σ' H'->∃m',m'<m/\W (i+1) m' σ' H')/\∀v H',(Its x).yld i H v H'->B N v σ H'):=by
 refine⟨λi m σ H=>m=x.cps.size-i/\i<=x.cps.size/\Pv i σ H,⟨x.cps.size,by simp,cj _,h0⟩,?_⟩;rintro i m σ H ⟨rfl,hi,p⟩;by_cases hlt:i<x.cps.size
 .refine .inr ⟨hlt,Pv (i+1),λσ' H' p'=>⟨x.cps.size-(i+1),by lia,rfl,hlt,p'⟩,λv H' y=>?_⟩;let⟨e,c,hc,y⟩:=y;subst e y;exact hs i c σ _ hc p
 .have e:i=x.cps.size:=by lia
  subst e;exact .inl ⟨rfl,hd σ H p⟩
def zjy:OpR X (compareOp .In) (λx y H Q=>∃i j,x=.str i/\y=.str j/\Q (.bl (!(Builtin.Str.occurrences j i 0 j.length 1).isEmpty)) H):=ze7
def ziq:CallR X (.type "int") (λxs H Q=>∃x n,xs=[.str x]/\PySem.intText? x=some n/\x.length<=640/\Q (.int n) H):=by
 intro p8 s σ H xs us Q I r h;let⟨x,n,rfl,hn,hl,q⟩:=h;let⟨u,rfl,rx⟩:=vj r;let⟨t,rfl⟩:=rx;exact PySem.W.KIN.call_text hn hl ⟨.int n,H,I.tok _,⟨_,rfl⟩,q⟩
def zj3(hc:X.calm=true):CallR X (.builtin "all") (λxs H Q=>∃p,∃bs:List Bool,xs=[.ref p]/\H p=some (.lst (bs.map V.bl))/\Q (.bl (bs.all id)) H):=by
 intro p8 s σ H xs us Q I r h;let⟨p,bs,rfl,hp,q⟩:=h;let⟨u,rfl,rx⟩:=vj r;cases rx;let⟨pS,rv,hl,hz⟩:=I.list (SqL.of (K:=X.K) hp);have hl':=hl.isList;have hlt:p<s.heap.objs.size:=by let⟨_,e,_⟩:=hl';exact az e
 have hlen:pS.length=bs.length:=by have:=rv.length;rw[af]at this;exact this.symm
 refine call_all_walk (dU hl' ?_);refine⟨s.heap.objs.size,[s.heap.objs.size,p],[s.heap.objs.size],pS.toArray.size,_,_,λi=>(bs[i]?).getD true,rfl,Walks.list (A:=X.A.in1) (I.ok.hd hc) _ p (aN hlt) pS.toArray,
  ⟨⟨_,aF _ rfl,rfl,rfl⟩,hl'.push _⟩,λi v s' Q' E' hP hQ=>?_,λh' tk hk=>?_⟩
 .have hP:pS[i]?=some v:=by simpa using hP
  have hib:i<bs.length:=by rw[<- hlen];exact(aa.mp hP).1
  let⟨u,hu,ru⟩:=rv.get (i:=i) (x:=.bl bs[i]) (by rw[ap,ac hib];rfl);rw[hu]at hP;cases hP;cases ru;have e:(bs[i]?).getD true=bs[i]:=by rw[ac hib];rfl
  simp only[e]at hQ;exact bL hQ
 .have e:((List.range pS.toArray.size).all λi=>(bs[i]?).getD true)=bs.all id:=by
   rw[ax,hlen];cases hb:bs.all id with
   |true =>
    rw[bU]at hb ⊢;intro i hi;have hi:=br.mp hi;rw[ac hi];exact hb _ (cc hi)
   |false =>
    rw[List.all_eq_false]at hb ⊢;let⟨b,hbm,hbf⟩:=hb;let⟨i,hi,rfl⟩:=eP hbm;exact⟨i,br.mpr hi,by rw[ac hi];exact hbf⟩
  rw[e];refine⟨.bl (bs.all id),H,I.kept (t':=tk) (λb o eb=>hk b o (λhm=>?_) (ah _ eb)),rfl,q⟩;rw[ak.mp hm]at eb;exact cn _ (az eb)
end
def vS(c:Nat):Bool:=decide (48<=c)&&decide (c<=57)
def X7:(("0123456789":Str)).length=10:=by decide+kernel
def zh4(c:Nat):Builtin.Str.occurrences ("0123456789":Str) ⟨#[c]⟩ 0 10 1=if vS c=true then [c-48]else []:=by
 by_cases h:vS c=true
 .rw[aq h];have h1:48<=c/\c<=57:=by simpa[vS]using h
  have h2:c=48\/c=49\/c=50\/c=51\/c=52\/c=53\/c=54\/c=55\/c=56\/c=57:=by lia
  rcases h2 with rfl|rfl|rfl|rfl|rfl|rfl|rfl|rfl|rfl|rfl<;>decide+kernel
 .rw[am h];have h1:¬(48<=c/\c<=57):=by simpa[vS]using h
  have:=PySem.W.occ_nil_of_no (x:=("0123456789":Str)) (y:=⟨#[c]⟩) 1 (λi hi=>?_)
  .rw[X7]at this;exact this
  .have hi:i+1<=10:=by rw[X7]at hi;exact hi
   have h3:i=0\/i=1\/i=2\/i=3\/i=4\/i=5\/i=6\/i=7\/i=8\/i=9:=by lia
   have key:∀d:Nat,48<=d/\d<=57->((#[d]:Array Nat) == #[c])=false:=λd hd=>by
    rw[a9];intro z;have:d=c:=by simpa using z
    lia
   rcases h3 with rfl|rfl|rfl|rfl|rfl|rfl|rfl|rfl|rfl|rfl<;>exact key _ (by decide)
end L2
namespace L2
open PySem PySem.Spec PySem.Calls PyProof.Rows
variable{st:Stmt}
theorem ZQ:∀{us:A7}{ns:A6},IntsAre us ns->Vals (ns.map V.int) us
 |_,_,.nil=>.nil
 |_,_,.cons n t h=>.cons ⟨t,rfl⟩ (ZQ h)
section
variable{X:Cx}
def zfE:CallR X (.builtin "sorted") (λxs H Q=>∃p,∃ns:List Int,xs=[.ref p]/\SqL X.K H p (ns.map V.int)/\ns.length<64 /\
  ∀(ms:A6) l,ms.Perm ns->ms.Pairwise (·<=·)->H l=none->Q (.ref l) (upd H l (.lst (ms.map V.int)))):=by
 intro p8 s σ H xs us Q I r h;let⟨p,ns,rfl,hp,h64,q⟩:=h;let⟨u,rfl,rx⟩:=vj r;cases rx;let⟨pS,rv,hl,hz⟩:=I.list hp;have hlen:pS.length=ns.length:=by have:=rv.length;rw[af]at this;exact this.symm
 refine sorted_ints hl.isList (zdo rv) (by lia) λout ms a1 a2 a3=>?_;let⟨e,he⟩:=sortedAll_at s.heap pS out;exact⟨.ref _,_,I.laid (a:=s.heap.objs.size+1) (o:=.lst (ms.map V.int)) (t':=s.toks) (λb o h=>sortedAll_old h) (dj _) ⟨by rw[af,a2.length_eq];exact b7 (zn (by lia)),out.toList,e,ZQ a1,by simpa using he⟩,rfl,q ms _ a2 a3 (I.hok.fresh (dj _))⟩
end
structure FunD(K:A0)(x qual:Str)(st:Stmt)(f:Addr)(fd:FuncData):Prop where
 ex:∃(oc:Am)(od:Aa)(dV kV doc pm:Am)(an:Aa)(cdv ct:Am)(osl:Ae),
  fd=fnOf x qual (qo st) (qc st) (zi st) dV kV doc pm an cdv ct/\K.lookup f=some ⟨oc,od,.func fd,osl⟩/\codeIn K cdv qual=true
 kp:keepIn K (.ref f)=true
section
variable{P:Af}{w:World}{K:A0}{mg:A4}{base:Heap}
def FunD.okx{x qual:Str}{f:Addr}{fd:FuncData}{N ps:A8}{k:Nat}{sp:Sp}(F:FunD K x qual st f fd)(S:FnScope N ps (zi st))(len:∀vs H Q E,sp vs H Q E->vs.length=ps.length)(hbody:∀(cdv:Am)(A:Ao)(outer:List Env)(s:An)(H:Hp)(vs:Ap)(Q:VK)(E:XK),Room k (A.deeper (envOfC qual (zi st) s.heap.objs.size f cdv))->sp vs H Q E ->
   ∃t,PSs ((cxR P w K mg base N qual (zi st) f cdv A outer s H E).exg λcls _ H'=>E cls none H') (qc st) t/\t {nx:=λ_ H'=>Q .non H',rt:=Q} (start N vs) H):FnOk P w K mg base (CXr P w) (k+1) f fd ps sp:=by
 let⟨oc,od,dV,kV,doc,pm,an,cdv,ct,osl,rfl,lk,hcd⟩:=F.ex;refine zg3 lk hcd S len λA outer s H vs Q E hr hsp=>?_;let⟨t,h,q⟩:=hbody cdv A outer s H vs Q E hr hsp;refine⟨t,λp8 s σ H' D I hw=>?_,q⟩;refine aI (h p8 s σ H' D (I.wish _) hw) (λ_ _ z=>z.unwish) λe s' z=>?_;refine ae (aI (show wpAny _ _ _ _ _ _ from z) (λ_ s1 y1=>aI y1 (λ_ s'' y=>?_) λ_ _ y=>y.elim) λ_ _ y=>y.elim);let⟨a,cls,σ2,H2,rfl,J,xx,g⟩:=y;exact⟨a,cls,H2,rfl,J.os,J.bare,J.base,J.hok,xx.less (λp hp=>absurd hp (by simp)),g⟩
structure FD(K:A0)(mg:A4)(x:Str)(st:Stmt)(ps:A8)(dvs:Ap):Prop where
 ex:∃f fd ds,FunD K x x st f fd/\mg x=some (.ref f)/\Binds K fd ps []/\Binds K fd ps ds/\Vals dvs ds
def FD.cal{x:Str}{ps:A8}{dvs:Ap}{k:Nat}{sp:Sp}(h:FD K mg x st ps dvs)(ok:∀{f fd},FunD K x x st f fd->FnOk P w K mg base (CXr P w) k f fd ps sp) :
  Cal P w K mg base x k ps [] sp:=by
 let⟨f,fd,_,F,m,b,_⟩:=h.ex;exact⟨f,fd,[],ok F,m,F.kp,b,.nil⟩
def FD.cald{x:Str}{ps:A8}{dvs:Ap}{k:Nat}{sp:Sp}(h:FD K mg x st ps dvs)(ok:∀{f fd},FunD K x x st f fd->FnOk P w K mg base (CXr P w) k f fd ps sp) :
  Cal P w K mg base x k ps dvs sp:=by
 let⟨f,fd,ds,F,m,_,b,v⟩:=h.ex;exact⟨f,fd,ds,ok F,m,F.kp,b,v⟩
def zkF{h:Heap}{x:Str}{ps:A8}{dvs:Ap}{f dT:Addr}{oc toc:Am}{od an tod:Aa}{osl tsl:Ae}{items:Ac}{tn:Nat}{kV doc pm cdv ct:Am}(X:K.In h)(G:h.Ns mainGlobals mg)(a:nsIn K mainGlobals x=some (some (.ref f)))(l:K.lookup f=some ⟨oc,od,.func (fnOf x x (qo st) (qc st) (zi st) (.ref dT) kV doc pm an cdv ct),osl⟩)(c:codeIn K cdv x=true)(k:keepIn K (.ref f)=true)(lt:K.lookup dT=some ⟨toc,tod,.seq items tn,tsl⟩)(hv:Vals dvs items.toList)(hb:∀(s:An)(us:A7),K.In s.heap->us.length=ps.length->BindsTo s (fnOf x x (qo st) (qc st) (zi st) (.ref dT) kV doc pm an cdv ct) ⟨us,[]⟩ (ps.zip us))(hd:∀(s:An)(us:A7),K.In s.heap->(us++items.toList).length=ps.length->BindsTo s (fnOf x x (qo st) (qc st) (zi st) (.ref dT) kV doc pm an cdv ct) ⟨us,[]⟩ (ps.zip (us++items.toList))):FD K mg x st ps dvs :=
 ⟨f,_,items.toList,⟨⟨oc,od,.ref dT,kV,doc,pm,an,cdv,ct,osl,rfl,l,c⟩,k⟩,mg_of X G a,(λs us hK hl=>by rw[bB]at hl ⊢;exact hb s us hK hl),hd,hv⟩
end
section
variable{prog:Af}{w:World}{A:Ao}{E:A3}{s:An}{R:Result->Shared->Prop}
end
section
variable{X:Cx}{a:Expr}{ta:TA}{p p2 pos pos2:Pos}
end
section
variable{X:Cx}
def zgj:V->List V->Hp->VK->Prop:=λx vs H Q=>∃l y xs,∃j:Nat,x=.ref l/\vs=[y]/\H l=some (.lst xs)/\xs.length<1000/\jo y=true/\xs.all jo=true/\(∃z,xs[j]?=some z/\eqV z y=true)/\(∀m z,m<j->xs[m]?=some z->eqV z y=false)/\Q (.int j) H
def zbS:MtM X "list.index" zgj:=by
 intro p8 s σ H x vs v us Q I rx rv h;let⟨l,y,xs,j,rfl,rfl,hH,hz,fy,fs,⟨z0,hj,hjy⟩,hno,q⟩:=h;cases rx;let⟨z,pS,n,r,hl,e⟩:=I.lstM hH;let⟨u,rfl,ru⟩:=rv.one;have hjl:j<xs.length:=(aa.mp hj).1;have at':∀m (hm:m<pS.toArray.size) zz,xs[m]?=some zz->eqU y pS.toArray[m]=eqV zz y:=λm hm zz hzz=>by
  let⟨w',hw',rw'⟩:=r.get hzz;have e1:pS.toArray[m]=w':=by
   have:=(aa.mp hw').2;simpa using this
  rw[e1];exact zdy rw' (bU.mp fs zz (ai hzz))
 refine cV dL ⟨_,e,rfl⟩ PySem.F.entry_list_index (PySem.F.args_list_index_2 _ _)
  (SeqAt.list_indexAt l pS.toArray n none #[] u (eqU y) j (by rw[ax];lia) (by lia) ?_ ?_) ⟨e,λw hw=>wj ru fy r fs w (by simpa using hw),?_⟩
 .rw[at' j _ z0 hj];exact hjy
 .intro m hm hlt;have hml:m<xs.length:=by lia
  rw[at' m hm _ (ac hml)];exact hno m _ hlt (ac hml)
 .exact⟨.int j,H,I.tok _,⟨_,rfl⟩,q⟩
end
end L2
namespace L2
open PySem PySem.Spec PyProof.Rows
variable{H:Hp}{v:V}{pW:As}{b l:Addr}{i:Nat}
inductive D where
 |non|bl (b:Bool)|int (i:Int)|str (x:Str)|lst (xs:List D)|tup (xs:List D)|ob (C:Addr) (fs:List (Str×D))
inductive Rep(H:Hp)(p:A5):V->D->Prop where
 |non:Rep H p .non .non
 |bl {b:Bool}:Rep H p (.bl b) (.bl b)
 |int {i:Int}:Rep H p (.int i) (.int i)
 |str {x:Str}:Rep H p (.str x) (.str x)
 |lst {l:Addr} {vs:Ap} {ds:List D}:p l->H l=some (.lst vs)->vs.length=ds.length->(∀(i:Nat) v d,vs[i]?=some v->ds[i]?=some d->Rep H p v d)->Rep H p (.ref l) (.lst ds)
 |tup {l:Addr} {vs:Ap} {ds:List D}:p l->H l=some (.tup vs)->vs.length=ds.length->(∀(i:Nat) v d,vs[i]?=some v->ds[i]?=some d->Rep H p v d)->Rep H p (.ref l) (.tup ds)
 |ob {l C dx:Addr} {fs:Ar} {ds:List (Str×D)}:p l->H l=some (.ins C dx fs)->fs.map (·.1)=ds.map (·.1)->(∀(i:Nat) f g,fs[i]?=some f->ds[i]?=some g->Rep H p f.2 g.2)->Rep H p (.ref l) (.ob C ds)
def Rep.keep{H H':Hp}{p q:A5}(s:∀b o,p b->H b=some o->q b/\H' b=some o){d:D}(h:Rep H p v d):Rep H' q v d:=by
 induction h with
 |non=>exact .non
 |bl=>exact .bl
 |int=>exact .int
 |str=>exact .str
 |lst pl hl e _ ih=>exact .lst (s _ _ pl hl).1 (s _ _ pl hl).2 e ih
 |tup pl hl e _ ih=>exact .tup (s _ _ pl hl).1 (s _ _ pl hl).2 e ih
 |ob pl hl e _ ih=>exact .ob (s _ _ pl hl).1 (s _ _ pl hl).2 e ih
structure Reps(H:Hp)(p:A5)(vs:Ap)(ds:List D):Prop where
 len:vs.length=ds.length
 g:∀(i:Nat) v d,vs[i]?=some v->ds[i]?=some d->Rep H p v d
section
variable{H H':Hp}{p q:A5}{vs us:Ap}{ds es:List D}{v:V}{d:D}
def Reps.keep(s:∀b o,p b->H b=some o->q b/\H' b=some o)(h:Reps H p vs ds):Reps H' q vs ds:=⟨h.len,λi v d a b=>(h.g i v d a b).keep s⟩
def Reps.nil:Reps H p [] []:=⟨rfl,λi v d h=>by simp at h⟩
theorem Reps.cons(h:Rep H p v d)(k:Reps H p vs ds):Reps H p (v::vs) (d::ds):=⟨by simp[k.len],λi u e a b=>by
 cases i with
 |zero =>
  have a:v=u:=by simpa using a
  have b:d=e:=by simpa using b
  rw[<- a,<- b];exact h
 |succ i=>exact k.g i u e (by simpa using a) (by simpa using b)⟩
def Reps.one(h:Rep H p v d):Reps H p [v] [d]:=.cons h .nil
def Reps.append(h:Reps H p vs ds)(k:Reps H p us es):Reps H p (vs++us) (ds++es):=by
 refine⟨by rw[aD,aD,h.len,k.len],λi v r e1 e2=>?_⟩;by_cases hi:i<vs.length
 .rw[ba hi]at e1;rw[ba (by rw[<- h.len];exact hi)]at e2;exact h.g i v r e1 e2
 .rw[aY (by lia)]at e1;rw[aY (by rw[<- h.len];lia),<- h.len]at e2;exact k.g _ v r e1 e2
def Reps.at(h:Reps H p vs ds)(e:vs[i]?=some v):∃d,ds[i]?=some d/\Rep H p v d:=by
 have hi:=(aa.mp e).1;have e2:ds[i]?=some (ds[i]'(by rw[<- h.len];exact hi)):=ac _;exact⟨_,e2,h.g i v _ e e2⟩
def Reps.of(h:Reps H p vs ds)(e:ds[i]?=some d):∃v,vs[i]?=some v/\Rep H p v d:=by
 have hi:=(aa.mp e).1;have e2:vs[i]?=some (vs[i]'(by rw[h.len];exact hi)):=ac _;exact⟨_,e2,h.g i _ d e2 e⟩
def Reps.take(h:Reps H p vs ds)(n:Nat):Reps H p (vs.take n) (ds.take n):=⟨by rw[aS,aS,h.len],λi v d a b=>by
 rw[List.getElem?_take]at a b;by_cases hn:i<n
 .rw[aq hn]at a b;exact h.g i v d a b
 .rw[am hn]at a;cases a⟩
def Reps.drop(h:Reps H p vs ds)(n:Nat):Reps H p (vs.drop n) (ds.drop n):=⟨by rw[cU,cU,h.len],λi v d a b=>by
 rw[List.getElem?_drop]at a b;exact h.g _ v d a b⟩
def Reps.mk'(h:Reps H p vs ds)(pl:p l)(e:H l=some (.lst vs)):Rep H p (.ref l) (.lst ds):=.lst pl e h.len h.g
def Reps.mkT(h:Reps H p vs ds)(pl:p l)(e:H l=some (.tup vs)):Rep H p (.ref l) (.tup ds):=.tup pl e h.len h.g
def Rep.lst'(h:Rep H p v (.lst ds)):∃l us,v=.ref l/\p l/\H l=some (.lst us)/\Reps H p us ds:=by
 cases h with|lst a b c e=>exact⟨_,_,rfl,a,b,c,e⟩
def Rep.tup'(h:Rep H p v (.tup ds)):∃l us,v=.ref l/\p l/\H l=some (.tup us)/\Reps H p us ds:=by
 cases h with|tup a b c e=>exact⟨_,_,rfl,a,b,c,e⟩
theorem ZH{f:Str}:∀{fs:Ar}{gs:List (Str×D)},fs.map (·.1)=gs.map (·.1)->(∀(i:Nat) x y,fs[i]?=some x->gs[i]?=some y->Rep H p x.2 y.2) ->
  (∀d,gs.lookup f=some d->∃u,fs.lookup f=some u/\Rep H p u d)/\(gs.lookup f=none->fs.lookup f=none)
 |[],[],_,_=>⟨λd h=>by simp at h,λ_=>rfl⟩
 |[],_::_,e,_=>by simp at e
 |_::_,[],e,_=>by simp at e
 |(a,u)::fs,(b,c)::gs,e,r=>by
  have e1:a=b:=by simpa using(de e).1
  subst e1;have ih:=ZH (f:=f) (fs:=fs) (gs:=gs) (de e).2 λi x y hx hy=>r (i+1) x y (by simpa using hx) (by simpa using hy);by_cases hf:f=a
  .have hb:(f == a)=true:=bJ.mpr hf;refine⟨λd h=>?_,λh=>?_⟩
   .simp only[List.lookup,hb]at h ⊢;cases h;exact⟨_,rfl,r 0 (a,u) (a,c) rfl rfl⟩
   .simp only[List.lookup,hb]at h;cases h
  .have hb:(f == a)=false:=a9.mpr hf;simp only[List.lookup,hb];exact ih
def Rep.ob'{C:Addr}{gs:List (Str×D)}(h:Rep H p v (.ob C gs)):∃l dx fs,v=.ref l/\p l/\H l=some (.ins C dx fs)/\(∀f d,gs.lookup f=some d->∃u,fs.lookup f=some u/\Rep H p u d)/\(∀f,gs.lookup f=none->fs.lookup f=none):=by
 cases h with|ob a b c e=>exact⟨_,_,_,rfl,a,b,λf=>(ZH c e).1,λf=>(ZH c e).2⟩
noncomputable abbrev D.ints(ns:A6):D:=.lst (ns.map D.int)
theorem reps_ints:∀{ns:A6},Reps H p (ns.map V.int) (ns.map D.int)
 |[]=>.nil
 |_::_=>.cons .int reps_ints
theorem JE:∀{ns:A6}{vs:Ap},Reps H p vs (ns.map D.int)->vs=ns.map V.int
 |[],[],_=>rfl
 |[],_::_,h=>by have:=h.len;simp at this
 |_::_,[],h=>by have:=h.len;simp at this
 |n::ns,v::vs,h=>by
  have h1:=h.g 0 v (.int n) rfl rfl;have h2:Reps H p vs (ns.map D.int):=⟨by have:=h.len;simpa using this,λi u d a b=>h.g (i+1) u d (by simpa using a) (by simpa using b)⟩;cases h1;rw[bN,JE h2]
def Rep.ints'{ns:A6}(h:Rep H p v (.ints ns)):∃l,v=.ref l/\p l/\H l=some (.lst (ns.map V.int)):=by
 let⟨l,us,e,a,b,c⟩:=h.lst';rw[JE c]at b;exact⟨l,e,a,b⟩
def qx{ns:A6}(pl:p l)(e:H l=some (.lst (ns.map V.int))):Rep H p (.ref l) (.ints ns):=reps_ints.mk' pl e
end
def Off(ms:Ab):Addr->Prop:=λb=>b∉ms
def Fr(ms:Ab)(H H':Hp):Prop:=∀b o,b∉ms->H b=some o->H' b=some o
section
variable{H H' H2:Hp}{ms ns:Ab}{x:Addr}{o:HO}{v:V}{d:D}{vs:Ap}{ds:List D}
def Fr.refl:Fr ms H H:=λ_ _ _ h=>h
def Fr.trans(a:Fr ms H H')(b:Fr ms H' H2):Fr ms H H2:=λc o n h=>b c o n (a c o n h)
def Fr.more(a:Fr ms H H')(s:∀b,b∈ms->b∈ns):Fr ns H H':=λb o n h=>a b o (λz=>n (s b z)) h
def Same.fr(a:Same H H'):Fr ms H H':=λb o _ h=>a b o h
def qW(h:x∈ms):Fr ms H (upd H x o):=λb u n hb=>by
 rw[rj (λz=>n (by rw[z];exact h))];exact hb
def zdu(h:H x=none):Fr ms H (upd H x o):=(same_upd' h).fr where
 same_upd' {H:Hp} {x:Addr} {o:HO} (h:H x=none):Same H (upd H x o):=λb u hb=>by rw[rj (rn hb h)];exact hb
def Fr.same(a:Fr ms H H')(h:∀m∈ms,H m=none):Same H H':=λb o hb=>a b o (λz=>by rw[h b z]at hb;cases hb) hb
def Rep.fr(h:Rep H (Off ms) v d)(s:Fr ms H H'):Rep H' (Off ms) v d:=h.keep λb o pb hb=>⟨pb,s b o pb hb⟩
def Reps.fr(h:Reps H (Off ms) vs ds)(s:Fr ms H H'):Reps H' (Off ms) vs ds:=h.keep λb o pb hb=>⟨pb,s b o pb hb⟩
def Rep.more(h:Rep H (Off ms) v d)(s:∀b,b∈ns->b∈ms\/H b=none):Rep H (Off ns) v d:=h.keep λb o pb hb=>⟨λz=>(s b z).elim pb (λq=>by rw[q]at hb;cases hb),hb⟩
def Reps.more(h:Reps H (Off ms) vs ds)(s:∀b,b∈ns->b∈ms\/H b=none):Reps H (Off ns) vs ds:=h.keep λb o pb hb=>⟨λz=>(s b z).elim pb (λq=>by rw[q]at hb;cases hb),hb⟩
def Rep.same(h:Rep H (Off ms) v d)(s:Same H H'):Rep H' (Off ms) v d:=h.fr s.fr
def Reps.same(h:Reps H (Off ms) vs ds)(s:Same H H'):Reps H' (Off ms) vs ds:=h.fr s.fr
def Rep.ahead(h:Rep H (Off []) v d)(s:Same H H')(n:∀m∈ms,H m=none):Rep H' (Off ms) v d:=h.keep λb o _ hb=>⟨(λz=>nomatch (n b z).symm.trans hb),s b o hb⟩
def Reps.ahead(h:Reps H (Off []) vs ds)(s:Same H H')(n:∀m∈ms,H m=none):Reps H' (Off ms) vs ds:=h.keep λb o _ hb=>⟨(λz=>nomatch (n b z).symm.trans hb),s b o hb⟩
def Rep.all{p:A5}(h:Rep H p v d):Rep H (Off []) v d:=h.keep λb o _ hb=>⟨(λz=>nomatch z),hb⟩
def Reps.all{p:A5}(h:Reps H p vs ds):Reps H (Off []) vs ds:=h.keep λb o _ hb=>⟨(λz=>nomatch z),hb⟩
end
def fd_small{i j:Int}(h1:0<j)(h2:j<1000000):CFd i j:=fd_ok h1 (aH (show j.natAbs<2^20 by lia) (gI (by decide) (by decide)))
def Xv{α:Type}{xs:List α}{k:Int}(h0:0<=k)(h1:k<xs.length):seqIndex? k xs.length=some k.toNat:=by
 unfold seqIndex?;have:¬k<0:=by lia
 simp[this,h0,h1]
def x8{K:A0}{H H':Hp}{xs:Ap}(s:Same H H')(h:SqL K H l xs):SqL K H' l xs:=s.seq h
def ziQ{X:Cx}:OpR X (compareOp .In) (rIn X.K false):=ze8
def zgy{X:Cx}:OpR X (compareOp .NotIn) (rIn X.K true):=zap
noncomputable def del(H:Hp)(x:Addr):Hp:=λb=>if b=x then none else H b
section
variable{K:A0}{H:Hp}{Q:VK}{p:A5}{v:V}{d:D}{ds:List D}{f:Str}
def zhK{C:Addr}{gs:List (Str×D)}{R:V->Prop}(h:Rep H p v (.ob C gs))(c:Cls K C)(n:NoAttr K C f)(e:gs.lookup f=some d)(q:∀u,Rep H p u d->R u) :
  ∃a C dx fs u,v=.ref a/\H a=some (.ins C dx fs)/\Cls K C/\NoAttr K C f/\fs.lookup f=some u/\R u:=by
 let⟨l,dx,fs,rfl,_,a,b,_⟩:=h.ob';let⟨u,e1,r⟩:=b f d e;exact⟨l,C,dx,fs,u,rfl,a,c,n,e1,q u r⟩
def ziX{vs:Ap}{i:Int}(h:Reps H p vs ds)(e:atI ds i=some d):∃u,atI vs i=some u/\Rep H p u d:=by
 unfold atI at e ⊢;rw[h.len];cases z:ixN ds.length i with
 |none=>rw[z]at e;cases e
 |some j=>rw[z]at e;exact h.of (i:=j) e
end
def jy{H H':Hp}{p:A5}{d:D}(h:Rep H p v d)(s:Same H H'):Rep H' p v d:=h.keep λb o pb hb=>⟨pb,s b o hb⟩
section
variable{X:Cx}
def zks(K:A0):R2:=λx y H Q=>∃p xs i v,x=.ref p/\y=.int i/\SqL K H p xs/\0<=i/\atI xs i=some v/\Q v H
def zgZ:zkL X (zks X.K):=by
 intro p8 s σ H x y v u Q I rx ry h;let⟨p,xs,i,z,rfl,rfl,hq,h0,he,q⟩:=h;cases rx;let⟨t,rfl⟩:=ry;let⟨pS,r,pl,hz⟩:=I.list hq;let⟨j,h1,h2,h3,h4,h5⟩:=JM he;let⟨w,ew,rw'⟩:=r.get h2;have hl:=r.length;have hn:=ZI;have hj:i.toNat=j:=by
  rw[fY h0 h5]at h1;exact aO h1
 exact wpAny_getItem_list pl.isList h0 (by lia) (by rw[hj];simpa using ew) ⟨z,H,I,rw',q⟩
end
inductive Hard:D->Prop where
 |non:Hard .non
 |bl {b:Bool}:Hard (.bl b)
 |int {i:Int}:Hard (.int i)
 |str {x:Str}:Hard (.str x)
 |tup {ds:List D}:(∀(i:Nat) d,ds[i]?=some d->Hard d)->Hard (.tup ds)
def Rep.hard{p q:A5}{d:D}(h:Rep H p v d)(hd:Hard d)(k:∀b xs,p b->H b=some (.tup xs)->q b):Rep H q v d:=by
 induction h with
 |non=>exact .non
 |bl=>exact .bl
 |int=>exact .int
 |str=>exact .str
 |lst pl hl e _ ih=>cases hd
 |tup pl hl e _ ih =>
  cases hd with
  |tup hd=>exact .tup (k _ _ pl hl) hl e λi v d a b=>ih i v d a b (hd i d b)
 |ob pl hl e _ ih=>cases hd
def zgC{as:Ab}(nd:as.Nodup){i j:Nat}(h1:as[i]?=some b)(h2:as[j]?=some b):i=j:=by
 let⟨hi,e1⟩:=aa.mp h1;let⟨hj,e2⟩:=aa.mp h2;have P:=fG.mp nd;rcases b6 i j with h|h|h
 .exact absurd (e1.trans e2.symm) (P i j hi hj h)
 .exact h
 .exact absurd (e2.trans e1.symm) (P j i hj hi h)
structure NL(H:Hp)(p:A5)(G:Addr)(as:Ab)(xss:List (List D)):Prop where
 out:H G=some (.lst (as.map V.ref))
 len:as.length=xss.length
 nd:as.Nodup
 nG:G∉as
 g:∀(i:Nat) b xs,as[i]?=some b->xss[i]?=some xs->∃vs,H b=some (.lst vs)/\Reps H p vs xs
section
variable{H H':Hp}{p q:A5}{G:Addr}{as:Ab}{xss:List (List D)}
def NL.keep(h:NL H p G as xss)(s:∀b o,(b=G\/b∈as\/p b)->H b=some o->H' b=some o)(sp:∀b,p b->H b≠none->q b):NL H' q G as xss:=by
 refine⟨s _ _ (.inl rfl) h.out,h.len,h.nd,h.nG,λi b xs e1 e2=>?_⟩;let⟨vs,h1,h2⟩:=h.g i b xs e1 e2;exact⟨vs,s _ _ (.inr (.inl (ai e1))) h1,h2.keep λc o pc hc=>⟨sp c pc (by rw[hc];intro z;cases z),s c o (.inr (.inr pc)) hc⟩⟩
def NL.same(h:NL H p G as xss)(s:Same H H'):NL H' p G as xss:=h.keep (λb o _ hb=>s b o hb) λ_ hp _=>hp
def NL.at(h:NL H p G as xss){xs:List D}(e:xss[i]?=some xs):∃b vs,as[i]?=some b/\H b=some (.lst vs)/\Reps H p vs xs:=by
 have hi:=(aa.mp e).1;have e2:as[i]?=some (as[i]'(by rw[h.len];exact hi)):=ac _;let⟨vs,h1,h2⟩:=h.g i _ xs e2 e;exact⟨_,vs,e2,h1,h2⟩
def zax{H:Hp}{p:A5}{G:Addr}(h:H G=some (.lst [])):NL H p G [] []:=⟨h,rfl,List.nodup_nil,by simp,λi b xs e=>by simp at e⟩
def NL.rep(h:NL H p G as xss):Rep H (Off []) (.ref G) (.lst (xss.map D.lst)):=by
 refine .lst (λz=>nomatch z) h.out (by rw[af,af,h.len]) λi v d e1 e2=>?_;rw[ap,aB]at e1 e2;let⟨b,e1,rfl⟩:=e1;let⟨xs,e2,rfl⟩:=e2;let⟨vs,h1,h2⟩:=h.g i b xs e1 e2;exact h2.all.mk' (λz=>nomatch z) h1
def NL.put{vs:Ap}{ys:List D}(h:NL H p G as xss)(e:as[i]?=some b)(np:¬p b)(r:Reps H p vs ys):NL (upd H b (.lst vs)) p G as (xss.set i ys):=by
 have hb:=ai e;have nG:G≠b:=λz=>h.nG (by rw[z];exact hb);have rk:∀{us:Ap}{zs:List D},Reps H p us zs->Reps (upd H b (.lst vs)) p us zs:=λr=>r.keep λc o pc hc=>⟨pc,by rw[rj (λz=>np (by rw[<- z];exact pc))];exact hc⟩;refine⟨by rw[rj nG];exact h.out,by rw[ci,h.len],h.nd,h.nG,λj c xs e1 e2=>?_⟩;by_cases hj:j=i
 .subst hj;rw[e]at e1;cases e1;have hl:j<xss.length:=by rw[<- h.len];exact(aa.mp e).1
  rw[aU hl]at e2;cases e2;exact⟨vs,rh,rk r⟩
 .rw[bE (bb hj)]at e2;have nc:c≠b:=λz=>by
   subst z;exact hj (zgC h.nd e1 e)
  let⟨us,h1,h2⟩:=h.g j c xs e1 e2;exact⟨us,by rw[rj nc];exact h1,rk h2⟩
def NL.push{vs:Ap}{ys:List D}(h:NL H p G as xss)(hb:H b=some (.lst vs))(nb:b∉as)(nG:b≠G)(np:¬p G)(r:Reps H p vs ys):NL (upd H G (.lst (as.map V.ref++[.ref b]))) p G (as++[b]) (xss++[ys]):=by
 have rk:∀{us:Ap}{zs:List D},Reps H p us zs->Reps (upd H G (.lst (as.map V.ref++[.ref b]))) p us zs:=λr=>r.keep λc o pc hc=>⟨pc,by rw[rj (λz=>np (by rw[<- z];exact pc))];exact hc⟩;refine⟨by rw[rh,aQ];rfl,by simp[h.len],?_,?_,λj c xs e1 e2=>?_⟩
 .rw[nodup_append];refine⟨h.nd,by simp,?_⟩;intro x hx y hy z;rw[ak.mp hy]at z;exact nb (by rw[<- z];exact hx)
 .intro z;rcases ay.mp z with z|z
  .exact h.nG z
  .exact nG (ak.mp z).symm
 .by_cases hj:j<as.length
  .rw[ba hj]at e1;rw[ba (by rw[<- h.len];exact hj)]at e2;let⟨us,h1,h2⟩:=h.g j c xs e1 e2;have nc:c≠G:=λz=>h.nG (by rw[<- z];exact ai e1);exact⟨us,by rw[rj nc];exact h1,rk h2⟩
  .rw[aY (by lia)]at e1;rw[aY (by rw[<- h.len];lia),<- h.len]at e2;have hj0:j-as.length=0:=by have:=(aa.mp e1).1;simp at this;lia
   rw[hj0]at e1 e2;have e1:b=c:=by simpa using e1
   have e2:ys=xs:=by simpa using e2
   subst e1 e2;exact⟨vs,by rw[rj nG];exact hb,rk r⟩
end
def zX(H:Hp):Addr->Prop:=λb=>∃xs,H b=some (.tup xs)
def NL.tup{H H':Hp}{G:Addr}{as:Ab}{xss:List (List D)}(h:NL H (zX H) G as xss)(s:∀b o,(b=G\/b∈as\/zX H b)->H b=some o->H' b=some o):NL H' (zX H') G as xss :=
 h.keep s λb hb _=>by
  let⟨xs,hx⟩:=hb;exact⟨xs,s b _ (.inr (.inr ⟨xs,hx⟩)) hx⟩
def NL.isl{G:Addr}{as:Ab}{p:A5}{xss:List (List D)}(h:NL H p G as xss)(hb:b∈G::as):∃vs,H b=some (.lst vs):=by
 rcases au.mp hb with rfl|hb
 .exact⟨_,h.out⟩
 .obtain⟨j,hj⟩:=bF hb;let⟨vs,h1,_⟩:=h.g j b _ hj (ac (by rw[<- h.len];exact(aa.mp hj).1));exact⟨vs,h1⟩
def uc{P:Af}{w:World}{K:A0}{mg:A4}{base:Heap}{x:Str}{k:Nat}{G:List V->Sp->Prop}{ps:A8}{dvs:Ap}{sp:Sp}(c:Cal P w K mg base x k ps dvs sp)(h:G dvs sp):∃ps dvs sp,Cal P w K mg base x k ps dvs sp/\G dvs sp:=⟨ps,dvs,sp,c,h⟩
def un2{K:A0}{t:Addr}{x y:V}{G:V->V->Prop}(h:H t=some (.tup [x,y]))(q:G x y):∃a xs,V.ref t=.ref a/\SqT K H a xs/\xs.length=2/\∃v r,xs=v::r/\∃v' r',r=v'::r'/\r'=[]/\G v v':=⟨t,_,rfl,SqT.of h,rfl,x,_,rfl,y,_,rfl,rfl,q⟩
def ra{K:A0}{a C dx:Addr}{fs:Ar}{f:Str}{G:V->Prop}(h:H a=some (.ins C dx fs))(c:Cls K C)(n:NoAttr K C f)(e:fs.lookup f=some v)(q:G v):∃a' C dx fs v,V.ref a=.ref a'/\H a'=some (.ins C dx fs)/\Cls K C/\NoAttr K C f/\fs.lookup f=some v/\G v:=⟨a,C,dx,fs,v,rfl,h,c,n,e,q⟩
section
variable{prog:Af}{w:World}{A:Ao}{E:A3}{s:An}
noncomputable abbrev lit(l:Addr):Obj:={cls:=.type (QE true),data:=.fields #[.ref l,.int 0 0]}
end
section
variable{prog:Af}{w:World}{A:Ao}{E:A3}{s:An}
end
section
variable{X:Cx}{pos pos':Pos}{x:Str}
def zt(i:Nat){e:Expr}{te:TE}(hN:X.N.Nodup)(he:PE X e te)(hi:X.N[i]?=some x:=by rfl)(hx:Loc X.env.scope x:=by exact Or.inl rfl)(hs:swapsWith e (some (.Name x pos')) pos.line X.env=pure false:=by rfl)(hf:Or (X.fn x=true) (X.env.scope.names.lookup x=some .local):=by walk_at"p"):PS X (.Assign [.Name x pos'] e pos) (tAsg te (gName i)):=zc0 hN hi hx he hs hf
def qq(i:Nat)(hN:X.N.Nodup)(hi:X.N[i]?=some x:=by rfl)(hx:Loc X.env.scope x:=by exact Or.inl rfl)(hf:Or (X.fn x=true) (X.env.scope.names.lookup x=some .local):=by walk_at"p"):PG X (.Name x pos) (gName i):=zan hN hi hx hf
def zv{a b:Expr}{ta tb:TE}(ha:PE X a ta)(hb:PE X b tb)(hs:zez b:=by intro _ _;rfl):PE X (.Subscript a b pos) (tOp (rIx X.K) ta tb):=zkv zjP ha hb hs
end
section
variable{X:Cx}
theorem zdQ:∀{ys:A8}{us:A7},Vals (ys.map V.str) us->StrsAre us ys
 |[],_,h=>by cases h;exact .nil
 |y::ys,_,h=>by
  cases h with
  |cons r rr =>
   let⟨t,rfl⟩:=r;exact .cons y t (zdQ rr)
def zko:V->List V->Hp->VK->Prop:=λx vs H Q=>∃sep l ys,x=.str sep/\vs=[.ref l]/\H l=some (.lst (ys.map V.str))/\(ys.map (·.length)).sum+ys.length*sep.length<=16777216/\Q (.str (Str.join sep ys)) H
def xf:MtM X "str.join" zko:=by
 intro p8 s σ H x vs v us Q I rx rv h;let⟨sep,l,ys,rfl,rfl,hH,hz,q⟩:=h;let⟨t,rfl⟩:=rx;let⟨u,rfl,ru⟩:=rv.one;cases ru;let⟨pS,r,hl,_⟩:=I.list (SqL.of hH);have e:Txt.join sep ys=Str.join sep ys:=StrLaws.glued_eq_join sep ys;exact join_list hl.isList (by simpa using zdQ r) hz λt' k=>⟨.str _,H,I.tok _,⟨_,rfl⟩,by rw[e];exact q⟩
def za5(x y z:Str):x++y++z=x++(y++z):=bp Str.mk (eO ..)
end
section
variable{X:Cx}{G:GK}{x y:Str}{np mp pos hpos gpos:Pos}{body su sv:List Stmt}{b₀ c₀:Stmt}{tb:List (Addr×Obj)->GK->TS}{th ti:List (Addr×Obj)->Addr->TS}
def tTry2(X:Cx)(x y:Str)(tb:List (Addr×Obj)->GK->TS)(th ti:List (Addr×Obj)->Addr->TS):TS:=λD σ H=>∃Dc Ec,X.mg x=some (.ref Dc)/\subIn X.K (.ref Dc) (.type "BaseException")=some true/\X.mg y=some (.ref Ec)/\subIn X.K (.ref Ec) (.type "BaseException")=some true /\
 ∀pn,tb pn (λcls σ' H'=>∃C,Wb cls=some C/\((kitCls X.K (.ref C) (.ref Dc)=some true/\∀a,H' a=none->th pn a D σ' H')\/(kitCls X.K (.ref C) (.ref Dc)=some false/\kitCls X.K (.ref C) (.ref Ec)=some true/\∀a,H' a=none->ti pn a D σ' H'))) D σ H
theorem zhP(B:Bod X)(hc:X.calm=true)(hb:∀pn G',PSs ((X.pinned pn).exg G') body (tb pn G'))(hs:∀pn a,PSs (X.suite pn a) (b₀::su) (th pn a))(ht:∀pn a,PSs (X.suite pn a) (c₀::sv) (ti pn a))(hg:Gl X x:=by rfl)(hg2:Gl X y:=by rfl)(hdb:(x == ("__debug__":Str))=false:=by decide)(hdb2:(y == ("__debug__":Str))=false:=by decide) :
  PS (X.exg G) (.Try body [.ExceptHandler (some (.Name x np)) none (b₀::su) hpos,.ExceptHandler (some (.Name y mp)) none (c₀::sv) gpos] [] [] pos) (tTry2 X x y tb th ti):=by
 intro p8 s σ H D I h;let⟨Dc,Ec,hm,hsub,hm2,hsub2,h⟩:=h;have I1:=I.unwish.topn;refine fM (aI (hb (X.pn++p8) _ [] s σ H D (I1.wish _) (h (X.pn++p8))) (λf s1 q=>?_) λe s1 q=>?_)
 .cases f with
  |next =>
   let⟨σ',H',J,q⟩:=q;exact cw ⟨σ',H',J.unwish.ofpn.wish _,q⟩
  |brk=>let⟨σ',H',J,q⟩:=q;exact⟨σ',H',J.unwish.ofpn.wish _,q⟩
  |cont=>let⟨σ',H',J,q⟩:=q;exact⟨σ',H',J.unwish.ofpn.wish _,q⟩
  |ret u=>let⟨v,σ',H',J,r,q⟩:=q;exact⟨v,σ',H',J.unwish.ofpn.wish _,r,q⟩
 .refine aI (show wpAny _ _ _ _ _ _ from q) (λ_ s2 q2=>aI q2 (λ_ s3 q3=>?_) λ_ _ z=>z.elim) λ_ _ z=>z.elim;let⟨a,cls,σ',H',rfl,J,xx,C,hcl,hth⟩:=q3;have J2:Inv (X.suite (X.pn++p8) a) [] σ' H' s3:=J.tosuite;let⟨oe,vs,he,hcls,_⟩:=xx.obj;have hcls:=hcls.of hcl;rcases hth with⟨hk,hth⟩|⟨hk,hk2,hth⟩
  .refine cO (cz (jc J2 hg hm (jU J2.kIn he hcls hk hsub ?_) hdb)) (by intro z;cases z);refine eC ?_;refine wP J2 (xx.less λp hp=>by rwa[bB]at hp) λs4 J4 x4=>?_;refine aI (hs (X.pn++p8) a [] s4 _ _ _ J4 (hth a xx.Ha)) (λf s6 q6=>?_) λ_ _ z=>False.elim z;cases f with
   |next=>let⟨σ7,H7,J7,q7⟩:=q6;exact⟨σ7,H7,(J7.ofsuite I.ok.hd).ofpn.wish _,q7⟩
   |brk=>let⟨σ7,H7,J7,q7⟩:=q6;exact⟨σ7,H7,(J7.ofsuite I.ok.hd).ofpn.wish _,q7⟩
   |cont=>let⟨σ7,H7,J7,q7⟩:=q6;exact⟨σ7,H7,(J7.ofsuite I.ok.hd).ofpn.wish _,q7⟩
   |ret u=>let⟨v,σ7,H7,J7,r7,q7⟩:=q6;exact⟨v,σ7,H7,(J7.ofsuite I.ok.hd).ofpn.wish _,r7,q7⟩
  .refine cO (cz (jc J2 hg hm (jU J2.kIn he hcls hk hsub ?_) hdb)) (by intro z;cases z);refine cO (cz (jc J2 hg2 hm2 (jU J2.kIn he hcls hk2 hsub2 ?_) hdb2)) (by intro z;cases z);refine eC ?_;refine wP J2 (xx.less λp hp=>by rwa[bB]at hp) λs4 J4 x4=>?_;refine aI (ht (X.pn++p8) a [] s4 _ _ _ J4 (hth a xx.Ha)) (λf s6 q6=>?_) λ_ _ z=>False.elim z;cases f with
   |next=>let⟨σ7,H7,J7,q7⟩:=q6;exact⟨σ7,H7,(J7.ofsuite I.ok.hd).ofpn.wish _,q7⟩
   |brk=>let⟨σ7,H7,J7,q7⟩:=q6;exact⟨σ7,H7,(J7.ofsuite I.ok.hd).ofpn.wish _,q7⟩
   |cont=>let⟨σ7,H7,J7,q7⟩:=q6;exact⟨σ7,H7,(J7.ofsuite I.ok.hd).ofpn.wish _,q7⟩
   |ret u=>let⟨v,σ7,H7,J7,r7,q7⟩:=q6;exact⟨v,σ7,H7,(J7.ofsuite I.ok.hd).ofpn.wish _,r7,q7⟩
end
section
variable{X:Cx}
def zdB{prog:Af}{w:World}{A:Ao}{E:A3}{s:An}{Q:A3}{x y:Str}{t u:Tok}(hy:(y.length == 0)=false)(hx:x.length+2<=sizeLine)(hq:∀(l:List (Str×Tok))(k:Nat),l.map (·.1)=Txt.split x y->Q (.ref s.heap.objs.size) {s with toks:=k,heap:=s.heap.push {cls:=.type "list",data:=.seq (strValues l).toArray} }) :
  wpAny (model prog w) A (call (.builtin "str.split") [.str x t,.str y u]) Q E s:=by
 cases h1:(decide (x.length<y.length)||decide (Builtin.Str.strKind x<Builtin.Str.strKind y))
 .cases hf:(Builtin.Str.occurrences x y 0 x.length (x.length+1)).isEmpty
  .have e:Txt.split x y=Builtin.Str.partsBetween x (Builtin.Str.occurrences x y 0 x.length (x.length+1)) y.length:=(am (eB h1)).trans (am (eB hf));have hl:=split_le x y;rw[e]at hl;refine cV dP (fj _ _ _) fA (fq _ _) (meets_str_split_sep x y t u h1 hy hf (by lia) (by lia)) ?_;show wants Q E _ {s with toks:=_,heap:=s.heap.push {cls:=.type "list",data:=.seq (strsFrom s.toks (Builtin.Str.partsBetween x (Builtin.Str.occurrences x y 0 x.length (x.length+1)) y.length)).toArray} }
   rw[strsFrom_eq];exact hq (numbered s.toks _) _ ((numbered_texts _ _).trans e.symm)
  .exact cV dP (fj _ _ _) fA (fq _ _) (meets_str_split_not_found x y t u h1 hy hf)
    (hq [(x,t)] _ ((am (eB h1)).trans (aq hf)).symm)
 .exact cV dP (fj _ _ _) fA (fq _ _) (meets_str_split_cannot_occur x y t u h1)
   (hq [(x,t)] _ (aq h1).symm)
theorem WQ:∀(l:List (Str×Tok)),Vals ((l.map (·.1)).map V.str) (strValues l)
 |[]=>.nil
 |p::l=>.cons ⟨p.2,rfl⟩ (WQ l)
def zji:V->List V->Hp->VK->Prop:=λx vs H Q=>∃t y,x=.str t/\vs=[.str y]/\(y.length == 0)=false/\t.length+2<=sizeLine/\∀l,H l=none->Q (.ref l) (upd H l (.lst ((Txt.split t y).map V.str)))
def XR:MtM X "str.split" zji:=by
 intro p8 s σ H x vs v us Q I rx rv h;let⟨t,y,rfl,rfl,hy,hz,q⟩:=h;let⟨tk,rfl⟩:=rx;let⟨u,rfl,ru⟩:=rv.one;let⟨tk2,rfl⟩:=ru;refine zdB hy hz λl k e=>?_;have hf:H s.heap.objs.size=none:=I.hok.fresh (ar _);have hl:=split_le t y;refine⟨.ref s.heap.objs.size,upd H s.heap.objs.size (.lst ((Txt.split t y).map V.str)),I.laid (t':=k) (λb u e=>ah _ e) (ar _) ?_,rfl,q _ hf⟩;rw[<- e];exact⟨by rw[af,e];lia,strValues l,0,WQ l,aF _ rfl⟩
end
theorem X5{c:Nat}:∀{a b A B:Aj},c∉a->c∉b->a++c::A=b++c::B->a=b/\A=B
 |[],[],_,_,_,_,h=>⟨rfl,(de h).2⟩
 |[],y::b,_,_,_,hb,h=>absurd (de h).1 (λe=>hb (by rw[e];exact a7 ..))
 |x::a,[],_,_,ha,_,h=>absurd (de h).1 (λe=>ha (by rw[<- e];exact a7 ..))
 |x::a,y::b,A,B,ha,hb,h=>by
  let⟨e1,e2⟩:=de h;let⟨e3,e4⟩:=X5 (λz=>ha (aA _ z)) (λz=>hb (aA _ z)) e2;exact⟨by rw[e1,e3],e4⟩
def zdS{x y:Str}(h:x.cps.toList=y.cps.toList):x=y:=by
 let⟨x⟩:=x;let⟨y⟩:=y;exact bp Str.mk (Array.toList_inj.mp h)
def wm(c:Nat)(x y:Str)(r:A8):(Str.join ⟨#[c]⟩ (x::y::r)).cps.toList=x.cps.toList++c::(Str.join ⟨#[c]⟩ (y::r)).cps.toList:=by
 show((x.cps ++ #[c])++(Str.join ⟨#[c]⟩ (y::r)).cps).toList=_
 simp
theorem zb7{c:Nat}:∀{xs ys:A8},xs≠[]->ys≠[]->(∀x∈xs,c∉x.cps.toList)->(∀y∈ys,c∉y.cps.toList)->Str.join ⟨#[c]⟩ xs=Str.join ⟨#[c]⟩ ys->xs=ys
 |[],_,h,_,_,_,_=>absurd rfl h
 |_,[],_,h,_,_,_=>absurd rfl h
 |[x],[y],_,_,_,_,e=>by rw[show x=y from e]
 |[x],y::z::r,_,_,hx,_,e=>by
  have e:=bp (λs:Str=>s.cps.toList) e;simp only[wm]at e;have e:x.cps.toList=y.cps.toList++c::(Str.join ⟨#[c]⟩ (z::r)).cps.toList:=e;exact absurd (by rw[e];simp) (hx x (a7 ..))
 |x::z::r,[y],_,_,_,hy,e=>by
  have e:=bp (λs:Str=>s.cps.toList) e;simp only[wm]at e;have e:x.cps.toList++c::(Str.join ⟨#[c]⟩ (z::r)).cps.toList=y.cps.toList:=e;exact absurd (by rw[<- e];simp) (hy y (a7 ..))
 |x::x2::r,y::y2::q,_,_,hx,hy,e=>by
  have e:=bp (λs:Str=>s.cps.toList) e;simp only[wm]at e;let⟨e1,e2⟩:=X5 (hx x (a7 ..)) (hy y (a7 ..)) e;have:=zb7 (xs:=x2::r) (ys:=y2::q) (by simp) (by simp) (λz hz=>hx z (aA _ hz)) (λz hz=>hy z (aA _ hz)) (zdS e2);rw[zdS e1,this]
def JT{c:Nat}{xs:A8}(h0:xs≠[])(h:∀x∈xs,c∉x.cps.toList):Txt.split (Str.join ⟨#[c]⟩ xs) ⟨#[c]⟩=xs :=
 zb7 (λz=>by have:=split_pos (Str.join ⟨#[c]⟩ xs) ⟨#[c]⟩;rw[z]at this;simp at this) h0 (StrLaws.split_free _ c) h (StrLaws.join_split _ _)
section
variable{X:Cx}
end
section
variable{κ:Type}[DecidableEq κ]
noncomputable def Je(pW:List (κ×V))(k:κ):Option V:=(pW.find? λkv=>decide (kv.1=k)).map (·.2)
noncomputable def zbC(pW:List (κ×V))(k:κ)(v:V):List (κ×V) :=
 if (pW.any λkv=>decide (kv.1=k))=true then pW.map (λkv=>if kv.1=k then(kv.1,v)else kv)else pW++[(k,v)]
noncomputable def ziV(pW:List (κ×V))(k:κ):List (κ×V):=pW.filter λkv=>decide (kv.1≠k)
def JN{p:κ×V}{r:List (κ×V)}{k:κ}(e:p.1=k):Je (p::r) k=some p.2:=by simp[Je,cF,e]
def JO{p:κ×V}{r:List (κ×V)}{k:κ}(e:¬p.1=k):Je (p::r) k=Je r k:=by simp[Je,cF,e]
theorem za0(k:κ):∀pW:List (κ×V),(pW.any λkv=>decide (kv.1=k))=(Je pW k).isSome
 |[]=>rfl
 |p::r=>by
  rw[gz];by_cases e:p.1=k
  .simp only[JN e,aZ e,Bool.true_or,Option.isSome_some]
  .rw[JO e,aR e,Bool.false_or];exact za0 k r
def RelO.isSome_eq{o:Aq}{u:Ah}(r:RelO o u):o.isSome=u.isSome:=by
 cases o with
 | none=>cases u with
  |none=>rfl
  |some _=>exact(show False from r).elim
 | some _=>cases u with
  |none=>exact(show False from r).elim
  |some _=>rfl
def RelO.getD{o:Aq}{u:Ah}{d:V}{d':Am}(r:RelO o u)(rd:RelV d d'):RelV (o.getD d) (u.getD d'):=by
 cases o with
 | none=>cases u with
  |none=>exact rd
  |some _=>exact(show False from r).elim
 | some _=>cases u with
  |none=>exact(show False from r).elim
  |some _=>exact r
def KV.val{pW:List (κ×V)}{vs:List (κ×Value)}(r:KV pW vs)(k:κ):RelO (Je pW k) (valueAt vs k):=by
 unfold KV at r
 induction r with
 |nil=>exact True.intro
 | @cons p q ps qs h t ih =>
  let⟨h1,h2⟩:=h;by_cases e:p.1=k
  .have e':q.1=k:=h1.symm.trans e;have b:valueAt (q::qs) k=some q.2:=by simp[valueAt,cF,e']
   rw[JN e,b];exact h2
  .have e':¬q.1=k:=λz=>e (h1.trans z);have b:valueAt (q::qs) k=valueAt qs k:=by simp[valueAt,cF,e']
   rw[JO e,b];exact ih
def KV.any{pW:List (κ×V)}{vs:List (κ×Value)}(r:KV pW vs)(k:κ):(pW.any λkv=>decide (kv.1=k))=vs.any λkv=>decide (kv.1=k):=by
 unfold KV at r
 induction r with
 |nil=>rfl
 |cons h t ih=>rw[gz,gz,ih,h.1]
theorem KV.repl{pW:List (κ×V)}{vs:List (κ×Value)}(r:KV pW vs)(k:κ){y:V}{u:Am}(ry:RelV y u) :
  KV (pW.map λkv=>if kv.1=k then(kv.1,y)else kv) (vs.map λkv=>if kv.1=k then(kv.1,u)else kv):=by
 unfold KV at r ⊢
 induction r with
 |nil=>exact .nil
 | @cons p q ps qs h t ih =>
  rw[bN,bN];refine .cons ?_ ih;let⟨h1,h2⟩:=h;by_cases e:p.1=k
  .rw[aq e,aq (h1.symm.trans e)];exact⟨h1,ry⟩
  .rw[am e,am (λz=>e (h1.trans z))];exact⟨h1,h2⟩
def KV.put{pW:List (κ×V)}{vs:List (κ×Value)}(r:KV pW vs)(k:κ){y:V}{u:Am}(ry:RelV y u):KV (zbC pW k y) (stored vs k u):=by
 unfold zbC stored;rw[r.any k];by_cases e:(vs.any λkv=>decide (kv.1=k))=true
 .rw[aq e,aq e];exact r.repl k ry
 .rw[am e,am e];exact Paired.snoc r ⟨rfl,ry⟩
def KV.drop{pW:List (κ×V)}{vs:List (κ×Value)}(r:KV pW vs)(k:κ):KV (ziV pW k) (without vs k):=by
 unfold KV at r ⊢;unfold ziV without
 induction r with
 |nil=>exact .nil
 | @cons p q ps qs h t ih =>
  let⟨h1,h2⟩:=h;rw[List.filter_cons,List.filter_cons];by_cases e:p.1=k
  .have a:¬decide (p.1≠k)=true:=by simp[e]
   have b:¬decide (q.1≠k)=true:=by simp[h1.symm.trans e]
   rw[am a,am b];exact ih
  .have e':¬q.1=k:=λz=>e (h1.trans z);have a:decide (p.1≠k)=true:=by simp[e]
   have b:decide (q.1≠k)=true:=by simp[e']
   rw[aq a,aq b];exact .cons ⟨h1,h2⟩ ih
def KV.keys{pW:List (κ×V)}{vs:List (κ×Value)}(r:KV pW vs):pW.map (·.1)=vs.map (·.1):=by
 unfold KV at r
 induction r with
 |nil=>rfl
 |cons h t ih=>rw[bN,bN,ih,h.1]
def KV.length{pW:List (κ×V)}{vs:List (κ×Value)}(r:KV pW vs):pW.length=vs.length:=dq r
end
abbrev KT(H:Hp):List (List Key×V)->List (List Key×Addr×Value)->Prop:=Paired λp q=>p.1=q.1/\H q.2.1=some (.tup (p.1.map kV))/\RelV p.2 q.2.2
def KT.val{xs:List (List Key×Addr×Value)}(r:KT H pW xs)(k:List Key):RelO (Je pW k) ((atKey xs k).map (·.2)):=by
 induction r with
 |nil=>exact True.intro
 | @cons p q ps qs h t ih =>
  let⟨h1,_,h2⟩:=h;by_cases e:p.1=k
  .have e':q.1=k:=h1.symm.trans e;have b:atKey (q::qs) k=some q.2:=by simp[atKey,cF,e']
   rw[JN e,b];exact h2
  .have e':¬q.1=k:=λz=>e (h1.trans z);have b:atKey (q::qs) k=atKey qs k:=by simp[atKey,cF,e']
   rw[JO e,b];exact ih
theorem KT.repl{xs:List (List Key×Addr×Value)}(r:KT H pW xs)(k:List Key){y:V}{u:Am}(ry:RelV y u) :
  KT H (pW.map λkv=>if kv.1=k then(kv.1,y)else kv) (xs.map (putAt k u)):=by
 induction r with
 |nil=>exact .nil
 | @cons p q ps qs h t ih =>
  rw[bN,bN];refine .cons ?_ ih;let⟨h1,h2,h3⟩:=h;unfold putAt;by_cases e:p.1=k
  .rw[aq e,aq (h1.symm.trans e)];exact⟨h1,h2,ry⟩
  .rw[am e,am (λz=>e (h1.trans z))];exact⟨h1,h2,h3⟩
def KT.put{xs:List (List Key×Addr×Value)}(r:KT H pW xs)(k:List Key){y:V}{u:Am}(hb:H b=some (.tup (k.map kV)))(ry:RelV y u) :
  KT H (zbC pW k y) (storedH xs k b u):=by
 have e:(pW.any λkv=>decide (kv.1=k))=(atKey xs k).isSome:=by
  rw[za0,(r.val k).isSome_eq,eU]
 unfold zbC storedH;rw[e];by_cases q:(atKey xs k).isSome=true
 .rw[aq q,aq q];exact r.repl k ry
 .rw[am q,am q];exact Paired.snoc r ⟨rfl,hb,ry⟩
def KT.keeps{H H':Hp}{xs:List (List Key×Addr×Value)}(r:KT H pW xs)(ht:∀b ys,H b=some (.tup ys)->H' b=some (.tup ys)):KT H' pW xs :=
 Paired.mapP r λ_ _ z=>⟨z.1,ht _ _ z.2.1,z.2.2⟩
section
variable{P:Af}{w:World}{H:Hp}{h:Heap}{a:Addr}
end
def DGet(H:Hp)(a:Addr)(y:V)(r:Aq):Prop :=
 (∃pW k,Rd H a (.dK pW)/\y=kV k/\r=Je pW k)\/∃pW k b,Rd H a (.dT pW)/\y=.ref b/\H b=some (.tup (k.map kV))/\r=Je pW k
def DPut(H:Hp)(a:Addr)(y v:V)(H':Hp):Prop :=
 (∃pW k,H a=some (.dK pW)/\y=kV k/\pW.length<sizeLine/\H'=upd H a (.dK (zbC pW k v))) \/
 ∃pW k b,H a=some (.dT pW)/\y=.ref b/\H b=some (.tup (k.map kV))/\pW.length<sizeLine/\H'=upd H a (.dT (zbC pW k v))
def DGet.k{a:Addr}{pW:List (Key×V)}{k:Key}(e:H a=some (.dK pW)):DGet H a (kV k) (Je pW k):=.inl ⟨pW,k,.inl e,rfl,rfl⟩
def DGet.t{a b:Addr}{k:List Key}(e:H a=some (.dT pW))(eb:H b=some (.tup (k.map kV))):DGet H a (.ref b) (Je pW k):=.inr ⟨pW,k,b,.inl e,rfl,eb,rfl⟩
def DPut.k{a:Addr}{pW:List (Key×V)}{k:Key}(e:H a=some (.dK pW))(hl:pW.length<sizeLine):DPut H a (kV k) v (upd H a (.dK (zbC pW k v))):=.inl ⟨pW,k,e,rfl,hl,rfl⟩
def DPut.t{a b:Addr}{k:List Key}(e:H a=some (.dT pW))(eb:H b=some (.tup (k.map kV)))(hl:pW.length<sizeLine) :
  DPut H a (.ref b) v (upd H a (.dT (zbC pW k v))):=.inr ⟨pW,k,b,e,rfl,eb,hl,rfl⟩
section
variable{X:Cx}{p8:A2}{σ:St}{H:Hp}{s:An}{a:Addr}{y v:V}{u r:Am}{o:Aq}{A:Ao}{E:A3}
def Inv.big(I:Inv X p8 σ H s):sysModules<s.heap.objs.size:=by
 have h:mainGlobals<s.heap.objs.size:=(I.mod.glob.keeps I.bk).lt;exact eV (by decide) h
def zij{h':Heap}{t':Nat}{ob:HO}(I:Inv X p8 σ H s)(mu:Mut (H a))(hs:Heap.SameBut a s.heap h')(he:∃q,h'.get? a=some q)(new:ObjOk X.prog X.w (upd H a ob) h' a ob) :
  Inv X p8 σ (upd H a ob) {s with heap:=h',toks:=t'} :=
 I.write (x:=a) (e:=a) mu (.inl rfl) (λb q hb z=>(hs.2 b hb).trans z) he new
end
section
variable{X:Cx}{p8:A2}{σ:St}{H:Hp}{s:An}{a:Addr}{pW:List (Key×V)}{k:Key}{u:Am}{A:Ao}{E:A3}
end
def zkM(i:Expr):Prop:=∀ov iv,subscripted i false ov iv=operate [ov,iv] (getItem ov iv)
theorem zhu{prog:Af}{w:World}{A:Ao}{E:A3}{s:An}{env:Env}{value slice:Expr}{pos:Pos}{T id:String}{Q:A3}(hl:typeLookup (.type T) "__getitem__"=pure (some (.builtin id)))(hs:zkM slice)(h:wpAny (model prog w) A (eval value env) (λo s₁=>wpAny (model prog w) A (eval slice env) (λi s₂=>s₂.TypeIs o T/\wpAny (model prog w) A (getItem o i) Q E s₂) E s₁) E s) :
  wpAny (model prog w) A (eval (.Subscript value slice pos) env) Q E s:=by
 refine Subscript_ (aI h (λo s₁ h₁=>aI h₁ (λi s₂ h₂=>?_) λ_ _ x=>x) λ_ _ x=>x);let⟨hT,h₂⟩:=h₂;unfold subscriptTail;refine ae ?_;rw[getitemInPython_of_ne hT.not_modules];refine ae (wpAny_specialOf hT hl ?_);have fin:wpAny (model prog w) A (subscripted slice false o i) (λr s₃=>wpAny (model prog w) A (letTemporaryGo value o r >>= λ_=>pure r) Q E s₃) E s₂:=by
  rw[hs o i];exact wpAny_operating (aI h₂ (λr s₃ h₃=>ae (wpAny_letTemporaryGo (aE h₃))) λ_ _ x=>x)
 first
  |exact aE (ae fin)
  |exact ae (aE (ae fin))
  |exact ae fin
section
variable{X:Cx}{o i e value:Expr}{pos pos' tpos:Pos}{td ty tv:TE}
end
section
variable{X:Cx}{pos:Pos}
end
section
variable{X:Cx}{p8:A2}{σ:St}{H:Hp}{s:An}{a:Addr}{y d:V}{u r:Am}{o:Aq}{A:Ao}{E:A3}
end
section
variable{X:Cx}{o e f:Expr}{apos cpos:Pos}{td ty tx:TE}
end
section
variable{κ:Type}[DecidableEq κ]
end
end L2
namespace L2
open PySem PySem.Spec PySem.Calls PyProof.Rows
section
variable{X:Cx}
def zjz{ns:A6}{i:Nat}(h:i<ns.length):ns[i]?.getD 0∈ns:=by
 rw[ac h];exact cc h
def zis(hc:X.calm=true):CallR X (.builtin "max") (λxs H Q=>∃p,∃ns:List Int,xs=[.ref p]/\SqL X.K H p (ns.map V.int)/\0<ns.length/\∀m,m∈ns->(∀n∈ns,n<=m)->Q (.int m) H):=by
 intro p8 s σ H xs us Q I r h;let⟨p,ns,rfl,hp,hne,q⟩:=h;let⟨u,rfl,rx⟩:=vj r;cases rx;let⟨pS,rv,hl,hz⟩:=I.list hp;have hl':=hl.isList;have hlt:p<s.heap.objs.size:=by let⟨_,e,_⟩:=hl';exact az e
 have hlen:pS.length=ns.length:=by have:=rv.length;rw[af]at this;exact this.symm
 refine call_max_walk (dU hl' ?_);refine⟨s.heap.objs.size,[s.heap.objs.size,p],[s.heap.objs.size],pS.toArray.size,_,_,_,rfl,Walks.list (A:=X.A.in1) (I.ok.hd hc) _ p (aN hlt) pS.toArray,
  ⟨⟨_,aF _ rfl,rfl,rfl⟩,hl'.push _⟩,λb hb=>?_,by rw[ax,hlen];exact hne,CmpOf.ints_gt (λi=>ns[i]?.getD 0) (λi v hP=>Zw rv i v (by simpa using hP)),λv h' tk hP hk=>?_⟩
 .simp only[au,bn,bR]at hb;simp only[bT];rcases hb with rfl|rfl
  .exact c8 _
  .exact Nat.lt_succ_of_lt hlt
 .obtain⟨t,rfl⟩:=Zw rv _ v (by simpa using hP);let⟨h1,h2⟩:=argBest_gt (λi=>ns[i]?.getD 0) (pS.toArray.size-1);have hs:pS.toArray.size=ns.length:=by rw[ax,hlen]
  refine⟨.int _,H,I.kept (t':=tk) (λb o e=>hk b o (by simpa using aN (az e)) (ah _ e)),⟨_,rfl⟩,q _ (zjz (bV h1 (by lia))) λn hn=>?_⟩;let⟨j,hj,rfl⟩:=eP hn;have:=h2 j (by lia);simp only[ac hj,bc]at this;exact this
end
end L2
namespace L2
open PySem PySem.Spec PyProof.Rows
variable{items:Ac}
section
variable{prog:Af}{w:World}{A:Ao}{E:A3}{s:An}{it d:Addr}{i ep:Nat}{es:Array DictEntry}{od:Obj}
end
theorem wg{α β:Type}{F:α->β->Prop}:∀{l₁:List α}{l₂:List β},Paired F l₁ l₂->∀{i:Nat}{x:α}{y:β},l₁[i]?=some x->l₂[i]?=some y->F x y
 |_,_,.nil,_,_,_,h,_=>nomatch h
 |_,_,.cons r t,0,_,_,h,h'=>by cases h;cases h';exact r
 |_,_,.cons r t,i+1,_,_,h,h'=>wg t h h'
section
variable{prog:Af}{w:World}
structure KItem(prog:Af)(w:World)(κ:Type)[DecidableEq κ](d:Nat) where
 is:Heap->κ->Value->Prop
 hash:κ->Int
 draws:κ->Nat
 inj:∀{h:Heap}{v:Am}{x y:κ},is h x v->is h y v->x=y
 keeps:∀{h h':Heap}{k:κ}{v:Am}{a:Addr}{o:Obj}{es:Array DictEntry}{ep:Nat},is h k v->h.get? a=some o->o.data=.dict es ep->Heap.SameBut a h h'->is h' k v
 pyHash:∀{A:Ao}{E:A3}{s:An}{k:κ}{v:Am}{Q:Int->Shared->Prop},A.units+d<cLine->is s.heap k v->Q (hash k) {s with toks:=s.toks+draws k}->wpAny (model prog w) A (PySem.pyHash v) Q E s
 eq:∀{A:Ao}{s:An}{x y:κ}{u v:Am},A.units+d<cLine->is s.heap x u->is s.heap y v->SeqAt.EqAt A s u v (decide (x=y))
 quiet:∀{A:Ao}{E:A3}{s:An}{n:Nat}{k:κ}{v:Am}{Q:Bool->Shared->Prop},d<=n->is s.heap k v->Q true s->wpAny (model prog w) A (eqIsQuiet n v) Q E s
noncomputable def oiV:Option Int->V
 |none=>.non
 |some n=>.int n
def zbL(x:A9):jo (oiV x)=true:=by cases x<;>rfl
def zjx(x y:A9):eqV (oiV x) (oiV y)=decide (x=y):=by
 cases x with
 |none=>cases y<;>simp[oiV,eqV]
 |some a =>
  cases y with
  |none=>simp[oiV,eqV]
  |some b =>
   show(a == b)=decide (some a=some b)
   by_cases e:a=b<;>simp[e]
def zh2{x y:A9}{v:Am}(h1:RelV (oiV x) v)(h2:RelV (oiV y) v):x=y:=by
 cases x<;>cases y
 .rfl
 .cases h1;let⟨t,e⟩:=h2;cases e
 .cases h2;let⟨t,e⟩:=h1;cases e
 .obtain⟨t,rfl⟩:=h1;let⟨t,e⟩:=h2;cases e;rfl
noncomputable def zkB:Option Int->Int
 |none=>reduceHash 0xFCA86420
 |some n=>hashInt n
def zbM{x:A9}{v:Am}(h:RelV (oiV x) v):carriedByValue v=true:=by
 cases x with
 |none=>cases h;rfl
 |some n=>let⟨t,rfl⟩:=h;rfl
noncomputable def jF(prog:Af)(w:World):KItem prog w A9 0 where
 is:=λ_ k v=>RelV (oiV k) v
 hash:=zkB
 draws:=λ_=>1
 inj:=zh2
 keeps:=λh _ _ _=>h
 pyHash:=by
  intro A E s k v Q hu h q;cases k with
  |none =>
   cases h;exact gU (T:="NoneType") rfl F.slot_NoneType_hash F.entry_NoneType_hash (F.args_NoneType_hash_1 _) (beq_builtin_none _) (.inr (by lia)) (ae (aE (ae (wpAny_mkInt (aE ⟨_,_,rfl,q⟩)))))
  |some n =>
   let⟨t,rfl⟩:=h;exact wpAny_pyHash_int q
 eq:=by
  intro A s x y u v hu h1 h2;rw[<- zjx];exact ZM h1 h2 (zbL x) (zbL y)
 quiet:=by
  intro A E s n k v Q _ h q;rw[eqIsQuiet_byValue _ (zbM h)];exact aE q
inductive HashAll(prog:Af)(w:World)(d:Nat)(hp:Heap):List Value->List (Int×Nat)->Prop
 |nil:HashAll prog w d hp [] []
 |cons {v:Am} {h:Int×Nat} {vs:A7} {hs:List (Int×Nat)}:(∀(A:Ao)(E:A3)(s:An)(Q:Int->Shared->Prop),s.heap=hp->A.units+d<cLine->Q h.1 {s with toks:=s.toks+h.2}->wpAny (model prog w) A (PySem.pyHash v) Q E s)->HashAll prog w d hp vs hs->HashAll prog w d hp (v::vs) (h::hs)
theorem Vx{d:Nat}{hp:Heap}{A:Ao}{E:A3}(hu:A.units+d<cLine):∀{vs:A7}{hs:List (Int×Nat)}{s:An}{b:Array Int}{Q:Array Int->Shared->Prop},HashAll prog w d hp vs hs->s.heap=hp->(∀b',b'.toList=b.toList++hs.map (·.1)->Q b' {s with toks:=s.toks+(hs.map (·.2)).sum}) ->
  wpAny (model prog w) A (forIn vs b λx r=>do let h <- PySem.pyHash x;pure PUnit.unit;pure (ForInStep.yield (r.push h))) Q E s
 |_,_,s,b,Q,.nil,_,h=>aE (h b (by simp))
 |_,_,s,b,Q,.cons (h:=h0) x r,e,h=>by
  rw[gv];refine ae (ae (x A E s _ e hu ?_));refine ae (aE (aE ?_));refine Vx hu r (by exact e) λb' hb=>?_;have:=h b' (by simp[hb]);simpa[fT]using this
def zca{d:Nat}{a:Addr}{hs:List (Int×Nat)}{A:Ao}{E:A3}{s:An}{Q:Int->Shared->Prop}(hT:IsTup s.heap a items)(all:HashAll prog w d s.heap items.toList hs)(hu:A.units+(d+1)<cLine)(h:Q (reduceHash (Builtin.Tuple.tupleHashOf (hs.map (·.1)))) {s with toks:=s.toks+((hs.map (·.2)).sum+1)}):wpAny (model prog w) A (PySem.pyHash (.ref a)) Q E s:=by
 let⟨o,ho,hc,n,hd⟩:=hT;refine gU (T:="tuple") ⟨_,ho,hc⟩ F.slot_tuple_hash F.entry_tuple_hash (F.args_tuple_hash_1 _) (beq_builtin_none _) (.inr (by lia)) ?_;show wpAny _ _ (Builtin.Tuple.tupleItemsOf (.ref a) >>= _) _ _ s
 refine ae (wpAny_tupleItemsOf ho hd ?_);refine ae ?_;rw[<- ig];refine Vx (d:=d) (by simp only[fW];lia) all rfl λb hb=>?_;show wpAny _ _ (retInt (Builtin.Tuple.tupleHashOf b.toList)) _ _ _
 rw[hb];exact ae (wpAny_mkInt (aE ⟨_,_,rfl,by simpa[fT]using h⟩))
def Vi{d:Nat}{a:Addr}{A:Ao}{E:A3}{s:An}{Q:Bool->Shared->Prop}{n:Nat}(hT:IsTup s.heap a items)(all:∀v∈items.toList,∀(A:Ao)(E:A3)(Q:Bool->Shared->Prop),Q true s->wpAny (model prog w) A (eqIsQuiet n v) Q E s)(h:Q true s):wpAny (model prog w) A (eqIsQuiet (n+1) (.ref a)) Q E s:=by
 let⟨o,ho,hc,m,hd⟩:=hT;have hT:s.TypeIs (.ref a) "tuple":=⟨o,ho,hc⟩;unfold eqIsQuiet;refine ae (wpAny_specialOf hT F.slot_tuple_eq.lookup ?_);show wpAny _ _ (isInstance (.ref a) (.type "tuple") >>= _) _ _ s
 refine ae (wpAny_isInstance hT isSubtype_tuple_tuple ?_);simp only[fU,dD,cP];refine ae (bZ ho hd ?_);refine ae ?_;show wpAny _ _ (forIn items _ _) _ _ s
 rw[<- ig];refine wpAny_forIn_list _ (λrest r s'=>r.1=none/\s'=s/\∀v∈rest,v∈items.toList) _ ?_ ?_ _ _ ⟨rfl,rfl,λv hv=>hv⟩
 .rintro v rest r s' ⟨hr,rfl,hall⟩;refine ae (all v (hall v a7) _ _ _ ?_);simp only[fU,dD,cP];exact aE ⟨rfl,rfl,λu hu'=>hall u (aA _ hu')⟩
 .rintro⟨r1,r2⟩ s' ⟨hr,rfl,_⟩;simp only at hr;subst hr;exact aE h
def X0{h h':Heap}{b a:Addr}{o:Obj}{es:Array DictEntry}{ep:Nat}(x:IsTup h b items)(ho:h.get? a=some o)(hd:o.data=.dict es ep)(hs:Heap.SameBut a h h'):IsTup h' b items:=by
 let⟨o',h1,h2,n,h3⟩:=x;have ne:b≠a:=λz=>by
  subst z;rw[ho]at h1;cases h1;rw[hd]at h3;cases h3
 exact⟨o',(hs.2 b ne).trans h1,h2,n,h3⟩
def Zb{h:Heap}{b:Addr}{xs ys:Ac}(x:IsTup h b xs)(y:IsTup h b ys):xs=ys:=by
 let⟨o,h1,_,n,h3⟩:=x;let⟨o',g1,_,m,g3⟩:=y;rw[h1]at g1;cases g1;rw[h3]at g3;injection g3
def zj4{κ:Type}[DecidableEq κ]{xs ys:List κ}:((List.range (min xs.length ys.length)).all (λj=>decide (xs[j]?=ys[j]?))&&xs.length == ys.length)=decide (xs=ys):=by
 by_cases e:xs=ys
 .subst e;simp
 .rw[aR e];by_cases hl:xs.length=ys.length
  .have:¬(List.range (min xs.length ys.length)).all (λj=>decide (xs[j]?=ys[j]?))=true:=λz=>e (List.ext_getElem? λj=>by
    rw[bU]at z;by_cases hj:j<xs.length
    .exact b5 (z j (br.mpr (by lia)))
    .rw[fE (by lia),fE (by lia)])
   simp only[Bool.not_eq_true]at this;rw[this]
   rfl
  .have:(xs.length == ys.length)=false:=a9.mpr hl;rw[this,cf]
section
variable{κ:Type}[DecidableEq κ]{d:Nat}
theorem ZG{F:κ->Value->Prop}(f:∀(x y:κ)(v:Am),F x v->F y v->x=y):∀{xs ys:List κ}{vs:A7},Paired F xs vs->Paired F ys vs->xs=ys
 |_,_,_,.nil,h=>by cases h;rfl
 |_,_,_,.cons a t,h=>by
  cases h with
  |cons b u=>rw[f _ _ _ a b,ZG f t u]
def zbZ{n d e c:Nat}(l:d<=e)(h:n+e<c):n+d<c:=bV (Nat.add_le_add_left l n) h
def zkA{A:Ao}{e c:Nat}(h:A.units+(e+1)<c):A.in1.units+e<c:=by
 simp only[fW]
 lia
def zfT{n d:Nat}(h:d+1<=n):∃m,n=m+1/\d<=m:=⟨n-1,by lia,by lia⟩
noncomputable def vV(I:KItem prog w κ d):KItem prog w (List κ) (d+1) where
 is:=λh ks v=>∃a items,v=.ref a/\IsTup h a items/\Paired (I.is h) ks items.toList
 hash:=λks=>reduceHash (Builtin.Tuple.tupleHashOf (ks.map I.hash))
 draws:=λks=>(ks.map I.draws).sum+1
 inj:=by
  rintro h v x y ⟨a,items,rfl,h1,h2⟩ ⟨b,items',e,g1,g2⟩;cases e;have:=Zb h1 g1;subst this;exact ZG (F:=I.is h) (λ_ _ _ p q=>I.inj p q) h2 g2
 keeps:=by
  rintro h h' k v a o es ep ⟨b,items,rfl,h1,h2⟩ ho hd hs;exact⟨b,items,rfl,X0 h1 ho hd hs,Paired.mapP h2 λp q z=>I.keeps z ho hd hs⟩
 pyHash:=by
  rintro A E s k v Q hu ⟨b,items,rfl,h1,h2⟩ q;have all:∀{ks:List κ}{vs:A7},Paired (I.is s.heap) ks vs->HashAll prog w d s.heap vs (ks.map λk=>(I.hash k,I.draws k)):=by
   intro ks vs p
   induction p with
   |nil=>exact .nil
   |cons z _ ih=>exact .cons (λA E s' Q e hu q=>I.pyHash hu (by rw[e];exact z) q) ih
  refine zca h1 (all h2) hu ?_;rw[eR,eR];exact q
 eq:=by
  rintro A s x y u v hu ⟨a,xs,rfl,h1,h2⟩ ⟨b,ys,rfl,g1,g2⟩;by_cases e:a=b
  .subst e;have:=Zb h1 g1;subst this;rw[ZG (F:=I.is s.heap) (λ_ _ _ p q=>I.inj p q) h2 g2,aZ rfl];exact eG _
  .refine cW e ?_;have l1:x.length=xs.size:=by rw[dq h2,bg]
   have l2:y.length=ys.size:=by rw[dq g2,bg]
   have:=di (A:=A) (s:=s) (e:=λj=>decide (x[j]?=y[j]?)) h1 g1 (by lia) (λj hj1 hj2=>by
    let⟨k1,e1⟩:∃k,x[j]?=some k:=⟨x[j]'(by lia),ac _⟩;let⟨k2,e2⟩:∃k,y[j]?=some k:=⟨y[j]'(by lia),ac _⟩;have p1:=wg h2 e1 (show xs.toList[j]?=some xs[j] by rw[cZ,fJ hj1]);have p2:=wg g2 e2 (show ys.toList[j]?=some ys[j] by rw[cZ,fJ hj2]);rw[e1,e2,show decide (some k1=some k2)=decide (k1=k2) by simp];exact I.eq (zkA hu) p1 p2)
   rw[<- l1,<- l2,zj4]at this;exact this
 quiet:=by
  rintro A E s n k v Q hn ⟨b,items,rfl,h1,h2⟩ q;let⟨m,rfl,hm⟩:=zfT hn;refine Vi (d:=d) h1 (λv hv A E Q q=>?_) q;let⟨j,hj⟩:=List.mem_iff_getElem?.mp hv;have hl:=(aa.mp hj).1;let⟨k1,e1⟩:∃x,k[j]?=some x:=⟨k[j]'(by rw[dq h2];exact hl),ac _⟩;exact I.quiet hm (wg h2 e1 hj) q
end
section
variable{κ1 κ2 κ3 κ4:Type}[DecidableEq κ1][DecidableEq κ2][DecidableEq κ3][DecidableEq κ4]{d1 d2 d3 d4:Nat}
inductive QIs(I1:KItem prog w κ1 d1)(I2:KItem prog w κ2 d2)(I3:KItem prog w κ3 d3)(I4:KItem prog w κ4 d4)(h:Heap)(k:κ1×κ2×κ3×κ4)(v:Am):Prop
 |i (a:Addr) (u1 u2 u3 u4:Am):v=.ref a->IsTup h a #[u1,u2,u3,u4]->I1.is h k.1 u1->I2.is h k.2.1 u2->I3.is h k.2.2.1 u3->I4.is h k.2.2.2 u4->QIs I1 I2 I3 I4 h k v
noncomputable def zgl(I1:KItem prog w κ1 d1)(I2:KItem prog w κ2 d2)(I3:KItem prog w κ3 d3)(I4:KItem prog w κ4 d4)(d:Nat)(l1:d1<=d)(l2:d2<=d)(l3:d3<=d)(l4:d4<=d):KItem prog w (κ1×κ2×κ3×κ4) (d+1) where
 is:=QIs I1 I2 I3 I4
 hash:=λk=>reduceHash (Builtin.Tuple.tupleHashOf [I1.hash k.1,I2.hash k.2.1,I3.hash k.2.2.1,I4.hash k.2.2.2])
 draws:=λk=>[I1.draws k.1,I2.draws k.2.1,I3.draws k.2.2.1,I4.draws k.2.2.2].sum+1
 inj:=by
  rintro h v ⟨x1,x2,x3,x4⟩ ⟨y1,y2,y3,y4⟩ ⟨a,u1,u2,u3,u4,rfl,h1,i1,i2,i3,i4⟩ ⟨b,v1,v2,v3,v4,e,g1,j1,j2,j3,j4⟩;cases e;have:=Zb h1 g1;cases this;simp only at i1 i2 i3 i4 j1 j2 j3 j4;rw[I1.inj i1 j1,I2.inj i2 j2,I3.inj i3 j3,I4.inj i4 j4]
 keeps:=by
  rintro h h' k v a o es ep ⟨b,u1,u2,u3,u4,rfl,h1,i1,i2,i3,i4⟩ ho hd hs;exact⟨b,u1,u2,u3,u4,rfl,X0 h1 ho hd hs,I1.keeps i1 ho hd hs,I2.keeps i2 ho hd hs,I3.keeps i3 ho hd hs,I4.keeps i4 ho hd hs⟩
 pyHash:=by
  rintro A E s k v Q hu ⟨b,u1,u2,u3,u4,rfl,h1,i1,i2,i3,i4⟩ q;refine zca (d:=d) (hs:=[(I1.hash k.1,I1.draws k.1),(I2.hash k.2.1,I2.draws k.2.1),(I3.hash k.2.2.1,I3.draws k.2.2.1),(I4.hash k.2.2.2,I4.draws k.2.2.2)]) h1 ?_ hu q;exact .cons (λA E s' Q e hu q=>I1.pyHash (zbZ l1 hu) (by rw[e];exact i1) q) (.cons (λA E s' Q e hu q=>I2.pyHash (zbZ l2 hu) (by rw[e];exact i2) q) (.cons (λA E s' Q e hu q=>I3.pyHash (zbZ l3 hu) (by rw[e];exact i3) q) (.cons (λA E s' Q e hu q=>I4.pyHash (zbZ l4 hu) (by rw[e];exact i4) q) .nil)))
 eq:=by
  rintro A s ⟨x1,x2,x3,x4⟩ ⟨y1,y2,y3,y4⟩ u v hu ⟨a,u1,u2,u3,u4,rfl,h1,i1,i2,i3,i4⟩ ⟨b,v1,v2,v3,v4,rfl,g1,j1,j2,j3,j4⟩;simp only at i1 i2 i3 i4 j1 j2 j3 j4;by_cases e:a=b
  .subst e;have:=Zb h1 g1;cases this;rw[I1.inj i1 j1,I2.inj i2 j2,I3.inj i3 j3,I4.inj i4 j4,aZ rfl];exact eG _
  .refine cW e ?_;have hu':=zkA hu;have:=di (A:=A) (s:=s) (e:=λj=>[decide (x1=y1),decide (x2=y2),decide (x3=y3),decide (x4=y4)].getD j true) h1 g1 (by lia) (λj hj1 hj2=>by
    match j,hj1,hj2 with
    |0,_,_=>exact I1.eq (zbZ l1 hu') i1 j1
    |1,_,_=>exact I2.eq (zbZ l2 hu') i2 j2
    |2,_,_=>exact I3.eq (zbZ l3 hu') i3 j3
    |3,_,_=>exact I4.eq (zbZ l4 hu') i4 j4)
   have z:((List.range (min (#[u1,u2,u3,u4]:Ac).size (#[v1,v2,v3,v4]:Ac).size)).all (λj=>[decide (x1=y1),decide (x2=y2),decide (x3=y3),decide (x4=y4)].getD j true)&&(#[u1,u2,u3,u4]:Ac).size == (#[v1,v2,v3,v4]:Ac).size)=decide ((x1,x2,x3,x4)=(y1,y2,y3,y4)):=by
    show((List.range 4).all _&&true)=_
    rw[show List.range 4=[0,1,2,3]from rfl];simp only[all_cons,List.all_nil,fV,List.getD_cons_zero,List.getD_cons_succ,Prod.mk.injEq,Bool.decide_and]
   rw[z]at this;exact this
 quiet:=by
  rintro A E s n k v Q hn ⟨b,u1,u2,u3,u4,rfl,h1,i1,i2,i3,i4⟩ q;let⟨m,rfl,hm⟩:=zfT hn;refine Vi (d:=d) h1 (λv hv A E Q q=>?_) q;have hv:v=u1\/v=u2\/v=u3\/v=u4:=by simpa using hv
  rcases hv with rfl|rfl|rfl|rfl
  .exact I1.quiet (aJ l1 hm) i1 q
  .exact I2.quiet (aJ l2 hm) i2 q
  .exact I3.quiet (aJ l3 hm) i3 q
  .exact I4.quiet (aJ l4 hm) i4 q
end
abbrev ShK:=Option Int×List (List A9)×List A9×List A9
noncomputable def jw(prog:Af)(w:World):KItem prog w ShK 3:=zgl (jF prog w) (vV (vV (jF prog w))) (vV (jF prog w)) (vV (jF prog w)) 2 (by decide) (by decide) (by decide) (by decide)
noncomputable def x9(prog:Af)(w:World):HeapKind prog w ShK where
 is:=λh k a=>(jw prog w).is h k (.ref a)
 hash:=(jw prog w).hash
 draws:=(jw prog w).draws
 room:=λA=>A.units+3<cLine
 inj:=λhx hy=>(jw prog w).inj hx hy
 keeps:=λx ho hd hs=>(jw prog w).keeps x ho hd hs
 pyHash:=λhu hk h=>(jw prog w).pyHash hu hk h
 eqBool:=λhu hx hy h=>(jw prog w).eq hu hx hy prog w _ _ h
 quiet:=λhk h=>(jw prog w).quiet (by decide) hk h
end
noncomputable def oiD:Option Int->D
 |none=>.non
 |some n=>.int n
noncomputable def shD(k:ShK):D:=.tup [oiD k.1,.tup (k.2.1.map λr=>.tup (r.map oiD)),.tup (k.2.2.1.map oiD),.tup (k.2.2.2.map oiD)]
theorem Vm{α β:Type}{F:α->β->Prop}:∀{xs:List α}{ys:List β},xs.length=ys.length->(∀(i:Nat) x y,xs[i]?=some x->ys[i]?=some y->F x y)->Paired F xs ys
 |[],[],_,_=>.nil
 |[],_::_,h,_=>by simp at h
 |_::_,[],h,_=>by simp at h
 |x::xs,y::ys,h,f=>.cons (f 0 x y rfl rfl) (Vm (by simpa using h) λi a b e1 e2=>f (i+1) a b e1 e2)
section
variable{P:Af}{w:World}{H:Hp}{h:Heap}{p:A5}
def Qf{x:A9}{v:V}{u:Am}(r:Rep H p v (oiD x))(e:RelV v u):(jF P w).is h x u:=by
 cases x with
 |none =>
  have r:Rep H p v .non:=r;cases r;exact e
 |some n =>
  have r:Rep H p v (.int n):=r;cases r;exact e
def Jy{κ:Type}[DecidableEq κ]{d:Nat}(ok:HOk P w H h){I:KItem P w κ d}{f:κ->D}(hI:∀x v u,Rep H p v (f x)->RelV v u->I.is h x u){xs:List κ}{v:V}{u:Am}(r:Rep H p v (.tup (xs.map f)))(e:RelV v u):(vV I).is h xs u:=by
 let⟨t,us,rfl,_,ht,rr⟩:=Rep.tup' r;let⟨_,pS,vals,isT⟩:=(show ObjOk P w H h t (.tup us)from ok t _ ht);refine⟨t,pS.toArray,e,isT,Vm ?_ λi x y e1 e2=>?_⟩
 .rw[gY,<- vals.length,rr.len,af]
 .rw[gY]at e2;let⟨v',hv',rv⟩:=rr.of (i:=i) (d:=f x) (by rw[ap,e1];rfl);exact hI x v' y rv (wg vals hv' e2)
theorem zep{α:Type}{n:Nat}:∀{us:List α},us.length=n+1->∃v w,us=v::w/\w.length=n
 |v::w,h=>⟨v,w,rfl,by simpa using h⟩
def zd7{v:V}{vs:Ap}{us:A7}(h:Vals (v::vs) us):∃u ws,us=u::ws/\RelV v u/\Vals vs ws:=by
 cases h with
 |cons a b=>exact⟨_,_,rfl,a,b⟩
def vW(ok:HOk P w H h){k:ShK}{b:Addr}(r:Rep H p (.ref b) (shD k)):(x9 P w).is h k b:=by
 let⟨t,us,e,_,ht,rr⟩:=Rep.tup' r;cases e;let⟨_,pS,vals,isT⟩:=(show ObjOk P w H h b (.tup us)from ok b _ ht);have g:=rr.g;let⟨v1,w1,rfl,l1⟩:=zep rr.len;let⟨v2,w2,rfl,l2⟩:=zep l1;let⟨v3,w3,rfl,l3⟩:=zep l2;let⟨v4,w4,rfl,l4⟩:=zep l3;cases dN.mp l4;let⟨u1,z1,rfl,q1,vals⟩:=zd7 vals;let⟨u2,z2,rfl,q2,vals⟩:=zd7 vals;let⟨u3,z3,rfl,q3,vals⟩:=zd7 vals;let⟨u4,z4,rfl,q4,vals⟩:=zd7 vals;cases vals;have k1:=Qf (P:=P) (w:=w) (h:=h) (g 0 v1 _ rfl rfl) q1;have k2:=Jy ok (I:=vV (jF P w)) (λx v u r e=>Jy ok (I:=jF P w) (λx v u r e=>Qf r e) r e) (g 1 v2 _ rfl rfl) q2;have k3:=Jy ok (I:=jF P w) (λx v u r e=>Qf r e) (g 2 v3 _ rfl rfl) q3;have k4:=Jy ok (I:=jF P w) (λx v u r e=>Qf r e) (g 3 v4 _ rfl rfl) q4;exact⟨b,u1,u2,u3,u4,rfl,isT,k1,k2,k3,k4⟩
end
noncomputable def toV(x:ShK×Addr×Addr):ShK×Addr×Value:=(x.1,x.2.1,.ref x.2.2)
noncomputable def sdO(P:Af)(w:World)(D:Addr)(xs:List (ShK×Addr×Addr)):HO:=.ext λh=>((D == sysModules)=false/\xs.length<=sizeLine/\(xs.map (·.1)).Nodup)/\∃o es ep,h.get? D=some o/\o.ExactDict/\o.data=.dict es ep/\es.toList=(xs.map toV).map (entryOfKey (x9 P w))
def keysOk(H:Hp)(xs:List (ShK×Addr×Addr)):Prop:=∀x∈xs,∃p:Addr->Prop,Rep H p (.ref x.2.1) (shD x.1)
noncomputable def xG(xs:List (ShK×Addr×Addr))(k:ShK):Option Addr:=(xs.find? λx=>decide (x.1=k)).map (·.2.2)
theorem Qc(k:ShK):∀xs:List (ShK×Addr×Addr),(atKey (xs.map toV) k).map (·.2)=(xG xs k).map Value.ref
 |[]=>rfl
 |x::xs=>by
  have ih:=Qc k xs;unfold atKey xG at ih ⊢;rw[bN,cF,cF];show Option.map _ (Option.map _ (match decide (x.1=k)with|true=>some (toV x)|false=>_))=_
  by_cases e:x.1=k
  .rw[aZ e];rfl
  .rw[aR e];exact ih
def keysOk.same{H H':Hp}{xs:List (ShK×Addr×Addr)}(h:keysOk H xs)(s:∀b ys,H b=some (.tup ys)->H' b=some (.tup ys))(t:∀x∈xs,∃p:Addr->Prop,Rep H p (.ref x.2.1) (shD x.1)/\∀b o,p b->H b=some o->H' b=some o):keysOk H' xs:=λx hx=>by
 let⟨p,r,k⟩:=t x hx;exact⟨p,r.keep λb o pb hb=>⟨pb,k b o pb hb⟩⟩
def zdX{P:Af}{w:World}{H:Hp}{h:Heap}{D:Addr}{xs:List (ShK×Addr×Addr)}(ok:HOk P w H h)(e:H D=some (sdO P w D xs))(ks:keysOk H xs):(D == sysModules)=false/\xs.length<=sizeLine/\(xs.map (·.1)).Nodup/\h.DictOfH (x9 P w) D (xs.map toV):=by
 let⟨⟨⟨h1,h2,h3⟩,o,es,ep,g1,g2,g3,g4⟩,_,_⟩:=(show ObjOk P w H h D (sdO P w D xs)from ok D _ e);refine⟨h1,h2,h3,o,es,ep,g1,g2,g3,g4,λx hx=>?_,by rw[eR];exact h3⟩;let⟨y,hy,rfl⟩:=aK.mp hx;let⟨p,r⟩:=ks y hy;exact vW ok r
def ziK{P:Af}{w:World}{H:Hp}{h:Heap}{D:Addr}{xs:List (ShK×Addr×Addr)}(h1:(D == sysModules)=false)(h2:xs.length<=sizeLine)(h3:(xs.map (·.1)).Nodup)(g:∃o es ep,h.get? D=some o/\o.ExactDict/\o.data=.dict es ep/\es.toList=(xs.map toV).map (entryOfKey (x9 P w))):ObjOk P w H h D (sdO P w D xs):=by
 refine⟨⟨⟨h1,h2,h3⟩,g⟩,?_,?_⟩
 .obtain⟨o,_,_,g1,_⟩:=g;exact⟨o,g1⟩
 .rintro k1 k2 ⟨a,o,es,ep,g1,g2⟩ k;exact⟨a,o,es,ep,k o g1,g2⟩
section
variable{X:Cx}{p8:A2}{σ:St}{H:Hp}{s:An}{D b y:Addr}{A:Ao}{E:A3}{xs:List (ShK×Addr×Addr)}{k:ShK}{p:A5}
def Zy(hu:A.units+100<cLine):(x9 X.prog X.w).room A.in1:=by
 show A.in1.units+3<cLine
 simp only[fW]
 lia
def zkX{Q:A3}(hu:A.units+100<cLine)(I:Inv X p8 σ H s)(e:H D=some (sdO X.prog X.w D xs))(ks:keysOk H xs)(r:Rep H p (.ref b) (shD k))(h:∀s',Inv X p8 σ H s'->Q (.bool (xG xs k).isSome) s'):wpAny (model X.prog X.w) A (compareOp .In (.ref b) (.ref D)) Q E s:=by
 let⟨h1,h2,h3,dd⟩:=zdX I.hok e ks;refine wpAny_in_heap (Zy hu) (vW I.hok r) h1 dd ?_;have q:=bp Option.isSome (Qc k xs);rw[eU,eU]at q;rw[q];exact h _ (I.tok _)
def zki{Q:A3}(hu:A.units+100<cLine)(I:Inv X p8 σ H s)(e:H D=some (sdO X.prog X.w D xs))(ks:keysOk H xs)(r:Rep H p (.ref b) (shD k))(l:xG xs k=some y)(h:∀s',Inv X p8 σ H s'->Q (.ref y) s'):wpAny (model X.prog X.w) A (getItem (.ref D) (.ref b)) Q E s:=by
 let⟨h1,h2,h3,dd⟩:=zdX I.hok e ks;have q:=Qc k xs;rw[l]at q;let⟨z,hz,e2⟩:=aB.mp q;refine wpAny_getItem_heap (Zy hu) (vW I.hok r) dd hz ?_;rw[e2];exact h _ (I.tok _)
def zkh{Q:Ag}(hu:A.units+100<cLine)(I:Inv X p8 σ H s)(e:H D=some (sdO X.prog X.w D xs))(ks:keysOk H xs)(r:Rep H p (.ref b) (shD k))(l:xG xs k=none)(hl:xs.length<sizeLine)(h:∀s',Inv X p8 σ (upd H D (sdO X.prog X.w D (xs++[(k,b,y)]))) s'->Q () s'):wpAny (model X.prog X.w) A (setItem (.ref D) (.ref b) (.ref y)) Q E s:=by
 let⟨h1,h2,h3,dd⟩:=zdX I.hok e ks;have q:=Qc k xs;rw[l]at q;have q:atKey (xs.map toV) k=none:=by simpa using q
 refine wpAny_setItem_heap (hsz:=by rw[af];exact h2) (Zy hu) (vW I.hok r) dd λh' dd' hs=>h _ ?_;rw[storedH_new q]at dd';let⟨o,es,ep,g1,g2,g3,g4,_,g5⟩:=dd';refine zij I (by rw[e];exact True.intro) hs ⟨o,g1⟩ (ziK h1 (by simp;lia) ?_ ⟨o,es,ep,g1,g2,g3,?_⟩)
 .have:(xs++[(k,b,y)]).map (·.1)=((xs.map toV++[(k,b,Value.ref y)]).map (·.1)):=by simp[toV]
  rw[this];exact g5
 .rw[g4];simp[toV]
end
def tSIn(P:Af)(w:World)(ty td:TE):TE:=λσ H Q=>ty σ H λy H1=>td σ H1 λx H2=>∃D b xs k p,x=.ref D/\y=.ref b/\H2 D=some (sdO P w D xs)/\keysOk H2 xs/\Rep H2 p (.ref b) (shD k)/\Q (.bl (xG xs k).isSome) H2
def tSGet(P:Af)(w:World)(td ty:TE):TE:=λσ H Q=>td σ H λx H1=>ty σ H1 λy H2=>∃D b xs k p z,x=.ref D/\y=.ref b/\H2 D=some (sdO P w D xs)/\keysOk H2 xs/\Rep H2 p (.ref b) (shD k)/\xG xs k=some z/\Q (.ref z) H2
def sSPut(P:Af)(w:World)(td ty tv:TE):TS:=λN σ H=>tv σ H λv H1=>td σ H1 λx H2=>ty σ H2 λy H3=>∃D b xs k p z,x=.ref D/\y=.ref b/\v=.ref z/\H3 D=some (sdO P w D xs)/\keysOk H3 xs/\Rep H3 p (.ref b) (shD k)/\xG xs k=none/\xs.length<sizeLine/\N.nx σ (upd H3 D (sdO P w D (xs++[(k,b,z)])))
def tSNew(P:Af)(w:World):TE:=λ_ H Q=>∀p,H p=none->Q (.ref p) (upd H p (sdO P w p []))
section
variable{X:Cx}{o i value:Expr}{pos pos':Pos}{td ty tv:TE}
def zjt(hu:X.A.units+100<cLine)(hi:PE X i ty)(ho:PE X o td):PC X .In i o (tSIn X.prog X.w ty td):=by
 intro p8 s σ H Q I h;refine qJ (hi p8 s σ H _ I h) λiv s1 y H1 I1 ry q1=>qJ (ho p8 s1 σ H1 _ I1 q1) λu s2 x H2 I2 rx qq_=>?_;let⟨D,b,xs,k,p,ex,ey,e,ks,r,q2⟩:=qq_;subst ex ey;obtain rfl:u=Value.ref D:=rx;obtain rfl:iv=Value.ref b:=ry;exact zkX hu I2 e ks r λs3 I3=>⟨.bl _,H2,I3,rfl,q2⟩
def zhU(hu:X.A.units+100<cLine)(ho:PE X o td)(hi:PE X i ty)(hs:zkM i):PE X (.Subscript o i pos) (tSGet X.prog X.w td ty):=by
 intro p8 s σ H Q I h;refine zhu PySem.F.slot_dict_getitem.lookup hs (qJ (ho p8 s σ H _ I h) λu s1 x H1 I1 rx q1=>qJ (hi p8 s1 σ H1 _ I1 q1) λiv s2 y H2 I2 ry qq_=>?_);let⟨D,b,xs,k,p,z,ex,ey,e,ks,r,l,q2⟩:=qq_;subst ex ey;obtain rfl:u=Value.ref D:=rx;obtain rfl:iv=Value.ref b:=ry;exact⟨(zdX I2.hok e ks).2.2.2.typeIs,zki hu I2 e ks r l λs3 I3=>⟨.ref z,H2,I3,rfl,q2⟩⟩
def zhQ(hu:X.A.units+100<cLine)(ho:PE X o td)(hi:PE X i ty)(hv:PE X value tv)(hs:swapsWith value (some (.Subscript o i pos')) pos.line X.env=pure false) :
  PS X (.Assign [.Subscript o i pos'] value pos) (sSPut X.prog X.w td ty tv):=by
 intro p8 s σ H N I h;refine wpAny_Assign_Subscript (qJ (hv p8 s σ H _ I h) λr s1 v H1 I1 rv q1=>qJ (ho p8 s1 σ H1 _ I1 q1) λu s2 x H2 I2 rx q2=>qJ (hi p8 s2 σ H2 _ I2 q2) λiv s3 y H3 I3 ry qq_=>?_) hs;let⟨D,b,xs,k,p,z,ex,ey,ez,e,ks,r',l,hl,q3⟩:=qq_;subst ex ey ez;obtain rfl:u=Value.ref D:=rx;obtain rfl:iv=Value.ref b:=ry;obtain rfl:r=Value.ref z:=rv;exact zkh hu I3 e ks r' l hl λs4 I4=>⟨σ,_,I4,q3⟩
def zhT:PE X (.Dict [] [] pos) (tSNew X.prog X.w):=λp8 s σ H Q I h =>
 wpAny_Dict_empty ⟨.ref s.heap.objs.size,_,I.laid (a:=s.heap.objs.size) (o:=sdO X.prog X.w s.heap.objs.size []) (t':=s.toks) (λ_ _ q=>ah _ q) (ar _) (ziK (a9.mpr (bb (aN I.big))) (cj _) List.nodup_nil ⟨_,#[],0,aF _ rfl,⟨rfl,rfl,rfl⟩,rfl,rfl⟩),rfl,h _ (I.hok.fresh (ar _))⟩
end
section
variable{X:Cx}{G:GK}{x:Str}{np pos hpos:Pos}{body su:List Stmt}{b₀:Stmt}{tb:List (Addr×Obj)->GK->TS}{th:List (Addr×Obj)->Addr->TS}
def zfS(X:Cx)(x:Str)(tb:List (Addr×Obj)->GK->TS)(th:List (Addr×Obj)->Addr->TS):TS:=λD σ H=>∃Dc,X.mg x=some (.ref Dc)/\subIn X.K (.ref Dc) (.type "BaseException")=some true /\
 ∀pn,tb pn (λcls σ' H'=>∃C,Wb cls=some C/\kitCls X.K (.ref C) (.ref Dc)=some true/\∀a,H' a=none->th pn a D σ' H') D σ H
theorem zgm(B:Bod X)(hc:X.calm=true)(hb:∀pn G',PSs ((X.pinned pn).exg G') body (tb pn G'))(hs:∀pn a,PSs (X.suite pn a) (b₀::su) (th pn a))(hg:Gl X x:=by rfl)(hdb:(x == ("__debug__":Str))=false:=by decide) :
  PS (X.exg G) (.Try body [.ExceptHandler (some (.Name x np)) none (b₀::su) hpos] [] [] pos) (zfS X x tb th):=by
 intro p8 s σ H D I h;let⟨Dc,hm,hsub,h⟩:=h;have I1:=I.unwish.topn;refine fM (aI (hb (X.pn++p8) _ [] s σ H D (I1.wish _) (h (X.pn++p8))) (λf s1 q=>?_) λe s1 q=>?_)
 .cases f with
  |next =>
   let⟨σ',H',J,q⟩:=q;exact cw ⟨σ',H',J.unwish.ofpn.wish _,q⟩
  |brk=>let⟨σ',H',J,q⟩:=q;exact⟨σ',H',J.unwish.ofpn.wish _,q⟩
  |cont=>let⟨σ',H',J,q⟩:=q;exact⟨σ',H',J.unwish.ofpn.wish _,q⟩
  |ret u=>let⟨v,σ',H',J,r,q⟩:=q;exact⟨v,σ',H',J.unwish.ofpn.wish _,r,q⟩
 .refine aI (show wpAny _ _ _ _ _ _ from q) (λ_ s2 q2=>aI q2 (λ_ s3 q3=>?_) λ_ _ z=>z.elim) λ_ _ z=>z.elim;let⟨a,cls,σ',H',rfl,J,xx,C,hcl,hk,hth⟩:=q3;have J2:Inv (X.suite (X.pn++p8) a) [] σ' H' s3:=J.tosuite;let⟨oe,vs,he,hcls,_⟩:=xx.obj;have hcls:=hcls.of hcl;refine cO (cz (jc J2 hg hm (jU J2.kIn he hcls hk hsub ?_) hdb)) (by intro z;cases z);refine eC ?_;refine wP J2 (xx.less λp hp=>by rwa[bB]at hp) λs4 J4 x4=>?_;refine aI (hs (X.pn++p8) a [] s4 _ _ _ J4 (hth a xx.Ha)) (λf s6 q6=>?_) λ_ _ z=>False.elim z;cases f with
  |next=>let⟨σ7,H7,J7,q7⟩:=q6;exact⟨σ7,H7,(J7.ofsuite I.ok.hd).ofpn.wish _,q7⟩
  |brk=>let⟨σ7,H7,J7,q7⟩:=q6;exact⟨σ7,H7,(J7.ofsuite I.ok.hd).ofpn.wish _,q7⟩
  |cont=>let⟨σ7,H7,J7,q7⟩:=q6;exact⟨σ7,H7,(J7.ofsuite I.ok.hd).ofpn.wish _,q7⟩
  |ret u=>let⟨v,σ7,H7,J7,r7,q7⟩:=q6;exact⟨v,σ7,H7,(J7.ofsuite I.ok.hd).ofpn.wish _,r7,q7⟩
end
def Qk{X:Cx}:CallR X (.type "tuple") (λxs H Q=>∃p ys,xs=[.ref p]/\((SqL X.K H p ys/\∀l,H l=none->Q (.ref l) (upd H l (.tup ys)))\/(SqT X.K H p ys/\Q (.ref p) H))):=WL
end L2
namespace L2
open PySem PySem.Spec PySem.Calls PyProof.Rows
section
variable{X:Cx}
end
section
variable{prog:Af}{w:World}{A:Ao}{E:A3}{s:An}
variable{R:Result->Shared->Prop}{I:Addr}{fp wr:Ab}{n:Nat}{P:Nat->Value->Prop}{St:Nat->Heap->Prop}
end
section
variable{prog:Af}{w:World}{A:Ao}{E:A3}{s:An}
end
section
variable{X:Cx}
end
def zdx(K:A0)(C f:Addr):Bool:=match K.lookup C with
 | some ⟨.type "type",_,.cls cd,sl⟩=>(match cd.mro,sl.toList with
  | .ref C'::bm,[_,_,_,_,some (.builtin n),_]=>C' == C&&n == "ValueError.__new__" && !cd.hasDel&&PySem.W.tailIn K bmV bm&&PySem.W.nsOkIn K cd.ns&&nsIn K cd.ns "__init__" == some (some (.ref f))
  |_,_=>false)
 |_=>false
structure XCI(K:A0)(C f:Addr):Prop where
 q:zdx K C f=true
def zdb{K:A0}{h:Heap}{N:Addr}{mg:A4}{n:Str}{v:Am}(X:K.In h)(G:h.Ns N mg)(e:nsIn K N n=some (some v)):mg n=some v:=by
 let⟨o,es,ep,ho,hd,_,hf⟩:=G;unfold nsIn at e
 split at e
 .rename_i c d es' n' sl q;have:=X _ _ q;rw[ho]at this;cases this;cases hd
  split at e
  .rename_i en he;cases e;rw[<- hf];unfold nsFind findBy;rw[<- ik,he]
   rfl
  .split at e<;>cases e
 .cases e
def zdK{K:A0}{C f:Addr}{h₀:Heap}(X:K.In h₀)(x:XCI K C f):∃bm N nm q bs hdct sn sub ab col dd k0 k1 k2 k3 k5 mN,h₀.get? C=some (excClassObj nm q C N bs bm hdct sn sub ab col dd k0 k1 k2 k3 k5 "ValueError.__new__")/\h₀.Ns N mN/\mN "__init__"=some (.ref f)/\OwnTail h₀ bmV bm:=by
 have q:=x.q;unfold zdx at q
 split at q
 .rename_i dd cd sl ho
  split at q
  .rename_i C' bm k0 k1 k2 k3 n k5 hm hs;simp only[cg,bJ,eZ]at q;let⟨⟨⟨⟨⟨rfl,rfl⟩,hdel⟩,ht⟩,hok⟩,hni⟩:=q;let⟨nm,bs,mro,ns,qn,hd,sn,sub,ab,col,del⟩:=cd;dsimp only at hm hdel hok hni;subst hm hdel;have hsl:sl=#[k0,k1,k2,k3,some (.builtin "ValueError.__new__"),k5]:=by
    let⟨l⟩:=sl;simp only at hs;rw[hs]
   subst hsl;have G:h₀.Ns ns _:=.of_isNs (ic X hok);exact⟨bm,ns,nm,qn,bs,hd,sn,sub,ab,col,dd,k0,k1,k2,k3,k5,_,X _ _ ho,G,zdb X G hni,hZ X ht⟩
  .cases q
 .cases q
section
variable{prog:Af}{w:World}{A:Ao}{R:Result->Shared->Prop}{h:Heap}{g:Array GenState}{d:Drawn}{t:Nat}{os:OsState}
variable{nm q:Str}{C N f:Addr}{bs bm bmB:A7}{hdct:Bool}{sn:A8}{sub:A7}{ab:Bool}{col:Option Bool}{dd:Aa}{k0 k1 k2 k3 k5:Ah}{B newId initId:String}
theorem JP(F:ExcBaseFacts B newId initId bmB)(T:OwnTail h bmB bm){mN:A4}{rest:A7}{Q:Fin->Shared->Prop}{E:A3}(hC:h.get? C=some (excClassObj nm q C N bs bm hdct sn sub ab col dd k0 k1 k2 k3 k5 newId))(hn:h.Ns N mN)(hi:mN "__init__"=some (.ref f))(hb:∀self,Looks (model prog w) h (bindSpecial (.ref f) self) (.ref f,[self]))(hrest:rest.length<=sizeLine)(hq:codeAny (model prog w) A (.call (.ref f) ⟨.ref (h.objs.size+1)::rest,[]⟩) (λr s'=>match r with
    | .ok (.ret v)=>v=.none/\Q (.done (.ret (.ref (h.objs.size+1)))) s'
    | .ok _=>False
    | .error e=>E e s')
   ⟨(h.push {cls:=.type "tuple",data:=.seq rest.toArray}).push {cls:=.ref C,data:=.fields #[.ref h.objs.size,.none,.none,.none,.bool false,.none]},g,d,t,os⟩) :
  wpAny (model prog w) A (Builtin.«type.__call__» ⟨.ref C::rest,[]⟩) Q E ⟨h,g,d,t,os⟩:=by
 repeat (first|with_reducible refine cD hC ?_|with_reducible refine wpAny_madeBy_exc hC ?_|wp_step)
 refine codeAny_call_builtin_code (Code.quiet_builtin _ F.quiet) (wpAny_check_new_subT F T hC ?_);refine codeAny_exc_new_subT F T hC ?_ hrest;show wpAny _ _ _ _ _ _
 have k:∀b o,h.get? b=some o->((h.push {cls:=.type "tuple",data:=.seq rest.toArray}).push {cls:=.ref C,data:=.fields #[.ref h.objs.size,.none,.none,.none,.bool false,.none]}).get? b=some o:=λb o e=>ah _ (ah _ e);have hC₁:=k _ _ hC;have hn₁:((h.push {cls:=.type "tuple",data:=.seq rest.toArray}).push {cls:=.ref C,data:=.fields #[.ref h.objs.size,.none,.none,.none,.bool false,.none]}).Ns N mN :=
  let⟨o,es,ep,e,r⟩:=hn;⟨o,es,ep,k _ _ e,r⟩
 have hget:((h.push {cls:=.type "tuple",data:=.seq rest.toArray}).push {cls:=.ref C,data:=.fields #[.ref h.objs.size,.none,.none,.none,.bool false,.none]}).get? (h.objs.size+1)=some {cls:=.ref C,data:=.fields #[.ref h.objs.size,.none,.none,.none,.bool false,.none]}:=by heap_get
 have hcC:(Value.ref C::bm).contains (.ref C)=true:=by simp
 have T₁:=T.keeps k;unfold isInstance
 repeat (first|with_reducible refine cD hget ?_|(with_reducible refine wpAny_isSubtype_exc hC₁ ?_;rw[hcC])|wp_step)
 show wpAny _ _ (typeLookup (.ref C) _) _ _ _
 refine wpAny_typeLookup_tail hC₁ hn₁ T₁ F.mroIs F.init.lookup ?_;rw[hi];have b1:=(hb (.ref (h.objs.size+1))).keeps k;refine cy (ae (b1.at ?_));refine ae (dI (cu hq λr s' z=>?_));rcases r with e|(v|_|_|_)
 .exact z
 all_goals first
  |exact z.elim
  |skip
 let⟨rfl,z⟩:=z
 wp_walk
 exact z
def zfu(F:ExcBaseFacts B newId initId bmB)(T:OwnTail h bmB bm){mN:A4}{rest:A7}(hC:h.get? C=some (excClassObj nm q C N bs bm hdct sn sub ab col dd k0 k1 k2 k3 k5 newId))(hn:h.Ns N mN)(hi:mN "__init__"=some (.ref f))(hb:∀self,Looks (model prog w) h (bindSpecial (.ref f) self) (.ref f,[self]))(hrest:rest.length<=sizeLine)(hq:codeAny (model prog w) (A.under (.builtin "type.__call__" ⟨.ref C::rest,[]⟩)) (.call (.ref f) ⟨.ref (h.objs.size+1)::rest,[]⟩) (PySem.W.InitBack (h.objs.size+1) R)
   ⟨(h.push {cls:=.type "tuple",data:=.seq rest.toArray}).push {cls:=.ref C,data:=.fields #[.ref h.objs.size,.none,.none,.none,.bool false,.none]},g,d,t,os⟩) :
  codeAny (model prog w) A (.call (.ref C) ⟨rest,[]⟩) R ⟨h,g,d,t,os⟩:=by
 have f1:=tc_lookup;have f2:=tc_bind (.ref C);have hT:(⟨h,g,d,t,os⟩:An).TypeIs (.ref C) "type":=⟨_,hC,rfl⟩;refine codeAny_of_tree ?_;show wpAny _ _ (callAny (.ref C) _) _ _ _
 repeat (any_goals (first|assumption|with_reducible refine cD hC ?_|wp_step))
 refine⟨rfl,?_⟩;refine codeAny_call_builtin_at (Code.quiet_builtin _ (by decide+kernel)) entry_typeCall (wpAny_check_type_call_sub hC (JP (rest:=rest) F T hC hn hi hb hrest ?_));refine cu hq λr s' z=>?_;rcases r with e|(v|_|_|_)<;>exact z
end
open Builtin Builtin.ObjectAttr
structure XS(K:A0)(C:Addr)(n:Str):Prop where
 sa:findIn K (.ref C) "__setattr__"=some (some (.builtin "object.__setattr__"))
 ln:findIn K (.ref C) n=some none
 hd:hasDictIn K C=true
 mr:∃cd W,clsIn K C=some cd/\cd.mro=.ref C::.ref W::bmV
section
variable{prog:Af}{w:World}{A:Ao}{R:Result->Shared->Prop}{s:An}{K:A0}{C x:Addr}
def ze5{ox:Obj}{od:Option Obj}{name:Str}{tk:Tok}{v:Am}{cd:ClassData}{W:Addr}(X:K.In s.heap)(I:InstAt s.heap x ox C od)(hc:clsIn K C=some cd)(hm:cd.mro=.ref C::.ref W::bmV)(ha:findIn K (.ref C) name=some none)(h:wpAny (model prog w) A.in1 (storeInOwnDict (.ref x) (.ref C) (.str name tk) name v false)
   (λfin s'=>match fin with | .done f=>R (.ok f) s' | .again c'=>c'.quiet=true/\codeAny (model prog w) A c' R s') (λe s'=>R (.error e) s') s) :
  codeAny (model prog w) A (.call (.builtin "object.__setattr__") ⟨[.ref x,.str name tk,v],[]⟩) R s:=by
 have SF:=PySem.F.store_object;have sub:Looks (model prog w) s.heap (isInstance (.ref x) (.type "object")) true:=I.type.andThen (PySem.W.looks_mroIn X (by unfold mroIn;rw[hc,cA,hm];rfl));refine dA SF.slot.plain SF.entry (@PySem.W.check_slot (model prog w) _ _ s "object.__setattr__" "object" "__setattr__" (.ref x) [.str name tk,v] [] _ SF.kind SF.split sub (SF.args (.ref x) (.str name tk) v) ?_);have hm':Looks (model prog w) s.heap (mroOf (.ref C)) cd.mro:=(looks_clsIn X hc).andThen .now;have L3:Looks (model prog w) s.heap (storeTaker? none) none:=.now;rw[PySem.W.osa_eq,refuse_eq];refine ae (ae (I.type.here (ae (hm'.here ?_))));rw[hm,refuseLoop_ref,refuseLoop_ref,PySem.F.store_ValueError.passes];exact aE (ae (I.type.here (ae ((dJ X ha).here (ae (L3.here h))))))
def zf8{E:A3}{o:Obj}{vs:Ac}{name:Str}{v:Am}{Q:Ag}(X:K.In s.heap)(f:XS K C name)(hx:s.heap.get? x=some o)(hc:o.cls=.ref C)(hd:o.dict=none)(hv:o.data=.fields vs)(h:∀h' tk D,s.heap.get? D=none->D≠x->h'.get? x=some {o with dict:=some D}->h'.Ns1 D (λy=>if y=name then some v else none)->(∀b o',b≠x->s.heap.get? b=some o'->h'.get? b=some o')->Q () {s with heap:=h',toks:=tk}) :
  wpAny (model prog w) A (setAttr (.ref x) name v) Q E s:=by
 have I:=zcd hx hc hd hv;let⟨cd,W,hcd,hm⟩:=f.mr;refine PySem.W.set_plain X I f.sa (ze5 (s:={s with toks:=s.toks+1}) X I hcd hm f.ln ?_);let⟨cd',hcd',hdd⟩:=fO f.hd;rw[hcd]at hcd';cases hcd';let⟨oc,od,oda,osl⟩:=o;dsimp only at hc hd hv;subst hc hd hv;let⟨hh,g,dr,t,os⟩:=s;dsimp only at hx X I h ⊢;refine ae (aE (ae (ae (gG hx (ae ((looks_clsIn X hcd).at ?_))))));rw[hdd];have hxs:x≠hh.objs.size:=aN (az hx);have hx₁:(hh.push {cls:=.type "dict",data:=.dict #[]}).get? x=some ⟨.ref C,none,.fields vs,osl⟩:=ah _ hx;have hgd:((hh.push {cls:=.type "dict",data:=.dict #[]}).update x λo=>{cls:=o.cls,dict:=some hh.objs.size,data:=o.data,slots:=o.slots}).get? hh.objs.size=some {cls:=.type "dict",data:=.dict #[]} :=
  (Heap.get?_update_ne _ _ _ _ hxs.symm).trans (Heap.get?_push_at rfl rfl)
 have hnd:((hh.push {cls:=.type "dict",data:=.dict #[]}).update x λo=>{cls:=o.cls,dict:=some hh.objs.size,data:=o.data,slots:=o.slots}).Ns hh.objs.size (λ_=>none) :=
  ⟨_,#[],_,hgd,rfl,λe he=>absurd he (by simp),λ_=>rfl⟩
 refine ae (wpAny_alloc' ?_);refine ae (wpAny_update' hx₁ ?_);refine aE ?_;show wpAny _ _ (storeInDict hh.objs.size (.str name (t+1)) name v) _ _ _
 unfold storeInDict newKeyGuard;refine ae (aE (ae (wpAny_nsSet1 (Heap.Ns1.of_empty hnd) λh' hn' hs=>?_)));let⟨oD,esD,epD,hoD,hdD,hcD⟩:=hn'.count (Within.cons name v Within.nil);refine ae (wpAny_lookBehind hoD (by rw[hdD];exact pastItsLine_dict (aJ hcD (by rw[aM,bX,dW];lia))) ?_);refine aE (h h' _ hh.objs.size (dC (ar _)) hxs.symm ?_ hn' λb ob hbx hb=>?_)
 .exact(hs.2 x hxs).trans (bD _ hx₁ rfl)
 .exact(hs.2 b (aN (az hb))).trans ((Heap.get?_update_ne _ _ _ _ hbx).trans (ah _ hb))
end
open Builtin Builtin.ObjectAttr
def wo(a:Addr)(v:Am):HO:=.ext λh=>∃o t0,h.get? a=some o/\ExC o v/\o.data=.fields #[.ref t0,.none,.none,.none,.bool false,.none]
def drop(H:Hp)(a:Addr):Hp:=λb=>if b=a then none else H b
def Zd{H:Hp}{a:Addr}:drop H a a=none:=aq rfl
def JL{H:Hp}{a b:Addr}(h:b≠a):drop H a b=H b:=am h
def zg8{H:Hp}{a D:Addr}{x y z:HO}(h:H a=none)(n:D≠a):drop (upd (upd (upd H a x) D y) a z) a=upd H D y:=by
 funext b
 by_cases e:b=a
 .subst e;rw[Zd,rj (bb n),h]
 .rw[JL e,rj e];by_cases d:b=D
  .subst d;rw[rh,rh]
  .rw[rj d,rj e,rj d]
def zaK{a:Addr}{v:Am}{h:Heap}(x:∃o t0,h.get? a=some o/\ExC o v/\o.data=.fields #[.ref t0,.none,.none,.none,.bool false,.none]){P:Af}{w:World}{H:Hp}:ObjOk P w H h a (wo a v):=by
 refine⟨x,let⟨o,_,e,_⟩:=x;⟨o,e⟩,λh1 h2 p k=>?_⟩;let⟨o,t,e,r⟩:=p;exact⟨o,t,k o e,r⟩
section
variable{X:Cx}{p8:A2}{σ:St}{H:Hp}{s:An}{a C:Addr}
def Inv.unseen(I:Inv X p8 σ H s){b:Addr}(h:s.heap.get? b=none):H b=none:=by
 cases e:H b with
 |none=>rfl
 |some u =>
  let⟨o',e'⟩:=(I.hok b u e).there;rw[h]at e';cases e'
def Inv.untrack{φ:Heap->Prop}(I:Inv X p8 σ H s)(h:H a=some (.ext φ))(ga:X.s₀.heap.get? a=none):Inv X p8 σ (drop H a) s:=by
 have ne:∀{b u},H b=some u->(∀φ,u≠.ext φ)->drop H a b=some u:=λ{b u} e n=>by
  rw[JL (λz=>by subst z;rw[h]at e;exact n φ (aO e).symm)];exact e
 have nn:∀{b},H b=none->drop H a b=none:=λ{b} e=>by
  by_cases z:b=a
  .rw[z,Zd]
  .rw[JL z];exact e
 refine⟨I.ok,I.os,I.bare,⟨I.base.keep,I.base.slot,λb o e n hx=>nn (I.base.free b o e n hx),I.base.there,λb xs e=>ne (I.base.tups b xs e) (λφ z=>nomatch z),λb o u e=>ne (I.base.frzs b o u e) (λφ z=>nomatch z),λb ps e=>?_⟩,I.loc,I.cell,nn I.free,λx c e=>nn (I.freeC x c e),λp hp=>?_,λb u e=>?_,I.len⟩
 .obtain⟨more,q⟩:=I.base.tbls b ps e;exact⟨more,ne q (λφ z=>nomatch z)⟩
 .obtain⟨e,n,r⟩:=I.pin p hp;exact⟨e,nn n,r⟩
 .have nb:b≠a:=λz=>by rw[z,Zd]at e;cases e
  rw[JL nb]at e;exact(I.hok b u e).stay (λ_ _ _ q=>q) (λc q=>ne q (λφ z=>nomatch z)) λc xs q=>ne q (λφ z=>nomatch z)
def zbf{A:Ao}{E:A3}{f:Str}{y:V}{u:Am}{Q:Ag}(I:Inv X p8 σ H s)(e:H a=some (wo a (.ref C)))(xs:XS X.K C f)(ry:RelV y u)(h:∀s' (D:Addr),H D=none->D≠a->Inv X p8 σ (upd (upd H D (.xd [(f,y)])) a (wo a (.int D C))) s'->Q () s'):wpAny (model X.prog X.w) A (setAttr (.ref a) f u) Q E s:=by
 let⟨⟨o,t0,ho,⟨hc,hd⟩,hv⟩,_⟩:=(show ObjOk X.prog X.w H s.heap a (wo a (.ref C))from I.hok a _ e);refine zf8 I.kIn xs ho hc hd hv λh' tk D gD Dne hx ns keep=>h _ D (I.unseen gD) Dne ?_;have HD:=I.unseen gD;have ne:∀{b v},H b=some v->(∀φ,v≠.ext φ)->upd (upd H D (.xd [(f,y)])) a (wo a (.int D C)) b=some v:=λ{b v} q n=>by
  have nb:b≠a:=λz=>by subst z;rw[e]at q;exact n _ (aO q).symm
  rw[rj nb,rj (rn q HD)];exact q
 have na:∀{b},H b=none->b≠a:=λ{b} q z=>by rw[z,e]at q;cases q
 refine I.un (h':=h') (t':=tk) ⟨λb ob q n _ _=>keep b ob (na n) q,λb ob q n _ _=>⟨ob.slots,keep b ob (na n) q⟩,λb ob q n _=>?_,λb ob q _=>?_,λb xs q=>ne q (λφ z=>nomatch z),λb ob v q=>ne q (λφ z=>nomatch z),λb ps q=>⟨#[],by rw[ne q (λφ z=>nomatch z)];simp⟩⟩ λb v q=>?_
 .have nd:b≠D:=λz=>by rw[z,gD]at q;cases q
  rw[rj (na n),rj nd];exact n
 .by_cases z:b=a
  .exact⟨_,by rw[z];exact hx⟩
  .exact⟨ob,keep b ob z q⟩
 .by_cases z:b=a
  .subst z;rw[rh]at q;cases q;exact zaK (v:=.int (D:Int) C) ⟨_,t0,hx,⟨hc,rfl⟩,hv⟩
  .rw[rj z]at q;by_cases zd:b=D
   .subst zd;rw[rh]at q;cases q;refine⟨_,ns,λg=>?_⟩;by_cases eg:g=f
    .have:(g == f)=true:=bJ.mpr eg;simp only[List.lookup,this,aq eg];exact ry
    .have:(g == f)=false:=a9.mpr eg;simp only[List.lookup,this,am eg];exact trivial
   .rw[rj zd]at q;refine(I.hok b v q).stay (λc ob hc' r=>keep c ob ?_ r) (λc r=>ne r (λφ z=>nomatch z)) λc xs r=>ne r (λφ z=>nomatch z);rcases hc' with rfl|hc'
    .exact z
    .intro w';rw[w',e]at hc';cases hc'
end
section
variable{prog:Af}{w:World}{A:Ao}{E:A3}{s:An}
variable{nm q:Str}{C N:Addr}{bs bm bmB:A7}{hdct:Bool}{sn:A8}{sub:A7}{ab:Bool}{col:Option Bool}{dd:Aa}{k0 k1 k2 k3 k5:Ah}{B newId initId:String}
def zdq(F:ExcBaseFacts B newId initId bmB)(T:OwnTail s.heap bmB bm){e t0:Addr}{o:Obj}{vs:Ac}{rest:A7}{Q:A3}(hC:s.heap.get? C=some (excClassObj nm q C N bs bm hdct sn sub ab col dd k0 k1 k2 k3 k5 newId))(he:s.heap.get? e=some o)(hcls:o.cls=.ref C)(hd:o.data=.fields vs)(h0:vs[0]?=some (.ref t0))(hrest:rest.length<=sizeLine)(h:Q .none {s with heap:=(s.heap.push {cls:=.type "tuple",data:=.seq rest.toArray}).update e (Obj.mapFields (·.setIfInBounds 0 (.ref s.heap.objs.size)))}) :
  wpAny (model prog w) A (call (.builtin initId) (.ref e::rest)) Q E s:=by
 let⟨hh,g,d,t,os⟩:=s;refine dI (dA F.init.plain F.initEntry (wpAny_check_init_subT F T hC he hcls ?_));unfold Builtin.«BaseException.__init__»;dsimp only;rw[am (by simp)];unfold newTuple Builtin.BaseException.bexcPut;have hsz:0<vs.size:=(bw.mp h0).1;have he₁:=ah (h:=hh) {cls:=.type "tuple",data:=.seq rest.toArray} he;refine ae (dh (ae (ae (bx he₁ hd h0 (ae (dg he₁ hd hsz ?_))))) (by show rest.toArray.size<=sizeLine;rw[ax];exact hrest));exact fX (aE h)
end
structure XB(K:A0)(W:Addr):Prop where
 ga:specialIn K (.ref W) "__getattribute__"=some (some (.builtin "type.__getattribute__"))
 rd:readsIn K W (.type "type")=true
 fc:findCls K (.ref W) (.type "type") "__init__"=some (.val (.builtin "ValueError.__init__"))
section
variable{X:Cx}{G:GK}{x:Str}{p pos apos:Pos}{e:Expr}{es:List Expr}{t:TA}
def tXIn(X:Cx)(x:Str)(t:TA):TE:=λσ H Q=>∃W,X.mg x=some (.ref W)/\XB X.K W/\t σ H λvs H1=>∃a C f z,vs=[.ref a,.str z]/\H1 a=some (wo a (.ref C))/\XCI X.K C f/\Q .non H1
def zjp{pl:Sem Bool}(ha:PA X (e::es) t)(hg:Gl X x:=by rfl)(hdb:(x == ("__debug__":Str))=false:=by decide)(hst:starEach (e::es) X.env=(false,eval e X.env)::starEach es X.env:=by rfl)(hpl:(backTo pos (starEach es X.env)).any (·.1)=false:=by rfl)(ht:eval (.Call (.Attribute (.Name x p) "__init__" apos) (e::es) [] pos) X.env=(do
   let ov <- eval (.Name x p) X.env
   standAt apos.atName
   let(f,first) <- holding [ov] (getMethod ov "__init__" pl)
   callWith pos f first (backTo pos (starEach (e::es) X.env)) (backToKw pos (keywordEach [] X.env))):=by rfl) :
  PE X (.Call (.Attribute (.Name x p) "__init__" apos) (e::es) [] pos) (tXIn X x t):=by
 intro p8 s σ H Q I h;let⟨W,hm,xb,h⟩:=h;refine d9 (pl:=pl) (jc I hg hm ?_ hdb) ht;refine ia I.kIn xb.ga (PySem.W.cls_value I.kIn xb.rd xb.fc rfl ?_);have I0:=I.tok (s.toks+1);have hA:=ha pos p8 _ σ H _ I0 h;rw[hst]at hA ⊢;refine PySem.W.callWith_of (P:=λ_=>True) (by show((false||(backTo pos (starEach es X.env)).any (·.1))||false)=false;rw[hpl];rfl) (λh _=>⟨.machine,.inr (.inl rfl),PySem.W.Looks.of_pure rfl⟩) (evalArgs_plain (vn hA λus s1 vs H1 I1 r q=>⟨trivial,?_⟩));let⟨a,C,f,z,rfl,ea,xc,q⟩:=q;let⟨u,u2,rfl,ru,ru2⟩:=r.two;obtain rfl:u=Value.ref a:=ru;let⟨tz,rfl⟩:=(show ∃t,u2=Value.str z t from ru2);let⟨⟨o,t0,ho,hx,hv⟩,_⟩:=(show ObjOk X.prog X.w H1 s1.heap a (wo a (.ref C))from I1.hok a _ ea);let⟨bm,N,nm,qn,bs,hdct,sn,sub,ab,col,dd,k0,k1,k2,k3,k5,mN,hC,hN,hi,T⟩:=zdK I1.kIn xc;refine zdq eX T hC ho hx.1 hv rfl (by show 1<=sizeLine;rw[dW];decide) ⟨.non,H1,?_,rfl,q⟩;have he₁:=ah (h:=s1.heap) {cls:=.type "tuple",data:=.seq [Value.str z tz].toArray} ho;have hs:=bD (Obj.mapFields (·.setIfInBounds 0 (.ref s1.heap.objs.size))) he₁ (b9 (bd hv _));have I2:=I1.write (x:=a) (e:=a) (o:=wo a (.ref C)) (t':=s1.toks) (h':=(s1.heap.push {cls:=.type "tuple",data:=.seq [Value.str z tz].toArray}).update a (Obj.mapFields (·.setIfInBounds 0 (.ref s1.heap.objs.size)))) (by rw[ea];exact True.intro) (.inl rfl)
  (λb u hb q'=>(be _ _ (bb hb)).trans (ah _ q')) ⟨_,hs⟩ (zaK ⟨_,s1.heap.objs.size,hs,hx.map,by rw[bd hv];rfl⟩)
 have eH:upd H1 a (wo a (.ref C))=H1:=by
  funext b
  by_cases zb:b=a
  .subst zb;rw[rh,ea]
  .rw[rj zb]
 rw[eH]at I2;exact I2
end
section
variable{M:Model}{A:Ao}{E:A3}{env:Env}
variable{nm q:Str}{C N:Addr}{bs bm:A7}{hdct:Bool}{sn:A8}{sub:A7}{ab:Bool}{col:Option Bool}{dd:Aa}{k0 k1 k2 k3 k5:Ah}{newId:String}
def ZE{s:An}{x:Sem Value}{Q:Flow->Shared->Prop}(hbase:bm.contains (.type "BaseException")=true)(hh:A.handled=none)(h:wpAny M A x (λv s₁=>∃e o,v=.ref e/\s₁.heap.get? C=some (excClassObj nm q C N bs bm hdct sn sub ab col dd k0 k1 k2 k3 k5 newId)/\s₁.heap.get? e=some o/\o.cls=.ref C/\(∃t0,o.data=.fields #[.ref t0,.none,.none,.none,.bool false,.none])/\E (.ref e) s₁) E s) :
  wpAny M A (raiseStmt env (some x) none) Q E s:=by
 have hcB:(Value.ref C::bm).contains (.type "BaseException")=true:=by rw[List.contains_cons,hbase,Bool.or_true]
 unfold raiseStmt;refine ae (aI h (λv s₁ h₁=>?_) λ_ _ x=>x);let⟨e,o,rfl,hC,he,hc,⟨t0,hv⟩,hE⟩:=h₁;let⟨hp,g,d,tk,os⟩:=s₁;let⟨oc,od,oda,osl⟩:=o;dsimp only at hc hv;subst hc hv
 repeat (first|with_reducible refine cD he ?_|with_reducible refine cD hC ?_|(with_reducible refine wpAny_isSubtype_exc hC ?_;rw[hcB])|wp_step)
 exact wpAny_raiseNew_none hh hE
end
section
variable{prog:Af}{w:World}{A:Ao}{E:A3}{s:An}{env:Env}
variable{nm q:Str}{C N:Addr}{bs bm:A7}{hdct:Bool}{sn:A8}{sub:A7}{ab:Bool}{col:Option Bool}{dd:Aa}{k0 k1 k2 k3 k5:Ah}{newId:String}
theorem zcX{x:Str}{np cpos pos:Pos}{args:List Expr}{Q:Flow->Shared->Prop}(hbase:bm.contains (.type "BaseException")=true)(hh:A.handled=none)(hplain:(backTo cpos (starEach args env)).any (·.1)=false)(h:wpAny (model prog w) A (eval (.Name x np) env) (λf s₁=>f=.ref C/\wpAny (model prog w) A (evalArgs (.ref C) true (backTo cpos (starEach args env)) [])
   (λa s₂=>a.kw=[]/\s₂.heap.get? C=some (excClassObj nm q C N bs bm hdct sn sub ab col dd k0 k1 k2 k3 k5 newId) /\
    wpAny (model prog w) A (call (.ref C) a.pos) (λv s₁=>∃e o,v=.ref e/\s₁.heap.get? C=some (excClassObj nm q C N bs bm hdct sn sub ab col dd k0 k1 k2 k3 k5 newId)/\s₁.heap.get? e=some o/\o.cls=.ref C/\(∃t0,o.data=.fields #[.ref t0,.none,.none,.none,.bool false,.none])/\E (.ref e) s₁) E s₂) E s₁) E s) :
  wpAny (model prog w) A (exec (.Raise (some (.Call (.Name x np) args [] cpos)) none pos) env) Q E s:=by
 rw[arm_exec_Raise]
 first
  |refine ae (bW (ZE (C:=C) (nm:=nm) (q:=q) (N:=N) (bs:=bs) (bm:=bm) (hdct:=hdct) (sn:=sn) (sub:=sub) (ab:=ab) (col:=col) (dd:=dd) (k0:=k0) (k1:=k1) (k2:=k2) (k3:=k3) (k5:=k5) (newId:=newId) hbase hh (ae (aI (fv (aI h (λf s₁ h₁=>?_) λ_ _ x=>x)) (λv s₃ h₃=>ae (bW (aE h₃))) λ_ _ x=>x))))
  |(simp only[evalOpt,Option.map];refine ae (bW (ZE (C:=C) (nm:=nm) (q:=q) (N:=N) (bs:=bs) (bm:=bm) (hdct:=hdct) (sn:=sn) (sub:=sub) (ab:=ab) (col:=col) (dd:=dd) (k0:=k0) (k1:=k1) (k2:=k2) (k3:=k3) (k5:=k5) (newId:=newId) hbase hh (ae (aI (fv (aI h (λf s₁ h₁=>?_) λ_ _ x=>x)) (λv s₃ h₃=>ae (bW (aE h₃))) λ_ _ x=>x)))))
  |(refine ae (bW (ZE (C:=C) (nm:=nm) (q:=q) (N:=N) (bs:=bs) (bm:=bm) (hdct:=hdct) (sn:=sn) (sub:=sub) (ab:=ab) (col:=col) (dd:=dd) (k0:=k0) (k1:=k1) (k2:=k2) (k3:=k3) (k5:=k5) (newId:=newId) hbase hh ?_));refine ae (aI (fv (aI h (λf s₁ h₁=>?_) λ_ _ x=>x)) (λv s₃ h₃=>ae (bW (aE h₃))) λ_ _ x=>x))
 let⟨rfl,h₁⟩:=h₁;unfold callWith;refine ae (cy (aI h₁ (λa s₂ h₂=>ae (bW ?_)) λ_ _ x=>x));let⟨apos,akw⟩:=a;let⟨hkw,hC,h₂⟩:=h₂;obtain rfl:akw=[]:=hkw;let⟨hp,g,d,tk,os⟩:=s₂;simp only[hplain];refine ae (wpAny_keeperOf_exc hC ?_);exact ae (aI h₂ (λv s₃ h₃=>ae (cy (wpAny_point (aE h₃)))) λ_ _ x=>x)
end
structure ICal(P:Af)(w:World)(K:A0)(mg:A4)(base:Heap)(x:Str)(C:Addr)(k:Nat)(ps:A8)(sp:Sp):Prop where
 ex:∃f fd,mg x=some (.ref C)/\XCI K C f/\typeIn K (.ref f)=some (.type "function")/\FnOk P w K mg base (CXr P w) k f fd ps sp/\Binds K fd ps []
def ICal.mono{P:Af}{w:World}{K:A0}{mg:A4}{base:Heap}{x:Str}{C:Addr}{j k:Nat}{ps:A8}{sp:Sp}(c:ICal P w K mg base x C j ps sp)(h:j<=k:=by decide):ICal P w K mg base x C k ps sp:=by
 let⟨f,fd,a,b,c,d,e⟩:=c.ex;exact⟨f,fd,a,b,c,d.mono h,e⟩
section
variable{X:Cx}{G:GK}{x n:Str}{np cpos pos hpos:Pos}{e₀:Expr}{es:List Expr}{t:TA}{k:Nat}
def tRaiseI(X:Cx)(k:Nat)(x:Str)(G:GK)(t:TA):TS:=λ_ σ H=>∃C ps sp,ICal X.prog X.w X.K X.mg X.base x C k ps sp/\t σ H λvs H1=>szl vs (∀a,H1 a=none ->
 sp (.ref a::vs) (upd H1 a (wo a (.ref C))) (λv H2=>v=.non/\∃v',H2 a=some (wo a v')/\Wb v'=some C/\G v' σ (drop H2 a)) (λ_ _ _=>False))
theorem zeZ(B:Bod X)(hc:X.calm=true)(hr:Room (k+1) X.A)(ha:PA (X.exg G) (e₀::es) t)(hg:Gl X x:=by rfl)(hdb:(x == ("__debug__":Str))=false:=by decide)(he:starEach (e₀::es) X.env=(false,eval e₀ X.env)::starEach es X.env:=by rfl)(hpl:(backTo cpos (starEach es X.env)).any (·.1)=false:=by rfl) :
  PS (X.exg G) (.Raise (some (.Call (.Name x np) (e₀::es) [] cpos)) none pos) (tRaiseI X k x G t):=by
 intro p8 s σ H D I h;let⟨C,ps,sp,⟨f,fd,hm,xc,hf,Fn,hb⟩,h⟩:=h;let⟨tl,N,nm,q,bs,hdct,sn,sub,ab,col,dd,k0,k1,k2,k3,k5,mN,hC,hN,hni,T⟩:=zdK I.ok.mod.kin xc;refine zcX (C:=C) (nm:=nm) (q:=q) (N:=N) (bs:=bs) (bm:=tl) (hdct:=hdct) (sn:=sn) (sub:=sub) (ab:=ab) (col:=col) (dd:=dd) (k0:=k0) (k1:=k1) (k2:=k2) (k3:=k3) (k5:=k5) (newId:="ValueError.__new__")
  (T.hasType eX.hasBase) (I.ok.hd hc) (by rw[he];show(false||(backTo cpos (starEach es X.env)).any (·.1))=false;rw[hpl];rfl) (jc I hg hm ⟨rfl,?_⟩ hdb)
 have hA:=ha cpos p8 s σ H _ I h;rw[he]at hA ⊢;refine eY (thn hA λus s2 ⟨vs,H2,I2,r,g⟩=>⟨rfl,I2.bk _ _ hC,?_⟩);let⟨hl,g⟩:=VR g;have fresh:∀b,s2.heap.objs.size<=b->s2.heap.get? b=none:=λb hb=>dC hb;generalize hE:s2.heap.objs.size+1=a;have ea:s2.heap.get? a=none:=fresh a (by lia);have Ha:=I2.unseen ea;have hq:=g a Ha;have hget:((s2.heap.push {cls:=.type "tuple",data:=.seq us.toArray}).push {cls:=.ref C,data:=.fields #[.ref s2.heap.objs.size,.none,.none,.none,.bool false,.none]}).get? a=some {cls:=.ref C,data:=.fields #[.ref s2.heap.objs.size,.none,.none,.none,.bool false,.none]}:=by
  subst hE;heap_get
 have I3:Inv (X.exg G) p8 σ (upd H2 a (wo a (.ref C))) {s2 with heap:=(s2.heap.push {cls:=.type "tuple",data:=.seq us.toArray}).push {cls:=.ref C,data:=.fields #[.ref s2.heap.objs.size,.none,.none,.none,.bool false,.none]} } :=
  (I2.kept (t':=s2.toks) (h':=s2.heap.push {cls:=.type "tuple",data:=.seq us.toArray}) λb u z=>ah _ z).laid (a:=a) (o:=wo a (.ref C)) (t':=s2.toks) (λb u z=>ah _ z) (by rw[bT];lia) (zaK (v:=.ref C) ⟨_,s2.heap.objs.size,hget,⟨rfl,rfl⟩,rfl⟩)
 have r2:Vals (V.ref a::vs) (Value.ref a::us):=.cons rfl r;have hlen:(Value.ref a::us++[]).length=ps.length:=by
  have e:=r2.length;rw[Fn.len _ _ _ _ hq]at e;rw[bB];exact e.symm
 have hb2:=hb _ (Value.ref a::us) I3.kIn hlen;rw[bB]at hb2;have fin:=Fn.run _ X.stack _ _ ⟨Value.ref a::us,[]⟩ (Value.ref a::us) _ _ (λ_ _ _=>False) (hr.make C us []) (I3.unwish.env0.make C us []) hb2 r2 hq;let⟨hh,gg,dr,tt,oo⟩:=s2;refine dI (zfu eX (T.keeps I2.bk) (I2.bk _ _ hC) (hN.keeps I2.bk) hni (λself=>PySem.W.bind_fn I2.kIn self hf) (by rw[<- r.length];exact hl) ?_);have hE':hh.objs.size+1=a:=hE;rw[hE'];refine cu fin λr' s' z=>?_;cases r' with
 |error e =>
  let⟨_,_,_,_,_,_,_,_,_,zz⟩:=(show CXr X.prog X.w X.stack _ _ (λ_ _ _=>False) e s' from z);exact zz.elim
 |ok fl =>
  cases fl with
  |ret u =>
   let⟨v,H',I4,rv,rfl,v',hv',hcl,gg'⟩:=I3.after z;refine⟨rv,?_⟩;let⟨⟨o,t0,ho,hx,hd⟩,_⟩:=(show ObjOk X.prog X.w H' s'.heap a (wo a v')from I4.hok a _ hv');refine⟨a,o,rfl,I4.bk _ _ hC,ho,hx.of hcl,⟨t0,hd⟩,?_⟩;have ga:X.s₀.heap.get? a=none:=by
    cases e:X.s₀.heap.get? a with
    |none=>rfl
    |some o' =>
     let⟨o'',e''⟩:=I2.unwish.base.there a o' e (by rw[B.ex];simp);rw[ea]at e'';cases e''
   have I5:=I4.unwish.untrack hv' ga;refine QB (v:=v') I5 B.st B.fr B.ex ho hx hd ga Zd (λp hp z=>?_) (.inl rfl) λs'' I6 x=>?_
   .have:=(I2.pin p hp).1;rw[z,ea]at this;cases this
   .exact⟨a,v',σ,_,rfl,I6.nopins,x.less λp hp=>bz _ hp,gg'⟩
  |next=>exact False.elim z
  |brk=>exact False.elim z
  |cont=>exact False.elim z
end
section
variable{prog:Af}{w:World}{A:Ao}{E:A3}{s:An}{K:A0}{a C:Addr}{o:Obj}{od:Obj}{name:Str}{v:Am}
def zid{expr:Bool}{Q:A3}(X:K.In s.heap)(f:XI K C)(ln:findIn K (.ref C) name=some none)(I:InstAt s.heap a o C (some od))(hl:lookIn name od=some (some v))(hh:handedIn v=true)(h:Q v {s with toks:=s.toks+1}):wpAny (model prog w) A (getAttr (.ref a) name expr) Q E s:=by
 have hf:findObj K C (some od) name=some (.value v):=gW f.hd ln rfl hl;let⟨hh',g,d,t,os⟩:=s;have T0:=I.type (M:=model prog w);have T1:=dJ (M:=model prog w) X f.ga;have T2:=ib (M:=model prog w) X I hf;have T3:=dJ (M:=model prog w) X f.gt;have T4:=looks_subIn (M:=model prog w) X f.mb;have f3:=dZ.ga.bind (.ref a);unfold getAttr getAttrBy;refine ae (wpAny_mkText (cy (ae (T0.at (ae (T1.at ?_))))));dsimp only;have nga:(onTheHeap (Value.ref C)&&Value.builtin "BaseException.__getattribute__" == Value.builtin "object.__getattribute__")=false:=by
  have z:(Value.builtin "BaseException.__getattribute__" == Value.builtin "object.__getattribute__")=false:=by decide+kernel
  rw[z,cf]
 rw[nga,am aC];unfold getAttrByItsOwn
 repeat (any_goals (first|assumption|with_reducible refine T0.at ?_|with_reducible refine T3.at ?_|with_reducible refine T1.at ?_|wp_step))
 rw[show(expr&&onTheHeap (Value.builtin "BaseException.__getattribute__"))=false by rw[show onTheHeap (Value.builtin "BaseException.__getattribute__")=false from rfl,cf],am aC]
 repeat (any_goals (first|assumption|with_reducible refine T0.at ?_|with_reducible refine T3.at ?_|with_reducible refine T1.at ?_|wp_step))
 refine dA dZ.ga.plain F.entry_bexc_ga ?_;have hk:builtinKind "BaseException.__getattribute__"=some .slot:=by decide+kernel
 have hsp:splitId "BaseException.__getattribute__"=some ("BaseException","__getattribute__"):=by decide+kernel
 have hav:=F.args_bexc_ga (.ref a) (Value.str name t);simp only[checkBuiltinCall,hk,hsp];refine ae ?_;unfold isInstance
 repeat (first|with_reducible refine T2.at ?_|with_reducible refine T0.at ?_|with_reducible refine T4.at ?_|wp_step)
 show wpAny _ _ (handedOut v) _ _ _
 rw[PySem.W.handedOut_of hh];exact aE h
end
section
variable{X:Cx}{e o value:Expr}{f:Str}{pos pos':Pos}{ta tv:TE}
def tFldX(K:A0)(ta:TE)(f:Str):TE:=λσ H Q=>ta σ H λx H1=>∃a C D fs v,x=.ref a/\H1 a=some (QG a (.int D C))/\H1 D.toNat=some (.xd fs)/\XI K C/\findIn K (.ref C) f=some none/\fs.lookup f=some v/\Q v H1
def zd6(he:PE X e ta)(hb:attributeBase e f X.env (eval e X.env)=eval e X.env):PE X (.Attribute e f pos) (tFldX X.K ta f):=by
 intro p8 s σ H Q I h;refine zev hb (thn (he p8 s σ H _ I h) λu s1 ⟨x,H1,I1,rx,a,C,D,fs,v,ex,ea,ed,xi,ln,l,q⟩=>?_);subst ex;obtain rfl:u=Value.ref a:=rx;let⟨⟨o,vs,ho,hx,hv⟩,_⟩:=(show ObjOk X.prog X.w H1 s1.heap a (QG a (.int D C))from I1.hok a _ ea);let⟨mA,ns,r⟩:=(show ObjOk X.prog X.w H1 s1.heap D.toNat (.xd fs)from I1.hok _ _ ed);let⟨u,hu,ru⟩:=RelO.some_of (v:=v) (o:=mA f) (by rw[<- l];exact r f);let⟨od,hD,hl⟩:=Vq ns;exact zid I1.kIn xi ln (VB ho hx.1 hx.2 hv hD) (by rw[hl,hu]) (Vy ru) ⟨v,H1,I1.tok _,ru,q⟩
def sFldX(K:A0)(ta tv:TE)(f:Str):TS:=λD σ H=>tv σ H λy H1=>ta σ H1 λx H2=>∃a C,x=.ref a/\H2 a=some (wo a (.ref C))/\XS K C f/\∀d:Addr,H2 d=none->d≠a->D.nx σ (upd (upd H2 d (.xd [(f,y)])) a (wo a (.int d C)))
def zhR(ha:PE X o ta)(hv:PE X value tv)(hs:swapsWith value (some (.Attribute o f pos')) pos.line X.env=pure false):PS X (.Assign [.Attribute o f pos'] value pos) (sFldX X.K ta tv f):=by
 intro p8 s σ H D I h;refine fC (thn (hv p8 s σ H _ I h) λu s1 ⟨y,H1,I1,ry,q⟩=>thn (ha p8 s1 σ H1 _ I1 q) λov s2 ⟨x,H2,I2,rx,a,C,ex,ea,xs,q2⟩=>?_) hs;subst ex;obtain rfl:ov=Value.ref a:=rx;exact zbf I2 ea xs ry λs3 d hd dn I3=>⟨σ,_,I3,q2 d hd dn⟩
end
section
variable{K:A0}{H:Hp}{Q:VK}
def zaC{a C:Addr}{D:Int}{fs:Ar}{c:V}{u:Am}{b:Bool}(h:H a=some (QG a (.int D C)))(hd:H D.toNat=some (.xd fs))(f:XI K C)(hu:zhb c=some u)(k:kitOne K (.ref C) u=some b)(q:Q (.bl b) H):zcY K [.ref a,c] H Q :=
 ⟨_,_,_,_,rfl,.exd h hd f,.inl ⟨_,hu,k⟩,q⟩
end
structure FI(K:A0)(C:Addr)(qual:Str)(st:Stmt)(ps:A8):Prop where
 ex:∃f fd,Fun K "__init__" qual st f fd/\XCI K C f/\typeIn K (.ref f)=some (.type "function")/\Binds K fd ps []
def FI.cal{P:Af}{w:World}{K:A0}{mg:A4}{base:Heap}{x:Str}{C:Addr}{qual:Str}{st:Stmt}{ps:A8}{k:Nat}{sp:Sp}(h:FI K C qual st ps)(gl:mg x=some (.ref C))(ok:∀{f fd},Fun K "__init__" qual st f fd->FnOk P w K mg base (CXr P w) k f fd ps sp):ICal P w K mg base x C k ps sp:=by
 let⟨f,fd,F,x,ty,b⟩:=h.ex;exact⟨f,fd,gl,x,ty,ok F,b⟩
def fi_mk{K:A0}{C:Addr}{qual:Str}{st:Stmt}{ps:A8}{f:Addr}{oc:Am}{od an:Aa}{osl:Ae}{kV doc pm cdv ct:Am}(a:findIn K (.ref C) "__init__"=some (some (.ref f)))(x:zdx K C f=true)(ty:typeIn K (.ref f)=some (.type "function"))(l:K.lookup f=some ⟨oc,od,.func (fnOf "__init__" qual (qo st) (qc st) (zi st) .none kV doc pm an cdv ct),osl⟩)(c:codeIn K cdv qual=true)(k:keepIn K (.ref f)=true)(hb:∀(kV doc pm:Am)(an:Aa)(cdv ct:Am)(us:A7),us.length=ps.length->bindArgs (fnOf "__init__" qual (qo st) (qc st) (zi st) .none kV doc pm an cdv ct) ⟨us,[]⟩=pure (ps.zip us)):FI K C qual st ps :=
 ⟨f,_,xt l c k,⟨x⟩,ty,(xt l c k).binds hb⟩
def xs_mk{K:A0}{C:Addr}{n:Str}{cd:ClassData}(sa:findIn K (.ref C) "__setattr__"=some (some (.builtin "object.__setattr__")))(ln:findIn K (.ref C) n=some none)(hd:hasDictIn K C=true)(c:clsIn K C=some cd)(m:∃W:Addr,cd.mro=.ref C::.ref W::bmV):XS K C n:=let⟨W,m⟩:=m;⟨sa,ln,hd,cd,W,c,m⟩
section
variable{X:Cx}
end
end L2
namespace L2
section
variable{G:Prop}{A B C D E F H I:Type}
def iE2{k:A->B->Prop}(a:A)(b:B)(p:k a b):∃a b,k a b:=⟨a,b,p⟩
def iE3{k:A->B->C->Prop}(a:A)(b:B)(c:C)(p:k a b c):∃a b c,k a b c:=⟨a,b,c,p⟩
def iE4{k:A->B->C->D->Prop}(a:A)(b:B)(c:C)(d:D)(p:k a b c d):∃a b c d,k a b c d:=⟨a,b,c,d,p⟩
def iE5{k:A->B->C->D->E->Prop}(a:A)(b:B)(c:C)(d:D)(e:E)(p:k a b c d e):∃a b c d e,k a b c d e:=⟨a,b,c,d,e,p⟩
def iE6{k:A->B->C->D->E->F->Prop}(a:A)(b:B)(c:C)(d:D)(e:E)(f:F)(p:k a b c d e f):∃a b c d e f,k a b c d e f:=⟨a,b,c,d,e,f,p⟩
def iE7{k:A->B->C->D->E->F->H->Prop}(a:A)(b:B)(c:C)(d:D)(e:E)(f:F)(g:H)(p:k a b c d e f g):∃a b c d e f g,k a b c d e f g:=⟨a,b,c,d,e,f,g,p⟩
def iE8{k:A->B->C->D->E->F->H->I->Prop}(a:A)(b:B)(c:C)(d:D)(e:E)(f:F)(g:H)(i:I)(p:k a b c d e f g i):∃a b c d e f g i,k a b c d e f g i:=⟨a,b,c,d,e,f,g,i,p⟩
def oE1{k:A->Prop}(h:∃a,k a)(w:∀a,k a->G):G:=by let⟨a,p⟩:=h;exact w a p
def oE2{k:A->B->Prop}(h:∃a b,k a b)(w:∀a b,k a b->G):G:=by let⟨a,b,p⟩:=h;exact w a b p
def oE3{k:A->B->C->Prop}(h:∃a b c,k a b c)(w:∀a b c,k a b c->G):G:=by let⟨a,b,c,p⟩:=h;exact w a b c p
def oE4{k:A->B->C->D->Prop}(h:∃a b c d,k a b c d)(w:∀a b c d,k a b c d->G):G:=by let⟨a,b,c,d,p⟩:=h;exact w a b c d p
def oE5{k:A->B->C->D->E->Prop}(h:∃a b c d e,k a b c d e)(w:∀a b c d e,k a b c d e->G):G:=by let⟨a,b,c,d,e,p⟩:=h;exact w a b c d e p
def oE6{k:A->B->C->D->E->F->Prop}(h:∃a b c d e f,k a b c d e f)(w:∀a b c d e f,k a b c d e f->G):G:=by let⟨a,b,c,d,e,f,p⟩:=h;exact w a b c d e f p
def oE7{k:A->B->C->D->E->F->H->Prop}(h:∃a b c d e f g,k a b c d e f g)(w:∀a b c d e f g,k a b c d e f g->G):G:=by let⟨a,b,c,d,e,f,g,p⟩:=h;exact w a b c d e f g p
def oE8{k:A->B->C->D->E->F->H->I->Prop}(h:∃a b c d e f g i,k a b c d e f g i)(w:∀a b c d e f g i,k a b c d e f g i->G):G:=by let⟨a,b,c,d,e,f,g,i,p⟩:=h;exact w a b c d e f g i p
end
section
variable{G A B C D E F H I J:Prop}
def iA3(a:A)(b:B)(c:C):A/\B/\C:=⟨a,b,c⟩
def iA4(a:A)(b:B)(c:C)(d:D):A/\B/\C/\D:=⟨a,b,c,d⟩
def iA5(a:A)(b:B)(c:C)(d:D)(e:E):A/\B/\C/\D/\E:=⟨a,b,c,d,e⟩
def iA6(a:A)(b:B)(c:C)(d:D)(e:E)(f:F):A/\B/\C/\D/\E/\F:=⟨a,b,c,d,e,f⟩
def iA7(a:A)(b:B)(c:C)(d:D)(e:E)(f:F)(g:H):A/\B/\C/\D/\E/\F/\H:=⟨a,b,c,d,e,f,g⟩
def iA8(a:A)(b:B)(c:C)(d:D)(e:E)(f:F)(g:H)(i:I):A/\B/\C/\D/\E/\F/\H/\I:=⟨a,b,c,d,e,f,g,i⟩
def iA9(a:A)(b:B)(c:C)(d:D)(e:E)(f:F)(g:H)(i:I)(j:J):A/\B/\C/\D/\E/\F/\H/\I/\J:=⟨a,b,c,d,e,f,g,i,j⟩
def oA2(h:A/\B)(k:A->B->G):G:=by let⟨a,b⟩:=h;exact k a b
def oA3(h:A/\B/\C)(k:A->B->C->G):G:=by let⟨a,b,c⟩:=h;exact k a b c
def oA4(h:A/\B/\C/\D)(k:A->B->C->D->G):G:=by let⟨a,b,c,d⟩:=h;exact k a b c d
def oA5(h:A/\B/\C/\D/\E)(k:A->B->C->D->E->G):G:=by let⟨a,b,c,d,e⟩:=h;exact k a b c d e
def oA6(h:A/\B/\C/\D/\E/\F)(k:A->B->C->D->E->F->G):G:=by let⟨a,b,c,d,e,f⟩:=h;exact k a b c d e f
def oA7(h:A/\B/\C/\D/\E/\F/\H)(k:A->B->C->D->E->F->H->G):G:=by let⟨a,b,c,d,e,f,g⟩:=h;exact k a b c d e f g
def oA8(h:A/\B/\C/\D/\E/\F/\H/\I)(k:A->B->C->D->E->F->H->I->G):G:=by let⟨a,b,c,d,e,f,g,i⟩:=h;exact k a b c d e f g i
def oA9(h:A/\B/\C/\D/\E/\F/\H/\I/\J)(k:A->B->C->D->E->F->H->I->J->G):G:=by let⟨a,b,c,d,e,f,g,i,j⟩:=h;exact k a b c d e f g i j
end
end L2
namespace Mine
def zg0{p r:Int}(hp:0<=p)(hr:0<r):Int.gcd r (p%r)=Int.gcd p r:=by
 have e:(p%r).natAbs=p.natAbs%r.natAbs:=by
  have h1:p=(p.natAbs:Int):=by lia
  have h2:r=(r.natAbs:Int):=by lia
  rw[h1,h2,<- Int.natCast_emod,bu,bu,bu]
 show Nat.gcd r.natAbs (p%r).natAbs=Nat.gcd p.natAbs r.natAbs
 rw[e,Nat.gcd_comm p.natAbs,Nat.gcd_rec r.natAbs p.natAbs,Nat.gcd_comm]
def zie{p:Int}(hp:0<=p):(Int.gcd p 0:Int)=p:=by
 rw[Int.gcd_zero_right];lia
def zaG{a b:Int}(h:¬(a=0/\b=0)):1<=(Int.gcd a b:Int):=by
 have:0<Int.gcd a b:=Int.gcd_pos_iff.mpr (by lia)
 lia
end Mine
namespace Mine
structure IsLcm(ns:A6)(l:Int):Prop where
 pos:0<l
 dv:∀n∈ns,n∣l
 least:∀m:Int,(∀n∈ns,n∣m)->l∣m
def IsLcm.nil:IsLcm [] 1:=⟨by decide,(λ_ h=>nomatch h),λm _=>Int.one_dvd m⟩
def zjE{a b:Int}(ha:0<a)(hb:0<b):a/(Int.gcd a b:Int)*b=(Nat.lcm a.natAbs b.natAbs:Int):=by
 have g:(Int.gcd a b:Int)∣a:=Int.gcd_dvd_left ..;let⟨k,hk⟩:=g;have gp:0<(Int.gcd a b:Int):=by have:=zaG (a:=a) (b:=b) (by lia);lia
 have e1:a/(Int.gcd a b:Int)=k:=by
  conv=>lhs;rw[hk]
  have hk':=hk;rw[Int.mul_comm (Int.gcd a b:Int) k];have e2:Int.gcd (k*(Int.gcd a b:Int)) b=Int.gcd a b:=by rw[Int.mul_comm,<- hk]
  rw[e2];exact Int.mul_ediv_cancel _ (by lia)
 have hkn:0<k:=by
  rcases(by lia:k<=0\/0<k)with h|h
  .have:=eK (cS gp) h
   lia
  .exact h
 have hg:Nat.gcd a.natAbs b.natAbs*Nat.lcm a.natAbs b.natAbs=a.natAbs*b.natAbs:=Nat.gcd_mul_lcm ..;have ea:a.natAbs=Nat.gcd a.natAbs b.natAbs*k.natAbs:=by
  have:=bp Int.natAbs hk;rw[Int.natAbs_mul,bu]at this;exact this
 have gp':0<Nat.gcd a.natAbs b.natAbs:=by
  have:(Nat.gcd a.natAbs b.natAbs:Int)=(Int.gcd a b:Int):=rfl
  lia
 have e3:Nat.lcm a.natAbs b.natAbs=k.natAbs*b.natAbs:=by
  apply fF gp';rw[hg,<- Nat.mul_assoc,<- ea]
 rw[e1,e3];rw[Int.natCast_mul];have h1:k=(k.natAbs:Int):=by lia
 have h2:b=(b.natAbs:Int):=by lia
 rw[<- h1,<- h2]
def xX{a b:Int}(h:a∣b):a.natAbs∣b.natAbs:=cY.mpr h
def IsLcm.step{ns:A6}{l p:Int}(x:IsLcm ns l)(hp:0<p):IsLcm (ns++[p]) (l/(Int.gcd l p:Int)*p):=by
 rw[zjE x.pos hp];have lp:0<l.natAbs:=by have:=x.pos;lia
 have pp:0<p.natAbs:=by lia
 refine⟨?_,λn hn=>?_,λm hm=>?_⟩
 .have:=Nat.lcm_pos lp pp
  lia
 .rcases ay.mp hn with h|h
  .have h1:=x.dv n h;refine Int.dvd_trans h1 ?_;rw[<- cY,bu];exact Nat.dvd_lcm_left ..
  .rw[ak.mp h,<- cY,bu];exact Nat.dvd_lcm_right ..
 .have h1:=x.least m λn hn=>hm n (bz _ hn);have h2:=hm p (aX _ (ak.mpr rfl));rw[<- cY,bu];exact Nat.lcm_dvd (xX h1) (xX h2)
def zaH{a b:Int}(hb:0<b):(Int.gcd a b:Int)<=b:=Int.le_of_dvd hb (eW ..)
end Mine
namespace Mine
def part(top bottom:Int):Int:=if bottom<0 then -(Int.gcd top bottom:Int)else(Int.gcd top bottom:Int)
def xU(top bottom:Int):Int:=top.fdiv (part top bottom)
def xV(top bottom:Int):Int:=bottom.fdiv (part top bottom)
def zc5{top bottom:Int}(h:bottom≠0):∃p t b,part top bottom=p/\p≠0/\top=p*t/\bottom=p*b/\1<=b/\Int.gcd t b=1/\p.natAbs<=bottom.natAbs:=by
 have gp:=zaG (a:=top) (b:=bottom) (by lia);let⟨t,ht⟩:=Int.gcd_dvd_left (a:=top) (b:=bottom);let⟨b,hb⟩:=eW (a:=top) (b:=bottom);have hg:Int.gcd t b=1:=by
  have e:Int.gcd ((Int.gcd top bottom:Int)*t) ((Int.gcd top bottom:Int)*b)=(Int.gcd top bottom:Int).natAbs*Int.gcd t b:=Int.gcd_mul_left ..;rw[<- ht,<- hb,bu]at e;have gp':0<Int.gcd top bottom:=by lia
  exact(fF gp' (by rw[Nat.mul_one];exact e)).symm
 have hle:(Int.gcd top bottom:Int).natAbs<=bottom.natAbs:=by
  rw[bu];exact Nat.le_of_dvd (by lia) (xX (eW ..) |> λz=>by rwa[bu]at z)
 unfold part;by_cases hs:bottom<0
 .rw[aq hs];refine⟨_,-t,-b,rfl,by lia,by rw[Int.neg_mul_neg];exact ht,by rw[Int.neg_mul_neg];exact hb,?_,by rw[Int.gcd_neg,Int.neg_gcd];exact hg,by rw[Int.natAbs_neg];exact hle⟩;rcases(by lia:b<0\/0<=b)with z|z
  .lia
  .have:=Int.mul_nonneg (a8 (Int.gcd top bottom)) z
   lia
 .rw[am hs];refine⟨_,t,b,rfl,by lia,ht,hb,?_,hg,hle⟩;rcases(by lia:b<=0\/0<b)with z|z
  .have:=eK (a8 (Int.gcd top bottom)) z
   lia
  .lia
def zcH{n:Nat}(h:n<10^61):n<2^8000 :=
 eV h (eV (show 10^61<2^250 by decide+kernel) (gH (by decide) (by decide)))
def zhV{top bottom:Int}(h:bottom≠0):part top bottom≠0/\(part top bottom).natAbs<=bottom.natAbs:=by
 let⟨p,t,b,e,hp,ht,hb,_,_,hl⟩:=zc5 (top:=top) h;rw[e];exact⟨hp,hl⟩
def ziA(a b:Int):Int.gcd (if a<0 then -a else a) (if b<0 then -b else b)=Int.gcd a b:=by
 have e1:(if a<0 then -a else a).natAbs=a.natAbs:=by split<;>lia
 have e2:(if b<0 then -b else b).natAbs=b.natAbs:=by split<;>lia
 show Nat.gcd _ _=Nat.gcd _ _
 rw[e1,e2]
end Mine
namespace L2
open PySem PySem.Spec PyProof.Rows
variable{i:Int}{N:A8}{v:V}{xs:Ap}{CX:CXT}{P:Af}{w:World}{mg:A4}{base:Heap}{qual:Str}{scope:Scope}{f:Addr}{cd:Am}{A:Ao}{s:An}{E:XK}
section
variable{X:Cx}{K:A0}{σ:St}{H:Hp}{Q:VK}{D:Ends}
theorem rd_iq{P:Int->Prop}:iq (.int i) P=P i:=rfl
theorem rd_bq{b:Bool}{P:Bool->Prop}:bq (.bl b) P=P b:=rfl
theorem rd_nq{P:Prop}:nq .non P=P:=rfl
theorem rd_lq{P:V->Prop}:lq [v] P=P v:=rfl
theorem rd_vq{P:V->Prop}:vq (some (some v)) P=P v:=rfl
theorem rd_addI{i j:Int}:zbB K (.int i) (.int j) H Q=Q (.int (i+j)) H:=rfl
theorem rd_addS{i j:Str}:zbB K (.str i) (.str j) H Q=(i.length+j.length<=sizeLine/\Q (.str (i++j)) H):=rfl
theorem rd_mc{α β:Type}{f:α->β}{a:α}{l:List α}:List.map f (a::l)=f a::List.map f l:=rfl
theorem rd_mn{α β:Type}{f:α->β}:List.map f []=[]:=rfl
theorem rd_itT{A B:Prop}:(if true=true then A else B)=A:=rfl
theorem rd_itF{A B:Prop}:(if false=true then A else B)=B:=rfl
theorem rd_is0{A B:Prop}:(if V.non=V.non then A else B)=A:=rfl
theorem rd_is1{a:Addr}{A B:Prop}:(if V.ref a=V.non then A else B)=B:=rfl
theorem rd_is2{a:Int}{A B:Prop}:(if V.int a=V.non then A else B)=B:=rfl
theorem rd_in0{A B:Prop}:(if ¬V.non=V.non then A else B)=B:=rfl
theorem rd_in1{a:Addr}{A B:Prop}:(if ¬V.ref a=V.non then A else B)=A:=rfl
theorem rd_in2{a:Int}{A B:Prop}:(if ¬V.int a=V.non then A else B)=A:=rfl
theorem rd_sz0{P:Prop}:szl [] P=P:=rfl
section
variable{P:Prop}{a b c d e f g h i:V}
theorem rd_sz1:szl [a] P=P:=rfl
theorem rd_sz2:szl [a,b] P=P:=rfl
theorem rd_sz3:szl [a,b,c] P=P:=rfl
theorem rd_sz4:szl [a,b,c,d] P=P:=rfl
theorem rd_sz5:szl [a,b,c,d,e] P=P:=rfl
theorem rd_sz6:szl [a,b,c,d,e,f] P=P:=rfl
theorem rd_sz7:szl [a,b,c,d,e,f,g] P=P:=rfl
theorem rd_sz8:szl [a,b,c,d,e,f,g,h] P=P:=rfl
theorem rd_sz9:szl [a,b,c,d,e,f,g,h,i] P=P:=rfl
end
def ix(i:Nat){x:Str}(h:N[i]?=some x):N[i]?=some x:=h
noncomputable def zei:Nat->List Stmt->Bool
 |0,_=>false
 | n+1,b=>match b.getLast? with
  |some (.Return ..)=>true
  |some (.Raise ..)=>true
  |some (.Continue ..)=>true
  |some (.Break ..)=>true
  |some (.If _ b e _)=>zei n b&&zei n e
  |_=>false
noncomputable def zkG:Stmt->Bool
 | .For ..=>true
 | .While ..=>true
 | .Try ..=>true
 | .If _ b e _=>!zei 9 b && !zei 9 e
 |_=>false
def fa{X:Cx}{st:Stmt}{t:TS}(_:zkG st=true)(p:PS X st t):PS X st t:=p
structure Vr(X:Cx)(i:Nat)(x:Str):Prop where
 n:X.N[i]?=some x
 v:Vis X.env.scope x
 d:(x == ("__debug__":Str))=false
 c:(x == ("__classdict__":Str))=false
def pq{X:Cx}(i:Nat){x:Str}{pos:Pos}(h:Vr X i x:=by walk_at"v"):PE X (.Name x pos) (tVar i):=zjq h.n h.v h.d h.c
theorem rd_trB{b:Bool}{P:Bool->Hp->Prop}:trq K (.bl b) H P=P b H:=rfl
theorem rd_trI{P:Bool->Hp->Prop}:trq K (.int i) H P=∃k,zfH K (.int i) H k/\P k H:=rfl
theorem rd_trR{a:Addr}{P:Bool->Hp->Prop}:trq K (.ref a) H P=∃k,zfH K (.ref a) H k/\P k H:=rfl
theorem rd_trS{x:Str}{P:Bool->Hp->Prop}:trq K (.str x) H P=∃k,zfH K (.str x) H k/\P k H:=rfl
theorem rd_eqI{i j:Int}:zcZ K (.int i) (.int j) H Q=Q (.bl (decide (i=j))) H:=rfl
theorem rd_neI{i j:Int}:zeX K (.int i) (.int j) H Q=Q (.bl (!decide (i=j))) H:=rfl
theorem rd_eqS{i j:Str}:zcZ K (.str i) (.str j) H Q=Q (.bl (decide (i=j))) H:=rfl
theorem rd_eqB{i j:Bool}:zcZ K (.bl i) (.bl j) H Q=Q (.bl (decide (i=j))) H:=rfl
theorem rd_eTI{i j:Int}:zeY K (.int i) (.int j) H Q=if i=j then Q (.bl true) H else Q (.bl false) H:=rfl
theorem rd_eTS{i j:Str}:zeY K (.str i) (.str j) H Q=if i=j then Q (.bl true) H else Q (.bl false) H:=rfl
theorem rd_eTB{i j:Bool}:zeY K (.bl i) (.bl j) H Q=if i=j then Q (.bl true) H else Q (.bl false) H:=rfl
theorem rd_nTI{i j:Int}:zeW K (.int i) (.int j) H Q=if ¬i=j then Q (.bl true) H else Q (.bl false) H:=rfl
theorem rd_nTS{i j:Str}:zeW K (.str i) (.str j) H Q=if ¬i=j then Q (.bl true) H else Q (.bl false) H:=rfl
theorem rd_nTB{i j:Bool}:zeW K (.bl i) (.bl j) H Q=if ¬i=j then Q (.bl true) H else Q (.bl false) H:=rfl
theorem rd_eTR{a b:Addr}:zeY K (.ref a) (.ref b) H Q=zcZ K (.ref a) (.ref b) H Q:=rfl
theorem rd_nTR{a b:Addr}:zeW K (.ref a) (.ref b) H Q=zeX K (.ref a) (.ref b) H Q:=rfl
def rd_fvI{P:Str->Prop}{R:Str->Prop}:((∃j,V.int i=V.int j/\j.natAbs.log2<1920/\P (toString j))\/(∃y,V.int i=V.str y/\y.length<=sizeLine/\R y))↔i.natAbs.log2<1920/\P (toString i) :=
 ⟨λh=>h.elim (λ⟨_,e,h⟩=>by cases e;exact h) (λ⟨_,e,_⟩=>nomatch e),λh=>.inl ⟨i,rfl,h⟩⟩
def rd_strS{y:Str}{P:Str->Prop}:(∃z,V.str y=V.str z/\P z)↔P y:=⟨λ⟨_,e,h⟩=>by cases e;exact h,λh=>⟨y,rfl,h⟩⟩
theorem rd_c0:((0:Nat):Int)=0:=rfl
theorem rd_c1:((1:Nat):Int)=1:=rfl
theorem rd_c2:((2:Nat):Int)=2:=rfl
theorem rd_c3:((3:Nat):Int)=3:=rfl
theorem rd_c4:((4:Nat):Int)=4:=rfl
theorem rd_c5:((5:Nat):Int)=5:=rfl
theorem rd_c6:((6:Nat):Int)=6:=rfl
def wG{p:Addr}{k:Int}{j:Nat}{R:Hp->Prop}(h:H p=some (.lst xs))(e:ixN xs.length k=some j)(q:R (upd H p (.lst (xs.set j v)))):ziM (.ref p) (.int k) v H R:=⟨p,xs,k,j,rfl,rfl,h,e,q⟩
def QD{n:Nat}{k:Int}(h0:0<=k)(h1:k<n):ixN n k=some k.toNat:=by unfold ixN;rw[aq h0,aq h1]
theorem cx_K{K:A0}{outer:List Env}{H:Hp}:(Js CX P w K mg base N qual scope f cd A outer s H E).K=K:=rfl
theorem cx_mg{K:A0}{outer:List Env}{H:Hp}:(Js CX P w K mg base N qual scope f cd A outer s H E).mg=mg:=rfl
theorem cx_prog{K:A0}{outer:List Env}{H:Hp}:(Js CX P w K mg base N qual scope f cd A outer s H E).prog=P:=rfl
theorem cx_w{K:A0}{outer:List Env}{H:Hp}:(Js CX P w K mg base N qual scope f cd A outer s H E).w=w:=rfl
theorem cx_base{K:A0}{outer:List Env}{H:Hp}:(Js CX P w K mg base N qual scope f cd A outer s H E).base=base:=rfl
def rd_cpow{n:Int}:zkP 10 n↔0<=n/\n<=1000000:=⟨λh=>⟨h.1,h.2.1⟩,λh=>⟨h.1,h.2,by decide⟩⟩
def rd_isiI:zcY K [.int i,.ty "int"] H Q↔Q (.bl true) H:=by
 refine⟨λh=>?_,λq=>⟨_,_,_,_,rfl,.old (.int i),.inl ⟨_,rfl,Q4⟩,q⟩⟩;let⟨x,c,t,b,e,ty,k,q⟩:=h;cases e;rcases k with⟨u,hu,k⟩|⟨_,_,_,e,_⟩
 .cases hu;cases ty with|old ty=>cases ty;rw[Q4]at k;cases k;exact q
 .cases e
def rd_isiIB:zcY K [.int i,.ty "bool"] H Q↔Q (.bl false) H:=by
 refine⟨λh=>?_,λq=>⟨_,_,_,_,rfl,.old (.int i),.inl ⟨_,rfl,Qd⟩,q⟩⟩;let⟨x,c,t,b,e,ty,k,q⟩:=h;cases e;rcases k with⟨u,hu,k⟩|⟨_,_,_,e,_⟩
 .cases hu;cases ty with|old ty=>cases ty;rw[Qd]at k;cases k;exact q
 .cases e
def rd_isiB{i:Bool}:zcY K [.bl i,.ty "bool"] H Q↔Q (.bl true) H:=by
 refine⟨λh=>?_,λq=>⟨_,_,_,_,rfl,.old (.bl i),.inl ⟨_,rfl,Zp⟩,q⟩⟩;let⟨x,c,t,b,e,ty,k,q⟩:=h;cases e;rcases k with⟨u,hu,k⟩|⟨_,_,_,e,_⟩
 .cases hu;cases ty with|old ty=>cases ty;rw[Zp]at k;cases k;exact q
 .cases e
def rd_isiS{i:Str}:zcY K [.str i,.ty "str"] H Q↔Q (.bl true) H:=by
 refine⟨λh=>?_,λq=>⟨_,_,_,_,rfl,.old (.str i),.inl ⟨_,rfl,Q3⟩,q⟩⟩;let⟨x,c,t,b,e,ty,k,q⟩:=h;cases e;rcases k with⟨u,hu,k⟩|⟨_,_,_,e,_⟩
 .cases hu;cases ty with|old ty=>cases ty;rw[Q3]at k;cases k;exact q
 .cases e
def zaD{a C:Addr}{c:V}{u:Am}{b:Bool}(h:H a=some (QG a (.ref C)))(f:XI K C)(hu:zhb c=some u)(k:kitOne K (.ref C) u=some b)(q:Q (.bl b) H):zcY K [.ref a,c] H Q :=
 ⟨_,_,_,_,rfl,.exc h f,.inl ⟨u,hu,k⟩,q⟩
def qu{a b:Addr}{xs ys:Ap}(h1:SqL K H a xs)(h2:SqL K H b ys)(hl:xs.length+ys.length<=sizeLine)(q:∀p,H p=none->Q (.ref p) (upd H p (.lst (xs++ys)))):zbB K (.ref a) (.ref b) H Q :=
 show zgk K _ _ H Q from⟨a,b,xs,ys,rfl,rfl,h1,h2,hl,q⟩
def qe{n:Nat}(h:n<=1000):n<=sizeLine:=b7 (zn h)
def qL{a:Addr}{DN:St->Hp->Prop}{B:(St->Hp->Prop)->V->St->Hp->Prop}(Pv:Nat->St->Hp->Prop)(h0:Pv 0 σ H)(hl:∀i σ H,i<=xs.length->Pv i σ H->SqL K H a xs)(hs:∀i x σ H,xs[i]?=some x->Pv i σ H->B (Pv (i+1)) x σ H)(hd:∀σ H,Pv xs.length σ H->DN σ H) :
  ∃W:Nat->Nat->St->Hp->Prop,(∃m,W 0 m σ H)/\∀i m σ H,W i m σ H ->
   ((Itl K a).stop i H/\DN σ H)\/((Itl K a).go i H/\∃N:St->Hp->Prop,(∀σ' H',N σ' H'->∃m',m'<m/\W (i+1) m' σ' H')/\∀x H',(Itl K a).yld i H x H'->B N x σ H'):=by
 refine⟨λi m σ H=>m=xs.length-i/\i<=xs.length/\Pv i σ H,⟨xs.length,by simp,cj _,h0⟩,?_⟩;rintro i m σ H ⟨rfl,hi,p⟩;have q:=hl i σ H hi p;by_cases hlt:i<xs.length
 .refine .inr ⟨⟨xs,xs[i],q,by simp[hlt]⟩,Pv (i+1),λσ' H' p'=>⟨xs.length-(i+1),by lia,rfl,hlt,p'⟩,λx H' y=>?_⟩;let⟨e,y⟩:=y;subst e;exact hs i x σ _ (y xs q) p
 .have e:i=xs.length:=by lia
  subst e;exact .inl ⟨⟨xs,q,ar _⟩,hd σ H p⟩
def Q5{lo:Int}{n:Nat}{DN:St->Hp->Prop}{B:(St->Hp->Prop)->V->St->Hp->Prop}(Pv:Nat->St->Hp->Prop)(h0:Pv 0 σ H)(hs:∀i σ H,i<n->Pv i σ H->B (Pv (i+1)) (.int (lo+i)) σ H)(hd:∀σ H,Pv n σ H->DN σ H) :
  ∃W:Nat->Nat->St->Hp->Prop,(∃m,W 0 m σ H)/\∀i m σ H,W i m σ H ->
   ((Itr lo n).stop i H/\DN σ H)\/((Itr lo n).go i H/\∃N:St->Hp->Prop,(∀σ' H',N σ' H'->∃m',m'<m/\W (i+1) m' σ' H')/\∀x H',(Itr lo n).yld i H x H'->B N x σ H'):=by
 refine⟨λi m σ H=>m=n-i/\i<=n/\Pv i σ H,⟨n,by simp,cj _,h0⟩,?_⟩;rintro i m σ H ⟨rfl,hi,p⟩;by_cases hlt:i<n
 .refine .inr ⟨hlt,Pv (i+1),λσ' H' p'=>⟨n-(i+1),by lia,rfl,hlt,p'⟩,λx H' y=>?_⟩;let⟨e,y⟩:=y;subst e y;exact hs i σ _ hlt p
 .have e:i=n:=by lia
  subst e;exact .inl ⟨ar _,hd σ H p⟩
def jZ{a:Addr}{lo hi:A9}(h:SqL K H a xs)(q:∀p,H p=none->Q (.ref p) (upd H p (.lst (vh xs lo hi)))):zjj K (.ref a) lo hi H Q:=⟨a,xs,rfl,h,q⟩
def upd_keep{a b:Addr}{o u:HO}(h:H b=some u)(ha:H a=none):upd H a o b=some u:=by rw[rj (rn h ha)];exact h
def rq:=@upd_keep
def zf{a:Addr}{o:HO}(ha:H a=none):Same H (upd H a o):=λ_ _ h=>rq h ha
def rd_ixT{a:Addr}(h:H a=some (.tup xs))(e:atI xs i=some v)(q:Q v H):rIx K (.ref a) (.int i) H Q:=.inr (.inl ⟨a,xs,i,v,rfl,rfl,SqT.of h,e,q⟩)
def rA:=@rd_ixT
def zw{a:Addr}(h:SqL K H a xs)(e:atI xs i=some v)(q:Q v H):rIx K (.ref a) (.int i) H Q:=.inl ⟨a,xs,i,v,rfl,rfl,h,e,q⟩
def zkk{N0:St->Hp->Prop}{B:(St->Hp->Prop)->Prop}(h:B N0):∃N:St->Hp->Prop,(∀σ' H',N σ' H'->N0 σ' H')/\B N:=⟨N0,λ_ _ h=>h,h⟩
end
end L2
set_option hygiene false
local macro_rules | `(tactic| walk_at "v")=>`(tactic| exact ⟨rfl,by first|exact Or.inl rfl|exact Or.inr (Or.inl rfl)|exact Or.inr (Or.inr rfl),by decide,by decide⟩)
local macro_rules | `(tactic| walk_at "e") => do
 let f:=fun (s:String)=>Lean.mkIdent (if s.front == '.' then "L2"++s else s).toName
 let a ← (".start .tSIn .tSGet .sSPut .tSNew .tB .tFldX .sFldX .tRaiseI .tXIn .rd_mc .rd_mn List.length_cons List.length_nil cons_append List.nil_append .tSeq .tAsg .gName .tC .tOp .tUn .tTest .tIfS .tRet .tNext .tDrop .tNot .tAnd .tOr .tAndV .tOrV .tNotV .tCons .tNil .tTup .tLst .tBi .tBl .tVar ↓.rd_vq .rd_vq ↓.rd_iq .rd_iq ↓.rd_bq .rd_bq ↓.rd_nq .rd_nq ↓.rd_lq .rd_lq ↓.rd_itT .rd_itT ↓.rd_itF .rd_itF ↓.rd_is0 .rd_is0 ↓.rd_is1 .rd_is1 ↓.rd_is2 .rd_is2 ↓.rd_in0 .rd_in0 ↓.rd_in1 .rd_in1 ↓.rd_in2 .rd_in2 .rI .rI0 .rU .rT .ipI .tTru .rd_trB .rd_trI .rd_trR .rd_trS .rd_addI .rd_addS .rd_eqI .rd_neI .rd_eqS .rd_eqB .rd_eTI .rd_eTS .rd_eTB .rd_eTR .rd_nTI .rd_nTR .rd_nTS .rd_nTB .tFv .tJ0 .tJ1 .rd_fvI .rd_strS .rd_sz0 .rd_sz1 .rd_sz2 .rd_sz3 .rd_sz4 .rd_sz5 .rd_sz6 .rd_sz7 .gSub .tBreak .rd_sz8 .rd_sz9 .cx_K .cx_mg .cx_prog .cx_w .cx_base .gTup .gCons .gNil .tCl .tGl .tChain .tRaise .tTryAs .tTry2 .sFld .tFld .tMk .tMth .tBM .tSl .tNoPart .tPart .tClN .tMkN .tMthN .tBase .tYes .tRg1 .tIf .cxC_K .cxC_mg .cxC_prog .cxC_w .cxC_base eq_self reduceCtorEq decide_false Option.getD_some Option.getD_none List.getElem?_cons_zero List.getElem?_cons_succ List.set_cons_zero List.set_cons_succ List.replicate Nat.reduceSub Nat.reduceAdd true_and and_true .rd_cpow Int.reduceToNat Int.reducePow Int.reduceLT Int.reduceLE Int.reduceNeg .fdiv_pos .rd_isiI .rd_isiIB .rd_isiB .rd_isiS Bool.not_true Bool.not_false Bool.false_eq_true reduceIte decide_true decide_eq_true_eq Bool.true_eq_false Bool.not_eq_true' decide_eq_false_iff_not .rd_c0 .rd_c1 .rd_c2 .rd_c3 .rd_c4 .rd_c5 .rd_c6 Int.reduceEq not_true_eq_false not_false_eq_true Int.reduceMul Int.reduceAdd Int.reduceSub".splitOn " ").toArray.mapM fun s=>if s.front == '↓' then `(Lean.Parser.Tactic.simpLemma| ↓$(f (s.drop 1).toString):term) else `(Lean.Parser.Tactic.simpLemma| $(f s):term)
 `(tactic| (simp only [$a,*]))
local macro_rules | `(tactic| walk_at "r")=>`(tactic| try walk_at "e")
local macro_rules | `(tactic| walk_at "l")=>`(tactic| (refine L2.rd_ixT (by assumption) rfl ?_;try walk_at "e"))
local macro_rules | `(tactic| walk_at "g")=>`(tactic| first|assumption|exact L2.mul_okR (by decide) (by decide)|exact L2.mul_okL (by decide) (by decide)|exact L2.mul_okR (by lia) (by lia)|exact L2.mul_okL (by lia) (by lia)|exact L2.fd_ok (by decide) (by decide +kernel)|decide|lia|exact L2.fd_small (by lia) (by lia))
local macro_rules | `(tactic| walk_at "m")=>`(tactic| repeat (refine And.intro (by walk_at "g") ?_))
local macro_rules | `(tactic| walk_at "d")=>`(tactic| (walk_at "a";(try simp only [L2.tFor,L2.iSeq,L2.iRng1,L2.iRng3,L2.iStr,L2.iEnum,L2.iZip]);try walk_at "e"))
local macro_rules | `(tactic| walk_at "c")=>`(tactic| (walk_at "a";(try simp only [L2.tLc,L2.iSeq,L2.stC,L2.iRng1,L2.iRng3,L2.iStr,L2.iEnum,L2.iZip]);try walk_at "e"))
local macro_rules | `(tactic| walk_at "a")=>`(tactic| repeat (first|walk_at "e" | refine And.intro (by assumption) ?_|refine L2.nxt λ Nq_ hNq_=>?_|refine L2.useN (by assumption) ?_))
local macro_rules | `(tactic| walk_at "h")=>`(tactic| first|assumption|exact bb (by assumption)|exact L2.ne_of_none (by assumption) (by assumption)|exact bb (L2.ne_of_none (by assumption) (by assumption)))
local macro_rules | `(tactic| walk_at "f")=>`(tactic| first|assumption|exact L2.upd_same|(refine L2.upd_keep ?_ (by assumption);walk_at "f")|(rw [L2.upd_ne (by walk_at "h")];walk_at "f"))
set_option hygiene false
local macro_rules | `(tactic| walk_at "i")=>`(tactic| (intro vs H Q E h;first|(cases h;subst_vars;rfl)|repeat (first|(obtain ⟨rfl,_⟩:=h;rfl)|obtain ⟨_,h⟩:=h)))
local macro_rules | `(tactic| walk_at "j")=>`(tactic| intro cdv A outer s H vs Q EX hr h)
local macro_rules | `(tactic| walk_at "k")=>`(tactic| intro cdv A outer s H vs Q E hr h)
seal L2.PE L2.PT L2.PA L2.PS L2.PSs L2.PC L2.PG L2.PGs L2.PI L2.PO L2.PK
namespace K45
open PySem L2 Mine
local macro_rules | `(tactic| exists $t)=>`(tactic| (walk_at "a";refine $t))
local macro_rules | `(tactic| left)=>`(tactic| walk_at "a")
local macro_rules | `(tactic| right)=>`(tactic| first|decide +kernel|kernel_rfl)
local macro_rules | `(tactic| symm)=>`(tactic| decide +kernel)
local macro_rules | `(tactic| ext)=>`(tactic| (clear p9 pR;subst pQ))
local macro_rules | `(‹$f $x*›)=>`((zq ⟨rfl,rfl,rfl⟩ hr (za $f $x*)))
variable{H:Hp}{bs:A1}{p:A5}{i k m j:Nat}{v:V}{n x L:Int}{vs:Ap}{ns:A6}{b:Addr}{rows:A8}{nm:Str}{fs:Ar}{wd:Wd}{o:HO}
noncomputable def top(i:Nat):Stmt:=PySem.Challenge.pw_beltshares_k45_reported.main.body.getD i (.Pass ⟨0,0,0,0⟩)
local macro_rules | `(tactic| walk_at "b")=>`(tactic| exact ⟨rfl,rfl,rfl,by symm,rfl,by symm,by symm⟩)
noncomputable abbrev xT:Stmt:=zZ (top 7) 0
def Xn:FnScope ["self","line"] ["self","line"] (zi xT):=by walk_at"b"
noncomputable abbrev vE:Stmt:=zZ (top 13) 0
def zad:FnScope ["self","room","pace"] ["self","room","pace"] (zi vE):=by walk_at"b"
noncomputable abbrev Z3:Stmt:=top 18
def Wx:FnScope ["pace","least"] ["pace","least"] (zi Z3):=by walk_at"b"
noncomputable abbrev Z4:Stmt:=top 19
def Wz:FnScope ["kind"] ["kind"] (zi Z4):=by walk_at"b"
noncomputable abbrev Z1:Stmt:=top 20
def Wv:FnScope ["belts"] ["belts"] (zi Z1):=by walk_at"b"
noncomputable abbrev Zl:Stmt:=top 21
def Xg:FnScope ["wanted","side","step","place"] ["wanted","side"] (zi Zl):=by walk_at"b"
noncomputable abbrev we:Stmt:=top 22
def ZV:FnScope ["head","free","side"] ["head","free","side"] (zi we):=by walk_at"b"
noncomputable abbrev vB:Stmt:=zZ (top 23) 0
def zac:FnScope ["self","ins","outs"] ["self","ins","outs"] (zi vB):=by walk_at"b"
noncomputable abbrev xQ:Stmt:=zZ (top 24) 0
def Xk:FnScope ["self","out","pace","kinds","kind"] ["self","out","pace","kinds"] (zi xQ):=by walk_at"b"
noncomputable abbrev wX:Stmt:=zZ (top 24) 1
def Qs:FnScope ["self","heads","free","turn","side"] ["self","heads","free","turn","side"] (zi wX):=by walk_at"b"
noncomputable abbrev wW:Stmt:=zZ (top 24) 2
def Qr:FnScope ["self"] ["self"] (zi wW):=by walk_at"b"
noncomputable abbrev wE:Stmt:=zZ (top 25) 0
def WD:FnScope ["self","into","pace"] ["self","into","pace"] (zi wE):=by walk_at"b"
noncomputable abbrev vD:Stmt:=zZ (top 25) 1
def Jk:FnScope ["self","heads","free","turn","side"] ["self","heads","free","turn","side"] (zi vD):=by walk_at"b"
noncomputable abbrev vC:Stmt:=zZ (top 25) 2
def Jj:FnScope ["self"] ["self"] (zi vC):=by walk_at"b"
noncomputable abbrev xR:Stmt:=zZ (top 26) 0
def Xl:FnScope ["self","into","outs"] ["self","into","outs"] (zi xR):=by walk_at"b"
noncomputable abbrev wZ:Stmt:=zZ (top 26) 1
def Qu:FnScope ["self","heads","free","turn","side","place"] ["self","heads","free","turn","side"] (zi wZ):=by walk_at"b"
noncomputable abbrev wY:Stmt:=zZ (top 26) 2
def Qt:FnScope ["self"] ["self"] (zi wY):=by walk_at"b"
noncomputable abbrev jt:Stmt:=zZ (top 27) 0
def Zg:FnScope ["self","into","outs"] ["self","into","outs"] (zi jt):=by walk_at"b"
noncomputable abbrev jR:Stmt:=zZ (top 27) 1
def vd:FnScope ["self","heads","free","turn","side","place"] ["self","heads","free","turn","side"] (zi jR):=by walk_at"b"
noncomputable abbrev jQ:Stmt:=zZ (top 27) 2
def vb:FnScope ["self"] ["self"] (zi jQ):=by walk_at"b"
noncomputable abbrev wD:Stmt:=zZ (top 28) 0
def WC:FnScope ["self","into","outs","kind"] ["self","into","outs","kind"] (zi wD):=by walk_at"b"
noncomputable abbrev vA:Stmt:=zZ (top 28) 1
def Ji:FnScope ["self","heads","free","turn","side","place"] ["self","heads","free","turn","side"] (zi vA):=by walk_at"b"
noncomputable abbrev xE:Stmt:=zZ (top 28) 2
def ZA:FnScope ["self","kind"] ["self","kind"] (zi xE):=by walk_at"b"
noncomputable abbrev vz:Stmt:=zZ (top 28) 3
def Jh:FnScope ["self"] ["self"] (zi vz):=by walk_at"b"
noncomputable abbrev xS:Stmt:=zZ (top 29) 0
def Xm:FnScope ["self","ins","out"] ["self","ins","out"] (zi xS):=by walk_at"b"
noncomputable abbrev jY:Stmt:=zZ (top 29) 1
def Qw:FnScope ["self","heads","free","turn","side","place"] ["self","heads","free","turn","side"] (zi jY):=by walk_at"b"
noncomputable abbrev w6:Stmt:=zZ (top 29) 2
def Qv:FnScope ["self"] ["self"] (zi w6):=by walk_at"b"
noncomputable abbrev Xq:Stmt:=top 31
def zeN:FnScope ["one","other","part","rest","left"] ["one","other"] (zi Xq):=by walk_at"b"
noncomputable abbrev zae:Stmt:=top 32
def zf9:FnScope ["top","bottom","part"] ["top","bottom"] (zi zae):=by walk_at"b"
noncomputable abbrev ZZ:Stmt:=top 33
def Wt:FnScope ["one","top","bottom"] ["one"] (zi ZZ):=by walk_at"b"
noncomputable abbrev WY:Stmt:=top 34
def zcJ:FnScope ["paces","number","pace"] ["paces"] (zi WY):=by walk_at"b"
noncomputable abbrev xO:Stmt:=top 38
def Xf:FnScope ["word"] ["word"] (zi xO):=by walk_at"b"
noncomputable abbrev Z2:Stmt:=top 42
def Ww:FnScope ["belts","knots"] ["belts","knots"] (zi Z2):=by walk_at"b"
noncomputable abbrev xD:Stmt:=top 43
def Zz:FnScope ["named","size"] ["named","size"] (zi xD):=by walk_at"b"
noncomputable abbrev jP:Stmt:=zZ (top 44) 0
def V9:FnScope ["self","belts","knots","fed","taken","knot"] ["self","belts","knots"] (zi jP):=by walk_at"b"
noncomputable abbrev wC:Stmt:=zZ (top 44) 2
def WA:FnScope ["self","belt"] ["self","belt"] (zi wC):=by walk_at"b"
noncomputable abbrev xP:Stmt:=zZ (top 44) 3
def Xj:FnScope ["self"] ["self"] (zi xP):=by walk_at"b"
noncomputable abbrev xp:Stmt:=zZ (top 44) 4
def Jg:FnScope ["self"] ["self"] (zi xp):=by walk_at"b"
noncomputable abbrev vy:Stmt:=zZ (top 44) 5
def zaa:FnScope ["self","paces","number","pace"] ["self"] (zi vy):=by walk_at"b"
noncomputable abbrev QV:Stmt:=top 46
def V7:FnScope ["name","numbers","many"] ["name","numbers"] (zi QV):=by walk_at"b"
noncomputable abbrev vt:Stmt:=top 47
def V4:FnScope ["row","words","numbers"] ["row"] (zi vt):=by walk_at"b"
noncomputable abbrev QS:Stmt:=top 48
def V2:FnScope ["text","belts","knots","place","row","part"] ["text"] (zi QS):=by walk_at"b"
noncomputable abbrev jx:Stmt:=zZ (top 50) 0
def WB:FnScope ["self","turn","cells","sides","gone"] ["self","turn","cells","sides","gone"] (zi jx):=by walk_at"b"
noncomputable abbrev WZ:Stmt:=top 51
def zcK:FnScope ["work","ware","kinds"] ["work","ware"] (zi WZ):=by walk_at"b"
noncomputable abbrev QT:Stmt:=top 52
def V5:FnScope ["knot"] ["knot"] (zi QT):=by walk_at"b"
noncomputable abbrev jN:Stmt:=top 53
def Xi:FnScope ["work","cells","sides"] ["work"] (zi jN):=by walk_at"b"
noncomputable abbrev vx:Stmt:=top 54
def Jf:FnScope ["state"] ["state"] (zi vx):=by walk_at"b"
noncomputable abbrev ZC:Stmt:=top 56
def zbj:FnScope ["work","cells"] ["work","cells"] (zi ZC):=by walk_at"b"
noncomputable abbrev Z0:Stmt:=top 57
def Wu:FnScope ["work","state","number"] ["work","state","number"] (zi Z0):=by walk_at"b"
noncomputable abbrev wz:Stmt:=top 58
def zbg:FnScope ["work","state","beat_place","kinds","places"] ["work","state"] (zi wz):=by walk_at"b"
noncomputable abbrev wB:Stmt:=top 60
def zbk:FnScope ["work","state","knot","ends"] ["work","state","knot"] (zi wB):=by walk_at"b"
noncomputable abbrev ZX:Stmt:=top 61
def Wo:FnScope ["state","number","from_belt","ware"] ["state","number","from_belt"] (zi ZX):=by walk_at"b"
noncomputable abbrev Va:Stmt:=top 62
def zcL:FnScope ["belts","place"] ["belts","place"] (zi Va):=by walk_at"b"
noncomputable abbrev wV:Stmt:=top 63
def Qq:FnScope ["knot","chosen"] ["knot","chosen"] (zi wV):=by walk_at"b"
noncomputable abbrev zdY:Stmt:=top 64
def zjd:FnScope ["work","state","number","knot","free","chosen","from_belt","to_belt","ware"] ["work","state","number"] (zi zdY):=by walk_at"b"
noncomputable abbrev Vb:Stmt:=top 65
def zcM:FnScope ["work","state","moves","number","move"] ["work","state"] (zi Vb):=by walk_at"b"
noncomputable abbrev QU:Stmt:=top 66
def V6:FnScope ["cells","place"] ["cells"] (zi QU):=by walk_at"b"
noncomputable abbrev vp:Stmt:=top 67
def V3:FnScope ["work","state","moves","number","belt"] ["work","state"] (zi vp):=by walk_at"b"
noncomputable abbrev Xp:Stmt:=top 68
def zbi:FnScope ["work","state","after"] ["work","state"] (zi Xp):=by walk_at"b"
noncomputable abbrev ZY:Stmt:=top 70
def Ws:FnScope ["work","limit","state","state_by_shape","turn","shape"] ["work","limit"] (zi ZY):=by walk_at"b"
noncomputable abbrev ZB:Stmt:=top 71
def zbh:FnScope ["work","limit","ends"] ["work","limit"] (zi ZB):=by walk_at"b"
noncomputable abbrev vv:Stmt:=top 72
def V8:FnScope ["before","after","growth","old","new"] ["before","after"] (zi vv):=by walk_at"b"
noncomputable abbrev xC:Stmt:=top 74
def V1:FnScope ["work","limit","ends","length","shares","counts"] ["work","limit"] (zi xC):=by walk_at"b"
noncomputable abbrev Zk:Stmt:=top 76
def Xe:FnScope ["work","limit","ends","counts"] ["work","limit"] (zi Zk):=by walk_at"b"
noncomputable abbrev ww:Stmt:=top 77
def Wq:FnScope ["work","limit","state"] ["work","limit"] (zi ww):=by walk_at"b"
noncomputable abbrev Zm:Stmt:=top 78
def Xh:FnScope ["state","belt","cells"] ["state"] (zi Zm):=by walk_at"b"
noncomputable abbrev ZW:Stmt:=top 79
def Wn:FnScope ["work","state","belt","knot"] ["work","state","belt"] (zi ZW):=by walk_at"b"
noncomputable abbrev xM:Stmt:=top 80
def Xd:FnScope ["work","limit","state","way","belt","ring"] ["work","limit"] (zi xM):=by walk_at"b"
noncomputable abbrev wx:Stmt:=top 82
def Wr:FnScope ["work","limit","rows","shares","number","knot","share"] ["work","limit"] (zi wx):=by walk_at"b"
noncomputable abbrev wu:Stmt:=top 83
def Wp:FnScope ["work","limit","turn","found","waits","ring"] ["work","limit"] (zi wu):=by walk_at"b"
noncomputable abbrev Xo:Stmt:=top 84
def zeM:FnScope ["text","limit","work","found","begin","length","rows"] ["text","limit"] (zi Xo):=by walk_at"b"
noncomputable abbrev zbr:Stmt:=top 86
def zeR:FnScope ["_law_cells","_law_k"] ["_law_cells","_law_k"] (zi zbr):=by walk_at"b"
noncomputable abbrev zbp:Stmt:=top 87
def zeP:FnScope ["_law_number","_law_prime","_law_many"] ["_law_number","_law_prime","_law_many"] (zi zbp):=by walk_at"b"
noncomputable abbrev zaf:Stmt:=top 88
def zga:FnScope ["_law_word","_law_numbers"] ["_law_word","_law_numbers"] (zi zaf):=by walk_at"b"
noncomputable abbrev zbs:Stmt:=top 89
def zeS:FnScope ["_law_number","_law_room"] ["_law_number"] (zi zbs):=by walk_at"b"
noncomputable abbrev Vc:Stmt:=top 90
def zcN:FnScope ["_law_number","_law_into","_law_outs","_law_kind","_law_pick"] ["_law_number","_law_into","_law_outs","_law_kind"] (zi Vc):=by walk_at"b"
noncomputable abbrev Ve:Stmt:=top 91
def zcQ:FnScope ["_law_belts","_law_knots","_law_loose","_law_loop","_law_number","_law_kind","_law_at","_law_pick","_law_into","_law_outs"] ["_law_belts","_law_knots","_law_loose","_law_loop","_law_number","_law_kind"] (zi Ve):=by walk_at"b"
noncomputable abbrev zbo:Stmt:=top 92
def zeO:FnScope ["_law_cells","_law_top","_law_lead","_law_kinds","_law_belts","_law_first","_law_loose","_law_loop","_law_knots","_law_number","_law_at","_law_cut"] ["_law_cells","_law_top"] (zi zbo):=by walk_at"b"
noncomputable abbrev Xr:Stmt:=top 93
def zbl:FnScope ["_law_text_here","_law_number","_law_rows","_law_at"] ["_law_text_here","_law_number"] (zi Xr):=by walk_at"b"
noncomputable abbrev zbq:Stmt:=top 94
def zeQ:FnScope ["_law_text_here","_law_work","_law_caught","e"] ["_law_text_here"] (zi zbq):=by walk_at"b"
noncomputable abbrev QX:Stmt:=top 95
def zab:FnScope ["_law_text_here","_law_due_here","_law_caught","e"] ["_law_text_here","_law_due_here"] (zi QX):=by walk_at"b"
noncomputable abbrev Vd:Stmt:=top 96
def zcO:FnScope ["_law_work","_law_limit","_law_found"] ["_law_work","_law_limit"] (zi Vd):=by walk_at"b"
noncomputable abbrev Xs:Stmt:=top 97
def zbm:FnScope ["_law_work","_law_limit","_law_rows","_law_shares_here","_law_k"] ["_law_work","_law_limit"] (zi Xs):=by walk_at"b"
noncomputable abbrev zdZ:Stmt:=top 98
def zgb:FnScope ["_law_work","_law_limit","_law_found","_law_rows","_law_turn","_law_way","_law_ring"] ["_law_work","_law_limit","_law_found"] (zi zdZ):=by walk_at"b"
noncomputable abbrev ZD:Stmt:=top 99
def zbn:FnScope ["_law_cells","_law_belts"] ["_law_cells"] (zi ZD):=by walk_at"b"
noncomputable abbrev Qx:Stmt:=top 100
def zcP:FnScope ["_law_cells","_law_pick","_law_first","_law_rows","_law_k","_law_kinds"] ["_law_cells","_law_pick"] (zi Qx):=by walk_at"b"
noncomputable abbrev Vf:Stmt:=top 101
def zcR:FnScope ["_law_cells","_law_number","_law_pick","_law_limit"] ["_law_cells"] (zi Vf):=by walk_at"b"
noncomputable abbrev Vg:Stmt:=top 102
def zcS:FnScope ["_law_text_here","_law_limit"] ["_law_text_here","_law_limit"] (zi Vg):=by walk_at"b"
noncomputable abbrev QW:Stmt:=top 103
def zjc:FnScope ["_law_script","_law_cells","_law_text_here","_law_limit","_law_work","_law_caught","_law_found","_law_told"] ["_law_script"] (zi QW):=by walk_at"b"
local macro_rules | `(tactic| walk_at "T")=>`(tactic| (have iN:=T.iN;have ot:=T.ot;have oU:=T.oU;have kS:=T.kS;have pF:=T.pF;have pG:=T.pG;have ni:=T.ni;have k9:=T.k9;have kF:=T.kF;have oH:=T.oH;have ou:=T.ou;have pH:=T.pH;have mT:=T.mT))
structure Ad where
 b:Addr
 c:Addr
 d:Addr
 e:Addr
 f:Addr
 g:Addr
 h:Addr
 i:Addr
 j:Addr
 k:Addr
 l:Addr
 m:Addr
 n:Addr
 o:Addr
 p:Addr
 q:Addr
 r:Addr
 s:Addr
abbrev KOy(K:A0)(c d:Addr)(b:Bool):Prop:=kitOne K (.ref c) (.ref d)=some b
structure Txt(K:A0)(mg:A4)(a:Ad):Prop where
 mU:FA K mg "check_pace" Z3 ["pace","least"]
 mV:FA K mg "check_kind" Z4 ["kind"]
 mW:FA K mg "check_ways" Z1 ["belts"]
 mD:FA K mg "first_place" Zl ["wanted","side"]
 lj:FA K mg "place_for_ware" we ["head","free","side"]
 pd:FA K mg "common" Xq ["one","other"]
 pI:FA K mg "ratio" zae ["top","bottom"]
 mX:FA K mg "ratio_text" ZZ ["one"]
 oI:FA K mg "lasting" WY ["paces"]
 mE:FA K mg "number_from" xO ["word"]
 mY:FA K mg "check_size" Z2 ["belts","knots"]
 kT:FA K mg "check_each_once" xD ["named","size"]
 nS:FA K mg "made_part" QV ["name","numbers"]
 nT:FA K mg "part_from" vt ["row"]
 nU:FA K mg "read_work" QS ["text"]
 oJ:FA K mg "kind_of" WZ ["work","ware"]
 nV:FA K mg "no_counts" QT ["knot"]
 mF:FA K mg "empty_state" jN ["work"]
 lZ:FA K mg "copied_state" vx ["state"]
 oy:FA K mg "kinds_in" ZC ["work","cells"]
 mZ:FA K mg "kind_place" Z0 ["work","state","number"]
 oz:FA K mg "shape_of" wz ["work","state"]
 oA:FA K mg "heads_of" wB ["work","state","knot"]
 m4:FA K mg "taken_ware" ZX ["state","number","from_belt"]
 oK:FA K mg "belt_at" Va ["belts","place"]
 lF:FA K mg "counted_place" wV ["knot","chosen"]
 pP:FA K mg "act" zdY ["work","state","number"]
 oM:FA K mg "act_all" Vb ["work","state"]
 nW:FA K mg "move_belt" QU ["cells"]
 nX:FA K mg "pass_turn" vp ["work","state"]
 oB:FA K mg "one_turn" Xp ["work","state"]
 m5:FA K mg "round_ends" ZY ["work","limit"]
 oC:FD K mg "round_of" ZB ["work","limit"] [.int 200]
 nY:FA K mg "growth_of" vv ["before","after"]
 nZ:FD K mg "shares_of" xC ["work","limit"] [.int 200]
 mG:FA K mg "still_state" Zk ["work","limit"]
 m6:FD K mg "still_from" ww ["work","limit"] [.int 200]
 mH:FA K mg "first_laden" Zm ["state"]
 m7:FA K mg "waited_for" ZW ["work","state","belt"]
 mI:FD K mg "waiting_way" xM ["work","limit"] [.int 200]
 m8:FA K mg "share_rows" wx ["work","limit"]
 m9:FA K mg "still_rows" wu ["work","limit"]
 nh:FD K mg "report" Xo ["text","limit"] [.int 200]
 ph:FA K mg "_law_cell" zbr ["_law_cells","_law_k"]
 pi:FA K mg "_law_some" zbp ["_law_number","_law_prime","_law_many"]
 pJ:FA K mg "_law_row" zaf ["_law_word","_law_numbers"]
 pj:FA K mg "_law_belt" zbs ["_law_number"]
 oN:FA K mg "_law_split" Vc ["_law_number","_law_into","_law_outs","_law_kind"]
 oO:FA K mg "_law_grown" Ve ["_law_belts","_law_knots","_law_loose","_law_loop","_law_number","_law_kind"]
 pv:FA K mg "_law_text" zbo ["_law_cells","_law_top"]
 oE:FA K mg "_law_spoilt" Xr ["_law_text_here","_law_number"]
 pw:FA K mg "_law_read" zbq ["_law_text_here"]
 n6:FA K mg "_law_refused" QX ["_law_text_here","_law_due_here"]
 oP:FA K mg "_law_round" Vd ["_law_work","_law_limit"]
 oF:FA K mg "_law_shares" Xs ["_law_work","_law_limit"]
 pK:FA K mg "_law_due" zdZ ["_law_work","_law_limit","_law_found"]
 oG:FA K mg "_law_closed" ZD ["_law_cells"]
 oQ:FA K mg "_law_lanes" Qx ["_law_cells","_law_pick"]
 oR:FA K mg "_law_built" Vf ["_law_cells"]
 oS:FA K mg "_law_asked" Vg ["_law_text_here","_law_limit"]
 iN:mg "len"=none
 ot:mg "range"=none
 oU:mg "list"=none
 kS:mg "abs"=none
 pF:mg "int"=none
 pG:mg "all"=none
 ni:mg "sorted"=none
 k9:mg "enumerate"=none
 kF:mg "isinstance"=none
 oH:mg "max"=none
 ou:mg "tuple"=none
 pH:mg "zip"=none
 mT:mg "str"=none
 ka:mg "WorkError"=some (.ref a.b)
 kG:mg "NoRatio"=some (.ref a.c)
 mz:mg "BadBelt"=some (.ref a.d)
 iM:mg "BadKnot"=some (.ref a.e)
 i9:mg "BadWork"=some (.ref a.f)
 i5:mg "BadRow"=some (.ref a.g)
 kH:mg "TooLong"=some (.ref a.h)
 px:mg "Moving"=some (.ref a.i)
 nj:mg "Belt"=some (.ref a.j)
 nA:mg "Knot"=some (.ref a.k)
 ko:mg "Source"=some (.ref a.l)
 kh:mg "Drain"=some (.ref a.m)
 pA:mg "Parter"=some (.ref a.n)
 mJ:mg "FirstParter"=some (.ref a.o)
 ow:mg "Sieve"=some (.ref a.p)
 nB:mg "Joiner"=some (.ref a.q)
 pO:mg "Work"=some (.ref a.r)
 pL:mg "State"=some (.ref a.s)
 iO:Cls K a.j
 kb:NoAttr K a.j "room"
 iT:NoAttr K a.j "pace"
 oV:WI K a.j
 n9:FK K a.j "Belt.__init__" vE ["self","room","pace"]
 iw:FB K mg "Knot" "__init__" "Knot.__init__" vB ["self","ins","outs"]
 iA:Cls K a.l
 iI:NoAttr K a.l "pace"
 iF:NoAttr K a.l "kinds"
 kI:NoAttr K a.l "ins"
 iX:NoAttr K a.l "outs"
 pB:WI K a.l
 mK:FK K a.l "Source.__init__" xQ ["self","out","pace","kinds"]
 lH:FM K a.l "choice" "Source.choice" wX ["self","heads","free","turn","side"]
 lI:FM K a.l "copied" "Source.copied" wW ["self"]
 iG:Cls K a.m
 iD:NoAttr K a.m "pace"
 ke:NoAttr K a.m "ins"
 kJ:NoAttr K a.m "outs"
 pM:WI K a.m
 nC:FK K a.m "Drain.__init__" wE ["self","into","pace"]
 l5:FM K a.m "choice" "Drain.choice" vD ["self","heads","free","turn","side"]
 l8:FM K a.m "copied" "Drain.copied" vC ["self"]
 iK:Cls K a.n
 i6:NoAttr K a.n "ins"
 iJ:NoAttr K a.n "outs"
 pC:WI K a.n
 mL:FK K a.n "Parter.__init__" xR ["self","into","outs"]
 lJ:FM K a.n "choice" "Parter.choice" wZ ["self","heads","free","turn","side"]
 lK:FM K a.n "copied" "Parter.copied" wY ["self"]
 iz:Cls K a.o
 iH:NoAttr K a.o "ins"
 iE:NoAttr K a.o "outs"
 mM:WI K a.o
 kK:FK K a.o "FirstParter.__init__" jt ["self","into","outs"]
 kq:FM K a.o "choice" "FirstParter.choice" jR ["self","heads","free","turn","side"]
 kr:FM K a.o "copied" "FirstParter.copied" jQ ["self"]
 iB:Cls K a.p
 i7:NoAttr K a.p "kind"
 kg:NoAttr K a.p "ins"
 iP:NoAttr K a.p "outs"
 pN:WI K a.p
 nF:FK K a.p "Sieve.__init__" wD ["self","into","outs","kind"]
 l9:FM K a.p "choice" "Sieve.choice" vA ["self","heads","free","turn","side"]
 kU:FM K a.p "place_for" "Sieve.place_for" xE ["self","kind"]
 ma:FM K a.p "copied" "Sieve.copied" vz ["self"]
 iL:Cls K a.q
 iQ:NoAttr K a.q "ins"
 iY:NoAttr K a.q "outs"
 pD:WI K a.q
 mO:FK K a.q "Joiner.__init__" xS ["self","ins","out"]
 lM:FM K a.q "choice" "Joiner.choice" jY ["self","heads","free","turn","side"]
 lN:FM K a.q "copied" "Joiner.copied" w6 ["self"]
 iu:Cls K a.r
 iR:NoAttr K a.r "belts"
 io:NoAttr K a.r "knots"
 oa:FK K a.r "Work.__init__" jP ["self","belts","knots"]
 nH:FM K a.r "taker" "Work.taker" wC ["self","belt"]
 mP:FM K a.r "drains" "Work.drains" xP ["self"]
 md:FM K a.r "sources" "Work.sources" xp ["self"]
 og:FM K a.r "beat" "Work.beat" vy ["self"]
 ad:Cls K a.s
 ip:NoAttr K a.s "turn"
 ir:NoAttr K a.s "cells"
 iC:NoAttr K a.s "sides"
 iy:NoAttr K a.s "gone"
 nI:FK K a.s "State.__init__" jx ["self","turn","cells","sides","gone"]
 oh:∃t,mg "MOST_ROOM"=some (.int 6 t)
 ld:∃t,mg "MOST_PACE"=some (.int 4 t)
 nJ:∃t,mg "MOST_KINDS"=some (.int 6 t)
 mQ:∃t,mg "FEWEST_WAYS"=some (.int 2 t)
 oi:∃t,mg "MOST_WAYS"=some (.int 4 t)
 oW:∃t,mg "FIGURES"=some (.str "0123456789" t)
 me:∃t,mg "MOST_FIGURES"=some (.int 30 t)
 nK:∃t,mg "MOST_BELTS"=some (.int 24 t)
 nN:∃t,mg "MOST_KNOTS"=some (.int 24 t)
 kz:FI K a.g "BadRow.__init__" xT ["self","line"]
 oj:XB K a.b
 mf:XS K a.g "line"
 kA:findIn K (.ref a.g) "line"=some none
 iU:XI K a.g
 oX:XC K a.d
 iV:XC K a.e
 oY:XC K a.c
 mB:XC K a.f
 ku:XI K a.f
 oZ:XC K a.h
 pE:XC K a.i
 o6:subIn K (.ref a.d) (.type "BaseException")=some true
 kX:kitCls K (.ref a.d) (.ref a.d)=some true
 kY:kitCls K (.ref a.e) (.ref a.d)=some false
 o8:subIn K (.ref a.e) (.type "BaseException")=some true
 kZ:kitCls K (.ref a.e) (.ref a.e)=some true
 mC:subIn K (.ref a.h) (.type "BaseException")=some true
 iZ:kitCls K (.ref a.h) (.ref a.h)=some true
 lh:subIn K (.ref a.b) (.type "BaseException")=some true
 iS:kitCls K (.ref a.f) (.ref a.b)=some true
 iW:kitCls K (.ref a.g) (.ref a.b)=some true
 om:kitOne K (.type "NoneType") (.ref a.k)=some false
 oq:kitOne K (.type "NoneType") (.ref a.j)=some false
 lO:KOy K a.l a.m false
 mh:KOy K a.m a.m true
 lP:KOy K a.n a.m false
 kx:KOy K a.o a.m false
 mj:KOy K a.p a.m false
 lQ:KOy K a.q a.m false
 ly:KOy K a.l a.l true
 lR:KOy K a.m a.l false
 lA:KOy K a.n a.l false
 ki:KOy K a.o a.l false
 lS:KOy K a.p a.l false
 lB:KOy K a.q a.l false
 nP:KOy K a.j a.k false
 ml:KOy K a.l a.k true
 mR:KOy K a.m a.k true
 mn:KOy K a.n a.k true
 kD:KOy K a.o a.k true
 mS:KOy K a.p a.k true
 mq:KOy K a.q a.k true
 nQ:KOy K a.j a.j true
 lC:KOy K a.l a.q false
 lT:KOy K a.m a.q false
 lD:KOy K a.n a.q false
 kj:KOy K a.o a.q false
 lU:KOy K a.p a.q false
 lE:KOy K a.q a.q true
 lV:KOy K a.l a.p false
 mt:KOy K a.m a.p false
 lW:KOy K a.n a.p false
 ky:KOy K a.o a.p false
 my:KOy K a.p a.p true
 lY:KOy K a.q a.p false
 i0:KOy K a.f a.g false
 i8:KOy K a.g a.g true
 kR:KOy K a.f a.f true
 k8:KOy K a.g a.f false
section
variable{P:Af}{w:World}{K:A0}{mg:A4}{base:Heap}{a:Ad}{f:Addr}{fd:FuncData}
def at0{α:Type}{x:α}{xs:List α}:atI (x::xs) 0=some x:=by
 have:=zJ (xs:=x::xs) (j:=0) rfl;simpa using this
noncomputable def iv(ns:A6):List V:=ns.map V.int
noncomputable def kf(l1 l2:Addr):List (Str×V):=qw "outs" (.ref l2) (qw "ins" (.ref l1) [])
def zjH{l1 l2:Addr}:(kf l1 l2).lookup ("ins":Str)=some (.ref l1):=by
 unfold kf;rw[qv,am (by symm),qv,aq rfl]
def zh9{l1 l2:Addr}:(kf l1 l2).lookup ("outs":Str)=some (.ref l2):=by
 unfold kf;rw[qv,aq rfl]
def zdj{l1 l2:Addr}:(kf l1 l2).length<1000:=by
 unfold kf;have:=xH "outs" (V.ref l2) (qw "ins" (.ref l1) []);have:=xH "ins" (V.ref l1) [];simp at *;lia
def zkz{l1 l2:Addr}{m:Str}(h1:m≠"ins")(h2:m≠"outs"):(kf l1 l2).lookup m=none:=by
 unfold kf;rw[qv,am h2,qv,am h1];rfl
def Own(H H':Hp)(y:Addr):Prop:=∀b o,b≠y->H b=some o->H' b=some o
def Same.own{H H':Hp}{y:Addr}(s:Same H H'):Own H H' y:=λb o _ h=>s b o h
def Own.trans{H1 H2 H3:Hp}{y:Addr}(s:Own H1 H2 y)(t:Own H2 H3 y):Own H1 H3 y:=λb o hb h=>t b o hb (s b o hb h)
def jq{y:Addr}:Own H (upd H y o) y:=λb u hb h=>by rw[rj hb];exact h
def Own.of_new{H H':Hp}{y dx:Addr}{o p:HO}(hy:H y=none)(hd:H dx=none)(s:Own (upd (upd H dx o) y p) H' y):Same H H':=λb u h =>
 s b u (rn h hy) (by rw[rj (rn h hy),rj (rn h hd)];exact h)
def zI{p b:Addr}(h:upd H p o b=none):H b=none:=by
 by_cases e:b=p
 .subst e;rw[rh]at h;cases h
 .rw[rj e]at h;exact h
def JX(K:A0):Sp:=λvs H Q _=>∃(y C dx i o:Addr)(xs ys:Ap),vs=[.ref y,.ref i,.ref o]/\H y=some (.ins C dx [])/\Cls K C/\NoAttr K C "ins"/\NoAttr K C "outs"/\SqL K H i xs/\SqL K H o ys/\i≠y/\o≠y /\
 ∀H' l1 l2,Own H H' y->H' y=some (.ins C dx (kf l1 l2))->H' l1=some (.lst xs)->H' l2=some (.lst ys)->H l1=none->H l2=none->Q .non H'
def zdT{H H':Hp}{y l:Addr}{xs:Ap}(h:SqL K H l xs)(s:Own H H' y)(hl:l≠y):SqL K H' l xs:=by
 rcases h with h|h
 .refine .inl ?_;rcases h with h|⟨ob,h⟩
  .exact .inl (s _ _ hl h)
  .exact .inr ⟨ob,s _ _ hl h⟩
 .exact .inr h
def zat(T:Txt K mg a)(F:Fun K "__init__" "Knot.__init__" vB f fd):FnOk P w K mg base (CXr P w) 1 f fd ["self","ins","outs"] (JX K):=by
 refine F.okx zac ?_ ?_
 .walk_at"i"
 walk_at"k";let⟨y,C,dx,i,o,xs,ys,rfl,hy,hC,hN1,hN2,hi,ho,hiy,hoy,k⟩:=h;walk_at"T";refine⟨_,(zl (jC (pq 0) (jS Ze wU (za (pq 1) ze)) rfl)  (zg (jC (pq 0) (jS Ze wU (za (pq 2) ze)) rfl))),?_⟩;exists⟨i,xs,rfl,.inl hi,λl1 h1=>?_⟩;left;have y1:y≠l1:=rn hy h1;refine⟨y,C,dx,[],rfl,rq hy h1,hC,hN1,by decide,?_⟩;left;have s1:Own H (upd (upd H l1 (.lst xs)) y (.ins C dx (qw "ins" (.ref l1) []))) y:=(Same.own (zf h1)).trans jq;refine⟨o,ys,rfl,.inl (zdT ho s1 hoy),λl2 h2=>?_⟩;left;have y2:y≠l2:=rn rh h2;have l12:l1≠l2:=λz=>by
  rw[<- z,rj (bb y1),rh]at h2;cases h2
 refine⟨y,C,dx,_,rfl,rq rh h2,hC,hN2,by show 1<1000;decide,?_⟩;refine k _ l1 l2 (s1.trans ((Same.own (zf h2)).trans jq)) rh ?_ ?_ h1 ?_
 .rw[rj (bb y1),rj l12,rj (bb y1),rh]
 .rw[rj (bb y2),rh]
 .rw[rj (bb y2),rj (bb l12)]at h2;exact h2
def iw(T:Txt K mg a):BCal P w K mg base "Knot" "__init__" 1 ["self","ins","outs"] [] (JX K):=T.iw.cal (zat T)
def zbb(K:A0)(a:Ad):Sp:=λvs H Q E=>∃(l:Addr)(xs:Ap),vs=[.ref l]/\SqL K H l xs/\if 2<=xs.length/\xs.length<=4 then Q .non H else E (.ref a.e) none H
def wT(T:Txt K mg a):Cal P w K mg base "check_ways" 1 ["belts"] [] (zbb K a):=T.mW.cal λF=>by
 refine F.okx Wv ?_ ?_
 .walk_at"i"
 walk_at"k";let⟨l,xs,rfl,hl,k⟩:=h;walk_at"T";refine⟨_,(zg (zH (jA (jB jT jT qS (zS qa z9 (za (pq 0) ze)) qS))  (zg (qN ⟨rfl,rfl,rfl⟩ rfl (za zy ze)))  zp)),?_⟩;left;let⟨t1,g1⟩:=T.mQ;let⟨t2,g2⟩:=T.oi;have bad:¬(2<=xs.length/\xs.length<=4)->∃C,mg "BadKnot"=some (Value.ref C)/\XC K C/\E (Value.ref C) none H:=λh=>by
  rw[am h]at k;exact⟨a.e,T.iM,T.iV,k⟩
 refine⟨.int 2,_,g1,⟨_,rfl⟩,?_⟩;exists⟨_,.inl ⟨_,hl,rfl⟩,?_⟩;walk_at"r";refine zR (λh1=>?_) (λh1=>bad (by lia));refine⟨.int 4,_,g2,⟨_,rfl⟩,?_⟩;walk_at"r";refine zR (λh2=>?_) (λh2=>bad (by lia));rw[aq (by lia)]at k;exact k
def zbd(a:Ad):Sp:=λvs H Q E=>∃p q:Int,vs=[.int p,.int q]/\if q<=p/\p<=4 then Q .non H else E (.ref a.e) none H
def Qi(T:Txt K mg a):Cal P w K mg base "check_pace" 1 ["pace","least"] [] (zbd a):=T.mU.cal λF=>by
 refine F.okx Wx ?_ ?_
 .walk_at"i"
 walk_at"k";let⟨p,q,rfl,k⟩:=h;walk_at"T";refine⟨_,(zg (zH (jA (jB jT jT (pq 1) (pq 0) qS))  (zg (qN ⟨rfl,rfl,rfl⟩ rfl (za zy ze)))  zp)),?_⟩;left;let⟨t1,g1⟩:=T.ld;have bad:¬(q<=p/\p<=4)->∃C,mg "BadKnot"=some (Value.ref C)/\XC K C/\E (Value.ref C) none H:=λh=>by
  rw[am h]at k;exact⟨a.e,T.iM,T.iV,k⟩
 refine zR (λh1=>?_) (λh1=>bad (by lia));refine⟨.int 4,_,g1,⟨_,rfl⟩,?_⟩;exists zR (λh2=>?_) (λh2=>bad (by lia));rw[aq (by lia)]at k;left;exact k
noncomputable abbrev zF:Int:=1000000000000000000000000000000
def zbe(a:Ad):Sp:=λvs H Q E=>∃n:Int,vs=[.int n]/\if 0<=n/\n<zF then Q .non H else E (.ref a.e) none H
def Qj(T:Txt K mg a):Cal P w K mg base "check_kind" 1 ["kind"] [] (zbe a):=T.mV.cal λF=>by
 refine F.okx Wz ?_ ?_
 .walk_at"i"
 walk_at"k";let⟨n,rfl,k⟩:=h;walk_at"T";refine⟨_,(zg (zH (jA (jB jT zgw zh (pq 0) zgq))  (zg (qN ⟨rfl,rfl,rfl⟩ rfl (za zy ze)))  zp)),?_⟩;left;have bad:¬(0<=n/\n<zF)->∃C,mg "BadKnot"=some (Value.ref C)/\XC K C/\E (Value.ref C) none H:=λh=>by
  rw[am h]at k;exact⟨a.e,iA3 T.iM T.iV k⟩
 refine zR (λh1=>?_) (λh1=>bad (by lia));exists zR (λh2=>?_) (λh2=>bad (by unfold zF;lia));rw[aq (by unfold zF;lia)]at k;left;exact k
noncomputable def X6(bs:Ai)(side:Nat):Nat->Nat->Option Nat
 |0,_=>none
 |n+1,k=>if bs.getD ((side+k)%bs.length) false=true then some ((side+k)%bs.length)else X6 bs side n (k+1)
noncomputable def jG(bs:Ai)(side:Nat):Option Nat:=X6 bs side bs.length 0
noncomputable def Zh:Option Nat->V
 |none=>.non
 |some n=>.int n
theorem zeh{bs:Ai}{side:Nat}(h:0<bs.length):∀{n k p:Nat},X6 bs side n k=some p->p<bs.length
 |0,_,_,e=>by simp[X6]at e
 |n+1,k,p,e=>by
  unfold X6 at e
  split at e
  .cases e;exact dR _ h
  .exact zeh h e
def wn{bs:Ai}{side p:Nat}(e:jG bs side=some p):p<bs.length:=by
 by_cases h:0<bs.length
 .exact zeh h e
 .unfold jG at e;rw[show bs.length=0 by lia]at e;simp[X6]at e
def VS(K:A0):Sp:=λvs H Q _=>∃(l:Addr)(bs:Ai)(side:Nat),vs=[.ref l,.int side]/\SqL K H l (bs.map V.bl)/\bs.length<=1000/\Q (Zh (jG bs side)) H
theorem Zu(T:Txt K mg a):Cal P w K mg base "first_place" 1 ["wanted","side"] [] (VS K):=T.mD.cal λF=>by
 refine F.okx Xg ?_ ?_
 .walk_at"i"
 walk_at"k";refine oE3 h λl bs side p9=>oA4 p9 λpQ hl hb k=>?_;clear p9 h;subst pQ;walk_at"T";refine⟨_,(zl (qU jn rfl (vH (za (zS qa z9 (za (pq 0) ze)) ze)) (qq 2 Xg.nd)  (zl (zt 3 Xg.nd (zG ju (zG zK (pq 1) (pq 2)) (zS qa z9 (za (pq 0) ze))))  (zg (zH (qp (zv (pq 0) (pq 3)) (λ_=>rfl))  (zg (zk (pq 3)))  zp))))  (zg (zk zA))),?_⟩;walk_at"d";exists⟨_,iA4 (.inl ⟨_,hl,rfl⟩) (by lia) (by rw[af];lia) ?_⟩;refine Q5 (λi σ H'=>∃v2 v3,σ=[some (.ref l),some (.int side),v2,v3]/\H'=H/\Q (Zh (X6 bs side (bs.length-i) i)) H) (iE2 _ _ (iA3 rfl rfl k)) ?_ ?_
 .intro i σ H' hi pR;refine oE2 pR λv2 v3 p9=>oA3 p9 λpQ pX k=>?_;clear p9 pR;subst pQ pX;have hi:i<bs.length:=by simpa using hi
  exists⟨_,.inl ⟨_,hl,rfl⟩,?_⟩;walk_at"r";rw[af];refine And.intro (by lia) ?_;have e:((side:Int)+(0+(i:Int)))%(bs.length:Int)=(((side+i)%bs.length:Nat):Int):=by push_cast;rw[cR]
  rw[e];have hlt:(side+i)%bs.length<bs.length:=dR _ (by lia);refine zw hl (zJ (by rw[ap,ac hlt];rfl)) ?_;walk_at"r";have em:bs.length-i=(bs.length-(i+1))+1:=by lia
  rw[em,X6]at k;have eg:bs.getD ((side+i)%bs.length) false=bs[(side+i)%bs.length]:=by simp[hlt]
  rw[eg]at k;cases hbb:bs[(side+i)%bs.length]with
  |true =>
   rw[hbb,aq rfl]at k;walk_at"r";exact k
  |false =>
   rw[hbb,am (by decide)]at k;walk_at"r"
   first|exact⟨_,_,rfl,rfl,k⟩|exact⟨_,_,rfl,k⟩|exact k
 .intro σ H' pR;refine oE2 pR λv2 v3 p9=>oA3 p9 λpQ pX k=>?_;clear p9 pR;subst pQ pX;walk_at"r";simpa[X6,Zh]using k
def zcC(K:A0):Sp:=λvs H Q _=>∃(v:V)(l:Addr)(bs:Ai)(side:Nat),vs=[v,.ref l,.int side]/\SqL K H l (bs.map V.bl)/\bs.length<=1000/\Q (if v=.non then .non else Zh (jG bs side)) H
def wp(T:Txt K mg a):Cal P w K mg base "place_for_ware" 2 ["head","free","side"] [] (zcC K):=T.lj.cal λF=>by
 refine F.okx ZV ?_ ?_
 .walk_at"i"
 walk_at"k";let⟨v,l,bs,side,rfl,hl,hb,k⟩:=h;walk_at"T";refine⟨_,(zg (zk (jE (zo qH (pq 0) zA (zu _)) zA ‹(pq 1) (za (pq 2) ze)›))),?_⟩;exists zR (λh=>?_) (λh=>?_)
 .rw[aq h]at k;walk_at"r";exact k
 .rw[am h]at k;walk_at"r";exact⟨_,_,_,Zu T,l,bs,side,rfl,hl,hb,k⟩
def j9(K:A0)(C CB:Addr):Sp:=λvs H Q E=>∃(y dx o:Addr)(into:V)(ys:Ap),vs=[.ref y,into,.ref o]/\H y=some (.ins C dx [])/\SqL K H o ys/\o≠y /\
 if 2<=ys.length/\ys.length<=4 then ∀H' l1 l2,Own H H' y->H' y=some (.ins C dx (kf l1 l2))->H' l1=some (.lst [into])->H' l2=some (.lst ys)->H l1=none->H l2=none->Q .non H' else E (.ref CB) none H
def XJ(T:Txt K mg a)(F:Fun K "__init__" "Parter.__init__" xR f fd):FnOk P w K mg base (CXr P w) 2 f fd ["self","into","outs"] (j9 K a.n a.e):=by
 refine F.okx Xl ?_ ?_
 .walk_at"i"
 walk_at"k";let⟨y,dx,o,into,ys,rfl,hy,ho,hoy,k⟩:=h;walk_at"T";refine⟨_,(zl (zD ‹(pq 2) ze›)  (zg (zD (vY ⟨rfl,rfl,rfl⟩ hr (za (pq 0) (za (zB (za (pq 1) ze)) (za (pq 2) ze))))))),?_⟩;exists⟨_,_,_,wT T,o,ys,rfl,ho,zR (λhok=>?_) (λhok=>?_)⟩
 .rw[aq hok]at k;exists⟨_,_,_,iw T,λp hp=>⟨y,a.n,dx,p,o,[into],ys,rfl,rq hy hp,T.iK,T.i6,T.iJ,SqL.of rh,(zf hp).seq ho,(rn hy hp).symm,hoy,λH' l1 l2 s h1 h2 h3 h4 h5=>?_⟩⟩;exact k H' l1 l2 ((Same.own (zf hp)).trans s) h1 h2 h3 (zI h4) (zI h5)
 .rw[am hok]at k;exact k
def zb5(T:Txt K mg a):KCal P w K mg base "Parter" a.n 2 ["self","into","outs"] [] (j9 K a.n a.e):=T.mL.cal T.pA (XJ T)
def Zi(T:Txt K mg a)(F:Fun K "__init__" "FirstParter.__init__" jt f fd):FnOk P w K mg base (CXr P w) 2 f fd ["self","into","outs"] (j9 K a.o a.e):=by
 refine F.okx Zg ?_ ?_
 .walk_at"i"
 walk_at"k";let⟨y,dx,o,into,ys,rfl,hy,ho,hoy,k⟩:=h;walk_at"T";refine⟨_,(zl (zD ‹(pq 2) ze›)  (zg (zD (vY ⟨rfl,rfl,rfl⟩ hr (za (pq 0) (za (zB (za (pq 1) ze)) (za (pq 2) ze))))))),?_⟩;exists⟨_,_,_,wT T,o,ys,rfl,ho,zR (λhok=>?_) (λhok=>?_)⟩
 .rw[aq hok]at k;exists⟨_,_,_,iw T,λp hp=>⟨y,a.o,dx,p,o,[into],ys,rfl,rq hy hp,T.iz,T.iH,T.iE,SqL.of rh,(zf hp).seq ho,(rn hy hp).symm,hoy,λH' l1 l2 s h1 h2 h3 h4 h5=>?_⟩⟩;exact k H' l1 l2 ((Same.own (zf hp)).trans s) h1 h2 h3 (zI h4) (zI h5)
 .rw[am hok]at k;exact k
def Zq(T:Txt K mg a):KCal P w K mg base "FirstParter" a.o 2 ["self","into","outs"] [] (j9 K a.o a.e):=T.kK.cal T.mJ (Zi T)
noncomputable def vf(l1 l2:Addr)(n:Int):List (Str×V):=qw "kind" (.int n) (kf l1 l2)
def zhs{l1 l2:Addr}:(vf l1 l2 n).lookup ("kind":Str)=some (.int n):=by
 unfold vf;rw[qv,aq rfl]
def ziB{l1 l2:Addr}{m:Str}(h1:m≠"ins")(h2:m≠"outs")(h3:m≠"kind"):(vf l1 l2 n).lookup m=none:=by
 unfold vf;rw[qv,am h3];exact zkz h1 h2
def QQ(K:A0)(C CB:Addr):Sp:=λvs H Q E=>∃(y dx o:Addr)(into:V)(ys:Ap)(n:Int),vs=[.ref y,into,.ref o,.int n]/\H y=some (.ins C dx [])/\SqL K H o ys/\o≠y /\
 if ys.length=2/\0<=n/\n<zF then ∀H' l1 l2,Own H H' y->H' y=some (.ins C dx (vf l1 l2 n))->H' l1=some (.lst [into])->H' l2=some (.lst ys)->H l1=none->H l2=none->Q .non H' else E (.ref CB) none H
def WH(T:Txt K mg a)(F:Fun K "__init__" "Sieve.__init__" wD f fd):FnOk P w K mg base (CXr P w) 2 f fd ["self","into","outs","kind"] (QQ K a.p a.e):=by
 refine F.okx WC ?_ ?_
 .walk_at"i"
 walk_at"k";refine oE6 h λy dx o into ys n p9=>oA5 p9 λpQ hy ho hoy k=>?_;clear p9 h;subst pQ;walk_at"T";refine⟨_,(zl (zH (zo (zbJ hr.units1) (zS qa z9 (za (pq 2) ze)) zh (zu _))  (zg (qN ⟨rfl,rfl,rfl⟩ rfl (za zy ze)))  zp)  (zl (zD ‹(pq 3) ze›)  (zl (zD (vY ⟨rfl,rfl,rfl⟩ hr (za (pq 0) (za (zB (za (pq 1) ze)) (za (pq 2) ze)))))  (zg (jC (pq 0) (pq 3) rfl))))),?_⟩;exists⟨_,.inl ⟨_,ho,rfl⟩,?_⟩;exists zR (λh1=>?_) (λh1=>?_)
 .rw[am (by lia)]at k;exact⟨a.e,iA3 T.iM T.iV k⟩
 .refine iE3 _ _ _ ⟨Qj T,⟨n,rfl,zR (λhok=>?_) (λhok=>?_)⟩⟩
  .rw[aq ⟨by lia,hok⟩]at k;exists iE3 _ _ _ ⟨iw T,λp hp=>(iE7 y a.p dx p o ([into]) ys (iA6 rfl (rq hy hp) T.iB T.kg T.iP (iA5 (SqL.of rh) ((zf hp).seq ho) ((rn hy hp).symm) hoy (λH' l1 l2 s h1 h2 h3 h4 h5=>?_))))⟩;exists iE4 y a.p dx _ (iA6 rfl h1 T.iB T.i7 zdj ?_);exact k _ l1 l2 (((Same.own (zf hp)).trans s).trans jq) rh (by rw[rj (Q2 h2 h1 (by intro z;cases z))];exact h2) (by rw[rj (Q2 h3 h1 (by intro z;cases z))];exact h3) (zI h4) (zI h5)
  .rw[am (λz=>hok z.2)]at k;exact k
def zec(T:Txt K mg a):KCal P w K mg base "Sieve" a.p 2 ["self","into","outs","kind"] [] (QQ K a.p a.e):=T.nF.cal T.ow (WH T)
def ZU(K:A0)(C CB:Addr):Sp:=λvs H Q E=>∃(y dx o:Addr)(out:V)(ys:Ap),vs=[.ref y,.ref o,out]/\H y=some (.ins C dx [])/\SqL K H o ys/\o≠y /\
 if 2<=ys.length/\ys.length<=4 then ∀H' l1 l2,Own H H' y->H' y=some (.ins C dx (kf l1 l2))->H' l1=some (.lst ys)->H' l2=some (.lst [out])->H l1=none->H l2=none->Q .non H' else E (.ref CB) none H
def XL(T:Txt K mg a)(F:Fun K "__init__" "Joiner.__init__" xS f fd):FnOk P w K mg base (CXr P w) 2 f fd ["self","ins","out"] (ZU K a.q a.e):=by
 refine F.okx Xm ?_ ?_
 .walk_at"i"
 walk_at"k";let⟨y,dx,o,out,ys,rfl,hy,ho,hoy,k⟩:=h;walk_at"T";refine⟨_,(zl (zD ‹(pq 1) ze›)  (zg (zD (vY ⟨rfl,rfl,rfl⟩ hr (za (pq 0) (za (pq 1) (za (zB (za (pq 2) ze)) ze))))))),?_⟩;exists⟨_,_,_,wT T,o,ys,rfl,ho,zR (λhok=>?_) (λhok=>?_)⟩
 .rw[aq hok]at k;exists⟨_,_,_,iw T,λp hp=>⟨y,a.q,dx,o,p,ys,[out],rfl,rq hy hp,T.iL,T.iQ,T.iY,(zf hp).seq ho,SqL.of rh,hoy,(rn hy hp).symm,λH' l1 l2 s h1 h2 h3 h4 h5=>?_⟩⟩;exact k H' l1 l2 ((Same.own (zf hp)).trans s) h1 h2 h3 (zI h4) (zI h5)
 .rw[am hok]at k;exact k
def zb6(T:Txt K mg a):KCal P w K mg base "Joiner" a.q 2 ["self","ins","out"] [] (ZU K a.q a.e):=T.mO.cal T.nB (XL T)
noncomputable def df(l1 l2:Addr)(p:Int):List (Str×V):=qw "pace" (.int p) (kf l1 l2)
def zaL{l1 l2:Addr}{p:Int}:(df l1 l2 p).lookup ("pace":Str)=some (.int p):=by
 unfold df;rw[qv,aq rfl]
theorem Z6(f:Str)(v:V):∀fs:List (Str×V),(qw f v fs).length<=fs.length+1
 |[]=>by simp[qw]
 |(g,x)::r=>by
  unfold qw
  split
  .simp
  .have:=Z6 f v r;simp;lia
def zia{l1 l2:Addr}:(kf l1 l2).length<=2:=by
 unfold kf;have h1:=Z6 "outs" (V.ref l2) (qw "ins" (.ref l1) []);have h2:=Z6 "ins" (V.ref l1) [];simp only[bX]at h2
 lia
def zjW{l1 l2:Addr}{p:Int}:(df l1 l2 p).length<1000:=by
 unfold df;have h1:=Z6 "pace" (V.int p) (kf l1 l2);have h2:=zia (l1:=l1) (l2:=l2)
 lia
def QR(C CB:Addr):Sp:=λvs H Q E=>∃(y dx:Addr)(into:V)(p:Int),vs=[.ref y,into,.int p]/\H y=some (.ins C dx []) /\
 if 0<=p/\p<=4 then ∀H' l1 l2,Own H H' y->H' y=some (.ins C dx (df l1 l2 p))->H' l1=some (.lst [into])->H' l2=some (.lst [])->H l1=none->H l2=none->Q .non H' else E (.ref CB) none H
def WJ(T:Txt K mg a)(F:Fun K "__init__" "Drain.__init__" wE f fd):FnOk P w K mg base (CXr P w) 2 f fd ["self","into","pace"] (QR a.m a.e):=by
 refine F.okx WD ?_ ?_
 .walk_at"i"
 walk_at"k";let⟨y,dx,into,p,rfl,hy,k⟩:=h;walk_at"T";refine⟨_,(zl (zD ‹(pq 2) (za zh ze)›)  (zl (zD (vY ⟨rfl,rfl,rfl⟩ hr (za (pq 0) (za (zB (za (pq 1) ze)) (za (zB ze) ze)))))  (zg (jC (pq 0) (pq 2) rfl)))),?_⟩;exists⟨_,_,_,Qi T,p,0,rfl,zR (λhok=>?_) (λhok=>?_)⟩
 .rw[aq hok]at k;exists⟨_,_,_,iw T,λq1 hq1 q2 hq2=>?_⟩;have n12:q1≠q2:=rn rh hq2;have hy2:=rq (o:=.lst []) (rq (o:=.lst [into]) hy hq1) hq2;refine⟨y,a.m,dx,q1,q2,[into],[],rfl,hy2,T.iG,T.ke,T.kJ,SqL.of (rq rh hq2),SqL.of rh,(rn hy hq1).symm,(rn (rq hy hq1) hq2).symm,λH' l1 l2 s h1 h2 h3 h4 h5=>?_⟩;exists⟨y,a.m,dx,_,rfl,h1,T.iG,T.iD,zdj,?_⟩;exact k _ l1 l2 (((Same.own ((zf hq1).trans (zf hq2))).trans s).trans jq) rh (by rw[rj (Q2 h2 h1 (by intro z;cases z))];exact h2) (by rw[rj (Q2 h3 h1 (by intro z;cases z))];exact h3) (zI (zI h4)) (zI (zI h5))
 .rw[am hok]at k;exact k
def zed(T:Txt K mg a):KCal P w K mg base "Drain" a.m 2 ["self","into","pace"] [] (QR a.m a.e):=T.nC.cal T.kh (WJ T)
noncomputable def sf(l1 l2:Addr)(p:Int)(l3:Addr):List (Str×V):=qw "kinds" (.ref l3) (df l1 l2 p)
def zhF{l1 l2 l3:Addr}{p:Int}:(sf l1 l2 p l3).lookup ("pace":Str)=some (.int p):=by
 unfold sf;rw[qv,am (by symm)];exact zaL
def Wi(ks:A6):Prop:=∀n∈ks,0<=n/\n<zF
def ZS(K:A0)(C CB:Addr):Sp:=λvs H Q E=>∃(y dx l:Addr)(out:V)(p:Int)(ks:A6),vs=[.ref y,out,.int p,.ref l]/\H y=some (.ins C dx [])/\SqL K H l (ks.map V.int)/\l≠y /\
 ((1<=p/\p<=4/\1<=ks.length/\ks.length<=6/\Wi ks->∀H' l1 l2 l3,Own H H' y->H' y=some (.ins C dx (sf l1 l2 p l3))->H' l1=some (.lst [])->H' l2=some (.lst [out])->H' l3=some (.lst (ks.map V.int))->H l1=none->H l2=none->H l3=none->Q .non H') /\
   (¬(1<=p/\p<=4/\1<=ks.length/\ks.length<=6/\Wi ks)->E (.ref CB) none H))
def XH(T:Txt K mg a)(F:Fun K "__init__" "Source.__init__" xQ f fd):FnOk P w K mg base (CXr P w) 2 f fd ["self","out","pace","kinds"] (ZS K a.l a.e):=by
 refine F.okx Xk ?_ ?_
 .walk_at"i"
 walk_at"k";refine oE6 h λy dx l out p ks p9=>oA6 p9 λpQ hy hl hly kok kbad=>?_;clear p9 h;subst pQ;let⟨t1,g1⟩:=T.nJ;walk_at"T";refine⟨_,(zl (zD ‹(pq 2) (za zh ze)›)  (zl (zH (jA (jB jT jT zh (zS qa z9 (za (pq 3) ze)) qS))  (zg (qN ⟨rfl,rfl,rfl⟩ rfl (za zy ze)))  zp)  (zl (qU jn rfl (qj (pq 3)) (qq 4 Xk.nd)  (zg (zD ‹(pq 4) ze›)))  (zl (zD (vY ⟨rfl,rfl,rfl⟩ hr (za (pq 0) (za (zB ze) (za (zB (za (pq 1) ze)) ze)))))  (zl (jC (pq 0) (pq 2) rfl)  (zg (jC (pq 0) (jS Ze wU (za (pq 3) ze)) rfl))))))),?_⟩;exists iE3 _ _ _ ⟨Qi T,⟨p,1,rfl,zR (λhp=>?_) (λhp=>kbad λz=>hp ⟨z.1,z.2.1⟩)⟩⟩;exists⟨_,.inl ⟨_,hl,rfl⟩,?_⟩;rw[af];left;have bad:¬(1<=ks.length/\ks.length<=6)->∃C,mg "BadKnot"=some (Value.ref C)/\XC K C/\E (Value.ref C) none H:=λh=>⟨a.e,T.iM,T.iV,kbad λz=>h ⟨z.2.2.1,z.2.2.2.1⟩⟩;refine zR (λh1=>?_) (λh1=>bad (by lia));refine iE2 (.int 6) _ (iA3 g1 ⟨_,rfl⟩ ?_);exists zR (λh2=>?_) (λh2=>bad (by lia));walk_at"d";refine⟨l,rfl,.inl ⟨⟨_,hl⟩,?_⟩⟩;refine qL (K:=K) (a:=l) (xs:=ks.map V.int) (λi σ H'=>∃v4,σ=[some (.ref y),some out,some (.int p),some (.ref l),v4]/\H'=H/\Wi (ks.take i)) ⟨_,iA3 rfl rfl (λ_ h=>nomatch h)⟩ (λi σ H' _ ⟨_,_,e,_⟩=>e ▸ hl) ?_ ?_
 .intro i x σ H' hi pR;refine oE1 pR λv4 p9=>oA3 p9 λpQ pX hk=>?_;clear p9 pR;subst pQ pX;rw[ap,aB]at hi;let⟨n,hn,rfl⟩:=hi;exists iE3 _ _ _ ⟨Qj T,⟨n,rfl,zR (λhok=>?_) (λhok=>kbad λz=>hok (z.2.2.2.2 n (ai hn)))⟩⟩;left;have:Wi (ks.take (i+1)):=λm hm=>by
   rw[hW,hn]at hm;rcases ay.mp hm with z|z
   .exact hk m z
   .have e:m=n:=by simpa using z
    rw[e];exact hok
  first|exact⟨_,rfl,rfl,this⟩|exact⟨_,rfl,this⟩
 .intro σ H' pR;refine oE1 pR λv4 p9=>oA3 p9 λpQ pX hk=>?_;clear p9 pR;subst pQ pX;rw[af,aV]at hk;have kok:=kok ⟨hp.1,hp.2,by lia,by lia,hk⟩;exists iE3 _ _ _ ⟨iw T,λq1 hq1 q2 hq2=>?_⟩;have hy2:=rq (o:=.lst [out]) (rq (o:=.lst []) hy hq1) hq2;have s12:Same H' (upd (upd H' q1 (.lst [])) q2 (.lst [out])):=(zf hq1).trans (zf hq2);refine iE7 y a.l dx q1 q2 ([]) ([out]) (iA6 rfl hy2 T.iA T.kI T.iX (iA5 (SqL.of (rq rh hq2)) (SqL.of rh) ((rn hy hq1).symm) ((rn (rq hy hq1) hq2).symm) (λH2 l1 l2 s h1 h2 h3 h4 h5=>?_)));exists iE4 y a.l dx _ (iA6 rfl h1 T.iA T.iI zdj ?_);left;have s3:Own H' (upd H2 y (.ins a.l dx (df l1 l2 p))) y:=((Same.own s12).trans s).trans jq;have h2':upd H2 y (.ins a.l dx (df l1 l2 p)) l1=some (.lst []):=by rw[rj (Q2 h2 h1 (by intro z;cases z))];exact h2
  have h3':upd H2 y (.ins a.l dx (df l1 l2 p)) l2=some (.lst [out]):=by rw[rj (Q2 h3 h1 (by intro z;cases z))];exact h3
  refine iE2 l _ (iA3 rfl (.inl (zdT hl s3 hly)) (λl3 hl3=>?_));left;have hy3:upd (upd H2 y (.ins a.l dx (df l1 l2 p))) l3 (.lst (ks.map V.int)) y=some (.ins a.l dx (df l1 l2 p)):=rq rh hl3;refine iE4 y a.l dx _ (iA6 rfl hy3 T.iA T.iF zjW ?_);have n1:l1≠y:=Q2 h2 h1 (by intro z;cases z);have n2:l2≠y:=Q2 h3 h1 (by intro z;cases z);have n3:l3≠y:=(rn (rh (H:=H2)) hl3).symm;refine kok _ l1 l2 l3 ((s3.trans (Same.own (zf hl3))).trans jq) rh ?_ ?_ ?_ (zI (zI h4)) (zI (zI h5)) ?_
  .rw[rj n1];exact rq h2' hl3
  .rw[rj n2];exact rq h3' hl3
  .rw[rj n3];exact rh
  .cases e:H' l3 with
   |none=>rfl
   |some o=>exact absurd (hl3.symm.trans (s3 l3 o n3 e)) (by intro z;cases z)
def zb4(T:Txt K mg a):KCal P w K mg base "Source" a.l 2 ["self","out","pace","kinds"] [] (ZS K a.l a.e):=T.mK.cal T.ko (XH T)
noncomputable def bf(rm pc:Int):List (Str×V):=qw "pace" (.int pc) (qw "room" (.int rm) [])
abbrev zE(rm pc:Int):Prop:=1<=rm/\rm<=6/\1<=pc/\pc<=4
def J0(C CB:Addr):Sp:=λvs H Q E=>∃(y dx:Addr)(rm pc:Int),vs=[.ref y,.int rm,.int pc]/\H y=some (.ins C dx [])/\if zE rm pc then Q .non (upd H y (.ins C dx (bf rm pc)))else E (.ref CB) none H
def zau(T:Txt K mg a)(F:Fun K "__init__" "Belt.__init__" vE f fd):FnOk P w K mg base (CXr P w) 1 f fd ["self","room","pace"] (J0 a.j a.d):=by
 refine F.okx zad ?_ ?_
 .walk_at"i"
 walk_at"k";refine oE4 h λy dx rm pc p9=>oA3 p9 λpQ hy k=>?_;clear p9 h;subst pQ;let⟨t1,g1⟩:=T.oh;let⟨t2,g2⟩:=T.ld;walk_at"T";refine⟨_,(zl (zH (jA (jB jT jT zh (pq 1) qS))  (zg (qN ⟨rfl,rfl,rfl⟩ rfl (za zy ze)))  zp)  (zl (zH (jA (jB jT jT zh (pq 2) qS))  (zg (qN ⟨rfl,rfl,rfl⟩ rfl (za zy ze)))  zp)  (zl (jC (pq 0) (pq 1) rfl)  (zg (jC (pq 0) (pq 2) rfl))))),?_⟩;left;have bad:¬zE rm pc->∃C,mg "BadBelt"=some (Value.ref C)/\XC K C/\E (Value.ref C) none H:=λh=>by
  rw[am h]at k;exact⟨a.d,iA3 T.mz T.oX k⟩
 refine zR (λh1=>?_) (λh1=>bad (by unfold zE;lia));refine iE2 (.int 6) _ (iA3 g1 ⟨_,rfl⟩ ?_);exists zR (λh2=>?_) (λh2=>bad (by unfold zE;lia));exists zR (λh3=>?_) (λh3=>bad (by unfold zE;lia));refine iE2 (.int 4) _ (iA3 g2 ⟨_,rfl⟩ ?_);exists zR (λh4=>?_) (λh4=>bad (by unfold zE;lia));rw[aq (by unfold zE;lia)]at k;exists iE4 y a.j dx ([]) (iA6 rfl hy T.iO T.kb (by decide) ?_);exists iE4 y a.j dx _ (iA6 rfl rh T.iO T.iT (by show 1<1000;decide) ?_);rw[ZR];exact k
def zgN(T:Txt K mg a):KCal P w K mg base "Belt" a.j 1 ["self","room","pace"] [] (J0 a.j a.d):=T.n9.cal T.nj (zau T)
def qy{y dx b C:Addr}{u:HO}(hy:H y=none)(hdx:H dx=none)(h:H b=some u):upd (upd H dx (.own y)) y (.ins C dx []) b=some u:=by
 rw[rj (rn h hy),rj (rn h hdx)];exact h
def zU{y dx b:Addr}{o p:HO}(h:upd (upd H dx o) y p b=none):H b=none:=zI (zI h)
def zM{H H':Hp}(s:Same H H')(h:H' b=none):H b=none:=by
 cases e:H b with
 |none=>rfl
 |some o=>rw[s b o e]at h;cases h
inductive Wd|source|drain|parter|first|sieve|joiner
deriving DecidableEq
noncomputable def x6(a:Ad):Wd->Addr
 | .source=>a.l
 | .drain=>a.m
 | .parter=>a.n
 | .first=>a.o
 | .sieve=>a.p
 | .joiner=>a.q
structure Row where
 wd:Wd
 ins:List Int
 outs:List Int
 pace:Int
 kinds:List Int
abbrev At:=List Row
def Row.ok(r:Row):Prop:=match r.wd with
 | .source=>r.ins=[]/\(∃o,r.outs=[o])/\1<=r.pace/\r.pace<=4/\1<=r.kinds.length/\r.kinds.length<=6/\Wi r.kinds
 | .drain=>(∃i,r.ins=[i])/\r.outs=[]/\0<=r.pace/\r.pace<=4
 | .parter=>(∃i,r.ins=[i])/\2<=r.outs.length/\r.outs.length<=4
 | .first=>(∃i,r.ins=[i])/\2<=r.outs.length/\r.outs.length<=4
 | .sieve=>(∃i,r.ins=[i])/\r.outs.length=2/\∃k,r.kinds=[k]/\0<=k/\k<zF
 | .joiner=>(∃o,r.outs=[o])/\2<=r.ins.length/\r.ins.length<=4
noncomputable def zbT(r:Row):List (Str×D):=match r.wd with
 | .source=>[("pace",.int r.pace),("kinds",.ints r.kinds)]
 | .drain=>[("pace",.int r.pace)]
 | .sieve=>[("kind",.int (r.kinds.headD 0))]
 |_=>[]
noncomputable def XY(r:Row):List (Str×D):=("ins",.ints r.ins)::("outs",.ints r.outs)::zbT r
noncomputable def Q6(a:Ad)(r:Row):D:=.ob (x6 a r.wd) (XY r)
noncomputable def Q7(a:Ad)(b:Int×Int):D:=.ob a.j [("room",.int b.1),("pace",.int b.2)]
def jf{α:Type}{f:Str}{x:α}{r:List (Str×α)}:((f,x)::r).lookup f=some x:=by simp[List.lookup]
def zW{α:Type}{f g:Str}{x:α}{r:List (Str×α)}(h:f≠g):((g,x)::r).lookup f=r.lookup f:=by
 have hb:(f == g)=false:=a9.mpr h;simp[List.lookup,hb]
def zh7(r:Row):(XY r).lookup ("ins":Str)=some (.ints r.ins):=jf
def zgK(r:Row):(XY r).lookup ("outs":Str)=some (.ints r.outs):=(zW (by symm)).trans jf
def zgJ{r:Row}(h:r.wd=.source\/r.wd=.drain):(XY r).lookup ("pace":Str)=some (.int r.pace):=by
 refine(zW (by symm)).trans ((zW (by symm)).trans ?_);unfold zbT;rcases h with h|h<;>(rw[h];exact jf)
def zfe{r:Row}(h:r.wd=.source):(XY r).lookup ("kinds":Str)=some (.ints r.kinds):=by
 refine(zW (by symm)).trans ((zW (by symm)).trans ?_);unfold zbT;rw[h];exact(zW (by symm)).trans jf
def zgM{r:Row}{k:Int}(h:r.wd=.sieve)(e:r.kinds=[k]):(XY r).lookup ("kind":Str)=some (.int k):=by
 refine(zW (by symm)).trans ((zW (by symm)).trans ?_);unfold zbT;rw[h,e];exact jf
def zgL{r:Row}{f:Str}(h1:f≠"ins")(h2:f≠"outs")(h3:f≠"pace")(h4:f≠"kinds")(h5:f≠"kind"):(XY r).lookup f=none:=by
 refine(zW h1).trans ((zW h2).trans ?_);unfold zbT
 split
 .exact(zW h3).trans (zW h4)
 .exact zW h3
 .exact zW h5
 .rfl
def KnP(a:Ad)(H:Hp)(p:A5)(v:V)(r:Row):Prop:=Rep H p v (Q6 a r)
def KnP.keep{H H':Hp}{p q:A5}{r:Row}(h:KnP a H p v r)(s:∀b o,p b->H b=some o->q b/\H' b=some o):KnP a H' q v r:=Rep.keep s h
def KnP.inv{r:Row}(h:KnP a H p v r):∃y dx l1 l2 l3 fs,v=.ref y/\p y/\p l1/\p l2/\(r.wd=.source->p l3)/\H y=some (.ins (x6 a r.wd) dx fs)/\fs.lookup ("ins":Str)=some (.ref l1)/\fs.lookup ("outs":Str)=some (.ref l2) /\
  fs.lookup ("copied":Str)=none/\H l1=some (.lst (iv r.ins))/\H l2=some (.lst (iv r.outs))/\(r.wd=.source->fs.lookup ("kinds":Str)=some (.ref l3)/\H l3=some (.lst (iv r.kinds)))/\((r.wd=.source\/r.wd=.drain)->fs.lookup ("pace":Str)=some (.int r.pace)):=by
 let⟨y,dx,fs,rfl,py,hy,g1,g2⟩:=Rep.ob' h;let⟨u1,e1,r1⟩:=g1 _ _ (zh7 r);let⟨l1,rfl,p1,h1⟩:=r1.ints';let⟨u2,e2,r2⟩:=g1 _ _ (zgK r);let⟨l2,rfl,p2,h2⟩:=r2.ints';have e3:=g2 ("copied":Str) (zgL (by symm) (by symm) (by symm) (by symm) (by symm));have pc:(r.wd=.source\/r.wd=.drain)->fs.lookup ("pace":Str)=some (.int r.pace):=λz=>by
  let⟨u,e,ru⟩:=g1 _ _ (zgJ z);cases ru;exact e
 by_cases hs:r.wd=.source
 .obtain⟨u3,e4,r3⟩:=g1 _ _ (zfe hs);let⟨l3,rfl,p3,h3⟩:=r3.ints';exact⟨y,dx,l1,l2,l3,fs,rfl,py,p1,p2,λ_=>p3,hy,e1,e2,e3,h1,h2,λ_=>⟨e4,h3⟩,pc⟩
 .exact⟨y,dx,l1,l2,l1,fs,rfl,py,p1,p2,λz=>absurd z hs,hy,e1,e2,e3,h1,h2,λz=>absurd z hs,pc⟩
def XZ{l1 l2:Addr}:kf l1 l2=([(("ins":Str),V.ref l1),(("outs":Str),V.ref l2)]:Ar):=by
 unfold kf;simp only[qw];rw[am (by symm)]
def zg9{l1 l2:Addr}:df l1 l2 n=([(("ins":Str),V.ref l1),(("outs":Str),V.ref l2),(("pace":Str),V.int n)]:Ar):=by
 unfold df;rw[XZ];simp only[qw];rw[am (by symm),am (by symm)]
def ziJ{l1 l2 l3:Addr}:sf l1 l2 n l3=([(("ins":Str),V.ref l1),(("outs":Str),V.ref l2),(("pace":Str),V.int n),(("kinds":Str),V.ref l3)]:Ar):=by
 unfold sf;rw[zg9];simp only[qw];rw[am (by symm),am (by symm),am (by symm)]
def ziC{l1 l2:Addr}:vf l1 l2 n=([(("ins":Str),V.ref l1),(("outs":Str),V.ref l2),(("kind":Str),V.int n)]:Ar):=by
 unfold vf;rw[XZ];simp only[qw];rw[am (by symm),am (by symm)]
def wF{l C dx:Addr}{gs:List (Str×D)}(pl:p l)(e:H l=some (.ins C dx fs))(n:fs.map (·.1)=gs.map (·.1))(r:Reps H p (fs.map (·.2)) (gs.map (·.2))):Rep H p (.ref l) (.ob C gs) :=
 .ob pl e n λi f g hf hg=>r.g i f.2 g.2 (by rw[ap,hf];rfl) (by rw[ap,hg];rfl)
section
variable{H:Hp}{p:A5}{z dz m1 m2 m3:Addr}{ins outs kinds:A6}{pace:Int}
def Vu(q0:p z)(q1:p m1)(q2:p m2)(q3:p m3)(h0:H z=some (.ins a.l dz (sf m1 m2 pace m3)))(h1:H m1=some (.lst (iv ins)))(h2:H m2=some (.lst (iv outs)))(h3:H m3=some (.lst (iv kinds))):KnP a H p (.ref z) ⟨.source,ins,outs,pace,kinds⟩:=by
 rw[ziJ]at h0;exact wF q0 h0 rfl (.cons (qx q1 h1) (.cons (qx q2 h2) (.cons .int (.cons (qx q3 h3) .nil))))
def zb2(q0:p z)(q1:p m1)(q2:p m2)(h0:H z=some (.ins a.m dz (df m1 m2 pace)))(h1:H m1=some (.lst (iv ins)))(h2:H m2=some (.lst (iv outs))):KnP a H p (.ref z) ⟨.drain,ins,outs,pace,kinds⟩:=by
 rw[zg9]at h0;exact wF q0 h0 rfl (.cons (qx q1 h1) (.cons (qx q2 h2) (.cons .int .nil)))
def zb0{k:Int}(q0:p z)(q1:p m1)(q2:p m2)(h0:H z=some (.ins a.p dz (vf m1 m2 k)))(h1:H m1=some (.lst (iv ins)))(h2:H m2=some (.lst (iv outs))):KnP a H p (.ref z) ⟨.sieve,ins,outs,pace,[k]⟩:=by
 rw[ziC]at h0;exact wF q0 h0 rfl (.cons (qx q1 h1) (.cons (qx q2 h2) (.cons .int .nil)))
def Vv(q0:p z)(q1:p m1)(q2:p m2)(h0:H z=some (.ins a.n dz (kf m1 m2)))(h1:H m1=some (.lst (iv ins)))(h2:H m2=some (.lst (iv outs))):KnP a H p (.ref z) ⟨.parter,ins,outs,pace,kinds⟩:=by
 rw[XZ]at h0;exact wF q0 h0 rfl (.cons (qx q1 h1) (.cons (qx q2 h2) .nil))
def zb1(q0:p z)(q1:p m1)(q2:p m2)(h0:H z=some (.ins a.o dz (kf m1 m2)))(h1:H m1=some (.lst (iv ins)))(h2:H m2=some (.lst (iv outs))):KnP a H p (.ref z) ⟨.first,ins,outs,pace,kinds⟩:=by
 rw[XZ]at h0;exact wF q0 h0 rfl (.cons (qx q1 h1) (.cons (qx q2 h2) .nil))
def Vw(q0:p z)(q1:p m1)(q2:p m2)(h0:H z=some (.ins a.q dz (kf m1 m2)))(h1:H m1=some (.lst (iv ins)))(h2:H m2=some (.lst (iv outs))):KnP a H p (.ref z) ⟨.joiner,ins,outs,pace,kinds⟩:=by
 rw[XZ]at h0;exact wF q0 h0 rfl (.cons (qx q1 h1) (.cons (qx q2 h2) .nil))
end
def BtP(a:Ad)(H:Hp)(p:A5)(v:V)(r:Int×Int):Prop:=Rep H p v (Q7 a r)
def BtP.keep{H H':Hp}{p q:A5}{r:Int×Int}(h:BtP a H p v r)(s:∀b o,p b->H b=some o->q b/\H' b=some o):BtP a H' q v r:=Rep.keep s h
def zkK{rm pc:Int}:bf rm pc=([(("room":Str),V.int rm),(("pace":Str),V.int pc)]:Ar):=by
 unfold bf;simp only[qw];rw[am (by symm)]
def ziW{y dx:Addr}{rm pc:Int}(q0:p y)(h0:H y=some (.ins a.j dx (bf rm pc))):BtP a H p (.ref y) (rm,pc):=by
 rw[zkK]at h0;exact wF q0 h0 rfl (.cons .int (.cons .int .nil))
def BtP.inv{r:Int×Int}(h:BtP a H p v r):∃y dx fs,v=.ref y/\p y/\H y=some (.ins a.j dx fs)/\fs.lookup ("room":Str)=some (.int r.1)/\fs.lookup ("pace":Str)=some (.int r.2):=by
 let⟨y,dx,fs,rfl,py,hy,g1,g2⟩:=Rep.ob' h;let⟨u1,e1,r1⟩:=g1 ("room":Str) _ jf;let⟨u2,e2,r2⟩:=g1 ("pace":Str) _ ((zW (by symm)).trans jf);cases r1;cases r2;exact⟨y,dx,fs,rfl,py,hy,e1,e2⟩
structure Kns(a:Ad)(H:Hp)(p:A5)(vs:Ap)(rs:At):Prop where
 len:vs.length=rs.length
 g:∀(i:Nat) v r,vs[i]?=some v->rs[i]?=some r->KnP a H p v r
def Kns.keep{H H':Hp}{p q:A5}{rs:At}(h:Kns a H p vs rs)(s:∀b o,p b->H b=some o->q b/\H' b=some o):Kns a H' q vs rs:=⟨h.len,λi v r e1 e2=>(h.g i v r e1 e2).keep s⟩
def Kns.nil:Kns a H p [] []:=⟨rfl,λi v r h=>by simp at h⟩
def Kns.append{vs us:Ap}{rs qs:At}(h:Kns a H p vs rs)(k:Kns a H p us qs):Kns a H p (vs++us) (rs++qs):=by
 refine⟨by rw[aD,aD,h.len,k.len],λi v r e1 e2=>?_⟩;by_cases hi:i<vs.length
 .rw[ba hi]at e1;rw[ba (by rw[<- h.len];exact hi)]at e2;exact h.g i v r e1 e2
 .rw[aY (by lia)]at e1;rw[aY (by rw[<- h.len];lia),<- h.len]at e2;exact k.g _ v r e1 e2
def Kns.one{r:Row}(h:KnP a H p v r):Kns a H p [v] [r] :=
 ⟨rfl,λi u q e1 e2=>by
  have hi:=(aa.mp e1).1;have:i=0:=by simp at hi;lia
  subst this;have e1:v=u:=by simpa using e1
  have e2:r=q:=by simpa using e2
  rw[<- e1,<- e2];exact h⟩
def Kns.at{rs:At}(h:Kns a H p vs rs)(e:vs[i]?=some v):∃r,rs[i]?=some r/\KnP a H p v r:=by
 have hi:=(aa.mp e).1;have e2:rs[i]?=some (rs[i]'(by rw[<- h.len];exact hi)):=ac _;exact⟨_,e2,h.g i v _ e e2⟩
structure Bts(a:Ad)(H:Hp)(p:A5)(vs:Ap)(rs:A1):Prop where
 len:vs.length=rs.length
 g:∀(i:Nat) v r,vs[i]?=some v->rs[i]?=some r->BtP a H p v r
def Bts.keep{H H':Hp}{p q:A5}{rs:A1}(h:Bts a H p vs rs)(s:∀b o,p b->H b=some o->q b/\H' b=some o):Bts a H' q vs rs:=⟨h.len,λi v r e1 e2=>(h.g i v r e1 e2).keep s⟩
def Bts.nil:Bts a H p [] []:=⟨rfl,λi v r h=>by simp at h⟩
def Bts.push{rs:A1}{r:Int×Int}(h:Bts a H p vs rs)(k:BtP a H p v r):Bts a H p (vs++[v]) (rs++[r]):=by
 refine⟨by rw[aD,aD,h.len];rfl,λi u q e1 e2=>?_⟩;by_cases hi:i<vs.length
 .rw[ba hi]at e1;rw[ba (by rw[<- h.len];exact hi)]at e2;exact h.g i u q e1 e2
 .rw[aY (by lia)]at e1;rw[aY (by rw[<- h.len];lia),<- h.len]at e2;have hj:=(aa.mp e1).1;have:i-vs.length=0:=by simp at hj;lia
  rw[this]at e1 e2;have e1:v=u:=by simpa using e1
  have e2:r=q:=by simpa using e2
  rw[<- e1,<- e2];exact k
def Bts.at{rs:A1}(h:Bts a H p vs rs)(e:vs[i]?=some v):∃r,rs[i]?=some r/\BtP a H p v r:=by
 have hi:=(aa.mp e).1;have e2:rs[i]?=some (rs[i]'(by rw[<- h.len];exact hi)):=ac _;exact⟨_,e2,h.g i v _ e e2⟩
abbrev New(H:Hp):Addr->Prop:=λb=>H b=none
def xk(a:Ad)(wd:Wd):Sp:=λvs H Q _=>∃(y:Addr)(r:Row)(p:A5),vs=[.ref y]/\KnP a H p (.ref y) r/\r.wd=wd/\r.ok/\∀v H',Same H H'->KnP a H' (New H) v r->Q v H'
def Kns.reps{rs:At}(h:Kns a H p vs rs):Reps H p vs (rs.map (Q6 a)):=⟨by rw[h.len,af],λi v d e1 e2=>by
 rw[ap,aB]at e2;let⟨r,e2,rfl⟩:=e2;exact h.g i v r e1 e2⟩
def Bts.reps{rs:A1}(h:Bts a H p vs rs):Reps H p vs (rs.map (Q7 a)):=⟨by rw[h.len,af],λi v d e1 e2=>by
 rw[ap,aB]at e2;let⟨r,e2,rfl⟩:=e2;exact h.g i v r e1 e2⟩
def Kns.of{rs:At}(h:Reps H p vs (rs.map (Q6 a))):Kns a H p vs rs:=⟨by rw[h.len,af],λi v r e1 e2=>h.g i v _ e1 (by rw[ap,e2];rfl)⟩
def Bts.of{rs:A1}(h:Reps H p vs (rs.map (Q7 a))):Bts a H p vs rs:=⟨by rw[h.len,af],λi v r e1 e2=>h.g i v _ e1 (by rw[ap,e2];rfl)⟩
def Jl(T:Txt K mg a):MCal P w K mg base a.l "copied" 4 ["self"] [] (xk a .source):=T.lI.cal T.iA λF=>by
 refine F.okx Qr ?_ ?_
 .walk_at"i"
 walk_at"k";refine oE3 h λy p9 p pQ=>oA5 pQ λpX hK hw hok k=>?_;clear pQ h;let⟨wd,ins,outs,pace,kinds⟩:=p9;subst pX;cases hw;have hK0:=hK;refine oE6 hK.inv λy' dx l1 l2 l3 fs p9=>oA9 p9 λe p0 p1 p2 p3 h0 e1 e2 pQ=>oA5 pQ λe3 h1 h2 h3 h4=>?_;clear p9 pQ;cases e;let⟨hk,hk'⟩:=h3 rfl;have hp:=h4 (.inl rfl);refine oA7 hok λq1 p9 q3 q4 q5 q6 q7=>?_;clear hok;let⟨ov,q2⟩:=p9;simp only at q1 q2;subst q1 q2;walk_at"T";refine⟨_,(zg (zk (j7 (x:="Source") ⟨rfl,rfl,rfl⟩ hr (za (zv (zr (pq 0) rfl) zh) (za (zr (pq 0) rfl) (za (zr (pq 0) rfl) ze)))))),?_⟩;exists iE4 a.l _ _ _ ⟨(zb4 T).mono,iE5 y a.l dx fs _ (iA6 rfl h0 T.iA T.iX e2 (zw (SqL.of h2) at0 ?_))⟩;refine ra h0 T.iA T.iI hp ?_;refine ra h0 T.iA T.iF hk ?_;intro z dz hz hdz hne;refine iE6 z dz l3 (.int ov) pace kinds (iA6 rfl rh (SqL.of (qy hz hdz hk')) (rn hk' hz) (λ_ H' m1 m2 m3 s' g1 g2 g3 g4 n1 n2 n3=>⟨rfl,?_⟩) (λhbad=>absurd (iA5 q3 q4 q5 q6 q7) hbad));exact k _ _ (Own.of_new hz hdz s') (Vu (p:=New H) (ins:=[]) (outs:=[ov]) hz (zU n1) (zU n2) (zU n3) g1 g2 g3 g4)
def XW(T:Txt K mg a):MCal P w K mg base a.m "copied" 4 ["self"] [] (xk a .drain):=T.l8.cal T.iG λF=>by
 refine F.okx Jj ?_ ?_
 .walk_at"i"
 walk_at"k";refine oE3 h λy p9 p pQ=>oA5 pQ λpX hK hw hok k=>?_;clear pQ h;let⟨wd,ins,outs,pace,kinds⟩:=p9;subst pX;cases hw;have hK0:=hK;refine oE6 hK.inv λy' dx l1 l2 l3 fs p9=>oA9 p9 λe p0 p1 p2 p3 h0 e1 e2 pQ=>oA5 pQ λe3 h1 h2 h3 h4=>?_;clear p9 pQ;cases e;have hp:=h4 (.inr rfl);refine oA4 hok λp9 q2 q3 q4=>?_;clear hok;let⟨iv',q1⟩:=p9;simp only at q1 q2;subst q1 q2;walk_at"T";refine⟨_,(zg (zk (j7 (x:="Drain") ⟨rfl,rfl,rfl⟩ hr (za (zv (zr (pq 0) rfl) zh) (za (zr (pq 0) rfl) ze))))),?_⟩;exists iE4 a.m _ _ _ ⟨(zed T).mono,iE5 y a.m dx fs _ (iA6 rfl h0 T.iG T.ke e1 (zw (SqL.of h1) at0 ?_))⟩;refine ra h0 T.iG T.iD hp ?_;intro z dz hz hdz hne;refine iE4 z dz (.int iv') pace (iA3 rfl rh ?_);rw[aq ⟨q3,q4⟩];intro H' m1 m2 s' g1 g2 g3 n1 n2;exact⟨rfl,k _ _ (Own.of_new hz hdz s') (zb2 (p:=New H) (ins:=[iv']) (outs:=[]) hz (zU n1) (zU n2) g1 g2 g3)⟩
def Jn(T:Txt K mg a):MCal P w K mg base a.n "copied" 4 ["self"] [] (xk a .parter):=T.lK.cal T.iK λF=>by
 refine F.okx Qt ?_ ?_
 .walk_at"i"
 walk_at"k";refine oE3 h λy p9 p pQ=>oA5 pQ λpX hK hw hok k=>?_;clear pQ h;let⟨wd,ins,outs,pace,kinds⟩:=p9;subst pX;cases hw;have hK0:=hK;refine oE6 hK.inv λy' dx l1 l2 l3 fs p9=>oA9 p9 λe p0 p1 p2 p3 h0 e1 e2 pQ=>oA5 pQ λe3 h1 h2 h3 h4=>?_;clear p9 pQ;cases e;let⟨⟨iv',q1⟩,q3,q4⟩:=hok;simp only at q1 q3 q4;subst q1;walk_at"T";refine⟨_,(zg (zk (j7 (x:="Parter") ⟨rfl,rfl,rfl⟩ hr (za (zv (zr (pq 0) rfl) zh) (za (zr (pq 0) rfl) ze))))),?_⟩;exists iE4 a.n _ _ _ ⟨(zb5 T).mono,iE5 y a.n dx fs _ (iA6 rfl h0 T.iK T.i6 e1 (zw (SqL.of h1) at0 ?_))⟩;refine ra h0 T.iK T.iJ e2 ?_;intro z dz hz hdz hne;refine iE5 z dz l2 (.int iv') (iv outs) (iA5 rfl rh (SqL.of (qy hz hdz h2)) (rn h2 hz) ?_);rw[aq (by rw[iv,af];exact⟨q3,q4⟩)];intro H' m1 m2 s' g1 g2 g3 n1 n2;exact⟨rfl,k _ _ (Own.of_new hz hdz s') (Vv (p:=New H) (ins:=[iv']) (outs:=outs) hz (zU n1) (zU n2) g1 g2 g3)⟩
def vN(T:Txt K mg a):MCal P w K mg base a.o "copied" 4 ["self"] [] (xk a .first):=T.kr.cal T.iz λF=>by
 refine F.okx vb ?_ ?_
 .walk_at"i"
 walk_at"k";refine oE3 h λy p9 p pQ=>oA5 pQ λpX hK hw hok k=>?_;clear pQ h;let⟨wd,ins,outs,pace,kinds⟩:=p9;subst pX;cases hw;have hK0:=hK;refine oE6 hK.inv λy' dx l1 l2 l3 fs p9=>oA9 p9 λe p0 p1 p2 p3 h0 e1 e2 pQ=>oA5 pQ λe3 h1 h2 h3 h4=>?_;clear p9 pQ;cases e;let⟨⟨iv',q1⟩,q3,q4⟩:=hok;simp only at q1 q3 q4;subst q1;walk_at"T";refine⟨_,(zg (zk (j7 (x:="FirstParter") ⟨rfl,rfl,rfl⟩ hr (za (zv (zr (pq 0) rfl) zh) (za (zr (pq 0) rfl) ze))))),?_⟩;exists iE4 a.o _ _ _ ⟨(Zq T).mono,iE5 y a.o dx fs _ (iA6 rfl h0 T.iz T.iH e1 (zw (SqL.of h1) at0 ?_))⟩;refine ra h0 T.iz T.iE e2 ?_;intro z dz hz hdz hne;refine iE5 z dz l2 (.int iv') (iv outs) (iA5 rfl rh (SqL.of (qy hz hdz h2)) (rn h2 hz) ?_);rw[aq (by rw[iv,af];exact⟨q3,q4⟩)];intro H' m1 m2 s' g1 g2 g3 n1 n2;exact⟨rfl,k _ _ (Own.of_new hz hdz s') (zb1 (p:=New H) (ins:=[iv']) (outs:=outs) hz (zU n1) (zU n2) g1 g2 g3)⟩
def XU(T:Txt K mg a):MCal P w K mg base a.p "copied" 4 ["self"] [] (xk a .sieve):=T.ma.cal T.iB λF=>by
 refine F.okx Jh ?_ ?_
 .walk_at"i"
 walk_at"k";refine oE3 h λy p9 p pQ=>oA5 pQ λpX hK hw hok k=>?_;clear pQ h;let⟨wd,ins,outs,pace,kinds⟩:=p9;subst pX;cases hw;have hK0:=hK;refine oE6 hK.inv λy' dx l1 l2 l3 fs p9=>oA9 p9 λe p0 p1 p2 p3 h0 e1 e2 pQ=>oA5 pQ λe3 h1 h2 h3 h4=>?_;clear p9 pQ;cases e;refine oA3 hok λp9 q3 pQ=>oE1 pQ λkk pX=>oA3 pX λq4 q5 q6=>?_;clear pQ pX hok;let⟨iv',q1⟩:=p9;simp only at q1 q3 q4;subst q1 q4;walk_at"T";refine⟨_,(zg (zk (j7 (x:="Sieve") ⟨rfl,rfl,rfl⟩ hr (za (zv (zr (pq 0) rfl) zh) (za (zr (pq 0) rfl) (za (zr (pq 0) rfl) ze)))))),?_⟩;exists iE4 a.p _ _ _ ⟨(zec T).mono,iE5 y a.p dx fs _ (iA6 rfl h0 T.iB T.kg e1 (zw (SqL.of h1) at0 ?_))⟩;refine ra h0 T.iB T.iP e2 ?_;refine zhK hK0 T.iB T.i7 (zgM rfl rfl) λu ru=>?_;cases ru;intro z dz hz hdz hne;refine iE6 z dz l2 (.int iv') (iv outs) kk (iA5 rfl rh (SqL.of (qy hz hdz h2)) (rn h2 hz) ?_);rw[aq (by rw[iv,af];exact⟨q3,q5,q6⟩)];intro H' m1 m2 s' g1 g2 g3 n1 n2;exact⟨rfl,k _ _ (Own.of_new hz hdz s') (zb0 (p:=New H) (ins:=[iv']) (outs:=outs) hz (zU n1) (zU n2) g1 g2 g3)⟩
def Jp(T:Txt K mg a):MCal P w K mg base a.q "copied" 4 ["self"] [] (xk a .joiner):=T.lN.cal T.iL λF=>by
 refine F.okx Qv ?_ ?_
 .walk_at"i"
 walk_at"k";refine oE3 h λy p9 p pQ=>oA5 pQ λpX hK hw hok k=>?_;clear pQ h;let⟨wd,ins,outs,pace,kinds⟩:=p9;subst pX;cases hw;have hK0:=hK;refine oE6 hK.inv λy' dx l1 l2 l3 fs p9=>oA9 p9 λe p0 p1 p2 p3 h0 e1 e2 pQ=>oA5 pQ λe3 h1 h2 h3 h4=>?_;clear p9 pQ;cases e;let⟨⟨ov,q1⟩,q3,q4⟩:=hok;simp only at q1 q3 q4;subst q1;walk_at"T";refine⟨_,(zg (zk (j7 (x:="Joiner") ⟨rfl,rfl,rfl⟩ hr (za (zr (pq 0) rfl) (za (zv (zr (pq 0) rfl) zh) ze))))),?_⟩;exists iE4 a.q _ _ _ ⟨(zb6 T).mono,iE5 y a.q dx fs _ (iA6 rfl h0 T.iL T.iQ e1 ?_)⟩;refine ra h0 T.iL T.iY e2 (zw (SqL.of h2) at0 ?_);intro z dz hz hdz hne;refine iE5 z dz l1 (.int ov) (iv ins) (iA5 rfl rh (SqL.of (qy hz hdz h1)) (rn h1 hz) ?_);rw[aq (by rw[iv,af];exact⟨q3,q4⟩)];intro H' m1 m2 s' g1 g2 g3 n1 n2;exact⟨rfl,k _ _ (Own.of_new hz hdz s') (Vw (p:=New H) (ins:=ins) (outs:=[ov]) hz (zU n1) (zU n2) g1 g2 g3)⟩
def CT(T:Txt K mg a)(wd:Wd):Cls K (x6 a wd):=by
 cases wd
 .exact T.iA
 .exact T.iG
 .exact T.iK
 .exact T.iz
 .exact T.iB
 .exact T.iL
def NI(T:Txt K mg a)(wd:Wd):NoAttr K (x6 a wd) "ins":=by
 cases wd
 .exact T.kI
 .exact T.ke
 .exact T.i6
 .exact T.iH
 .exact T.kg
 .exact T.iQ
def NO(T:Txt K mg a)(wd:Wd):NoAttr K (x6 a wd) "outs":=by
 cases wd
 .exact T.iX
 .exact T.kJ
 .exact T.iJ
 .exact T.iE
 .exact T.iP
 .exact T.iY
def WT(T:Txt K mg a)(wd:Wd):WI K (x6 a wd):=by
 cases wd
 .exact T.pB
 .exact T.pM
 .exact T.pC
 .exact T.mM
 .exact T.pN
 .exact T.pD
def zgF(T:Txt K mg a)(wd:Wd):MCal P w K mg base (x6 a wd) "copied" 4 ["self"] [] (xk a wd):=by
 cases wd
 .exact Jl T
 .exact XW T
 .exact Jn T
 .exact vN T
 .exact XU T
 .exact Jp T
theorem WX:∀(xs ys:A6),xs.Perm ys->xs.Pairwise (·<=·)->ys.Pairwise (·<=·)->xs=ys
 |[],ys,h,_,_=>(List.nil_perm.mp h).symm
 |x::xs,[],h,_,_=>absurd h.length_eq (by simp)
 |x::xs,y::ys,h,hx,hy=>by
  have e:x=y:=by
   have h1:y∈x::xs:=h.mem_iff.mpr (by simp);have h2:x∈y::ys:=h.mem_iff.mp (by simp);rcases au.mp h1 with e|m1
   .exact e.symm
   rcases au.mp h2 with e|m2
   .exact e
   have:=(dB.mp hx).1 y m1;have:=(dB.mp hy).1 x m2
   lia
  subst e;rw[WX xs ys h.cons_inv (dB.mp hx).2 (dB.mp hy).2]
noncomputable def rgI(n:Nat):List Int:=(List.range n).map λ(i:Nat)=>(i:Int)
def zcU(n:Nat):(rgI n).Pairwise (·<=·):=by
 unfold rgI;rw[List.pairwise_map];exact gf.imp λ{i j} h=>by lia
def zhI(n:Nat):rgL 0 n=iv (rgI n):=by
 simp[rgL,iv,rgI,eR,dH]
theorem Xc:∀ms ns:List Int,wc (iv ms) (iv ns)=decide (ms=ns)
 |[],[]=>rfl
 |[],_::_=>rfl
 |_::_,[]=>rfl
 |m::ms,n::ns=>by
  show(eqV (.int m) (.int n)&&wc (iv ms) (iv ns))=_
  rw[Xc ms ns];by_cases e:m=n
  .subst e;simp[eqV]
  .simp[eqV,e]
def JK(ns:A6):(iv ns).all jo=true:=bU.mpr λx hx=>by
 let⟨n,_,rfl⟩:=aK.mp hx
 rfl
def zhJ{Q:VK}{p q:Addr}{ms ns:A6}(h1:SqL K H p (iv ms))(h2:SqL K H q (iv ns))(k:Q (.bl (!decide (ms=ns))) H):zeX K (.ref p) (.ref q) H Q :=
 .inr (.inl ⟨p,q,iv ms,iv ns,rfl,rfl,.inl ⟨h1,h2⟩,JK ms,JK ns,by rw[Xc];exact k⟩)
def zbc(K:A0)(a:Ad):Sp:=λvs H Q E=>∃(bl kl:Addr)(xs ys:Ap),vs=[.ref bl,.ref kl]/\SqL K H bl xs/\SqL K H kl ys/\if (1<=xs.length/\xs.length<=24)/\1<=ys.length/\ys.length<=24 then Q .non H else E (.ref a.f) none H
def zaT(T:Txt K mg a):Cal P w K mg base "check_size" 1 ["belts","knots"] [] (zbc K a):=T.mY.cal λF=>by
 refine F.okx Ww ?_ ?_
 .walk_at"i"
 walk_at"k";let⟨bl,kl,xs,ys,rfl,h1,h2,k⟩:=h;let⟨t1,g1⟩:=T.nK;let⟨t2,g2⟩:=T.nN;walk_at"T";refine⟨_,(zl (zH (jA (jB jT jT zh (zS qa z9 (za (pq 0) ze)) qS))  (zg (qN ⟨rfl,rfl,rfl⟩ rfl (za zy ze)))  zp)  (zg (zH (jA (jB jT jT zh (zS qa z9 (za (pq 1) ze)) qS))  (zg (qN ⟨rfl,rfl,rfl⟩ rfl (za zy ze)))  zp))),?_⟩;left;have bad:¬((1<=xs.length/\xs.length<=24)/\1<=ys.length/\ys.length<=24)->∃C,mg "BadWork"=some (Value.ref C)/\XC K C/\E (Value.ref C) none H:=λh=>by
  rw[am h]at k;exact⟨a.f,T.i9,T.mB,k⟩
 refine⟨_,.inl ⟨_,h1,rfl⟩,?_⟩;exists zR (λb1=>?_) (λb1=>bad (by lia));refine⟨.int 24,_,g1,⟨_,rfl⟩,?_⟩;exists zR (λb2=>?_) (λb2=>bad (by lia));exists⟨_,.inl ⟨_,h2,rfl⟩,?_⟩;exists zR (λb3=>?_) (λb3=>bad (by lia));refine⟨.int 24,_,g2,⟨_,rfl⟩,?_⟩;exists zR (λb4=>?_) (λb4=>bad (by lia));rw[aq (by lia)]at k;left;exact k
def zcF(K:A0)(a:Ad):Sp:=λvs H Q E=>∃(l:Addr)(ns:A6)(n:Nat),vs=[.ref l,.int n]/\SqL K H l (iv ns)/\ns.length<64/\n<=1000/\(ns.Perm (rgI n)->∀H',Same H H'->Q .non H')/\(¬ns.Perm (rgI n)->∀H',Same H H'->E (.ref a.f) none H')
def xJ(T:Txt K mg a):Cal P w K mg base "check_each_once" 1 ["named","size"] [] (zcF K a):=T.kT.cal λF=>by
 refine F.okx Zz ?_ ?_
 .walk_at"i"
 walk_at"k";let⟨l,ns,n,rfl,hl,h64,hn,kok,kbad⟩:=h;walk_at"T";refine⟨_,(zg (zH (zo (zbJ hr.units1) (zS zfE zfD (za (pq 0) ze)) (jS (zhi rfl) wU (za (zjr (za (pq 1) ze)) ze)) (zu _))  (zg (qN ⟨rfl,rfl,rfl⟩ rfl (za zy ze)))  zp)),?_⟩;exists⟨l,ns,rfl,hl,h64,λms q1 hp hs hq1=>?_⟩;left;intro q2 hq2;refine⟨q2,0,n,rfl,rh,⟨by lia,by lia,by lia,by lia,by lia⟩,λq3 hq3=>?_⟩;rw[show((n:Int)-0).toNat=n by lia,zhI];left;have sm:Same H (upd (upd (upd H q1 (.lst (iv ms))) q2 (.rng 0 n)) q3 (.lst (iv (rgI n)))):=(zf hq1).trans ((zf hq2).trans (zf hq3));refine zhJ (ms:=ms) (ns:=rgI n) (SqL.of (rq (rq rh hq2) hq3)) (SqL.of rh) ?_;exists zR (λb1=>?_) (λb1=>?_)
 .refine⟨a.f,T.i9,T.mB,kbad (λz=>b1 (WX _ _ (hp.trans z) hs (zcU n))) _ sm⟩
 .exists kok ?_ _ sm;have e:ms=rgI n:=gN b1;rw[<- e];exact hp.symm
noncomputable def jK(rs:At):List Int:=rs.flatMap Row.outs
noncomputable def qA(rs:At):List Int:=rs.flatMap Row.ins
noncomputable def wf(l1 l2:Addr):List (Str×V):=qw "knots" (.ref l2) (qw "belts" (.ref l1) [])
def zQ(bs:A1)(rs:At):Prop:=((1<=bs.length/\bs.length<=24)/\1<=rs.length/\rs.length<=24)/\(jK rs).Perm (rgI bs.length)/\(qA rs).Perm (rgI bs.length)
def JU(K:A0)(a:Ad):Sp:=λvs H Q E=>∃(y dx bl kl:Addr)(bvs pW:Ap)(bs:A1)(rs:At)(p:A5),vs=[.ref y,.ref bl,.ref kl]/\H y=some (.ins a.r dx [])/\bl≠y/\kl≠y/\(∀b,p b->b≠y) /\
 H bl=some (.lst bvs)/\H kl=some (.lst pW)/\Bts a H p bvs bs/\Kns a H p pW rs/\(∀b∈bs,zE b.1 b.2)/\(∀r∈rs,r.ok)/\(jK rs).length<64/\(qA rs).length<64/\bs.length<=1000 /\
 (zQ bs rs->∀H' l1 l2 bvs' kvs',Own H H' y->H' y=some (.ins a.r dx (wf l1 l2))->H' l1=some (.lst bvs')->H' l2=some (.lst kvs')->Bts a H' (New H) bvs' bs->Kns a H' (New H) kvs' rs->H l1=none->H l2=none->Q .non H') /\
 (¬zQ bs rs->∀H',Same H H'->E (.ref a.f) none H')
def zdv{rs:At}{r:Row}(h:rs[i]?=some r):jK (rs.take (i+1))=jK (rs.take i)++r.outs:=by
 unfold jK;rw[aT,h,gx];simp
def VP{rs:At}{r:Row}(h:rs[i]?=some r):qA (rs.take (i+1))=qA (rs.take i)++r.ins:=by
 unfold qA;rw[aT,h,gx];simp
def xg(f:Row->List Int)(rs:At)(i:Nat):((rs.take i).flatMap f).length<=(rs.flatMap f).length:=by
 conv=>rhs;rw[<- fB i rs,gx,aD]
 lia
def zdk(xs ys:A6):iv xs++iv ys=iv (xs++ys):=by rw[iv,iv,iv,aQ]
def zas(T:Txt K mg a)(F:Fun K "__init__" "Work.__init__" jP f fd):FnOk P w K mg base (CXr P w) 5 f fd ["self","belts","knots"] (JU K a):=by
 refine F.okx V9 ?_ ?_
 .walk_at"i"
 walk_at"k";refine oE5 h λy dx bl kl bvs p9=>oE4 p9 λpW bs rs p pQ=>oA9 pQ λpX hy nby nky hpy hb hk hB r8=>oA8 r8 λhKs hbo hro h64 h64' hlb kok kbad=>?_;clear p9 pQ r8 h;subst pX;walk_at"T";refine⟨_,(zj (zD ‹(pq 1) (za (pq 2) ze)›)  (zj (zt 3 V9.nd (zB ze))  (zj (zt 4 V9.nd (zB ze))  (zj (qU jn rfl (qj (pq 2)) (qq 5 V9.nd)  (zj (zD (z7 ao fR fQ Vp (pq 3) (za (zr (pq 5) rfl) ze)))  (zg (zD (z7 ao fR fQ Vp (pq 4) (za (zr (pq 5) rfl) ze))))))  (zj (zD ‹(pq 3) (za (zS qa z9 (za (pq 1) ze)) ze)›)  (zj (zD ‹(pq 4) (za (zS qa z9 (za (pq 1) ze)) ze)›)  (zj (jC (pq 0) (jJ (vars:=["belt"]) (caps:=[]) (N:=["belt"]) (ON:=["self","belts","knots","fed","taken","knot"]) (osc:=zi jP) rfl rfl (by right) rfl rfl (qj (pq 1)) (λ_ _ _ _=>(qq 0 (show(["belt"]:A8).Nodup from by symm))) (λ_ _ _ _=>qg) (λ_ _ _ _=>(zjs (x:="Belt") hr (za (zr (pq 0) rfl) (za (zr (pq 0) rfl) ze))))) rfl)  (zg (jC (pq 0) (jJ (vars:=["knot"]) (caps:=[]) (N:=["knot"]) (ON:=["self","belts","knots","fed","taken","knot"]) (osc:=zi jP) rfl rfl (by right) rfl rfl (qj (pq 2)) (λ_ _ _ _=>(qq 0 (show(["knot"]:A8).Nodup from by symm))) (λ_ _ _ _=>qg) (λ_ _ _ _=>(zgt hr (pq 0)))) rfl))))))))),?_⟩;exists uc (zaT T).mono (iE4 bl kl bvs pW (iA4 rfl (SqL.of hb) (SqL.of hk) (zR (λb1=>?_) (λb1=>?_))))
 rotate_left
 .refine kbad (λz=>b1 ?_) H (Same.refl _);rw[hB.len,hKs.len];exact z.1
 rw[hB.len,hKs.len]at b1;left;intro fl hfl;left;intro tl htl;have nft:fl≠tl:=rn rh htl;have htl0:H tl=none:=zI htl;walk_at"d";left;have s2:Same H (upd (upd H fl (.lst [])) tl (.lst [])):=(zf hfl).trans (zf htl);refine⟨kl,rfl,.inl ⟨⟨_,SqL.of (s2 _ _ hk)⟩,?_⟩⟩;let pY:Nat->St->Hp->Prop:=λi σ H'=>∃v5,σ=[some (.ref y),some (.ref bl),some (.ref kl),some (.ref fl),some (.ref tl),v5]/\Same H H'/\H' fl=some (.lst (iv (jK (rs.take i))))/\H' tl=some (.lst (iv (qA (rs.take i))));refine qL (K:=K) (a:=kl) (xs:=pW) pY ⟨_,iA4 rfl s2 (rq rh htl) rh⟩ (λi σ H' _ ⟨_,_,s,_⟩=>SqL.of (s _ _ hk)) ?_ ?_
 .intro i x σ H' hi pR;refine oE1 pR λv5 p9=>oA4 p9 λpQ s3 e1 e2=>?_;ext;let⟨r,hr',hKn0⟩:=hKs.at hi;refine oE6 hKn0.inv λy1 dx1 l1 l2 l3 fs p9=>oA9 p9 λpQ p0 p1 p2 p3 h0 f1 f2 pX=>oA5 pX λf3 h1 h2 h3 h4=>?_;clear p9 pX;subst pQ;have L1:=xg Row.outs rs i;have L2':=xg Row.ins rs i;have L3:=xg Row.outs rs (i+1);have L4:=xg Row.ins rs (i+1);have E1:=zdv hr';have E2:=VP hr';have n1:∀{b:Addr}{o:HO},H b=some o->b≠fl:=λh=>rn h hfl;have n2:∀{b:Addr}{o:HO},H b=some o->b≠tl:=λh=>rn h htl0;exists⟨.inl ⟨rfl,_,SqL.of e1⟩,iE5 y1 (x6 a r.wd) dx1 fs _ (iA6 rfl (s3 _ _ h0) (CT T _) (NO T _) f2 ?_)⟩;refine iE4 fl l2 _ _ (iA6 rfl rfl e1 (s3 _ _ h2) ?_ ?_)
  .refine b7 (zn ?_);have:=bp List.length E1;rw[aD]at this;rw[iv,iv,af,af];unfold jK at this h64 ⊢
   lia
  left;have e2':upd H' fl (.lst (iv (jK (rs.take i))++iv r.outs)) tl=some (.lst (iv (qA (rs.take i)))):=by rw[rj (bb nft)];exact e2
  refine⟨.inl ⟨rfl,_,SqL.of e2'⟩,iE5 y1 (x6 a r.wd) dx1 fs _ (iA6 rfl ?_ (CT T _) (NI T _) f1 ?_)⟩
  .rw[rj (n1 h0)];exact s3 _ _ h0
  refine iE4 tl l1 _ (iv r.ins) (iA6 rfl rfl e2' ?_ ?_ ?_)
  .rw[rj (n1 h1)];exact s3 _ _ h1
  .refine b7 (zn ?_);have:=bp List.length E2;rw[aD]at this;rw[iv,iv,af,af];unfold qA at this h64' ⊢
   lia
  refine⟨_,iA4 rfl (λb o hb=>?_) ?_ ?_⟩
  .rw[rj (n2 hb),rj (n1 hb)];exact s3 _ _ hb
  .rw[rj nft,rh,E1,zdk]
  .rw[rh,E2,zdk]
 .intro σ H1 pR;refine oE1 pR λv5 p9=>oA4 p9 λpQ s3 e1 e2=>?_;ext;rw[hKs.len,aV]at e1 e2;exists uc (xJ T).mono ⟨iN,⟨_,⟨.inl ⟨_,SqL.of (s3 _ _ hb),rfl⟩,?_⟩⟩⟩;rw[hB.len];refine iE3 fl (jK rs) bs.length (iA6 rfl (SqL.of e1) h64 hlb (λg1 H2 s4=>?_) (λg1 H2 s4=>kbad (λz=>g1 z.2.1) _ (s3.trans s4)));exists uc (xJ T).mono ⟨iN,⟨_,⟨.inl ⟨_,SqL.of (s4 _ _ (s3 _ _ hb)),rfl⟩,?_⟩⟩⟩;rw[hB.len];refine iE3 tl (qA rs) bs.length (iA6 rfl (SqL.of (s4 _ _ e2)) h64' hlb (λg2 H3 s5=>?_) (λg2 H3 s5=>kbad (λz=>g2 z.2.2) _ (s3.trans (s4.trans s5))));have kok:=kok ⟨b1,g1,g2⟩;have s6:=s3.trans (s4.trans s5);clear s3 s4 s5 e1 e2;clear g1 g2;left;walk_at"c";exists⟨bl,rfl,.inl ⟨⟨_,SqL.of (s6 _ _ hb)⟩,λ_ _ _ _ pV hacc=>?_⟩⟩;have nacc:H pV=none:=zM s6 hacc;let pZ:Nat->St->Hp->Prop:=λi σ H'=>∃v us,σ=[v]/\Same H3 H'/\H' pV=some (.lst us)/\Bts a H' (λb=>H3 b=none/\b≠pV) us (bs.take i);refine qL (K:=K) (a:=bl) (xs:=bvs) pZ (iE2 _ ([]) (iA4 rfl (zf hacc) rh (by rw[cH];exact .nil))) (λi σ H' _ ⟨_,_,_,s,_⟩=>SqL.of (s _ _ (s6 _ _ hb))) ?_ ?_
  .intro i x σ H' hi pR;refine oE2 pR λv us p9=>oA4 p9 λpQ s7 e1 hU=>?_;ext;let⟨⟨rm,pc⟩,hr',hBt0⟩:=hB.at hi;refine oE3 hBt0.inv λy1 dx1 fs p9=>oA5 p9 λpQ p0 h0 f1 f2=>?_;clear p9;subst pQ;have hok:=hbo _ (ai hr');have hil:i<bs.length:=(aa.mp hr').1;have h0':=s7 _ _ (s6 _ _ h0);exists iE4 a.j _ _ _ ⟨(zgN T).mono,iE5 y1 a.j dx1 fs _ (iA6 rfl h0' T.iO T.kb f1 (iE5 y1 a.j dx1 fs _ (iA6 rfl h0' T.iO T.iT f2 ?_)))⟩;intro z dz hz hdz hne;refine iE4 z dz rm pc (iA3 rfl rh ?_);rw[aq hok,ZR];have sN:Same H' (upd (upd H' dz (.own z)) z (.ins a.j dz (bf rm pc))):=λb o h=>by rw[rj (rn h hz),rj (rn h hdz)];exact h
   have hz':upd (upd H' dz (.own z)) z (.ins a.j dz (bf rm pc)) z=some (.ins a.j dz (bf rm pc)):=rh;generalize upd (upd H' dz (.own z)) z (.ins a.j dz (bf rm pc))=H4 at sN hz' ⊢;have hzn:z≠pV:=λq=>by rw[q,e1]at hz;cases hz
   refine⟨rfl,⟨_,iA3 (sN _ _ e1) (zn (by have:=hU.len;rw[aS]at this;lia)) (iE2 _ (us++[.ref z]) (iA4 rfl (λb o hb=>?_) rh ?_))⟩⟩
   .rw[rj (rn hb hacc)];exact sN _ _ (s7 _ _ hb)
   .rw[aT,hr'];refine Bts.push (hU.keep λb o hp hb=>⟨hp,by rw[rj hp.2];exact sN _ _ hb⟩) (ziW (p:=λb=>H3 b=none/\b≠pV) ⟨zM s7 hz,hzn⟩ (by rw[rj hzn];exact hz'))
  .intro σ H4 pR;refine oE2 pR λv us p9=>oA4 p9 λpQ s7 e1 hU=>?_;ext;rw[hB.len,aV]at hU;have s8:=s6.trans s7;have nacy:pV≠y:=(rn hy nacc).symm;exists iE4 y a.r dx ([]) (iA6 rfl (s8 _ _ hy) T.iu T.iR (by decide) ?_);have o9:Own H (upd H4 y (.ins a.r dx (qw "belts" (.ref pV) []))) y:=(Same.own s8).trans jq;have hy9:upd H4 y (.ins a.r dx (qw "belts" (.ref pV) [])) y=some (.ins a.r dx (qw "belts" (.ref pV) [])):=rh;have e9:upd H4 y (.ins a.r dx (qw "belts" (.ref pV) [])) pV=some (.lst us):=by rw[rj nacy];exact e1
   have hU9:Bts a (upd H4 y (.ins a.r dx (qw "belts" (.ref pV) []))) (λb=>H b=none/\b≠y) us bs:=hU.keep λb o hp hb=>by
    have q1:H b=none:=zM s6 hp.1;have q2:b≠y:=(rn hy q1).symm;exact⟨⟨q1,q2⟩,by rw[rj q2];exact hb⟩
   generalize upd H4 y (.ins a.r dx (qw "belts" (.ref pV) []))=H5 at o9 hy9 e9 hU9 ⊢;left;walk_at"c";exists⟨kl,rfl,.inl ⟨⟨_,SqL.of (o9 _ _ nky hk)⟩,λ_ _ _ _ ac2 hac2=>?_⟩⟩;let r9:Nat->St->Hp->Prop:=λi σ H'=>∃v us2,σ=[v]/\Same H5 H'/\H' ac2=some (.lst us2)/\Kns a H' (λb=>H5 b=none/\b≠ac2) us2 (rs.take i);refine qL (K:=K) (a:=kl) (xs:=pW) r9 (iE2 _ ([]) (iA4 rfl (zf hac2) rh (by rw[cH];exact .nil))) (λi σ H' _ ⟨_,_,_,s,_⟩=>SqL.of (s _ _ (o9 _ _ nky hk))) ?_ ?_
   .intro i x σ H' hi pR;refine oE2 pR λv us2 p9=>oA4 p9 λpQ s10 e2 hV=>?_;ext;let⟨r,hr',hKn⟩:=hKs.at hi;have hok:=hro _ (ai hr');have hil:i<rs.length:=(aa.mp hr').1;have hKn':KnP a H' p x r:=hKn.keep λb o hp hb=>⟨hp,s10 _ _ (o9 _ _ (hpy b hp) hb)⟩;refine oE6 hKn'.inv λy1 dx1 l1 l2 l3 fs p9=>oA9 p9 λpQ p0 p1 p2 p3 h0 f1 f2 pX=>oA5 pX λf3 h1 h2 h3 h4=>?_;clear p9 pX;subst pQ;exists iE7 y1 (x6 a r.wd) dx1 fs _ _ _ (iA5 rfl h0 f3 ((zgF T r.wd).mono) ?_);refine iE3 y1 r p (iA5 rfl hKn' rfl hok (λv' H6 s11 hN=>?_));refine⟨_,iA3 (s11 _ _ e2) (zn (by have:=hV.len;rw[aS]at this;lia)) (iE2 _ (us2++[v']) (iA4 rfl (λb o hb=>?_) rh ?_))⟩
    .rw[rj (rn hb hac2)];exact s11 _ _ (s10 _ _ hb)
    .rw[aT,hr'];refine Kns.append (hV.keep λb o hp hb=>⟨hp,by rw[rj hp.2];exact s11 _ _ hb⟩) (Kns.one (hN.keep λb o hp hb=>?_));have q2:b≠ac2:=λz=>by rw[z]at hp;rw[New,e2]at hp;cases hp
     exact⟨⟨zM s10 hp,q2⟩,by rw[rj q2];exact hb⟩
   .intro σ H6 pR;refine oE2 pR λv us2 p9=>oA4 p9 λpQ s10 e2 hV=>?_;ext;rw[hKs.len,aV]at hV;have hy10:=s10 _ _ hy9;exists iE4 y a.r dx _ (iA6 rfl hy10 T.iu T.io (by show 1<1000;decide) ?_);have n2y:ac2≠y:=λz=>by rw[z,hy9]at hac2;cases hac2
    have ho:∀b,H5 b=none->b≠y->H b=none:=λb h1 h2=>by
     cases e:H b with
     |none=>rfl
     |some o=>rw[o9 b o h2 e]at h1;cases h1
    refine kok _ pV ac2 us us2 ((o9.trans (Same.own s10)).trans jq) rh ?_ ?_ ?_ ?_ nacc (ho _ hac2 n2y)
    .rw[rj nacy];exact s10 _ _ e9
    .rw[rj n2y];exact e2
    .exact hU9.keep λb o hp hb=>⟨hp.1,by rw[rj hp.2];exact s10 _ _ hb⟩
    .refine hV.keep λb o hp hb=>?_;have q:b≠y:=λz=>by rw[z,hy9]at hp;cases hp.1
     exact⟨ho b hp.1 q,by rw[rj q];exact hb⟩
def zjM(T:Txt K mg a):KCal P w K mg base "Work" a.r 5 ["self","belts","knots"] [] (JU K a):=T.oa.cal T.pO (zas T)
noncomputable def zkH(b:Int×Int):D:=.tup [.int b.1,.int b.2]
def zd2(n:Nat):(rgI n).length=n:=by simp[rgI]
def zbx(n:Nat):rgI (n+1)=rgI n++[(n:Int)]:=by simp[rgI,gr]
def zP(ns:A6):(iv ns).length=ns.length:=by rw[iv,af]
def vR{x:V}(h:(iv ns)[i]?=some x):∃n,ns[i]?=some n/\x=.int n:=by
 rw[iv,ap,aB]at h;let⟨n,h1,h2⟩:=h;exact⟨n,h1,h2.symm⟩
def xr(h:ns[i]?=some n):(iv ns)[i]?=some (.int n):=by rw[iv,ap,h];rfl
def zgQ(ns:A6)(k:Nat):(iv ns).eraseIdx k=iv (ns.eraseIdx k):=by
 induction ns generalizing k with
 |nil=>simp[iv]
 |cons n ns ih =>
  cases k with
  |zero=>simp[iv]
  |succ k=>simpa[iv]using ih k
def jr(ns:A6)(n:Int):iv ns++[.int n]=iv (ns++[n]):=by simp[iv]
structure WInv(bs:A1)(rs:At)(es ks:A6):Prop where
 tk:(qA rs++es).Perm (rgI bs.length)
 fd:(jK rs++ks).Perm (rgI bs.length)
 ro:∀r∈rs,r.ok
 bo:∀b∈bs,zE b.1 b.2
def zdw(rs:At)(r:Row):jK (rs++[r])=jK rs++r.outs:=by simp[jK]
def VQ(rs:At)(r:Row):qA (rs++[r])=qA rs++r.ins:=by simp[qA]
def zeo{us:Ap}{n:Nat}(h:us.length=n+1):∃a vs,us=a::vs/\vs.length=n:=by
 cases us with
 |nil=>cases h
 |cons a vs=>exact⟨a,vs,rfl,Nat.succ.inj h⟩
def two_of{us:Ap}(h:us.length=2):∃a b,us=[a,b]:=by
 let⟨a,_,rfl,h1⟩:=zeo h;let⟨b,_,rfl,h2⟩:=zeo h1;exact⟨a,b,by rw[dN.mp h2]⟩
theorem zbG:∀{es:A6}{j:Nat}{y:Int},es[j]?=some y->(y::es.eraseIdx j).Perm es
 |[],_,_,h=>by simp at h
 |e::es,0,y,h=>by
  have h:e=y:=by simpa using h
  subst h;simp
 |e::es,j+1,y,h=>by
  have ih:=zbG (es:=es) (j:=j) (y:=y) (by simpa using h);rw[List.eraseIdx_cons_succ];exact(List.Perm.swap e y _).trans (ih.cons e)
def Qa{n:Nat}(h:x∈rgI n):0<=x/\x<n:=by
 unfold rgI at h;let⟨i,hi,rfl⟩:=aK.mp h;have:=br.mp hi
 lia
def wdS:Wd->Str
 | .source=>"source"
 | .drain=>"drain"
 | .parter=>"parter"
 | .first=>"first"
 | .sieve=>"sieve"
 | .joiner=>"joiner"
def Z7{b:Int×Int}(h:Rep H p v (zkH b)):∃t,v=.ref t/\H t=some (.tup [.int b.1,.int b.2]):=by
 let⟨t,us,rfl,_,ht,rr⟩:=Rep.tup' h;have g:=rr.g;let⟨x0,x1,rfl⟩:=two_of rr.len;have a0:=g 0 x0 _ rfl rfl;have a1:=g 1 x1 _ rfl rfl;cases a0;cases a1;exact⟨t,rfl,ht⟩
noncomputable def qG(a:Ad)(bs:A1)(rs:At):D:=.ob a.r [("belts",.lst (bs.map (Q7 a))),("knots",.lst (rs.map (Q6 a)))]
def zj9{l1 l2:Addr}:wf l1 l2=([(("belts":Str),V.ref l1),(("knots":Str),V.ref l2)]:Ar):=by
 unfold wf;simp only[qw];rw[am (by symm)]
def zaX{a:Ad}{rs:At}:([("belts",.lst (bs.map (Q7 a))),("knots",.lst (rs.map (Q6 a)))]:List (Str×D)).lookup ("belts":Str)=some (.lst (bs.map (Q7 a))):=jf
def zfK{a:Ad}{rs:At}:([("belts",.lst (bs.map (Q7 a))),("knots",.lst (rs.map (Q6 a)))]:List (Str×D)).lookup ("knots":Str)=some (.lst (rs.map (Q6 a))):=(zW (by symm)).trans jf
def zj8{a:Ad}{rs:At}{f:Str}(h1:f≠"belts")(h2:f≠"knots"):([("belts",.lst (bs.map (Q7 a))),("knots",.lst (rs.map (Q6 a)))]:List (Str×D)).lookup f=none:=(zW h1).trans (zW h2)
def zgA{x b:Addr}(h:H x=some o)(hb:H b=none):b∉[x]:=λz=>by rw[ak.mp z,h]at hb;cases hb
def Xz(r:Row):List Int:=match r.wd with
 | .source=>r.pace::r.kinds
 | .drain=>[r.pace]
 | .sieve=>r.kinds
 |_=>[]
def zh1{xs:A6}:(∃x,xs=[x])↔xs.length=1:=⟨λ⟨_,h⟩=>by rw[h];rfl,λh=>List.length_eq_one_iff.mp h⟩
def zda{r:Row}(h:r.ok):r.ins.length<=4/\r.outs.length<=4:=by
 let⟨wd,ins,outs,pc,ks⟩:=r;cases wd<;>simp only[Row.ok,zh1,<- dN]at h ⊢ <;> lia
def KT(T:Txt K mg a)(wd:Wd):kitOne K (.ref (x6 a wd)) (.ref a.k)=some true:=by
 cases wd
 .exact T.ml
 .exact T.mR
 .exact T.mn
 .exact T.kD
 .exact T.mS
 .exact T.mq
abbrev qk(i:Int):Str:=toString i
def qr(h0:0<=n)(h1:n<zF):n.natAbs.log2<1920:=by
 rcases Nat.eq_zero_or_pos n.natAbs with z|z
 .rw[z];decide
 .refine(gJ (by lia)).mpr (aH (show n.natAbs<1000000000000000000000000000000 by unfold zF at h1;lia) (by symm))
def qD(h0:0<=n)(h1:n<zF):(qk n).length<=1921:=PyProof.Rows.int_text_len_1921 (qr h0 h1)
def xB{xs:A8}(h:∀x∈xs,x.length<=m):(xs.map (·.length)).sum<=xs.length*m:=by
 induction xs with
 |nil=>simp
 |cons x xs ih =>
  have h1:=h x (a7 ..);have h2:=ih λy hy=>h y (aA _ hy);simp only[bN,List.sum_cons,aM,Nat.succ_mul]
  lia
def jW{x:Str}:tyV K "str" (.str x) H:=by trivial
def zO(nm:Str)(ns:A6):Str:=Str.join " " (nm::ns.map qk)
def zhx(K:A0):Sp:=λvs H Q _=>∃(nm:Str)(l:Addr)(ns:A6),vs=[.str nm,.ref l]/\SqL K H l (iv ns)/\nm.length<=100/\ns.length<=30/\(∀n∈ns,0<=n/\n<zF)/\∀H',Same H H'->Q (.str (zO nm ns)) H'
def jd(T:Txt K mg a):Cal P w K mg base "_law_row" 1 ["_law_word","_law_numbers"] [] (zhx K):=T.pJ.cal λF=>by
 refine F.okx zga ?_ ?_
 .walk_at"i"
 walk_at"j";refine oE3 h λnm l ns p9=>oA6 p9 λpQ hl n100 n30 hk k=>?_;clear p9 h;subst pQ;walk_at"T";refine⟨_,(zg (zk (z7 aW bj bh xf zy (za (zG zK (zB (za (pq 0) ze)) (jJ (vars:=["_law_number"]) (caps:=[]) (N:=["_law_number"]) (ON:=["_law_word","_law_numbers"]) (osc:=zi zaf) rfl rfl (by right) rfl rfl (qj (pq 1)) (λ_ _ _ _=>(qq 0 (show(["_law_number"]:A8).Nodup from by symm))) (λ_ _ _ _=>qg) (λ_ _ _ _=>(jS Wf QK (za (pq 0) ze))))) ze)))),?_⟩;exists⟨jW,λq1 hq1=>?_⟩;have s1:=zf (o:=.lst [.str nm]) hq1;have g1:upd H q1 (.lst [.str nm]) q1=some (.lst [.str nm]):=rh;generalize upd H q1 (.lst [.str nm])=H1 at s1 g1 ⊢;walk_at"c";exists⟨l,rfl,.inl ⟨⟨_,x8 s1 hl⟩,λ_ _ _ _ pV hacc=>?_⟩⟩;refine qL (K:=K) (a:=l) (xs:=iv ns) (λi σ H'=>∃v,σ=[v]/\Same H1 H'/\H' pV=some (.lst (((ns.take i).map qk).map V.str))) ⟨_,iA3 rfl (zf hacc) rh⟩ (λi σ H' _ h=>by let⟨_,_,s,_⟩:=h;exact x8 (s1.trans s) hl) ?_ ?_
 .intro i x σ H2 hi pR;refine oE1 pR λv p9=>oA3 p9 λpQ s2 e2=>?_;ext;let⟨y,hy,rfl⟩:=vR hi;have hyl:=(aa.mp hy).1;have yb:=hk y (ai hy);exists⟨qr yb.1 yb.2,⟨_,iA3 e2 (zn (by rw[af,af,aS];lia)) ⟨_,iA3 rfl (λb o hb=>?_) ?_⟩⟩⟩
  .rw[rj (rn hb hacc)];exact s2 b o hb
  .rw[rh,aT,hy,aQ,aQ];rfl
 intro σ H2 pR;refine oE1 pR λv p9=>oA3 p9 λpQ s2 e2=>?_;ext;rw[zP,aV]at e2;exists qu (SqL.of (s2 _ _ g1)) (SqL.of e2) (qe (by rw[af,af];simp;lia)) λq2 hq2=>?_;have hb:∀x∈nm::ns.map qk,x.length<=1921:=λx hx=>by
  rcases au.mp hx with rfl|hx
  .lia
  .obtain⟨n,hn,rfl⟩:=aK.mp hx;exact qD (hk n hn).1 (hk n hn).2
 have sl:=xB hb;rw[aM,af]at sl;refine iE3 _ q2 (nm::ns.map qk) (iA5 rfl rfl (by rw[rh];rfl) ?_ (k _ ((s1.trans s2).trans (zf hq2))));rw[aM,af];have:(Str.ofString " ").length=1:=by symm
 rw[this]
 lia
def jp(r:Row):List Int:=if r.wd=.joiner then r.outs++r.ins else r.ins++r.outs++Xz r
def zge(r:Row):Str:=zO (wdS r.wd) (jp r)
def zbP{r:Row}(h:r.ok):(jp r).length<=20:=by
 have h4:=zda h;let⟨wd,ins,outs,pc,ks⟩:=r;simp only at h4;cases wd
 .obtain⟨_,_,_,_,_,h6,_⟩:=h;simp only at h6;simp only[jp,Xz,reduceCtorEq,cP,aD,aM]
  lia
 .simp only[jp,Xz,reduceCtorEq,cP,aD,aM,bX]
  lia
 .simp only[jp,Xz,reduceCtorEq,cP,aD,aM,bX]
  lia
 .simp only[jp,Xz,reduceCtorEq,cP,aD,aM,bX]
  lia
 .obtain⟨_,_,kk,ek,_⟩:=h;simp only at ek;subst ek;simp only[jp,Xz,reduceCtorEq,cP,aD,aM,bX]
  lia
 .simp only[jp,ef,aD]
  lia
def qZ(b:Int×Int):Str:=zO "belt" [b.1,b.2]
def xA(bs:A1)(rs:At):List Str:=bs.map qZ++rs.map zge
def zkb(bs:A1)(rs:At):Str:=Str.join "\n" (xA bs rs)
def vP(h1:nm.length<=100)(h2:ns.length<=30)(hb:∀n∈ns,0<=n/\n<zF):(zO nm ns).length<=60000:=by
 have h:=eE " " (nm::ns.map qk);have hb:∀x∈nm::ns.map qk,x.length<=1921:=λx hx=>by
  rcases au.mp hx with rfl|hx
  .lia
  .obtain⟨n,hn,rfl⟩:=aK.mp hx;exact qD (hb n hn).1 (hb n hn).2
 have sl:=xB hb;have:(Str.ofString " ").length=1:=by symm
 rw[this]at h;rw[aM,af]at sl h;unfold zO
 lia
structure Told2(bs:A1)(rs:At):Prop where
 b24:bs.length<=24
 r24:rs.length<=24
 bo:∀b∈bs,zE b.1 b.2
 ro:∀r∈rs,r.ok
 nb:∀r∈rs,∀n∈jp r,0<=n/\n<zF
def zdP{rs:At}(h:zQ bs rs)(bo:∀b∈bs,zE b.1 b.2)(ro:∀r∈rs,r.ok):Told2 bs rs:=by
 have b24:=h.1.1.2;have kl:(1000:Int)<zF:=by symm
 refine⟨h.1.1.2,h.1.2.2,bo,ro,λr hr n hn=>?_⟩;have h1:∀n∈r.outs,0<=n/\n<zF:=λn hn=>by
  have:=Qa (h.2.1.mem_iff.mp (cB.mpr ⟨r,hr,hn⟩));exact⟨this.1,dS (eM this.2 (by lia:(bs.length:Int)<=1000)) kl⟩
 have h2:∀n∈r.ins,0<=n/\n<zF:=λn hn=>by
  have:=Qa (h.2.2.mem_iff.mp (cB.mpr ⟨r,hr,hn⟩));exact⟨this.1,dS (eM this.2 (by lia:(bs.length:Int)<=1000)) kl⟩
 have ok:=ro r hr;have h3:∀n∈Xz r,0<=n/\n<zF:=λn hn=>by
  let⟨wd,ins,outs,pc,ks⟩:=r;cases wd
  .obtain⟨_,_,p1,p4,_,_,kk⟩:=ok;simp only at p1 p4;rcases au.mp hn with e|hn
   .rw[show n=pc from e];exact⟨by lia,cM (show pc<=1000 by lia) kl⟩
   .exact kk n hn
  .obtain⟨_,_,p1,p4⟩:=ok;simp only at p1 p4;rcases au.mp hn with e|hn
   .rw[show n=pc from e];exact⟨p1,cM (show pc<=1000 by lia) kl⟩
   .cases hn
  .cases hn
  .cases hn
  .obtain⟨_,_,kk,ek,q1,q2⟩:=ok;simp only at ek;subst ek;rcases au.mp hn with rfl|hn
   .exact⟨q1,q2⟩
   .cases hn
  .cases hn
 unfold jp at hn
 split at hn
 .rcases ay.mp hn with hn|hn
  .exact h1 n hn
  .exact h2 n hn
 .rcases ay.mp hn with hn|hn
  .rcases ay.mp hn with hn|hn
   .exact h2 n hn
   .exact h1 n hn
  .exact h3 n hn
def Zf{b:Int×Int}(h:zE b.1 b.2):∀n∈[b.1,b.2],0<=n/\n<zF:=λn hn=>by
 have kl:(1000:Int)<zF:=by symm
 let⟨h1,h2,h3,h4⟩:=h;simp only[au,bn,bR]at hn;rcases hn with rfl|rfl
 .exact⟨by lia,cM (show b.1<=1000 by lia) kl⟩
 .exact⟨by lia,cM (show b.2<=1000 by lia) kl⟩
def VN(wd:Wd):(wdS wd).length<=100:=by cases wd<;>decide+kernel
def zeF{rs:At}(h:Told2 bs rs):(xA bs rs).length<=48/\∀x∈xA bs rs,x.length<=60000:=by
 have b24:=h.b24;have r24:=h.r24;refine⟨by unfold xA;rw[aD,af,af];lia,λx hx=>?_⟩;rcases ay.mp hx with hx|hx
 .obtain⟨b,hb,rfl⟩:=aK.mp hx;exact vP (by symm) (by show 2<=30;decide) (Zf (h.bo b hb))
 .obtain⟨r,hr,rfl⟩:=aK.mp hx;exact vP (VN _) (aJ (zbP (h.ro r hr)) (by decide)) (h.nb r hr)
def zeE{rs:At}(h:Told2 bs rs):((xA bs rs).map (·.length)).sum+(xA bs rs).length*(Str.ofString "\n").length<=16777216:=by
 let⟨h1,h2⟩:=zeF h;have sl:=xB h2;have:(Str.ofString "\n").length=1:=by symm
 rw[this]
 lia
section
variable{H:Hp}{z dz:Addr}{Q:VK}{EX:XK}
end
def WInv.knot{rs:At}{es ks es' ks':A6}{r:Row}(h:WInv bs rs es ks)(pe:(r.ins++es').Perm es)(pk:(r.outs++ks').Perm ks)(ok:r.ok):WInv bs (rs++[r]) es' ks':=by
 refine⟨?_,?_,λx hx=>?_,h.bo⟩
 .rw[VQ,cI];exact(cq _ pe).trans h.tk
 .rw[zdw,cI];exact(cq _ pk).trans h.fd
 .rcases ay.mp hx with hx|hx
  .exact h.ro x hx
  .rw[ak.mp hx];exact ok
def WInv.perm{rs:At}{es ks es' ks':A6}(h:WInv bs rs es ks)(pe:es'.Perm es)(pk:ks'.Perm ks):WInv bs rs es' ks':=⟨(cq _ pe).trans h.tk,(cq _ pk).trans h.fd,h.ro,h.bo⟩
def WInv.belt{rs:At}{es ks:A6}{b:Int×Int}(h:WInv bs rs es ks)(hb:zE b.1 b.2):WInv (bs++[b]) rs (es++[(bs.length:Int)]) (ks++[(bs.length:Int)]):=by
 refine⟨?_,?_,h.ro,λx hx=>?_⟩
 .rw[aD,bP,zbx,<- cI];exact gj _ h.tk
 .rw[aD,bP,zbx,<- cI];exact gj _ h.fd
 .rcases ay.mp hx with hx|hx
  .exact h.bo x hx
  .rw[ak.mp hx];exact hb
noncomputable abbrev ms3(L R E:Addr):List Addr:=[L,R,E]
def bTx(bs:A1):List V:=bs.map λb=>V.str (qZ b)
def rTx(rs:At):List V:=rs.map λr=>V.str (zge r)
structure GS(H0 H:Hp)(L R E:Addr)(bs:A1)(rs:At)(es:A6):Prop where
 f:Fr (ms3 L R E) H0 H
 nLR:L≠R
 nLE:L≠E
 nRE:R≠E
 hL:H L=some (.lst (bTx bs))
 hR:H R=some (.lst (rTx rs))
 hE:H E=some (.lst (iv es))
section
variable{H0 H H':Hp}{L R E:Addr}{bs bs':A1}{rs rs':At}{es es':A6}
def GS.same(w:GS H0 H L R E bs rs es)(s:Same H H'):GS H0 H' L R E bs rs es:={w with f:=w.f.trans s.fr,hL:=s _ _ w.hL,hR:=s _ _ w.hR,hE:=s _ _ w.hE}
def GS.off(w:GS H0 H L R E bs rs es){x:Addr}(h:H x=none):x∉ms3 L R E:=λz=>by
 have h1:=w.hL;have h2:=w.hR;have h3:=w.hE;simp only[au,bn,bR]at z;rcases z with rfl|rfl|rfl
 .rw[h1]at h;cases h
 .rw[h2]at h;cases h
 .rw[h3]at h;cases h
def GS.here(w:GS H0 H L R E bs rs es):GS H H L R E bs rs es:={w with f:=Fr.refl}
def GS.trans(w:GS H0 H L R E bs rs es)(v:GS H H' L R E bs' rs' es'):GS H0 H' L R E bs' rs' es':={v with f:=w.f.trans v.f}
def GS.setE(w:GS H0 H L R E bs rs es)(es':A6):GS H0 (upd H E (.lst (iv es'))) L R E bs rs es' :=
 {w with f:=w.f.trans (qW (by simp)),hL:=by rw[rj w.nLE];exact w.hL,hR:=by rw[rj w.nRE];exact w.hR,hE:=rh}
def GS.addL(w:GS H0 H L R E bs rs es)(b:Int×Int):GS H0 (upd H L (.lst (bTx bs++[.str (qZ b)]))) L R E (bs++[b]) rs es :=
 {w with f:=w.f.trans (qW (by simp)),hL:=by rw[rh,bTx,bTx,aQ];rfl,hR:=by rw[rj w.nLR.symm];exact w.hR,hE:=by rw[rj w.nLE.symm];exact w.hE}
def GS.addR(w:GS H0 H L R E bs rs es)(r:Row){x:Str}(e:x=zge r):GS H0 (upd H R (.lst (rTx rs++[.str x]))) L R E bs (rs++[r]) es :=
 {w with f:=w.f.trans (qW (by simp)),hL:=by rw[rj w.nLR];exact w.hL,hR:=by rw[rh,rTx,rTx,aQ,e];rfl,hE:=by rw[rj w.nRE.symm];exact w.hE}
end
def zgf{α:Type}(xs:List α)(k:Nat):(xs.drop k++xs.take k).Perm xs:=by
 refine List.perm_append_comm.trans ?_;rw[fB]
def xu(xs:Ap)(k:Nat)(h:k<=xs.length):vh xs (some (k:Int)) none=xs.drop k:=by
 unfold vh;rw[HT.sIx_nat,HT.sIx_none,fm h];exact da (by rw[cU];lia)
def zcf(xs:Ap)(n:Nat):vh xs none (some (n:Int))=xs.take n:=by
 have h:=HT.sIx_nat xs.length xs.length n;unfold vh;rw[HT.sIx_none,h,Nat.sub_zero,List.drop_zero];by_cases e:n<=xs.length
 .rw[fm e]
 .rw[Nat.min_eq_right (by lia),aV,da (by lia)]
def WInv.work{rs rs':At}(h:WInv bs rs [] [])(pm:rs'.Perm rs)(b24:bs.length<=24)(r1:1<=rs.length)(r24:rs.length<=24):zQ bs rs'/\(∀r∈rs',r.ok):=by
 have tk:=h.tk;have fd:=h.fd;rw[bB]at tk fd;have pl:=pm.length_eq;have b1:1<=bs.length:=by
  let⟨r,rs0,rfl⟩:=dk (dm (by lia:0<rs.length));have ok:=h.ro r (by simp);have lt:=tk.length_eq;have lf:=fd.length_eq;rw[zd2]at lt lf;have e1:(qA (r::rs0)).length=r.ins.length+(qA rs0).length:=by simp[qA]
  have e2:(jK (r::rs0)).length=r.outs.length+(jK rs0).length:=by simp[jK]
  have:1<=r.ins.length+r.outs.length:=by
   let⟨wd,ins,outs,pc,kd⟩:=r;cases wd
   .obtain⟨_,⟨o,q⟩,_⟩:=ok;simp only at q;subst q;simp
   .obtain⟨⟨o,q⟩,_⟩:=ok;simp only at q;subst q;simp
   .obtain⟨⟨o,q⟩,_⟩:=ok;simp only at q;subst q;simp
   .obtain⟨⟨o,q⟩,_⟩:=ok;simp only at q;subst q;simp
   .obtain⟨⟨o,q⟩,_⟩:=ok;simp only at q;subst q;simp
   .obtain⟨⟨o,q⟩,_⟩:=ok;simp only at q;subst q;simp
  lia
 refine⟨⟨⟨⟨b1,b24⟩,by lia,by lia⟩,?_,?_⟩,λr hr=>h.ro r (pm.mem_iff.mp hr)⟩
 .exact(pm.flatMap_right _).trans fd
 .exact(pm.flatMap_right _).trans tk
abbrev Nb(ns:A6):Prop:=∀n∈ns,0<=n/\n<zF
def nb0:Nb []:=λ_ h=>nomatch h
def nb1{xs:A6}(h0:0<=x)(h1:x<zF)(h:Nb xs):Nb (x::xs):=λn hn=>by
 rcases au.mp hn with rfl|hn
 .exact⟨h0,h1⟩
 .exact h n hn
def nbs{xs:A6}(h0:0<=x)(h1:x<1000)(h:Nb xs):Nb (x::xs):=nb1 h0 (dS h1 (by symm)) h
noncomputable def xv(ns:A6)(k:Nat):Int:=ns.getD k 0
inductive spCell(K:A0)(vs:Ap)(H:Hp)(Q:VK)(E:XK):Prop
 |i (l:Addr) (ns:A6) (k:Nat):vs=[.ref l,.int k]->SqL K H l (iv ns)->Q (.int (xv ns k)) H->spCell K vs H Q E
def jh(T:Txt K mg a):Cal P w K mg base "_law_cell" 1 ["_law_cells","_law_k"] [] (spCell K):=T.ph.cal λF=>by
 refine F.okx zeR ?_ ?_
 .walk_at"i"
 walk_at"k";rcases h with⟨l,ns,n,rfl,hl,k⟩;walk_at"T";refine⟨_,(zl (zH (zo zgw (pq 1) (zS qa z9 (za (pq 0) ze)) (zu _))  (zg (zk (zv (pq 0) (pq 1))))  zp)  (zg (zk zh))),?_⟩;exists⟨_,.inl ⟨_,hl,rfl⟩,?_⟩;walk_at"r";rw[zP];refine zR (λh=>?_) (λh=>?_)
 .have h:n<ns.length:=by lia
  refine zw hl (zJ (xr (ac h))) ?_;have e:ns[n]=xv ns n:=by simp[xv,h]
  rw[e];exact k
 .have e:xv ns n=0:=by
   have h:ns.length<=n:=by lia
   simp[xv,h]
  rw[e]at k;walk_at"r";exact k
def zi5:Sp:=λvs H Q _=>∃n p m:Int,vs=[.int n,.int p,.int m]/\0<p/\0<m/\∀r,0<=r->r<m->Q (.int r) H
def qF(T:Txt K mg a):Cal P w K mg base "_law_some" 1 ["_law_number","_law_prime","_law_many"] [] zi5:=T.pi.cal λF=>by
 refine F.okx zeP ?_ ?_
 .walk_at"i"
 walk_at"k";refine oE3 h λn p m p9=>oA4 p9 λpQ p0 m0 k=>?_;clear p9 h;subst pQ;walk_at"T";refine⟨_,(zg (zk (zG ju (zG ju (zG zav (wJ (zG zK (pq 0) zh)) zh) (pq 1)) (pq 2)))),?_⟩;walk_at"r";exact iA4 (mul_okR (by decide) (by decide)) p0 m0 (k _ (bY _ (by lia)) (bM _ m0))
def JB{r:Int}(h0:0<=r)(h1:r<ns.length):∃x∈ns,atI (iv ns) r=some (.int x):=by
 let⟨j,rfl⟩:∃j:Nat,r=j:=⟨r.toNat,by lia⟩;have hj:j<ns.length:=by lia
 exact⟨_,cc hj,zJ (xr (ac hj))⟩
def zi9:Sp:=λvs H Q _=>∃n:Int,vs=[.int n]/\∀H' b,Same H H'->zE b.1 b.2->Q (.str (qZ b)) H'
def xw(T:Txt K mg a):Cal P w K mg base "_law_belt" 2 ["_law_number"] [] zi9:=T.pj.cal λF=>by
 refine F.okx zeS ?_ ?_
 .walk_at"i"
 walk_at"j";let⟨n,rfl,k⟩:=h;walk_at"T";refine⟨_,(zl (zt 1 zeS.nd (zv (zB (za zh (za zh (za zh (za zh ze))))) ‹(pq 0) (za zh (za zh ze))›))  (zg (zk (zq ⟨rfl,rfl,rfl⟩ hr (za zy (za (zB (za (pq 1) (za (zv (zB (za zh (za zh (za zh (za zh (za zh ze)))))) ‹(pq 0) (za zh (za zh ze))›) ze))) ze)))))),?_⟩;existsλp hp=>(uc (qF T).mono (iE3 n 10007 4 (iA4 rfl (by decide) (by decide) (λr r0 r1=>?_))));let⟨x,hx,ex⟩:=JB (ns:=[1,1,2,3]) r0 r1;have s1:=zf (o:=.lst (iv [1,1,2,3])) hp;refine zw (SqL.of rh) ex ?_;exists uc (jd T).mono (λq hq=>(uc (qF T).mono (iE3 n 10009 5 (iA4 rfl (by decide) (by decide) (λr' r0' r1'=>?_)))));let⟨y,hy,ey⟩:=JB (ns:=[1,1,1,2,3]) r0' r1';have s2:=s1.trans (zf (o:=.lst (iv [1,1,1,2,3])) hq);refine zw (SqL.of rh) ey λt ht=>?_;have bo:zE x y:=by
  simp only[au,bn,bR]at hx hy;exact iA4 (by lia) (by lia) (by lia) (by lia)
 exact iE3 _ t ([x,y]) (iA6 rfl (SqL.of rh) (by symm) (by simp) (Zf (b:=(x,y)) bo) (λH' s3=>k H' (x,y) ((s2.trans (zf ht)).trans s3) bo))
def zhv:Sp:=λvs H Q _=>∃(n y kk o1 o2:Int)(O:Addr),vs=[.int n,.int y,.ref O,.int kk]/\H O=some (.lst (iv [o1,o2]))/\Nb [y,o1,o2]/\0<=kk/\kk<zF/\∀H' r,Same H H'->r.ins=[y]->r.outs=[o1,o2]->r.ok->Q (.str (zge r)) H'
def zfx(T:Txt K mg a):Cal P w K mg base "_law_split" 2 ["_law_number","_law_into","_law_outs","_law_kind"] [] zhv:=T.oN.cal λF=>by
 refine F.okx zcN ?_ ?_
 .walk_at"i"
 walk_at"j";refine oE6 h λn y kk o1 o2 O p9=>oA6 p9 λpQ hO nb k0 k1 k=>?_;clear p9 h;subst pQ;walk_at"T";refine⟨_,(zl (zt 4 zcN.nd ‹(pq 0) (za zh (za zh ze))›)  (zl (zH (zo (qT hr.units1) (pq 4) zh (zu _))  (zg (zk (zq ⟨rfl,rfl,rfl⟩ hr (za zy (za (zG zK (zG zK (zB (za (pq 1) ze)) (pq 2)) (zB (za (pq 3) ze))) ze)))))  zp)  (zg (zk ‹(zv (zB (za zy (za zy ze))) (pq 4)) (za (zG zK (zB (za (pq 1) ze)) (pq 2)) ze)›)))),?_⟩;exists uc (qF T).mono (iE3 n 10039 3 (iA4 rfl (by decide) (by decide) (λpk p0 p3=>?_)));exists zR (λ_=>?_) (λp2=>?_)
 .exists uc (jd T).mono (λq1 h1=>?_);have s1:=zf (o:=.lst [.int y]) h1;refine qu (SqL.of rh) (SqL.of (s1 _ _ hO)) (qe (by simp[iv])) λq2 h2=>?_;have s2:=s1.trans (zf (o:=.lst ([.int y]++iv [o1,o2])) h2);intro q3 h3;have s3:=s2.trans (zf (o:=.lst [.int kk]) h3);refine qu (SqL.of (rq rh h3)) (SqL.of rh) (qe (by simp[iv])) λq4 h4=>?_;exact⟨_,q4,[y,o1,o2,kk],rfl,SqL.of rh,by symm,by simp,λn hn=>by
   rcases ay.mp (show n∈[y,o1,o2]++[kk]from hn)with z|z
   .exact nb n z
   .rw[ak.mp z];exact⟨k0,k1⟩,λH' s5=>k H' ⟨.sieve,[y],[o1,o2],0,[kk]⟩ ((s3.trans (zf h4)).trans s5) rfl rfl ⟨⟨_,rfl⟩,rfl,kk,rfl,k0,k1⟩⟩
 exists uc (jd T).mono (λq0 h0=>?_);have s0:=zf (o:=.lst [V.str "parter",.str "first"]) h0;let⟨wd,hw,ew⟩:∃wd:Wd,(wd=.parter\/wd=.first)/\atI [V.str "parter",.str "first"] pk=some (V.str (wdS wd)):=by
  rcases(by lia:pk=0\/pk=1)with rfl|rfl
  .exact⟨.parter,.inl rfl,rfl⟩
  .exact⟨.first,.inr rfl,rfl⟩
 refine zw (SqL.of rh) ew λq1 h1=>?_;have s1:=s0.trans (zf (o:=.lst [.int y]) h1);refine qu (SqL.of rh) (SqL.of (s1 _ _ hO)) (qe (by simp[iv])) λq2 h2=>?_;have er:jp ⟨wd,[y],[o1,o2],0,[]⟩=[y,o1,o2]:=by rcases hw with rfl|rfl<;>rfl
 exact iE3 _ q2 (jp ⟨wd,[y],[o1,o2],0,[]⟩) (iA6 rfl (by rw[er];exact SqL.of rh) (VN wd) (by rw[er];simp) (by rw[er];exact nb) (λH' s5=>k H' ⟨wd,[y],[o1,o2],0,[]⟩ ((s1.trans (zf h2)).trans s5) rfl rfl (by rcases hw with rfl|rfl<;>exact⟨⟨_,rfl⟩,by simp,by simp⟩)))
def zgR{A C X Y:Prop}[Decidable A][Decidable C](x:A->C->X)(y:Y):if A then(if C then X else Y)else Y:=by
 split
 .split
  .rename_i a c;exact x a c
  .exact y
 .exact y
def zib{A W Z:Prop}[Decidable A](z:Z)(w:A->Z->W):if A then W else Z:=by
 by_cases h:A
 .rw[aq h];exact w h z
 .rw[am h];exact z
noncomputable abbrev stG(L R E:Addr)(v3:V)(c kk:Int)(v6 v7 v8 v9:Aq):St:=[some (.ref L),some (.ref R),some (.ref E),some v3,some (.int c),some (.int kk),v6,v7,v8,v9]
def zhB:Sp:=λvs H Q _=>∃(L R E:Addr)(bs:A1)(rs:At)(es:A6)(lp:A9)(c kk:Int),vs=[.ref L,.ref R,.ref E,oiV lp,.int c,.int kk]/\GS H H L R E bs rs es/\WInv bs rs es lp.toList/\0<=kk/\kk<zF/\bs.length<=20/\rs.length<=20/\es.length<=20/\1<=es.length /\
 ∀H' bs' rs' es' lp',GS H H' L R E bs' rs' es'->WInv bs' rs' es' lp'.toList->1<=es'.length->bs.length+1<=bs'.length->bs'.length<=bs.length+2->rs'.length=rs.length+1->lp'.toList.length<=lp.toList.length->Q (oiV lp') H'
def WInv.em{rs:At}{es ks:A6}(h:WInv bs rs es ks)(hx:x∈es):0<=x/\x<bs.length:=Qa (h.tk.mem_iff.mp (aX _ hx))
def WInv.km{rs:At}{es ks:A6}(h:WInv bs rs es ks)(hx:x∈ks):0<=x/\x<bs.length:=Qa (h.fd.mem_iff.mp (aX _ hx))
def jH(bs:A1):(bTx bs).length=bs.length:=af ..
def jz(rs:At):(rTx rs).length=rs.length:=af ..
def zfA(T:Txt K mg a):Cal P w K mg base "_law_grown" 3 ["_law_belts","_law_knots","_law_loose","_law_loop","_law_number","_law_kind"] [] zhB:=T.oO.cal λF=>by
 refine F.okx zcQ ?_ ?_
 .walk_at"i"
 walk_at"j";refine oE5 h λL R E bs rs p9=>oE4 p9 λes lp c kk pQ=>oA6 pQ λpX W I k0 k1 r8=>oA5 r8 λlb lr le le1 k=>?_;clear p9 pQ r8 h;subst pX;walk_at"T";refine⟨_,(zj (zt 6 zcQ.nd (zS qa z9 (za (pq 0) ze)))  (zj (zD (z7 ao aw av zN (pq 0) (za ‹(pq 4) ze› ze)))  (zj (zt 7 zcQ.nd ‹(pq 4) (za zh (za zh ze))›)  (zj (zH (zo (qT hr.units1) (pq 7) zh (zu _))  (zj (zD (z7 ao aw av zN (pq 1) (za (zq ⟨rfl,rfl,rfl⟩ hr (za zy (za (zB (za (pq 6) (za (zG zK zh ‹(pq 4) (za zh (za zh ze))›) (za (pq 5) (za (Xx (pq 4)) ze))))) ze))) ze)))  (zj (zD (z7 ao aw av zN (pq 2) (za (pq 6) ze)))  (zg (zk (pq 3)))))  zp)  (zj (zt 8 zcQ.nd (z7 ao d6 d5 XT (pq 2) (za ‹(pq 4) (za zh (za (zS qa z9 (za (pq 2) ze)) ze))› ze)))  (zj (zH (PW.pt (pw_and (zo (qT hr.units1) (pq 7) zh (zu _)) (pw_and1 (zo Q0 (zS qa z9 (za (pq 2) ze)) zh (zu _)))))  (zj (zD (z7 ao aw av zN (pq 1) (za (zq ⟨rfl,rfl,rfl⟩ hr (za zy (za (zB (za (pq 6) (za (pq 8) (za (z7 ao d6 d5 XT (pq 2) (za zh ze)) ze)))) ze))) ze)))  (zj (zD (z7 ao aw av zN (pq 2) (za (pq 6) ze)))  (zg (zk (pq 3)))))  zp)  (zj (zt 9 zcQ.nd (zB (za (pq 6) (za (zG zK (pq 6) zh) ze))))  (qf (zH (PW.pt (pw_and (zo wL (pq 3) zA (zu _)) (pw_and1 (zo Q0 (pq 7) zh (zu _)))))  (zj (zt 9 zcQ.nd (zB (za (pq 3) (za (pq 6) ze))))  (zg (zt 3 zcQ.nd zA)))  (zj (zD (z7 ao aw av zN (pq 0) (za ‹(vI (pq 4)) ze› ze)))  (zg (zD (z7 ao aw av zN (pq 2) (za (zG zK (pq 6) zh) ze))))))  (zj (zD (z7 ao aw av zN (pq 2) (za (pq 6) ze)))  (qf (zH (zo (qT hr.units1) ‹(pq 4) (za zh (za zh ze))› zh (zu _))  (zg (zt 9 zcQ.nd (zB (za (zv (pq 9) zh) (za (zv (pq 9) zh) ze)))))  zp)  (zj (zD (z7 ao aw av zN (pq 1) (za ‹(pq 4) (za (pq 8) (za (pq 9) (za (pq 5) ze)))› ze)))  (zg (zk (pq 3)))))))))))))),?_⟩;exists⟨_,.inl ⟨_,SqL.of W.hL,rfl⟩,?_⟩;rw[jH];exists⟨.inl ⟨rfl,_,SqL.of W.hL⟩,iE3 _ _ _ ⟨(xw T).mono,⟨c,rfl,λH1 b s1 ob=>?_⟩⟩⟩;have W0:=W.same s1;have W1:=W0.addL b;have I1:=I.belt ob;refine iE3 L _ _ (iA5 rfl rfl W0.hL (zn (by rw[jH];lia)) ?_);generalize upd H1 L _=H2 at W1 ⊢;have lb1:(bs++[b]).length=bs.length+1:=by simp
 clear W W0 I s1;exists uc (qF T).mono (iE3 c 10061 7 (iA4 rfl (by decide) (by decide) (λpk p0 p7=>?_)));exists zR (λ_=>?_) (λ_=>?_)
 .exists⟨.inl ⟨rfl,_,SqL.of W1.hR⟩,iE3 _ _ _ ⟨(jd T).mono,iE3 _ _ _ ⟨(qF T).mono,⟨c,10069,4,rfl,by decide,by decide,λr r0 r4=>?_⟩⟩⟩⟩;left;intro p hp;have x0:=bY c (show(1000000000000000000000000000000:Int)≠0 by decide);have x1:=bM c (show(0:Int)<1000000000000000000000000000000 by decide);generalize c%1000000000000000000000000000000=x at x0 x1 ⊢;have kd:Wi [kk,x]:=nb1 k0 k1 (nb1 x0 x1 nb0);refine iE3 _ p ([(bs.length:Int),1+r,kk,x]) (iA6 rfl (SqL.of rh) (by symm) (by simp) (nbs (by lia) (by lia) (nbs (by lia) (by lia) kd)) (λH3 s3=>?_));have W3:=W1.same ((zf hp).trans s3);have W4:=W3.addR ⟨.source,[],[(bs.length:Int)],1+r,[kk,x]⟩ (x:=zO "source" [(bs.length:Int),1+r,kk,x]) rfl;refine iE3 R _ _ (iA5 rfl rfl W3.hR (zn (by rw[jz];lia)) ?_);generalize upd H3 R _=H5 at W4 ⊢;exists⟨.inl ⟨rfl,_,SqL.of W4.hE⟩,iE3 E _ _ (iA5 rfl rfl W4.hE (zn (by rw[zP];lia)) ?_)⟩;rw[jr];have W5:=W4.setE (es++[(bs.length:Int)]);generalize upd H5 E _=H6 at W5 ⊢;exists k _ _ _ _ lp W5 (I1.knot (r:=⟨.source,[],[(bs.length:Int)],1+r,[kk,x]⟩) (bt _) fD (iA7 rfl ⟨_,rfl⟩ (show(1:Int)<=1+r by lia) (show 1+r<=4 by lia) (by simp) (by simp) kd)) (by simp) (by lia) (by lia) (by simp) (ar _)
 exists⟨.inl ⟨rfl,_,SqL.of W1.hE⟩,iE3 _ _ _ (iA3 ((qF T).mono) iN ⟨_,⟨.inl ⟨_,SqL.of W1.hE,rfl⟩,⟨c,10067,_,rfl,by decide,by rw[zP];lia,λjj v0 v1=>?_⟩⟩⟩)⟩;rw[zP]at v1;let⟨y,hy⟩:∃y,es[jj.toNat]?=some y:=⟨es[jj.toNat]'(by lia),ac _⟩;refine iE5 E (iv es) jj jj.toNat (.int y) (iA8 rfl rfl W1.hE (by lia) (by lia) (Xv v0 (by rw[zP];exact v1)) (xr hy) ?_);rw[zgQ];have W2:=W1.setE (es.eraseIdx jj.toNat);have pp:=zbG hy;have pl:=pp.length_eq;rw[aM]at pl;have I2:=I1.perm (pp.append_right [(bs.length:Int)]) (bt _);generalize upd H2 E (.lst (iv (es.eraseIdx jj.toNat)))=H3 at W2 ⊢;generalize es.eraseIdx jj.toNat=es1 at pp pl W2 I2 ⊢;clear W1 I1 pp hy v0 v1;have ym:=I2.em (x:=y) (by simp);exists zib ?_ (λ_ z=>⟨iN,⟨_,⟨.inl ⟨_,SqL.of W2.hE,rfl⟩,zR (λw1=>?_) (λ_=>z)⟩⟩⟩)
 rotate_left
 .rw[zP]at w1;let⟨x,es2,rfl⟩:∃x es2,es1=x::es2:=by cases es1 with|nil=>simp at w1|cons x es2=>exact⟨x,es2,rfl⟩
  have xm:=I2.em (x:=x) (by simp);exists⟨.inl ⟨rfl,_,SqL.of W2.hR⟩,iE3 _ _ _ (iA3 ((jd T).mono) (.inl ⟨rfl,_,SqL.of W2.hE⟩) (iE5 E (iv (x::es2)) 0 0 (.int x) (iA8 rfl rfl W2.hE (by decide) (by decide) (Xv (by decide) (by simp[iv])) rfl (λp hp=>?_))))⟩;have W3:=W2.setE es2;refine iE3 _ p ([(bs.length:Int),y,x]) (iA6 rfl (SqL.of rh) (by symm) (by simp) (nbs (by lia) (by lia) (nbs ym.1 (by lia) (nbs xm.1 (by lia) nb0))) (λH6 s6=>?_));have W4:=W3.same ((zf hp).trans s6);have W6:=W4.addR ⟨.joiner,[y,x],[(bs.length:Int)],0,[]⟩ (x:=zO "joiner" [(bs.length:Int),y,x]) rfl;refine iE3 R _ _ (iA5 rfl rfl W4.hR (zn (by rw[jz];lia)) ?_);generalize upd H6 R _=H7 at W6 ⊢;left;simp only[aM]at pl;refine⟨.inl ⟨rfl,_,SqL.of W6.hE⟩,iE3 E _ _ (iA5 rfl rfl W6.hE (zn (by rw[zP];lia)) ?_)⟩;rw[jr];have W7:=W6.setE (es2++[(bs.length:Int)]);generalize upd H7 E _=H8 at W7 ⊢;left;exact k _ _ _ _ lp W7 (I2.knot (r:=⟨.joiner,[y,x],[(bs.length:Int)],0,[]⟩) (bt _) fD ⟨⟨_,rfl⟩,by simp,by simp⟩) (by simp) (by lia) (by lia) (by simp) (ar _)
 left;intro O hO;have W3:=W2.same (zf (o:=.lst [V.int bs.length,.int (bs.length+1)]) hO);have nO:=W2.off hO;have gO:upd H3 O (.lst [V.int bs.length,.int (bs.length+1)]) O=some (.lst (iv [(bs.length:Int),bs.length+1])):=rh;generalize upd H3 O (.lst [V.int bs.length,.int (bs.length+1)])=H4 at W3 gO ⊢;clear W2;exists cut (λσ' H'=>∃(lp':A9)(bs':A1)(es':A6)(o1 o2:Int)(O':Addr),σ'=stG L R E (oiV lp') c kk (some (.int bs.length)) (some (.int pk)) (some (.int y)) (some (.ref O'))/\GS H H' L R E bs' rs es'/\O'∉ms3 L R E/\H' O'=some (.lst (iv [o1,o2]))/\WInv bs' rs ([y]++(es'++[(bs.length:Int)])) ([o1,o2]++lp'.toList)/\bs.length+1<=bs'.length/\bs'.length<=bs.length+2/\es'.length<=30/\lp'.toList.length<=lp.toList.length) ?_ ?_
 .exists zgR (λx1 _=>?_) ?_
  .obtain⟨x,rfl⟩:∃x,lp=some x:=by cases lp with|none=>exact absurd rfl x1|some x=>exact⟨x,rfl⟩
   left;intro O2 hO2;left;exact iE6 none _ es1 x _ O2 (iA9 rfl (W3.same (zf hO2)) (W3.off hO2) rh I2 (by lia) (by lia) (by lia) (cj _))
  exists⟨.inl ⟨rfl,_,SqL.of W3.hL⟩,iE3 _ _ _ ⟨(xw T).mono,⟨_,rfl,λH5 b2 s5 ob2=>?_⟩⟩⟩;have W4:=W3.same s5;have W5:=W4.addL b2;have I5:=I2.belt ob2;refine iE3 L _ _ (iA5 rfl rfl W4.hL (zn (by rw[jH];lia)) ?_);have nOL:O≠L:=λz=>nO (by simp[z]);have nOE:O≠E:=λz=>nO (by simp[z]);have g5:upd H5 L (.lst (bTx (bs++[b])++[.str (qZ b2)])) O=some (.lst (iv [(bs.length:Int),bs.length+1])):=by rw[rj nOL];exact s5 _ _ gO
  generalize upd H5 L _=H6 at W5 g5 ⊢;exists⟨.inl ⟨rfl,_,SqL.of W5.hE⟩,iE3 E _ _ (iA5 rfl rfl W5.hE (zn (by rw[zP];lia)) ?_)⟩;rw[jr];have W6:=W5.setE (es1++[(bs.length:Int)+1]);refine iE6 lp _ _ _ _ O (iA9 rfl W6 nO (by rw[rj nOE];exact g5) ?_ (by simp) (by simp) (by simp;lia) (ar _));refine I5.perm ?_ ?_
  .rw[lb1];show(y::(es1++[((bs.length:Int)+1)]++[(bs.length:Int)])).Perm (y::es1++[(bs.length:Int)]++[((bs.length+1:Nat):Int)])
   rw[show((bs.length+1:Nat):Int)=(bs.length:Int)+1 from rfl,cons_append,cons_append,cI,cI];exact List.Perm.cons _ (cq _ (List.Perm.swap ..))
  .rw[lb1,cI];exact fD (l₁:=[(bs.length:Int),(bs.length:Int)+1]) (l₂:=lp.toList)
 clear W3 I2 gO nO;intro σ' H5 pR;refine oE6 pR λlp' bs' es' o1 o2 O' p9=>oA9 p9 λpQ W5 nO gO I5 b1 b2 le' lq=>?_;ext;exists⟨.inl ⟨rfl,_,SqL.of W5.hE⟩,iE3 E _ _ (iA5 rfl rfl W5.hE (zn (by rw[zP];lia)) ?_)⟩;rw[jr];have W6:=W5.setE (es'++[(bs.length:Int)]);have nOE:O'≠E:=λz=>nO (by simp[z]);have gO:upd H5 E (.lst (iv (es'++[(bs.length:Int)]))) O'=some (.lst (iv [o1,o2])):=by rw[rj nOE];exact gO
 generalize upd H5 E _=H6 at W6 gO ⊢;exists cut (λσ' H'=>∃(p1 p2:Int)(O2:Addr),σ'=stG L R E (oiV lp') c kk (some (.int bs.length)) (some (.int pk)) (some (.int y)) (some (.ref O2))/\Same H6 H'/\H' O2=some (.lst (iv [p1,p2]))/\[p1,p2].Perm [o1,o2]) ?_ ?_
 .exists uc (qF T).mono (iE3 c 10069 2 (iA4 rfl (by decide) (by decide) (λr _ _=>?_)));exists zR (λ_=>?_) (λ_=>(iE3 o1 o2 O' (iA4 rfl (Same.refl _) gO (bt _))));exists zw (SqL.of gO) (show atI _ 1=some (.int o2)from rfl) (zw (SqL.of gO) at0 λO2 hO2=>?_);exact iE3 o2 o1 O2 (iA4 rfl (zf hO2) rh (List.Perm.swap ..))
 intro σ' H7 pR;refine oE3 pR λp1 p2 O2 p9=>oA4 p9 λpQ s7 g7 pm=>?_;ext;have W7:=W6.same s7;have m1:=I5.km (x:=p1) (bz _ (pm.mem_iff.mp (by simp)));have m2:=I5.km (x:=p2) (bz _ (pm.mem_iff.mp (by simp)));exists⟨.inl ⟨rfl,_,SqL.of W7.hR⟩,iE3 _ _ _ ⟨(zfx T).mono,⟨c,y,kk,p1,p2,O2,rfl,g7,nbs ym.1 (by lia) (nbs m1.1 (by lia) (nbs m2.1 (by lia) nb0)),k0,k1,λH8 r s8 r1 r2 r3=>?_⟩⟩⟩;have W8:=(W7.same s8).addR r rfl;refine iE3 R _ _ (iA5 rfl rfl (s8 _ _ W7.hR) (zn (by rw[jz];lia)) ?_);generalize upd H8 R _=H9 at W8 ⊢;left;exact k _ _ _ _ lp' W8 (I5.knot (r:=r) (by rw[r1]) (by rw[r2];exact pm.append_right _) r3) (by simp) (by lia) (by lia) (by simp) lq
noncomputable abbrev stK(l:Addr)(tp c:Int)(kl:Addr)(v4 v5 v6 v7 v8 v9 v10 v11:Aq):St:=[some (.ref l),some (.int tp),some (.int c),some (.ref kl),v4,v5,v6,v7,v8,v9,v10,v11]
def zi4(K:A0):Sp:=λvs H Q _=>∃(l:Addr)(ns:A6),vs=[.ref l,.int 8]/\SqL K H l (iv ns)/\∀H' bs rs,Same H H'->zQ bs rs->(∀b∈bs,zE b.1 b.2)->(∀r∈rs,r.ok)->rs.length<=14->bs.length<=8->Q (.str (zkb bs rs)) H'
def WInv.el{rs:At}{es ks:A6}(h:WInv bs rs es ks):es.length<=bs.length:=by
 have:=h.tk.length_eq;rw[aD,zd2]at this
 lia
def zik(ns:A6):∃cs:List Int,vh (iv ns) (some 1) none=iv cs:=by
 unfold vh;rw[show(some (1:Int))=some ((1:Nat):Int)from rfl,HT.sIx_nat,HT.sIx_none,zP];exact⟨(ns.drop (min 1 ns.length)).take (ns.length-min 1 ns.length),by simp[iv]⟩
def winv0:WInv [] [] [] []:=⟨bt _,bt _,(λ_ z=>nomatch z),(λ_ z=>nomatch z)⟩
theorem zhg(T:Txt K mg a):Cal P w K mg base "_law_text" 4 ["_law_cells","_law_top"] [] (zi4 K):=T.pv.cal λF=>by
 refine F.okx zeO ?_ ?_
 .walk_at"i"
 walk_at"j";refine oE2 h λl ns p9=>oA3 p9 λpQ hl k=>?_;clear p9 h;subst pQ;walk_at"T";refine⟨_,(zj (zt 2 zeO.nd ‹(pq 0) (za zh ze)›)  (zj (zt 3 zeO.nd (qY jX (zB (za (Xx ‹(pq 0) (za zh ze)›) (za (Xx ‹(pq 0) (za zh ze)›) ze))) jD (jk (zG zK zh ‹(pq 2) (za zh (za zh ze))›))))  (zj (zt 4 zeO.nd (zB (za ‹(pq 2) ze› ze)))  (zj (zt 5 zeO.nd zh)  (zj (zt 6 zeO.nd (zB (za zh ze)))  (zj (zt 7 zeO.nd zA)  (qf (zH (zo Q0 ‹(pq 2) (za zh (za zh ze))› zh (zu _))  (zj (zt 5 zeO.nd ‹(pq 2) (za zh (za zh ze))›)  (zj (zt 4 zeO.nd (zG zK (pq 4) (zB (za ‹(vI (pq 2)) ze› (za ‹(vI (pq 2)) ze› ze)))))  (zj (zt 6 zeO.nd (zB (za zh ze)))  (zg (zt 7 zeO.nd (zG XE zh (pq 5)))))))  zp)  (zj (zt 8 zeO.nd (zB (za (zq ⟨rfl,rfl,rfl⟩ hr (za zy (za (zG zK (zB (za (pq 5) (za (zG zK zh ‹(pq 2) (za zh (za zh ze))›) ze))) (pq 3)) ze))) ze)))  (qf (zH (zo wL (pq 7) zA (zu _))  (zg (zD (z7 ao aw av zN (pq 8) (za (zq ⟨rfl,rfl,rfl⟩ hr (za zy (za (zB (za zh (za (pq 5) (za (pq 7) ze)))) ze))) ze))))  zp)  (qf (qU jn rfl (qj (qY jX (pq 0) (jk zh) jD)) (qq 9 zeO.nd)  (zj (zH (zo Q0 (zG zK (zS qa z9 (za (pq 4) ze)) zh) (pq 1) (zu _))  (zg zgn)  zp)  (zg (zt 7 zeO.nd ‹(pq 4) (za (pq 8) (za (pq 6) (za (pq 7) (za (pq 9) (za (zv (pq 3) zh) ze)))))›))))  (qf (zH (zo wL (pq 7) zA (zu _))  (zj (zD (z7 ao aw av zN (pq 8) (za (zq ⟨rfl,rfl,rfl⟩ hr (za zy (za (zB (za (z7 ao d6 d5 XT (pq 6) (za zh ze)) (za (pq 7) (za (zS qa z9 (za (pq 4) ze)) ze)))) ze))) ze)))  (zj (zD (z7 ao aw av zN (pq 6) (za (zS qa z9 (za (pq 4) ze)) ze)))  (zg (zD (z7 ao aw av zN (pq 4) (za ‹(vI (pq 2)) ze› ze))))))  zp)  (qf (qU jn rfl (qj (pq 6)) (qq 10 zeO.nd)  (zg (zD (z7 ao aw av zN (pq 8) (za (zq ⟨rfl,rfl,rfl⟩ hr (za zy (za (zB (za (pq 10) (za (zv (zB (za zh (za zh (za zh (za zh (za zh (za zh ze))))))) ‹(zG zK (pq 2) (zG zav (zG zav (pq 10) (pq 10)) zh)) (za zh (za zh ze))›) ze))) ze))) ze)))))  (zj (zt 11 zeO.nd ‹(pq 2) (za zh (za (zS qa z9 (za (pq 8) ze)) ze))›)  (zg (zk (z7 aW bj bh xf zy (za (zG zK (zG zK (pq 4) (qY jX (pq 8) (jk (pq 11)) jD)) (qY jX (pq 8) jD (jk (pq 11)))) ze))))))))))))))))),?_⟩;exists uc (jh T).mono (spCell.i l ns 0 rfl hl ?_);generalize xv ns 0=c;exists uc (jh T).mono (spCell.i l ns 2 rfl hl ?_);exists uc (jh T).mono (spCell.i l ns 3 rfl hl ?_);left;have x0:=bY (xv ns 2) (show(1000000000000000000000000000000:Int)≠0 by decide);have x1:=bM (xv ns 2) (show(0:Int)<1000000000000000000000000000000 by decide);have y0:=bY (xv ns 3) (show(1000000000000000000000000000000:Int)≠0 by decide);have y1:=bM (xv ns 3) (show(0:Int)<1000000000000000000000000000000 by decide);generalize xv ns 2%1000000000000000000000000000000=x at x0 x1 ⊢;generalize xv ns 3%1000000000000000000000000000000=y at y0 y1 ⊢;intro p1 h1;have s1:=zf (o:=.lst [.int x,.int y]) h1;refine uc (qF T).mono (iE3 c 10037 2 (iA4 rfl (by decide) (by decide) (λr r0 r2=>?_)));left;let⟨ks,eks,k1,k2,kk⟩:∃ks,vh [.int x,.int y] none (some (1+r))=iv ks/\1<=ks.length/\ks.length<=2/\Wi ks:=by
  rcases(by lia:r=0\/r=1)with rfl|rfl
  .exact⟨[x],iA4 rfl (by simp) (by simp) (nb1 x0 x1 nb0)⟩
  .exact⟨[x,y],iA4 rfl (by simp) (by simp) (nb1 x0 x1 (nb1 y0 y1 nb0))⟩
 refine jZ (SqL.of rh) λkl hkl=>?_;rw[eks];replace s1:=s1.trans (zf (o:=.lst (iv ks)) hkl);have g1:upd (upd H p1 (.lst [.int x,.int y])) kl (.lst (iv ks)) kl=some (.lst (iv ks)):=rh;generalize upd (upd H p1 (.lst [.int x,.int y])) kl (.lst (iv ks))=H1 at s1 g1 ⊢;have hl1:=x8 s1 hl;clear hl r0 r2 eks x0 x1 y0 y1 h1 hkl;exists uc (xw T).mono ⟨c,rfl,λH2 b0 s2 o0 L hL=>?_⟩;have gL:upd H2 L (.lst [.str (qZ b0)]) L=some (.lst (bTx [b0])):=rh;have s3:=s2.trans (zf (o:=.lst [.str (qZ b0)]) hL);have nL:=zM s2 hL;have w0:WInv [b0] [] [0] [0]:=winv0.belt o0;generalize upd H2 L (.lst [.str (qZ b0)])=H3 at s3 gL ⊢;clear hL s2 o0;left;left;intro E hE;have gE:upd H3 E (.lst [.int 0]) E=some (.lst (iv [0])):=rh;have s4:=zf (o:=.lst [.int 0]) hE;have nE:=zM s3 hE;have nLE:L≠E:=λz=>by rw[<- z,gL]at hE;cases hE
 have gL4:=s4 _ _ gL;have s14:=s3.trans s4;generalize upd H3 E (.lst [.int 0])=H4 at gE gL4 s14 ⊢;clear s4 s3 gL hE;left;exists cut (λσ' H'=>∃(L E:Addr)(bs:A1)(es:A6)(fi:Int)(lp:A9),σ'=stK l 8 c kl (some (.ref L)) (some (.int fi)) (some (.ref E)) (some (oiV lp)) none none none none/\Same H1 H'/\H1 L=none/\H1 E=none/\L≠E/\H' L=some (.lst (bTx bs))/\H' E=some (.lst (iv es)) /\
  ((bs.length=1/\WInv bs [] [0] [0]/\fi=0/\lp=none/\es=[0])\/(bs.length=3/\WInv bs [] [0,1,2] [0,1,2]/\(fi=0\/fi=1)/\lp=some (1-fi)/\es=[2]))) ?_ ?_
 .exists uc (qF T).mono (iE3 c 10091 3 (iA4 rfl (by decide) (by decide) (λr _ _=>?_)));exists zR (λ_=>?_) (λ_=>(iE6 L E ([b0]) ([0]) 0 none (iA8 rfl s14 nL nE nLE gL4 gE (.inl (iA5 rfl w0 rfl rfl rfl)))));exists uc (qF T).mono (iE3 c 10133 2 (iA4 rfl (by decide) (by decide) (λfi f0 f1=>?_)));exists uc (xw T).mono ⟨_,rfl,λH5 b1 s5 o1=>(uc (xw T).mono ⟨_,rfl,λH6 b2 s6 o2=>λp hp=>?_⟩)⟩;have s7:=(s5.trans s6).trans (zf (o:=.lst [.str (qZ b1),.str (qZ b2)]) hp);refine qu (SqL.of (s7 _ _ gL4)) (SqL.of rh) (qe (by simp[bTx])) λLw hL2=>?_;have s8:=s7.trans (zf (o:=.lst (bTx [b0]++[.str (qZ b1),.str (qZ b2)])) hL2);have n8:=zM (s14.trans s7) hL2;have g8:upd (upd H6 p (.lst [.str (qZ b1),.str (qZ b2)])) Lw (.lst (bTx [b0]++[.str (qZ b1),.str (qZ b2)])) Lw=some (.lst (bTx [b0,b1,b2])):=rh;generalize upd (upd H6 p (.lst [.str (qZ b1),.str (qZ b2)])) Lw (.lst (bTx [b0]++[.str (qZ b1),.str (qZ b2)]))=H8 at s8 g8 ⊢;left;intro E2 hE2;have s9:=zf (o:=.lst [.int 2]) hE2;left;exact iE6 Lw E2 ([b0,b1,b2]) ([2]) fi (some (1-fi)) (iA8 rfl ((s14.trans s8).trans s9) n8 (zM (s14.trans s8) hE2) (λz=>by rw[<- z,g8]at hE2;cases hE2) (s9 _ _ g8) rh (.inr (iA5 rfl ((w0.belt o1).belt o2) (by lia) rfl rfl)))
 clear gL4 gE s14 nL nE nLE w0;intro σ' H5 pR;refine oE6 pR λL E bs es fi lp p9=>oA8 p9 λpQ s5 nL nE nLE gL gE st=>?_;ext;exists uc (jd T).mono (uc (qF T).mono (iE3 c 10079 2 (iA4 rfl (by decide) (by decide) (λr r0 r2=>?_))));left;intro p hp;have s6:=zf (o:=.lst [.int fi,.int (1+r)]) hp;refine qu (SqL.of rh) (SqL.of (s6 _ _ (s5 _ _ g1))) (qe (by rw[zP];simp;lia)) λp2 hp2=>?_;have fb:0<=fi/\fi<1000:=by rcases st with⟨_,_,rfl,_⟩|⟨_,_,rfl|rfl,_⟩<;>decide
 refine iE3 _ p2 (fi::(1+r)::ks) (iA6 rfl (SqL.of rh) (by symm) (by simp;lia) (nbs fb.1 fb.2 (nbs (by lia) (by lia) kk)) (λH6 s7 R hR=>?_));have s57:=((s6.trans (zf (o:=.lst ([.int fi,.int (1+r)]++iv ks)) hp2)).trans s7).trans (zf (o:=.lst [.str (zO "source" (fi::(1+r)::ks))]) hR);have nR:H1 R=none:=zM (s5.trans ((s6.trans (zf hp2)).trans s7)) hR;have r6:H6 L=some (.lst (bTx bs))/\H6 E=some (.lst (iv es)):=⟨s7 _ _ (rq (s6 _ _ gL) hp2),s7 _ _ (rq (s6 _ _ gE) hp2)⟩;have W:GS (upd H6 R (.lst [.str (zO "source" (fi::(1+r)::ks))])) (upd H6 R (.lst [.str (zO "source" (fi::(1+r)::ks))])) L R E bs [⟨.source,[],[fi],1+r,ks⟩] es :=
  ⟨Fr.refl,(λe=>by rw[<- e,r6.1]at hR;cases hR),nLE,(λe=>by rw[e,r6.2]at hR;cases hR),s57 _ _ gL,rh,s57 _ _ gE⟩
 have n1:∀b∈ms3 L R E,H1 b=none:=λb hb=>by
  simp only[au,bn,bR]at hb;rcases hb with rfl|rfl|rfl
  .exact nL
  .exact nR
  .exact nE
 have s17:=s5.trans s57;generalize upd H6 R _=H7 at W s17 ⊢;clear s5 s6 s7 s57 nL nE nLE gL gE nR hR hp hp2 r6;left;let pY:St->Hp->Prop:=λσ' H'=>∃rs,σ'=stK l 8 c kl (some (.ref L)) (some (.int fi)) (some (.ref E)) (some (oiV lp)) (some (.ref R)) none none none/\GS H7 H' L R E bs rs es/\WInv bs rs es lp.toList/\rs.length+lp.toList.length<=bs.length/\bs.length<=3/\es.length=1;refine cut pY ?_ ?_
 .have ok:Row.ok ⟨.source,[],[fi],1+r,ks⟩:=⟨rfl,⟨_,rfl⟩,show(1:Int)<=1+r by lia,show 1+r<=4 by lia,k1,show ks.length<=6 by lia,kk⟩;rcases st with⟨l1,I,rfl,rfl,rfl⟩|⟨l3,I,hf,rfl,rfl⟩
  .left;exact⟨_,iA6 rfl W (I.knot (r:=⟨.source,[],[0],1+r,ks⟩) (bt _) (bt _) ok) (by simp[l1]) (by lia) rfl⟩
  .exists zR (λ_=>?_) (λz=>absurd (λq=>nomatch q) z);refine⟨.inl ⟨rfl,_,SqL.of W.hR⟩,iE3 _ _ _ ⟨(jd T).mono,λp hp=>?_⟩⟩;refine iE3 _ p ([2,fi,1-fi]) (iA6 rfl (SqL.of rh) (by symm) (by simp) (nbs (by decide) (by decide) (nbs fb.1 fb.2 (nbs (by lia) (by lia) nb0))) (λH9 s9=>?_));have W8:=W.same ((zf hp).trans s9);have W9:=W8.addR ⟨.joiner,[fi,1-fi],[2],0,[]⟩ (x:=zO "joiner" [2,fi,1-fi]) rfl;have pf:[fi,1-fi,2].Perm [0,1,2]:=by rcases hf with rfl|rfl<;>decide
   have I2:WInv bs [⟨.source,[],[fi],1+r,ks⟩] [0,1,2] [1-fi,2]:=I.knot (r:=⟨.source,[],[fi],1+r,ks⟩) (bt _) pf ok;exact iE3 R _ _ (iA5 rfl rfl W8.hR (zn (by rw[jz];simp)) ⟨_,iA6 rfl W9 (I2.knot (r:=⟨.joiner,[fi,1-fi],[2],0,[]⟩) pf (List.Perm.swap ..) ⟨⟨_,rfl⟩,by simp,by simp⟩) (by simp[l3]) (by lia) rfl⟩)
 clear W st;intro σ' H8 pR;refine oE1 pR λrs p9=>oA6 p9 λpQ W I lr lb le=>?_;ext;have s8:Same H1 H8:=(s17.fr.trans W.f).same n1;left;let pZ:St->Hp->Prop:=λσ' H'=>∃(v9:Aq)(lp:A9)(bs:A1)(rs:At)(es:A6),σ'=stK l 8 c kl (some (.ref L)) (some (.int fi)) (some (.ref E)) (some (oiV lp)) (some (.ref R)) v9 none none/\GS H7 H' L R E bs rs es/\WInv bs rs es lp.toList/\rs.length+lp.toList.length<=bs.length/\bs.length<=7/\1<=es.length;refine cut pZ ?_ ?_
 .walk_at"d";exists jZ (x8 s8 hl1) λp hp=>?_;let⟨cs,ecs⟩:=zik ns;rw[ecs];have W1:=W.same (zf (o:=.lst (iv cs)) hp);have np:=W.off hp;have gp:upd H8 p (.lst (iv cs)) p=some (.lst (iv cs)):=rh;generalize upd H8 p (.lst (iv cs))=H9 at W1 gp ⊢;refine⟨p,rfl,.inl ⟨⟨_,SqL.of gp⟩,?_⟩⟩;let r9:Nat->St->Hp->Prop:=λi σ' H'=>∃(v9:Aq)(lp:A9)(bs:A1)(rs:At)(es:A6),σ'=stK l 8 c kl (some (.ref L)) (some (.int fi)) (some (.ref E)) (some (oiV lp)) (some (.ref R)) v9 none none/\GS H7 H' L R E bs rs es/\WInv bs rs es lp.toList/\rs.length+lp.toList.length<=bs.length/\bs.length<=7/\1<=es.length/\H' p=some (.lst (iv cs));refine qL (K:=K) (a:=p) (xs:=iv cs) r9 (iE5 _ lp bs rs es (iA7 rfl W1 I lr (by lia) (by lia) gp)) (λi σ H' _ h=>by let⟨_,_,_,_,_,_,_,_,_,_,_,g⟩:=h;exact SqL.of g) ?_ ?_
  .clear W1 gp W I lr lb le s8;intro i x σ' H10 hi pR;refine oE5 pR λv9 lp bs rs es p9=>oA7 p9 λpQ W I lr lb le gp=>?_;ext;let⟨y,hy,rfl⟩:=vR hi;have el:=I.el;have s10:Same H1 H10:=(s17.fr.trans W.f).same n1;let⟨k0,hk0⟩:∃k0,ks[0]?=some k0:=⟨ks[0]'(by lia),ac _⟩;have hk:=kk k0 (ai hk0);exists⟨_,.inl ⟨_,SqL.of W.hL,rfl⟩,?_⟩;rw[jH];exists zR (λ_=>(iE5 _ lp bs rs es (iA6 rfl W I lr lb le))) (λlt=>?_);exists uc (zfA T).mono (zw (SqL.of (s10 _ _ g1)) (show atI (iv ks) ((0:Nat):Int)=some (.int k0)from zJ (xr hk0)) ?_);refine iE5 L R E bs rs (iE4 es lp y k0 (iA6 rfl W.here I hk.1 hk.2 (iA5 (by lia) (by lia) (by lia) le (λH11 bs2 rs2 es2 lp2 W2 I2 a1 a2 a3 a4 a5=>?_))));exact iE5 _ lp2 bs2 rs2 es2 (iA7 rfl (W.trans W2) I2 (by lia) (by lia) a1 (W2.f _ _ np gp))
  .intro σ' H10 pR;refine oE5 pR λv9 lp bs rs es p9=>oA7 p9 λpQ W I lr lb le gp=>?_;ext;exact iE5 _ lp bs rs es (iA6 rfl W I lr lb le)
 clear W I lr lb le s8;intro σ' H8 pR;refine oE5 pR λv9 lp bs rs es p9=>oA6 p9 λpQ W I lr lb le=>?_;ext;left;let M4_:St->Hp->Prop:=λσ' H'=>∃(bs:A1)(rs:At)(es:A6),σ'=stK l 8 c kl (some (.ref L)) (some (.int fi)) (some (.ref E)) (some (oiV lp)) (some (.ref R)) v9 none none/\GS H7 H' L R E bs rs es/\WInv bs rs es []/\rs.length+es.length<=14/\bs.length<=8/\1<=es.length;refine cut M4_ ?_ ?_
 .left;cases lp with
  |none=>exact zR (λz=>absurd rfl z) (λ_=>⟨bs,rs,es,rfl,W,I,by have:=I.el;lia,by lia,le⟩)
  |some x =>
   refine zR (λ_=>?_) (λz=>absurd (λq=>nomatch q) z);let⟨y,es2,rfl⟩:∃y es2,es=y::es2:=by cases es with|nil=>simp at le|cons x es2=>exact⟨x,es2,rfl⟩
   have el:=I.el;rw[aM]at el;have ym:=I.em (x:=y) (by simp);have xm:=I.km (x:=x) (by simp);exists⟨.inl ⟨rfl,_,SqL.of W.hR⟩,iE3 _ _ _ (iA3 ((jd T).mono) (.inl ⟨rfl,_,SqL.of W.hE⟩) (iE5 E (iv (y::es2)) 0 0 (.int y) (iA8 rfl rfl W.hE (by decide) (by decide) (Xv (by decide) (by simp[iv])) rfl ?_)))⟩;have W2:=W.setE es2;refine⟨iN,⟨_,⟨.inl ⟨_,SqL.of W2.hL,rfl⟩,?_⟩⟩⟩;rw[jH];refineλp hp=>(iE3 _ p ([y,x,(bs.length:Int)]) (iA6 rfl (SqL.of rh) (by symm) (by simp) (nbs ym.1 (by lia) (nbs xm.1 (by lia) (nbs (by lia) (by lia) nb0))) (λH11 s4=>?_)));have W3:=W2.same ((zf hp).trans s4);have W4:=W3.addR ⟨.parter,[y],[x,bs.length],0,[]⟩ (x:=zO "parter" [y,x,(bs.length:Int)]) rfl;refine iE3 R _ _ (iA5 rfl rfl W3.hR (zn (by rw[jz];lia)) ?_);generalize upd H11 R _=H12 at W4 ⊢;exists iA3 (.inl ⟨rfl,_,SqL.of W4.hE⟩) iN ⟨_,⟨.inl ⟨_,SqL.of W4.hL,rfl⟩,iE3 E _ _ (iA5 rfl rfl W4.hE (zn (by rw[zP];lia)) ?_)⟩⟩;rw[jH,jr];have W5:=W4.setE (es2++[(bs.length:Int)]);generalize upd H12 E _=H13 at W5 ⊢;exists⟨.inl ⟨rfl,_,SqL.of W5.hL⟩,iE3 _ _ _ ⟨(xw T).mono,⟨_,rfl,λH14 b s6 ob=>?_⟩⟩⟩;have W6:=W5.same s6;exact iE3 L _ _ (iA5 rfl rfl W6.hL (zn (by rw[jH];lia)) (iE3 _ _ _ (iA6 rfl (W6.addL b) ((I.belt ob).knot (r:=⟨.parter,[y],[x,bs.length],0,[]⟩) (bt _) (bt _) ⟨⟨_,rfl⟩,by simp,by simp⟩) (by simp at lr ⊢;lia) (by simp;lia) (by simp))))
 clear W I lr lb le;intro σ' H8 pR;refine oE3 pR λbs rs es p9=>oA6 p9 λpQ W I lr lb le=>?_;ext;have el:=I.el;have em:∀x∈es,0<=x/\x<8:=λx hx=>by have:=I.em hx;lia
 left;let M5_:St->Hp->Prop:=λσ' H'=>∃(v10:Aq)(rs:At),σ'=stK l 8 c kl (some (.ref L)) (some (.int fi)) (some (.ref E)) (some (oiV lp)) (some (.ref R)) v9 v10 none/\GS H7 H' L R E bs rs es/\WInv bs rs [] []/\rs.length<=14/\1<=rs.length;refine cut M5_ ?_ ?_
 .walk_at"d";exists⟨E,rfl,.inl ⟨⟨_,SqL.of W.hE⟩,?_⟩⟩;let M6_:Nat->St->Hp->Prop:=λi σ' H'=>∃(v10:Aq)(rs':At),σ'=stK l 8 c kl (some (.ref L)) (some (.int fi)) (some (.ref E)) (some (oiV lp)) (some (.ref R)) v9 v10 none/\GS H7 H' L R E bs rs' es/\WInv bs rs' (es.drop i) []/\rs'.length=rs.length+i;refine qL (K:=K) (a:=E) (xs:=iv es) M6_ (iE2 _ rs (iA4 rfl W I rfl)) (λi σ H' _ h=>by let⟨_,_,_,W,_⟩:=h;exact SqL.of W.hE) ?_ ?_
  .clear W I;intro i x σ' H9 hi pR;refine oE2 pR λv10 rs' p9=>oA4 p9 λpQ W I lr'=>?_;ext;let⟨y,hy,rfl⟩:=vR hi;have hil:=(aa.mp hy).1;let⟨y0,y8⟩:=em y (ai hy);exists⟨.inl ⟨rfl,_,SqL.of W.hR⟩,iE3 _ _ _ ⟨(jd T).mono,λp hp=>(uc (qF T).mono (iA3 (mul_okR (by lia) (by lia)) (mul_okR (by decide) (by decide)) (iE3 _ 10093 6 (iA4 rfl (by decide) (by decide) (λr r0 r6=>?_)))))⟩⟩;let⟨pc,hpc,ep⟩:=JB (ns:=[1,0,2,1,3,0]) r0 r6;refine zw (SqL.of rh) ep λp2 hp2=>?_;have pb:0<=pc/\pc<=4:=by
    simp only[au,bn,bR]at hpc
    lia
   clear ep hpc;refine iE3 _ p2 ([y,pc]) (iA6 rfl (SqL.of rh) (by symm) (by simp) (nbs y0 (by lia) (nbs pb.1 (by lia) nb0)) (λH11 s3=>?_));have W2:=W.same (((zf hp).trans (zf hp2)).trans s3);have W3:=W2.addR ⟨.drain,[y],[],pc,[]⟩ (x:=zO "drain" [y,pc]) rfl;refine iE3 R _ _ (iA5 rfl rfl W2.hR (zn (by rw[jz];lia)) (iE2 _ _ (iA4 rfl W3 (I.knot (r:=⟨.drain,[y],[],pc,[]⟩) ?_ (bt _) ⟨⟨_,rfl⟩,rfl,pb⟩) (by simp;lia))));rw[List.drop_eq_getElem_cons hil,(aa.mp hy).2];exact bt _
  .intro σ' H9 pR;refine oE2 pR λv10 rs' p9=>oA4 p9 λpQ W I lr'=>?_;ext;rw[zP]at lr' I;rw[List.drop_length]at I;exact iE2 _ rs' (iA5 rfl W I (by lia) (by lia))
 clear W I lr le el em;intro σ' H8 pR;refine oE2 pR λv10 rs p9=>oA5 p9 λpQ W I lr lr1=>?_;ext;have s8:Same H1 H8:=(s17.fr.trans W.f).same n1;exists uc (qF T).mono ⟨iN,⟨_,⟨.inl ⟨_,SqL.of W.hR,rfl⟩,iE3 c 10099 _ (iA4 rfl (by decide) (by rw[jz];lia) (λctI ct0 ct1=>?_))⟩⟩⟩;rw[jz]at ct1;let⟨ct,rfl⟩:∃m:Nat,ctI=m:=⟨ctI.toNat,by lia⟩;exists⟨jW,jZ (SqL.of W.hR) λq1 hq1=>?_⟩;rw[xu (rTx rs) ct (by rw[jz];lia)];have a1:=zf (o:=.lst ((rTx rs).drop ct)) hq1;refine qu (SqL.of (a1 _ _ W.hL)) (SqL.of rh) (qe (by rw[jH,cU,jz];lia)) λq2 hq2=>?_;have a2:=a1.trans (zf (o:=.lst (bTx bs++(rTx rs).drop ct)) hq2);refine jZ (SqL.of (a2 _ _ W.hR)) λq3 hq3=>?_;rw[zcf (rTx rs) ct];refine qu (SqL.of (rq rh hq3)) (SqL.of rh) (qe (by rw[aD,jH,cU,aS,jz];lia)) λq4 hq4=>?_;have sA:=(a2.trans (zf (o:=.lst ((rTx rs).take ct)) hq3)).trans (zf (o:=.lst (bTx bs++(rTx rs).drop ct++(rTx rs).take ct)) hq4);let⟨pU,ro⟩:=I.work (zgf rs ct) (by lia) (by lia) (by lia);have tl:=zdP pU I.bo ro;have e:bTx bs++(rTx rs).drop ct++(rTx rs).take ct=(xA bs (rs.drop ct++rs.take ct)).map V.str:=by simp[bTx,rTx,xA,dH]
 exact iE3 _ q4 (xA bs (rs.drop ct++rs.take ct)) (iA5 rfl rfl (by rw[rh,e]) (zeE tl) (k _ _ _ ((s1.trans s8).trans sA) pU I.bo ro (by rw[aD,cU,aS];lia) lb))
def Wg(cs:Aj):Bool:=cs.all vS
def xy(x:Str):Option Nat:=if x.length<1\/30<x.length\/(x.cps.toList[0]?=some 48/\1<x.length)then none else if Wg x.cps.toList=true then some (NumText.digitsVal x.cps.toList)else none
def zc6:Option Nat->V
 |none=>.non
 |some n=>.int n
def XN(c:Nat):((⟨#[c]⟩:Str)=("0":Str))↔c=48:=by
 constructor
 .intro h;have h:(#[c]:Array Nat)=#[48]:=bp Str.cps h;simpa using h
 .rintro rfl;decide+kernel
def WP{cs:Aj}(h:Wg cs=true):NumText.AllDigits cs:=λc hc=>by
 have:=bU.mp h c hc;simpa[vS]using this
def zkS:Sp:=λvs H Q _=>∃x:Str,vs=[.str x]/\x.length<=sizeLine/\∀H',Same H H'->Q (zc6 (xy x)) H'
theorem WM(T:Txt K mg a):Cal P w K mg base "number_from" 1 ["word"] [] zkS:=T.mE.cal λF=>by
 refine F.okx Xf ?_ ?_
 .walk_at"i"
 walk_at"k";refine oE1 h λx p9=>oA3 p9 λpQ hx k=>?_;clear p9 h;subst pQ;let⟨t1,g1⟩:=T.me;let⟨t2,g2⟩:=T.oW;walk_at"T";refine⟨_,(zl (zH (jA (jB jT jT zh (zS qa z9 (za (pq 0) ze)) qS))  (zg (zk zA))  zp)  (zl (zH (jA (qp (zS (zj3 rfl) zj1 (za (jJ (vars:=["sign"]) (caps:=[]) (N:=["sign"]) (ON:=["word"]) (osc:=zi xO) rfl rfl (by right) rfl rfl (zjn (pq 0)) (λ_ _ _ _=>(qq 0 (show(["sign"]:A8).Nodup from by symm))) (λ_ _ _ _=>qg) (λ_ _ _ _=>(xa zjy (pq 0) qS (by with_unfolding_all rfl)))) ze)) (λ_=>rfl)))  (zg (zk zA))  zp)  (zl (zH (PW.pt (pw_and (zo (qT hr.units1) (zv (pq 0) zh) zy (zu _)) (pw_and1 (zo Q0 (zS qa z9 (za (pq 0) ze)) zh (zu _)))))  (zg (zk zA))  zp)  (zg (zk (jS ziq zj0 (za (pq 0) ze))))))),?_⟩;exists⟨x.length,⟨hx,rfl⟩,?_⟩;left;have hlen:x.cps.toList.length=x.length:=bg;refine zR (λh1=>?_) (λh1=>?_)
 .refine iE2 (.int 30) _ (iA3 g1 ⟨_,rfl⟩ ?_);exists zR (λh2=>?_) (λh2=>?_)
  rotate_left
  .left;have:=k H (Same.refl _);unfold xy at this;rw[aq (.inr (.inl (by lia)))]at this;exact this
  .walk_at"c";existsλ_ _ _ _ pV hacc=>?_;refine zkD (x:=x) (λi σ H'=>∃v,σ=[v]/\Same H H'/\H' pV=some (.lst (((x.cps.toList.take i).map vS).map V.bl))) ⟨_,iA3 rfl (zf hacc) rh⟩ ?_ ?_
   .intro i c σ H' hi pR;refine oE1 pR λv p9=>oA3 p9 λpQ sH ha=>?_;ext;have hil:i<x.length:=(bw.mp hi).1;have hi':x.cps.toList[i]?=some c:=by rw[cZ];exact hi
    exists iE2 (.str "0123456789") _ (iA3 g2 ⟨_,rfl⟩ (iE2 _ _ (iA3 rfl rfl ?_)));refine⟨_,iA3 ha (by rw[af,af,aS];exact zn (by lia)) ⟨_,iA3 rfl (λb o hb=>by rw[rj (rn hb hacc)];exact sH b o hb) ?_⟩⟩;rw[rh,aT,hi',X7,zh4];simp only[Option.toList_some,aQ,bN,map_nil];cases vS c<;>rfl
   .intro σ H' pR;refine oE1 pR λv p9=>oA3 p9 λpQ sH ha=>?_;ext;rw[da (by rw[hlen];exact ar _)]at ha;exists iE2 pV _ (iA3 rfl ha ?_);have hall:(x.cps.toList.map vS).all id=Wg x.cps.toList:=by rw[List.all_map];rfl
    rw[hall];left;cases hA:Wg x.cps.toList with
    |false =>
     left;have:=k H' sH;unfold xy at this;rw[hA]at this;by_cases hz:x.length<1\/30<x.length\/(x.cps.toList[0]?=some 48/\1<x.length)
     .rw[aq hz]at this;exact this
     .rw[am hz,am (by decide)]at this;exact this
    |true =>
     left;let⟨c,hc⟩:∃c,x.cps.toList[0]?=some c:=⟨_,ac (by lia)⟩;refine .inr (.inr (iE3 x 0 c (iA5 rfl rfl hx (by have:=zJ hc;simpa using this) ?_)));left;have fin:¬(c=48/\1<x.length)->Q (V.int (NumText.digitsVal x.cps.toList:Nat)) H':=λhz=>by
      have:=k H' sH;unfold xy at this;rw[am (by rw[hc];intro z;rcases z with z|z|⟨z,z'⟩<;>first|lia|exact hz ⟨by simpa using z,z'⟩),aq hA]at this;exact this
     have fin2:¬(c=48/\1<x.length)->∃x_1 n,[V.str x]=[V.str x_1]/\PySem.intText? x_1=some n/\x_1.length<=640/\Q (V.int n) H':=λhz =>
      ⟨x,_,rfl,PySem.intText_digits (WP hA) (λz=>by rw[z]at hlen;simp at hlen;lia) (by lia),by lia,fin hz⟩
     by_cases h48:c=48
     .subst h48;rw[aq ((XN 48).mpr rfl)];exists⟨x.length,⟨hx,rfl⟩,?_⟩;exists zR (λh3=>?_) (λh3=>?_)
      .left;have:=k H' sH;unfold xy at this;rw[aq (.inr (.inr ⟨hc,by lia⟩))]at this;exact this
      .left;exact fin2 (by lia)
     .rw[am (λz=>h48 ((XN c).mp z))];left;exact fin2 (by lia)
 .left;have:=k H (Same.refl _);unfold xy at this;rw[aq (.inl (by lia))]at this;exact this
def zih(h0:0<=n)(h1:n<zF):xy (qk n)=some n.toNat:=by
 let⟨m,rfl⟩:=gb h0;have hs:=gA m;have hl:(qk (m:Int)).length<=30:=fe h0 (by decide) (by unfold zF at h1;lia);have hlen:(qk (m:Int)).cps.toList.length=(qk (m:Int)).length:=bg;have hs:(qk (m:Int)).cps.toList=(Nat.toDigits 10 m).map Char.toNat:=hs;have hd:NumText.AllDigits (qk (m:Int)).cps.toList:=by
  intro c hc;rw[hs]at hc;let⟨ch,hch,e⟩:=aK.mp hc;have r:=fS (fu (by decide) (by decide) hch);rw[<- e];exact r
 have hv:NumText.digitsVal (qk (m:Int)).cps.toList=m:=by rw[hs];exact PySem.W.KIN.val_back m
 have h1l:1<=(Nat.toDigits 10 m).length:=PySem.toDigits_len_ge 10 m;have hl2:(Nat.toDigits 10 m).length=(qk (m:Int)).length:=by rw[<- hlen,hs,af]
 have nz:¬((qk (m:Int)).cps.toList[0]?=some 48/\1<(qk (m:Int)).length):=by
  rintro⟨z,z1⟩;have ta:=NumText.toDigits_all _ hd;rw[hv]at ta;generalize (qk (m:Int)).cps.toList=cs at z hlen ta;cases cs with
  |nil=>cases z
  |cons c r =>
   have z:c=48:=aO z;subst z;rw[List.dropWhile_cons_of_pos (by rfl)]at ta;have tl:=bp List.length ta;have dl:=(List.dropWhile_sublist (λx=>x == 48) (l:=r)).length_le;rw[aM]at hlen
   split at tl
   .simp at tl;lia
   .rename_i c' r' e;rw[e]at dl;rw[af]at tl
    lia
 have hA:Wg (qk (m:Int)).cps.toList=true:=bU.mpr λc hc=>by
  have:=hd c hc;simp[vS,this.1,this.2]
 unfold xy;rw[am (λw=>w.elim (λw=>by lia) λw=>w.elim (λw=>by lia) nz),aq hA,hv]
 rfl
def zdp(h0:0<=n):NumText.AllDigits (qk n).cps.toList:=by
 let⟨m,rfl⟩:=gb h0;have hs:(qk (m:Int)).cps.toList=(Nat.toDigits 10 m).map Char.toNat:=gA m;intro c hc;rw[hs]at hc;let⟨ch,hch,e⟩:=aK.mp hc;have r:=fS (fu (by decide) (by decide) hch);rw[<- e];exact r
def zb8{c:Nat}(h0:0<=n)(hc:c<48):c∉(qk n).cps.toList:=λz=>by
 have:=zdp h0 c z
 lia
def zjb:(Str.ofString " ")=(⟨#[32]⟩:Str):=by symm
def zk1:(Str.ofString "\n")=(⟨#[10]⟩:Str):=by symm
theorem zbV{c d:Nat}:∀{xs:A8},c∈(Str.join ⟨#[d]⟩ xs).cps.toList->c=d\/∃x∈xs,c∈x.cps.toList
 |[],h=>nomatch h
 |[x],h=>.inr ⟨x,a7 ..,h⟩
 |x::y::r,h=>by
  rw[wm]at h;rcases ay.mp h with h|h
  .exact .inr ⟨x,a7 ..,h⟩
  .rcases au.mp h with h|h
   .exact .inl h
   .rcases zbV h with h|⟨z,hz,h⟩
    .exact .inl h
    .exact .inr ⟨z,aA _ hz,h⟩
def zdi(h:32∉nm.cps.toList)(hb:∀n∈ns,0<=n/\n<zF):Txt.split (zO nm ns) (Str.ofString " ")=nm::ns.map qk:=by
 unfold zO;rw[zjb];refine JT (by simp) λx hx=>?_;rcases au.mp hx with rfl|hx
 .exact h
 .obtain⟨n,hn,rfl⟩:=aK.mp hx;exact zb8 (hb n hn).1 (by decide)
def zfd(h:10∉nm.cps.toList)(hb:∀n∈ns,0<=n/\n<zF):10∉(zO nm ns).cps.toList:=λz=>by
 unfold zO at z;rw[zjb]at z;rcases zbV z with zc|⟨x,hx,zx⟩
 .cases zc
 .rcases au.mp hx with rfl|hx
  .exact h zx
  .obtain⟨n,hn,rfl⟩:=aK.mp hx;exact zb8 (hb n hn).1 (by decide) zx
def zfL(wd:Wd):32∉(wdS wd).cps.toList/\10∉(wdS wd).cps.toList:=by cases wd<;>exact⟨by symm,by symm⟩
def belt_free:32∉(Str.ofString "belt").cps.toList/\10∉(Str.ofString "belt").cps.toList:=⟨by symm,by symm⟩
theorem at1{x y:V}:atI [x,y] 1=some y:=rfl
def big{n:Nat}(h:n<=100000):n<=sizeLine:=aJ h (by decide)
def J1(a:Ad):Sp:=λvs H Q _=>∃(e:Addr)(n:Nat),vs=[.ref e,.int n]/\H e=some (wo e (.ref a.g))/\n<=1000/\∀D:Addr,H D=none->D≠e->Q .non (upd (upd H D (.xd [("line",.int n)])) e (wo e (.int D a.g)))
def XM(T:Txt K mg a)(F:Fun K "__init__" "BadRow.__init__" xT f fd):FnOk P w K mg base (CXr P w) 1 f fd ["self","line"] (J1 a):=by
 refine F.okx Xn ?_ ?_
 .walk_at"i"
 walk_at"j";refine oE2 h λe n p9=>oA4 p9 λpQ he n1 k=>?_;clear p9 h;subst pQ;walk_at"T";refine⟨_,(zl (zD (zjp (za (pq 0) (za (Xy (qm zy (qm (w9 (pq 1)) (qm zy ZF)))) ze))))  (zg (zhR (pq 0) (pq 1) rfl))),?_⟩;left;have n0:(0:Int)<=n:=a8 n;have nk:(n:Int)<zF:=by unfold zF;lia
 have l1:=qD n0 nk;have e1:(Str.empty++Str.ofString "row ").length=4:=by symm
 have e2:(Str.ofString " is not good").length=12:=by symm
 refine oE2 T.kz.ex λf' _ p9=>oA3 p9 λ_ xc _=>?_;clear p9;have fit:∀{x:Str},x.length<=2000->x.length<=sizeLine:=λh=>big (by lia);exact⟨a.b,iA4 T.ka T.oj (fit (by lia)) (.inl ⟨n,iA6 rfl (qr n0 nk) (fit (by rw[aG];lia)) (fit (by rw[aG,aG];lia)) (fit (by rw[aG,aG];lia)) (iE4 e a.g f' _ (iA4 rfl he xc (iE2 e a.g (iA4 rfl he T.mf k))))⟩)⟩
def zb9(T:Txt K mg a):ICal P w K mg base "BadRow" a.g 1 ["self","line"] (J1 a):=T.kz.cal T.i5 (XM T)
inductive Prt where
 |belt (rm pc:Int)
 |knot (r:Row)
def okP:Prt->Prop
 | .belt rm pc=>zE rm pc
 | .knot r=>r.ok
def zk6(a:Ad):Prt->Addr
 | .belt _ _=>a.d
 | .knot _=>a.e
def RepP(a:Ad)(H:Hp)(p:A5)(v:V):Prt->Prop
 | .belt rm pc=>BtP a H p v (rm,pc)
 | .knot r=>KnP a H p v r
def zea(nm:Str)(ns:A6):Option Prt :=
 if nm="belt"/\ns.length=2 then some (.belt (ns.getD 0 0) (ns.getD 1 0))
 else if nm="source"/\2<=ns.length then some (.knot ⟨.source,[],[ns.getD 0 0],ns.getD 1 0,ns.drop 2⟩)
 else if nm="drain"/\ns.length=2 then some (.knot ⟨.drain,[ns.getD 0 0],[],ns.getD 1 0,[]⟩)
 else if nm="parter"/\1<=ns.length then some (.knot ⟨.parter,[ns.getD 0 0],ns.drop 1,0,[]⟩)
 else if nm="first"/\1<=ns.length then some (.knot ⟨.first,[ns.getD 0 0],ns.drop 1,0,[]⟩)
 else if nm="sieve"/\ns.length=4 then some (.knot ⟨.sieve,[ns.getD 0 0],[ns.getD 1 0,ns.getD 2 0],0,[ns.getD 3 0]⟩)
 else if nm="joiner"/\1<=ns.length then some (.knot ⟨.joiner,ns.drop 1,[ns.getD 0 0],0,[]⟩)
 else none
def zi8(K:A0)(a:Ad):Sp:=λvs H Q E=>∃(nm:Str)(l:Addr)(ns:A6),vs=[.str nm,.ref l]/\H l=some (.lst (iv ns))/\(∀n∈ns,0<=n/\n<zF)/\(zea nm ns=none->Q .non H) /\
 ∀p,zea nm ns=some p->(okP p->∀v' H',Same H H'->RepP a H' (New H) v' p->Q v' H')/\(¬okP p->∀H',Same H H'->E (.ref (zk6 a p)) none H')
def ZJ{p q:Prop}[Decidable p][Decidable q]{A N:Prop}(h:¬(p/\q))(n:N):if p then(if q then A else N)else N:=by
 by_cases hp:p
 .rw[aq hp,am (λhq=>h ⟨hp,hq⟩)];exact n
 .rw[am hp];exact n
def wO{p q:Prop}[Decidable p][Decidable q]{A N:Prop}(hp:p)(hq:q)(n:A):if p then(if q then A else N)else N:=by
 rw[aq hp,aq hq];exact n
def xo{C z dz:Addr}(hz:H z=none)(hdz:H dz=none):Same H (upd (upd H dz (.own z)) z (.ins C dz [])):=λb o h=>qy hz hdz h
def two_cons(h:2<=ns.length):∃x y r,ns=x::y::r:=by
 match ns,h with
 |x::y::r,_=>exact⟨x,y,r,rfl⟩
def XF(h:1<=ns.length):∃x r,ns=x::r:=by
 match ns,h with
 |x::r,_=>exact⟨x,r,rfl⟩
theorem zcp(T:Txt K mg a):Cal P w K mg base "made_part" 4 ["name","numbers"] [] (zi8 K a):=T.nS.cal λF=>by
 refine F.okx V7 ?_ ?_
 .walk_at"i"
 walk_at"j";refine oE3 h λnm l ns p9=>oA5 p9 λpQ hl nb kN kP=>?_;clear p9 h;subst pQ;unfold zea at kN kP;walk_at"T";refine⟨_,(zj (zt 2 V7.nd (zS qa z9 (za (pq 1) ze)))  (zj (zH (PW.pt (pw_and (zo (qT hr.units1) (pq 0) zy (zu _)) (pw_and1 (zo (qT hr.units1) (pq 2) zh (zu _)))))  (zg (zk (j7 (x:="Belt") ⟨rfl,rfl,rfl⟩ hr (za (zv (pq 1) zh) (za (zv (pq 1) zh) ze)))))  zp)  (zj (zH (PW.pt (pw_and (zo (qT hr.units1) (pq 0) zy (zu _)) (pw_and1 (zo zd8 (pq 2) zh (zu _)))))  (zg (zk (j7 (x:="Source") ⟨rfl,rfl,rfl⟩ hr (za (zv (pq 1) zh) (za (zv (pq 1) zh) (za (qY jX (pq 1) (jk zh) jD) ze))))))  zp)  (zj (zH (PW.pt (pw_and (zo (qT hr.units1) (pq 0) zy (zu _)) (pw_and1 (zo (qT hr.units1) (pq 2) zh (zu _)))))  (zg (zk (j7 (x:="Drain") ⟨rfl,rfl,rfl⟩ hr (za (zv (pq 1) zh) (za (zv (pq 1) zh) ze)))))  zp)  (zj (zH (PW.pt (pw_and (zo (qT hr.units1) (pq 0) zy (zu _)) (pw_and1 (zo zd8 (pq 2) zh (zu _)))))  (zg (zk (j7 (x:="Parter") ⟨rfl,rfl,rfl⟩ hr (za (zv (pq 1) zh) (za (qY jX (pq 1) (jk zh) jD) ze)))))  zp)  (zj (zH (PW.pt (pw_and (zo (qT hr.units1) (pq 0) zy (zu _)) (pw_and1 (zo zd8 (pq 2) zh (zu _)))))  (zg (zk (j7 (x:="FirstParter") ⟨rfl,rfl,rfl⟩ hr (za (zv (pq 1) zh) (za (qY jX (pq 1) (jk zh) jD) ze)))))  zp)  (zj (zH (PW.pt (pw_and (zo (qT hr.units1) (pq 0) zy (zu _)) (pw_and1 (zo (qT hr.units1) (pq 2) zh (zu _)))))  (zg (zk (j7 (x:="Sieve") ⟨rfl,rfl,rfl⟩ hr (za (zv (pq 1) zh) (za (qY jX (pq 1) (jk zh) (jk zh)) (za (zv (pq 1) zh) ze))))))  zp)  (zj (zH (PW.pt (pw_and (zo (qT hr.units1) (pq 0) zy (zu _)) (pw_and1 (zo zd8 (pq 2) zh (zu _)))))  (zg (zk (j7 (x:="Joiner") ⟨rfl,rfl,rfl⟩ hr (za (qY jX (pq 1) (jk zh) jD) (za (zv (pq 1) zh) ze)))))  zp)  (zg (zk zA)))))))))),?_⟩;exists⟨_,.inl ⟨_,SqL.of hl,rfl⟩,?_⟩;rw[zP];left;by_cases c1:nm="belt"/\ns.length=2
 .rw[aq c1]at kP;let⟨kO,kE⟩:=kP _ rfl;let⟨rfl,e2⟩:=c1;let⟨rm,pc,rfl⟩:∃rm pc,ns=[rm,pc]:=by
   match ns,e2 with
   |[x,y],_=>exact⟨x,y,rfl⟩
  have hl:H l=some (.lst [.int rm,.int pc]):=hl;refine wO rfl rfl (iE4 a.j _ _ _ ⟨(zgN T).mono,zw (SqL.of hl) at0 (zw (SqL.of hl) at1 ?_)⟩);intro z dz hz hdz hne;refine iE4 z dz rm pc (iA3 rfl rh ?_);by_cases ok:zE rm pc
  .have sN:Same H (upd (upd H dz (.own z)) z (.ins a.j dz (bf rm pc))):=λb o h=>by rw[rj (rn h hz),rj (rn h hdz)];exact h
   rw[aq ok,ZR];exact⟨rfl,kO ok _ _ sN (ziW (p:=New H) hz rh)⟩
  .rw[am ok];exact kE ok _ (xo hz hdz)
 refine ZJ (λz=>c1 ⟨z.1,by have:=z.2;lia⟩) ?_;rw[am c1]at kN kP;clear c1;left;by_cases c2:nm="source"/\2<=ns.length
 .rw[aq c2]at kP;let⟨kO,kE⟩:=kP _ rfl;let⟨rfl,e2⟩:=c2;refine oE3 (two_cons e2) λo pc ks p9=>?_;subst p9;have hl:H l=some (.lst (.int o::.int pc::iv ks)):=hl;refine wO rfl (by lia) (iE4 a.l _ _ _ ⟨(zb4 T).mono,zw (SqL.of hl) at0 (zw (SqL.of hl) (show atI _ 1=some (.int pc)from zJ (j:=1) rfl) (jZ (SqL.of hl) λm3' hm3=>?_))⟩);rw[show vh (.int o::.int pc::iv ks) (some 2) none=iv ks from(xu _ 2 (by simp)).trans rfl]at *;intro z dz hz hdz hne;have hm3':=rh (H:=H) (a:=m3') (o:=.lst (iv ks));refine iE6 z dz m3' (.int o) pc ks (iA6 rfl rh (SqL.of (qy hz hdz hm3')) (rn hm3' hz) (λq H' m1 m2 m3 s' g1 g2 g3 g4 n1 n2 n3=>⟨rfl,?_⟩) (λhbad=>kE (λz=>hbad z.2.2) _ ((zf hm3).trans (xo hz hdz))));exact kO ⟨rfl,⟨o,rfl⟩,q⟩ _ _ ((zf hm3).trans (Own.of_new hz hdz s')) (Vu (p:=New H) (ins:=[]) (outs:=[o]) (zI hz) (zI (zU n1)) (zI (zU n2)) (zI (zU n3)) g1 g2 g3 g4)
 refine ZJ (λz=>c2 ⟨z.1,by have:=z.2;lia⟩) ?_;rw[am c2]at kN kP;clear c2;left;by_cases c3:nm="drain"/\ns.length=2
 .rw[aq c3]at kP;let⟨kO,kE⟩:=kP _ rfl;let⟨rfl,e2⟩:=c3;let⟨i,pc,rfl⟩:∃i pc,ns=[i,pc]:=by
   match ns,e2 with
   |[x,y],_=>exact⟨x,y,rfl⟩
  have hl:H l=some (.lst [.int i,.int pc]):=hl;refine wO rfl rfl (iE4 a.m _ _ _ ⟨(zed T).mono,zw (SqL.of hl) at0 (zw (SqL.of hl) at1 ?_)⟩);intro z dz hz hdz hne;refine iE4 z dz (.int i) pc (iA3 rfl rh ?_);by_cases ok:0<=pc/\pc<=4
  .rw[aq ok];intro H' m1 m2 s' g1 g2 g3 n1 n2;exact⟨rfl,kO ⟨⟨i,rfl⟩,rfl,ok⟩ _ _ (Own.of_new hz hdz s') (zb2 (p:=New H) (ins:=[i]) (outs:=[]) hz (zU n1) (zU n2) g1 g2 g3)⟩
  .rw[am ok];exact kE (λz=>ok z.2.2) _ (xo hz hdz)
 refine ZJ (λz=>c3 ⟨z.1,by have:=z.2;lia⟩) ?_;rw[am c3]at kN kP;clear c3;left;by_cases c4:nm="parter"/\1<=ns.length
 .rw[aq c4]at kP;let⟨kO,kE⟩:=kP _ rfl;let⟨rfl,e2⟩:=c4;let⟨i,outs,rfl⟩:=XF e2;have hl:H l=some (.lst (.int i::iv outs)):=hl;refine wO rfl (by lia) (iE4 a.n _ _ _ ⟨(zb5 T).mono,zw (SqL.of hl) at0 (jZ (SqL.of hl) λm3 hm3=>?_)⟩);rw[show vh (.int i::iv outs) (some 1) none=iv outs from(xu _ 1 (by simp)).trans rfl]at *;intro z dz hz hdz hne;have hm3':=rh (H:=H) (a:=m3) (o:=.lst (iv outs));refine iE5 z dz m3 (.int i) (iv outs) (iA5 rfl rh (SqL.of (qy hz hdz hm3')) (rn hm3' hz) ?_);rw[zP];by_cases ok:2<=outs.length/\outs.length<=4
  .rw[aq ok];intro H' m1 m2 s' g1 g2 g3 n1 n2;exact⟨rfl,kO ⟨⟨i,rfl⟩,ok⟩ _ _ ((zf hm3).trans (Own.of_new hz hdz s')) (Vv (p:=New H) (ins:=[i]) (outs:=outs) (zI hz) (zI (zU n1)) (zI (zU n2)) g1 g2 g3)⟩
  .rw[am ok];exact kE (λz=>ok z.2) _ ((zf hm3).trans (xo hz hdz))
 refine ZJ (λz=>c4 ⟨z.1,by have:=z.2;lia⟩) ?_;rw[am c4]at kN kP;clear c4;left;by_cases c5:nm="first"/\1<=ns.length
 .rw[aq c5]at kP;let⟨kO,kE⟩:=kP _ rfl;let⟨rfl,e2⟩:=c5;let⟨i,outs,rfl⟩:=XF e2;have hl:H l=some (.lst (.int i::iv outs)):=hl;refine wO rfl (by lia) (iE4 a.o _ _ _ ⟨(Zq T).mono,zw (SqL.of hl) at0 (jZ (SqL.of hl) λm3 hm3=>?_)⟩);rw[show vh (.int i::iv outs) (some 1) none=iv outs from(xu _ 1 (by simp)).trans rfl]at *;intro z dz hz hdz hne;have hm3':=rh (H:=H) (a:=m3) (o:=.lst (iv outs));refine iE5 z dz m3 (.int i) (iv outs) (iA5 rfl rh (SqL.of (qy hz hdz hm3')) (rn hm3' hz) ?_);rw[zP];by_cases ok:2<=outs.length/\outs.length<=4
  .rw[aq ok];intro H' m1 m2 s' g1 g2 g3 n1 n2;exact⟨rfl,kO ⟨⟨i,rfl⟩,ok⟩ _ _ ((zf hm3).trans (Own.of_new hz hdz s')) (zb1 (p:=New H) (ins:=[i]) (outs:=outs) (zI hz) (zI (zU n1)) (zI (zU n2)) g1 g2 g3)⟩
  .rw[am ok];exact kE (λz=>ok z.2) _ ((zf hm3).trans (xo hz hdz))
 refine ZJ (λz=>c5 ⟨z.1,by have:=z.2;lia⟩) ?_;rw[am c5]at kN kP;clear c5;left;by_cases c6:nm="sieve"/\ns.length=4
 .rw[aq c6]at kP;let⟨kO,kE⟩:=kP _ rfl;let⟨rfl,e2⟩:=c6;let⟨i,o1,o2,kk,rfl⟩:∃i o1 o2 kk,ns=[i,o1,o2,kk]:=by
   match ns,e2 with
   |[x,y,u,v],_=>exact⟨x,y,u,v,rfl⟩
  have hl:H l=some (.lst [.int i,.int o1,.int o2,.int kk]):=hl;refine wO rfl rfl (iE4 a.p _ _ _ ⟨(zec T).mono,zw (SqL.of hl) at0 (jZ (SqL.of hl) λm3 hm3=>?_)⟩);rw[show vh [V.int i,.int o1,.int o2,.int kk] (some 1) (some 3)=iv [o1,o2]from rfl]at *;refine zw (SqL.of (rq hl hm3)) (show atI _ 3=some (.int kk)from zJ (j:=3) rfl) ?_;intro z dz hz hdz hne;have hm3':=rh (H:=H) (a:=m3) (o:=.lst (iv [o1,o2]));have nk:=nb kk (by simp);refine iE6 z dz m3 (.int i) (iv [o1,o2]) kk (iA5 rfl rh (SqL.of (qy hz hdz hm3')) (rn hm3' hz) ?_);rw[aq ⟨rfl,nk⟩];intro H' m1 m2 s' g1 g2 g3 n1 n2;exact⟨rfl,kO (iA3 ⟨i,rfl⟩ rfl ⟨kk,⟨rfl,nk⟩⟩) _ _ ((zf hm3).trans (Own.of_new hz hdz s')) (zb0 (p:=New H) (ins:=[i]) (outs:=[o1,o2]) (zI hz) (zI (zU n1)) (zI (zU n2)) g1 g2 g3)⟩
 refine ZJ (λz=>c6 ⟨z.1,by have:=z.2;lia⟩) ?_;rw[am c6]at kN kP;clear c6;left;by_cases c7:nm="joiner"/\1<=ns.length
 .rw[aq c7]at kP;let⟨kO,kE⟩:=kP _ rfl;let⟨rfl,e2⟩:=c7;let⟨o,ins,rfl⟩:=XF e2;have hl:H l=some (.lst (.int o::iv ins)):=hl;refine wO rfl (by lia) (iE4 a.q _ _ _ ⟨(zb6 T).mono,jZ (SqL.of hl) λm3 hm3=>?_⟩);rw[show vh (.int o::iv ins) (some 1) none=iv ins from(xu _ 1 (by simp)).trans rfl]at *;refine zw (SqL.of (rq hl hm3)) at0 ?_;intro z dz hz hdz hne;have hm3':=rh (H:=H) (a:=m3) (o:=.lst (iv ins));refine iE5 z dz m3 (.int o) (iv ins) (iA5 rfl rh (SqL.of (qy hz hdz hm3')) (rn hm3' hz) ?_);rw[zP];by_cases ok:2<=ins.length/\ins.length<=4
  .rw[aq ok];intro H' m1 m2 s' g1 g2 g3 n1 n2;exact⟨rfl,kO ⟨⟨o,rfl⟩,ok⟩ _ _ ((zf hm3).trans (Own.of_new hz hdz s')) (Vw (p:=New H) (ins:=ins) (outs:=[o]) (zI hz) (zI (zU n1)) (zI (zU n2)) g1 g2 g3)⟩
  .rw[am ok];exact kE (λz=>ok z.2) _ ((zf hm3).trans (xo hz hdz))
 refine ZJ (λz=>c7 ⟨z.1,by have:=z.2;lia⟩) ?_;rw[am c7]at kN;left;exact kN rfl
def zfn:∀cs:List Nat,NumText.AllDigits cs->NumText.digitsVal cs<10^cs.length:=by
 intro cs;generalize hn:cs.length=n
 induction n generalizing cs with
 |zero =>
  intro _;rw[dN]at hn;subst hn;decide
 |succ n ih =>
  intro h;have ne:cs≠[]:=λz=>by rw[z]at hn;cases hn
  have e:cs=cs.dropLast++[cs.getLast ne]:=(fo ne).symm;have hl:=h (cs.getLast ne) (fN ne);have ih':=ih cs.dropLast (by rw[gM,hn];rfl) λc hc=>h c (List.dropLast_subset _ hc);rw[e,NumText.digitsVal_snoc,Nat.pow_succ]
  lia
def zjV{x:Str}{n:Nat}(h:xy x=some n):(n:Int)<zF:=by
 unfold xy at h
 split at h
 .cases h
 .rename_i z
  split at h
  .rename_i a;cases h;have d:NumText.AllDigits x.cps.toList:=λc hc=>by
    have:=bU.mp a c hc;simp[vS]at this;exact this
   have l:=zfn _ d;have e:x.cps.toList.length=x.length:=bg;have:x.cps.toList.length<=30:=by lia
   have p:=gI (n:=10) (by decide) this;unfold zF;have:(10:Nat)^30=1000000000000000000000000000000:=by symm
   lia
  .cases h
theorem zdL{d:Nat}:∀{xs:A8}{x:Str},x∈xs->x.length<=(Str.join ⟨#[d]⟩ xs).length
 |[y],x,h=>by rw[ak.mp h];exact ar _
 |y::z::r,x,h=>by
  have e:(Str.join ⟨#[d]⟩ (y::z::r)).length=y.length+(1+(Str.join ⟨#[d]⟩ (z::r)).length):=by
   have l:=bp List.length (wm d y z r);rw[aD,aM,bg,bg,bg]at l;show(Str.join ⟨#[d]⟩ (y::z::r)).cps.size=y.cps.size+(1+(Str.join ⟨#[d]⟩ (z::r)).cps.size)
   lia
  rcases au.mp h with rfl|h
  .lia
  .have:=zdL (d:=d) h
   lia
def Q1:List Str->Option A6
 |[]=>some []
 | w::ws=>match xy w,Q1 ws with
  |some n,some ns=>some ((n:Int)::ns)
  |_,_=>none
theorem zbN:∀(ws:A8),(Q1 ws=none->∃w∈ws,xy w=none)/\∀ns,Q1 ws=some ns->ws.map (λw=>zc6 (xy w))=iv ns/\∀n∈ns,0<=n/\n<zF
 |[]=>⟨(λh=>nomatch h),λns h=>by cases h;exact⟨rfl,λn hn=>nomatch hn⟩⟩
 |w::ws=>by
  let⟨h1,h2⟩:=zbN ws;unfold Q1;cases e:xy w with
  |none=>exact⟨λ_=>⟨w,a7 ..,e⟩,λns h=>nomatch h⟩
  |some n =>
   cases e':Q1 ws with
   |none =>
    let⟨x,hx,ex⟩:=h1 e';exact⟨λ_=>⟨x,aA _ hx,ex⟩,λns h=>nomatch h⟩
   |some ms =>
    let⟨q1,q2⟩:=h2 ms e';refine⟨(λh=>nomatch h),λns h=>?_⟩;cases h;refine⟨by rw[bN,q1,e];rfl,λn' hn=>?_⟩;rcases au.mp hn with rfl|hn
    .exact⟨a8 n,zjV e⟩
    .exact q2 n' hn
def Zn(row:Str):Option Prt:=match Txt.split row (Str.ofString " ")with
 |[]=>none
 |nm::ws=>(Q1 ws).bind (zea nm)
def zjA(ns:A6):inV .non (iv ns)=false:=by
 unfold inV iv;rw[List.any_map];exact List.any_eq_false.mpr λn _=>by simp[eqV]
theorem zgV:∀ws:List Str,(∃w∈ws,xy w=none)->inV .non (ws.map λw=>zc6 (xy w))=true
 |[],h=>by let⟨_,h,_⟩:=h;cases h
 |w::ws,h=>by
  show(eqV (zc6 (xy w)) .non||inV .non (ws.map λw=>zc6 (xy w)))=true
  let⟨x,hx,e⟩:=h;rcases au.mp hx with rfl|hx
  .rw[e];rfl
  .rw[zgV ws ⟨x,hx,e⟩,Bool.or_true]
def zg4(ws:A8):(ws.map λw=>zc6 (xy w)).all jo=true:=bU.mpr λx hx=>by
 let⟨w,_,rfl⟩:=aK.mp hx;cases xy w<;>rfl
def zi7(a:Ad):Sp:=λvs H Q _=>∃(row:Str),vs=[.str row]/\row.length<=100000/\(∀p,Zn row=some p->okP p->∀v' H',Same H H'->RepP a H' (New H) v' p->Q v' H')/\((∀p,Zn row=some p->¬okP p)->∀H',Same H H'->Q .non H')
def RepP.keep{a:Ad}{H H':Hp}{p q:A5}{pr:Prt}(h:RepP a H p v pr)(k:∀b o,p b->H b=some o->q b/\H' b=some o):RepP a H' q v pr:=by
 cases pr with
 |belt rm pc=>exact Rep.keep k h
 |knot r=>exact Rep.keep k h
theorem zcm(T:Txt K mg a):Cal P w K mg base "part_from" 5 ["row"] [] (zi7 a):=T.nT.cal λF=>by
 refine F.okx V4 ?_ ?_
 .walk_at"i"
 walk_at"j";refine oE1 h λrow p9=>oA4 p9 λpQ l1 kP kN=>?_;clear p9 h;subst pQ;have z3:3000000<=sizeLine:=by decide
 have sl:=PyProof.Rows.split_le row (Str.ofString " ");have sp:=PyProof.Rows.split_pos row (Str.ofString " ");have sw:∀x∈Txt.split row (Str.ofString " "),x.length<=row.length:=λx hx=>by
  have:=zdL (d:=32) hx
  rwa[<- zjb,StrLaws.join_split]at this
 walk_at"T";refine⟨_,(zj (zt 1 V4.nd (z7 aW dP dO XR (pq 0) (za zy ze)))  (zj (QY (i:=2) V4.nd rfl (Or.inl rfl) (vars:=["word"]) (caps:=[]) (N:=["word"]) (ON:=["row","words","numbers"]) (osc:=zi vt) rfl rfl (by right) rfl rfl (qj (qY jX (pq 1) (jk zh) jD)) (λ_ _ _ _=>(qq 0 (show(["word"]:A8).Nodup from by symm))) (λ_ _ _ _=>qg) (λ_ _ _ _=>(wK hr (za (pq 0) ze))))  (zj (zH (zo ziQ zA (pq 2) (by with_unfolding_all rfl))  (zg (zk zA))  zp)  (zg (zhP ⟨rfl,rfl,rfl⟩ rfl (λpn G=>(zg (zk ‹(zv (pq 1) zh) (za (pq 2) ze)›))) (λpn a=>(zg (zk zA))) (λpn a=>(zg (zk zA)))))))),?_⟩;exists⟨jW,iE2 _ _ (iA5 rfl rfl (by symm) (by lia) (λwl hwl=>?_))⟩;unfold Zn at kP kN;generalize Txt.split row (Str.ofString " ")=ws0 at *;let⟨nm,ws,rfl⟩:∃nm ws,ws0=nm::ws:=by
  cases ws0 with
  |nil=>simp at sp
  |cons x r=>exact⟨x,r,rfl⟩
 have s1:=zf (o:=.lst ((nm::ws).map V.str)) hwl;have g1:upd H wl (.lst ((nm::ws).map V.str)) wl=some (.lst (.str nm::ws.map V.str)):=rh;generalize upd H wl _=H1 at s1 g1 ⊢;left;walk_at"c";exists jZ (SqL.of g1) λq1 hq1=>?_;rw[show vh (.str nm::ws.map V.str) (some 1) none=ws.map V.str from(xu _ 1 (by simp)).trans rfl]at *;have s2:=s1.trans (zf (o:=.lst (ws.map V.str)) hq1);have g2:upd H1 q1 (.lst (ws.map V.str)) q1=some (.lst (ws.map V.str)):=rh;have gw:=zf (o:=.lst (ws.map V.str)) hq1 _ _ g1;generalize upd H1 q1 _=H2 at s2 g2 gw ⊢;refine⟨q1,rfl,.inl ⟨⟨_,SqL.of g2⟩,λ_ _ _ _ pV hacc=>?_⟩⟩;refine qL (K:=K) (a:=q1) (xs:=ws.map V.str) (λi σ H'=>∃v0,σ=[v0]/\Same H2 H'/\H' pV=some (.lst ((ws.take i).map λw=>zc6 (xy w)))) ⟨_,iA3 rfl (zf hacc) rh⟩ (λi σ H' _ h=>by let⟨_,_,s,_⟩:=h;exact SqL.of (s _ _ g2)) ?_ ?_
 .intro i x σ H3 hi pR;refine oE1 pR λv0 p9=>oA3 p9 λpQ s3 g3=>?_;ext;rw[ap,aB]at hi;let⟨n,hn,rfl⟩:=hi;have hil:=(aa.mp hn).1;have il:=sw n (aA _ (ai hn));rw[aM]at sl;exists uc (WM T).mono ⟨n,iA3 rfl (by lia) (λH4 s4=>?_)⟩;refine⟨_,iA3 (s4 _ _ g3) (aH (by rw[af,aS];lia) z3) ⟨_,iA3 rfl (λb o hb=>?_) ?_⟩⟩
  .rw[rj (rn hb hacc)];exact s4 _ _ (s3 b o hb)
  .rw[rh,aT,hn,aQ];rfl
 intro σ H3 pR;refine oE1 pR λv0 p9=>oA3 p9 λpQ s3 g3=>?_;ext;rw[af,aV]at g3;exists iE2 pV _ (iA5 rfl (.inl (SqL.of g3)) rfl (zg4 _) ?_);let⟨hn0,hn1⟩:=zbN ws;simp only at kP kN;cases en:Q1 ws with
 |none =>
  rw[zgV ws (hn0 en)];left;exact kN (λp hp=>by rw[en]at hp;cases hp) _ (s2.trans s3)
 |some ns =>
  let⟨e1,nb⟩:=hn1 ns en;rw[e1]at g3 ⊢;rw[en]at kP kN;rw[zjA];exists iE2 a.d a.e (iA5 T.mz T.o6 T.iM T.o8 (λpn=>?_));left;have s03:=s2.trans s3;refine uc (zcp T).mono (zw (SqL.of (s3 _ _ gw)) at0 (iE3 nm pV ns (iA5 rfl g3 nb (λz=>kN (λp hp=>by rw[cA,z]at hp;cases hp) _ s03) (λp hp=>⟨λok v' H' s' rp=>?_,λnok H' s'=>?_⟩))))
  .refine kP p (by rw[cA,hp]) ok v' H' (s03.trans s') (rp.keep λb o hb ho=>⟨?_,ho⟩);exact zM s03 hb
  .have q:=kN (λp' hp'=>by rw[cA,hp]at hp';cases hp';exact nok) H' (s03.trans s');cases p with
   |belt rm pc=>exact⟨a.d,rfl,.inl ⟨T.kX,λ_ _=>q⟩⟩
   |knot r=>exact⟨a.e,rfl,.inr ⟨T.kY,T.kZ,λ_ _=>q⟩⟩
open Classical in
noncomputable def j6(s:Option (List (Int×Int)×List Row))(x:Str):Option (List (Int×Int)×List Row):=match s,Zn x with
 |some (bs,rs),some (.belt rm pc)=>if zE rm pc/\rs=[]then some (bs++[(rm,pc)],rs)else none
 |some (bs,rs),some (.knot r)=>if r.ok then some (bs,rs++[r])else none
 |_,_=>none
noncomputable def rdF(rows:A8):Option (List (Int×Int)×List Row):=rows.foldl j6 (some ([],[]))
def zgh{x:Str}(h:rows[i]?=some x):rdF (rows.take (i+1))=j6 (rdF (rows.take i)) x:=by
 unfold rdF;rw[aT,h,foldl_append]
 rfl
def zbA:∀{rows:A8}{bs:A1}{rs:At},rdF rows=some (bs,rs)->(∀b∈bs,zE b.1 b.2)/\(∀r∈rs,r.ok)/\bs.length+rs.length=rows.length:=by
 intro rows;generalize hn:rows.length=n
 induction n generalizing rows with
 |zero =>
  intro bs rs h;rw[dN]at hn;subst hn;cases h;exact⟨(λb hb=>nomatch hb),(λr hr=>nomatch hr),rfl⟩
 |succ n ih =>
  intro bs rs h;have ne:rows≠[]:=λz=>by rw[z]at hn;cases hn
  have e:rows=rows.dropLast++[rows.getLast ne]:=(fo ne).symm;have l:rows.dropLast.length=n:=by rw[gM,hn];rfl
  rw[e]at h;unfold rdF at h;rw[foldl_append]at h;have h:j6 (rdF rows.dropLast) (rows.getLast ne)=some (bs,rs):=h;cases e1:rdF rows.dropLast with
  |none=>rw[e1]at h;unfold j6 at h;cases h
  |some s =>
   let⟨bs',rs'⟩:=s;let⟨q1,q2,q3⟩:=ih l e1;rw[e1]at h;unfold j6 at h;cases e2:Zn (rows.getLast ne)with
   |none=>rw[e2]at h;cases h
   |some p =>
    rw[e2]at h;cases p with
    |belt rm pc =>
     simp only at h
     split at h
     .rename_i z;cases h;refine⟨λb hb=>?_,q2,by rw[aD];simp;lia⟩;rcases ay.mp hb with hb|hb
      .exact q1 b hb
      .rw[ak.mp hb];exact z.1
     .cases h
    |knot r =>
     simp only at h
     split at h
     .rename_i z;cases h;refine⟨q1,λr' hr=>?_,by rw[aD];simp;lia⟩;rcases ay.mp hr with hr|hr
      .exact q2 r' hr
      .rw[ak.mp hr];exact z
     .cases h
def zi6(K:A0)(a:Ad):Sp:=λvs H Q E=>∃(rows:A8),vs=[.str (Str.join "\n" rows)]/\rows≠[]/\rows.length<=100/\(∀x∈rows,10∉x.cps.toList/\x.length<=10000) /\
 (∀i,i<rows.length->rdF (rows.take i)≠none->rdF (rows.take (i+1))=none->∀(D:Addr) H',Same H H'->H' D=none->E (.int D a.g) none (upd H' D (.xd [("line",.int (i+1:Nat))]))) /\
 ∀bs rs,rdF rows=some (bs,rs)->(jK rs).length<64/\(qA rs).length<64/\(zQ bs rs->∀v' H',Same H H'->Rep H' (Off []) v' (qG a bs rs)->Q v' H')/\(¬zQ bs rs->∀H',Same H H'->E (.ref a.f) none H')
def Xt(h0:rows≠[])(h:∀x∈rows,10∉x.cps.toList/\x.length<=10000):Txt.split (Str.join "\n" rows) (Str.ofString "\n")=rows:=by
 rw[show Str.join "\n" rows=Str.join (Str.ofString "\n") rows from rfl,zk1];exact JT h0 λx hx=>(h x hx).1
def zbt(hl:rows.length<=100)(h:∀x∈rows,10∉x.cps.toList/\x.length<=10000):(Str.join "\n" rows).length+2<=sizeLine:=by
 have h1:=eE "\n" rows;have h2:=xB (m:=10000) λx hx=>(h x hx).2;have h3:(Str.ofString "\n").length=1:=by symm
 have z3:3000000<=sizeLine:=by decide
 have h4:rows.length*10000<=1000000:=by lia
 rw[h3]at h1
 lia
theorem Q9(T:Txt K mg a):Cal P w K mg base "read_work" 7 ["text"] [] (zi6 K a):=T.nU.cal λF=>by
 refine F.okx V2 ?_ ?_
 .walk_at"i"
 walk_at"j";refine oE1 h λrows p9=>oA6 p9 λpQ r0 r100 rf kB kW=>?_;clear p9 h;subst pQ;walk_at"T";refine⟨_,(zj (zt 1 V2.nd (zB ze))  (zj (zt 2 V2.nd (zB ze))  (qf (qU jn rfl (jl (za (z7 aW dP dO XR (pq 0) (za zy ze)) ze)) (xW (n:=2) rfl (qd (qq 3 V2.nd) (qd (qq 4 V2.nd) jO)))  (zj (zt 5 V2.nd ‹(pq 4) ze›)  (zg (zH (qp (zS ji zL (za (pq 5) (za qS ze))) (λ_=>rfl))  (zg (zD (z7 ao aw av zN (pq 2) (za (pq 5) ze))))  (zg (zH (PW.pt (pw_and (qp (zS ji zL (za (pq 5) (za qS ze))) (λ_=>rfl)) (pw_and1 (zo (qT hr.units1) (zS qa z9 (za (pq 2) ze)) zh (zu _)))))  (zg (zD (z7 ao aw av zN (pq 1) (za (pq 5) ze))))  (zg (zeZ ⟨rfl,rfl,rfl⟩ rfl hr (za (zG zK (pq 3) zh) ze)))))))))  (zg (zk (j7 (x:="Work") ⟨rfl,rfl,rfl⟩ hr (za (pq 1) (za (pq 2) ze)))))))),?_⟩;left;intro B hB;left;intro R hR;have s1:=(zf (o:=.lst []) hB).trans (zf (o:=.lst []) hR);have nBR:B≠R:=rn rh hR;have gB:=rq (o:=.lst []) (rh (H:=H) (a:=B) (o:=.lst [])) hR;have gR:upd (upd H B (.lst [])) R (.lst []) R=some (.lst []):=rh;have nR:=zI hR;generalize upd (upd H B (.lst [])) R (.lst [])=H1 at s1 gB gR ⊢;have nw:∀m∈[B,R],H m=none:=λm hm=>by
  simp only[au,bn,bR]at hm;rcases hm with rfl|rfl
  .exact hB
  .exact nR
 exists cut (λσ' H'=>∃v3 v4 v5 bv kv bs rs,σ'=[some (.str (Str.join "\n" rows)),some (.ref B),some (.ref R),v3,v4,v5]/\Same H H'/\H' B=some (.lst bv)/\H' R=some (.lst kv)/\rdF rows=some (bs,rs)/\Bts a H' (Off [B,R]) bv bs/\Kns a H' (Off [B,R]) kv rs) ?_ ?_
 .walk_at"d";exists⟨jW,iE2 _ _ (iA5 rfl rfl (by symm) (zbt r100 rf) (λq hq=>?_))⟩;rw[Xt r0 rf];have s2:=zf (o:=.lst (rows.map V.str)) hq;have gq:upd H1 q (.lst (rows.map V.str)) q=some (.lst (rows.map V.str)):=rh;have nq:q∉[B,R]:=λz=>by
   simp only[au,bn,bR]at z;rcases z with rfl|rfl
   .rw[gB]at hq;cases hq
   .rw[gR]at hq;cases hq
  have gB2:=s2 _ _ gB;have gR2:=s2 _ _ gR;generalize upd H1 q _=H2 at s2 gq gB2 gR2 ⊢;refine iE2 q _ (iA3 rfl gq ?_);refine Vz (K:=K) (a:=q) (xs:=rows.map V.str) (λi σ' H'=>∃v3 v4 v5 bv kv bs rs,σ'=[some (.str (Str.join "\n" rows)),some (.ref B),some (.ref R),v3,v4,v5]/\Fr [B,R] H2 H'/\H' B=some (.lst bv)/\H' R=some (.lst kv)/\rdF (rows.take i)=some (bs,rs)/\Bts a H' (Off [B,R]) bv bs/\Kns a H' (Off [B,R]) kv rs)
   ⟨_,_,_,[],[],[],[],rfl,Fr.refl,gB2,gR2,rfl,.nil,.nil⟩ (λi σ H' _ h=>by let⟨_,_,_,_,_,_,_,_,fr,_⟩:=h;exact SqL.of (fr _ _ nq gq)) ?_ ?_
  .intro i x t σ' H3 hi ht pR;refine oE7 pR λv3 v4 v5 bv kv bs rs p9=>oA7 p9 λpQ f3 gB3 gR3 hrd hb3 hk3=>?_;ext;rw[ap,aB]at hi;let⟨ln,hln,rfl⟩:=hi;have il:=(aa.mp hln).1;have lm:=rf ln (ai hln);have off3:∀{b:Addr},H3 b=none->b∉[B,R]:=λ{b} hb z=>by
    simp only[au,bn,bR]at z;rcases z with rfl|rfl
    .rw[gB3]at hb;cases hb
    .rw[gR3]at hb;cases hb
   have s4:=zf (o:=.tup [.int i,.str ln]) ht;refine un2 rh ?_;generalize upd H3 t (.tup [.int i,.str ln])=H4 at s4 ⊢;left;have hsu:=zgh hln;rw[hrd]at hsu;have hne:rdF (rows.take i)≠none:=by rw[hrd];exactλz=>nomatch z
   have sH3:Same H H3:=((s1.trans s2).fr.trans f3).same nw;have bl:=zbA hrd;rw[aS]at bl;have raise:rdF (rows.take (i+1))=none->∀{H5:Hp},Same H H5->∀{e:Addr},H5 e=none->J1 a [.ref e,.int ((i:Int)+1)] (upd H5 e (wo e (.ref a.g))) (λv H2=>v=.non/\∃v',H2 e=some (wo e v')/\Wb v'=some a.g/\EX v' none (drop H2 e)) (λ_ _ _=>False):=λhb {H5} s5 {e} he=>by
    refine iE2 e (i+1) (iA4 rfl rh (by lia) (λD hD Dne=>⟨rfl,⟨_,iA3 rh rfl ?_⟩⟩));rw[zg8 he Dne];rw[rj Dne]at hD;exact kB i il hne hb D H5 s5 hD
   refine uc (zcm T).mono ⟨ln,iA4 rfl (by lia) (λp hp ok v' H5 s5 rp=>?_) (λhno H5 s5=>?_)⟩
   rotate_left
   .left;have hb:rdF (rows.take (i+1))=none:=by
     rw[hsu];unfold j6;cases e:Zn ln with
     |none=>rfl
     |some p =>
      cases p with
      |belt rm pc=>exact am λz=>hno _ e z.1
      |knot r=>exact am (hno _ e)
    refine iE2 (.ref a.k) _ (iA3 T.nA rfl (iE4 _ _ _ _ (iA4 rfl (.old .non) (.inl ⟨_,rfl,T.om⟩) ?_)));exists iE2 (.ref a.j) _ (iA3 T.nj rfl (iE4 _ _ _ _ (iA4 rfl (.old .non) (.inl ⟨_,rfl,T.oq⟩) ?_)));left;exact iE3 a.g _ _ ⟨(zb9 T).mono,λe he=>raise hb (sH3.trans (s4.trans s5)) he⟩
   .have s35:=s4.trans s5;have hsu:rdF (rows.take (i+1))=_:=hsu;unfold j6 at hsu;rw[hp]at hsu;cases p with
    |belt rm pc =>
     have hBt:BtP a H5 (New H4) v' (rm,pc):=rp;refine oE3 hBt.inv λyb dxb fb p9=>oA5 p9 λpQ pyb hyb f1 f2=>?_;clear p9;subst pQ;exists iE2 (.ref a.k) _ (iA3 T.nA rfl (iE4 _ _ _ _ (iA4 rfl (T.oV.ty T.iO hyb) (.inl ⟨_,rfl,T.nP⟩) ?_)));exists iE2 (.ref a.j) _ (iA3 T.nj rfl (iE4 _ _ _ _ (iA4 rfl (T.oV.ty T.iO hyb) (.inl ⟨_,rfl,T.nQ⟩) ?_)));exists⟨_,.inl ⟨_,SqL.of (s35 _ _ gR3),rfl⟩,?_⟩;rw[hk3.len];refine zR (λz=>?_) (λz=>?_)
     .have er:rs=[]:=dN.mp (by lia);simp only at hsu;rw[aq ⟨ok,er⟩]at hsu;exists⟨.inl ⟨rfl,_,SqL.of (s35 _ _ gB3)⟩,iE3 B bv _ (iA5 rfl rfl (s35 _ _ gB3) (zn (by rw[hb3.len];lia)) ?_)⟩;have f6:Fr [B,R] H5 (upd H5 B (.lst (bv++[.ref yb]))):=qW (by simp);have f36:=s35.fr.trans f6;refine iE7 _ _ _ (bv++[.ref yb]) kv _ _ (iA7 rfl (f3.trans f36) rh (by rw[rj nBR.symm];exact s35 _ _ gR3) hsu ?_ (hk3.keep λb o hp hb=>⟨hp,f36 _ _ hp hb⟩));exact Bts.push (hb3.keep λb o hp hb=>⟨hp,f36 _ _ hp hb⟩) (hBt.keep λb o hp hb=>⟨off3 (zM s4 hp),f6 _ _ (off3 (zM s4 hp)) hb⟩)
     .simp only at hsu;rw[am (λy=>z (by rw[y.2];rfl))]at hsu;left;exact iE3 a.g _ _ ⟨(zb9 T).mono,λe he=>raise hsu (sH3.trans s35) he⟩
    |knot r =>
     have hKn:KnP a H5 (New H4) v' r:=rp;refine oE6 hKn.inv λyk dxk m1 m2 m3 fk p9=>oA7 p9 λpQ _ _ _ _ hyk _=>?_;clear p9;subst pQ;simp only at hsu;rw[aq (show r.ok from ok)]at hsu;exists iE2 (.ref a.k) _ (iA3 T.nA rfl (iE4 _ _ _ _ (iA4 rfl ((WT T _).ty (CT T _) hyk) (.inl ⟨_,rfl,KT T _⟩) ?_)));exists⟨.inl ⟨rfl,_,SqL.of (s35 _ _ gR3)⟩,iE3 R kv _ (iA5 rfl rfl (s35 _ _ gR3) (zn (by rw[hk3.len];lia)) ?_)⟩;have f6:Fr [B,R] H5 (upd H5 R (.lst (kv++[.ref yk]))):=qW (by simp);have f36:=s35.fr.trans f6;refine iE7 _ _ _ bv (kv++[.ref yk]) _ _ (iA7 rfl (f3.trans f36) (by rw[rj nBR];exact s35 _ _ gB3) rh hsu (hb3.keep λb o hp hb=>⟨hp,f36 _ _ hp hb⟩) ?_);exact Kns.append (hk3.keep λb o hp hb=>⟨hp,f36 _ _ hp hb⟩) (Kns.one (hKn.keep λb o hp hb=>⟨off3 (zM s4 hp),f6 _ _ (off3 (zM s4 hp)) hb⟩))
  .intro σ' H3 pR;refine oE7 pR λv3 v4 v5 bv kv bs rs p9=>oA7 p9 λpQ f3 gB3 gR3 hrd hb3 hk3=>?_;ext;rw[af,aV]at hrd;exact iE7 _ _ _ bv kv bs rs (iA7 rfl (((s1.trans s2).fr.trans f3).same nw) gB3 gR3 hrd hb3 hk3)
 intro σ' H3 pR;refine oE7 pR λv3 v4 v5 bv kv bs rs p9=>oA7 p9 λpQ s3 gB3 gR3 hrd hb3 hk3=>?_;ext;refine oA4 (kW bs rs hrd) λlf lt kO kE=>?_;let⟨bo,ro,le⟩:=zbA hrd;exists iE4 a.r _ _ _ ⟨(zjM T).mono,?_⟩;intro y dy hy hdy hne;refine⟨y,dy,B,R,bv,kv,bs,rs,λb=>b≠y,rfl,rh,rn gB3 hy,rn gR3 hy,λ_ h=>h,qy hy hdy gB3,qy hy hdy gR3,
  hb3.keep λb o _ hb=>⟨rn hb hy,qy hy hdy hb⟩,hk3.keep λb o _ hb=>⟨rn hb hy,qy hy hdy hb⟩,bo,ro,lf,lt,by lia,λpU H4 m1 m2 bv kv o4 g0 g1 g2 gB gK n1 n2=>⟨rfl,?_⟩,λz H4 s4=>kE z H4 (s3.trans ((xo hy hdy).trans s4))⟩
 refine kO pU _ _ (s3.trans (Own.of_new hy hdy o4)) ?_;rw[zj9]at g0;exact wF (λz=>nomatch z) g0 rfl (.cons (gB.reps.all.mk' (λz=>nomatch z) g1) (.cons (gK.reps.all.mk' (λz=>nomatch z) g2) .nil))
def Told(H:Hp)(v:V)(r:Option Ap):Prop:=match r with
 |none=>v=.non
 |some xs=>∃p,v=.ref p/\H p=some (.tup xs)
def Told.same{H H':Hp}{r:Option Ap}(h:Told H v r)(s:Same H H'):Told H' v r:=by
 cases r with
 |none=>exact h
 |some xs=>exact let⟨p,e,hp⟩:=h;⟨p,e,s _ _ hp⟩
noncomputable def VT(side:V)(p:Int)(t:Int)(b:Bool):Option Ap:=if b=true/\t%p=0 then some [.non,.int 0,side]else none
def JV(K:A0)(C:Addr):Sp:=λvs H Q _=>∃(y dx l1 l2 l3 fl:Addr)(p t:Int)(hs side:V)(b:Bool)(bs:Ap),vs=[.ref y,hs,.ref fl,.int t,side]/\H y=some (.ins C dx (sf l1 l2 p l3))/\1<=p /\
 SqL K H fl (.bl b::bs)/\∀v H',Same H H'->Told H' v (VT side p t b)->Q v H'
theorem Jm(T:Txt K mg a):MCal P w K mg base a.l "choice" 1 ["self","heads","free","turn","side"] [] (JV K a.l):=T.lH.cal T.iA λF=>by
 refine F.okx Qs ?_ ?_
 .walk_at"i"
 walk_at"k";refine oE8 h λy dx l1 l2 l3 fl p t p9=>oE4 p9 λhs side b bs pQ=>oA5 pQ λpX hy p1 hf k=>?_;clear p9 pQ h;subst pX;unfold VT at k;walk_at"T";refine⟨_,(zl (zH (PW.pt (pw_or (jA (qp (zv (pq 2) zh) (λ_=>rfl))) (pw_or1 (zo (zbJ hr.units1) (zG ju (pq 3) (zr (pq 0) rfl)) zh (zu _)))))  (zg (zk zA))  zp)  (zg (zk (qV (za zA (za zh (za (pq 4) ze))))))),?_⟩;exists zw hf at0 ?_;left;cases b with
 |false =>
  rw[am (by simp)]at k;left;exact k _ _ (Same.refl _) rfl
 |true =>
  exists ra hy T.iA T.iI zhF ?_;exists zR (λh=>?_) (λh=>?_)
  .rw[am (λz=>h z.2)]at k;left;exact k _ _ (Same.refl _) rfl
  .rw[aq ⟨rfl,gN h⟩]at k;left;intro q hq;exact k _ _ (zf hq) ⟨q,rfl,rh⟩
noncomputable def zdz(side:V)(p:Int)(t:Int)(hd:V):Option Ap:=if p=0\/hd=.non\/t%p≠0 then none else some [.int 0,.non,side]
def Wl(K:A0)(C:Addr):Sp:=λvs H Q _=>∃(y dx l1 l2 hl:Addr)(p t:Int)(fr side:V)(hd:V)(hs:Ap),vs=[.ref y,.ref hl,fr,.int t,side]/\H y=some (.ins C dx (df l1 l2 p))/\0<=p/\p<=4 /\
 SqL K H hl (hd::hs)/\∀v H',Same H H'->Told H' v (zdz side p t hd)->Q v H'
def XX(T:Txt K mg a):MCal P w K mg base a.m "choice" 1 ["self","heads","free","turn","side"] [] (Wl K a.m):=T.l5.cal T.iG λF=>by
 refine F.okx Jk ?_ ?_
 .walk_at"i"
 walk_at"k";refine oE8 h λy dx l1 l2 hl p t fr p9=>oE3 p9 λside hd hs pQ=>oA6 pQ λpX hy p0 p4 hh k=>?_;clear p9 pQ h;subst pX;unfold zdz at k;walk_at"T";refine⟨_,(zl (zH (zo (qT hr.units1) (zr (pq 0) rfl) zh (zu _))  (zg (zk zA))  zp)  (zl (zH (PW.pt (pw_or (zo qH (zv (pq 1) zh) zA (zu _)) (pw_or1 (zo (zbJ hr.units1) (zG ju (pq 3) (zr (pq 0) rfl)) zh (zu _)))))  (zg (zk zA))  zp)  (zg (zk (qV (za zh (za zA (za (pq 4) ze)))))))),?_⟩;exists ra hy T.iG T.iD zaL ?_;exists zR (λh1=>?_) (λh1=>?_)
 .rw[aq (.inl h1)]at k;left;exact k _ _ (Same.refl _) rfl
 .exists zw hh at0 ?_;exists zR (λh2=>?_) (λh2=>?_)
  .rw[aq (.inr (.inl h2))]at k;left;exact k _ _ (Same.refl _) rfl
  .exists ra hy T.iG T.iD zaL ?_;exists And.intro (by lia) ?_;refine zR (λh3=>?_) (λh3=>?_)
   .rw[aq (.inr (.inr h3))]at k;left;exact k _ _ (Same.refl _) rfl
   .rw[am (λz=>z.elim h1 λz=>z.elim h2 h3)]at k;left;intro q hq;exact k _ _ (zf hq) ⟨q,rfl,rh⟩
noncomputable def ziO(n:Nat)(p:Option Nat):Option Ap:=p.map λ(p:Nat)=>[.int 0,.int p,.int ((p+1)%n:Nat)]
def JW(K:A0)(C:Addr):Sp:=λvs H Q _=>∃(y dx l1 l2 hl fl:Addr)(turn:V)(side:Nat)(hd:V)(hs outs:Ap)(bs:Ai),vs=[.ref y,.ref hl,.ref fl,turn,.int side]/\H y=some (.ins C dx (kf l1 l2))/\H l2=some (.lst outs) /\
 SqL K H hl (hd::hs)/\SqL K H fl (bs.map V.bl)/\bs.length=outs.length/\bs.length<=1000 /\
 ∀v H',Same H H'->Told H' v (if hd=.non then none else ziO bs.length (jG bs side))->Q v H'
theorem Jo(T:Txt K mg a):MCal P w K mg base a.n "choice" 3 ["self","heads","free","turn","side"] [] (JW K a.n):=T.lJ.cal T.iK λF=>by
 refine F.okx Qu ?_ ?_
 .walk_at"i"
 walk_at"k";refine oE8 h λy dx l1 l2 hl fl turn side p9=>oE4 p9 λhd hs outs bs pQ=>oA8 pQ λpX hy h2 hh hf hbl hb k=>?_;clear p9 pQ h;subst pX;walk_at"T";refine⟨_,(zl (zt 5 Qu.nd ‹(zv (pq 1) zh) (za (pq 2) (za (pq 4) ze))›)  (zl (zH (zo qH (pq 5) zA (zu _))  (zg (zk zA))  zp)  (zg (zk (qV (za zh (za (pq 5) (za (zG ju (zG zK (pq 5) zh) (zS qa z9 (za (zr (pq 0) rfl) ze))) ze)))))))),?_⟩;exists iE3 _ _ _ ⟨wp T,zw hh at0 (iE4 hd fl bs side (iA4 rfl hf hb ?_))⟩;by_cases hn:hd=.non
 .rw[aq hn]at k ⊢;left;exact k _ _ (Same.refl _) rfl
 .rw[am hn]at k ⊢;cases hp:jG bs side with
  |none =>
   rw[hp]at k;simp only[Zh];left;exact k _ _ (Same.refl _) rfl
  |some p =>
   rw[hp]at k;simp only[Zh];have hlt:=wn hp;exists ra hy T.iK T.iJ zh9 ⟨_,.inl ⟨_,SqL.of h2,rfl⟩,?_⟩;left;rw[<- hbl];refine And.intro (by lia) ?_;left;intro q hq;have e:((p:Int)+1)%(bs.length:Int)=(((p+1)%bs.length:Nat):Int):=by push_cast;rfl
   rw[e];exact k _ _ (zf hq) ⟨q,rfl,rh⟩
noncomputable def zg5(side:V)(p:Option Nat):Option Ap:=p.map λ(p:Nat)=>[.int 0,.int p,side]
def Wk(K:A0):Sp:=λvs H Q _=>∃(y hl fl:Addr)(turn side:V)(hd:V)(hs:Ap)(bs:Ai),vs=[.ref y,.ref hl,.ref fl,turn,side] /\
 SqL K H hl (hd::hs)/\SqL K H fl (bs.map V.bl)/\bs.length<=1000/\∀v H',Same H H'->Told H' v (if hd=.non then none else zg5 side (jG bs 0))->Q v H'
theorem vO(T:Txt K mg a):MCal P w K mg base a.o "choice" 3 ["self","heads","free","turn","side"] [] (Wk K):=T.kq.cal T.iz λF=>by
 refine F.okx vd ?_ ?_
 .walk_at"i"
 walk_at"k";refine oE8 h λy hl fl turn side hd hs bs p9=>oA5 p9 λpQ hh hf hb k=>?_;clear p9 h;subst pQ;walk_at"T";refine⟨_,(zl (zt 5 vd.nd ‹(zv (pq 1) zh) (za (pq 2) (za zh ze))›)  (zl (zH (zo qH (pq 5) zA (zu _))  (zg (zk zA))  zp)  (zg (zk (qV (za zh (za (pq 5) (za (pq 4) ze)))))))),?_⟩;exists iE3 _ _ _ ⟨wp T,zw hh at0 (iE4 hd fl bs 0 (iA4 rfl hf hb ?_))⟩;by_cases hn:hd=.non
 .rw[aq hn]at k ⊢;left;exact k _ _ (Same.refl _) rfl
 .rw[am hn]at k ⊢;cases hp:jG bs 0 with
  |none =>
   rw[hp]at k;simp only[Zh];left;exact k _ _ (Same.refl _) rfl
  |some p =>
   rw[hp]at k;simp only[Zh];left;intro q hq;exact k _ _ (zf hq) ⟨q,rfl,rh⟩
def zhy(C:Addr):Sp:=λvs H Q _=>∃(y dx l1 l2:Addr)(n j:Int),vs=[.ref y,.int j]/\H y=some (.ins C dx (vf l1 l2 n))/\Q (.int (if j=n then 0 else 1)) H
def Zo(T:Txt K mg a):MCal P w K mg base a.p "place_for" 1 ["self","kind"] [] (zhy a.p):=T.kU.cal T.iB λF=>by
 refine F.okx ZA ?_ ?_
 .walk_at"i"
 walk_at"k";refine oE6 h λy dx l1 l2 n j p9=>oA3 p9 λpQ hy k=>?_;clear p9 h;subst pQ;walk_at"T";refine⟨_,(zg (zk (jE (zo (qT hr.units1) (pq 1) (zr (pq 0) rfl) (zu _)) zh zh))),?_⟩;exists ra hy T.iB T.i7 zhs ?_;exists zR (λh=>?_) (λh=>?_)
 .rw[aq h]at k;left;exact k
 .rw[am h]at k;left;exact k
noncomputable def zcI(side:V)(n:Int)(bs:Ai)(hd:V):Option Ap:=if hd=.non then none else if bs.getD (if hd=.int n then 0 else 1) false=true then some [.int 0,.int (if hd=.int n then 0 else 1),side]else none
def Wj(K:A0)(C:Addr):Sp:=λvs H Q _=>∃(y dx l1 l2 hl fl:Addr)(n:Int)(turn side:V)(hd:V)(hs:Ap)(bs:Ai),vs=[.ref y,.ref hl,.ref fl,turn,side]/\H y=some (.ins C dx (vf l1 l2 n)) /\
 SqL K H hl (hd::hs)/\(hd=.non\/∃j,hd=.int j)/\SqL K H fl (bs.map V.bl)/\bs.length=2/\∀v H',Same H H'->Told H' v (zcI side n bs hd)->Q v H'
theorem XV(T:Txt K mg a):MCal P w K mg base a.p "choice" 2 ["self","heads","free","turn","side"] [] (Wj K a.p):=T.l9.cal T.iB λF=>by
 refine F.okx Ji ?_ ?_
 .walk_at"i"
 walk_at"k";refine oE8 h λy dx l1 l2 hl fl n turn p9=>oE4 p9 λside hd hs bs pQ=>oA7 pQ λpX hy hh hhd hf hb k=>?_;clear p9 pQ h;subst pX;walk_at"T";refine⟨_,(zl (zH (zo qH (zv (pq 1) zh) zA (zu _))  (zg (zk zA))  zp)  (zl (zt 5 Ji.nd (zao ⟨rfl,rfl,rfl⟩ hr (pq 0) (za (zv (pq 1) zh) ze)))  (zl (zH (jA (qp (zv (pq 2) (pq 5)) (λ_=>rfl)))  (zg (zk zA))  zp)  (zg (zk (qV (za zh (za (pq 5) (za (pq 4) ze))))))))),?_⟩;exists zw hh at0 ?_;rcases hhd with rfl|⟨j,rfl⟩
 .left;exact k _ _ (Same.refl _) rfl
 .exists iE7 y a.p dx _ _ _ _ (iA5 rfl hy (ziB (by symm) (by symm) (by symm)) (Zo T) (zw hh at0 (iE6 y dx l1 l2 n j (iA3 rfl hy ?_))));left;let⟨pp,hpp,hp2⟩:∃pp:Nat,(if j=n then(0:Int)else 1)=pp/\pp<2:=by split;exact⟨0,rfl,by decide⟩;exact⟨1,rfl,by decide⟩
  have e1:(if V.int j=V.int n then(0:Nat)else 1)=pp:=by
   by_cases h:j=n
   .rw[aq h]at hpp;rw[aq (by rw[h])];lia
   .rw[am h]at hpp;rw[am (λz=>h (by cases z;rfl))];lia
  have e2:(if V.int j=V.int n then(0:Int)else 1)=pp:=by
   by_cases h:j=n
   .rw[aq h]at hpp;rw[aq (by rw[h])];lia
   .rw[am h]at hpp;rw[am (λz=>h (by cases z;rfl))];lia
  rw[hpp];have hlt:pp<bs.length:=by lia
  refine zw hf (zJ (by rw[ap,ac hlt];rfl)) ?_;have eg:bs.getD pp false=bs[pp]:=by simp[hlt]
  unfold zcI at k;rw[am (by intro z;cases z),e1,e2,eg]at k;left;cases hbb:bs[pp]with
  |true =>
   rw[hbb,aq rfl]at k;left;intro q hq;exact k _ _ (zf hq) ⟨q,rfl,rh⟩
  |false =>
   rw[hbb,am (by decide)]at k;left;exact k _ _ (Same.refl _) rfl
noncomputable def ziT(n:Nat)(p:Option Nat):Option Ap:=p.map λ(p:Nat)=>[.int p,.int 0,.int ((p+1)%n:Nat)]
noncomputable def there(hs:Ap):List Bool:=hs.map λh=>!decide (h=.non)
def JY(K:A0)(C:Addr):Sp:=λvs H Q _=>∃(y dx l1 l2 hl fl:Addr)(turn:V)(side:Nat)(hs ins:Ap)(b:Bool)(bs:Ap),vs=[.ref y,.ref hl,.ref fl,turn,.int side]/\H y=some (.ins C dx (kf l1 l2))/\H l1=some (.lst ins) /\
 SqL K H hl hs/\SqL K H fl (.bl b::bs)/\hs.length=ins.length/\hs.length<=900/\∀v H',Same H H'->Told H' v (if b=true then ziT hs.length (jG (there hs) side)else none)->Q v H'
theorem Jq(T:Txt K mg a):MCal P w K mg base a.q "choice" 2 ["self","heads","free","turn","side"] [] (JY K a.q):=T.lM.cal T.iL λF=>by
 refine F.okx Qw ?_ ?_
 .walk_at"i"
 walk_at"k";refine oE8 h λy dx l1 l2 hl fl turn side p9=>oE4 p9 λhs ins b bs pQ=>oA8 pQ λpX hy h1 hh hf hlen hb k=>?_;clear p9 pQ h;subst pX;walk_at"T";refine⟨_,(zl (zH (jA (qp (zv (pq 2) zh) (λ_=>rfl)))  (zg (zk zA))  zp)  (zl (zt 5 Qw.nd ‹(jJ (vars:=["head"]) (caps:=[]) (N:=["head"]) (ON:=["self","heads","free","turn","side","place"]) (osc:=zi jY) rfl rfl (by right) rfl rfl (qj (pq 1)) (λ_ _ _ _=>(qq 0 (show(["head"]:A8).Nodup from by symm))) (λ_ _ _ _=>qg) (λ_ _ _ _=>(xa op_notN (pq 0) zA (zu _)))) (za (pq 4) ze)›)  (zl (zH (zo qH (pq 5) zA (zu _))  (zg (zk zA))  zp)  (zg (zk (qV (za (pq 5) (za zh (za (zG ju (zG zK (pq 5) zh) (zS qa z9 (za (zr (pq 0) rfl) ze))) ze))))))))),?_⟩;exists zw hf at0 ?_;left;cases b with
 |false =>
  rw[am (by decide)]at k;left;exact k _ _ (Same.refl _) rfl
 |true =>
  rw[aq rfl]at k;exists iE3 _ _ _ ⟨Zu T,?_⟩;walk_at"c";exists⟨hl,rfl,.inl ⟨⟨_,hh⟩,λ_ _ _ _ pV hacc=>?_⟩⟩;refine qL (K:=K) (a:=hl) (xs:=hs) (λi σ H'=>∃(v:Aq),σ=[v]/\Same H H'/\H' pV=some (.lst ((there (hs.take i)).map V.bl))) ⟨_,iA3 rfl (zf hacc) rh⟩ (λi σ H' _ ⟨_,_,s,_⟩=>s.seq hh) ?_ ?_
  .intro i x σ H' hi pR;refine oE1 pR λv p9=>oA3 p9 λpQ s ha=>?_;ext;exists⟨_,iA3 ha ?_ ⟨_,iA3 rfl ?_ ?_⟩⟩
   .simp only[there,af,aS];exact zn (by lia)
   .intro b o hb;rw[rj (rn hb hacc)];exact s b o hb
   .rw[rh,hW,hi];simp[there]
  .intro σ H' pR;refine oE1 pR λv p9=>oA3 p9 λpQ s ha=>?_;ext;rw[aV]at ha;refine iE3 pV (there hs) side (iA4 rfl (SqL.of ha) (by simp[there];lia) ?_);have hlt:(there hs).length=hs.length:=by simp[there]
   cases hp:jG (there hs) side with
   |none =>
    rw[hp]at k;simp only[Zh];left;exact k _ _ s rfl
   |some p =>
    rw[hp]at k;simp only[Zh];have hlt':=wn hp;exists ra (s _ _ hy) T.iL T.iQ zjH ⟨_,.inl ⟨_,SqL.of (s _ _ h1),rfl⟩,?_⟩;left;rw[<- hlen];refine And.intro (by lia) ?_;left;intro q hq;have e:((p:Int)+1)%(hs.length:Int)=(((p+1)%hs.length:Nat):Int):=by push_cast;rfl
    rw[e];exact k _ _ (s.trans (zf hq)) ⟨q,rfl,rh⟩
def MCal.imp{C:Addr}{m:Str}{ps:A8}{dvs:Ap}{sp sp':Sp}(c:MCal P w K mg base C m k ps dvs sp)(h:∀vs H Q E,sp' vs H Q E->sp vs H Q E):MCal P w K mg base C m k ps dvs sp' :=
 let⟨f,fd,ds,x,y⟩:=c.ex;⟨c.cl,f,fd,ds,x.imp h,y⟩
def zaI{k:Str}{ks:A8}(n:fs.map (·.1)=k::ks):∃v gs,fs=(k,v)::gs/\gs.map (·.1)=ks:=by
 cases fs with
 |nil=>cases n
 |cons x gs =>
  let⟨k',v⟩:=x;injection n with n1 n2
  exact⟨v,gs,by rw[<- n1],n2⟩
def zjT(n:fs.map (·.1)=[]):fs=[]:=List.map_eq_nil_iff.mp n
def fs2{k1 k2:Str}{d1 d2:D}(n:fs.map (·.1)=[k1,k2])(g:∀(i:Nat) f g,fs[i]?=some f->[(k1,d1),(k2,d2)][i]?=some g->Rep H p f.2 g.2):∃v1 v2,fs=[(k1,v1),(k2,v2)]/\Rep H p v1 d1/\Rep H p v2 d2:=by
 let⟨v1,f1,rfl,n1⟩:=zaI n;let⟨v2,f2,rfl,n2⟩:=zaI n1;obtain rfl:=zjT n2;exact⟨v1,v2,rfl,g 0 _ _ rfl rfl,g 1 _ _ rfl rfl⟩
section
variable{H:Hp}{p:A5}{y:Addr}{ins outs kinds:A6}{pace:Int}
def KnP.parter(h:KnP a H p (.ref y) ⟨.parter,ins,outs,pace,kinds⟩):∃dx l1 l2,H y=some (.ins a.n dx (kf l1 l2))/\H l2=some (.lst (iv outs)):=by
 cases h with|ob _ hy n g =>
  let⟨v1,v2,rfl,r1,r2⟩:=fs2 n g;let⟨l1,rfl,_,_⟩:=r1.ints';let⟨l2,rfl,_,h2⟩:=r2.ints';exact⟨_,l1,l2,by rw[XZ];exact hy,h2⟩
end
def fs3{k1 k2 k3:Str}{d1 d2 d3:D}(n:fs.map (·.1)=[k1,k2,k3])(g:∀(i:Nat) f g,fs[i]?=some f->[(k1,d1),(k2,d2),(k3,d3)][i]?=some g->Rep H p f.2 g.2):∃v1 v2 v3,fs=[(k1,v1),(k2,v2),(k3,v3)]/\Rep H p v1 d1/\Rep H p v2 d2/\Rep H p v3 d3:=by
 let⟨v1,f1,rfl,n1⟩:=zaI n;let⟨v2,f2,rfl,n2⟩:=zaI n1;let⟨v3,f3,rfl,n3⟩:=zaI n2;obtain rfl:=zjT n3;exact⟨v1,v2,v3,rfl,g 0 _ _ rfl rfl,g 1 _ _ rfl rfl,g 2 _ _ rfl rfl⟩
def fs4{k1 k2 k3 k4:Str}{d1 d2 d3 d4:D}(n:fs.map (·.1)=[k1,k2,k3,k4])(g:∀(i:Nat) f g,fs[i]?=some f->[(k1,d1),(k2,d2),(k3,d3),(k4,d4)][i]?=some g->Rep H p f.2 g.2):∃v1 v2 v3 v4,fs=[(k1,v1),(k2,v2),(k3,v3),(k4,v4)]/\Rep H p v1 d1/\Rep H p v2 d2/\Rep H p v3 d3/\Rep H p v4 d4:=by
 let⟨v1,f1,rfl,n1⟩:=zaI n;let⟨v2,f2,rfl,n2⟩:=zaI n1;let⟨v3,f3,rfl,n3⟩:=zaI n2;let⟨v4,f4,rfl,n4⟩:=zaI n3;obtain rfl:=zjT n4;exact⟨v1,v2,v3,v4,rfl,g 0 _ _ rfl rfl,g 1 _ _ rfl rfl,g 2 _ _ rfl rfl,g 3 _ _ rfl rfl⟩
section
variable{H:Hp}{p:A5}{y:Addr}{ins outs kinds:A6}{pace:Int}
def KnP.source(h:KnP a H p (.ref y) ⟨.source,ins,outs,pace,kinds⟩):∃dx l1 l2 l3,H y=some (.ins a.l dx (sf l1 l2 pace l3)):=by
 cases h with|ob _ hy n g =>
  let⟨v1,v2,v3,v4,rfl,r1,r2,r3,r4⟩:=fs4 n g;let⟨l1,rfl,_,_⟩:=r1.ints';let⟨l2,rfl,_,_⟩:=r2.ints';cases r3;let⟨l4,rfl,_,_⟩:=r4.ints';exact⟨_,l1,l2,l4,by rw[ziJ];exact hy⟩
def KnP.drain(h:KnP a H p (.ref y) ⟨.drain,ins,outs,pace,kinds⟩):∃dx l1 l2,H y=some (.ins a.m dx (df l1 l2 pace)):=by
 cases h with|ob _ hy n g =>
  let⟨v1,v2,v3,rfl,r1,r2,r3⟩:=fs3 n g;let⟨l1,rfl,_,_⟩:=r1.ints';let⟨l2,rfl,_,_⟩:=r2.ints';cases r3;exact⟨_,l1,l2,by rw[zg9];exact hy⟩
def KnP.sieve{k:Int}(h:KnP a H p (.ref y) ⟨.sieve,ins,outs,pace,[k]⟩):∃dx l1 l2,H y=some (.ins a.p dx (vf l1 l2 k)):=by
 cases h with|ob _ hy n g =>
  let⟨v1,v2,v3,rfl,r1,r2,r3⟩:=fs3 n g;let⟨l1,rfl,_,_⟩:=r1.ints';let⟨l2,rfl,_,_⟩:=r2.ints';cases r3;exact⟨_,l1,l2,by rw[ziC];exact hy⟩
def KnP.joiner(h:KnP a H p (.ref y) ⟨.joiner,ins,outs,pace,kinds⟩):∃dx l1 l2,H y=some (.ins a.q dx (kf l1 l2))/\H l1=some (.lst (iv ins)):=by
 cases h with|ob _ hy n g =>
  let⟨v1,v2,rfl,r1,r2⟩:=fs2 n g;let⟨l1,rfl,_,h1⟩:=r1.ints';let⟨l2,rfl,_,_⟩:=r2.ints';exact⟨_,l1,l2,by rw[XZ];exact hy,h1⟩
end
noncomputable def hdV:Option Int->V
 |none=>.non
 |some k=>.int k
noncomputable def qb(r:Row)(hs:List A9)(bs:Ai)(t:Int)(side:Nat):Option Ak:=match r.wd with
 | .source=>if bs.getD 0 false=true/\t%r.pace=0 then some (none,some 0,side)else none
 | .drain=>if r.pace=0\/hs.getD 0 none=none\/t%r.pace≠0 then none else some (some 0,none,side)
 | .parter=>if hs.getD 0 none=none then none else(jG bs side).map λp=>(some 0,some p,(p+1)%bs.length)
 | .first=>if hs.getD 0 none=none then none else(jG bs 0).map λp=>(some 0,some p,side)
 | .sieve=>if hs.getD 0 none=none then none else if bs.getD (if hs.getD 0 none=some (r.kinds.headD 0)then 0 else 1) false=true then some (some 0,some (if hs.getD 0 none=some (r.kinds.headD 0)then 0 else 1),side)else none
 | .joiner=>if bs.getD 0 false=true then(jG (hs.map Option.isSome) side).map λp=>(some p,some 0,(p+1)%hs.length)else none
noncomputable def chV(x:Ak):List V:=[Zh x.1,Zh x.2.1,.int (x.2.2:Nat)]
def zf4(K:A0)(a:Ad)(wd:Wd):Sp:=λvs H Q _=>∃(y hl fl:Addr)(r:Row)(p:A5)(hs:List A9)(bs:Ai)(t:Int)(side:Nat),vs=[.ref y,.ref hl,.ref fl,.int t,.int side]/\KnP a H p (.ref y) r/\r.wd=wd/\r.ok /\
 H hl=some (.lst (hs.map hdV))/\H fl=some (.lst (bs.map V.bl))/\hs.length=r.ins.length/\bs.length=r.outs.length/\∀v H',Same H H'->Told H' v ((qb r hs bs t side).map chV)->Q v H'
def JI{x:A9}:(hdV x=.non)=(x=none):=by
 cases x<;>simp[hdV]
def zfR(hs:List A9):there (hs.map hdV)=hs.map Option.isSome:=by
 simp only[there,eR]
 congr 1
 funext x
 cases x<;>simp[hdV]
def zgG(T:Txt K mg a)(wd:Wd):MCal P w K mg base (x6 a wd) "choice" 3 ["self","heads","free","turn","side"] [] (zf4 K a wd):=by
 cases wd with
 |source =>
  refine MCal.imp (Jm T).mono λvs H Q E h=>?_;let⟨y,hl,fl,⟨wd,ins,outs,pace,kinds⟩,p,hs,bs,t,side,rfl,hK,hw,ok,hh,hf,l1,l2,k⟩:=h;simp only at hw;subst hw;let⟨dx,m1,m2,m3,hy⟩:=hK.source;let⟨_,⟨o,eo⟩,p1,_⟩:=ok;simp only at eo p1 l2;subst eo
  match bs,l2 with
  |[b],_ =>
   refine⟨y,dx,m1,m2,m3,fl,pace,t,_,_,b,[],rfl,hy,p1,SqL.of hf,λv H' s ht=>k v H' s ?_⟩;unfold VT at ht;simp only[qb];by_cases hc:b=true/\t%pace=0
   .rw[aq hc]at ht;rw[aq (by simpa using hc)];exact ht
   .rw[am hc]at ht;rw[am (by simpa using hc)];exact ht
 |drain =>
  refine MCal.imp (XX T).mono λvs H Q E h=>?_;let⟨y,hl,fl,⟨wd,ins,outs,pace,kinds⟩,p,hs,bs,t,side,rfl,hK,hw,ok,hh,hf,l1,l2,k⟩:=h;simp only at hw;subst hw;let⟨dx,m1,m2,hy⟩:=hK.drain;let⟨⟨o,eo⟩,_,p1,p4⟩:=ok;simp only at eo p1 p4 l1;subst eo
  match hs,l1 with
  |[hd],_ =>
   refine⟨y,dx,m1,m2,hl,pace,t,_,_,hdV hd,[],rfl,hy,p1,p4,SqL.of hh,λv H' s ht=>k v H' s ?_⟩;unfold zdz at ht;simp only[JI]at ht;simp only[qb];by_cases hc:pace=0\/hd=none\/t%pace≠0
   .rw[aq hc]at ht;rw[aq (by simpa using hc)];exact ht
   .rw[am hc]at ht;rw[am (by simpa using hc)];exact ht
 |parter =>
  refine MCal.imp (Jo T).mono λvs H Q E h=>?_;let⟨y,hl,fl,⟨wd,ins,outs,pace,kinds⟩,p,hs,bs,t,side,rfl,hK,hw,ok,hh,hf,l1,l2,k⟩:=h;simp only at hw;subst hw;let⟨dx,m1,m2,hy,h2⟩:=hK.parter;let⟨⟨o,eo⟩,q1,q2⟩:=ok;simp only at eo l1 l2 q1 q2;subst eo
  match hs,l1 with
  |[hd],_ =>
   refine⟨y,dx,m1,m2,hl,fl,_,side,hdV hd,[],iv outs,bs,rfl,hy,h2,SqL.of hh,SqL.of hf,by rw[zP];exact l2,by lia,λv H' s ht=>k v H' s ?_⟩;simp only[JI]at ht;simp only[qb];by_cases hc:hd=none
   .rw[aq hc]at ht;rw[aq (by simpa using hc)];exact ht
   .rw[am hc]at ht;rw[am (by simpa using hc)];unfold ziO at ht;rw[fz];exact ht
 |first =>
  refine MCal.imp (vO T).mono λvs H Q E h=>?_;let⟨y,hl,fl,⟨wd,ins,outs,pace,kinds⟩,p,hs,bs,t,side,rfl,hK,hw,ok,hh,hf,l1,l2,k⟩:=h;simp only at hw;subst hw;let⟨⟨o,eo⟩,q1,q2⟩:=ok;simp only at eo l1 l2 q1 q2;subst eo
  match hs,l1 with
  |[hd],_ =>
   refine⟨y,hl,fl,_,_,hdV hd,[],bs,rfl,SqL.of hh,SqL.of hf,by lia,λv H' s ht=>k v H' s ?_⟩;simp only[JI]at ht;simp only[qb];by_cases hc:hd=none
   .rw[aq hc]at ht;rw[aq (by simpa using hc)];exact ht
   .rw[am hc]at ht;rw[am (by simpa using hc)];unfold zg5 at ht;rw[fz];exact ht
 |sieve =>
  refine MCal.imp (XV T).mono λvs H Q E h=>?_;let⟨y,hl,fl,⟨wd,ins,outs,pace,kinds⟩,p,hs,bs,t,side,rfl,hK,hw,ok,hh,hf,l1,l2,k⟩:=h;simp only at hw;subst hw;let⟨⟨o,eo⟩,q1,kk,q2,_⟩:=ok;simp only at eo l1 l2 q1 q2;subst eo q2;let⟨dx,m1,m2,hy⟩:=hK.sieve
  match hs,l1 with
  |[hd],_ =>
   refine⟨y,dx,m1,m2,hl,fl,kk,_,_,hdV hd,[],bs,rfl,hy,SqL.of hh,by cases hd;exact .inl rfl;exact .inr ⟨_,rfl⟩,SqL.of hf,by lia,λv H' s ht=>k v H' s ?_⟩;unfold zcI at ht;simp only[JI]at ht;simp only[qb];by_cases hc:hd=none
   .rw[aq hc]at ht;rw[aq (by simpa using hc)];exact ht
   .rw[am hc]at ht;rw[am (by simpa using hc)];have e:(hdV hd=.int kk)=([hd].getD 0 none=some (List.headD [kk] 0)):=by
     cases hd with
     |none=>exact absurd rfl hc
     |some x=>simp[hdV]
    have e1:(if hdV hd=V.int kk then(0:Nat)else 1)=(if [hd].getD 0 none=some (List.headD [kk] 0)then 0 else 1):=by simp only[e]
    have e2:(if hdV hd=V.int kk then(0:Int)else 1)=((if [hd].getD 0 none=some (List.headD [kk] 0)then 0 else 1:Nat):Int):=by simp only[e];split<;>rfl
    rw[e1,e2]at ht;generalize (if [hd].getD 0 none=some (List.headD [kk] 0)then 0 else 1)=q at ht ⊢;by_cases hb:bs.getD q false=true
    .rw[aq hb]at ht ⊢;exact ht
    .rw[am hb]at ht ⊢;exact ht
 |joiner =>
  refine MCal.imp (Jq T).mono λvs H Q E h=>?_;let⟨y,hl,fl,⟨wd,ins,outs,pace,kinds⟩,p,hs,bs,t,side,rfl,hK,hw,ok,hh,hf,l1,l2,k⟩:=h;simp only at hw;subst hw;let⟨⟨o,eo⟩,q1,q2⟩:=ok;simp only at eo l1 l2 q1 q2;subst eo;let⟨dx,m1,m2,hy,h1⟩:=hK.joiner
  match bs,l2 with
  |[b],_ =>
   refine⟨y,dx,m1,m2,hl,fl,_,side,hs.map hdV,iv ins,b,[],rfl,hy,h1,SqL.of hh,SqL.of hf,by rw[af,zP];exact l1,by rw[af];lia,λv H' s ht=>k v H' s ?_⟩;rw[zfR,af]at ht;simp only[qb];by_cases hc:b=true
   .rw[aq hc]at ht;rw[aq (by simpa using hc)];unfold ziT at ht;rw[fz];exact ht
   .rw[am hc]at ht;rw[am (by simpa using hc)];exact ht
abbrev zT:=Option (Int×Int)
abbrev Av:=List zT
abbrev Au:=List Av
noncomputable def qz:zT->D
 |none=>.non
 |some (s,n)=>.tup [.int s,.int n]
def zfj(x:zT):Hard (qz x):=by
 cases x with
 |none=>exact .non
 |some x =>
  refine .tup λi d h=>?_;have:d∈[D.int x.1,D.int x.2]:=ai h;simp at this;rcases this with rfl|rfl<;>exact .int
structure PSt where
 turn:Int
 cells:List Av
 sides:List Int
 gone:List A6
noncomputable abbrev qB(cs:Au):List (List D):=cs.map λc=>c.map qz
noncomputable abbrev qE(gs:List A6):List (List D):=gs.map λg=>g.map D.int
noncomputable def stF(st:PSt):List (Str×D):=[("turn",.int st.turn),("cells",.lst ((qB st.cells).map D.lst)),("sides",.ints st.sides),("gone",.lst ((qE st.gone).map D.lst))]
noncomputable def X9(a:Ad)(st:PSt):D:=.ob a.s (stF st)
def za6(st:PSt):(stF st).lookup ("turn":Str)=some (.int st.turn):=jf
def WW(st:PSt):(stF st).lookup ("cells":Str)=some (.lst ((qB st.cells).map D.lst)):=(zW (by symm)).trans jf
def WV(st:PSt):(stF st).lookup ("sides":Str)=some (.ints st.sides):=(zW (by symm)).trans ((zW (by symm)).trans jf)
def za7(st:PSt):(stF st).lookup ("gone":Str)=some (.lst ((qE st.gone).map D.lst)):=(zW (by symm)).trans ((zW (by symm)).trans ((zW (by symm)).trans jf))
noncomputable def sff(t:Int)(lc ls lg:Addr):List (Str×V):=[(("turn":Str),V.int t),(("cells":Str),V.ref lc),(("sides":Str),V.ref ls),(("gone":Str),V.ref lg)]
theorem zkW{t:Int}:qw "turn" (.int t) []=([(("turn":Str),V.int t)]:Ar):=rfl
def zkV{t:Int}{lc:Addr}:qw "cells" (.ref lc) [(("turn":Str),V.int t)]=([(("turn":Str),V.int t),(("cells":Str),V.ref lc)]:Ar):=by
 simp only[qw];rw[am (by symm)]
def zkU{t:Int}{lc ls:Addr}:qw "sides" (.ref ls) [(("turn":Str),V.int t),(("cells":Str),V.ref lc)]=([(("turn":Str),V.int t),(("cells":Str),V.ref lc),(("sides":Str),V.ref ls)]:Ar):=by
 simp only[qw];rw[am (by symm),am (by symm)]
def zkT{t:Int}{lc ls lg:Addr}:qw "gone" (.ref lg) [(("turn":Str),V.int t),(("cells":Str),V.ref lc),(("sides":Str),V.ref ls)]=sff t lc ls lg:=by
 unfold sff;simp only[qw];rw[am (by symm),am (by symm),am (by symm)]
structure SN where
 dx:Addr
 lc:Addr
 ls:Addr
 lg:Addr
 acs:List Addr
 ags:List Addr
noncomputable def SN.all(n:SN):List Addr:=n.ls::n.lc::n.lg::(n.acs++n.ags)
structure StO(a:Ad)(H:Hp)(y:Addr)(n:SN)(st:PSt):Prop where
 hy:H y=some (.ins a.s n.dx (sff st.turn n.lc n.ls n.lg))
 hc:NL H (zX H) n.lc n.acs (qB st.cells)
 hs:H n.ls=some (.lst (iv st.sides))
 hg:NL H (zX H) n.lg n.ags (qE st.gone)
 nd:n.all.Nodup
def StO.rep{y:Addr}{n:SN}{st:PSt}(h:StO a H y n st):Rep H (Off []) (.ref y) (X9 a st) :=
 wF (λz=>nomatch z) h.hy rfl (.cons .int (.cons h.hc.rep (.cons (qx (λz=>nomatch z) h.hs) (.cons h.hg.rep .nil))))
def StO.same{H H':Hp}{y:Addr}{n:SN}{st:PSt}(h:StO a H y n st)(s:Same H H'):StO a H' y n st :=
 ⟨s _ _ h.hy,h.hc.keep (λb o _ hb=>s b o hb) (λb ⟨xs,hx⟩ _=>⟨xs,s _ _ hx⟩),s _ _ h.hs,h.hg.keep (λb o _ hb=>s b o hb) (λb ⟨xs,hx⟩ _=>⟨xs,s _ _ hx⟩),h.nd⟩
def vo(a:Ad):Sp:=λvs H Q _=>∃(y dx:Addr)(vc vs' vg:V)(st:PSt)(p:A5),vs=[.ref y,.int st.turn,vc,vs',vg]/\H y=some (.ins a.s dx [])/\(∀b,p b->b≠y) /\
 Rep H p vc (.lst ((qB st.cells).map D.lst))/\Rep H p vs' (.ints st.sides)/\Rep H p vg (.lst ((qE st.gone).map D.lst))/\st.cells.length<=100/\st.gone.length<=100 /\
 ∀H' n,n.dx=dx->Own H H' y->StO a H' y n st->(∀b∈n.all,H b=none)->Q .non H'
def zby{ds:List D}(h:Reps H p vs ds)(hd:∀d∈ds,Hard d):Reps H (zX H) vs ds :=
 ⟨h.len,λi v d e1 e2=>(h.g i v d e1 e2).hard (hd d (ai e2)) λb xs _ hb=>⟨xs,hb⟩⟩
def zds(c:Av):∀d∈c.map qz,Hard d:=λd hd=>by
 let⟨x,_,rfl⟩:=aK.mp hd;exact zfj x
def zfk(c:A6):∀d∈c.map D.int,Hard d:=λd hd=>by
 let⟨x,_,rfl⟩:=aK.mp hd;exact .int
def WG(T:Txt K mg a)(F:Fun K "__init__" "State.__init__" jx f fd):FnOk P w K mg base (CXr P w) 1 f fd ["self","turn","cells","sides","gone"] (vo a):=by
 refine F.okx WB ?_ ?_
 .walk_at"i"
 walk_at"j";refine oE7 h λy dx vc vs' vg st p p9=>oA9 p9 λpQ hy hp rc rs rg lc lg k=>?_;clear p9 h;subst pQ;refine oE2 rc.lst' λc0 ucs p9=>oA4 p9 λpQ pc0 hc0 rcs=>?_;clear p9;subst pQ;refine oE1 rs.ints' λs0 p9=>oA3 p9 λpQ ps0 hs0=>?_;clear p9;subst pQ;have hs0:H s0=some (.lst (iv st.sides)):=hs0;refine oE2 rg.lst' λg0 ugs p9=>oA4 p9 λpQ pg0 hg0 rgs=>?_;clear p9;subst pQ;have lcs:ucs.length=st.cells.length:=by rw[rcs.len,af,af]
 have lgs:ugs.length=st.gone.length:=by rw[rgs.len,af,af]
 walk_at"T";refine⟨_,(zj (jC (pq 0) (pq 1) rfl)  (zj (jC (pq 0) (jJ (vars:=["belt_cells"]) (caps:=[]) (N:=["belt_cells"]) (ON:=["self","turn","cells","sides","gone"]) (osc:=zi jx) rfl rfl (by right) rfl rfl (qj (pq 2)) (λ_ _ _ _=>(qq 0 (show(["belt_cells"]:A8).Nodup from by symm))) (λ_ _ _ _=>qg) (λ_ _ _ _=>(jS Ze wU (za (pq 0) ze)))) rfl)  (zj (jC (pq 0) (jS Ze wU (za (pq 3) ze)) rfl)  (zg (jC (pq 0) (jJ (vars:=["counts"]) (caps:=[]) (N:=["counts"]) (ON:=["self","turn","cells","sides","gone"]) (osc:=zi jx) rfl rfl (by right) rfl rfl (qj (pq 4)) (λ_ _ _ _=>(qq 0 (show(["counts"]:A8).Nodup from by symm))) (λ_ _ _ _=>qg) (λ_ _ _ _=>(jS Ze wU (za (pq 0) ze)))) rfl))))),?_⟩;exists iE4 y a.s dx ([]) (iA6 rfl hy T.ad T.ip (by decide) ?_);rw[zkW];have o1:Own H (upd H y (.ins a.s dx [(("turn":Str),V.int st.turn)])) y:=jq;have y1:upd H y (.ins a.s dx [(("turn":Str),V.int st.turn)]) y=some (.ins a.s dx [(("turn":Str),V.int st.turn)]):=rh;generalize upd H y (.ins a.s dx [(("turn":Str),V.int st.turn)])=H1 at o1 y1 ⊢;have kp:∀b,zX H b->H b≠none->b≠y:=λb ⟨xs,hx⟩ _ z=>by rw[z,hy]at hx;cases hx
 walk_at"c";exists⟨c0,rfl,.inl ⟨⟨_,SqL.of (o1 _ _ (hp _ pc0) hc0)⟩,λ_ _ _ _ pV hacc=>?_⟩⟩;let pY:Nat->St->Hp->Prop:=λi σ H'=>∃(v0:Aq)(as:Ab),σ=[v0]/\Same H1 H'/\NL H' (zX H) pV as (qB (st.cells.take i))/\∀b∈as,H1 b=none;refine qL (K:=K) (a:=c0) (xs:=ucs) pY (iE2 _ ([]) (iA4 rfl (zf hacc) (by rw[cH];exact zax rh) (by simp))) (λi σ H' _ h=>by let⟨_,_,_,s,_⟩:=h;exact SqL.of (s _ _ (o1 _ _ (hp _ pc0) hc0))) ?_ ?_
 .intro i x σ H2 hi pR;refine oE2 pR λv0 as p9=>oA4 p9 λpQ s2 nl fr=>?_;ext;let⟨d,hd,rx⟩:=rcs.at hi;rw[ap,ap]at hd;let⟨c,hc⟩:∃c,st.cells[i]?=some c:=by
   cases e:st.cells[i]? with
   |none=>rw[e]at hd;cases hd
   |some c=>exact⟨c,rfl⟩
  rw[hc]at hd;cases hd;refine oE2 (Rep.lst' rx) λli vi p9=>oA4 p9 λpQ pli hli ri=>?_;clear p9;subst pQ;have hil:=(aa.mp hc).1;have hli2:=s2 _ _ (o1 _ _ (hp _ pli) hli);exists iE2 li _ (iA3 rfl (.inl (SqL.of hli2)) (λb hb=>?_));have nb:b∉as:=λz=>by
   let⟨j,hj⟩:=bF z;let⟨vs,h1,_⟩:=nl.g j b _ hj (ac (by rw[<- nl.len];exact(aa.mp hj).1));rw[h1]at hb;cases hb
  have nG:b≠pV:=λz=>by rw[z,nl.out]at hb;cases hb
  have s3:Same H2 (upd H2 b (.lst vi)):=zf hb;have ac3:=rq (o:=.lst vi) nl.out hb;refine⟨_,iA3 ac3 (zn (by rw[af,nl.len,af,aS];lia)) ?_⟩;have ri3:Reps (upd H2 b (.lst vi)) (zX H) vi (c.map qz):=(zby ri (zds c)).keep λz o pz hz=>⟨pz,s3 _ _ (s2 _ _ (o1 _ _ (kp z pz (by rw[hz];intro q;cases q)) hz))⟩;have nl3:=(nl.same s3).push (b:=b) (vs:=vi) (ys:=c.map qz) rh nb nG (λ⟨xs,hx⟩=>by
   have:=o1 _ _ (kp pV ⟨xs,hx⟩ (by rw[hx];intro q;cases q)) hx;rw[hacc]at this;cases this) ri3
  refine iE2 _ (as++[b]) (iA4 rfl ?_ ?_ ?_)
  .exactλz o hz=>by rw[rj (rn hz hacc)];exact s3 _ _ (s2 _ _ hz)
  .rw[aT,hc];rw[show qB (st.cells.take i++(some c).toList)=qB (st.cells.take i)++[c.map qz] by simp[qB]];exact nl3
  .intro z hz;rcases ay.mp hz with hz|hz
   .exact fr z hz
   .rw[ak.mp hz];exact zM s2 hb
 intro σ H2 pR;refine oE2 pR λv0 acs p9=>oA4 p9 λpQ s2 nlc frc=>?_;ext;rw[lcs,aV]at nlc;have y2:=s2 _ _ y1;exists iE4 y a.s dx _ (iA6 rfl y2 T.ad T.ir (by simp) ?_);rw[zkV];have nay:pV≠y:=λz=>by rw[z,y1]at hacc;cases hacc
 have hx0:∀{z:Addr},H1 z=none->z≠y/\H z=none:=λ{z} hz=>by
  have n1:z≠y:=λq=>by rw[q,y1]at hz;cases hz
  refine⟨n1,?_⟩;cases e:H z with
  |none=>rfl
  |some o=>rw[o1 z o n1 e]at hz;cases hz
 have o3:Own H (upd H2 y (.ins a.s dx [(("turn":Str),V.int st.turn),(("cells":Str),V.ref pV)])) y:=(o1.trans (Same.own s2)).trans jq;have y3:upd H2 y (.ins a.s dx [(("turn":Str),V.int st.turn),(("cells":Str),V.ref pV)]) y=some (.ins a.s dx [(("turn":Str),V.int st.turn),(("cells":Str),V.ref pV)]):=rh;have nl3:NL (upd H2 y (.ins a.s dx [(("turn":Str),V.int st.turn),(("cells":Str),V.ref pV)])) (zX H) pV acs (qB st.cells):=nlc.keep (λz o hz ho=>by
  refine(rj (λq=>?_)).trans ho;rcases hz with h|h|h
  .exact nay (h.symm.trans q)
  .exact(hx0 (frc z h)).1 q
  .obtain⟨xs,hx⟩:=h;rw[q,hy]at hx;cases hx) λ_ hp _=>hp
 generalize upd H2 y (.ins a.s dx [(("turn":Str),V.int st.turn),(("cells":Str),V.ref pV)])=H3 at o3 y3 nl3 ⊢;exists iE2 s0 _ (iA3 rfl (.inl (SqL.of (o3 _ _ (hp _ ps0) hs0))) (λls hls=>?_));left;have y4:=rq (o:=.lst (iv st.sides)) y3 hls;refine iE4 y a.s dx _ (iA6 rfl y4 T.ad T.iC (by simp) ?_);rw[zkU];have nlsy:ls≠y:=λz=>by rw[z,y3]at hls;cases hls
 have hls0:H ls=none:=by
  cases e:H ls with
  |none=>rfl
  |some o=>rw[o3 ls o nlsy e]at hls;cases hls
 have o5:Own H (upd (upd H3 ls (.lst (iv st.sides))) y (.ins a.s dx [(("turn":Str),V.int st.turn),(("cells":Str),V.ref pV),(("sides":Str),V.ref ls)])) y:=(o3.trans (Same.own (zf hls))).trans jq;have y5:upd (upd H3 ls (.lst (iv st.sides))) y (.ins a.s dx [(("turn":Str),V.int st.turn),(("cells":Str),V.ref pV),(("sides":Str),V.ref ls)]) y=some (.ins a.s dx [(("turn":Str),V.int st.turn),(("cells":Str),V.ref pV),(("sides":Str),V.ref ls)]):=rh;have nl5:NL (upd (upd H3 ls (.lst (iv st.sides))) y (.ins a.s dx [(("turn":Str),V.int st.turn),(("cells":Str),V.ref pV),(("sides":Str),V.ref ls)])) (zX H) pV acs (qB st.cells):=nl3.keep (λz o hz ho=>by
  refine(rj (λq=>?_)).trans (rq ho hls);rcases hz with h|h|h
  .exact nay (h.symm.trans q)
  .exact(hx0 (frc z h)).1 q
  .obtain⟨xs,hx⟩:=h;rw[q,hy]at hx;cases hx) λ_ hp _=>hp
 have ls5:upd (upd H3 ls (.lst (iv st.sides))) y (.ins a.s dx [(("turn":Str),V.int st.turn),(("cells":Str),V.ref pV),(("sides":Str),V.ref ls)]) ls=some (.lst (iv st.sides)):=by rw[rj nlsy];exact rh
 have nlsa:ls∉pV::acs:=λz=>by
  rcases au.mp z with h|h
  .rw[h,nl3.out]at hls;cases hls
  .obtain⟨j,hj⟩:=bF h;let⟨vs,h1,_⟩:=nl3.g j ls _ hj (ac (by rw[<- nl3.len];exact(aa.mp hj).1));rw[h1]at hls;cases hls
 generalize upd (upd H3 ls (.lst (iv st.sides))) y (.ins a.s dx [(("turn":Str),V.int st.turn),(("cells":Str),V.ref pV),(("sides":Str),V.ref ls)])=H5 at o5 y5 nl5 ls5 ⊢;clear nl3 o3 y3 hls y4;walk_at"c";exists⟨g0,rfl,.inl ⟨⟨_,SqL.of (o5 _ _ (hp _ pg0) hg0)⟩,λ_ _ _ _ ag hag=>?_⟩⟩;let pZ:Nat->St->Hp->Prop:=λi σ H'=>∃(v0:Aq)(as:Ab),σ=[v0]/\Same H5 H'/\NL H' (zX H) ag as (qE (st.gone.take i))/\∀b∈as,H5 b=none;refine qL (K:=K) (a:=g0) (xs:=ugs) pZ (iE2 _ ([]) (iA4 rfl (zf hag) (by rw[cH];exact zax rh) (by simp))) (λi σ H' _ h=>by let⟨_,_,_,s,_⟩:=h;exact SqL.of (s _ _ (o5 _ _ (hp _ pg0) hg0))) ?_ ?_
 .intro i x σ H2 hi pR;refine oE2 pR λv0 as p9=>oA4 p9 λpQ s2 nl fr=>?_;ext;let⟨d,hd,rx⟩:=rgs.at hi;rw[ap,ap]at hd;let⟨c,hc⟩:∃c,st.gone[i]?=some c:=by
   cases e:st.gone[i]? with
   |none=>rw[e]at hd;cases hd
   |some c=>exact⟨c,rfl⟩
  rw[hc]at hd;cases hd;refine oE2 (Rep.lst' rx) λli vi p9=>oA4 p9 λpQ pli hli ri=>?_;clear p9;subst pQ;have hil:=(aa.mp hc).1;have hli2:=s2 _ _ (o5 _ _ (hp _ pli) hli);exists iE2 li _ (iA3 rfl (.inl (SqL.of hli2)) (λb hb=>?_));have nb:b∉as:=λz=>by
   let⟨j,hj⟩:=bF z;let⟨vs,h1,_⟩:=nl.g j b _ hj (ac (by rw[<- nl.len];exact(aa.mp hj).1));rw[h1]at hb;cases hb
  have nG:b≠ag:=λz=>by rw[z,nl.out]at hb;cases hb
  have s3:Same H2 (upd H2 b (.lst vi)):=zf hb;have ac3:=rq (o:=.lst vi) nl.out hb;refine⟨_,iA3 ac3 (zn (by rw[af,nl.len,af,aS];lia)) ?_⟩;have ri3:Reps (upd H2 b (.lst vi)) (zX H) vi (c.map D.int):=(zby ri (zfk c)).keep λz o pz hz=>⟨pz,s3 _ _ (s2 _ _ (o5 _ _ (kp z pz (by rw[hz];intro q;cases q)) hz))⟩;have nl3:=(nl.same s3).push (b:=b) (vs:=vi) (ys:=c.map D.int) rh nb nG (λ⟨xs,hx⟩=>by
   have:=o5 _ _ (kp ag ⟨xs,hx⟩ (by rw[hx];intro q;cases q)) hx;rw[hag]at this;cases this) ri3
  refine iE2 _ (as++[b]) (iA4 rfl ?_ ?_ ?_)
  .exactλz o hz=>by rw[rj (rn hz hag)];exact s3 _ _ (s2 _ _ hz)
  .rw[aT,hc];rw[show qE (st.gone.take i++(some c).toList)=qE (st.gone.take i)++[c.map D.int] by simp[qE]];exact nl3
  .intro z hz;rcases ay.mp hz with hz|hz
   .exact fr z hz
   .rw[ak.mp hz];exact zM s2 hb
 intro σ H6 pR;refine oE2 pR λv0' ags p9=>oA4 p9 λpQ s6 nlg frg=>?_;ext;rw[lgs,aV]at nlg;have y6:=s6 _ _ y5;exists iE4 y a.s dx _ (iA6 rfl y6 T.ad T.iy (by simp) ?_);rw[zkT];have hx5:∀{z:Addr},H5 z=none->z≠y/\H z=none:=λ{z} hz=>by
  have n1:z≠y:=λq=>by rw[q,y5]at hz;cases hz
  refine⟨n1,?_⟩;cases e:H z with
  |none=>rfl
  |some o=>rw[o5 z o n1 e]at hz;cases hz
 have ngy:=(hx5 hag).1;have o7:Own H (upd H6 y (.ins a.s dx (sff st.turn pV ls ag))) y:=(o5.trans (Same.own s6)).trans jq;have tp:∀b,zX H b->H b≠none->zX (upd H6 y (.ins a.s dx (sff st.turn pV ls ag))) b:=λb ⟨xs,hx⟩ hn=>⟨xs,o7 _ _ (kp b ⟨xs,hx⟩ hn) hx⟩;have inA:∀z,z∈pV::acs->∃o,H5 z=some o:=λz hz=>by
  rcases au.mp hz with h|h
  .exact⟨_,h ▸ nl5.out⟩
  .obtain⟨j,hj⟩:=bF h;let⟨vs,h1,_⟩:=nl5.g j z _ hj (ac (by rw[<- nl5.len];exact(aa.mp hj).1));exact⟨_,h1⟩
 refine k _ ⟨dx,pV,ls,ag,acs,ags⟩ rfl o7 ⟨rh,?_,?_,?_,?_⟩ ?_
 .exact(nl5.same s6).keep (λz o hz ho=>by
   refine(rj (λq=>?_)).trans ho;rcases hz with h|h|h
   .exact nay (h.symm.trans q)
   .exact(hx0 (frc z h)).1 q
   .obtain⟨xs,hx⟩:=h;rw[q,hy]at hx;cases hx) λb hb hn=>by
    let⟨xs,hx⟩:=hb;exact tp b ⟨xs,hx⟩ (by rw[hx];intro q;cases q)
 .show upd H6 y _ ls=_
  rw[rj nlsy];exact s6 _ _ ls5
 .exact nlg.keep (λz o hz ho=>by
   refine(rj (λq=>?_)).trans ho;rcases hz with h|h|h
   .exact ngy (h.symm.trans q)
   .exact(hx5 (frg z h)).1 q
   .obtain⟨xs,hx⟩:=h;rw[q,hy]at hx;cases hx) λb hb hn=>by
    let⟨xs,hx⟩:=hb;exact tp b ⟨xs,hx⟩ (by rw[hx];intro q;cases q)
 .show(ls::pV::ag::(acs++ags)).Nodup
  have ls5':∀z,H5 z=none->z≠ls:=λz hz q=>by rw[q,ls5]at hz;cases hz
  rw[dY,dY,dY];refine iA4 (λz=>?_) (λz=>?_) (λz=>?_) ?_
  .rcases au.mp z with h|z
   .exact nlsa (h ▸ a7 ..)
   rcases au.mp z with h|z
   .exact ls5' ag hag h.symm
   rcases ay.mp z with z|z
   .exact nlsa (aA _ z)
   .exact ls5' ls (frg ls z) rfl
  .rcases au.mp z with h|z
   .rw[<- h,nl5.out]at hag;cases hag
   rcases ay.mp z with z|z
   .exact nl5.nG z
   .have:=frg pV z;rw[nl5.out]at this;cases this
  .rcases ay.mp z with z|z
   .obtain⟨o,ho⟩:=inA ag (aA _ z);rw[hag]at ho;cases ho
   .exact nlg.nG z
  .rw[nodup_append];refine⟨nl5.nd,nlg.nd,λu hu v hv q=>?_⟩;subst q;let⟨o,ho⟩:=inA u (aA _ hu);rw[frg u hv]at ho;cases ho
 .intro b hb;rcases au.mp hb with rfl|hb
  .exact hls0
  rcases au.mp hb with rfl|hb
  .exact(hx0 hacc).2
  rcases au.mp hb with rfl|hb
  .exact(hx5 hag).2
  rcases ay.mp hb with hb|hb
  .exact(hx0 (frc b hb)).2
  .exact(hx5 (frg b hb)).2
def zeb(T:Txt K mg a):KCal P w K mg base "State" a.s 1 ["self","turn","cells","sides","gone"] [] (vo a):=T.nI.cal T.pL (WG T)
def qI{rs:At}(h:Rep H p v (qG a bs rs)):∃y dx fs l1 l2 bvs pW,v=.ref y/\H y=some (.ins a.r dx fs)/\fs.lookup ("belts":Str)=some (.ref l1)/\fs.lookup ("knots":Str)=some (.ref l2) /\
  H l1=some (.lst bvs)/\H l2=some (.lst pW)/\Bts a H p bvs bs/\Kns a H p pW rs/\∀f:Str,f≠"belts"->f≠"knots"->fs.lookup f=none:=by
 let⟨y,dx,fs,rfl,py,hy,g1,g2⟩:=Rep.ob' h;let⟨u1,e1,r1⟩:=g1 _ _ zaX;let⟨u2,e2,r2⟩:=g1 _ _ zfK;let⟨l1,bvs,rfl,_,h1,b1⟩:=r1.lst';let⟨l2,pW,rfl,_,h2,b2⟩:=r2.lst';exact⟨y,dx,fs,l1,l2,bvs,pW,rfl,hy,e1,e2,h1,h2,.of b1,.of b2,λf n1 n2=>g2 f (zj8 n1 n2)⟩
noncomputable def wN(ks:A6)(n:Int):Int:=ks.getD (n%(ks.length:Int)).toNat 0
def zff{ks:A6}(n:Int)(h:0<ks.length):atI (iv ks) (n%(ks.length:Int))=some (.int (wN ks n)):=by
 have h0:=bY n (show(ks.length:Int)≠0 by lia);have h1:=bM n (show(0:Int)<ks.length by lia);unfold wN;generalize n%(ks.length:Int)=m at h0 h1 ⊢;have hlt:m.toNat<ks.length:=by lia
 have e:m=(m.toNat:Int):=by lia
 have:=zJ (xr (ac hlt));rw[<- e]at this;rw[this];simp[hlt]
def zaZ{s n:Int}(h:Rep H p v (.tup [.int s,.int n])):∃t,v=.ref t/\H t=some (.tup [.int s,.int n]):=Z7 (b:=(s,n)) h
def JD{pW:Ap}{rs:At}{r:Row}(hK:Kns a H p pW rs)(h:rs[j]?=some r):∃kv,pW[j]?=some kv/\KnP a H p kv r:=by
 have hj:=(aa.mp h).1;have e:pW[j]?=some (pW[j]'(by rw[hK.len];exact hj)):=ac _;exact⟨_,e,hK.g j _ r e h⟩
def zfZ(a:Ad):Sp:=λvs H Q _=>∃(v vwr:V)(bs:A1)(rs:At)(p q:A5)(s:Nat)(n:Int)(r:Row),vs=[v,vwr]/\Rep H p v (qG a bs rs)/\Rep H q vwr (.tup [.int s,.int n])/\rs[s]?=some r/\r.wd=.source/\0<r.kinds.length/\Q (.int (wN r.kinds n)) H
def QJ(T:Txt K mg a):Cal P w K mg base "kind_of" 1 ["work","ware"] [] (zfZ a):=T.oJ.cal λF=>by
 refine F.okx zcK ?_ ?_
 .walk_at"i"
 walk_at"j";refine oE5 h λv vwr bs rs p p9=>oE4 p9 λq sc n r pQ=>oA7 pQ λpX hv hw hr' hs hk k=>?_;clear p9 pQ h;subst pX;refine oE7 (qI hv) λy dx fs l1 l2 bvs pW p9=>oA9 p9 λpQ hy e1 e2 h1 h2 hB hK no=>?_;clear p9;subst pQ;let⟨t,rfl,ht⟩:=zaZ hw;let⟨kv,hkv,hKn⟩:=JD hK hr';refine oE6 hKn.inv λy1 dx1 m1 m2 m3 fs1 p9=>oA9 p9 λpQ _ _ _ _ g0 _ _ pX=>oA5 pX λ_ _ _ g3 _=>?_;clear p9 pX;subst pQ;let⟨g3a,g3b⟩:=g3 hs;walk_at"T";refine⟨_,(zl (zt 2 zcK.nd (zr (zv (zr (pq 0) rfl) (zv (pq 1) zh)) rfl))  (zg (zk (zv (pq 2) (zG ju (zv (pq 1) zh) (zS qa z9 (za (pq 2) ze))))))),?_⟩;exists ra hy T.iu T.io e2 (rA ht at0 (zw (SqL.of h2) (zJ hkv) ?_));refine iE5 y1 (x6 a r.wd) dx1 fs1 _ (iA6 rfl g0 (CT T _) (by rw[hs];exact T.iF) g3a ?_);exists rA ht rfl ?_;exists⟨_,.inl ⟨_,SqL.of g3b,rfl⟩,?_⟩;rw[zP];left;exact⟨by lia,zw (SqL.of g3b) (zff n hk) k⟩
noncomputable def qQ(r:Row):List Int:=List.replicate (max r.ins.length r.outs.length) 0
def zjg{α:Type}(n:Nat)(x:α):(List.replicate n [x]).flatten=List.replicate n x:=by
 induction n with
 |zero=>rfl
 |succ n ih=>rw[db,eu,ih];rfl
def zgP(n:Nat)(x:Int):List.replicate n (V.int x)=iv (List.replicate n x):=by simp[iv]
def zjB(m n:Nat):(if (n:Int)>(m:Int)then(n:Int)else(m:Int))=((max m n:Nat):Int):=by
 by_cases h:(n:Int)>(m:Int)
 .rw[aq h];lia
 .rw[am h];lia
def vF{r:Row}(h:r.ok):r.ins.length<=4/\r.outs.length<=4:=by
 let⟨wd,ins,outs,pc,ks⟩:=r;cases wd
 .obtain⟨h1,⟨o,h2⟩,_⟩:=h;simp only at h1 h2;subst h1 h2;simp
 .obtain⟨⟨o,h1⟩,h2,_⟩:=h;simp only at h1 h2;subst h1 h2;simp
 .obtain⟨⟨o,h1⟩,_,h2⟩:=h;simp only at h1 h2;subst h1;exact⟨by simp,h2⟩
 .obtain⟨⟨o,h1⟩,_,h2⟩:=h;simp only at h1 h2;subst h1;exact⟨by simp,h2⟩
 .obtain⟨⟨o,h1⟩,h2,_⟩:=h;simp only at h1 h2;subst h1;exact⟨by simp,by show outs.length<=4;lia⟩
 .obtain⟨⟨o,h1⟩,_,h2⟩:=h;simp only at h1 h2;subst h1;exact⟨h2,by simp⟩
def zey(a:Ad)(H H':Hp)(v:V)(st:PSt):Prop:=∃y n,v=.ref y/\StO a H' y n st/\H y=none/\H n.dx=none/\∀b∈n.all,H b=none
def zbU(T:Txt K mg a){st:PSt}{vc vs' vg:V}{Q:Addr->Hp->Prop}{E:XK}(rc:Rep H p vc (.lst ((qB st.cells).map D.lst)))(rs:Rep H p vs' (.ints st.sides))(rg:Rep H p vg (.lst ((qE st.gone).map D.lst)))(lc:st.cells.length<=100)(lg:st.gone.length<=100)(k:∀y H',Same H H'->zey a H H' (.ref y) st->Q y H'):∀(x dx:Addr),H x=none->H dx=none->dx≠x->vo a [.ref x,.int st.turn,vc,vs',vg] (upd (upd H dx (.own x)) x (.ins a.s dx [])) (λv H2=>v=.non/\Q x H2) E:=by
 intro y dy hy hdy hne;have kp:∀b o,p b->H b=some o->b≠y/\upd (upd H dy (.own y)) y (.ins a.s dy []) b=some o:=λb o _ hb=>⟨rn hb hy,qy hy hdy hb⟩;refine⟨y,dy,vc,vs',vg,st,λb=>b≠y,rfl,rh,λ_ h=>h,rc.keep kp,rs.keep kp,rg.keep kp,lc,lg,λH' n en o so fr=>⟨rfl,?_⟩⟩;exact k _ _ (Own.of_new hy hdy o) ⟨y,n,rfl,so,hy,by rw[en];exact hdy,λb hb=>zU (fr b hb)⟩
def zcD(a:Ad):Sp:=λvs H Q _=>∃(v:V)(r:Row)(p:A5),vs=[v]/\KnP a H p v r/\r.ins.length<=100/\r.outs.length<=100/\∀q H',Same H H'->H q=none->H' q=some (.lst (iv (qQ r)))->Q (.ref q) H'
def zcn(T:Txt K mg a):Cal P w K mg base "no_counts" 1 ["knot"] [] (zcD a):=T.nV.cal λF=>by
 refine F.okx V5 ?_ ?_
 .walk_at"i"
 walk_at"j";let⟨v,r,p,rfl,hKn,l1,l2,k⟩:=h;let⟨y1,dx1,m1,m2,m3,fs1,rfl,_,_,_,_,g0,f1,f2,_,g1,g2,g3,_⟩:=hKn.inv;walk_at"T";refine⟨_,(zg (zk (zG zc7 (zB (za zh ze)) (zS (zft rfl) zhj (za (zS qa z9 (za (zr (pq 0) rfl) ze)) (za (zS qa z9 (za (zr (pq 0) rfl) ze)) ze)))))),?_⟩;left;intro q hq;have sq:=zf (o:=.lst [V.int 0]) hq;refine⟨oH,iN,?_⟩;refine ra (sq _ _ g0) (CT T _) (NI T _) f1 ⟨_,.inl ⟨_,SqL.of (sq _ _ g1),rfl⟩,?_⟩;refine⟨iN,?_⟩;refine ra (sq _ _ g0) (CT T _) (NO T _) f2 ⟨_,.inl ⟨_,SqL.of (sq _ _ g2),rfl⟩,?_⟩;rw[zP,zP];refine⟨_,_,rfl,?_⟩;rw[zjB];refine⟨q,_,_,rfl,rfl,rh,by lia,by lia,?_,λq2 hq2=>?_⟩
 .refine qe ?_;simp
  lia
 .rw[zjg,aP,zgP];exact k q2 _ (sq.trans (zf hq2)) (zM sq hq2) rh
noncomputable def qX(bs:A1)(rs:At):PSt:=⟨0,bs.map λb=>List.replicate b.1.toNat none,List.replicate rs.length 0,rs.map qQ⟩
def zhC(a:Ad):Sp:=λvs H Q _=>∃(v:V)(bs:A1)(rs:At)(p:A5),vs=[v]/\Rep H p v (qG a bs rs)/\bs.length<=24/\rs.length<=24/\(∀b∈bs,zE b.1 b.2)/\(∀r∈rs,r.ok)/\∀v' H',Same H H'->zey a H H' v' (qX bs rs)->Q v' H'
def WO(T:Txt K mg a):Cal P w K mg base "empty_state" 3 ["work"] [] (zhC a):=T.mF.cal λF=>by
 refine F.okx Xi ?_ ?_
 .walk_at"i"
 walk_at"j";refine oE4 h λv bs rs p p9=>oA7 p9 λpQ hv lb lr bo ro k=>?_;clear p9 h;subst pQ;refine oE7 (qI hv) λy dx fs l1 l2 bvs pW p9=>oA9 p9 λpQ hy e1 e2 h1 h2 hB hK no=>?_;clear p9;subst pQ;walk_at"T";refine⟨_,(zj (QY (i:=1) Xi.nd rfl (Or.inl rfl) (vars:=["belt"]) (caps:=[]) (N:=["belt"]) (ON:=["work","cells","sides"]) (osc:=zi jN) rfl rfl (by right) rfl rfl (qj (zr (pq 0) rfl)) (λ_ _ _ _=>(qq 0 (show(["belt"]:A8).Nodup from by symm))) (λ_ _ _ _=>qg) (λ_ _ _ _=>(zG zc7 (zB (za zA ze)) (zr (pq 0) rfl))))  (zj (zt 2 Xi.nd (zG zc7 (zB (za zh ze)) (zS qa z9 (za (zr (pq 0) rfl) ze))))  (zg (zk (j7 (x:="State") ⟨rfl,rfl,rfl⟩ hr (za zh (za (pq 1) (za (pq 2) (za (jJ (vars:=["knot"]) (caps:=[]) (N:=["knot"]) (ON:=["work","cells","sides"]) (osc:=zi jN) rfl rfl (by right) rfl rfl (qj (zr (pq 0) rfl)) (λ_ _ _ _=>(qq 0 (show(["knot"]:A8).Nodup from by symm))) (λ_ _ _ _=>qg) (λ_ _ _ _=>(wK hr (za (pq 0) ze)))) ze))))))))),?_⟩;left;walk_at"c";exists ra hy T.iu T.iR e1 ⟨l1,rfl,.inl ⟨⟨_,SqL.of h1⟩,λ_ _ _ _ pV hacc=>?_⟩⟩;let pY:Nat->St->Hp->Prop:=λi σ H'=>∃(v0:Aq)(us:Ap),σ=[v0]/\Same H H'/\H' pV=some (.lst us)/\Reps H' (Off [pV]) us ((bs.take i).map λb=>D.lst (List.replicate b.1.toNat .non));refine qL (K:=K) (a:=l1) (xs:=bvs) pY (iE2 _ ([]) (iA4 rfl (zf hacc) rh (by rw[cH];exact .nil))) (λi σ H' _ h=>by let⟨_,_,_,s,_⟩:=h;exact SqL.of (s _ _ h1)) ?_ ?_
 .intro i x σ H2 hi pR;refine oE2 pR λv0 us p9=>oA4 p9 λpQ s2 ha ru=>?_;ext;let⟨b,hb',hBt⟩:=hB.at hi;refine oE3 hBt.inv λy1 dx1 fs1 p9=>oA5 p9 λpQ _ g0 f1 f2=>?_;clear p9;subst pQ;have hil:=(aa.mp hb').1;have bk:=bo b (ai hb');left;intro q hq;have sq:=zf (o:=.lst [V.non]) hq;refine ra (sq _ _ (s2 _ _ g0)) T.iO T.kb f1 ?_;have b1:=bk.1;have b2:=bk.2.1;refine iE3 q _ _ (iA7 rfl rfl rh (by lia) (by lia) (qe (by simp;lia)) (λq2 hq2=>?_));rw[zjg];have s3:=sq.trans (zf (o:=.lst (List.replicate b.1.toNat V.non)) hq2);have h3:upd (upd H2 q (.lst [V.non])) q2 (.lst (List.replicate b.1.toNat V.non)) q2=some (.lst (List.replicate b.1.toNat V.non)):=rh;have n2:H2 q2=none:=zM sq hq2;generalize upd (upd H2 q (.lst [V.non])) q2 (.lst (List.replicate b.1.toNat V.non))=H3 at s3 h3 ⊢;have f5:Fr [pV] H3 (upd H3 pV (.lst (us++[.ref q2]))):=qW (by simp);have nq:=zgA ha n2;refine⟨_,iA3 (s3 _ _ ha) (zn (by rw[ru.len,af,aS];lia)) (iE2 _ (us++[.ref q2]) (iA4 rfl (((s2.trans s3).fr.trans f5).same (by intro m hm;rw[ak.mp hm];exact hacc)) rh ?_))⟩;rw[aT,hb',aQ];refine((ru.same s3).fr f5).append (.one ?_);refine Reps.mk' ⟨by simp,λj u d a1 a2=>?_⟩ nq (f5 _ _ nq h3);have a1:=ai a1;have a2:=ai a2;rw[(cK.mp a1).2,(cK.mp a2).2];exact .non
 intro σ H2 pR;refine oE2 pR λv0 us p9=>oA4 p9 λpQ s2 ha ru=>?_;ext;rw[hB.len,aV]at ru;left;intro q hq;have sq:=zf (o:=.lst [V.int 0]) hq;exists ra (sq _ _ (s2 _ _ hy)) T.iu T.io e2 ⟨_,.inl ⟨_,SqL.of (sq _ _ (s2 _ _ h2)),rfl⟩,?_⟩;rw[hK.len];refine iE3 q _ _ (iA7 rfl rfl rh (by lia) (by lia) (qe (by simp;lia)) (λls hls=>?_));rw[zjg,aP,zgP];have s3:Same H (upd (upd H2 q (.lst [V.int 0])) ls (.lst (iv (List.replicate rs.length 0)))):=(s2.trans sq).trans (zf hls);have ha3:=rq (o:=.lst (iv (List.replicate rs.length 0))) (sq _ _ ha) hls;have ru3:=(ru.same sq).same (zf (o:=.lst (iv (List.replicate rs.length 0))) hls);have h3:upd (upd H2 q (.lst [V.int 0])) ls (.lst (iv (List.replicate rs.length 0))) ls=some (.lst (iv (List.replicate rs.length 0))):=rh;generalize upd (upd H2 q (.lst [V.int 0])) ls (.lst (iv (List.replicate rs.length 0)))=H3 at s3 ha3 ru3 h3 ⊢;exists iE4 a.s _ _ _ ⟨(zeb T).mono,?_⟩;walk_at"c";exists ra (s3 _ _ hy) T.iu T.io e2 ⟨l2,rfl,.inl ⟨⟨_,SqL.of (s3 _ _ h2)⟩,λ_ _ _ _ ac2 hac2=>?_⟩⟩;let pZ:Nat->St->Hp->Prop:=λi σ H'=>∃(v0:Aq)(us:Ap),σ=[v0]/\Same H3 H'/\H' ac2=some (.lst us)/\Reps H' (Off [ac2]) us ((rs.take i).map λr=>D.ints (qQ r));refine qL (K:=K) (a:=l2) (xs:=pW) pZ (iE2 _ ([]) (iA4 rfl (zf hac2) rh (by rw[cH];exact .nil))) (λi σ H' _ h=>by let⟨_,_,_,s,_⟩:=h;exact SqL.of (s _ _ (s3 _ _ h2))) ?_ ?_
 .intro i x σ H4 hi pR;refine oE2 pR λv0 us p9=>oA4 p9 λpQ s4 ha4 ru4=>?_;ext;let⟨r,hr',hKn⟩:=hK.at hi;have hil:=(aa.mp hr').1;have rl:=vF (ro r (ai hr'));exists uc (zcn T).mono (iE3 x r p (iA5 rfl (hKn.keep (λb o pb hb=>⟨pb,s4 _ _ (s3 _ _ hb)⟩)) (by lia) (by lia) (λq2 H5 s5 n2 h5=>?_)));have f5:Fr [ac2] H5 (upd H5 ac2 (.lst (us++[.ref q2]))):=qW (by simp);have nq:=zgA ha4 n2;refine⟨_,iA3 (s5 _ _ ha4) (zn (by rw[ru4.len,af,aS];lia)) (iE2 _ (us++[.ref q2]) (iA4 rfl (((s4.trans s5).fr.trans f5).same (by intro m hm;rw[ak.mp hm];exact hac2)) rh ?_))⟩;rw[aT,hr',aQ];exact((ru4.same s5).fr f5).append (.one (qx nq (f5 _ _ nq h5)))
 intro σ H4 pR;refine oE2 pR λv0' us4 p9=>oA4 p9 λpQ s4 ha4 ru4=>?_;ext;rw[hK.len,aV]at ru4;have s34:=s3.trans s4;refine zbU T (st:=qX bs rs) (p:=Off []) ?_ ?_ ?_ (by simp[qX];lia) (by simp[qX];lia) (λv' H5 s5 so=>k _ _ (s34.trans s5) ?_)
 .have:=(ru3.same s4).all;rw[show(bs.map λb=>D.lst (List.replicate b.1.toNat .non))=(qB (qX bs rs).cells).map D.lst by simp[qX,qB,qz,dH]]at this;exact this.mk' (λz=>nomatch z) (s4 _ _ ha3)
 .exact qx (λz=>nomatch z) (s4 _ _ h3)
 .have:=ru4.all;rw[show(rs.map λr=>D.ints (qQ r))=(qE (qX bs rs).gone).map D.lst by simp[qX,qE,dH]]at this;exact this.mk' (λz=>nomatch z) ha4
 .refine oE2 so λy5 n5 p9=>oA5 p9 λe5 o5 f1 f2 f3=>?_;clear p9 so;exact iE2 y5 n5 (iA5 e5 o5 (zM s34 f1) (zM s34 f2) (λb hb=>zM s34 (f3 b hb)))
def zci{r:Row}(h:r.ok)(hw:r.wd=.joiner):qQ r=List.replicate r.ins.length 0:=by
 let⟨wd,ins,outs,pc,ks⟩:=r;simp only at hw;subst hw;let⟨⟨o,h1⟩,h2,_⟩:=h;simp only at h1 h2;subst h1;unfold qQ;rw[Nat.max_eq_left (by simp;lia)]
def zdA{r:Row}(h:r.ok)(hw:r.wd≠.joiner):qQ r=List.replicate (max 1 r.outs.length) 0:=by
 let⟨wd,ins,outs,pc,ks⟩:=r;unfold qQ;cases wd
 .obtain⟨h1,⟨o,h2⟩,_⟩:=h;simp only at h1 h2;subst h1 h2;rfl
 .obtain⟨⟨o,h1⟩,h2,_⟩:=h;simp only at h1 h2;subst h1 h2;rfl
 .obtain⟨⟨o,h1⟩,h2,_⟩:=h;simp only at h1 h2;subst h1;rfl
 .obtain⟨⟨o,h1⟩,h2,_⟩:=h;simp only at h1 h2;subst h1;rfl
 .obtain⟨⟨o,h1⟩,h2,_⟩:=h;simp only at h1 h2;subst h1;rfl
 .exact absurd rfl hw
def Qg{r:Row}(h:r.ok):1<=(qQ r).length/\(qQ r).length<=4:=by
 have:=vF h;by_cases hw:r.wd=.joiner
 .rw[zci h hw,bA];let⟨wd,ins,outs,pc,ks⟩:=r;simp only at hw;subst hw;have:=h.2.1;simp only at this;constructor
  .show 1<=ins.length;lia
  .exact h.2.2
 .rw[zdA h hw,bA]
  lia
def Zv(rs:At)(x:zT):Prop:=∀s n,x=some (s,n)->∃(j:Nat)(r:Row),s=j/\rs[j]?=some r/\r.wd=.source/\0<=n
def zdt(rs:At)(gss:List A6):Prop:=gss.length=rs.length/\∀(i:Nat) r g,rs[i]?=some r->gss[i]?=some g->g.length=(qQ r).length/\∀n∈g,0<=n
def xj(bs:A1)(rs:At)(css:Au):Prop:=css.length=bs.length/\∀(i:Nat) b c,bs[i]?=some b->css[i]?=some c->c.length=b.1.toNat/\∀x∈c,Zv rs x
def zgX{rs:At}{gss:List A6}(h:zdt rs gss){g g':A6}(e:gss[j]?=some g)(l:g'.length=g.length)(n:∀x∈g',0<=x):zdt rs (gss.set j g'):=by
 refine⟨by rw[ci];exact h.1,λi r x h1 h2=>?_⟩;by_cases hj:i=j
 .subst hj;rw[aU (aa.mp e).1]at h2;cases h2;exact⟨by rw[l];exact(h.2 i r g h1 e).1,n⟩
 .rw[bE (bb hj)]at h2;exact h.2 i r x h1 h2
def Zx(r:Row)(s:Int):Prop:=0<=s/\(r.wd=.parter->s<r.outs.length)/\(r.wd=.joiner->s<r.ins.length)/\(r.wd≠.parter->r.wd≠.joiner->s=0)
def VV(rs:At)(sds:A6):Prop:=sds.length=rs.length/\∀(i:Nat) r s,rs[i]?=some r->sds[i]?=some s->Zx r s
noncomputable def zV(cs:Au)(b:Int):List zT:=cs.getD b.toNat []
noncomputable def qR(c:Av):zT:=c.getLastD none
noncomputable def zfF(c:Av):zT:=c.headD none
noncomputable def va(rs:At):zT->Option Int:=Option.map λx=>wN ((rs[x.1.toNat]?.map Row.kinds).getD []) x.2
noncomputable def qh(rs:At)(cs:Au)(r:Row):List A9:=r.ins.map λb=>va rs (qR (zV cs b))
noncomputable def qP(cs:Au)(r:Row):List Bool:=r.outs.map λb=>decide (zfF (zV cs b)=none)
def zaB{α:Type}{xs:List α}{d:α}(h:xs≠[]):atI xs (-1)=some (xs.getLastD d):=by
 have hl:0<xs.length:=eF.mpr h;unfold atI ixN;rw[am (by decide),aq (by lia)];have e:((-1:Int)+xs.length).toNat=xs.length-1:=by lia
 simp only[cA,e];rw[ac (by lia),bI,dE,ac (by lia)]
 rfl
def zbW{c:Av}:(c.map qz).getLastD .non=qz (qR c):=by
 unfold qR;rw[bI,bI,List.getLast?_map];cases c.getLast? <;> rfl
structure stWf(bs:A1)(rs:At)(st:PSt):Prop where
 co:xj bs rs st.cells
 so:VV rs st.sides
 go:zdt rs st.gone
def wQ{rs:At}{cs:Au}(h:xj bs rs cs)(bo:∀b∈bs,zE b.1 b.2){b:Int}(hb:b∈rgI bs.length):∃(i:Nat),b=i/\i<cs.length/\cs[i]?=some (zV cs b)/\zV cs b≠[]/\∀x∈zV cs b,Zv rs x:=by
 let⟨h0,h1⟩:=Qa hb;let⟨i,rfl⟩:∃i:Nat,b=i:=⟨b.toNat,by lia⟩;have hi:i<cs.length:=by rw[h.1];lia
 have e:cs[i]?=some (zV cs i):=by
  unfold zV;rw[aP,ac hi];simp[hi]
 have hib:i<bs.length:=by lia
 let⟨q1,q2⟩:=h.2 i bs[i] _ (ac hib) e;refine⟨i,rfl,hi,e,?_,q2⟩;intro z;rw[z]at q1;have:=(bo _ (cc hib)).1;simp at q1
 lia
def JF{rs:At}{r:Row}{b:Int}(w:zQ bs rs)(h:rs[k]?=some r)(hb:b∈r.ins):b∈rgI bs.length :=
 w.2.2.mem_iff.mp (cB.mpr ⟨r,ai h,hb⟩)
def XD{rs:At}{r:Row}{b:Int}(w:zQ bs rs)(h:rs[k]?=some r)(hb:b∈r.outs):b∈rgI bs.length :=
 w.2.1.mem_iff.mp (cB.mpr ⟨r,ai h,hb⟩)
def zej{c:Av}(h:c≠[]):qR c∈c:=by
 unfold qR;rw[bI,dX h];exact fN h
def zeH{st:PSt}(h:Rep H p v (X9 a st)):∃y dx fs lc ls lg ucs ugs,v=.ref y/\H y=some (.ins a.s dx fs)/\fs.lookup ("turn":Str)=some (.int st.turn)/\fs.lookup ("cells":Str)=some (.ref lc)/\fs.lookup ("sides":Str)=some (.ref ls)/\fs.lookup ("gone":Str)=some (.ref lg) /\
  H lc=some (.lst ucs)/\Reps H p ucs ((qB st.cells).map D.lst)/\H ls=some (.lst (iv st.sides))/\H lg=some (.lst ugs)/\Reps H p ugs ((qE st.gone).map D.lst):=by
 let⟨y,dx,fs,rfl,py,hy,g1,g2⟩:=Rep.ob' h;let⟨u1,e1,r1⟩:=g1 _ _ (za6 st);let⟨u2,e2,r2⟩:=g1 _ _ (WW st);let⟨u3,e3,r3⟩:=g1 _ _ (WV st);let⟨u4,e4,r4⟩:=g1 _ _ (za7 st);cases r1;let⟨lc,ucs,rfl,_,hc,rc⟩:=r2.lst';let⟨ls,rfl,_,hs⟩:=r3.ints';let⟨lg,ugs,rfl,_,hg,rg⟩:=r4.lst';exact⟨y,dx,fs,lc,ls,lg,ucs,ugs,rfl,hy,e1,e2,e3,e4,hc,rc,hs,hg,rg⟩
def zgT{us:Ap}{dss:List (List D)}(h:Reps H p us (dss.map D.lst)){ds:List D}(e:dss[i]?=some ds):∃l vs,us[i]?=some (.ref l)/\H l=some (.lst vs)/\Reps H p vs ds:=by
 let⟨v,h1,h2⟩:=h.of (i:=i) (d:=.lst ds) (by rw[ap,e];rfl);let⟨l,vs,rfl,_,h3,h4⟩:=h2.lst';exact⟨l,vs,h1,h3,h4⟩
inductive spHeads(a:Ad)(vs:Ap)(H:Hp)(Q:VK)(E:XK):Prop
 |i (vw vs' vk:V) (bs:A1) (rs:At) (st:PSt) (k:Nat) (r:Row) (p q:A5):vs=[vw,vs',vk]->Rep H p vw (qG a bs rs)->Rep H q vs' (X9 a st)->KnP a H p vk r->rs[k]?=some r->zQ bs rs->(∀b∈bs,zE b.1 b.2)->(∀r∈rs,r.ok)->xj bs rs st.cells->(∀l H',Same H H'->H l=none->H' l=some (.lst ((qh rs st.cells r).map hdV))->Q (.ref l) H')->spHeads a vs H Q E
theorem zdF(T:Txt K mg a):Cal P w K mg base "heads_of" 2 ["work","state","knot"] [] (spHeads a):=T.oA.cal λF=>by
 refine F.okx zbk ?_ ?_
 .walk_at"i"
 walk_at"j";rcases h with⟨vw,vs',vk,bs,rs,st,kn,r,p,q,rfl,hw,hs,hk,hr',pU,bo,ro,co,k⟩;refine oE8 (zeH hs) λy dx fs lc ls lg ucs ugs p9=>oA9 p9 λpQ hy e1 e2 e3 e4 hc rc pX=>oA3 pX λhsd hg rg=>?_;clear p9 pX;subst pQ;refine oE6 hk.inv λy1 dx1 m1 m2 m3 fs1 p9=>oA9 p9 λpQ _ _ _ _ g0 f1 f2 pX=>oA5 pX λ_ g1 g2 _ _=>?_;clear p9 pX;subst pQ;have rl:=vF (ro r (ai hr'));walk_at"T";refine⟨_,(zj (QY (i:=3) zbk.nd rfl (Or.inl rfl) (vars:=["belt"]) (caps:=[1]) (N:=["belt","state"]) (ON:=["work","state","knot","ends"]) (osc:=zi wB) rfl rfl (by right) rfl rfl (qj (zr (pq 2) rfl)) (λ_ _ _ _=>(qq 0 (show(["belt","state"]:A8).Nodup from by symm))) (λ_ _ _ _=>qg) (λ_ _ _ _=>(zv (zv (zr (pq 1) rfl) (pq 0)) (QZ vm zh))))  (zg (zk (jJ (vars:=["ware"]) (caps:=[0]) (N:=["ware","work"]) (ON:=["work","state","knot","ends"]) (osc:=zi wB) rfl rfl (by right) rfl rfl (qj (pq 3)) (λ_ _ _ _=>(qq 0 (show(["ware","work"]:A8).Nodup from by symm))) (λ_ _ _ _=>qg) (λ_ _ _ _=>(jE (zo qH (pq 0) zA (zu _)) zA (wK hr (za (pq 1) (za (pq 0) ze))))))))),?_⟩;left;walk_at"c";exists ra g0 (CT T _) (NI T _) f1 ⟨m1,rfl,.inl ⟨⟨_,SqL.of g1⟩,λ_ _ _ _ pV hacc=>?_⟩⟩;let pY:Nat->St->Hp->Prop:=λi σ H'=>∃(v0:Aq)(us:Ap),σ=[v0,some (.ref y)]/\Same H H'/\H' pV=some (.lst us)/\Reps H q us ((r.ins.take i).map λb=>qz (qR (zV st.cells b)));refine qL (K:=K) (a:=m1) (xs:=iv r.ins) pY (iE2 _ ([]) (iA4 rfl (zf hacc) rh (by rw[cH];exact .nil))) (λi σ H' _ h=>by let⟨_,_,_,s,_⟩:=h;exact SqL.of (s _ _ g1)) ?_ ?_
 .intro i x σ H2 hi pR;refine oE2 pR λv0 us p9=>oA4 p9 λpQ s2 ha ru=>?_;ext;let⟨b,hb,rfl⟩:=vR hi;have hil:=(aa.mp hb).1;refine oE1 (wQ co bo (JF pU hr' (ai hb))) λj p9=>oA5 p9 λpQ hj ej nej _=>?_;clear p9;subst pQ;let⟨li,vi,hu,hli,ri⟩:=zgT rc (i:=j) (ds:=(zV st.cells j).map qz) (by rw[qB,ap,ej];rfl);let⟨ve,he,re⟩:=ziX ri (zaB (d:=.non) (by simpa using nej));rw[zbW]at re;exists ra (s2 _ _ hy) T.ad T.ir e2 (zw (SqL.of (s2 _ _ hc)) (zJ hu) ?_);exists zw (SqL.of (s2 _ _ hli)) he ?_;refine⟨_,iA3 ha (zn (by rw[ru.len,af,aS];lia)) (iE2 _ (us++[ve]) (iA4 rfl (λb o hb=>by rw[rj (rn hb hacc)];exact s2 b o hb) rh ?_))⟩;rw[aT,hb,aQ];exact ru.append (.one re)
 intro σ H2 pR;refine oE2 pR λv0 us p9=>oA4 p9 λpQ s2 ha ru=>?_;ext;rw[zP,aV]at ru;have lu:us.length=r.ins.length:=by rw[ru.len,af]
 left;walk_at"c";exists⟨pV,rfl,.inl ⟨⟨_,SqL.of ha⟩,λ_ _ _ _ ac2 hac2=>?_⟩⟩;let pZ:Nat->St->Hp->Prop:=λi σ H'=>∃(v0:Aq),σ=[v0,some vw]/\Same H2 H'/\H' ac2=some (.lst ((((qh rs st.cells r).take i).map hdV)));refine qL (K:=K) (a:=pV) (xs:=us) pZ ⟨_,iA3 rfl (zf hac2) (by rw[cH];exact rh)⟩ (λi σ H' _ h=>by let⟨_,_,s,_⟩:=h;exact SqL.of (s _ _ ha)) ?_ ?_
 .intro i x σ H3 hi pR;refine oE1 pR λv0 p9=>oA3 p9 λpQ s3 ha3=>?_;ext;let⟨d,hd,rx⟩:=ru.at hi;rw[ap,aB]at hd;let⟨b,hb,rfl⟩:=hd;have hil:=(aa.mp hb).1;refine oE1 (wQ co bo (JF pU hr' (ai hb))) λj p9=>oA5 p9 λpQ hj ej nej wk=>?_;clear p9;subst pQ;have hwk:=wk _ (zej nej);have hh:(qh rs st.cells r)[i]?=some (va rs (qR (zV st.cells j))):=by rw[qh,ap,hb];rfl
  have s23:=s2.trans s3;have fin:∀u:V,u=hdV (va rs (qR (zV st.cells j)))->∃ys,H3 ac2=some (.lst ys)/\ys.length<sizeLine/\∃(v0:Aq),([some x,some vw]:St)=[v0,some vw]/\Same H2 (upd H3 ac2 (.lst (ys++[u])))/\upd H3 ac2 (.lst (ys++[u])) ac2=some (.lst ((((qh rs st.cells r).take (i+1)).map hdV))):=by
   rintro u rfl;refine⟨_,iA3 ha3 (zn (by rw[af,aS];lia)) ⟨_,iA3 rfl (λb o hb=>by rw[rj (rn hb hac2)];exact s3 b o hb) ?_⟩⟩;rw[rh,aT,hh,aQ]
   rfl
  left;cases hE:qR (zV st.cells j)with
  |none =>
   rw[hE]at rx fin;cases rx;rw[aq rfl];exact fin _ rfl
  |some wr =>
   let⟨sr,nr⟩:=wr;rw[hE]at rx fin hwk;refine oE2 (hwk _ _ rfl) λj0 r0 p9=>oA4 p9 λpQ hr0 hw0 _=>?_;clear p9;subst pQ;have ok0:=ro r0 (ai hr0);have kp:0<r0.kinds.length:=by
    let⟨wd,ins,outs,pc,ks⟩:=r0;simp only at hw0;subst hw0;exact ok0.2.2.2.2.1
   let⟨tw,rfl,htw⟩:=zaZ rx;rw[am (by intro z;cases z)];refine uc (QJ T).mono (iE5 vw _ bs rs p (iE4 q j0 nr r0 (iA7 rfl (jy hw s23) (jy rx s23) hr0 hw0 kp ?_)));exact fin _ (by simp[va,hr0,hdV])
 .intro σ H3 pR;refine oE1 pR λv0 p9=>oA3 p9 λpQ s3 ha3=>?_;ext;rw[lu,da (by simp[qh])]at ha3;left;exact k _ _ (s2.trans s3) (zM s2 hac2) ha3
def zf5(K:A0):Sp:=λvs H Q _=>∃(l:Addr)(ns:A6)(o:Option Nat),vs=[.ref l,Zh o]/\H l=some (.lst (iv ns))/\(∀j,o=some j->j<ns.length)/\Q (hdV (o.bind λj=>ns[j]?)) H
theorem VE(T:Txt K mg a):Cal P w K mg base "belt_at" 1 ["belts","place"] [] (zf5 K):=T.oK.cal λF=>by
 refine F.okx zcL ?_ ?_
 .walk_at"i"
 walk_at"j";refine oE3 h λl ns o p9=>oA4 p9 λpQ hl ho k=>?_;clear p9 h;subst pQ;walk_at"T";refine⟨_,(zg (zk (jE (zo qH (pq 1) zA (zu _)) zA (zv (pq 0) (pq 1))))),?_⟩;left;cases o with
 |none=>exact zR (λ_=>k) (λb=>absurd rfl b)
 |some j =>
  have hj:=ho j rfl;refine zR (λb=>by cases b) (λ_=>?_);refine zw (SqL.of hl) (zJ (xr (ac hj))) ?_;have e:hdV ((some j).bind λj=>ns[j]?)=.int ns[j]:=by simp[hj,hdV]
  rw[e]at k;exact k
def zk4(T:Txt K mg a)(wd:Wd):kitOne K (.ref (x6 a wd)) (.ref a.q)=some (decide (wd=.joiner)):=by
 cases wd
 .exact T.lC
 .exact T.lT
 .exact T.lD
 .exact T.kj
 .exact T.lU
 .exact T.lE
noncomputable def xZ(r:Row)(ch:Ak):Nat:=if r.wd=.joiner then ch.1.getD 0 else ch.2.1.getD 0
inductive spCounted(a:Ad)(vs:Ap)(H:Hp)(Q:VK)(E:XK):Prop
 |i (vk:V) (t:Addr) (r:Row) (ch:Ak) (p:A5):vs=[vk,.ref t]->KnP a H p vk r->H t=some (.tup (chV ch))->(r.wd=.joiner->∃j,ch.1=some j)->Q (.int (xZ r ch)) H->spCounted a vs H Q E
theorem Jt(T:Txt K mg a):Cal P w K mg base "counted_place" 1 ["knot","chosen"] [] (spCounted a):=T.lF.cal λF=>by
 refine F.okx Qq ?_ ?_
 .walk_at"i"
 walk_at"j";rcases h with⟨vk,t,r,ch,p,rfl,hk,ht,hj,k⟩;let⟨y1,dx1,m1,m2,m3,fs1,rfl,_,_,_,_,g0,f1,f2,_,g1,g2,_,_⟩:=hk.inv;walk_at"T";refine⟨_,(zl (zH (qp (zS ji zL (za (pq 0) (za qS ze))) (λ_=>rfl))  (zg (zk (zv (pq 1) zh)))  zp)  (zg (zk (jE (zo qH (zv (pq 1) zh) zA (zu _)) zh (zv (pq 1) zh))))),?_⟩;exists⟨.ref a.q,_,T.nB,rfl,_,_,_,_,rfl,(WT T r.wd).ty (CT T r.wd) g0,.inl ⟨_,rfl,zk4 T r.wd⟩,?_⟩;left;unfold xZ at k;refine zR (λb=>?_) (λb=>?_)
 .rw[aq b]at k;let⟨j,ej⟩:=hj b;exists rA ht at0 ?_;rw[ej]at k ⊢;exact k
 .rw[am b]at k;exists rA ht (show atI (chV ch) 1=some (Zh ch.2.1)from rfl) ?_;left;cases e:ch.2.1 with
  |none =>
   rw[e]at k;exact zR (λ_=>k) (λb=>absurd rfl b)
  |some j =>
   rw[e]at k;refine zR (λb=>by cases b) (λ_=>?_);refine rA ht (show atI (chV ch) 1=some (Zh ch.2.1)from rfl) ?_;rw[e];exact k
section
variable{H:Hp}{y:Addr}{n:SN}{st:PSt}
def StO.nds(h:StO a H y n st):n.ls∉n.lc::n.lg::(n.acs++n.ags)/\n.lc∉n.lg::(n.acs++n.ags)/\n.lg∉n.acs++n.ags/\∀x∈n.acs,x∉n.ags:=by
 have nd:=h.nd;unfold SN.all at nd;rw[dY,dY,dY,nodup_append]at nd;exact⟨nd.1,nd.2.1,nd.2.2.1,λx hx hy=>nd.2.2.2.2.2 x hx x hy rfl⟩
def Jx{x:Addr}{us vs:Ap}(hx:H x=some (.lst us))(h:zX H b):zX (upd H x (.lst vs)) b:=by
 let⟨xs,hb⟩:=h;exact⟨xs,by rw[rj (λz=>by rw[z,hx]at hb;cases hb)];exact hb⟩
def StO.putC{c':Av}(h:StO a H y n st)(e:n.acs[i]?=some b)(r:Reps H (zX H) vs (c'.map qz)):StO a (upd H b (.lst vs)) y n {st with cells:=st.cells.set i c'}:=by
 have hb:=ai e;let⟨us,hu⟩:=h.hc.isl (aA _ hb);let⟨n1,n2,n3,n4⟩:=h.nds;have k:∀c o,c≠b->H c=some o->upd H b (.lst vs) c=some o:=λc o nc hc=>by rw[rj nc];exact hc
 have ntb:¬zX H b:=λ⟨xs,hx⟩=>by rw[hu]at hx;cases hx
 refine⟨k _ _ (λz=>by rw[<- z,h.hy]at hu;cases hu) h.hy,?_,k _ _ (λz=>n1 (by rw[z];simp[hb])) h.hs,h.hg.tup λc o hz hc=>k c o (λz=>?_) hc,h.nd⟩
 .have:=h.hc.put (vs:=vs) (ys:=c'.map qz) e ntb r;rw[show qB (st.cells.set i c')=(qB st.cells).set i (c'.map qz) by simp[qB,ft]];exact this.keep (λ_ _ _ hc=>hc) λc hc _=>Jx hu hc
 .subst z;rcases hz with rfl|hz|hz
  .exact n3 (bz _ hb)
  .exact n4 c hb hz
  .exact ntb hz
def StO.putG{g':A6}(h:StO a H y n st)(e:n.ags[i]?=some b):StO a (upd H b (.lst (iv g'))) y n {st with gone:=st.gone.set i g'}:=by
 have hb:=ai e;let⟨us,hu⟩:=h.hg.isl (aA _ hb);let⟨n1,n2,n3,n4⟩:=h.nds;have k:∀c o,c≠b->H c=some o->upd H b (.lst (iv g')) c=some o:=λc o nc hc=>by rw[rj nc];exact hc
 have ntb:¬zX H b:=λ⟨xs,hx⟩=>by rw[hu]at hx;cases hx
 refine⟨k _ _ (λz=>by rw[<- z,h.hy]at hu;cases hu) h.hy,h.hc.tup λc o hz hc=>k c o (λz=>?_) hc,k _ _ (λz=>n1 (by rw[z];simp[hb])) h.hs,?_,h.nd⟩
 .subst z;rcases hz with rfl|hz|hz
  .exact n2 (aA _ (aX _ hb))
  .exact n4 c hz hb
  .exact ntb hz
 .have:=h.hg.put (vs:=iv g') (ys:=g'.map D.int) e ntb reps_ints;rw[show qE (st.gone.set i g')=(qE st.gone).set i (g'.map D.int) by simp[qE,ft]];exact this.keep (λ_ _ _ hc=>hc) λc hc _=>Jx hu hc
def StO.putS{s':A6}(h:StO a H y n st):StO a (upd H n.ls (.lst (iv s'))) y n {st with sides:=s'}:=by
 let⟨n1,n2,n3,n4⟩:=h.nds;have k:∀c o,c≠n.ls->H c=some o->upd H n.ls (.lst (iv s')) c=some o:=λc o nc hc=>by rw[rj nc];exact hc
 have kt:∀c,zX H c->c≠n.ls:=λc ⟨xs,hx⟩ z=>by rw[z,h.hs]at hx;cases hx
 refine⟨k _ _ (λz=>by have:=h.hy;rw[z,h.hs]at this;cases this) h.hy,h.hc.tup λc o hz hc=>k c o (λz=>?_) hc,rh,h.hg.tup λc o hz hc=>k c o (λz=>?_) hc,h.nd⟩
 .rcases hz with rfl|hz|hz
  .exact n1 (by rw[<- z];simp)
  .exact n1 (by rw[<- z];simp[hz])
  .exact kt c hz z
 .rcases hz with rfl|hz|hz
  .exact n1 (by rw[<- z];simp)
  .exact n1 (by rw[<- z];simp[hz])
  .exact kt c hz z
def StO.cell{c:Av}(h:StO a H y n st)(e:st.cells[i]?=some c):∃b vs,n.acs[i]?=some b/\H b=some (.lst vs)/\Reps H (zX H) vs (c.map qz):=h.hc.at (by rw[qB,ap,e];rfl)
def StO.goneL{g:A6}(h:StO a H y n st)(e:st.gone[i]?=some g):∃b,n.ags[i]?=some b/\H b=some (.lst (iv g)):=by
 let⟨b,vs,h1,h2,h3⟩:=h.hg.at (i:=i) (xs:=g.map D.int) (by rw[qE,ap,e];rfl);rw[JE h3]at h2;exact⟨b,h1,h2⟩
def sff_l{t:Int}{lc ls lg:Addr}:(sff t lc ls lg).lookup ("cells":Str)=some (.ref lc)/\(sff t lc ls lg).lookup ("sides":Str)=some (.ref ls)/\(sff t lc ls lg).lookup ("gone":Str)=some (.ref lg)/\(sff t lc ls lg).lookup ("turn":Str)=some (.int t):=by
 unfold sff;refine⟨(zW (by symm)).trans jf,(zW (by symm)).trans ((zW (by symm)).trans jf),(zW (by symm)).trans ((zW (by symm)).trans ((zW (by symm)).trans jf)),jf⟩
def Qn(e:n.acs[i]?=some b):(n.acs.map V.ref)[i]?=some (.ref b):=by rw[ap,e];rfl
def zew(e:n.ags[i]?=some b):(n.ags.map V.ref)[i]?=some (.ref b):=by rw[ap,e];rfl
def zaV(e:n.acs[i]?=some b):b∈y::n.all:=by simp[SN.all,ai e]
def ziy(e:n.ags[i]?=some b):b∈y::n.all:=by simp[SN.all,ai e]
end
noncomputable def Xb(c:Av):List zT:=c.set (c.length-1) none
noncomputable def je(st:PSt)(k:Nat):Option Int->zT×PSt
 |none=>(some ((k:Int),(st.gone.getD k []).headD 0),st)
 |some b=>(qR (zV st.cells b),{st with cells:=st.cells.set b.toNat (Xb (zV st.cells b))})
def Reps.set{ds:List D}{d:D}(h:Reps H p vs ds)(i:Nat)(r:Rep H p v d):Reps H p (vs.set i v) (ds.set i d):=by
 refine⟨by rw[ci,ci,h.len],λj u e h1 h2=>?_⟩;by_cases hj:j=i
 .subst hj;have hl:j<vs.length:=by have:=(aa.mp h1).1;rw[ci]at this;exact this
  rw[aU hl]at h1;rw[aU (by rw[<- h.len];exact hl)]at h2;cases h1;cases h2;exact r
 .rw[bE (bb hj)]at h1 h2;exact h.g j u e h1 h2
inductive spTaken(a:Ad)(vs:Ap)(H:Hp)(Q:VK)(E:XK):Prop
 |i (y:Addr) (n:SN) (st:PSt) (k:Nat) (fb:A9) (g0:Int) (gs:A6):vs=[.ref y,.int k,hdV fb]->StO a H y n st->st.gone[k]?=some (g0::gs)->(∀b,fb=some b->∃i:Nat,b=i/\st.cells[i]?=some (zV st.cells b)/\zV st.cells b≠[])->(∀v H',Fr (y::n.all) H H'->StO a H' y n (je st k fb).2->Rep H' (zX H') v (qz (je st k fb).1)->Q v H')->spTaken a vs H Q E
theorem zaP(T:Txt K mg a):Cal P w K mg base "taken_ware" 1 ["state","number","from_belt"] [] (spTaken a):=T.m4.cal λF=>by
 refine F.okx Wo ?_ ?_
 .walk_at"i"
 walk_at"j";rcases h with⟨y,n,st,kn,fb,g0,gs,rfl,so,hg,hf,k⟩;refine oA4 (sff_l (t:=st.turn) (lc:=n.lc) (ls:=n.ls) (lg:=n.lg)) λlk1 lk2 lk3 lk4=>?_;walk_at"T";refine⟨_,(zl (zH (zo qH (pq 2) zA (zu _))  (zg (zk (qV (za (pq 1) (za (zv (zv (zr (pq 0) rfl) (pq 1)) zh) ze)))))  zp)  (zl (zt 3 Wo.nd (zv (zv (zr (pq 0) rfl) (pq 2)) (QZ vm zh)))  (zl (wH zA (Qz (zv (zr (pq 0) rfl) (pq 2)) (QZ vm zh) xn))  (zg (zk (pq 3)))))),?_⟩;left;cases fb with
 |none =>
  refine zR (λ_=>?_) (λb=>absurd rfl b);let⟨bG,hbG,hgG⟩:=so.goneL hg;exists ra so.hy T.ad T.iy lk3 (zw (SqL.of so.hg.out) (zJ (zew hbG)) (zw (SqL.of hgG) at0 ?_));left;intro t ht;refine k _ _ (zdu ht) (so.same (zf ht)) ?_;have e:(st.gone.getD kn []).headD 0=g0:=by simp[List.getD,hg]
  show Rep _ _ _ (D.tup [.int kn,.int ((st.gone.getD kn []).headD 0)])
  rw[e];exact Reps.mkT (vs:=[.int kn,.int g0]) (.cons .int (.cons .int .nil)) ⟨_,rh⟩ rh
 |some b =>
  refine oE1 (hf b rfl) λi p9=>oA3 p9 λpQ hc nc=>?_;clear p9;subst pQ;refine oE2 (so.cell hc) λbC vs p9=>oA3 p9 λhbC hvC rvC=>?_;clear p9;have lv:vs.length=(zV st.cells i).length:=by rw[rvC.len,af]
  have lp:0<vs.length:=by rw[lv];exact eF.mpr nc
  let⟨ve,he,re⟩:=ziX rvC (zaB (d:=.non) (by simpa using nc));rw[zbW]at re;refine zR (λb=>by cases b) (λ_=>?_);exists ra so.hy T.ad T.ir lk1 (zw (SqL.of so.hc.out) (zJ (Qn hbC)) ?_);exists zw (SqL.of hvC) he ?_;exists ra so.hy T.ad T.ir lk1 (zw (SqL.of so.hc.out) (zJ (Qn hbC)) ?_);exists wG (j:=vs.length-1) hvC ?_ ?_
  .unfold ixN;rw[am (by decide),aq (by lia)]
   congr 1
   lia
  have e2:(Xb (zV st.cells i)).map qz=((zV st.cells i).map qz).set (vs.length-1) .non:=by
   unfold Xb;rw[ft,lv]
   rfl
  have r2:Reps H (zX H) (vs.set (vs.length-1) .non) ((Xb (zV st.cells i)).map qz):=by rw[e2];exact Reps.set rvC _ .non
  refine k _ _ (qW (zaV hbC)) ?_ ?_
  .have:=so.putC hbC r2;simpa[je]using this
  .refine Rep.keep (λc o pc hc=>⟨Jx hvC pc,?_⟩) re;let⟨xs,hx⟩:=pc;rw[rj (λz=>by rw[z,hvC]at hx;cases hx)];exact hc
structure Move where
 k:Nat
 ware:zT
 fr:Option Int
 to:Option Int
noncomputable def zjX:Option Int->D
 |none=>.non
 |some b=>.int b
def zd3(o:A9):Rep H p (hdV o) (zjX o):=by
 cases o
 .exact .non
 .exact .int
noncomputable def VD(m:Move):D:=.tup [.int m.k,qz m.ware,zjX m.fr,zjX m.to]
noncomputable def zjY:Option Move->D
 |none=>.non
 |some m=>VD m
noncomputable def Qy(st:PSt)(x:zT):Option Int->PSt
 |none=>st
 |some b=>{st with cells:=st.cells.set b.toNat ((zV st.cells b).set 0 x)}
noncomputable def Ju(g:A6)(j:Nat):List Int:=g.set j (g.getD j 0+1)
noncomputable def xh(r:Row)(ch:Ak):Option Int:=ch.1.bind λj=>r.ins[j]?
noncomputable def Qp(r:Row)(ch:Ak):Option Int:=ch.2.1.bind λj=>r.outs[j]?
noncomputable def movedF(r:Row)(st:PSt)(k:Nat)(ch:Ak):PSt:=Qy (je st k (xh r ch)).2 (je st k (xh r ch)).1 (Qp r ch)
noncomputable def zce(r:Row)(st:PSt)(k:Nat)(ch:Ak):PSt×Move :=
 ({movedF r st k ch with sides:=(movedF r st k ch).sides.set k ch.2.2,gone:=(movedF r st k ch).gone.set k (Ju ((movedF r st k ch).gone.getD k []) (xZ r ch))},⟨k,(je st k (xh r ch)).1,xh r ch,Qp r ch⟩)
noncomputable def jb(rs:At)(st:PSt)(k:Nat):PSt×Option Move:=match rs[k]? with
 |none=>(st,none)
 | some r=>match qb r (qh rs st.cells r) (qP st.cells r) st.turn (st.sides.getD k 0).toNat with
  |none=>(st,none)
  |some ch=>((zce r st k ch).1,some (zce r st k ch).2)
def QI{rs:At}{cs:Au}(h:xj bs rs cs){c c':Av}(e:cs[i]?=some c)(l:c'.length=c.length)(k:∀x∈c',Zv rs x):xj bs rs (cs.set i c'):=by
 refine⟨by rw[ci];exact h.1,λj b d h1 h2=>?_⟩;by_cases hj:j=i
 .subst hj;rw[aU (aa.mp e).1]at h2;cases h2;exact⟨by rw[l];exact(h.2 j b c h1 e).1,k⟩
 .rw[bE (bb hj)]at h2;exact h.2 j b d h1 h2
def Qo{rs:At}:Zv rs none:=λ_ _ z=>nomatch z
def vL{α:Type}{xs:List α}{x y:α}(h:y∈xs.set i x):y∈xs\/y=x:=fH h
theorem QH{r:Row}{hs:List A9}{bs:Ai}{t:Int}{side:Nat}{ch:Ak}(ok:r.ok)(hl:hs.length=r.ins.length)(bl:bs.length=r.outs.length)(sd:Zx r side)(h:qb r hs bs t side=some ch) :
  (∀j,ch.1=some j->j<r.ins.length)/\(∀j,ch.2.1=some j->j<r.outs.length)/\(r.wd=.joiner->∃j,ch.1=some j)/\(ch.1=none->r.wd=.source)/\Zx r ch.2.2/\xZ r ch<(qQ r).length:=by
 let⟨wd,ins,outs,pace,kinds⟩:=r;have cp:=Qg ok;unfold qb at h;cases wd with
 |source =>
  simp only at h;let⟨h1,⟨o,h2⟩,_⟩:=ok;simp only at h1 h2;subst h1 h2
  split at h
  .cases h;exact⟨(λj z=>nomatch z),λj z=>by cases z;simp,(λz=>nomatch z),λ_=>rfl,sd,by simp[xZ];lia⟩
  .cases h
 |drain =>
  simp only at h;let⟨⟨o,h1⟩,h2,_⟩:=ok;simp only at h1 h2;subst h1 h2
  split at h
  .cases h
  .cases h;exact⟨λj z=>by cases z;simp,(λj z=>nomatch z),(λz=>nomatch z),(λz=>nomatch z),sd,by simp[xZ];lia⟩
 |parter =>
  simp only at h;let⟨⟨o,h1⟩,h2,h3⟩:=ok;simp only at h1 h2 h3 bl;subst h1
  split at h
  .cases h
  .rw[aB]at h;let⟨q,hq,rfl⟩:=h;have hlt:=wn hq;refine⟨λj z=>by cases z;simp,λj z=>by cases z;show q<outs.length;lia,(λz=>nomatch z),(λz=>nomatch z),⟨a8 _,λ_=>?_,(λz=>nomatch z),λz=>absurd rfl z⟩,?_⟩
   .have:=dR (q+1) (show 0<bs.length by lia);show(((q+1)%bs.length:Nat):Int)<outs.length
    lia
   .simp only[xZ,bc];rw[am (by decide)];show q<(List.replicate (max 1 outs.length) 0).length
    rw[bA]
    lia
 |first =>
  simp only at h;let⟨⟨o,h1⟩,h2,h3⟩:=ok;simp only at h1 h2 h3 bl;subst h1
  split at h
  .cases h
  .rw[aB]at h;let⟨q,hq,rfl⟩:=h;have hlt:=wn hq;refine⟨λj z=>by cases z;simp,λj z=>by cases z;show q<outs.length;lia,(λz=>nomatch z),(λz=>nomatch z),sd,?_⟩;simp only[xZ,bc];rw[am (by decide)];show q<(List.replicate (max 1 outs.length) 0).length
   rw[bA]
   lia
 |sieve =>
  simp only at h;let⟨⟨o,h1⟩,h2,_⟩:=ok;simp only at h1 h2 bl;subst h1
  split at h
  .cases h
  .generalize (if hs.getD 0 none=some (kinds.headD 0)then 0 else 1)=q at h;have q2:q=q:=rfl
   split at h
   .rename_i hb;cases h;have hlt:q<outs.length:=by
     rcases Nat.lt_or_ge q bs.length with z|z
     .lia
     .rw[aj,fE z]at hb;cases hb
    refine⟨λj z=>by cases z;simp,λj z=>by cases z;exact hlt,(λz=>nomatch z),(λz=>nomatch z),sd,?_⟩;simp only[xZ,bc];rw[am (by decide)];show q<(List.replicate (max 1 outs.length) 0).length
    rw[bA]
    lia
   .cases h
 |joiner =>
  simp only at h;let⟨⟨o,h1⟩,h2,h3⟩:=ok;simp only at h1 h2 h3 hl;subst h1
  split at h
  .rw[aB]at h;let⟨q,hq,rfl⟩:=h;have hlt:=wn hq;rw[af]at hlt;refine⟨λj z=>by cases z;show q<ins.length;lia,λj z=>by cases z;simp,λ_=>⟨q,rfl⟩,(λz=>nomatch z),⟨a8 _,(λz=>nomatch z),λ_=>?_,λ_ z=>absurd rfl z⟩,?_⟩
   .have:=dR (q+1) (show 0<hs.length by lia);show(((q+1)%hs.length:Nat):Int)<ins.length
    lia
   .simp only[xZ,bc];rw[aq trivial];show q<(List.replicate (max ins.length 1) 0).length
    rw[bA]
    lia
  .cases h
theorem za1{rs:At}{st:PSt}{r:Row}{fb:A9}(wf:stWf bs rs st)(pU:zQ bs rs)(bo:∀b∈bs,zE b.1 b.2)(ro:∀r∈rs,r.ok)(hr:rs[k]?=some r)(hf:∀b,fb=some b->b∈rgI bs.length)(hn:fb=none->r.wd=.source) :
  stWf bs rs (je st k fb).2/\Zv rs (je st k fb).1:=by
 cases fb with
 |none =>
  refine⟨wf,λs n z=>?_⟩;have z:((k:Int),(st.gone.getD k []).headD 0)=(s,n):=aO z;cases z;refine⟨k,r,rfl,hr,hn rfl,?_⟩;have hk:=(aa.mp hr).1;have hg:st.gone[k]?=some (st.gone.getD k []):=by
   rw[aj,ac (by rw[wf.go.1];exact hk)]
   rfl
  let⟨q1,q2⟩:=wf.go.2 k r _ hr hg;have cp:=Qg (ro r (ai hr));cases e:st.gone.getD k []with
  |nil=>rw[e]at q1;simp at q1;lia
  |cons x xs=>exact q2 x (by rw[e];simp)
 |some b =>
  let⟨i,rfl,hi,ei,ne,wk⟩:=wQ wf.co bo (hf b rfl);refine⟨⟨?_,wf.so,wf.go⟩,wk _ (zej ne)⟩;show xj bs rs (st.cells.set _ _)
  rw[aP];refine QI wf.co ei (by simp[Xb]) λx hx=>?_;rcases vL hx with h|h
  .exact wk x h
  .rw[h];exact Qo
def zbH{rs:At}{st:PSt}{x:zT}{tb:A9}(wf:stWf bs rs st)(bo:∀b∈bs,zE b.1 b.2)(hf:∀b,tb=some b->b∈rgI bs.length)(hx:Zv rs x):stWf bs rs (Qy st x tb):=by
 cases tb with
 |none=>exact wf
 |some b =>
  let⟨i,rfl,hi,ei,ne,wk⟩:=wQ wf.co bo (hf b rfl);refine⟨?_,wf.so,wf.go⟩;show xj bs rs (st.cells.set _ _)
  rw[aP];refine QI wf.co ei (by simp) λz hz=>?_;rcases vL hz with h|h
  .exact wk z h
  .rw[h];exact hx
def zf6{rs:At}{sds:A6}{r:Row}{s:Int}(h:VV rs sds)(hr:rs[k]?=some r)(hs:Zx r s):VV rs (sds.set k s):=by
 refine⟨by rw[ci];exact h.1,λj r2 s2 h1 h2=>?_⟩;by_cases hj:j=k
 .subst hj;rw[aU (by rw[h.1];exact(aa.mp h1).1)]at h2;cases h2;rw[hr]at h1;cases h1;exact hs
 .rw[bE (bb hj)]at h2;exact h.2 j r2 s2 h1 h2
def jm{α:Type}{xs:List α}{d:α}(h:k<xs.length):xs[k]?=some (xs.getD k d):=by
 rw[aj,ac h];rfl
def zeu{g:A6}(h:∀x∈g,0<=x):(Ju g j).length=g.length/\∀x∈Ju g j,0<=x:=by
 refine⟨by simp[Ju],λx hx=>?_⟩;rcases vL hx with z|z
 .exact h x z
 .rw[z];have:0<=g.getD j 0:=by
   rw[aj];cases e:g[j]? with
   |none=>simp
   |some v=>exact h v (ai e)
  lia
def ziz{rs:At}{st:PSt}(wf:stWf bs rs st)(pU:zQ bs rs)(bo:∀b∈bs,zE b.1 b.2)(ro:∀r∈rs,r.ok):stWf bs rs (jb rs st k).1:=by
 unfold jb;cases hr:rs[k]? with
 |none=>exact wf
 |some r =>
  simp only;have hk:=(aa.mp hr).1;have ok:=ro r (ai hr);have hsd:=wf.so.2 k r _ hr (jm (d:=0) (by rw[wf.so.1];exact hk));have hsd':Zx r ((st.sides.getD k 0).toNat:Int):=by rw[cE hsd.1];exact hsd
  cases hc:qb r (qh rs st.cells r) (qP st.cells r) st.turn (st.sides.getD k 0).toNat with
  |none=>exact wf
  |some ch =>
   let⟨c1,c2,c3,c4,c5,c6⟩:=QH ok (by simp[qh]) (by simp[qP]) hsd' hc;have hfb:∀b,xh r ch=some b->b∈rgI bs.length:=λb hb=>by
    unfold xh at hb;let⟨j,hj1,hj2⟩:=cN.mp hb;exact JF pU hr (ai hj2)
   have htb:∀b,Qp r ch=some b->b∈rgI bs.length:=λb hb=>by
    unfold Qp at hb;let⟨j,hj1,hj2⟩:=cN.mp hb;exact XD pU hr (ai hj2)
   have hfn:xh r ch=none->r.wd=.source:=λhb=>by
    cases e:ch.1 with
    |none=>exact c4 e
    |some j =>
     unfold xh at hb;rw[e]at hb;simp at hb;have:=c1 j e
     lia
   let⟨w1,w2⟩:=za1 wf pU bo ro hr hfb hfn;have w3:=zbH w1 bo htb w2;refine⟨w3.co,zf6 w3.so hr c5,?_⟩;have hg:=jm (xs:=(movedF r st k ch).gone) (k:=k) (d:=[]) (by rw[show(movedF r st k ch).gone.length=rs.length from w3.go.1];exact hk);let⟨q1,q2⟩:=w3.go.2 k r _ hr hg;exact zgX w3.go hg (zeu q2).1 (zeu q2).2
def KnP.no{y C dx:Addr}{r:Row}{f:Str}(h:KnP a H p (.ref y) r)(hy:H y=some (.ins C dx fs))(h1:f≠"ins")(h2:f≠"outs")(h3:f≠"pace")(h4:f≠"kinds")(h5:f≠"kind"):fs.lookup f=none:=by
 let⟨y',dx',fs',e,_,hy',_,g⟩:=Rep.ob' h;cases e;rw[hy]at hy';cases hy';exact g f (zgL h1 h2 h3 h4 h5)
def StO.offT{y:Addr}{n:SN}{st:PSt}(h:StO a H y n st)(t:zX H b):b∉y::n.all:=by
 let⟨xs,hx⟩:=t;intro hb;have no:∀us,H b≠some (.lst us):=λus e=>by rw[hx]at e;cases e
 unfold SN.all at hb;rcases au.mp hb with rfl|hb
 .rw[h.hy]at hx;cases hx
 rcases au.mp hb with rfl|hb
 .exact no _ h.hs
 rcases au.mp hb with rfl|hb
 .exact no _ h.hc.out
 rcases au.mp hb with rfl|hb
 .exact no _ h.hg.out
 rcases ay.mp hb with hb|hb
 .obtain⟨us,e⟩:=h.hc.isl (aA _ hb);exact no _ e
 .obtain⟨us,e⟩:=h.hg.isl (aA _ hb);exact no _ e
def StO.repT{H H':Hp}{y:Addr}{n:SN}{st:PSt}(h:StO a H y n st)(s:Fr (y::n.all) H H'){d:D}(r:Rep H (zX H) v d):Rep H' (zX H') v d :=
 Rep.keep (λb o hp hb=>⟨by let⟨xs,hx⟩:=hp;exact⟨xs,s _ _ (h.offT ⟨xs,hx⟩) hx⟩,s _ _ (h.offT hp) hb⟩) r
def zgO(ns:A6)(k:Nat)(x:Int):(iv ns).set k (.int x)=iv (ns.set k x):=by simp[iv]
def zeV{H H':Hp}{d:D}(r:Rep H (zX H) v d)(s:Same H H'):Rep H' (zX H') v d:=Rep.keep (λb o ⟨xs,hx⟩ hb=>⟨⟨xs,s _ _ hx⟩,s _ _ hb⟩) r
inductive spAct(a:Ad)(vs:Ap)(H:Hp)(Q:VK)(E:XK):Prop
 |i (vw:V) (y:Addr) (n:SN) (st:PSt) (k:Nat) (bs:A1) (rs:At):vs=[vw,.ref y,.int k]->Rep H (Off (y::n.all)) vw (qG a bs rs)->StO a H y n st->stWf bs rs st->zQ bs rs->(∀b∈bs,zE b.1 b.2)->(∀r∈rs,r.ok)->k<rs.length->(∀v H',Fr (y::n.all) H H'->StO a H' y n (jb rs st k).1->Rep H' (zX H') v (zjY (jb rs st k).2)->Q v H')->spAct a vs H Q E
def zjw(T:Txt K mg a)(F:Fun K "act" "act" zdY f fd):FnOk P w K mg base (CXr P w) 4 f fd ["work","state","number"] (spAct a):=by
 refine F.okx zjd ?_ ?_
 .walk_at"i"
 walk_at"j";rcases h with⟨vw,y,n,st,kn,bs,rs,rfl,hw,so,wf,pU,bo,ro,hk,k⟩;refine oE7 (qI hw) λyw dw fw l1 l2 bvs pW p9=>oA9 p9 λpQ hyw ew1 ew2 hl1 hl2 hB hK no=>?_;clear p9;subst pQ;let⟨r,hr'⟩:∃r,rs[kn]?=some r:=⟨rs[kn],ac hk⟩;have ok:=ro r (ai hr');have rl:=vF ok;let⟨kv,hkv,hKn⟩:=JD hK hr';refine oE6 hKn.inv λy1 dx1 m1 m2 m3 fs1 p9=>oA9 p9 λpQ _ _ _ _ g0 f1 f2 pX=>oA5 pX λ_ g1 g2 _ _=>?_;clear p9 pX;subst pQ;have fno:=hKn.no (f:="choice") g0 (by symm) (by symm) (by symm) (by symm) (by symm);have hsd:=wf.so.2 kn r _ hr' (jm (d:=0) (by rw[wf.so.1];exact hk));let⟨side,esd⟩:∃sd:Nat,st.sides.getD kn 0=sd:=⟨(st.sides.getD kn 0).toNat,(cE hsd.1).symm⟩;have hside:st.sides[kn]?=some (side:Int):=by rw[<- esd];exact jm (by rw[wf.so.1];exact hk)
 have hsd':Zx r (side:Int):=by rw[<- esd];exact hsd
 have esd':(st.sides.getD kn 0).toNat=side:=by rw[esd];rfl
 refine oA4 (sff_l (t:=st.turn) (lc:=n.lc) (ls:=n.ls) (lg:=n.lg)) λlk1 lk2 lk3 lk4=>?_;have hAct:∀x,qb r (qh rs st.cells r) (qP st.cells r) st.turn side=x->jb rs st kn=match x with|none=>(st,none)|some ch=>((zce r st kn ch).1,some (zce r st kn ch).2):=λx e=>by
  unfold jb;rw[hr'];simp only;rw[esd',e]
  all_goals (cases x<;>rfl)
 walk_at"T";refine⟨_,(zj (zt 3 zjd.nd (zv (zr (pq 0) rfl) (pq 2)))  (zj (QY (i:=4) zjd.nd rfl (Or.inl rfl) (vars:=["belt"]) (caps:=[1]) (N:=["belt","state"]) (ON:=["work","state","number","knot","free","chosen","from_belt","to_belt","ware"]) (osc:=zi zdY) rfl rfl (by right) rfl rfl (qj (zr (pq 3) rfl)) (λ_ _ _ _=>(qq 0 (show(["belt","state"]:A8).Nodup from by symm))) (λ_ _ _ _=>qg) (λ_ _ _ _=>(xa op_isN (zv (zv (zr (pq 1) rfl) (pq 0)) zh) zA (zu _))))  (zj (zt 5 zjd.nd (zao ⟨rfl,rfl,rfl⟩ hr (pq 3) (za ‹(pq 0) (za (pq 1) (za (pq 3) ze))› (za (pq 4) (za (zr (pq 1) rfl) (za (zv (zr (pq 1) rfl) (pq 2)) ze))))))  (zj (zH (zo qH (pq 5) zA (zu _))  (zg (zk zA))  zp)  (zj (zt 6 zjd.nd ‹(zr (pq 3) rfl) (za (zv (pq 5) zh) ze)›)  (zj (zt 7 zjd.nd ‹(zr (pq 3) rfl) (za (zv (pq 5) zh) ze)›)  (zj (zt 8 zjd.nd ‹(pq 1) (za (pq 2) (za (pq 6) ze))›)  (qf (zH (zo wL (pq 7) zA (zu _))  (zg (wH (pq 8) (Qz (zv (zr (pq 1) rfl) (pq 7)) zh xn)))  zp)  (zj (wH (zv (pq 5) zh) (Qz (zr (pq 1) rfl) (pq 2) xn))  (zj (zhS (zv (zr (pq 1) rfl) (pq 2)) ‹(pq 3) (za (pq 5) ze)› zgZ zh zjQ xn)  (zg (zk (qV (za (pq 2) (za (pq 8) (za (pq 6) (za (pq 7) ze))))))))))))))))),?_⟩;exists ra hyw T.iu T.io ew2 (zw (SqL.of hl2) (zJ hkv) ?_);left;walk_at"c";exists ra g0 (CT T _) (NO T _) f2 ⟨m2,rfl,.inl ⟨⟨_,SqL.of g2⟩,λ_ _ _ _ pV hacc=>?_⟩⟩;refine qL (K:=K) (a:=m2) (xs:=iv r.outs) (λi σ H'=>∃(v0:Aq),σ=[v0,some (.ref y)]/\Same H H'/\H' pV=some (.lst (((qP st.cells r).take i).map V.bl))) ⟨_,iA3 rfl (zf hacc) (by rw[cH];exact rh)⟩ (λi σ H' _ h=>by let⟨_,_,s,_⟩:=h;exact SqL.of (s _ _ g2)) ?_ ?_
 .intro i x σ H2 hi pR;refine oE1 pR λv0 p9=>oA3 p9 λpQ s2 ha=>?_;ext;let⟨b,hb,rfl⟩:=vR hi;have hil:=(aa.mp hb).1;refine oE1 (wQ wf.co bo (XD pU hr' (ai hb))) λj p9=>oA5 p9 λpQ hj ej nej _=>?_;clear p9;subst pQ;refine oE2 (so.cell ej) λbC vs p9=>oA3 p9 λhbC hvC rvC=>?_;clear p9;let⟨c0,cs,ec⟩:∃c0 cs,zV st.cells j=c0::cs:=dk nej;have hfr:(qP st.cells r)[i]?=some (decide (c0=none)):=by rw[qP,ap,hb];simp[ec,zfF]
  rw[ec]at rvC;let⟨v1,hv1,rv1⟩:=rvC.of (i:=0) (d:=qz c0) rfl;exists ra (s2 _ _ so.hy) T.ad T.ir lk1 (zw (SqL.of (s2 _ _ so.hc.out)) (zJ (Qn hbC)) (zw (SqL.of (s2 _ _ hvC)) (zJ (j:=0) hv1) ?_));left;have ev:decide (v1=V.non)=decide (c0=none):=by
   cases c0 with
   |none=>cases rv1;rfl
   |some x=>let⟨t,us,rfl,_⟩:=Rep.tup' rv1;rfl
  rw[ev];refine⟨_,iA3 ha (zn (by rw[af,aS];lia)) ⟨_,iA3 rfl (λb o hb=>by rw[rj (rn hb hacc)];exact s2 b o hb) ?_⟩⟩;rw[rh,aT,hfr,aQ]
  rfl
 intro σ H2 pR;refine oE1 pR λv0 p9=>oA3 p9 λpQ s2 ha=>?_;ext;rw[zP,da (by simp[qP])]at ha;exists iE7 y1 (x6 a r.wd) dx1 fs1 _ _ _ (iA5 rfl (s2 _ _ g0) fno ((zgG T r.wd).mono) ?_);refine uc (zdF T).mono (spHeads.i _ _ _ bs rs st kn r _ _ rfl (jy hw s2) ((so.same s2).rep) (jy hKn s2) hr' pU bo ro wf.co (λhl H3 s3 nhl hhl=>?_));have s23:=s2.trans s3;refine ra (s23 _ _ so.hy) T.ad T.ip lk4 ?_;refine ra (s23 _ _ so.hy) T.ad T.iC lk2 (zw (SqL.of (s23 _ _ so.hs)) (zJ (xr hside)) ?_);refine iE5 y1 hl pV r _ (iE4 (qh rs st.cells r) (qP st.cells r) st.turn side (iA9 rfl (jy hKn s23) rfl ok hhl (s3 _ _ ha) (by simp[qh]) (by simp[qP]) (λvc H4 s4 tc=>?_)));have s24:=s23.trans s4;have so4:=so.same s24;have hKn4:=jy hKn s24;left;cases hc:qb r (qh rs st.cells r) (qP st.cells r) st.turn side with
 |none =>
  rw[hc]at tc;have tc:vc=.non:=tc;subst tc;have e:=hAct _ hc;refine zR (λ_=>?_) (λb=>absurd rfl b);exists k _ _ s24.fr ?_ ?_
  .rw[e];exact so4
  .rw[e];exact .non
 |some ch =>
  rw[hc]at tc;let⟨ct,rfl,hct⟩:=tc;have e:=hAct _ hc;refine oA6 (QH ok (by simp[qh]) (by simp[qP]) hsd' hc) λc1 c2 c3 c4 c5 c6=>?_;have hfb:∀b,xh r ch=some b->b∈rgI bs.length:=λb hb=>by
   unfold xh at hb;let⟨j,hj1,hj2⟩:=cN.mp hb;exact JF pU hr' (ai hj2)
  have htb:∀b,Qp r ch=some b->b∈rgI bs.length:=λb hb=>by
   unfold Qp at hb;let⟨j,hj1,hj2⟩:=cN.mp hb;exact XD pU hr' (ai hj2)
  have hfn:xh r ch=none->r.wd=.source:=λhb=>by
   cases e:ch.1 with
   |none=>exact c4 e
   |some j =>
    unfold xh at hb;rw[e]at hb;simp at hb;have:=c1 j e
    lia
  let⟨w1,w2⟩:=za1 wf pU bo ro hr' hfb hfn;have w3:=zbH w1 bo htb w2;have hg0:=jm (xs:=st.gone) (k:=kn) (d:=[]) (by rw[wf.go.1];exact hk);let⟨q1,q2⟩:=wf.go.2 kn r _ hr' hg0;have cp:=Qg ok;let⟨g0',gs,eg⟩:∃g0 gs,st.gone.getD kn []=g0::gs:=dk λz=>by rw[z]at q1;simp at q1;lia
  rw[eg]at hg0;refine zR (λb=>by cases b) (λ_=>?_);exists uc (VE T).mono (ra (s24 _ _ g0) (CT T _) (NI T _) f1 (rA hct at0 ?_));refine iE3 m1 r.ins ch.1 (iA4 rfl (s24 _ _ g1) c1 ?_);exists uc (VE T).mono (ra (s24 _ _ g0) (CT T _) (NO T _) f2 (rA hct (show atI (chV ch) 1=some (Zh ch.2.1)from rfl) ?_));refine iE3 m2 r.outs ch.2.1 (iA4 rfl (s24 _ _ g2) c2 ?_);exists uc (zaP T).mono (spTaken.i y n st kn (xh r ch) g0' gs rfl so4 hg0 (λb hb=>?_) (λv5 H5 f5 so5 rv5=>?_))
  .refine oE1 (wQ wf.co bo (hfb b hb)) λi p9=>oA5 p9 λe1 _ e2 e3 _=>?_;clear p9;exact⟨i,iA3 e1 e2 e3⟩
  have hct5:=f5 _ _ (so4.offT ⟨_,hct⟩) hct;have hKn5:=hKn4.fr f5;have fr5:=(s24.fr (ms:=y::n.all)).trans f5;rw[show(ch.1.bind λj=>r.ins[j]?)=xh r ch from rfl,show(ch.2.1.bind λj=>r.outs[j]?)=Qp r ch from rfl];exists cut (λσ' H'=>σ'=[some (.ref yw),some (.ref y),some (.int kn),some (.ref y1),some (.ref pV),some (.ref ct),some (hdV (xh r ch)),some (hdV (Qp r ch)),some v5]/\Fr (y::n.all) H5 H'/\StO a H' y n (movedF r st kn ch)) ?_ ?_
  .have w4:=λb (hb:Qp r ch=some b)=>wQ w1.co bo (htb b hb);unfold movedF;generalize Qp r ch=tb at w4 ⊢;left;cases tb with
   |none =>
    refine zR (λb=>absurd rfl b) (λ_=>?_);left;exact⟨.refl,so5⟩
   |some b =>
    refine oE1 (w4 b rfl) λi p9=>oA5 p9 λpQ _ e2 e3 _=>?_;clear p9;subst pQ;refine oE2 (so5.cell e2) λbC vs p9=>oA3 p9 λhbC hvC rvC=>?_;clear p9;have lv:vs.length=(zV (je st kn (xh r ch)).2.cells i).length:=by rw[rvC.len,af]
    have lp:0<vs.length:=by rw[lv];exact eF.mpr e3
    refine zR (λ_=>?_) (λb=>absurd (λz=>by cases z) b);exists ra so5.hy T.ad T.ir sff_l.1 (zw (SqL.of so5.hc.out) (zJ (Qn hbC)) ?_);exists wG (j:=0) hvC (QD (by decide) (by simpa using lp)) ?_;refine⟨qW (zaV hbC),?_⟩;have:=so5.putC hbC (c':=(zV (je st kn (xh r ch)).2.cells i).set 0 (je st kn (xh r ch)).1) (by rw[ft];exact Reps.set rvC 0 rv5);simpa[Qy]using this
  rintro σ H6 ⟨rfl,f6,so6⟩;have hct6:=f6 _ _ (so5.offT ⟨_,hct5⟩) hct5;have hKn6:=hKn5.fr f6;have rv6:=so5.repT f6 rv5;have fr6:=fr5.trans f6;exists rA hct6 (show atI (chV ch) 2=some (.int ch.2.2)from rfl) ?_;exists ra so6.hy T.ad T.iC sff_l.2.1 (wG so6.hs (QD (a8 _) (by rw[zP,show(movedF r st kn ch).sides.length=rs.length from w3.so.1];exact Int.ofNat_lt.mpr hk)) ?_);rw[aP,zgO];have so7:=so6.putS (s':=(movedF r st kn ch).sides.set kn ch.2.2);have f7:Fr (y::n.all) H6 (upd H6 n.ls (.lst (iv ((movedF r st kn ch).sides.set kn ch.2.2)))):=qW (by simp[SN.all]);have hct7:=f7 _ _ (so6.offT ⟨_,hct6⟩) hct6;have hKn7:=hKn6.fr f7;have rv7:=so6.repT f7 rv6;have fr7:=fr6.trans f7;generalize upd H6 n.ls (.lst (iv ((movedF r st kn ch).sides.set kn ch.2.2)))=H7 at so7 hct7 hKn7 rv7 fr7 ⊢;have hg7:=jm (xs:=(movedF r st kn ch).gone) (k:=kn) (d:=[]) (by rw[show(movedF r st kn ch).gone.length=rs.length from w3.go.1];exact hk);let⟨p1,p2⟩:=w3.go.2 kn r _ hr' hg7;let⟨bG,hbG,hgG⟩:=so7.goneL hg7;have e0:zce r st kn ch=({movedF r st kn ch with sides:=(movedF r st kn ch).sides.set kn ch.2.2,gone:=(movedF r st kn ch).gone.set kn (Ju ((movedF r st kn ch).gone.getD kn []) (xZ r ch))},⟨kn,(je st kn (xh r ch)).1,xh r ch,Qp r ch⟩):=rfl;have so8:=so7.putG (g':=Ju ((movedF r st kn ch).gone.getD kn []) (xZ r ch)) hbG;generalize (movedF r st kn ch).gone.getD kn []=g at *;have hcp:xZ r ch<g.length:=by rw[p1];exact c6
  left;unfold ziF;exists ra so7.hy T.ad T.iy sff_l.2.2.1 (zw (SqL.of so7.hg.out) (zJ (zew hbG)) ?_);exists uc (Jt T).mono (spCounted.i _ ct r ch _ rfl hKn7 hct7 c3 ?_);refine iE4 bG _ (xZ r ch) _ (iA6 rfl rfl (SqL.of hgG) (a8 _) (zJ (xr (jm (d:=0) hcp))) ?_);exists wG hgG (QD (a8 _) (by rw[zP];exact Int.ofNat_lt.mpr hcp)) ?_;rw[aP,zgO];have f8:Fr (y::n.all) H7 (upd H7 bG (.lst (iv (g.set (xZ r ch) (g.getD (xZ r ch) 0+1))))):=qW (ziy hbG);have rv8:=so7.repT f8 rv7;change StO a (upd H7 bG (.lst (iv (g.set (xZ r ch) (g.getD (xZ r ch) 0+1))))) y n _ at so8;have fr8:=fr7.trans f8;generalize e8:upd H7 bG (.lst (iv (g.set (xZ r ch) (g.getD (xZ r ch) 0+1))))=H8 at so8 f8 rv8 fr8 ⊢;left;intro t ht;refine k _ _ (fr8.trans (zdu ht)) ?_ ?_
  .rw[e];simp only;rw[e0];exact so8.same (zf ht)
  .rw[e];simp only;rw[e0];exact Reps.mkT (vs:=[.int kn,v5,hdV (xh r ch),hdV (Qp r ch)]) (.cons .int (.cons (zeV rv8 (zf ht)) (.cons (zd3 _) (.cons (zd3 _) .nil)))) ⟨_,rh⟩ rh
def zkI(T:Txt K mg a):Cal P w K mg base "act" 4 ["work","state","number"] [] (spAct a):=T.pP.cal (zjw T)
noncomputable def zC(rs:At)(st:PSt):Nat->PSt×List Move
 |0=>(st,[])
 |i+1=>((jb rs (zC rs st i).1 i).1,(zC rs st i).2++(jb rs (zC rs st i).1 i).2.toList)
theorem wt{bs:A1}{rs:At}{st:PSt}(wf:stWf bs rs st)(pU:zQ bs rs)(bo:∀b∈bs,zE b.1 b.2)(ro:∀r∈rs,r.ok):∀i,stWf bs rs (zC rs st i).1
 |0=>wf
 |i+1=>ziz (wt wf pU bo ro i) pU bo ro
theorem Wh(rs:At)(st:PSt):∀i,(zC rs st i).2.length<=i
 |0=>ar _
 |i+1=>by
  have:=Wh rs st i;show((zC rs st i).2++(jb rs (zC rs st i).1 i).2.toList).length<=i+1
  rw[aD];cases (jb rs (zC rs st i).1 i).2 with
  |none=>exact Nat.le_succ_of_le this
  |some _=>exact Nat.succ_le_succ this
section
variable{H H':Hp}{y:Addr}{n:SN}{st:PSt}
def StO.offN(h:StO a H y n st)(e:H b=none):b∉y::n.all:=by
 have no:∀o,H b≠some o:=λo z=>by rw[e]at z;cases z
 intro hb;unfold SN.all at hb;rcases au.mp hb with rfl|hb
 .exact no _ h.hy
 rcases au.mp hb with rfl|hb
 .exact no _ h.hs
 rcases au.mp hb with rfl|hb
 .exact no _ h.hc.out
 rcases au.mp hb with rfl|hb
 .exact no _ h.hg.out
 rcases ay.mp hb with hb|hb
 .obtain⟨us,z⟩:=h.hc.isl (aA _ hb);exact no _ z
 .obtain⟨us,z⟩:=h.hg.isl (aA _ hb);exact no _ z
def StO.out{M:Addr}{us vs:Ap}(h:StO a H y n st)(e:H M=some (.lst us))(nM:M∉y::n.all):StO a (upd H M (.lst vs)) y n st:=by
 have k:∀c o,c≠M->H c=some o->upd H M (.lst vs) c=some o:=λc o nc hc=>by rw[rj nc];exact hc
 have kt:∀c,zX H c->c≠M:=λc ⟨xs,hx⟩ z=>by rw[z,e]at hx;cases hx
 refine⟨k _ _ (λz=>nM (by rw[<- z];simp)) h.hy,h.hc.tup λc o hz hc=>k c o (λz=>?_) hc,k _ _ (λz=>nM (by rw[<- z];simp[SN.all])) h.hs,h.hg.tup λc o hz hc=>k c o (λz=>?_) hc,h.nd⟩
 .rcases hz with rfl|hz|hz
  .exact nM (by rw[<- z];simp[SN.all])
  .exact nM (by rw[<- z];simp[SN.all,hz])
  .exact kt c hz z
 .rcases hz with rfl|hz|hz
  .exact nM (by rw[<- z];simp[SN.all])
  .exact nM (by rw[<- z];simp[SN.all,hz])
  .exact kt c hz z
def StO.repsT(h:StO a H y n st)(s:Fr (y::n.all) H H'){ds:List D}(r:Reps H (zX H) vs ds):Reps H' (zX H') vs ds :=
 ⟨r.len,λi v d h1 h2=>h.repT s (r.g i v d h1 h2)⟩
def zbz{M:Addr}{us vs:Ap}(e:H M=some (.lst us)){d:D}(r:Rep H (zX H) v d):Rep (upd H M (.lst vs)) (zX (upd H M (.lst vs))) v d :=
 Rep.keep (λb o hp hb=>⟨Jx e hp,by let⟨xs,hx⟩:=hp;rw[rj (λz=>by rw[z,e]at hx;cases hx)];exact hb⟩) r
def zeU{M:Addr}{us vs:Ap}(e:H M=some (.lst us)){ws:Ap}{ds:List D}(r:Reps H (zX H) ws ds):Reps (upd H M (.lst vs)) (zX (upd H M (.lst vs))) ws ds :=
 ⟨r.len,λi v d h1 h2=>zbz e (r.g i v d h1 h2)⟩
end
inductive spActAll(a:Ad)(vs:Ap)(H:Hp)(Q:VK)(E:XK):Prop
 |i (vw:V) (y:Addr) (n:SN) (st:PSt) (bs:A1) (rs:At):vs=[vw,.ref y]->Rep H (Off (y::n.all)) vw (qG a bs rs)->StO a H y n st->stWf bs rs st->zQ bs rs->(∀b∈bs,zE b.1 b.2)->(∀r∈rs,r.ok)->(∀l us H',Fr (y::n.all) H H'->StO a H' y n (zC rs st rs.length).1->H l=none->l∉y::n.all->H' l=some (.lst us)->Reps H' (zX H') us ((zC rs st rs.length).2.map VD)->Q (.ref l) H')->spActAll a vs H Q E
theorem zfw(T:Txt K mg a):Cal P w K mg base "act_all" 5 ["work","state"] [] (spActAll a):=T.oM.cal λF=>by
 refine F.okx zcM ?_ ?_
 .walk_at"i"
 walk_at"j";rcases h with⟨vw,y,n,st,bs,rs,rfl,hw,so,wf,pU,bo,ro,k⟩;refine oE7 (qI hw) λyw dw fw l1 l2 bvs pW p9=>oA9 p9 λpQ hyw ew1 ew2 hl1 hl2 hB hK no=>?_;clear p9;subst pQ;have lk:pW.length=rs.length:=hK.len;have r24:=pU.1.2.2;walk_at"T";refine⟨_,(zl (zt 2 zcM.nd (zB ze))  (qf (qU jn rfl (vH (za (zS qa z9 (za (zr (pq 0) rfl) ze)) ze)) (qq 3 zcM.nd)  (zl (zt 4 zcM.nd ‹(pq 0) (za (pq 1) (za (pq 3) ze))›)  (zg (zH (zo wL (pq 4) zA (zu _))  (zg (zD (z7 ao aw av zN (pq 2) (za (pq 4) ze))))  zp))))  (zg (zk (pq 2))))),?_⟩;left;intro M hM;have nM:=so.offN hM;have s1:=zf (o:=.lst []) hM;have hM1:upd H M (.lst []) M=some (.lst []):=rh;generalize upd H M (.lst [])=H1 at s1 hM1 ⊢;exists cut (λσ' H'=>∃(v3 v4:Aq)(us:Ap),σ'=[some (.ref yw),some (.ref y),some (.ref M),v3,v4]/\Fr (y::n.all) H H'/\StO a H' y n (zC rs st rs.length).1/\H' M=some (.lst us)/\Reps H' (zX H') us ((zC rs st rs.length).2.map VD)) ?_ ?_
 .walk_at"d";exists ra (s1 _ _ hyw) T.iu T.io ew2 ?_;refine⟨_,.inl ⟨_,SqL.of (s1 _ _ hl2),rfl⟩,?_⟩;rw[lk];exists⟨by lia,by lia,?_⟩;refine Q5 (n:=(rs.length:Int).toNat) (λi σ H'=>∃(v3 v4:Aq)(us:Ap),σ=[some (.ref yw),some (.ref y),some (.ref M),v3,v4]/\Fr (y::n.all) H H'/\StO a H' y n (zC rs st i).1/\H' M=some (.lst us)/\Reps H' (zX H') us ((zC rs st i).2.map VD)) (iE3 _ _ _ (iA5 rfl s1.fr (so.same s1) hM1 (.nil))) ?_ (λσ H' h=>?_)
  .intro i σ H2 hi pR;refine oE3 pR λv3 v4 us p9=>oA5 p9 λpQ f2 so2 hM2 r2=>?_;ext;have hi:i<rs.length:=by simpa using hi
   have al:=Wh rs st i;have lu:us.length=(zC rs st i).2.length:=by rw[r2.len,af]
   left;simp only[cR];refine uc (zkI T).mono (spAct.i (.ref yw) y n _ i bs rs rfl (hw.fr f2) so2 (wt wf pU bo ro i) pU bo ro hi (λv H3 f3 so3 rv=>?_));have f23:=f2.trans f3;have hM3:=f3 _ _ nM hM2;have r3:=so2.repsT f3 r2;have eA:zC rs st (i+1)=((jb rs (zC rs st i).1 i).1,(zC rs st i).2++(jb rs (zC rs st i).1 i).2.toList):=rfl;left;cases e:(jb rs (zC rs st i).1 i).2 with
   |none =>
    rw[e]at rv eA;cases rv;refine zR (λb=>absurd rfl b) (λ_=>?_);rw[eA];exact iE3 _ _ _ (iA5 rfl f23 so3 hM3 (by rw[show(none:Option Move).toList=[]from rfl,bB];exact r3))
   |some m =>
    rw[e]at rv eA;refine zR (λ_=>?_) (λb=>?_)
    .exists⟨.inl ⟨rfl,_,SqL.of hM3⟩,iE3 M _ _ (iA5 rfl rfl hM3 (zn (by lia)) (iE3 _ _ _ (iA5 rfl (λb o nb hb=>by rw[rj (rn hb hM)];exact f23 b o nb hb) ?_ rh ?_)))⟩
     .rw[eA];exact so3.out hM3 nM
     .rw[eA];show Reps _ _ _ (List.map VD ((zC rs st i).2++[m]))
      rw[aQ];exact(zeU hM3 r3).append (Reps.one (zbz hM3 rv))
    .exfalso;refine b λz=>?_;subst z;cases rv
  .have e:((rs.length:Int)).toNat=rs.length:=by simp
   rw[e]at h;exact h
 intro σ' H2 pR;refine oE3 pR λv3 v4 us p9=>oA5 p9 λpQ f2 so2 hM2 r2=>?_;ext;left;exact k _ _ _ f2 so2 hM nM hM2 r2
noncomputable def jM(c:Av)(p:Nat):List zT:=if c.getD (p+1) none=none then(c.set (p+1) (c.getD p none)).set p none else c
noncomputable def xY(c:Av):Nat->List zT
 |0=>c
 |k+1=>jM (xY c k) (c.length-2-k)
noncomputable def Z9(c:Av):List zT:=xY c (c.length-1)
def zdd{c:Av}{p:Nat}:(jM c p).length=c.length:=by
 unfold jM
 split<;>simp
theorem vK{c:Av}:∀k,(xY c k).length=c.length
 |0=>rfl
 |k+1=>by rw[xY,zdd,vK k]
def zdc{c:Av}{p:Nat}{x:zT}(h:x∈jM c p):x∈c\/x=none:=by
 unfold jM at h
 split at h
 .rcases vL h with h|h
  .rcases vL h with h|h
   .exact .inl h
   .rw[aj]at h;cases e:c[p]? with
    |none=>rw[e]at h;exact .inr h
    |some y=>rw[e]at h;exact .inl (by rw[h];exact ai e)
  .exact .inr h
 .exact .inl h
theorem zbR{c:Av}{x:zT}:∀k,x∈xY c k->x∈c\/x=none
 |0=>λh=>.inl h
 |k+1=>λh=>by
  rcases zdc h with h|h
  .exact zbR k h
  .exact .inr h
def zfO(h:H b=some o):upd H b o=H:=by
 funext x
 by_cases e:x=b
 .rw[e,rh,h]
 .rw[rj e]
def zaY{x:zT}(r:Rep H p v (qz x)):v=.non↔x=none:=by
 cases x with
 |none=>cases r;simp
 |some x=>let⟨t,us,rfl,_⟩:=Rep.tup' r;simp
def atD{xs:Av}{p:Nat}(h:p<xs.length):xs[p]?=some (xs.getD p none):=jm h
def zcE:Sp:=λvs H Q _=>∃(b:Addr)(us:Ap)(c:Av),vs=[.ref b]/\H b=some (.lst us)/\Reps H (zX H) us (c.map qz)/\c.length<=100/\∀us',Reps H (zX H) us' ((Z9 c).map qz)->Q .non (upd H b (.lst us'))
def zco(T:Txt K mg a):Cal P w K mg base "move_belt" 1 ["cells"] [] zcE:=T.nW.cal λF=>by
 refine F.okx V6 ?_ ?_
 .walk_at"i"
 walk_at"j";let⟨b,us,c,rfl,hb,rb,lc,k⟩:=h;have lu:us.length=c.length:=by rw[rb.len,af]
 walk_at"T";refine⟨_,(zg (qU jn rfl (zjo (za (zG XE (zS qa z9 (za (pq 0) ze)) zh) (za (QZ vm zh) (za (QZ vm zh) ze)))) (qq 1 V6.nd)  (zg (zH (zo qH (zv (pq 0) (zG zK (pq 1) zh)) zA (zu _))  (zl (wH (zv (pq 0) (pq 1)) (Qz (pq 0) (zG zK (pq 1) zh) xn))  (zg (wH zA (Qz (pq 0) (pq 1) xn))))  zp)))),?_⟩;left;walk_at"d";exists⟨_,.inl ⟨_,SqL.of hb,rfl⟩,?_⟩;rw[lu];exists⟨_,_,rfl,⟨by lia,by lia,by lia,by lia⟩,?_⟩;rw[show((c.length:Int)-2 - -1).toNat=c.length-1 by lia];refine zkE (K:=K) (λi σ H'=>∃(v1:Aq)(us':Ap),σ=[some (.ref b),v1]/\H'=upd H b (.lst us')/\Reps H (zX H) us' ((xY c i).map qz)) ⟨_,us,rfl,(zfO hb).symm,rb⟩ ?_ ?_
 .rintro i σ H' hi ⟨v1,us',rfl,rfl,r1⟩;have lm:=vK (c:=c) i;have l1:us'.length=c.length:=by rw[r1.len,af,lm]
  let⟨p,hp⟩:∃p,c.length-2-i=p:=⟨_,rfl⟩;have ep:(c.length:Int)-2-i=p:=by lia
  have hp1:p+1<c.length:=by lia
  rw[ep];have eS:xY c (i+1)=jM (xY c i) p:=by rw[xY,hp]
  rw[eS];generalize xY c i=m at r1 lm ⊢;have m0:m[p]?=some (m.getD p none):=atD (by lia);have m1:m[p+1]?=some (m.getD (p+1) none):=atD (by lia);let⟨u0,hu0,ru0⟩:=r1.of (i:=p) (d:=qz (m.getD p none)) (by rw[ap,m0];rfl);let⟨u1,hu1,ru1⟩:=r1.of (i:=p+1) (d:=qz (m.getD (p+1) none)) (by rw[ap,m1];rfl);have e1:((p:Int)+1)=((p+1:Nat):Int):=by lia
  left;rw[e1];refine zw (SqL.of rh) (zJ hu1) ?_;exists zR (λz=>?_) (λz=>?_)
  .have z:=(zaY ru1).mp z;exists zw (SqL.of rh) (zJ hu0) ?_;exists wG rh (QD (by lia) (by lia)) ?_;exists wG rh (QD (by lia) (by simp;lia)) ?_;rw[ZR,ZR];refine⟨_,_,rfl,rfl,?_⟩;unfold jM;rw[aq z,ft,ft,aP,aP];exact Reps.set (Reps.set r1 _ ru0) _ .non
  .have z:m.getD (p+1) none≠none:=λy=>z ((zaY ru1).mpr y);exists⟨_,us',rfl,rfl,?_⟩;unfold jM;rw[am z];exact r1
 .rintro σ H' ⟨v1,us',rfl,rfl,r1⟩;exact k _ r1
noncomputable def qi(bs:A1)(t:Int)(cs:Au):Nat->List Av
 |0=>cs
 |i+1=>if t%(bs.getD i (0,1)).2=0 then(qi bs t cs i).set i (Z9 ((qi bs t cs i).getD i []))else qi bs t cs i
theorem ZP{bs:A1}{rs:At}{t:Int}{cs:Au}(h:xj bs rs cs):∀i,xj bs rs (qi bs t cs i)
 |0=>h
 |i+1=>by
  have ih:=ZP h i (t:=t);rw[qi]
  split
  .generalize qi bs t cs i=ds at ih ⊢;cases e:ds[i]? with
   |none=>rw[ck (dF.mp e)];exact ih
   |some c =>
    have ec:ds.getD i []=c:=by rw[aj,e];rfl
    rw[ec];have hi:i<bs.length:=by rw[<- ih.1];exact(aa.mp e).1
    refine QI ih e (vK _) λx hx=>?_;rcases zbR _ hx with hx|hx
    .exact(ih.2 i _ c (ac hi) e).2 x hx
    .rw[hx];exact Qo
  .exact ih
noncomputable def passF(bs:A1)(rs:At)(st:PSt):PSt×List Move:=({(zC rs st rs.length).1 with turn:=(zC rs st rs.length).1.turn+1,cells:=qi bs (zC rs st rs.length).1.turn (zC rs st rs.length).1.cells bs.length},(zC rs st rs.length).2)
def zgv{rs:At}{st:PSt}(wf:stWf bs rs st)(pU:zQ bs rs)(bo:∀b∈bs,zE b.1 b.2)(ro:∀r∈rs,r.ok):stWf bs rs (passF bs rs st).1:=by
 have w:=wt wf pU bo ro rs.length;exact⟨ZP w.co _,w.so,w.go⟩
def StO.ney{y:Addr}{n:SN}{st:PSt}(h:StO a H y n st):y∉n.all:=λz=>by
 have hy:=h.hy;have c:∀vs,H y≠some (.lst vs):=λvs z=>by rw[hy]at z;cases z
 simp only[SN.all,au,ay]at z;rcases z with z|z|z|z|z
 .exact c _ (by rw[z];exact h.hs)
 .exact c _ (by rw[z];exact h.hc.out)
 .exact c _ (by rw[z];exact h.hg.out)
 .obtain⟨vs,hv⟩:=h.hc.isl (aA _ z);exact c _ hv
 .obtain⟨vs,hv⟩:=h.hg.isl (aA _ z);exact c _ hv
def StO.putT{y:Addr}{n:SN}{st:PSt}{t:Int}(h:StO a H y n st):StO a (upd H y (.ins a.s n.dx (sff t n.lc n.ls n.lg))) y n {st with turn:=t}:=by
 have ny:=h.ney;have tn:∀b,zX H b->b≠y:=λb ⟨xs,hx⟩ z=>by rw[z,h.hy]at hx;cases hx
 simp only[SN.all,au,ay,not_or]at ny;let⟨n1,n2,n3,n4,n5⟩:=ny;refine⟨rh,h.hc.tup λb o c hb=>?_,?_,h.hg.tup λb o c hb=>?_,h.nd⟩
 .rw[rj ?_]
  .exact hb
  .rcases c with rfl|c|c
   .exact bb n2
   .exactλz=>n4 (by rw[<- z];exact c)
   .exact tn b c
 .rw[rj (bb n1)];exact h.hs
 .rw[rj ?_]
  .exact hb
  .rcases c with rfl|c|c
   .exact bb n3
   .exactλz=>n5 (by rw[<- z];exact c)
   .exact tn b c
def zcw{rs:At}(h:Rep H p v (qG a bs rs)):∃y dx fs l1 bvs,v=.ref y/\p y/\H y=some (.ins a.r dx fs)/\fs.lookup ("belts":Str)=some (.ref l1)/\p l1/\H l1=some (.lst bvs)/\Bts a H p bvs bs:=by
 let⟨y,dx,fs,rfl,py,hy,g1,g2⟩:=Rep.ob' h;let⟨u1,e1,r1⟩:=g1 _ _ zaX;let⟨l1,bvs,rfl,pl,h1,b1⟩:=r1.lst';exact⟨y,dx,fs,l1,bvs,rfl,py,hy,e1,pl,h1,.of b1⟩
theorem zkf{t u:Int}{lc ls lg:Addr}:qw "turn" (.int u) (sff t lc ls lg)=sff u lc ls lg:=rfl
def zfX(a:Ad):Sp:=λvs H Q _=>∃(vw:V)(y:Addr)(n:SN)(st:PSt)(bs:A1)(rs:At),vs=[vw,.ref y]/\Rep H (Off (y::n.all)) vw (qG a bs rs)/\StO a H y n st/\stWf bs rs st/\zQ bs rs/\(∀b∈bs,zE b.1 b.2)/\(∀r∈rs,r.ok) /\
 ∀l us H',Fr (y::n.all) H H'->StO a H' y n (passF bs rs st).1->H l=none->l∉y::n.all->H' l=some (.lst us)->Reps H' (zX H') us ((passF bs rs st).2.map VD)->Q (.ref l) H'
def zar(T:Txt K mg a)(F:Fun K "pass_turn" "pass_turn" vp f fd):FnOk P w K mg base (CXr P w) 6 f fd ["work","state"] (zfX a):=by
 refine F.okx V3 ?_ ?_
 .walk_at"i"
 walk_at"j";refine oE6 h λvw y n st bs rs p9=>oA8 p9 λpQ hw so wf pU bo ro k=>?_;clear p9 h;subst pQ;have b24:=pU.1.1.2;walk_at"T";refine⟨_,(zj (zt 2 V3.nd ‹(pq 0) (za (pq 1) ze)›)  (qf (qU jn rfl (jl (za (zr (pq 0) rfl) ze)) (xW (n:=2) rfl (qd (qq 3 V3.nd) (qd (qq 4 V3.nd) jO)))  (zg (zH (zo (qT hr.units1) (zG ju (zr (pq 1) rfl) (zr (pq 4) rfl)) zh (zu _))  (zg (zD ‹(zv (zr (pq 1) rfl) (pq 3)) ze›))  zp)))  (zj (ze0 (pq 1) zh zjR)  (zg (zk (pq 2)))))),?_⟩;exists uc (zfw T).mono (spActAll.i vw y n st bs rs rfl hw so wf pU bo ro (λl us H1 f1 so1 nl nl' hl rl=>?_));have wA:=wt wf pU bo ro rs.length;have hw1:=hw.fr f1;refine oE5 (zcw hw1) λyw dw fw l1 bvs p9=>oA7 p9 λpQ _ hyw ew1 pl1 hl1 hB=>?_;clear p9;subst pQ;have lb:bvs.length=bs.length:=hB.len;generalize hA:zC rs st rs.length=A at so1 rl wA;refine oA4 (sff_l (t:=A.1.turn) (lc:=n.lc) (ls:=n.ls) (lg:=n.lg)) λlk1 lk2 lk3 lk4=>?_;left;let pY:St->Hp->Prop:=λσ' H'=>∃(v3 v4:Aq),σ'=[some (.ref yw),some (.ref y),some (.ref l),v3,v4]/\Fr (y::n.all) H1 H'/\StO a H' y n {A.1 with cells:=qi bs A.1.turn A.1.cells bs.length};refine cut pY ?_ ?_
 .walk_at"d";exists ra hyw T.iu T.iR ew1 (iE2 l1 _ (iA3 rfl hl1 ?_));let pZ:Nat->St->Hp->Prop:=λi σ H'=>∃(v3 v4:Aq),σ=[some (.ref yw),some (.ref y),some (.ref l),v3,v4]/\Fr (y::n.all) H1 H'/\StO a H' y n {A.1 with cells:=qi bs A.1.turn A.1.cells i};refine Vz (K:=K) (a:=l1) (xs:=bvs) pZ (iE2 _ _ (iA3 rfl Fr.refl so1)) (λi σ H' _ h=>by let⟨_,_,_,f,_⟩:=h;exact SqL.of (f _ _ pl1 hl1)) ?_ ?_
  .intro i x t σ H2 hi ht pR;refine oE2 pR λv3 v4 p9=>oA3 p9 λpQ f2 so2=>?_;ext;let⟨b,hb',hBt⟩:=hB.at hi;refine oE3 hBt.inv λy1 dx1 fs1 p9=>oA5 p9 λpQ py1 g0 _ e2=>?_;clear p9;subst pQ;have g02:=f2 _ _ py1 g0;have hil:=(aa.mp hb').1;have bk:=bo b (ai hb');have f3:=f2.trans (zdu (ms:=y::n.all) (o:=.tup [.int i,.ref y1]) ht);have so3:=so2.same (zf (o:=.tup [.int i,.ref y1]) ht);have g03:=rq (o:=.tup [.int i,.ref y1]) g02 ht;refine un2 rh ?_;generalize upd H2 t (.tup [.int i,.ref y1])=H3 at f3 so3 g03 ⊢;have eb:bs.getD i (0,1)=b:=by rw[aj,hb'];rfl
   have co:=ZP (t:=A.1.turn) wA.co i;have hc:=jm (xs:=qi bs A.1.turn A.1.cells i) (d:=[]) (show i<_ by rw[co.1];exact hil);refine oE2 (so3.cell hc) λbC vs p9=>oA3 p9 λhbC hvC rvC=>?_;clear p9;have lc:=(co.2 i b _ hb' hc).1;have b1:=bk.1;have b2:=bk.2.1;have b3:=bk.2.2.1;exists ra so3.hy T.ad T.ip lk4 ?_;refine ra g03 T.iO T.iT e2 ?_;exists zR (λz=>?_) (λz=>?_)
   .exists uc (zco T).mono ?_;refine ra so3.hy T.ad T.ir lk1 (zw (SqL.of so3.hc.out) (zJ (Qn hbC)) ?_);refine iE3 bC vs _ (iA5 rfl hvC rvC (by lia) (λus' r'=>?_));refine iE2 _ _ (iA3 rfl (f3.trans (qW (zaV hbC))) ?_);have:=so3.putC hbC r';rw[qi,eb,aq z];exact this
   .refine iE2 _ _ (iA3 rfl f3 ?_);rw[qi,eb,am z];exact so3
  .intro σ H2 pR;refine oE2 pR λv3 v4 p9=>oA3 p9 λpQ f2 so2=>?_;ext;rw[lb]at so2;exact iE2 _ _ (iA3 rfl f2 so2)
 intro σ' H2 pR;refine oE2 pR λv3 v4 p9=>oA3 p9 λpQ f2 so2=>?_;ext;exists⟨y,?_⟩;refine iE4 a.s n.dx _ _ (iA6 rfl so2.hy T.ad T.ip lk4 ?_);refine iE2 _ 1 (iA3 rfl rfl (iE2 n.dx _ (iA3 so2.hy (show 4<1000 by decide) ?_)));rw[zkf];have f3:=f2.trans (qW (x:=y) (o:=.ins a.s n.dx (sff (A.1.turn+1) n.lc n.ls n.lg)) (by simp));exists k l us _ (f1.trans f3) (by rw[passF,hA];exact so2.putT) nl nl' (f3 _ _ nl' hl) (by rw[passF,hA];exact so1.repsT f3 rl)
def zcl(T:Txt K mg a):Cal P w K mg base "pass_turn" 6 ["work","state"] [] (zfX a):=T.nX.cal (zar T)
def zf2(a:Ad):Sp:=λvs H Q _=>∃(v:V)(st:PSt)(p:A5),vs=[v]/\Rep H p v (X9 a st)/\st.cells.length<=100/\st.gone.length<=100/\∀v' H',Same H H'->zey a H H' v' st->Q v' H'
def We(T:Txt K mg a):Cal P w K mg base "copied_state" 3 ["state"] [] (zf2 a):=T.lZ.cal λF=>by
 refine F.okx Jf ?_ ?_
 .walk_at"i"
 walk_at"j";let⟨v,st,p,rfl,hs,lc,lg,k⟩:=h;let⟨y,dx,fs,rfl,py,hy,g1,g2⟩:=Rep.ob' hs;let⟨u1,e1,r1⟩:=g1 _ _ (za6 st);let⟨u2,e2,r2⟩:=g1 _ _ (WW st);let⟨u3,e3,r3⟩:=g1 _ _ (WV st);let⟨u4,e4,r4⟩:=g1 _ _ (za7 st);cases r1;walk_at"T";refine⟨_,(zg (zk (j7 (x:="State") ⟨rfl,rfl,rfl⟩ hr (za (zr (pq 0) rfl) (za (zr (pq 0) rfl) (za (zr (pq 0) rfl) (za (zr (pq 0) rfl) ze))))))),?_⟩;exists⟨a.s,_,_,_,(zeb T).mono,y,a.s,dx,fs,_,rfl,hy,T.ad,T.ip,e1,?_⟩;refine ra hy T.ad T.ir e2 ?_;refine ra hy T.ad T.iC e3 ?_;refine ra hy T.ad T.iy e4 ?_;exact zbU T (st:=st) r2 r3 r4 lc lg λy' H' s' sn=>k _ _ s' sn
def zeI(a:Ad):Sp:=λvs H Q _=>∃(vw v:V)(st:PSt)(bs:A1)(rs:At)(p:A5),vs=[vw,v]/\Rep H (Off []) vw (qG a bs rs)/\Rep H p v (X9 a st)/\stWf bs rs st/\zQ bs rs/\(∀b∈bs,zE b.1 b.2)/\(∀r∈rs,r.ok) /\
 ∀v' H',Same H H'->zey a H H' v' (passF bs rs st).1->Q v' H'
def zdD(T:Txt K mg a):Cal P w K mg base "one_turn" 7 ["work","state"] [] (zeI a):=T.oB.cal λF=>by
 refine F.okx zbi ?_ ?_
 .walk_at"i"
 walk_at"j";let⟨vw,v,st,bs,rs,p,rfl,hw,hv,wf,pU,bo,ro,k⟩:=h;have b24:=pU.1.1.2;have r24:=pU.1.2.2;walk_at"T";refine⟨_,(zl (zt 2 zbi.nd ‹(pq 1) ze›)  (zl (zD ‹(pq 0) (za (pq 2) ze)›)  (zg (zk (pq 2))))),?_⟩;exists uc (We T).mono ⟨v,st,p,rfl,hv,by rw[wf.co.1];lia,by rw[wf.go.1];lia,λv' H1 s1 sn=>?_⟩;let⟨y,n,rfl,so1,ny,nd,nn⟩:=sn;have na:∀b∈y::n.all,H b=none:=λb hb=>by
  rcases au.mp hb with rfl|hb
  .exact ny
  .exact nn b hb
 have hw1:Rep H1 (Off (y::n.all)) vw (qG a bs rs):=jy (hw.more (ns:=y::n.all) λb hb=>.inr (na b hb)) s1;exists uc (zcl T).mono ⟨vw,y,n,st,bs,rs,rfl,hw1,so1,wf,pU,bo,ro,λl us H2 f2 so2 _ _ _ _=>?_⟩;left;exact k _ _ (λb o hb=>f2 b o (λz=>by rw[na b z]at hb;cases hb) (s1 b o hb)) ⟨y,n,rfl,so2,ny,nd,nn⟩
noncomputable def zm(bs:A1)(rs:At):Nat->PSt
 |0=>qX bs rs
 |n+1=>(passF bs rs (zm bs rs n)).1
def zg7{rs:At}(ro:∀r∈rs,r.ok):stWf bs rs (qX bs rs):=by
 refine⟨⟨by simp[qX],λi b c h1 h2=>?_⟩,⟨by simp[qX],λi r s h1 h2=>?_⟩,⟨by simp[qX],λi r g h1 h2=>?_⟩⟩
 .simp only[qX,ap,h1,Option.map_some,eT]at h2;subst h2;refine⟨by simp,λx hx=>?_⟩;rw[(cK.mp hx).2];exact Qo
 .have hs:=ai h2;have e:s=0:=(cK.mp hs).2;subst e;have ok:=ro r (ai h1);let⟨wd,ins,outs,pc,ks⟩:=r;refine⟨by decide,λhw=>?_,λhw=>?_,λ_ _=>rfl⟩
  .simp only at hw;subst hw;have:=ok.2.1;simp only at this ⊢
   lia
  .simp only at hw;subst hw;have:=ok.2.1;simp only at this ⊢
   lia
 .simp only[qX,ap,h1,Option.map_some,eT]at h2;subst h2;refine⟨rfl,λn hn=>?_⟩;rw[(cK.mp hn).2];decide
theorem z6{bs:A1}{rs:At}(pU:zQ bs rs)(bo:∀b∈bs,zE b.1 b.2)(ro:∀r∈rs,r.ok):∀n,stWf bs rs (zm bs rs n)
 |0=>zg7 ro
 |n+1=>zgv (z6 pU bo ro n) pU bo ro
def JZ:Sp:=λvs H Q _=>∃a b:Int,vs=[.int a,.int b]/\0<=a/\0<=b/\Q (.int (Int.gcd a b:Int)) H
def zfa(F:Fun K "common" "common" Xq f fd):FnOk P w K mg base (CXr P w) 1 f fd ["one","other"] JZ:=by
 refine F.okx zeN ?_ ?_
 .walk_at"i"
 walk_at"k";let⟨a,b,rfl,ha,hb,k⟩:=h;refine⟨_,(zl (zt 2 zeN.nd (pq 0))  (zl (zt 3 zeN.nd (pq 1))  (zl (zbD jn (zo Q0 (pq 3) zh (zu _))  (zl (zt 4 zeN.nd (zG ju (pq 2) (pq 3)))  (zl (zt 2 zeN.nd (pq 3))  (zg (zt 3 zeN.nd (pq 4))))))  (zg (zk (pq 2)))))),?_⟩;walk_at"r";refine⟨λm σ H'=>∃p r v,σ=[some (.int a),some (.int b),some (.int p),some (.int r),v]/\H'=H/\0<=p/\0<=r/\Int.gcd p r=Int.gcd a b/\m=r.toNat,⟨_,a,b,none,rfl,rfl,ha,hb,rfl,rfl⟩,?_⟩;rintro m σ H' ⟨p,r,v,rfl,rfl,hp,hr',hg,rfl⟩;walk_at"r";refine zR (λh=>?_) (λh=>?_)
 .refine zkk ?_;have h1:=bY p (show r≠0 by lia);have h2:=bM p h;exact⟨h,_,by lia,r,p%r,_,rfl,rfl,hr',h1,(zg0 hp h).trans hg,rfl⟩
 .have e:r=0:=by lia
  subst e;have e2:=zie hp;rw[hg]at e2;rw[<- e2];exact k
def Pac(ns:A6):Prop:=∀n∈ns,0<n/\n<=1000000000000
def Pac.nil:Pac []:=λ_ h=>nomatch h
def Pac.snoc(h:Pac ns)(h1:0<n)(h2:n<=1000000000000):Pac (ns++[n]):=λk hk=>by
 rcases ay.mp hk with z|z
 .exact h k z
 .rw[ak.mp z];exact⟨h1,h2⟩
def Pac.at(h:Pac ns){x:V}(e:(ns.map V.int)[i]?=some x):∃n,x=.int n/\0<n/\n<=1000000000000/\n∈ns/\ns.take (i+1)=ns.take i++[n]:=by
 rw[ap,aB]at e;let⟨n,hn,rfl⟩:=e;have hm:=ai hn;refine⟨n,rfl,(h n hm).1,(h n hm).2,hm,?_⟩;rw[hW,hn]
 rfl
def zeJ(K:A0):Sp:=λvs H Q _=>∃(l:Addr)(ns:A6),vs=[.ref l]/\SqL K H l (ns.map V.int)/\Pac ns/\∀L,IsLcm ns L->Q (.int L) H
def zcq(T:Txt K mg a):Cal P w K mg base "common" 1 ["one","other"] [] JZ:=T.pd.cal zfa
def zfv(T:Txt K mg a):Cal P w K mg base "lasting" 2 ["paces"] [] (zeJ K):=T.oI.cal λF=>by
 refine F.okx zcJ ?_ ?_
 .walk_at"i"
 walk_at"k";let⟨l,ns,rfl,hl,hn,k⟩:=h;refine⟨_,(zl (zt 1 zcJ.nd zh)  (zl (qU jn rfl (qj (pq 0)) (qq 2 zcJ.nd)  (zg (zt 1 zcJ.nd (zG zav (zG zaw (pq 1) ‹(pq 1) (za (pq 2) ze)›) (pq 2)))))  (zg (zk (pq 1))))),?_⟩;left;walk_at"d";refine⟨l,rfl,.inl ⟨⟨_,hl⟩,?_⟩⟩;refine qL (K:=K) (a:=l) (xs:=ns.map V.int) (λi σ H'=>∃(m:Int)(v:Aq),σ=[some (V.ref l),some (V.int m),v]/\H'=H/\IsLcm (ns.take i) m) ⟨1,none,rfl,rfl,IsLcm.nil⟩ (λi σ H' _ ⟨_,_,_,e,_⟩=>e ▸ hl) ?_ ?_
 .rintro i x σ H1 hi ⟨m,v,rfl,rfl,hm⟩;let⟨p,rfl,p0,p1,_,ht⟩:=hn.at hi;walk_at"r";have g0:(0:Int)<(Int.gcd m p:Int):=by have:=zaG (a:=m) (b:=p) (by lia);lia
  have g1:(Int.gcd m p:Int)<=p:=zaH p0;refine⟨_,_,_,zcq T,m,p,rfl,cS hm.pos,cS p0,?_⟩;walk_at"r";refine⟨fd_ok g0 ?_,mul_okR (by lia) (by lia),?_⟩
  .have:(1000000000000:Nat)<2^8999:=by symm
   lia
  .rw[fdiv_pos g0,ht];exact⟨_,_,rfl,hm.step p0⟩
 .rintro σ H1 ⟨m,v,rfl,rfl,hm⟩;rw[af,aV]at hm;walk_at"r";exact k m hm
theorem IsLcm.ex:∀{ns:A6},Pac ns->∃L,IsLcm ns L:=λ{ns} h=>by
 have:∀k,k<=ns.length->∃L,IsLcm (ns.take k) L:=λk=>by
  induction k with
  |zero=>exactλ_=>⟨1,IsLcm.nil⟩
  |succ k ih =>
   intro hk;let⟨L,hL⟩:=ih (by lia);have e:ns.take (k+1)=ns.take k++[ns[k]]:=by rw[hW,ac (by lia)];rfl
   rw[e];exact⟨_,hL.step (h _ (cc _)).1⟩
 have:=this ns.length (ar _)
 rwa[aV]at this
def zh8(T:Txt K mg a)(wd:Wd):kitOne K (.ref (x6 a wd)) (.ref a.m)=some (decide (wd=.drain)):=by
 cases wd
 .exact T.lO
 .exact T.mh
 .exact T.lP
 .exact T.kx
 .exact T.mj
 .exact T.lQ
def zjG(T:Txt K mg a)(wd:Wd):kitOne K (.ref (x6 a wd)) (.ref a.l)=some (decide (wd=.source)):=by
 cases wd
 .exact T.ly
 .exact T.lR
 .exact T.lA
 .exact T.ki
 .exact T.lS
 .exact T.lB
noncomputable def jv(wd:Wd)(rs:At)(n:Nat):List Int:=((List.range n).filter λi=>decide (rs[i]?.map Row.wd=some wd)).map λ(i:Nat)=>(i:Int)
def xF{rs:At}{n:Nat}{r:Row}(h:rs[n]?=some r):jv wd rs (n+1)=jv wd rs n++if r.wd=wd then [(n:Int)]else []:=by
 unfold jv;rw[gr,List.filter_append,aQ]
 congr 1
 by_cases e:r.wd=wd<;>simp[h,e]
noncomputable def zY(wd:Wd)(rs:At):List Int:=jv wd rs rs.length
def xq(wd:Wd)(rs:At)(n:Nat):(jv wd rs n).length<=n:=by
 unfold jv;rw[af];exact aJ (List.length_filter_le _ _) (by simp)
def Qb{rs:At}{m:Int}(h:m∈zY wd rs):∃(i:Nat)(r:Row),m=i/\rs[i]?=some r/\r.wd=wd:=by
 unfold zY jv at h;let⟨i,hi,rfl⟩:=aK.mp h;rw[cJ]at hi;have h2:=b5 hi.2;rw[aB]at h2;let⟨r,h3,h4⟩:=h2;exact⟨i,r,rfl,h3,h4⟩
def zbO{rs:At}{r:Row}(h:rs[i]?=some r)(hw:r.wd=wd):(i:Int)∈zY wd rs:=by
 unfold zY jv;refine aK.mpr ⟨i,cJ.mpr ⟨br.mpr (aa.mp h).1,?_⟩,rfl⟩;rw[h];exact aZ (by rw[<- hw];rfl)
def zfY(a:Ad)(wd:Wd):Sp:=λvs H Q _=>∃(v:V)(bs:A1)(rs:At)(p:A5),vs=[v]/\Rep H p v (qG a bs rs)/\rs.length<=100/\∀q H',Same H H'->H q=none->H' q=some (.lst (iv (zY wd rs)))->Q (.ref q) H'
def WK(T:Txt K mg a):MCal P w K mg base a.r "drains" 1 ["self"] [] (zfY a .drain):=T.mP.cal T.iu λF=>by
 refine F.okx Xj ?_ ?_
 .walk_at"i"
 walk_at"j";refine oE4 h λv bs rs p p9=>oA4 p9 λpQ hv l100 k=>?_;clear p9 h;subst pQ;refine oE7 (qI hv) λy dx fs l1 l2 bvs pW p9=>oA9 p9 λpQ hy e1 e2 h1 h2 hB hK no=>?_;clear p9;subst pQ;walk_at"T";refine⟨_,(zg (zk (jJ (vars:=["number","knot"]) (caps:=[]) (N:=["number","knot"]) (ON:=["self"]) (osc:=zi xP) rfl rfl (by right) rfl rfl (jl (za (zr (pq 0) rfl) ze)) (λ_ _ _ _=>(xW (n:=2) rfl (qd (qq 0 (show(["number","knot"]:A8).Nodup from by symm)) (qd (qq 1 (show(["number","knot"]:A8).Nodup from by symm)) jO)))) (λ_ _ _ _=>(zd5 (qp (zS ji zL (za (pq 1) (za qS ze))) (λ_=>rfl)))) (λ_ _ _ _=>(pq 0))))),?_⟩;left;walk_at"c";exists ra hy T.iu T.io e2 (iE2 l2 _ (iA3 rfl h2 (λ_ _ _ _ pV hacc=>?_)));refine Vz (K:=K) (a:=l2) (xs:=pW) (λi σ H'=>∃(v0 v1:Aq),σ=[v0,v1]/\Same H H'/\H' pV=some (.lst (iv (jv .drain rs i)))) (iE2 _ _ (iA3 rfl (zf hacc) rh)) (λi σ H' _ h=>by let⟨_,_,_,s,_⟩:=h;exact SqL.of (s _ _ h2)) ?_ ?_
 .intro i x t σ H' hi ht pR;refine oE2 pR λv0 v1 p9=>oA3 p9 λpQ s7 e1'=>?_;ext;let⟨r,hr',hKn⟩:=hK.at hi;refine oE6 hKn.inv λy1 dx1 m1 m2 m3 fs1 p9=>oA9 p9 λpQ _ _ _ _ g0 f1 f2 pX=>oA5 pX λ_ g1 g2 _ _=>?_;clear p9 pX;subst pQ;have hil:=(aa.mp hr').1;have s8:=s7.trans (zf (o:=.tup [.int i,.ref y1]) ht);have e8:=rq (o:=.tup [.int i,.ref y1]) e1' ht;refine un2 rh ?_;generalize upd H' t (.tup [.int i,.ref y1])=H8 at s8 e8 ⊢;exists iE2 (.ref a.m) _ (iA3 T.kh rfl (iE4 _ _ _ _ (iA4 rfl ((WT T r.wd).ty (CT T r.wd) (s8 _ _ g0)) (.inl ⟨_,rfl,zh8 T r.wd⟩) ?_)));exists zR (λb=>?_) (λb=>?_)
  .refine⟨_,iA3 e8 (zn (by have:=xq .drain rs i;rw[zP];lia)) (iE2 _ _ (iA3 rfl (λb o hb=>by rw[rj (rn hb hacc)];exact s8 b o hb) ?_))⟩;rw[rh,xF hr',aq b,jr]
  .exact iE2 _ _ (iA3 rfl s8 (by rw[xF hr',am b,bB];exact e8))
 intro σ H2 pR;refine oE2 pR λv0 v1 p9=>oA3 p9 λpQ s2 ha=>?_;ext;rw[hK.len]at ha;exact k _ _ s2 hacc ha
def vM(T:Txt K mg a):MCal P w K mg base a.r "sources" 1 ["self"] [] (zfY a .source):=T.md.cal T.iu λF=>by
 refine F.okx Jg ?_ ?_
 .walk_at"i"
 walk_at"j";let⟨v,bs,rs,p,rfl,hv,l100,k⟩:=h;let⟨y,dx,fs,l1,l2,bvs,pW,rfl,hy,e1,e2,h1,h2,hB,hK,no⟩:=qI hv;walk_at"T";refine⟨_,(zg (zk (jJ (vars:=["number","knot"]) (caps:=[]) (N:=["number","knot"]) (ON:=["self"]) (osc:=zi xp) rfl rfl (by right) rfl rfl (jl (za (zr (pq 0) rfl) ze)) (λ_ _ _ _=>(xW (n:=2) rfl (qd (qq 0 (show(["number","knot"]:A8).Nodup from by symm)) (qd (qq 1 (show(["number","knot"]:A8).Nodup from by symm)) jO)))) (λ_ _ _ _=>(zd5 (qp (zS ji zL (za (pq 1) (za qS ze))) (λ_=>rfl)))) (λ_ _ _ _=>(pq 0))))),?_⟩;left;walk_at"c";exists ra hy T.iu T.io e2 ⟨l2,_,rfl,h2,λ_ _ _ _ pV hacc=>?_⟩;refine Vz (K:=K) (a:=l2) (xs:=pW) (λi σ H'=>∃(v0 v1:Aq),σ=[v0,v1]/\Same H H'/\H' pV=some (.lst (iv (jv .source rs i)))) ⟨_,_,rfl,zf hacc,rh⟩ (λi σ H' _ h=>by let⟨_,_,_,s,_⟩:=h;exact SqL.of (s _ _ h2)) ?_ ?_
 .rintro i x t σ H' hi ht ⟨v0,v1,rfl,s7,e1'⟩;let⟨r,hr',hKn⟩:=hK.at hi;let⟨y1,dx1,m1,m2,m3,fs1,rfl,_,_,_,_,g0,f1,f2,_,g1,g2,_,_⟩:=hKn.inv;have hil:=(aa.mp hr').1;have s8:=s7.trans (zf (o:=.tup [.int i,.ref y1]) ht);have e8:=rq (o:=.tup [.int i,.ref y1]) e1' ht;refine un2 rh ?_;generalize upd H' t (.tup [.int i,.ref y1])=H8 at s8 e8 ⊢;exists⟨.ref a.l,_,T.ko,rfl,_,_,_,_,rfl,(WT T r.wd).ty (CT T r.wd) (s8 _ _ g0),.inl ⟨_,rfl,zjG T r.wd⟩,?_⟩;exists zR (λb=>?_) (λb=>?_)
  .refine⟨_,e8,zn (by have:=xq .source rs i;rw[zP];lia),_,_,rfl,(λb o hb=>by rw[rj (rn hb hacc)];exact s8 b o hb),?_⟩;rw[rh,xF hr',aq b,jr]
  .exact⟨_,_,rfl,s8,by rw[xF hr',am b,bB];exact e8⟩
 rintro σ H2 ⟨v0,v1,rfl,s2,ha⟩;rw[hK.len]at ha;exact k _ _ s2 hacc ha
def xL(bs:A1)(rs:At)(n:Int):Prop:=(∃b∈bs,b.2=n)\/∃r∈rs,(r.wd=.source\/r.wd=.drain)/\r.pace=n/\0<n
def zbu{r:Row}(h:r.ok)(hw:r.wd=.source\/r.wd=.drain):0<=r.pace/\r.pace<=4:=by
 let⟨wd,ins,outs,pc,ks⟩:=r;rcases hw with hw|hw
 .simp only at hw;subst hw;have h1:=h.2.2.1;have h2:=h.2.2.2.1;simp only at h1 h2;exact⟨by show 0<=pc;lia,h2⟩
 .simp only at hw;subst hw;exact⟨h.2.2.1,h.2.2.2⟩
def zja(a:Ad):Sp:=λvs H Q _=>∃(v:V)(bs:A1)(rs:At)(p:A5),vs=[v]/\Rep H p v (qG a bs rs)/\bs.length<=100/\rs.length<=100/\(∀b∈bs,zE b.1 b.2)/\(∀r∈rs,r.ok) /\
 ∀L ns H',IsLcm ns L->(∀n,n∈ns↔xL bs rs n)->Same H H'->Q (.int L) H'
def zbY(T:Txt K mg a):MCal P w K mg base a.r "beat" 3 ["self"] [] (zja a):=T.og.cal T.iu λF=>by
 refine F.okx zaa ?_ ?_
 .walk_at"i"
 walk_at"j";refine oE4 h λv bs rs p p9=>oA7 p9 λpQ hv lb lr bo ro k=>?_;clear p9 h;subst pQ;have hv0:=hv;refine oE7 (qI hv) λy dx fs l1 l2 bvs pW p9=>oA9 p9 λpQ hy e1 e2 h1 h2 hB hK no=>?_;clear p9;subst pQ;walk_at"T";refine⟨_,(zj (QY (i:=1) zaa.nd rfl (Or.inl rfl) (vars:=["belt"]) (caps:=[]) (N:=["belt"]) (ON:=["self","paces","number","pace"]) (osc:=zi vy) rfl rfl (by right) rfl rfl (qj (zr (pq 0) rfl)) (λ_ _ _ _=>(qq 0 (show(["belt"]:A8).Nodup from by symm))) (λ_ _ _ _=>qg) (λ_ _ _ _=>(zr (pq 0) rfl)))  (zj (qU jn rfl (qj (zG zK (JC ⟨rfl,rfl,rfl⟩ hr (pq 0)) (JC ⟨rfl,rfl,rfl⟩ hr (pq 0)))) (qq 2 zaa.nd)  (zj (zt 3 zaa.nd (zr (zv (zr (pq 0) rfl) (pq 2)) rfl))  (zg (zH (zo Q0 (pq 3) zh (zu _))  (zg (zD (z7 ao aw av zN (pq 1) (za (pq 3) ze))))  zp))))  (zg (zk ‹(pq 1) ze›)))),?_⟩;left;walk_at"c";exists ra hy T.iu T.iR e1 ⟨l1,rfl,.inl ⟨⟨_,SqL.of h1⟩,λ_ _ _ _ pV hacc=>?_⟩⟩;let pY:Nat->St->Hp->Prop:=λi σ H'=>∃(v0:Aq),σ=[v0]/\Same H H'/\H' pV=some (.lst (iv ((bs.take i).map (·.2))));refine qL (K:=K) (a:=l1) (xs:=bvs) pY ⟨_,iA3 rfl (zf hacc) (by rw[cH];exact rh)⟩ (λi σ H' _ h=>by let⟨_,_,s,_⟩:=h;exact SqL.of (s _ _ h1)) ?_ ?_
 .intro i x σ H' hi pR;refine oE1 pR λv0 p9=>oA3 p9 λpQ s7 e7=>?_;ext;let⟨b,hr',hBt⟩:=hB.at hi;refine oE3 hBt.inv λy1 dx1 fs1 p9=>oA5 p9 λpQ _ g0 f1 f2=>?_;clear p9;subst pQ;have hil:=(aa.mp hr').1;exists ra (s7 _ _ g0) T.iO T.iT f2 ?_;refine⟨_,iA3 e7 (zn (by rw[zP,af,aS];lia)) ⟨_,iA3 rfl (λb o hb=>by rw[rj (rn hb hacc)];exact s7 b o hb) ?_⟩⟩;rw[rh,aT,hr',aQ,jr]
  rfl
 intro σ H2 pR;refine oE1 pR λv0 p9=>oA3 p9 λpQ s2 ha=>?_;ext;rw[hB.len,aV]at ha;left;walk_at"d";exists iE7 y a.r dx fs _ _ _ (iA5 rfl (s2 _ _ hy) (no _ (by symm) (by symm)) ((vM T).mono) ?_);refine iE4 _ bs rs p (iA4 rfl (hv0.keep λb o pb hb=>⟨pb,s2 _ _ hb⟩) lr (λq1 H3 s3 n1 hq1=>?_));refine iE7 y a.r dx fs _ _ _ (iA5 rfl (s3 _ _ (s2 _ _ hy)) (no _ (by symm) (by symm)) ((WK T).mono) ?_);refine iE4 _ bs rs p (iA4 rfl (hv0.keep λb o pb hb=>⟨pb,s3 _ _ (s2 _ _ hb)⟩) lr (λq2 H4 s4 n2 hq2=>?_));have l3:=xq .source rs rs.length;have l4:=xq .drain rs rs.length;refine qu (SqL.of (s4 _ _ hq1)) (SqL.of hq2) (qe (by rw[zP,zP];show(jv _ _ _).length+(jv _ _ _).length<=_;lia)) λq3 hq3=>?_;rw[zdk];have s5:Same H (upd H4 q3 (.lst (iv (zY .source rs++zY .drain rs)))):=((s2.trans s3).trans s4).trans (zf hq3);have ha5:upd H4 q3 (.lst (iv (zY .source rs++zY .drain rs))) pV=some (.lst (iv (bs.map (·.2)))):=rq (s4 _ _ (s3 _ _ ha)) hq3;have hq5:upd H4 q3 (.lst (iv (zY .source rs++zY .drain rs))) q3=some (.lst (iv (zY .source rs++zY .drain rs))):=rh;have nq:q3≠pV:=(rn (s4 _ _ (s3 _ _ ha)) hq3).symm;have hq0:H q3=none:=zM ((s2.trans s3).trans s4) hq3;generalize upd H4 q3 (.lst (iv (zY .source rs++zY .drain rs)))=H5 at s5 ha5 hq5 ⊢;refine⟨q3,rfl,.inl ⟨⟨_,SqL.of hq5⟩,?_⟩⟩;let pZ:Nat->St->Hp->Prop:=λi σ H'=>∃(v2 v3:Aq)(ns:A6),σ=[some (.ref y),some (.ref pV),v2,v3]/\Same H H'/\H' q3=some (.lst (iv (zY .source rs++zY .drain rs)))/\H' pV=some (.lst (iv ns))/\Pac ns/\ns.length<=bs.length+i/\∀n,n∈ns↔n∈bs.map (·.2)\/∃(m:Nat)(r:Row),(m:Int)∈(zY .source rs++zY .drain rs).take i/\rs[m]?=some r/\r.pace=n/\0<n;refine qL (K:=K) (a:=q3) (xs:=iv (zY .source rs++zY .drain rs)) pZ
  ⟨_,_,bs.map (·.2),rfl,s5,hq5,ha5,?_,by simp,?_⟩ (λi σ H' _ h=>by let⟨_,_,_,_,_,h,_⟩:=h;exact SqL.of h) ?_ ?_
 .intro n hn;let⟨b,hb,rfl⟩:=aK.mp hn;have:=bo b hb;exact⟨by have:=this.2.2.1;lia,by have:=this.2.2.2;lia⟩
 .intro n;simp
 .intro i x σ H6 hi pR;refine oE3 pR λv2 v3 ns p9=>oA7 p9 λpQ s6 hq6 ha6 pn ln mem=>?_;ext;let⟨m,hm,rfl⟩:=vR hi;have hmm:=ai hm;have hil:=(aa.mp hm).1;have hlen:(zY .source rs++zY .drain rs).length<=200:=by
   rw[aD];show(jv _ _ _).length+(jv _ _ _).length<=_
   lia
  let⟨j,r,rfl,hr',hw⟩:∃(j:Nat)(r:Row),m=j/\rs[j]?=some r/\(r.wd=.source\/r.wd=.drain):=by
   rcases ay.mp hmm with z|z
   .obtain⟨j,r,q1,q2,q3⟩:=Qb z;exact⟨j,r,q1,q2,.inl q3⟩
   .obtain⟨j,r,q1,q2,q3⟩:=Qb z;exact⟨j,r,q1,q2,.inr q3⟩
  have hp:=zbu (ro r (ai hr')) hw;let⟨kv,hkv,hKn⟩:∃kv,pW[j]?=some kv/\KnP a H p kv r:=by
   have hj:=(aa.mp hr').1;have e:pW[j]?=some (pW[j]'(by rw[hK.len];exact hj)):=ac _;exact⟨_,e,hK.g j _ r e hr'⟩
  refine oE6 hKn.inv λy1 dx1 m1 m2 m3 fs1 p9=>oA9 p9 λpQ _ _ _ _ g0 _ _ pX=>oA5 pX λ_ _ _ _ fp=>?_;clear p9 pX;subst pQ;exists ra (s6 _ _ hy) T.iu T.io e2 (zw (SqL.of (s6 _ _ h2)) (zJ hkv) ?_);have NP:NoAttr K (x6 a r.wd) "pace":=by
   rcases hw with z|z
   .rw[z];exact T.iI
   .rw[z];exact T.iD
  refine iE5 y1 (x6 a r.wd) dx1 fs1 _ (iA6 rfl (s6 _ _ g0) (CT T _) NP (fp hw) ?_);left;have tk:(zY .source rs++zY .drain rs).take (i+1)=(zY .source rs++zY .drain rs).take i++[(j:Int)]:=by rw[aT,hm];rfl
  refine zR (λb=>?_) (λb=>?_)
  .exists⟨.inl ⟨rfl,_,SqL.of ha6⟩,iE3 pV _ _ (iA5 rfl rfl ha6 (zn (by rw[zP];lia)) ?_)⟩;rw[jr];refine iE3 _ _ (ns++[r.pace]) (iA7 rfl (λb o hb=>by rw[rj (rn hb hacc)];exact s6 b o hb) (by rw[rj nq];exact hq6) rh (pn.snoc b (by lia)) (by simp;lia) (λn=>?_));rw[ay,mem n,ak,tk];constructor
   .rintro((h|⟨m',r',h1,h2,h3,h4⟩)|h)
    .exact .inl h
    .exact .inr (iE2 m' r' (iA4 (bz _ h1) h2 h3 h4))
    .subst h;exact .inr (iE2 j r (iA4 (aX _ (ak.mpr rfl)) hr' rfl b))
   .rintro(h|⟨m',r',h1,h2,h3,h4⟩)
    .exact .inl (.inl h)
    .rcases ay.mp h1 with h1|h1
     .exact .inl (.inr (iE2 m' r' (iA4 h1 h2 h3 h4)))
     .have e:m'=j:=by have:=ak.mp h1;lia
      subst e;rw[hr']at h2;cases h2;exact .inr h3.symm
  .refine iE3 _ _ ns (iA7 rfl s6 hq6 ha6 pn (by lia) (λn=>?_));rw[mem n,tk];constructor
   .rintro(h|⟨m',r',h1,h2,h3,h4⟩)
    .exact .inl h
    .exact .inr (iE2 m' r' (iA4 (bz _ h1) h2 h3 h4))
   .rintro(h|⟨m',r',h1,h2,h3,h4⟩)
    .exact .inl h
    .rcases ay.mp h1 with h1|h1
     .exact .inr (iE2 m' r' (iA4 h1 h2 h3 h4))
     .have e:m'=j:=by have:=ak.mp h1;lia
      subst e;rw[hr']at h2;cases h2
      lia
 .intro σ H6 pR;refine oE3 pR λv2 v3 ns p9=>oA7 p9 λpQ s6 hq6 ha6 pn ln mem=>?_;ext;rw[zP,aV]at mem;exists uc (zfv T).mono (iE2 pV ns (iA4 rfl (SqL.of ha6) pn (λL hL=>k L ns _ hL (λn=>?_) s6)));rw[mem n];unfold xL;constructor
  .rintro(h|⟨m',r',h1,h2,h3,h4⟩)
   .obtain⟨b,hb,e⟩:=aK.mp h;exact .inl ⟨b,hb,e⟩
   .refine .inr ⟨r',iA4 (ai h2) ?_ h3 h4⟩;rcases ay.mp h1 with z|z
    .refine oE2 (Qb z) λj r p9=>oA3 p9 λq1 q2 q3=>?_;clear p9;have e:m'=j:=by lia
     subst e;rw[h2]at q2;cases q2;exact .inl q3
    .refine oE2 (Qb z) λj r p9=>oA3 p9 λq1 q2 q3=>?_;clear p9;have e:m'=j:=by lia
     subst e;rw[h2]at q2;cases q2;exact .inr q3
  .rintro(⟨b,hb,e⟩|⟨r,hr',hw,h3,h4⟩)
   .exact .inl (aK.mpr ⟨b,hb,e⟩)
   .obtain⟨m',hm'⟩:=bF hr';refine .inr (iE2 m' r (iA4 ?_ hm' h3 h4));rcases hw with hw|hw
    .exact bz _ (zbO hm' hw)
    .exact aX _ (zbO hm' hw)
def X3{G:Addr}{ags:Ab}{gss:List A6}{g:A6}(h:NL H p G ags (qE gss))(e:gss[i]?=some g):∃b,ags[i]?=some b/\H b=some (.lst (iv g)):=by
 let⟨b,vs,h1,h2,h3⟩:=h.at (i:=i) (xs:=g.map D.int) (by rw[qE,ap,e];rfl);rw[JE h3]at h2;exact⟨b,h1,h2⟩
noncomputable def kdW(rs:At)(x:Int×Int):Int:=wN ((rs[x.1.toNat]?.map Row.kinds).getD []) x.2
noncomputable def qO(rs:At)(c:Av):List A9:=c.map λwr=>wr.map (kdW rs)
def zeK(a:Ad):Sp:=λvs H Q _=>∃(vw:V)(cb:Addr)(us:Ap)(bs:A1)(rs:At)(c:Av)(p q:A5),vs=[vw,.ref cb]/\Rep H p vw (qG a bs rs)/\H cb=some (.lst us)/\Reps H q us (c.map qz)/\(∀wr∈c,Zv rs wr)/\(∀r∈rs,r.ok)/\c.length<=6/\∀t H',Same H H'->H t=none->H' t=some (.tup ((qO rs c).map oiV))->Q (.ref t) H'
theorem zdE(T:Txt K mg a):Cal P w K mg base "kinds_in" 2 ["work","cells"] [] (zeK a):=T.oy.cal λF=>by
 refine F.okx zbj ?_ ?_
 .walk_at"i"
 walk_at"j";refine oE8 h λvw cb us bs rs c p q p9=>oA8 p9 λpQ hw hcb rus wk ro c6 k=>?_;clear p9 h;subst pQ;have lu:us.length=c.length:=by rw[rus.len,af]
 walk_at"T";refine⟨_,(zg (zk (jS Qk Ql (za (jJ (vars:=["ware"]) (caps:=[0]) (N:=["ware","work"]) (ON:=["work","cells"]) (osc:=zi ZC) rfl rfl (by right) rfl rfl (qj (pq 1)) (λ_ _ _ _=>(qq 0 (show(["ware","work"]:A8).Nodup from by symm))) (λ_ _ _ _=>qg) (λ_ _ _ _=>(jE (zo qH (pq 0) zA (zu _)) zA (wK hr (za (pq 1) (za (pq 0) ze)))))) ze)))),?_⟩;walk_at"c";exists⟨cb,rfl,.inl ⟨⟨_,SqL.of hcb⟩,λ_ _ _ _ pV hacc=>?_⟩⟩;let pY:Nat->St->Hp->Prop:=λj σ H'=>∃(v0:Aq),σ=[v0,some vw]/\Same H H'/\H' pV=some (.lst ((qO rs (c.take j)).map oiV));refine qL (K:=K) (a:=cb) (xs:=us) pY ⟨_,iA3 rfl (zf hacc) rh⟩ (λi σ H' _ h=>by let⟨_,_,s,_⟩:=h;exact SqL.of (s _ _ hcb)) ?_ ?_
 .intro j v σ H1 hj pR;refine oE1 pR λv0 p9=>oA3 p9 λpQ s1 ha=>?_;ext;let⟨d,hd,rv⟩:=rus.at hj;rw[ap,aB]at hd;let⟨wr,hwr,rfl⟩:=hd;have hjl:=(aa.mp hwr).1;have e:(qO rs (c.take (j+1))).map oiV=(qO rs (c.take j)).map oiV++[oiV (wr.map (kdW rs))]:=by
   rw[aT,hwr];simp[qO]
  have lk:((qO rs (c.take j)).map oiV).length<=6:=by simp[qO];lia
  have sn:∀(x:V),Same H (upd H1 pV (.lst ((qO rs (c.take j)).map oiV++[x]))):=λx b o hb=>by rw[rj (rn hb hacc)];exact s1 b o hb
  cases wr with
  |none =>
   have rv:Rep H q v .non:=rv;cases rv;left;exact⟨_,iA3 ha (zn (by lia)) ⟨_,iA3 rfl (sn _) (by rw[rh,e];rfl)⟩⟩
  |some x =>
   let⟨tx,rfl,htx⟩:=Z7 (b:=x) rv;refine oE2 (wk _ (ai hwr) x.1 x.2 rfl) λjj r p9=>oA4 p9 λe1 hr' hs _=>?_;clear p9;have kp:0<r.kinds.length:=by
    have ok:=ro r (ai hr');unfold Row.ok at ok;rw[hs]at ok;have:=ok.2.2.2.2.1
    lia
   have hw1:Rep H1 p vw (qG a bs rs):=hw.keep λb o hb ho=>⟨hb,s1 _ _ ho⟩;have rx:Rep H1 q (.ref tx) (.tup [.int jj,.int x.2]):=by
    have:=rv.keep (H':=H1) (q:=q) λb o hb ho=>⟨hb,s1 _ _ ho⟩;have e2:qz (some x)=.tup [.int x.1,.int x.2]:=rfl;rw[e2,e1]at this;exact this
   exists uc (QJ T).mono (iE5 vw (.ref tx) bs rs p (iE4 q jj x.2 r (iA7 rfl hw1 rx hr' hs kp ?_)));refine⟨_,iA3 ha (zn (by lia)) ⟨_,iA3 rfl (sn _) ?_⟩⟩;rw[rh,e];show _=some (HO.lst (_++[V.int (kdW rs x)]))
   unfold kdW;rw[e1,aP,hr']
   rfl
 intro σ H1 pR;refine oE1 pR λv0 p9=>oA3 p9 λpQ s1 ha=>?_;ext;rw[lu,aV]at ha;refine iE2 pV _ ⟨rfl,.inl ⟨SqL.of ha,λt ht=>?_⟩⟩;exact k t _ (s1.trans (zf ht)) (zM s1 ht) rh
def QM(bs:A1)(rs:At)(L:Int):Prop:=∃ns,IsLcm ns L/\∀n,n∈ns↔xL bs rs n
def zhm{rs:At}{L L':Int}(h:QM bs rs L)(h':QM bs rs L'):L=L':=by
 let⟨ns,i,m⟩:=h;let⟨ns',i',m'⟩:=h';have d:L∣L':=i.least _ λn hn=>i'.dv n ((m' n).mpr ((m n).mp hn));have d':L'∣L:=i'.least _ λn hn=>i.dv n ((m n).mpr ((m' n).mp hn));exact Int.dvd_antisymm (cS i.pos) (cS i'.pos) d d'
open Classical in
noncomputable def vU(bs:A1)(rs:At):Int:=if h:∃L,QM bs rs L then Classical.choose h else 1
def zcs{rs:At}(h:QM bs rs L):L=vU bs rs:=by
 unfold vU;rw[dif_pos ⟨L,h⟩];exact zhm h (Classical.choose_spec (⟨L,h⟩:∃L,QM bs rs L))
noncomputable def wI(rs:At)(st:PSt)(j:Int):Int:=match rs[j.toNat]? with
 |some r=>(st.gone.getD j.toNat []).headD 0%(r.kinds.length:Int)
 |none=>0
noncomputable def zf7(bs:A1)(rs:At)(st:PSt):ShK:=(some (st.turn%vU bs rs),st.cells.map (qO rs),st.sides.map some,(zY .source rs).map λj=>some (wI rs st j))
def zba(a:Ad):Sp:=λvs H Q _=>∃(vw:V)(y:Addr)(n:SN)(j:Nat)(bs:A1)(rs:At)(st:PSt)(r:Row)(p:A5),vs=[vw,.ref y,.int j]/\Rep H p vw (qG a bs rs)/\StO a H y n st/\rs[j]?=some r/\r.wd=.source/\r.ok/\stWf bs rs st/\Q (.int (wI rs st j)) H
def zaS(T:Txt K mg a):Cal P w K mg base "kind_place" 1 ["work","state","number"] [] (zba a):=T.mZ.cal λF=>by
 refine F.okx Wu ?_ ?_
 .walk_at"i"
 walk_at"j";refine oE5 h λvw y n j bs p9=>oE4 p9 λrs st r p pQ=>oA8 pQ λpX hv so hr' hs ok wf k=>?_;clear p9 pQ h;subst pX;refine oE7 (qI hv) λyw dx fs l1 l2 bvs pW p9=>oA9 p9 λpQ hy e1 e2 h1 h2 hB hK no=>?_;clear p9;subst pQ;let⟨kv,hkv,hKn⟩:=JD hK hr';refine oE6 hKn.inv λy1 dx1 m1 m2 m3 fs1 p9=>oA9 p9 λpQ _ _ _ _ g0 _ _ pX=>oA5 pX λ_ _ _ g3 _=>?_;clear p9 pX;subst pQ;let⟨g3a,g3b⟩:=g3 hs;have kp:0<r.kinds.length:=by
  unfold Row.ok at ok;rw[hs]at ok;have:=ok.2.2.2.2.1
  lia
 have hj:=(aa.mp hr').1;let⟨g,hg⟩:∃g,st.gone[j]?=some g:=⟨_,ac (by rw[wf.go.1];exact hj)⟩;have q1:=(wf.go.2 j r g hr' hg).1;have cp:=Qg ok;let⟨gh,gs,rfl⟩:=dk (dm (by lia:0<g.length));let⟨bG,hbG,hgG⟩:=X3 so.hg hg;have hmap:(n.ags.map V.ref)[j]?=some (.ref bG):=by rw[ap,hbG];rfl
 have ek:wI rs st j=gh%(r.kinds.length:Int):=by
  unfold wI;rw[aP,hr',aj,hg]
  rfl
 rw[ek]at k;walk_at"T";refine⟨_,(zg (zk (zG ju (zv (zv (zr (pq 1) rfl) (pq 2)) zh) (zS qa z9 (za (zr (zv (zr (pq 0) rfl) (pq 2)) rfl) ze))))),?_⟩;exists ra so.hy T.ad T.iy rfl (zw (SqL.of so.hg.out) (zJ hmap) (zw (SqL.of hgG) at0 ?_));exists ra hy T.iu T.io e2 (zw (SqL.of h2) (zJ hkv) ?_);refine iE5 y1 (x6 a r.wd) dx1 fs1 _ (iA6 rfl g0 (CT T _) (by rw[hs];exact T.iF) g3a ?_);refine⟨_,.inl ⟨_,SqL.of g3b,rfl⟩,?_⟩;rw[zP];left;exact⟨by lia,k⟩
theorem zai{H:Hp}{p:A5}:∀c:List A9,Reps H p (c.map oiV) (c.map oiD)
 |[]=>.nil
 |none::c=>.cons .non (zai c)
 |some n::c=>.cons .int (zai c)
def zcV{t:Addr}{c:List A9}(h:H t=some (.tup (c.map oiV))):Rep H (zX H) (.ref t) (.tup (c.map oiD)):=(zai c).mkT ⟨_,h⟩ h
def JQ{H H':Hp}{d:D}(r:Rep H (zX H) v d)(s:Same H H'):Rep H' (zX H') v d:=r.keep λb o ⟨xs,hx⟩ hb=>⟨⟨xs,s _ _ hx⟩,s _ _ hb⟩
def WS{H H':Hp}{ds:List D}(r:Reps H (zX H) vs ds)(s:Same H H'):Reps H' (zX H') vs ds:=r.keep λb o ⟨xs,hx⟩ hb=>⟨⟨xs,s _ _ hx⟩,s _ _ hb⟩
def zgB{rs:At}{m:Int}(h:m∈zY wd rs):∃(j:Nat)(r:Row),m=j/\rs[j]?=some r/\r.wd=wd:=by
 unfold zY jv at h;let⟨j,hj,rfl⟩:=aK.mp h;let⟨h1,h2⟩:=cJ.mp hj;have h2:=b5 h2;let⟨r,hr,e⟩:=aB.mp h2;exact⟨j,r,rfl,hr,e⟩
def zhw(a:Ad):Sp:=λvs H Q _=>∃(vw:V)(y:Addr)(n:SN)(bs:A1)(rs:At)(st:PSt)(p:A5),vs=[vw,.ref y]/\Rep H p vw (qG a bs rs)/\StO a H y n st/\stWf bs rs st/\bs.length<=24/\rs.length<=24/\(∀b∈bs,zE b.1 b.2)/\(∀r∈rs,r.ok)/\∀t H',Same H H'->Rep H' (zX H') (.ref t) (shD (zf7 bs rs st))->Q (.ref t) H'
def zdC(T:Txt K mg a):Cal P w K mg base "shape_of" 4 ["work","state"] [] (zhw a):=T.oz.cal λF=>by
 refine F.okx zbg ?_ ?_
 .walk_at"i"
 walk_at"j";refine oE7 h λvw y n bs rs st p p9=>oA9 p9 λpQ hv so wf b24 r24 bo ro k=>?_;clear p9 h;subst pQ;refine oE7 (qI hv) λyw dx fs l1 l2 bvs pW p9=>oA9 p9 λpQ hy e1 e2 h1 h2 hB hK no=>?_;clear p9;subst pQ;walk_at"T";refine⟨_,(zj (zt 2 zbg.nd (zG ju (zr (pq 1) rfl) (JC ⟨rfl,rfl,rfl⟩ hr (pq 0))))  (zj (zt 3 zbg.nd (jS Qk Ql (za (jJ (vars:=["cells"]) (caps:=[0]) (N:=["cells","work"]) (ON:=["work","state","beat_place","kinds","places"]) (osc:=zi wz) rfl rfl (by right) rfl rfl (qj (zr (pq 1) rfl)) (λ_ _ _ _=>(qq 0 (show(["cells","work"]:A8).Nodup from by symm))) (λ_ _ _ _=>qg) (λ_ _ _ _=>(wK hr (za (pq 1) (za (pq 0) ze))))) ze)))  (zj (zt 4 zbg.nd (jS Qk Ql (za (jJ (vars:=["number"]) (caps:=[0,1]) (N:=["number","work","state"]) (ON:=["work","state","beat_place","kinds","places"]) (osc:=zi wz) rfl rfl (by right) rfl rfl (qj (JC ⟨rfl,rfl,rfl⟩ hr (pq 0))) (λ_ _ _ _=>(qq 0 (show(["number","work","state"]:A8).Nodup from by symm))) (λ_ _ _ _=>qg) (λ_ _ _ _=>(wK hr (za (pq 1) (za (pq 2) (za (pq 0) ze)))))) ze)))  (zg (zk (qV (za (pq 2) (za (pq 3) (za (jS Qk Ql (za (zr (pq 1) rfl) ze)) (za (pq 4) ze)))))))))),?_⟩;exists ra so.hy T.ad T.ip rfl ?_;refine iE7 yw a.r dx fs _ _ _ (iA5 rfl hy (no _ (by symm) (by symm)) ((zbY T).mono) ?_);refine iE4 (.ref yw) bs rs p (iA7 rfl hv (by lia) (by lia) bo ro (λL ns H1 il im s1=>?_));have lp:=il.pos;have eL:=zcs ⟨ns,il,im⟩;left;rw[eL];clear il im lp eL;have so1:=so.same s1;have hv1:Rep H1 p (.ref yw) (qG a bs rs):=hv.keep λb o hb ho=>⟨hb,s1 _ _ ho⟩;have lc:n.acs.length=st.cells.length:=by rw[so.hc.len,qB,af]
 have lcb:st.cells.length=bs.length:=wf.co.1;walk_at"c";exists ra so1.hy T.ad T.ir rfl ⟨n.lc,rfl,.inl ⟨⟨_,SqL.of so1.hc.out⟩,λ_ _ _ _ pV hacc=>?_⟩⟩;let pY:Nat->St->Hp->Prop:=λi σ H'=>∃(v0:Aq)(us:Ap),σ=[v0,some (.ref yw)]/\Same H1 H'/\H' pV=some (.lst us)/\us.length=i/\Reps H' (zX H') us ((st.cells.take i).map λc=>.tup ((qO rs c).map oiD));refine qL (K:=K) (a:=n.lc) (xs:=n.acs.map V.ref) pY (iE2 _ ([]) (iA5 rfl (zf hacc) rh rfl (.nil))) (λi σ H' _ h=>by let⟨_,_,_,s,_⟩:=h;exact SqL.of (s _ _ so1.hc.out)) ?_ ?_
 .intro i x σ H2 hi pR;refine oE2 pR λv0 us p9=>oA5 p9 λpQ s2 ha lu ru=>?_;ext;rw[ap,aB]at hi;let⟨cb,hcb,rfl⟩:=hi;have hil:i<st.cells.length:=by rw[<- lc];exact(aa.mp hcb).1
  let⟨c,ec⟩:∃c,st.cells[i]?=some c:=⟨_,ac hil⟩;let⟨vs,hvs,rvs⟩:=so1.hc.g i cb _ hcb (show(qB st.cells)[i]?=some (c.map qz) by rw[qB,ap,ec];rfl);let⟨b,hb⟩:∃b,bs[i]?=some b:=⟨_,ac (by rw[<- wf.co.1];exact hil)⟩;let⟨lc6,wk⟩:=wf.co.2 i b c hb ec;have bk:=(bo b (ai hb)).2.1;exists uc (zdE T).mono (iE8 (.ref yw) cb vs bs rs c p _ (iA8 rfl (hv1.keep (λb o hb ho=>⟨hb,s2 _ _ ho⟩)) (s2 _ _ hvs) (rvs.keep (λb o hb ho=>⟨hb,s2 _ _ ho⟩)) wk ro (by lia) (λt H3 s3 nt ht=>?_)));have nta:∀b,zX H3 b->b≠pV:=λb ⟨xs,hx⟩ z=>by rw[z,s3 _ _ ha]at hx;cases hx
  refine⟨_,iA3 (s3 _ _ ha) (zn (by lia)) (iE2 _ (us++[.ref t]) (iA5 rfl (λb o hb=>by rw[rj (rn hb hacc)];exact s3 _ _ (s2 b o hb)) rh (by simp[lu]) ?_))⟩;rw[aT,ec,aQ];refine((WS ru s3).append (.one (zcV ht))).keep λb o tb hb=>?_;have ne:=nta b tb;let⟨xs,hx⟩:=tb;exact⟨⟨xs,by rw[rj ne];exact hx⟩,by rw[rj ne];exact hb⟩
 intro σ H2 pR;refine oE2 pR λv0 us p9=>oA5 p9 λpQ s2 ha lu ru=>?_;ext;rw[af,lc,aV]at ru;refine iE2 pV _ ⟨rfl,.inl ⟨SqL.of ha,λt1 ht1=>?_⟩⟩;have s3:=zf (o:=.tup us) ht1;have ru3:=WS ru s3;have hT1:upd H2 t1 (.tup us) t1=some (.tup us):=rh;have s13:=s2.trans s3;generalize upd H2 t1 (.tup us)=H3 at s3 ru3 hT1 s13 ⊢;have r1:Rep H3 (zX H3) (.ref t1) (.tup ((st.cells.map (qO rs)).map λr=>.tup (r.map oiD))):=by
  rw[eR];exact ru3.mkT ⟨_,hT1⟩ hT1
 clear ru ru3 ha hT1 s2 s3;have so3:=so1.same s13;have hv3:Rep H3 p (.ref yw) (qG a bs rs):=hv1.keep λb o hb ho=>⟨hb,s13 _ _ ho⟩;exists iE7 yw a.r dx fs _ _ _ (iA5 rfl (s13 _ _ (s1 _ _ hy)) (no _ (by symm) (by symm)) ((vM T).mono) ?_);refine iE4 (.ref yw) bs rs p (iA4 rfl hv3 (by lia) (λq H4 s4 nq hq=>?_));have ln:=xq .source rs rs.length;have so4:=so3.same s4;have hv4:Rep H4 p (.ref yw) (qG a bs rs):=hv3.keep λb o hb ho=>⟨hb,s4 _ _ ho⟩;refine⟨q,rfl,.inl ⟨⟨_,SqL.of hq⟩,λ_ _ _ _ ac2 hac2=>?_⟩⟩;let pZ:Nat->St->Hp->Prop:=λi σ H'=>∃(v0:Aq),σ=[v0,some (.ref yw),some (.ref y)]/\Same H4 H'/\H' ac2=some (.lst ((((zY .source rs).take i).map λj=>some (wI rs st j)).map oiV));refine qL (K:=K) (a:=q) (xs:=iv (zY .source rs)) pZ ⟨_,iA3 rfl (zf hac2) rh⟩ (λi σ H' _ h=>by let⟨_,_,s,_⟩:=h;exact SqL.of (s _ _ hq)) ?_ ?_
 .intro i x σ H5 hi pR;refine oE1 pR λv0 p9=>oA3 p9 λpQ s5 ha=>?_;ext;let⟨m,hm,rfl⟩:=vR hi;have hil:=(aa.mp hm).1;refine oE2 (zgB (ai hm)) λjj r p9=>oA3 p9 λpQ hr' hs=>?_;clear p9;subst pQ;have ln:(zY .source rs).length<=rs.length:=ln;exists uc (zaS T).mono (iE5 (.ref yw) y n jj bs (iE4 rs st r p (iA8 rfl (hv4.keep (λb o hb ho=>⟨hb,s5 _ _ ho⟩)) (so4.same s5) hr' hs (ro r (ai hr')) wf ?_)));refine⟨_,iA3 ha (zn (by rw[af,af,aS];lia)) ⟨_,iA3 rfl (λb o hb=>by rw[rj (rn hb hac2)];exact s5 b o hb) ?_⟩⟩;rw[rh,aT,hm];simp[oiV]
 intro σ H5 pR;refine oE1 pR λv0 p9=>oA3 p9 λpQ s5 ha=>?_;ext;rw[zP,aV]at ha;refine iE2 ac2 _ ⟨rfl,.inl ⟨SqL.of ha,λt2 ht2=>?_⟩⟩;have s6:=zf (o:=.tup (((zY .source rs).map λj=>some (wI rs st j)).map oiV)) ht2;have hT2:upd H5 t2 (.tup (((zY .source rs).map λj=>some (wI rs st j)).map oiV)) t2=some (.tup (((zY .source rs).map λj=>some (wI rs st j)).map oiV)):=rh;have s36:=(s4.trans s5).trans s6;generalize upd H5 t2 (.tup (((zY .source rs).map λj=>some (wI rs st j)).map oiV))=H6 at s36 hT2 ⊢;have so6:=so3.same s36;exists ra so6.hy T.ad T.iC rfl (iE2 n.ls _ ⟨rfl,.inl ⟨SqL.of so6.hs,λt3 ht3=>?_⟩⟩);intro t4 ht4;have s7:=zf (o:=.tup (iv st.sides)) ht3;have hT3:upd H6 t3 (.tup (iv st.sides)) t3=some (.tup ((st.sides.map some).map oiV)):=by rw[rh,eR];rfl
 generalize upd H6 t3 (.tup (iv st.sides))=H7 at s7 hT3 ht4 ⊢;have s8:=zf (o:=.tup [.int (st.turn%vU bs rs),.ref t1,.ref t3,.ref t2]) ht4;have hT4:upd H7 t4 (.tup [.int (st.turn%vU bs rs),.ref t1,.ref t3,.ref t2]) t4=some (.tup [.int (st.turn%vU bs rs),.ref t1,.ref t3,.ref t2]):=rh;generalize upd H7 t4 (.tup [.int (st.turn%vU bs rs),.ref t1,.ref t3,.ref t2])=H8 at s8 hT4 ⊢;refine k t4 H8 ((s1.trans s13).trans (s36.trans (s7.trans s8))) ?_;exact Reps.mkT (vs:=[.int (st.turn%vU bs rs),.ref t1,.ref t3,.ref t2]) (.cons .int (.cons (JQ r1 (s36.trans (s7.trans s8))) (.cons (JQ (zcV hT3) s8) (.cons (JQ (zcV hT2) (s7.trans s8)) .nil)))) ⟨_,hT4⟩ hT4
noncomputable abbrev qM(bs:A1)(rs:At)(i:Nat):ShK:=zf7 bs rs (zm bs rs i)
structure RoundAt(bs:A1)(rs:At)(lim i j:Nat):Prop where
 lt:i<j
 le:j<=lim
 eq:qM bs rs i=qM bs rs j
 fst:∀x y,x<y->y<j->qM bs rs x≠qM bs rs y
def xK(bs:A1)(rs:At)(lim:Nat):Prop:=∀x y,x<y->y<=lim->qM bs rs x≠qM bs rs y
def RoundAt.one{rs:At}{lim lim' i j i' j':Nat}(h:RoundAt bs rs lim i j)(h':RoundAt bs rs lim' i' j'):i=i'/\j=j':=by
 have ej:j=j':=by
  rcases b6 j j' with z|z|z
  .exact absurd h.eq (h'.fst i j h.lt z)
  .exact z
  .exact absurd h'.eq (h.fst i' j' h'.lt z)
 subst ej;refine⟨?_,rfl⟩;rcases b6 i i' with z|z|z
 .exact absurd (h.eq.trans h'.eq.symm) (h.fst i i' z h'.lt)
 .exact z
 .exact absurd (h'.eq.trans h.eq.symm) (h.fst i' i z h.lt)
def RoundAt.no{rs:At}{lim i j:Nat}(h:RoundAt bs rs lim i j):¬xK bs rs lim:=λz=>z i j h.lt h.le h.eq
def Nxt(H H':Hp):Prop:=∀b u,H b=some u->(∀φ,u≠.ext φ)->H' b=some u
def Same.nxt{H H':Hp}(s:Same H H'):Nxt H H':=λb u hb _=>s b u hb
def Nxt.trans{H H' H2:Hp}(a:Nxt H H')(b:Nxt H' H2):Nxt H H2:=λc u hc n=>b c u (a c u hc n) n
def zh5{D:Addr}{φ:Heap->Prop}(h:H D=some (.ext φ)):Nxt H (upd H D o):=λb u hb n=>by
 rw[rj (λz=>by rw[z,h]at hb;cases hb;exact n φ rfl)];exact hb
def zgD{H H':Hp}{G:Addr}{as:Ab}{xss:List (List D)}(h:NL H (zX H) G as xss)(s:Nxt H H'):NL H' (zX H') G as xss:=by
 refine h.tup λb o c hb=>s b o hb λφ z=>?_;subst z;rcases c with c|c|⟨xs,c⟩
 .rw[c,h.out]at hb;cases hb
 .obtain⟨vs,hv⟩:=h.isl (aA _ c);rw[hv]at hb;cases hb
 .rw[c]at hb;cases hb
def StO.nxt{H H':Hp}{y:Addr}{n:SN}{st:PSt}(h:StO a H y n st)(s:Nxt H H'):StO a H' y n st:=⟨s _ _ h.hy (λφ z=>by cases z),zgD h.hc s,s _ _ h.hs (λφ z=>by cases z),zgD h.hg s,h.nd⟩
def zht{H H':Hp}{d:D}(r:Rep H (zX H) v d)(s:Nxt H H'):Rep H' (zX H') v d:=r.keep λb o ⟨xs,hx⟩ hb=>by
 have e:=s b _ hx (λφ z=>by cases z);rw[hx]at hb;cases hb;exact⟨⟨xs,e⟩,e⟩
structure SD(a:Ad)(H:Hp)(bs:A1)(rs:At)(xs:List (ShK×Addr×Addr))(t:Nat):Prop where
 len:xs.length=t
 at':∀(i:Nat) x,xs[i]?=some x->x.1=qM bs rs i/\Rep H (zX H) (.ref x.2.1) (shD x.1)/\∃n,StO a H x.2.2 n (zm bs rs i)
 fst:∀x y,x<y->y<t->qM bs rs x≠qM bs rs y
def SD.nxt{H H':Hp}{rs:At}{xs:List (ShK×Addr×Addr)}{t:Nat}(h:SD a H bs rs xs t)(s:Nxt H H'):SD a H' bs rs xs t:=⟨h.len,λi x e=>by
 let⟨e1,r,n,so⟩:=h.at' i x e;exact⟨e1,zht r s,n,so.nxt s⟩,h.fst⟩
def SD.keys{rs:At}{xs:List (ShK×Addr×Addr)}{t:Nat}(h:SD a H bs rs xs t):keysOk H xs:=λx hx=>by
 let⟨i,hi⟩:=bF hx;exact⟨_,(h.at' i x hi).2.1⟩
def SD.look{rs:At}{xs:List (ShK×Addr×Addr)}{t:Nat}{k:ShK}{y:Addr}(h:SD a H bs rs xs t)(e:xG xs k=some y):∃i n,i<t/\qM bs rs i=k/\StO a H y n (zm bs rs i):=by
 unfold xG at e;let⟨x,hx,rfl⟩:=aB.mp e;have hk:x.1=k:=by
  have:=List.find?_some hx;simpa using this
 let⟨i,hi⟩:=bF (List.mem_of_find?_eq_some hx);let⟨e1,_,n,so⟩:=h.at' i x hi;exact⟨i,n,by rw[<- h.len];exact(aa.mp hi).1,e1.symm.trans hk,so⟩
def SD.new{rs:At}{xs:List (ShK×Addr×Addr)}{t:Nat}{k:ShK}(h:SD a H bs rs xs t)(e:xG xs k=none):∀i,i<t->qM bs rs i≠k:=λi hi z=>by
 let⟨x,hx⟩:∃x,xs[i]?=some x:=⟨_,ac (by rw[h.len];exact hi)⟩;unfold xG at e;rw[cQ,List.find?_eq_none]at e;exact e x (ai hx) (aZ ((h.at' i x hx).1.trans z))
def SD.add{rs:At}{xs:List (ShK×Addr×Addr)}{t:Nat}{b y:Addr}{n:SN}(h:SD a H bs rs xs t)(e:xG xs (qM bs rs t)=none)(r:Rep H (zX H) (.ref b) (shD (qM bs rs t)))(so:StO a H y n (zm bs rs t)):SD a H bs rs (xs++[(qM bs rs t,b,y)]) (t+1):=by
 refine⟨by simp[h.len],λi x hx=>?_,λu v huv hv=>?_⟩
 .by_cases hi:i<xs.length
  .rw[ba hi]at hx;exact h.at' i x hx
  .rw[aY (by lia)]at hx;have hz:=(aa.mp hx).1;have:i=t:=by simp at hz;have:=h.len;lia
   subst this;rw[h.len,Nat.sub_self]at hx;cases hx;exact⟨rfl,r,n,so⟩
 .rcases Nat.lt_or_ge v t with z|z
  .exact h.fst u v huv z
  .have:v=t:=by lia
   subst this;exact h.new e u huv
def za8(a:Ad):Sp:=λvs H Q E=>∃(vw:V)(lim:Nat)(bs:A1)(rs:At),vs=[vw,.int lim]/\Rep H (Off []) vw (qG a bs rs)/\zQ bs rs/\(∀b∈bs,zE b.1 b.2)/\(∀r∈rs,r.ok)/\lim<=1000 /\
 (∀i j t y0 y1 n0 n1 H',RoundAt bs rs lim i j->Same H H'->H' t=some (.tup [.ref y0,.ref y1])->StO a H' y0 n0 (zm bs rs i)->StO a H' y1 n1 (zm bs rs j)->Q (.ref t) H') /\
 (xK bs rs lim->∀H',Same H H'->E (.ref a.h) none H')
theorem wR(T:Txt K mg a):Cal P w K mg base "round_ends" 8 ["work","limit"] [] (za8 a):=T.m5.cal λF=>by
 refine F.okx Ws ?_ ?_
 .walk_at"i"
 walk_at"j";refine oE4 h λvw lim bs rs p9=>oA8 p9 λpQ hv pU bo ro l1000 kQ kE=>?_;clear p9 h;subst pQ;have b24:=pU.1.1.2;have r24:=pU.1.2.2;walk_at"T";refine⟨_,(zj (zt 2 Ws.nd ‹(pq 0) ze›)  (zj (zt 3 Ws.nd zhT)  (qf (qU jn rfl (vH (za (zG zK (pq 1) zh) ze)) (qq 4 Ws.nd)  (zj (zt 5 Ws.nd ‹(pq 0) (za (pq 2) ze)›)  (zj (zH (zjl (zjt hr.units1 (pq 5) (pq 3)) (by with_unfolding_all rfl))  (zg (zk (qV (za (zhU hr.units1 (pq 3) (pq 5) (λ_ _=>rfl)) (za (pq 2) ze)))))  zp)  (zj (zhQ hr.units1 (pq 3) (pq 5) (pq 2) rfl)  (zg (zt 2 Ws.nd ‹(pq 0) (za (pq 2) ze)›))))))  (zg (qN ⟨rfl,rfl,rfl⟩ rfl (za zy ze)))))),?_⟩;exists uc (WO T).mono (iE4 vw bs rs _ (iA7 rfl hv b24 r24 bo ro (λv' H1 s1 sn=>?_)));refine oE2 sn λy nn p9=>oA5 p9 λpQ so _ _ _=>?_;clear p9 sn;subst pQ;left;intro D hD;have sD:=zf (o:=sdO P w D []) hD;have nD:H D=none:=zM s1 hD;have s2:=s1.trans sD;have so2:=so.same sD;have hD2:upd H1 D (sdO P w D []) D=some (sdO P w D []):=rh;generalize upd H1 D (sdO P w D [])=H2 at s2 so2 hD2 ⊢;clear so s1 sD hD;left;let pY:St->Hp->Prop:=λσ' H'=>∃(v2 v4 v5:Aq),σ'=[some vw,some (.int lim),v2,some (.ref D),v4,v5]/\Same H H'/\xK bs rs lim;refine cut pY ?_ ?_
 .walk_at"d";exists⟨by lia,by lia,?_⟩;refine Q5 (n:=((lim:Int)+1).toNat) (λt σ H'=>∃(v4 v5:Aq)(y:Addr)(n:SN)(xs:List (ShK×Addr×Addr)),σ=[some vw,some (.int lim),some (.ref y),some (.ref D),v4,v5]/\Same H H'/\H' D=some (sdO P w D xs)/\StO a H' y n (zm bs rs t)/\SD a H' bs rs xs t) (iE5 _ _ y nn ([]) (iA5 rfl s2 hD2 so2 ⟨rfl,λi x e=>by simp at e,λx y _ z=>absurd z (cm _)⟩)) ?_ ?_
  .clear so2 hD2 s2;intro t σ H3 ht pR;refine oE5 pR λv4 v5 y n xs p9=>oA5 p9 λpQ s3 hD3 so3 sd3=>?_;ext;have ht':t<=lim:=by lia
   have lx:=sd3.len;exists uc (zdC T).mono (iE7 vw y n bs rs (zm bs rs t) _ (iA9 rfl (hv.same s3) so3 (z6 pU bo ro t) b24 r24 bo ro (λb H4 s4 r4=>?_)));have hD4:=s4 _ _ hD3;have so4:=so3.same s4;have sd4:=sd3.nxt (Same.nxt s4);have s04:=s3.trans s4;clear hD3 so3 sd3 s3 s4;exists iE5 D b xs _ _ (iA6 rfl rfl hD4 sd4.keys r4 ?_);cases el:xG xs (qM bs rs t)with
   |some y0 =>
    refine oE2 (sd4.look el) λi n0 p9=>oA3 p9 λhi ei so0=>?_;clear p9;exists iE6 D b xs _ _ y0 (iA7 rfl rfl hD4 sd4.keys r4 el (λq hq=>?_));have sq:=zf (o:=.tup [.ref y0,.ref y]) hq;exact kQ i t q y0 y n0 n _ ⟨hi,ht',ei,sd4.fst⟩ (s04.trans sq) rh (so0.same sq) (so4.same sq)
   |none =>
    exists iE6 D b xs _ _ y (iA9 rfl rfl rfl hD4 sd4.keys r4 el (zn (by lia)) ?_);have nx:Nxt H4 (upd H4 D (sdO P w D (xs++[(qM bs rs t,b,y)]))):=zh5 hD4;have so5:=so4.nxt nx;have sd5:=(sd4.add el r4 so4).nxt nx;have hD5:upd H4 D (sdO P w D (xs++[(qM bs rs t,b,y)])) D=some (sdO P w D (xs++[(qM bs rs t,b,y)])):=rh;have s5:Same H (upd H4 D (sdO P w D (xs++[(qM bs rs t,b,y)]))):=λc u hc=>by rw[rj (rn hc nD)];exact s04 c u hc
    generalize upd H4 D (sdO P w D (xs++[(qM bs rs t,b,y)]))=H5 at so5 sd5 hD5 s5 ⊢;exists uc (zdD T).mono (iE6 vw (.ref y) (zm bs rs t) bs rs _ (iA8 rfl (hv.same s5) so5.rep (z6 pU bo ro t) pU bo ro (λv' H6 s6 sn=>?_)));refine oE2 sn λy2 n2 p9=>oA3 p9 λpQ so6 _=>?_;clear p9 sn;subst pQ;exact iE5 _ _ y2 n2 _ (iA5 rfl (s5.trans s6) (s6 _ _ hD5) so6 (sd5.nxt (Same.nxt s6)))
  .intro σ H3 pR;refine oE5 pR λv4 v5 y n xs p9=>oA5 p9 λpQ s3 hD3 so3 sd3=>?_;ext;exact iE3 _ _ _ (iA3 rfl s3 (λx y hxy hy=>sd3.fst x y hxy (by lia)))
 intro σ' H3 pR;refine oE3 pR λv2 v4 v5 p9=>oA3 p9 λpQ s3 nr=>?_;ext;left;exact⟨a.h,iA3 T.kH T.oZ (kE nr H3 s3)⟩
noncomputable def xI(old new:A6):List Int:=(List.range old.length).map λp=>new.getD p 0-old.getD p 0
noncomputable def j8(gs0 gs1:List A6):List A6:=List.zipWith xI gs0 gs1
def zfl{gs0 gs1:List A6}{g0 g1:A6}(h0:gs0[i]?=some g0)(h1:gs1[i]?=some g1):j8 (gs0.take (i+1)) (gs1.take (i+1))=j8 (gs0.take i) (gs1.take i)++[xI g0 g1]:=by
 unfold j8;rw[aT,aT,h0,h1];have l0:=(aa.mp h0).1;have l1:=(aa.mp h1).1;rw[List.zipWith_append (by rw[aS,aS];lia)]
 rfl
def zf1(a:Ad):Sp:=λvs H Q _=>∃(y0 y1:Addr)(n0 n1:SN)(s0 s1:PSt),vs=[.ref y0,.ref y1]/\StO a H y0 n0 s0/\StO a H y1 n1 s1/\s0.gone.length=s1.gone.length/\s0.gone.length<=24/\(∀(i:Nat) g0 g1,s0.gone[i]?=some g0->s1.gone[i]?=some g1->g0.length=g1.length/\g0.length<=4) /\
 ∀l as H',Same H H'->NL H' (zX H') l as (qE (j8 s0.gone s1.gone))->(∀b∈l::as,H b=none)->Q (.ref l) H'
def Ja(T:Txt K mg a):Cal P w K mg base "growth_of" 1 ["before","after"] [] (zf1 a):=T.nY.cal λF=>by
 refine F.okx V8 ?_ ?_
 .walk_at"i"
 walk_at"j";refine oE6 h λy0 y1 n0 n1 s0 s1 p9=>oA7 p9 λpQ so0 so1 le l24 lg k=>?_;clear p9 h;subst pQ;have la0:n0.ags.length=s0.gone.length:=by rw[so0.hg.len,qE,af]
 have la1:n1.ags.length=s0.gone.length:=by rw[so1.hg.len,qE,af,le]
 walk_at"T";refine⟨_,(zl (zt 2 V8.nd (zB ze))  (zl (qU jn rfl (zjm (za (zr (pq 0) rfl) (za (zr (pq 1) rfl) ze))) (xW (n:=2) rfl (qd (zan (i:=3) V8.nd rfl (Or.inr rfl)) (qd (zan (i:=4) V8.nd rfl (Or.inr rfl)) jO)))  (zg (zD (z7 ao aw av zN (pq 2) (za (jJ (vars:=["place"]) (caps:=[4,3]) (N:=["place","new","old"]) (ON:=["before","after","growth","old","new"]) (osc:=zi vv) rfl rfl (by right) rfl rfl (vH (za (zS qa z9 (za (pq 3) ze)) ze)) (λ_ _ _ _=>(qq 0 (show(["place","new","old"]:A8).Nodup from by symm))) (λ_ _ _ _=>qg) (λ_ _ _ _=>(zG XE (zv (pq 1) (pq 0)) (zv (pq 2) (pq 0))))) ze)))))  (zg (zk (pq 2))))),?_⟩;left;intro l hl;have sl:=zf (o:=.lst []) hl;have nl0:NL (upd H l (.lst [])) (zX (upd H l (.lst []))) l [] (qE (j8 (s0.gone.take 0) (s1.gone.take 0))):=zax rh;generalize upd H l (.lst [])=H1 at sl nl0 ⊢;have so10:=so0.same sl;have so11:=so1.same sl;walk_at"d";exists ra so10.hy T.ad T.iy rfl (ra so11.hy T.ad T.iy rfl (iE6 true true n0.lg n1.lg _ _ (iA4 rfl (SqL.of so10.hg.out) (SqL.of so11.hg.out) ?_)));let pY:Nat->St->Hp->Prop:=λi σ H'=>∃(v3 v4:Aq)(as:Ab),σ=[some (.ref y0),some (.ref y1),some (.ref l),v3,v4]/\Same H H'/\NL H' (zX H') l as (qE (j8 (s0.gone.take i) (s1.gone.take i)))/\∀b∈as,H b=none;refine zkC (K:=K) (xs:=n0.ags.map V.ref) (ys:=n1.ags.map V.ref) pY (iE3 _ _ ([]) (iA4 rfl sl nl0 (by simp))) (λi σ H' _ h=>by let⟨_,_,_,_,s,_⟩:=h;exact⟨SqL.of (s _ _ so0.hg.out),SqL.of (s _ _ so1.hg.out)⟩) ?_ ?_
 .intro i x z t σ H2 hi hj ht pR;refine oE3 pR λv3 v4 as p9=>oA4 p9 λpQ s2 nl2 fa=>?_;ext;rw[ap,aB]at hi hj;let⟨b0,hb0,rfl⟩:=hi;let⟨b1,hb1,rfl⟩:=hj;have hil:i<s0.gone.length:=by rw[<- la0];exact(aa.mp hb0).1
  let⟨g0,e0⟩:∃g,s0.gone[i]?=some g:=⟨_,ac hil⟩;let⟨g1,e1⟩:∃g,s1.gone[i]?=some g:=⟨_,ac (by rw[<- le];exact hil)⟩;let⟨lg1,lg4⟩:=lg i g0 g1 e0 e1;let⟨c0,q0,h0⟩:=X3 so0.hg e0;let⟨c1,q1,h1⟩:=X3 so1.hg e1;rw[hb0]at q0;cases q0;rw[hb1]at q1;cases q1;have st:=zf (o:=.tup [.ref b0,.ref b1]) ht;have s3:=s2.trans st;have nl3:=nl2.tup (H':=upd H2 t (.tup [.ref b0,.ref b1])) λb o _ hb=>st b o hb;refine un2 rh ?_;generalize upd H2 t (.tup [.ref b0,.ref b1])=H3 at s3 nl3 ⊢;have las:as.length<=24:=by rw[nl3.len,qE,af,j8,gu,aS,aS];lia
  exists⟨.inl ⟨rfl,_,SqL.of nl3.out⟩,?_⟩;walk_at"c";exists⟨_,.inl ⟨_,SqL.of (s3 _ _ h0),rfl⟩,?_⟩;rw[zP];exists⟨by lia,by lia,λ_ _ _ _ pV hacc=>?_⟩;let pZ:Nat->St->Hp->Prop:=λj σ H'=>∃(v0:Aq),σ=[v0,some (.ref b1),some (.ref b0)]/\Same H3 H'/\H' pV=some (.lst (iv ((List.range j).map λp=>g1.getD p 0-g0.getD p 0)));refine Q5 (n:=((g0.length:Int)).toNat) pZ ⟨_,iA3 rfl (zf hacc) rh⟩ ?_ ?_
  .intro j σ H4 hj pR;refine oE1 pR λv0 p9=>oA3 p9 λpQ s4 ha=>?_;ext;have hjl:j<g0.length:=by lia
   left;simp only[cR];refine zw (SqL.of (s4 _ _ (s3 _ _ h1))) (zJ (xr (jm (d:=0) (by lia:j<g1.length)))) (zw (SqL.of (s4 _ _ (s3 _ _ h0))) (zJ (xr (jm (d:=0) hjl))) ?_);exists⟨_,iA3 ha (zn (by rw[zP,af,length_range];lia)) ⟨_,iA3 rfl (λb o hb=>by rw[rj (rn hb hacc)];exact s4 b o hb) ?_⟩⟩;rw[rh,jr,gr,aQ]
   rfl
  intro σ H4 pR;refine oE1 pR λv0 p9=>oA3 p9 λpQ s4 ha=>?_;ext;rw[show((g0.length:Int)).toNat=g0.length by lia]at ha;have nl4:=nl3.tup (H':=H4) λb o _ hb=>s4 b o hb;have nb:pV∉as:=λz=>by
   let⟨vs,h⟩:=nl3.isl (aA _ z);rw[hacc]at h;cases h
  have nG:pV≠l:=λz=>by rw[z,nl3.out]at hacc;cases hacc
  have ntG:¬zX H4 l:=λ⟨xs,hx⟩=>by rw[nl4.out]at hx;cases hx
  refine iE3 l _ _ (iA5 rfl rfl nl4.out (zn (by rw[af];lia)) ?_);have np:=nl4.push (b:=pV) (vs:=iv (xI g0 g1)) (ys:=(xI g0 g1).map D.int) ha nb nG ntG reps_ints;refine iE3 _ _ (as++[pV]) (iA4 rfl (λb o hb=>by rw[rj (rn hb hl)];exact s4 _ _ (s3 _ _ hb)) ?_ (λb hb=>?_))
  .rw[zfl e0 e1,show qE (j8 (s0.gone.take i) (s1.gone.take i)++[xI g0 g1])=qE (j8 (s0.gone.take i) (s1.gone.take i))++[(xI g0 g1).map D.int] by simp[qE]];refine np.keep (λ_ _ _ hc=>hc) λc hc _=>?_;let⟨xs,hx⟩:=hc;exact⟨xs,by rw[rj (λz=>by rw[z,nl4.out]at hx;cases hx)];exact hx⟩
  .rcases ay.mp hb with hb|hb
   .exact fa b hb
   .rw[ak.mp hb];exact zM s3 hacc
 .intro σ H2 pR;refine oE3 pR λv3 v4 as p9=>oA4 p9 λpQ s2 nl2 fa=>?_;ext;rw[af,af,la0,la1,Nat.min_self,aV,show List.take s0.gone.length s1.gone=s1.gone by rw[le];exact aV]at nl2;exists k l as _ s2 nl2 λb hb=>?_;rcases au.mp hb with rfl|hb
  .exact hl
  .exact fa b hb
def za2{st:PSt}{fb:A9}:(je st k fb).2.turn=st.turn/\(je st k fb).2.sides=st.sides/\(je st k fb).2.gone=st.gone:=by
 cases fb<;>exact⟨rfl,rfl,rfl⟩
def zbI{st:PSt}{x:zT}{tb:A9}:(Qy st x tb).turn=st.turn/\(Qy st x tb).sides=st.sides/\(Qy st x tb).gone=st.gone:=by
 cases tb<;>exact⟨rfl,rfl,rfl⟩
def movedF_keep{r:Row}{st:PSt}{ch:Ak}:(movedF r st k ch).turn=st.turn/\(movedF r st k ch).sides=st.sides/\(movedF r st k ch).gone=st.gone:=by
 let⟨a1,a2,a3⟩:=za2 (st:=st) (k:=k) (fb:=xh r ch);let⟨b1,b2,b3⟩:=zbI (st:=(je st k (xh r ch)).2) (x:=(je st k (xh r ch)).1) (tb:=Qp r ch);exact⟨b1.trans a1,b2.trans a2,b3.trans a3⟩
def qC{α:Type}{xs:List α}{k j:Nat}{x d:α}(h:k≠j):(xs.set k x).getD j d=xs.getD j d:=by
 rw[aj,aj,bE h]
def zfG(rs:At)(st:PSt)(k:Nat):(jb rs st k).1.turn=st.turn/\∀j,k<j->(jb rs st k).1.sides.getD j 0=st.sides.getD j 0/\(jb rs st k).1.gone.getD j []=st.gone.getD j []:=by
 unfold jb;cases rs[k]? with
 |none=>exact⟨rfl,λ_ _=>⟨rfl,rfl⟩⟩
 |some r =>
  simp only;cases qb r (qh rs st.cells r) (qP st.cells r) st.turn (st.sides.getD k 0).toNat with
  |none=>exact⟨rfl,λ_ _=>⟨rfl,rfl⟩⟩
  |some ch =>
   let⟨c1,c2,c3⟩:=movedF_keep (r:=r) (st:=st) (k:=k) (ch:=ch);refine⟨c1,λj hj=>⟨?_,?_⟩⟩
   .show((movedF r st k ch).sides.set k _).getD j 0=_
    rw[qC (by lia),c2]
   .show((movedF r st k ch).gone.set k _).getD j []=_
    rw[qC (by lia),c3]
theorem Jd(rs:At)(st:PSt):∀i,(zC rs st i).1.turn=st.turn/\∀j,i<=j->(zC rs st i).1.sides.getD j 0=st.sides.getD j 0/\(zC rs st i).1.gone.getD j []=st.gone.getD j []
 |0=>⟨rfl,λ_ _=>⟨rfl,rfl⟩⟩
 |i+1=>by
  let⟨h1,h2⟩:=Jd rs st i;let⟨g1,g2⟩:=zfG rs (zC rs st i).1 i;refine⟨g1.trans h1,λj hj=>?_⟩;let⟨a1,a2⟩:=h2 j (by lia);let⟨b1,b2⟩:=g2 j (by lia);exact⟨b1.trans a1,b2.trans a2⟩
theorem ja(bs:A1)(rs:At):∀n,(zm bs rs n).turn=n
 |0=>rfl
 |n+1=>by
  show(zC rs (zm bs rs n) rs.length).1.turn+1=_
  rw[(Jd rs (zm bs rs n) rs.length).1,ja bs rs n]
  rfl
def zio(g:A6)(j p:Nat):g.getD p 0<=(Ju g j).getD p 0:=by
 unfold Ju;by_cases e:j=p
 .subst e;by_cases h:j<g.length
  .rw[aj (l:=g.set _ _),aU h];show _<=g.getD j 0+1
   lia
  .rw[ck (by lia)];exact bO _
 .rw[qC e];exact bO _
def zct(rs:At)(st:PSt)(k i p:Nat):(st.gone.getD i []).getD p 0<=((jb rs st k).1.gone.getD i []).getD p 0:=by
 unfold jb;cases rs[k]? with
 |none=>exact bO _
 |some r =>
  simp only;cases qb r (qh rs st.cells r) (qP st.cells r) st.turn (st.sides.getD k 0).toNat with
  |none=>exact bO _
  |some ch =>
   let⟨c1,c2,c3⟩:=movedF_keep (r:=r) (st:=st) (k:=k) (ch:=ch);show _<=(((movedF r st k ch).gone.set k _).getD i []).getD p 0
   rw[c3];by_cases e:k=i
   .subst e;by_cases h:k<st.gone.length
    .rw[aj (l:=st.gone.set _ _),aU h];exact zio _ _ _
    .rw[ck (by lia)];exact bO _
   .rw[qC e];exact bO _
theorem QL(rs:At)(st:PSt)(i p:Nat):∀m,(st.gone.getD i []).getD p 0<=((zC rs st m).1.gone.getD i []).getD p 0
 |0=>bO _
 |m+1=>gk (QL rs st i p m) (zct rs _ m i p)
theorem vX(bs:A1)(rs:At)(n i p:Nat):∀m,((zm bs rs n).gone.getD i []).getD p 0<=((zm bs rs (n+m)).gone.getD i []).getD p 0
 |0=>bO _
 |m+1=>gk (vX bs rs n i p m) (QL rs (zm bs rs (n+m)) i p rs.length)
noncomputable def qt(bs:A1)(rs:At)(i j:Nat):List A6:=j8 (zm bs rs i).gone (zm bs rs j).gone
def QF{rs:At}{s0 s1:PSt}(ro:∀r∈rs,r.ok)(w0:stWf bs rs s0)(w1:stWf bs rs s1):s0.gone.length=s1.gone.length/\∀(i:Nat) g0 g1,s0.gone[i]?=some g0->s1.gone[i]?=some g1->g0.length=g1.length/\g0.length<=4:=by
 refine⟨by rw[w0.go.1,w1.go.1],λi g0 g1 e0 e1=>?_⟩;have hi:=(aa.mp e0).1;let⟨r,hr⟩:∃r,rs[i]?=some r:=⟨_,ac (by rw[<- w0.go.1];exact hi)⟩;have q0:=(w0.go.2 i r g0 hr e0).1;have q1:=(w1.go.2 i r g1 hr e1).1;have rl:=vF (ro r (ai hr));refine⟨by lia,?_⟩;rw[q0];have:=bA (n:=max r.ins.length r.outs.length) (a:=(0:Int));show(qQ r).length<=4
 unfold qQ;rw[bA]
 lia
theorem zd1{rs:At}{i j:Nat}(ro:∀r∈rs,r.ok)(pU:zQ bs rs)(bo:∀b∈bs,zE b.1 b.2)(h:i<=j):∀g∈qt bs rs i j,g.length<=4/\∀n∈g,0<=n:=λg hg=>by
 let⟨q,hq⟩:=bF hg;unfold qt j8 at hq;rw[d7]at hq;let⟨le,lg⟩:=QF ro (z6 pU bo ro i) (z6 pU bo ro j);cases e0:(zm bs rs i).gone[q]? with
 |none=>rw[e0]at hq;simp at hq
 |some g0 =>
  cases e1:(zm bs rs j).gone[q]? with
  |none=>rw[e0,e1]at hq;simp at hq
  |some g1 =>
   rw[e0,e1]at hq;have hq:xI g0 g1=g:=by simpa using hq
   subst hq;let⟨l1,l2⟩:=lg q g0 g1 e0 e1;refine⟨by unfold xI;rw[af,length_range];exact l2,λn hn=>?_⟩;unfold xI at hn;let⟨p,_,rfl⟩:=aK.mp hn;have:=vX bs rs i q p (j-i);rw[show i+(j-i)=j by lia,aj (l:=(zm bs rs i).gone),aj (l:=(zm bs rs j).gone),e0,e1]at this;simp only[bc]at this
   lia
def Zj(a:Ad)(R:List (Int×Int)->List Row->Nat->Nat->Hp->V->Hp->Prop):Sp:=λvs H Q E=>∃(vw:V)(lim:Nat)(bs:A1)(rs:At),vs=[vw,.int lim]/\Rep H (Off []) vw (qG a bs rs)/\zQ bs rs/\(∀b∈bs,zE b.1 b.2)/\(∀r∈rs,r.ok)/\lim<=1000 /\
 (∀i j v H',RoundAt bs rs lim i j->Same H H'->R bs rs i j H v H'->Q v H')/\(xK bs rs lim->∀H',Same H H'->E (.ref a.h) none H')
def rOf(_:A1)(_:At)(i j:Nat)(_:Hp)(v:V)(H':Hp):Prop:=∃t,v=.ref t/\H' t=some (.tup [.int i,.int ((j:Int)-i)])
def zbK(T:Txt K mg a)(F:FunD K "round_of" "round_of" ZB f fd):FnOk P w K mg base (CXr P w) 9 f fd ["work","limit"] (Zj a rOf):=by
 refine F.okx zbh ?_ ?_
 .walk_at"i"
 walk_at"j";refine oE4 h λvw lim bs rs p9=>oA8 p9 λpQ hv pU bo ro l1000 kQ kE=>?_;clear p9 h;subst pQ;walk_at"T";refine⟨_,(zl (zt 2 zbh.nd ‹(pq 0) (za (pq 1) ze)›)  (zg (zk (qV (za (zr (zv (pq 2) zh) rfl) (za (zG XE (zr (zv (pq 2) zh) rfl) (zr (zv (pq 2) zh) rfl)) ze)))))),?_⟩;exists uc (wR T).mono (iE4 vw lim bs rs (iA8 rfl hv pU bo ro l1000 (λi j t y0 y1 n0 n1 H1 rnd s1 ht so0 so1=>?_) kE));exists rA ht at0 (ra so0.hy T.ad T.ip rfl ?_);refine rA ht (show atI _ 1=some (.ref y1)from rfl) (ra so1.hy T.ad T.ip rfl ?_);refine rA ht at0 (ra so0.hy T.ad T.ip rfl ?_);left;intro t2 ht2;rw[ja,ja];exact kQ i j _ _ rnd (s1.trans (zf ht2)) ⟨t2,rfl,rh⟩
def Wc(T:Txt K mg a):Cal P w K mg base "round_of" 9 ["work","limit"] [] (Zj a rOf):=T.oC.cal (zbK T)
def zdU(CN:Addr):Sp:=λvs H Q E=>∃t b:Int,vs=[.int t,.int b]/\b.natAbs<2^8000/\if b=0 then E (.ref CN) none H else ∀p,H p=none->Q (.ref p) (upd H p (.tup [.int (xU t b),.int (xV t b)]))
def zgx{CN:Addr}(kG:mg "NoRatio"=some (.ref CN))(xN:XC K CN)(kS:mg "abs"=none)(cC:Cal P w K mg base "common" 1 ["one","other"] [] JZ)(F:Fun K "ratio" "ratio" zae f fd):FnOk P w K mg base (CXr P w) 2 f fd ["top","bottom"] (zdU CN):=by
 refine F.okx zf9 ?_ ?_
 .walk_at"i"
 walk_at"k";refine oE2 h λt b p9=>oA3 p9 λpQ hb8 k=>?_;clear p9 h;subst pQ;refine⟨_,(zl (zH (zo (qT hr.units1) (pq 1) zh (zu _))  (zg (qN ⟨rfl,rfl,rfl⟩ rfl (za zy ze)))  zp)  (zl (zt 2 zf9.nd ‹(zS zhl zhk (za (pq 0) ze)) (za (zS zhl zhk (za (pq 1) ze)) ze)›)  (zl (zH (zo zgw (pq 1) zh (zu _))  (zg (zt 2 zf9.nd (QZ vm (pq 2))))  zp)  (zg (zk (qV (za (zG zaw (pq 0) (pq 2)) (za (zG zaw (pq 1) (pq 2)) ze)))))))),?_⟩;exists zR (λhb=>?_) (λhb=>?_)
 .rw[aq hb]at k;exact⟨CN,iA3 kG xN k⟩
 .rw[am hb]at k;refine iE3 _ _ _ (iA4 cC kS kS ⟨_,_,rfl,by split<;>lia,by split<;>lia,?_⟩);rw[ziA];have hp:=zhV (top:=t) hb;have h89:(part t b).natAbs<2^8999:=bV hp.2 (eV hb8 (gH (by decide) (by decide)));have hf:∀i,CFd i (part t b):=λi=>zjU hp.1 h89;walk_at"r";by_cases hs:b<0
  .rw[aq hs];have e:-(Int.gcd t b:Int)=part t b:=by unfold part;rw[aq hs]
   rw[e];exact⟨hf _,hf _,k⟩
  .rw[am hs];have e:(Int.gcd t b:Int)=part t b:=by unfold part;rw[am hs]
   rw[e];exact⟨hf _,hf _,k⟩
def zil(T:Txt K mg a):Cal P w K mg base "ratio" 2 ["top","bottom"] [] (zdU a.c):=T.pI.cal (zgx T.kG T.oY T.kS (zcq T))
def J3(L:Int)(g:A6):List D:=g.map λn=>.tup [.int (xU n L),.int (xV n L)]
def zkm(bs:A1)(rs:At)(i j:Nat)(H:Hp)(v:V)(H':Hp):Prop:=∃l as,v=.ref l/\NL H' (zX H') l as ((qt bs rs i j).map (J3 ((j:Int)-i)))/\∀b∈l::as,H b=none
def zaq(T:Txt K mg a)(F:FunD K "shares_of" "shares_of" xC f fd):FnOk P w K mg base (CXr P w) 9 f fd ["work","limit"] (Zj a zkm):=by
 refine F.okx V1 ?_ ?_
 .walk_at"i"
 walk_at"j";refine oE4 h λvw lim bs rs p9=>oA8 p9 λpQ hv pU bo ro l1000 kQ kE=>?_;clear p9 h;subst pQ;walk_at"T";refine⟨_,(zj (zt 2 V1.nd ‹(pq 0) (za (pq 1) ze)›)  (zj (zc0 (i:=3) V1.nd rfl (Or.inr rfl) (zG XE (zr (zv (pq 2) zh) rfl) (zr (zv (pq 2) zh) rfl)))  (zj (zt 4 V1.nd (zB ze))  (zj (qU jn rfl (qj ‹(zv (pq 2) zh) (za (zv (pq 2) zh) ze)›) (qq 5 V1.nd)  (zg (zD (z7 ao aw av zN (pq 4) (za (jJ (vars:=["count"]) (caps:=[3]) (N:=["count","length"]) (ON:=["work","limit","ends","length","shares","counts"]) (osc:=zi xC) rfl rfl (by right) rfl rfl (qj (pq 5)) (λ_ _ _ _=>(qq 0 (show(["count","length"]:A8).Nodup from by symm))) (λ_ _ _ _=>qg) (λ_ _ _ _=>(wK hr (za (pq 0) (za (pq 1) ze))))) ze)))))  (zg (zk (pq 4))))))),?_⟩;exists uc (wR T).mono (iE4 vw lim bs rs (iA8 rfl hv pU bo ro l1000 (λi j t y0 y1 n0 n1 H1 rnd s1 ht so0 so1=>?_) kE));let⟨le,lg⟩:=QF ro (z6 pU bo ro i) (z6 pU bo ro j);have l24:(zm bs rs i).gone.length<=24:=by rw[(z6 pU bo ro i).go.1];exact pU.1.2.2
 have rp:=zd1 ro pU bo (b7 rnd.lt);have rl:(qt bs rs i j).length<=24:=by
  unfold qt j8;rw[gu]
  lia
 have hij:=rnd.lt;have hj:=rnd.le;exists rA ht (show atI _ 1=some (.ref y1)from rfl) (ra so1.hy T.ad T.ip rfl ?_);refine rA ht at0 (ra so0.hy T.ad T.ip rfl ?_);left;rw[ja,ja];intro l hl;have sl:=zf (o:=.lst []) hl;have nl0:H l=none:=zM s1 hl;have hl1:upd H1 l (.lst []) l=some (.lst []):=rh;have s2:=s1.trans sl;have ht2:=sl _ _ ht;have so20:=so0.same sl;have so21:=so1.same sl;generalize upd H1 l (.lst [])=H2 at hl1 s2 ht2 so20 so21 ⊢;clear sl ht so0 so1 s1 hl;walk_at"d";exists uc (Ja T).mono (rA ht2 at0 (rA ht2 (show atI _ 1=some (.ref y1)from rfl) ?_));refine iE6 y0 y1 n0 n1 _ _ (iA7 rfl so20 so21 le l24 lg (λgl gs H3 s3 ng fg=>?_));have ng:NL H3 (zX H3) gl gs (qE (qt bs rs i j)):=ng;have lgs:gs.length=(qt bs rs i j).length:=by rw[ng.len,qE,af]
 have kQ:∀v H',Same H H'->(∃l as,v=.ref l/\NL H' (zX H') l as ((qt bs rs i j).map (J3 ((j:Int)-i)))/\∀b∈l::as,H b=none)->Q v H':=λv H' s r=>kQ i j v H' rnd s r;generalize qt bs rs i j=G at ng lgs rp rl kQ;have offl:∀b∈gl::gs,b∉[l]:=λb hb z=>by
  have:=fg b hb;rw[ak.mp z,hl1]at this;cases this
 have s03:=s2.trans s3;have hl3:=s3 _ _ hl1;have Lp:((j:Int)-i)≠0:=by lia
 have L8:((j:Int)-i).natAbs<2^8000:=zcH (bV (show((j:Int)-i).natAbs<=1000 by lia) (by decide));generalize (j:Int)-i=L at Lp L8 kQ;refine⟨gl,rfl,.inl ⟨⟨_,SqL.of ng.out⟩,?_⟩⟩;refine qL (K:=K) (a:=gl) (xs:=gs.map V.ref) (λm σ H'=>∃(v5:Aq)(as:Ab),σ=[some vw,some (.int lim),some (.ref t),some (.int L),some (.ref l),v5]/\Fr [l] H3 H'/\NL H' (zX H') l as ((G.take m).map (J3 L))/\∀b∈as,H b=none) (iE2 _ ([]) (iA4 rfl Fr.refl (zax hl3) (by simp))) (λm σ H' _ h=>by let⟨_,_,_,f,_⟩:=h;exact SqL.of (f _ _ (offl gl (by simp)) ng.out)) ?_ ?_
 .intro m x σ H4 hm pR;refine oE2 pR λv5 as p9=>oA4 p9 λpQ f4 nl4 fa=>?_;ext;rw[ap,aB]at hm;let⟨b,hb,rfl⟩:=hm;have hml:m<G.length:=by rw[<- lgs];exact(aa.mp hb).1
  let⟨g,eg⟩:∃g,G[m]?=some g:=⟨_,ac hml⟩;let⟨b',hb',hg⟩:=X3 ng eg;rw[hb]at hb';cases hb';have hg4:=f4 _ _ (offl b (aA _ (ai hb))) hg;let⟨g4,_⟩:=rp g (ai eg);have la:as.length<=24:=by rw[nl4.len,af,aS];lia
  exists⟨.inl ⟨rfl,_,SqL.of nl4.out⟩,?_⟩;walk_at"c";exists⟨b,rfl,.inl ⟨⟨_,SqL.of hg4⟩,λ_ _ _ _ pV hacc=>?_⟩⟩;refine qL (K:=K) (a:=b) (xs:=iv g) (λq σ H'=>∃(v0:Aq)(ws:Ap),σ=[v0,some (.int L)]/\Same H4 H'/\H' pV=some (.lst ws)/\ws.length=q/\Reps H' (zX H') ws (J3 L (g.take q))) (iE2 _ ([]) (iA5 rfl (zf hacc) rh rfl (.nil))) (λq σ H' _ h=>by let⟨_,_,_,s,_⟩:=h;exact SqL.of (s _ _ hg4)) ?_ ?_
  .intro q x σ H5 hq pR;refine oE2 pR λv0 ws p9=>oA5 p9 λpQ s5 ha lw rw5=>?_;ext;let⟨c,hc,rfl⟩:=vR hq;have hql:=(aa.mp hc).1;exists uc (zil T).mono (iE2 c L (iA3 rfl L8 ?_));rw[am Lp];intro p hp;have sp:=zf (o:=.tup [.int (xU c L),.int (xV c L)]) hp;have hp6:upd H5 p (.tup [.int (xU c L),.int (xV c L)]) p=some (.tup [.int (xU c L),.int (xV c L)]):=rh;have ha6:=sp _ _ ha;have s6:=s5.trans sp;have rw6:=rw5.keep (H':=upd H5 p (.tup [.int (xU c L),.int (xV c L)])) (q:=zX (upd H5 p (.tup [.int (xU c L),.int (xV c L)]))) λb o ⟨xs,hx⟩ hb=>⟨⟨xs,sp _ _ hx⟩,sp _ _ hb⟩;generalize upd H5 p (.tup [.int (xU c L),.int (xV c L)])=H6 at hp6 ha6 s6 rw6 ⊢;refine⟨_,iA3 ha6 (zn (by lia)) (iE2 _ (ws++[.ref p]) (iA5 rfl (λb o hb=>by rw[rj (rn hb hacc)];exact s6 b o hb) rh (by simp[lw]) ?_))⟩;rw[aT,hc,show J3 L (g.take q++(some c).toList)=J3 L (g.take q)++[.tup [.int (xU c L),.int (xV c L)]] by simp[J3]];have r7:Rep H6 (zX H6) (.ref p) (.tup [.int (xU c L),.int (xV c L)]):=Reps.mkT (vs:=[.int (xU c L),.int (xV c L)]) (.cons .int (.cons .int .nil)) ⟨_,hp6⟩ hp6;refine(rw6.append (.one r7)).keep λb o tb hb=>?_;have ne:b≠pV:=λz=>by
    let⟨xs,hx⟩:=tb;rw[z,ha6]at hx;cases hx
   let⟨xs,hx⟩:=tb;exact⟨⟨xs,by rw[rj ne];exact hx⟩,by rw[rj ne];exact hb⟩
  intro σ H5 pR;refine oE2 pR λv0 ws p9=>oA5 p9 λpQ s5 ha lw rw5=>?_;ext;rw[zP,aV]at rw5;have nl5:=nl4.tup (H':=H5) λb o _ hb=>s5 b o hb;have nb:pV∉as:=λz=>by
   let⟨vs,h⟩:=nl4.isl (aA _ z);rw[hacc]at h;cases h
  have nG:pV≠l:=λz=>by rw[z,nl4.out]at hacc;cases hacc
  have ntG:¬zX H5 l:=λ⟨xs,hx⟩=>by rw[nl5.out]at hx;cases hx
  have nac:H pV=none:=by
   cases e:H pV with
   |none=>rfl
   |some u =>
    rw[f4 pV u (λz=>nG (ak.mp z)) (s03 _ _ e)]at hacc;cases hacc
  refine iE3 l _ _ (iA5 rfl rfl nl5.out (zn (by rw[af];lia)) ?_);have np:=nl5.push (b:=pV) (vs:=ws) (ys:=J3 L g) ha nb nG ntG rw5;refine iE2 _ (as++[pV]) (iA4 rfl ((f4.trans s5.fr).trans (qW (by simp))) ?_ (λb hb=>?_))
  .rw[aT,eg,aQ];refine np.keep (λ_ _ _ hc=>hc) λc hc _=>?_;let⟨xs,hx⟩:=hc;exact⟨xs,by rw[rj (λz=>by rw[z,nl5.out]at hx;cases hx)];exact hx⟩
  .rcases ay.mp hb with hb|hb
   .exact fa b hb
   .rw[ak.mp hb];exact nac
 .intro σ H4 pR;refine oE2 pR λv5 as p9=>oA4 p9 λpQ f4 nl4 fa=>?_;ext;rw[af,lgs,aV]at nl4;exists kQ _ H4 (λb o hb=>f4 b o (λz=>by rw[ak.mp z,nl0]at hb;cases hb) (s03 _ _ hb)) (iE2 l as (iA3 rfl nl4 (λb hb=>?_)));rcases au.mp hb with rfl|hb
  .exact nl0
  .exact fa b hb
def Q8(T:Txt K mg a):Cal P w K mg base "shares_of" 9 ["work","limit"] [] (Zj a zkm):=T.nZ.cal (zaq T)
def zbv{rs:At}(pU:zQ bs rs)(bo:∀b∈bs,zE b.1 b.2)(ro:∀r∈rs,r.ok)(i j:Nat):(qt bs rs i j).length=rs.length/\∀(k:Nat) r g,rs[k]?=some r->(qt bs rs i j)[k]?=some g->g.length=(qQ r).length:=by
 have w0:=z6 pU bo ro i;have w1:=z6 pU bo ro j;refine⟨by unfold qt j8;rw[gu,w0.go.1,w1.go.1,Nat.min_self],λk r g hr hg=>?_⟩;have hk:=(aa.mp hr).1;have a0:=ac (l:=(zm bs rs i).gone) (i:=k) (by rw[w0.go.1];exact hk);have a1:=ac (l:=(zm bs rs j).gone) (i:=k) (by rw[w1.go.1];exact hk);unfold qt j8 at hg;rw[d7,a0,a1]at hg;cases hg;unfold xI;rw[af,length_range];exact(w0.go.2 k r _ hr a0).1
def zer{r:Row}(ok:r.ok):0<(qQ r).length:=by
 have:1<=r.ins.length\/1<=r.outs.length:=by
  let⟨wd,ins,outs,pc,kd⟩:=r;cases wd
  .obtain⟨_,⟨o,q⟩,_⟩:=ok;simp only at q;subst q;simp
  .obtain⟨⟨o,q⟩,_⟩:=ok;simp only at q;subst q;simp
  .obtain⟨⟨o,q⟩,_⟩:=ok;simp only at q;subst q;simp
  .obtain⟨⟨o,q⟩,_⟩:=ok;simp only at q;subst q;simp
  .obtain⟨⟨o,q⟩,_⟩:=ok;simp only at q;subst q;simp
  .obtain⟨⟨o,q⟩,_⟩:=ok;simp only at q;subst q;simp
 unfold qQ;rw[bA]
 lia
def js(G:List A6):Prop:=∀g∈G,∀n∈g,n<=0
def zkl(a:Ad)(bs:A1)(rs:At)(i j:Nat)(_:Hp)(v:V)(H':Hp):Prop:=(js (qt bs rs i j)/\∃y n,v=.ref y/\StO a H' y n (zm bs rs i))\/(¬js (qt bs rs i j)/\v=.non)
def Zt(T:Txt K mg a):Cal P w K mg base "still_state" 9 ["work","limit"] [] (Zj a (zkl a)):=T.mG.cal λF=>by
 refine F.okx Xe ?_ ?_
 .walk_at"i"
 walk_at"j";refine oE4 h λvw lim bs rs p9=>oA8 p9 λpQ hv pU bo ro l1000 kQ kE=>?_;clear p9 h;subst pQ;walk_at"T";refine⟨_,(zl (zt 2 Xe.nd ‹(pq 0) (za (pq 1) ze)›)  (zl (qU jn rfl (qj ‹(zv (pq 2) zh) (za (zv (pq 2) zh) ze)›) (qq 3 Xe.nd)  (zg (zH (zo Q0 (zS (zis rfl) zhj (za (pq 3) ze)) zh (zu _))  (zg (zk zA))  zp)))  (zg (zk (zv (pq 2) zh))))),?_⟩;exists uc (wR T).mono (iE4 vw lim bs rs (iA8 rfl hv pU bo ro l1000 (λi j t y0 y1 n0 n1 H1 rnd s1 ht so0 so1=>?_) kE));let⟨le,lg⟩:=QF ro (z6 pU bo ro i) (z6 pU bo ro j);have l24:(zm bs rs i).gone.length<=24:=by rw[(z6 pU bo ro i).go.1];exact pU.1.2.2
 let⟨lG,lr⟩:=zbv pU bo ro i j;walk_at"d";exists uc (Ja T).mono (rA ht at0 (rA ht (show atI _ 1=some (.ref y1)from rfl) ?_));refine iE6 y0 y1 n0 n1 _ _ (iA7 rfl so0 so1 le l24 lg (λgl gs H2 s2 ng _=>?_));have ng:NL H2 (zX H2) gl gs (qE (qt bs rs i j)):=ng;have lgs:gs.length=(qt bs rs i j).length:=by rw[ng.len,qE,af]
 have kQ:∀v,zkl a bs rs i j H v H2->Q v H2:=λv r=>kQ i j v H2 rnd (s1.trans s2) r;refine⟨gl,rfl,.inl ⟨⟨_,SqL.of ng.out⟩,?_⟩⟩;refine qL (K:=K) (a:=gl) (xs:=gs.map V.ref) (λm σ H'=>∃(v3:Aq),σ=[some vw,some (.int lim),some (.ref t),v3]/\H'=H2/\∀g∈(qt bs rs i j).take m,∀n∈g,n<=0) ⟨_,iA3 rfl rfl (by simp)⟩ (λm σ H' _ h=>by let⟨_,_,rfl,_⟩:=h;exact SqL.of ng.out) ?_ ?_
 .intro m x σ H3 hm pR;refine oE1 pR λv3 p9=>oA3 p9 λpQ pX hs=>?_;clear p9 pR;subst pQ pX;rw[ap,aB]at hm;let⟨b,hb,rfl⟩:=hm;have hml:m<(qt bs rs i j).length:=by rw[<- lgs];exact(aa.mp hb).1
  let⟨g,eg⟩:∃g,(qt bs rs i j)[m]?=some g:=⟨_,ac hml⟩;let⟨b',hb',hg⟩:=X3 ng eg;rw[hb]at hb';cases hb';let⟨r,hr'⟩:∃r,rs[m]?=some r:=⟨_,ac (by rw[<- lG];exact hml)⟩;have gp:0<g.length:=by rw[lr m r g hr' eg];exact zer (ro r (ai hr'))
  exists iE2 b g (iA4 rfl (SqL.of hg) gp (λmx hx hmx=>?_));exists zR (λz=>kQ _ (.inr ⟨λst=>?_,rfl⟩)) (λz=>⟨_,rfl,λg' hg' n hn=>?_⟩)
  .have:=st g (ai eg) mx hx
   lia
  .rw[aT,eg]at hg';rcases ay.mp hg' with h|h
   .exact hs g' h n hn
   .have e:g'=g:=by simpa using h
    subst e;have:=hmx n hn
    lia
 .intro σ H3 pR;refine oE1 pR λv3 p9=>oA3 p9 λpQ pX hs=>?_;clear p9 pR;subst pQ pX;rw[af,lgs,aV]at hs;left;exact rA (s2 _ _ ht) at0 (kQ _ (.inl ⟨hs,iE2 y0 n0 ⟨rfl,so0.same s2⟩⟩))
def zkt(bs:A1)(rs:At)(i j:Nat)(_:Hp)(v:V)(_:Hp):Prop:=(js (qt bs rs i j)/\v=.int i)\/(¬js (qt bs rs i j)/\v=.non)
def WE(T:Txt K mg a)(F:FunD K "still_from" "still_from" ww f fd):FnOk P w K mg base (CXr P w) 10 f fd ["work","limit"] (Zj a zkt):=by
 refine F.okx Wq ?_ ?_
 .walk_at"i"
 walk_at"j";let⟨vw,lim,bs,rs,rfl,hv,pU,bo,ro,l1000,kQ,kE⟩:=h;walk_at"T";refine⟨_,(zl (zt 2 Wq.nd ‹(pq 0) (za (pq 1) ze)›)  (zg (zk (jE (zo qH (pq 2) zA (zu _)) zA (zr (pq 2) rfl))))),?_⟩;exists uc (Zt T).mono ⟨vw,lim,bs,rs,rfl,hv,pU,bo,ro,l1000,λi j v H1 rnd s1 r=>?_,kE⟩;rcases r with⟨st,y,n,rfl,so⟩|⟨st,rfl⟩
 .exists ra so.hy T.ad T.ip rfl ?_;rw[ja];exact kQ i j _ _ rnd s1 (.inl ⟨st,rfl⟩)
 .left;exact kQ i j _ _ rnd s1 (.inr ⟨st,rfl⟩)
def Qh(T:Txt K mg a):Cal P w K mg base "still_from" 10 ["work","limit"] [] (Zj a zkt):=T.m6.cal (WE T)
noncomputable def gAt(gs:List A6)(i j:Nat):Int:=(gs.getD i []).getD j 0
def zg1{gs:List A6}{k p i j:Nat}(hk:k<gs.length)(hp:p<(gs.getD k []).length):gAt (gs.set k (Ju (gs.getD k []) p)) i j=gAt gs i j+if i=k/\j=p then 1 else 0:=by
 unfold gAt;by_cases e:k=i
 .subst e;rw[aj (l:=gs.set _ _),aU hk,bc];unfold Ju;by_cases z:p=j
  .subst z;rw[aj (l:=List.set _ _ _),aU hp,aq ⟨rfl,rfl⟩]
   rfl
  .rw[qC z,am (λq=>z q.2.symm)]
   lia
 .rw[qC e,am (λq=>e q.1.symm)]
  lia
noncomputable def jI:Nat->List zT->Int
 |_,[]=>0
 |p,x::xs=>(if x=none then 0 else(p:Int))+jI (p+1) xs
theorem zam{x:zT}:∀{c:Av}{p i:Nat},i<c.length->jI p (c.set i x)=jI p c+(if x=none then 0 else((p+i:Nat):Int))-(if c.getD i none=none then 0 else((p+i:Nat):Int))
 |[],_,_,h=>by simp at h
 |y::ys,p,0,_=>by
  show(if x=none then 0 else(p:Int))+jI (p+1) ys=(if y=none then 0 else(p:Int))+jI (p+1) ys+(if x=none then 0 else((p+0:Nat):Int))-(if y=none then 0 else((p+0:Nat):Int))
  rw[Nat.add_zero];generalize (if x=none then(0:Int)else(p:Int))=u;generalize (if y=none then(0:Int)else(p:Int))=z
  lia
 |y::ys,p,i+1,h=>by
  have ih:=zam (x:=x) (c:=ys) (p:=p+1) (i:=i) (by simpa using h);rw[show p+1+i=p+(i+1) by lia]at ih;show(if y=none then 0 else(p:Int))+jI (p+1) (ys.set i x)=(if y=none then 0 else(p:Int))+jI (p+1) ys+_-(if ys.getD i none=none then 0 else((p+(i+1):Nat):Int))
  rw[ih];generalize (if x=none then(0:Int)else((p+(i+1):Nat):Int))=u;generalize (if ys.getD i none=none then(0:Int)else((p+(i+1):Nat):Int))=v;generalize (if y=none then(0:Int)else(p:Int))=z
  lia
def zbE{c:Av}{p:Nat}(h:p+1<c.length):jM c p=c\/jI 0 c<jI 0 (jM c p):=by
 unfold jM
 split
 .rename_i e;by_cases z:c.getD p none=none
  .have self:∀{c:Av}{i:Nat},i<c.length->c.getD i none=none->c.set i none=c:=λ{c i} hi e=>by
    rw[aj,ac hi]at e;have e:c[i]=none:=e;rw[<- e];exact List.set_getElem_self hi
   rw[z,self h e,self (by lia) z];exact .inl rfl
  .refine .inr ?_;have e2:(c.set (p+1) (c.getD p none)).getD p none=c.getD p none:=by
    rw[aj,bE (by lia),<- aj]
   rw[zam (by simp;lia),zam h,e2,e,aq rfl,aq rfl,am z,am z]
   lia
 .exact .inl rfl
theorem zc1{c:Av}:∀k,k+1<=c.length->xY c k=c\/jI 0 c<jI 0 (xY c k)
 |0,_=>.inl rfl
 |k+1,h=>by
  have ih:=zc1 (c:=c) k (by lia);have st:=zbE (c:=xY c k) (p:=c.length-2-k) (by rw[vK];lia);rw[xY];rcases ih with e|l
  .rw[e]at st ⊢;exact st
  .rcases st with e|l2
   .rw[e];exact .inr l
   .exact .inr (dS l l2)
def zbF(c:Av):Z9 c=c\/jI 0 c<jI 0 (Z9 c):=by
 unfold Z9;cases c with
 |nil=>exact .inl rfl
 |cons x xs=>exact zc1 _ (by simp)
theorem zgo{bs:A1}{t:Int}{cs:Au}(b:Nat):∀i,(qi bs t cs i).getD b []=cs.getD b []\/jI 0 (cs.getD b [])<jI 0 ((qi bs t cs i).getD b [])
 |0=>.inl rfl
 |i+1=>by
  have ih:=zgo (bs:=bs) (t:=t) (cs:=cs) b i;rw[qi]
  split
  .generalize qi bs t cs i=ds at ih ⊢;by_cases e:i=b
   .subst e;by_cases h:i<ds.length
    .rw[aj (l:=ds.set _ _),aU h,bc];rcases ih with e|l
     .rw[e];rcases zbF (cs.getD i [])with q|q
      .exact .inl q
      .exact .inr q
     .rcases zbF (ds.getD i [])with q|q
      .rw[q];exact .inr l
      .exact .inr (dS l q)
    .rw[ck (by lia)];exact ih
   .rw[qC e];exact ih
  .exact ih
theorem Vl{rs:At}:∀{c d:Av}(p:Nat),qO rs c=qO rs d->jI p c=jI p d
 |[],[],_,_=>rfl
 |[],_::_,_,h=>by simp[qO]at h
 |_::_,[],_,h=>by simp[qO]at h
 |x::xs,y::ys,p,h=>by
  unfold qO at h;rw[bN,bN,List.cons.injEq]at h;rw[jI,jI,Vl (p+1) h.2];have:x=none↔y=none:=by
   have:=h.1;cases x<;>cases y<;>simp at this ⊢
  simp only[this]
def zho{rs:At}{st:PSt}(h:(jb rs st k).2=none):(jb rs st k).1=st:=by
 unfold jb at h ⊢;cases e:rs[k]? with
 |none=>rfl
 |some r =>
  rw[e]at h;simp only at h ⊢;cases e2:qb r (qh rs st.cells r) (qP st.cells r) st.turn (st.sides.getD k 0).toNat with
  |none=>rfl
  |some ch=>rw[e2]at h;cases h
theorem wq{rs:At}{st:PSt}:∀m,(zC rs st m).2=[]->(zC rs st m).1=st
 |0,_=>rfl
 |m+1,h=>by
  let⟨h1,h2⟩:=gi.mp (show(zC rs st m).2++(jb rs (zC rs st m).1 m).2.toList=[]from h);show(jb rs (zC rs st m).1 m).1=st
  rw[zho (by cases e:(jb rs (zC rs st m).1 m).2 with|none=>rfl|some x=>rw[e]at h2;cases h2)];exact wq m h1
def zhn{rs:At}{st:PSt}(w:stWf bs rs st)(ro:∀r∈rs,r.ok)(h:(jb rs st k).2≠none):∃p r,rs[k]?=some r/\p<(qQ r).length/\gAt st.gone k p<gAt (jb rs st k).1.gone k p:=by
 unfold jb at h ⊢;cases hr:rs[k]? with
 |none=>rw[hr]at h;exact absurd rfl h
 |some r =>
  rw[hr]at h;simp only at h ⊢;cases hc:qb r (qh rs st.cells r) (qP st.cells r) st.turn (st.sides.getD k 0).toNat with
  |none=>rw[hc]at h;exact absurd rfl h
  |some ch =>
   have ok:=ro r (ai hr);have hk:=(aa.mp hr).1;have sd:=w.so.2 k r _ hr (jm (d:=0) (by rw[w.so.1];exact hk));have sd':Zx r ((st.sides.getD k 0).toNat:Int):=by rw[cE sd.1];exact sd
   let⟨_,_,_,_,_,c6⟩:=QH ok (by simp[qh]) (by simp[qP]) sd' hc;have hg:=w.go.2 k r _ hr (jm (xs:=st.gone) (d:=[]) (by rw[w.go.1];exact hk));refine⟨xZ r ch,r,rfl,c6,?_⟩;show _<gAt ((movedF r st k ch).gone.set k _) k _
   rw[movedF_keep.2.2,zg1 (by rw[w.go.1];exact hk) (by rw[hg.1];exact c6),aq ⟨rfl,rfl⟩]
   lia
section
variable{bs:A1}{rs:At}(pU:zQ bs rs)(bo:∀b∈bs,zE b.1 b.2)(ro:∀r∈rs,r.ok)
include pU bo ro
theorem VL{st:PSt}(w:stWf bs rs st):∀m,(zC rs st m).2≠[]->∃k p r,rs[k]?=some r/\p<(qQ r).length/\gAt st.gone k p<gAt (zC rs st m).1.gone k p
 |0,h=>absurd rfl h
 |m+1,h=>by
  by_cases e:(zC rs st m).2=[]
  .have h2:(jb rs (zC rs st m).1 m).2≠none:=λz=>h (by show(zC rs st m).2++(jb rs (zC rs st m).1 m).2.toList=[];rw[e,z];rfl);let⟨p,r,hr,hp,hl⟩:=zhn (wt w pU bo ro m) ro h2;refine⟨m,p,r,hr,hp,cM (QL rs st m p m) hl⟩
  .obtain⟨k,p,r,hr,hp,hl⟩:=VL w m e;exact⟨k,p,r,hr,hp,eM hl (zct rs _ m k p)⟩
noncomputable def mvd(bs:A1)(rs:At)(n:Nat):Bool:=!((zC rs (zm bs rs n) rs.length).2.isEmpty)||decide ((zm bs rs (n+1)).cells≠(zm bs rs n).cells)
omit pU bo ro in
theorem zgE{n:Nat}(h:mvd bs rs n=false):(zC rs (zm bs rs n) rs.length).1=zm bs rs n/\(zm bs rs (n+1)).cells=(zm bs rs n).cells:=by
 unfold mvd at h;rw[gQ]at h;exact⟨wq _ (by simpa using h.1),by simpa using h.2⟩
omit pU bo ro in
theorem stay{n:Nat}(h:mvd bs rs n=false):(zm bs rs (n+1)).cells=(zm bs rs n).cells/\(zm bs rs (n+1)).sides=(zm bs rs n).sides/\(zm bs rs (n+1)).gone=(zm bs rs n).gone:=by
 let⟨h1,h2⟩:=zgE h;refine⟨h2,?_,?_⟩
 .show(zC rs (zm bs rs n) rs.length).1.sides=_
  rw[h1]
 .show(zC rs (zm bs rs n) rs.length).1.gone=_
  rw[h1]
omit pU bo ro in
theorem ziG{i:Nat}:∀m,(∀n,i<=n->n<i+m->mvd bs rs n=false)->(zm bs rs (i+m)).cells=(zm bs rs i).cells/\(zm bs rs (i+m)).sides=(zm bs rs i).sides/\(zm bs rs (i+m)).gone=(zm bs rs i).gone
 |0,_=>⟨rfl,rfl,rfl⟩
 |m+1,h=>by
  let⟨a1,a2,a3⟩:=ziG (i:=i) m λn h1 h2=>h n h1 (by lia);let⟨b1,b2,b3⟩:=stay (h (i+m) (by lia) (by lia));exact⟨b1.trans a1,b2.trans a2,b3.trans a3⟩
theorem zeG{i j:Nat}(ce:(zm bs rs i).cells.map (qO rs)=(zm bs rs j).cells.map (qO rs))(h:js (qt bs rs i j))(n:Nat)(h1:i<=n)(h2:n<j):mvd bs rs n=false:=by
 have hg:∀k p r,rs[k]?=some r->p<(qQ r).length->gAt (zm bs rs j).gone k p<=gAt (zm bs rs i).gone k p:=λk p r hr hp=>by
  have w0:=z6 pU bo ro i;have w1:=z6 pU bo ro j;have hk:=(aa.mp hr).1;let⟨g0,a0⟩:∃g,(zm bs rs i).gone[k]?=some g:=⟨_,ac (by rw[w0.go.1];exact hk)⟩;let⟨g1,a1⟩:∃g,(zm bs rs j).gone[k]?=some g:=⟨_,ac (by rw[w1.go.1];exact hk)⟩;have l0:=(w0.go.2 k r _ hr a0).1;have m:xI g0 g1∈qt bs rs i j:=by
   refine ai (i:=k) ?_;unfold qt j8;rw[d7,a0,a1]
  have:=h _ m (g1.getD p 0-g0.getD p 0) (aK.mpr ⟨p,br.mpr (by rw[l0];exact hp),rfl⟩);unfold gAt;rw[aj (l:=(zm bs rs j).gone),aj (l:=(zm bs rs i).gone),a0,a1];show g1.getD p 0<=g0.getD p 0
  lia
 have nm:∀n,i<=n->n<j->(zC rs (zm bs rs n) rs.length).2=[]:=λn h1 h2=>by
  refine fI λno=>?_;let⟨k,p,r,hr,hp,hl⟩:=VL pU bo ro (z6 pU bo ro n) rs.length no;have m1:=vX bs rs i k p (n-i);have m2:=vX bs rs (n+1) k p (j-(n+1));rw[show i+(n-i)=n by lia]at m1;rw[show n+1+(j-(n+1))=j by lia]at m2;have m3:=hg k p r hr hp;have hl:gAt (zm bs rs n).gone k p<gAt (zm bs rs (n+1)).gone k p:=hl;unfold gAt at hl m3
  lia
 have on:∀n,i<=n->n<j->∀b,(zm bs rs (n+1)).cells.getD b []=(zm bs rs n).cells.getD b []\/jI 0 ((zm bs rs n).cells.getD b [])<jI 0 ((zm bs rs (n+1)).cells.getD b []):=λn h1 h2 b=>by
  have e:=wq _ (nm n h1 h2);have:(zm bs rs (n+1)).cells=qi bs (zm bs rs n).turn (zm bs rs n).cells bs.length:=by
   show qi bs (zC rs (zm bs rs n) rs.length).1.turn (zC rs (zm bs rs n) rs.length).1.cells bs.length=_
   rw[e]
  rw[this];rcases zgo (bs:=bs) (t:=(zm bs rs n).turn) (cs:=(zm bs rs n).cells) b bs.length with q|q
  .exact .inl q
  .exact .inr q
 have up:∀b i' m,i<=i'->i'+m<=j->jI 0 ((zm bs rs i').cells.getD b [])<=jI 0 ((zm bs rs (i'+m)).cells.getD b []):=λb i' m=>by
  induction m with
  |zero=>exactλ_ _=>bO _
  |succ m ih =>
   intro h1 h2;have:=ih h1 (by lia);rcases on (i'+m) (by lia) (by lia) b with q|q
   .rw[show i'+(m+1)=i'+m+1 from rfl,q];exact this
   .exact gk this (cS q)
 have ends:∀b,jI 0 ((zm bs rs i).cells.getD b [])=jI 0 ((zm bs rs j).cells.getD b []):=λb=>by
  have e:=ce;have hh:∀cs:List Av,qO rs (cs.getD b [])=(cs.map (qO rs)).getD b []:=λcs=>by
   rw[aj,aj,ap];cases cs[b]? <;> rfl
  exact Vl 0 (by rw[hh,hh,e])
 have same:∀b,(zm bs rs (n+1)).cells.getD b []=(zm bs rs n).cells.getD b []:=λb=>by
  rcases on n h1 h2 b with q|q
  .exact q
  .have u1:=up b i (n-i) (ar _) (by lia);have u2:=up b (n+1) (j-(n+1)) (by lia) (by lia);rw[show i+(n-i)=n by lia]at u1;rw[show n+1+(j-(n+1))=j by lia]at u2;have:=ends b
   lia
 have ce:(zm bs rs (n+1)).cells=(zm bs rs n).cells:=by
  have l1:=(z6 pU bo ro (n+1)).co.1;have l2:=(z6 pU bo ro n).co.1;refine List.ext_getElem (by rw[l1,l2]) λb hb1 hb2=>?_;have:=same b;rw[aj,aj,ac hb1,ac hb2]at this;exact this
 unfold mvd;rw[nm n h1 h2,ce];simp
theorem za3{lim i j:Nat}(rd:RoundAt bs rs lim i j)(h:js (qt bs rs i j))(n:Nat)(h1:i<=n)(h2:n<j):mvd bs rs n=false:=zeG pU bo ro (bp (λz:ShK=>z.2.1) rd.eq) h n h1 h2
end
section
variable{bs:A1}{rs:At}
def Jc(bo:∀b∈bs,zE b.1 b.2)(ro:∀r∈rs,r.ok)(h:xL bs rs n):0<n/\n<=4:=by
 rcases h with⟨b,hb,rfl⟩|⟨r,hr,hw,rfl,hp⟩
 .have h:=bo b hb;exact⟨by have:=h.2.2.1;lia,h.2.2.2⟩
 .exact⟨hp,(zbu (ro r hr) hw).2⟩
def ziu(bo:∀b∈bs,zE b.1 b.2)(ro:∀r∈rs,r.ok):∃L,QM bs rs L:=by
 have hm:∀n,n∈(bs.map (·.2)++(rs.filter λr=>decide ((r.wd=.source\/r.wd=.drain)/\0<r.pace)).map Row.pace)↔xL bs rs n:=λn=>by
  simp only[ay,aK,cJ,dG,xL];constructor
  .rintro(⟨b,hb,e⟩|⟨r,⟨hr,hw,hp⟩,e⟩)
   .exact .inl ⟨b,hb,e⟩
   .exact .inr ⟨r,hr,hw,e,by rw[<- e];exact hp⟩
  .rintro(⟨b,hb,e⟩|⟨r,hr,hw,e,hp⟩)
   .exact .inl ⟨b,hb,e⟩
   .exact .inr ⟨r,⟨hr,hw,by rw[e];exact hp⟩,e⟩
 let⟨L,hL⟩:=IsLcm.ex (ns:=bs.map (·.2)++(rs.filter λr=>decide ((r.wd=.source\/r.wd=.drain)/\0<r.pace)).map Row.pace) λn hn=>by
  have b4:=Jc bo ro ((hm n).mp hn)
  lia
 exact⟨L,_,hL,hm⟩
def ziv(bo:∀b∈bs,zE b.1 b.2)(ro:∀r∈rs,r.ok)(h:xL bs rs n):n∣vU bs rs:=by
 let⟨L,hL⟩:=ziu bo ro;rw[<- zcs hL];let⟨ns,il,im⟩:=hL;exact il.dv n ((im n).mpr h)
end
theorem VM{rs:At}{st:PSt}:∀m,(zC rs st m).2=[]->∀k,k<m->(jb rs st k).2=none
 |0,_,_,hk=>absurd hk (cm _)
 |m+1,h,k,hk=>by
  let⟨h1,h2⟩:=gi.mp (show(zC rs st m).2++(jb rs (zC rs st m).1 m).2.toList=[]from h);by_cases e:k=m
  .subst e;rw[wq k h1]at h2;cases e:(jb rs st k).2 with
   |none=>rfl
   |some x=>rw[e]at h2;cases h2
  .exact VM m h1 k (by lia)
def zfr{rs:At}{st:PSt}{r:Row}(hr:rs[k]?=some r)(h:(jb rs st k).2=none):qb r (qh rs st.cells r) (qP st.cells r) st.turn (st.sides.getD k 0).toNat=none:=by
 unfold jb at h;rw[hr]at h;simp only at h;cases e:qb r (qh rs st.cells r) (qP st.cells r) st.turn (st.sides.getD k 0).toNat with
 |none=>rfl
 |some ch=>rw[e]at h;cases h
theorem ziU{c:Av}:∀m k,k+m+1<=c.length->jI 0 (xY c k)<=jI 0 (xY c (k+m))
 |0,_,_=>bO _
 |m+1,k,h=>by
  have ih:=ziU (c:=c) m k (by lia);have st:=zbE (c:=xY c (k+m)) (p:=c.length-2-(k+m)) (by rw[vK];lia);show _<=jI 0 (jM (xY c (k+m)) (c.length-2-(k+m)))
  rcases st with e|l
  .rw[e];exact ih
  .lia
def XA(c:Av):Prop:=∀p,p+1<c.length->c.getD (p+1) none=none->c.getD p none=none
def zhW{c:Av}(h:Z9 c=c):XA c:=λp hp e=>by
 have same:∀k,k+1<=c.length->xY c k=c:=λk hk=>by
  rcases zc1 (c:=c) k hk with z|z
  .exact z
  .have u:=ziU (c:=c) (c.length-1-k) k (by lia);rw[show k+(c.length-1-k)=c.length-1 by lia,show xY c (c.length-1)=c from h]at u
   lia
 have s1:=same (c.length-2-p+1) (by lia);rw[xY,same (c.length-2-p) (by lia),show c.length-2-(c.length-2-p)=p by lia]at s1;unfold jM at s1;rw[aq e]at s1;have g:((c.set (p+1) (c.getD p none)).set p none).getD (p+1) none=c.getD p none:=by
  rw[aj,bE (by lia),aU hp]
  rfl
 rw[s1,e]at g;exact g.symm
theorem Vn{c:Av}(h:XA c):∀d p,p+d<c.length->c.getD (p+d) none=none->c.getD p none=none
 |0,_,_,e=>e
 |d+1,p,hl,e=>Vn h d p (by lia) (h (p+d) (by lia) e)
def ze4{c:Av}(h:XA c)(nb:zfF c≠none){x:zT}(hx:x∈c):x≠none:=λe=>by
 let⟨p,hp,rfl⟩:=eP hx;have:=Vn h p 0 (by lia) (by rw[Nat.zero_add,aj,ac hp];exact e);refine nb ?_;rw[<- this];cases c<;>rfl
theorem ziP{bs:A1}{t:Int}{cs:Au}{b:Nat}(hb:b<cs.length)(ht:t%(bs.getD b (0,1)).2=0):∀n,(qi bs t cs n).length=cs.length/\(qi bs t cs n).getD b []=if b<n then Z9 (cs.getD b [])else cs.getD b []
 |0=>⟨rfl,rfl⟩
 |n+1=>by
  let⟨l,ih⟩:=ziP (cs:=cs) hb ht n;rw[qi];by_cases e:n=b
  .subst e;rw[aq ht,aq (c8 _)];rw[am (cn _)]at ih;refine⟨by rw[ci];exact l,?_⟩;rw[aj,aU (by rw[l];exact hb),ih]
   rfl
  .have q:(if b<n+1 then Z9 (cs.getD b [])else cs.getD b [])=if b<n then Z9 (cs.getD b [])else cs.getD b []:=by
    by_cases z:b<n
    .rw[aq z,aq (by lia)]
    .rw[am z,am (by lia)]
   rw[q]
   split
   .exact⟨by rw[ci];exact l,by rw[qC e];exact ih⟩
   .exact⟨l,ih⟩
theorem zeg{bs:Ai}{side:Nat}:∀n k,X6 bs side n k=none->∀d,d<n->bs.getD ((side+(k+d))%bs.length) false=false
 |0,_,_,_,h=>absurd h (cm _)
 |n+1,k,h,d,hd=>by
  unfold X6 at h
  split at h
  .cases h
  .rename_i e;cases d with
   |zero=>rw[Nat.add_zero];simpa using e
   |succ d =>
    have:=zeg n (k+1) h d (by lia);rw[show k+(d+1)=k+1+d by lia];exact this
def ZL{bs:Ai}{side:Nat}(h:jG bs side=none){p:Nat}(hp:p<bs.length):bs.getD p false=false:=by
 have hl:0<bs.length:=by lia
 have:=zeg bs.length 0 h ((p+bs.length-side%bs.length)%bs.length) (dR _ hl);have e:(side+(0+(p+bs.length-side%bs.length)%bs.length))%bs.length=p:=by
  have m:=dR side hl;rw[Nat.zero_add,Nat.add_mod,Nat.mod_mod];by_cases z:side%bs.length<=p
  .rw[show p+bs.length-side%bs.length=p-side%bs.length+bs.length by lia,Nat.add_mod_right,dM (a:=p-side%bs.length) (by lia),show side%bs.length+(p-side%bs.length)=p by lia,dM hp]
  .rw[dM (a:=p+bs.length-side%bs.length) (by lia),show side%bs.length+(p+bs.length-side%bs.length)=p+bs.length by lia,Nat.add_mod_right,dM hp]
 rw[e]at this;exact this
section
variable{bs:A1}{rs:At}(pU:zQ bs rs)(bo:∀b∈bs,zE b.1 b.2)(ro:∀r∈rs,r.ok){lim i j:Nat}(rd:RoundAt bs rs lim i j)
include bo ro rd
theorem zdO(h:xL bs rs n):∃t,i<=t/\t<j/\(t:Int)%n=0:=by
 let⟨c,hc⟩:=ziv bo ro h;let⟨n0,n4⟩:=Jc bo ro h;have lt:=rd.lt;have et:(zm bs rs i).turn%vU bs rs=(zm bs rs j).turn%vU bs rs:=aO (bp (λz:ShK=>z.1) rd.eq);rw[ja,ja]at et;let⟨q,hq⟩:=Int.dvd_of_emod_eq_zero (Int.emod_eq_emod_iff_emod_sub_eq_zero.mp et.symm);have hd:n∣(j:Int)-i:=⟨c*q,by rw[<- Int.mul_assoc,<- hc];exact hq⟩;rcases(by lia:n=1\/n=2\/n=3\/n=4)with rfl|rfl|rfl|rfl
 .exact⟨i,ar _,lt,by lia⟩
 .exact⟨i+i%2,by lia,by lia,by lia⟩
 .exact⟨i+(3-i%3)%3,by lia,by lia,by lia⟩
 .exact⟨i+(4-i%4)%4,by lia,by lia,by lia⟩
include pU
theorem za4(st:js (qt bs rs i j)){t:Nat}(h1:i<=t)(h2:t<j):(zm bs rs t).cells=(zm bs rs i).cells/\(zm bs rs (t+1)).cells=(zm bs rs i).cells/\(zC rs (zm bs rs t) rs.length).2=[]:=by
 have no:=λn a b=>za3 pU bo ro rd st n a b;have s1:=(ziG (bs:=bs) (rs:=rs) (i:=i) (t-i) λn a b=>no n a (by lia)).1;rw[show i+(t-i)=t by lia]at s1;have e:=no t h1 h2;refine⟨s1,(zgE e).2.trans s1,?_⟩;unfold mvd at e;rw[gQ]at e;simpa using e.1
theorem JS(st:js (qt bs rs i j)){b:Nat}(hb:b<bs.length):XA ((zm bs rs i).cells.getD b []):=by
 have eb:=ac hb;have hm:=ai eb;let⟨t,t1,t2,ht⟩:=zdO bo ro rd (n:=bs[b].2) (.inl ⟨_,hm,rfl⟩);let⟨c1,c2,nm⟩:=za4 pU bo ro rd st t1 t2;refine zhW ?_;have e:=wq _ nm;have on:(zm bs rs (t+1)).cells=qi bs (zm bs rs t).turn (zm bs rs t).cells bs.length:=by
  show qi bs (zC rs (zm bs rs t) rs.length).1.turn (zC rs (zm bs rs t) rs.length).1.cells bs.length=_
  rw[e]
 have lc:(zm bs rs t).cells.length=bs.length:=(z6 pU bo ro t).co.1;have:=(ziP (bs:=bs) (t:=(zm bs rs t).turn) (cs:=(zm bs rs t).cells) (b:=b) (by rw[lc];exact hb) (by rw[ja,aj,eb];exact ht) bs.length).2;rw[<- on,aq hb,c2,c1]at this;exact this.symm
end
noncomputable def xz(rs:At)(cs:Au)(r:Row)(b:Int):Option Int:=match r.wd with
 | .drain=>none
 | .sieve=>some (r.outs.getD (if va rs (qR (zV cs b))=some (r.kinds.headD 0)then 0 else 1) 0)
 |_=>some (r.outs.getD 0 0)
def JJ{cs:Au}{r:Row}{p:Nat}(hp:p<r.outs.length)(h:(qP cs r).getD p false=false):r.outs.getD p 0∈r.outs/\zfF (zV cs (r.outs.getD p 0))≠none:=by
 have e:r.outs.getD p 0=r.outs[p]:=by rw[aj,ac hp];rfl
 rw[e];refine⟨cc hp,λz=>?_⟩;rw[qP,aj,ap,ac hp]at h;have h:decide (zfF (zV cs r.outs[p])=none)=false:=h;rw[z]at h;exact absurd h (by simp)
def zg2(cs:Au)(r:Row):(qP cs r).length=r.outs.length:=by simp[qP]
theorem zcB{rs:At}(pU:zQ bs rs)(bo:∀b∈bs,zE b.1 b.2)(ro:∀r∈rs,r.ok){lim i j:Nat}(rd:RoundAt bs rs lim i j)(st:js (qt bs rs i j)){k q:Nat}{r:Row}{b:Int}(hr:rs[k]?=some r)(hq:r.ins[q]?=some b)(ne:qR (zV (zm bs rs i).cells b)≠none) :
  (r.wd=.drain/\r.pace=0/\xz rs (zm bs rs i).cells r b=none)\/(r.wd≠.drain/\∃x,xz rs (zm bs rs i).cells r b=some x/\x∈r.outs/\zfF (zV (zm bs rs i).cells x)≠none):=by
 have hk:=(aa.mp hr).1;have mr:=ai hr;have ok:=ro r mr;have lt:=rd.lt;have ch:∀t,i<=t->t<j->qb r (qh rs (zm bs rs i).cells r) (qP (zm bs rs i).cells r) t ((zm bs rs t).sides.getD k 0).toNat=none:=λt h1 h2=>by
  let⟨c1,_,nm⟩:=za4 pU bo ro rd st h1 h2;have:=zfr hr (VM _ nm k hk);rw[c1,ja]at this;exact this
 have hd:(qh rs (zm bs rs i).cells r).getD q none≠none:=λz=>by
  rw[qh,aj,ap,hq]at z;have z:va rs (qR (zV (zm bs rs i).cells b))=none:=z;cases e:qR (zV (zm bs rs i).cells b)with
  |none=>exact ne e
  |some x=>rw[e]at z;cases z
 generalize (zm bs rs i).cells=cs at ch hd ne ⊢;have c0:=ch i (ar _) lt;have fl:=zg2 cs r;let⟨wd,ins,outs,pace,kinds⟩:=r;have q0:∀o,ins=[o]->q=0:=λo e=>by
  have:=(aa.mp hq).1;rw[show(⟨wd,ins,outs,pace,kinds⟩:Row).ins=[o]from e]at this;simpa using this
 cases wd
 .have e:ins=[]:=ok.1;subst e;simp at hq
 .refine .inl ⟨rfl,?_,rfl⟩;refine fI λnp=>?_;have p0:0<pace:=by have:=ok.2.2.1;simp only at this;have np:pace≠0:=np;lia
  let⟨t,t1,t2,ht⟩:=zdO bo ro rd (n:=pace) (.inr ⟨_,mr,.inr rfl,rfl,p0⟩);have c:=ch t t1 t2;let⟨o,e⟩:=ok.1;rw[q0 o e]at hd;unfold qb at c;simp only at c;rw[am (λz=>by rcases z with z|z|z;exact np z;exact hd z;exact z ht)]at c;cases c
 .obtain⟨o,e⟩:=ok.1;rw[q0 o e]at hd;have o2:2<=outs.length:=ok.2.1;unfold qb at c0;simp only at c0;rw[am hd,cQ]at c0;exact .inr ⟨(λz=>nomatch z),_,rfl,JJ (r:=⟨.parter,ins,outs,pace,kinds⟩) (p:=0) (show 0<outs.length by lia) (ZL c0 (by rw[fl];show 0<outs.length;lia))⟩
 .obtain⟨o,e⟩:=ok.1;rw[q0 o e]at hd;have o2:2<=outs.length:=ok.2.1;unfold qb at c0;simp only at c0;rw[am hd,cQ]at c0;exact .inr ⟨(λz=>nomatch z),_,rfl,JJ (r:=⟨.first,ins,outs,pace,kinds⟩) (p:=0) (show 0<outs.length by lia) (ZL c0 (by rw[fl];show 0<outs.length;lia))⟩
 .obtain⟨o,e⟩:=ok.1;have eb:(qh rs cs ⟨.sieve,ins,outs,pace,kinds⟩).getD 0 none=va rs (qR (zV cs b)):=by
   rw[<- q0 o e,qh,aj,ap,hq]
   rfl
  rw[q0 o e]at hd;have o2:outs.length=2:=ok.2.1;unfold qb at c0;simp only at c0;rw[am hd,eb]at c0;refine .inr ⟨(λz=>nomatch z),_,rfl,JJ (r:=⟨.sieve,ins,outs,pace,kinds⟩) (p:=if va rs (qR (zV cs b))=some (kinds.headD 0)then 0 else 1) (show(if va rs (qR (zV cs b))=some (kinds.headD 0)then 0 else 1)<outs.length by split<;>lia) ?_⟩;generalize (if va rs (qR (zV cs b))=some (kinds.headD 0)then 0 else 1)=p at c0;cases z:(qP cs ⟨.sieve,ins,outs,pace,kinds⟩).getD p false with
  |false=>rfl
  |true=>rw[aq z]at c0;cases c0
 .obtain⟨o,e⟩:=ok.1;have e:outs=[o]:=e;unfold qb at c0;simp only at c0;refine .inr ⟨(λz=>nomatch z),_,rfl,JJ (r:=⟨.joiner,ins,outs,pace,kinds⟩) (p:=0) (show 0<outs.length by rw[e];simp) ?_⟩;cases z:(qP cs ⟨.joiner,ins,outs,pace,kinds⟩).getD 0 false with
  |false=>rfl
  |true =>
   rw[aq z,cQ]at c0;have ql:q<ins.length:=(aa.mp hq).1;have:=ZL c0 (p:=q) (by rw[af,qh,af];exact ql);rw[aj,ap]at this;rw[aj]at hd;cases e2:(qh rs cs ⟨.joiner,ins,outs,pace,kinds⟩)[q]? with
   |none=>rw[e2]at hd;exact absurd rfl hd
   |some x =>
    rw[e2]at this hd;cases x with
    |none=>exact absurd rfl hd
    |some y=>cases this
theorem zdr(b:Int):∀ns:List Int,inV (.int b) (iv ns)=decide (b∈ns)
 |[]=>rfl
 |n::ns=>by
  show(eqV (.int n) (.int b)||inV (.int b) (iv ns))=_
  rw[zdr b ns];by_cases h:n=b
  .subst h;simp[eqV]
  .simp[eqV,h,bb h]
def Zc(part:Row->List Int)(rs:At)(b:Int)(j:Nat):Prop:=(∃r,rs[j]?=some r/\b∈part r)/\∀m r,m<j->rs[m]?=some r->b∉part r
def zf0(a:Ad)(part:Row->List Int):Sp:=λvs H Q _=>∃(v:V)(b:Int)(j:Nat)(bs:A1)(rs:At)(p:A5),vs=[v,.int b]/\Rep H p v (qG a bs rs)/\rs.length<=100/\Zc part rs b j/\∀H',Same H H'->Q (.int j) H'
def zkJ{cs:Ai}{c:Bool}(h:cs[j]?=some c):(cs.map V.bl)[j]?=some (.bl c):=by rw[ap,h];rfl
def zir(cs:Ai):(cs.map V.bl).all jo=true:=bU.mpr λx hx=>by
 let⟨n,_,rfl⟩:=aK.mp hx
 rfl
def zjS{part:Row->List Int}{rs:At}{b:Int}(h:Zc part rs b j):(∃z,((rs.map λr=>decide (b∈part r)).map V.bl)[j]?=some z/\eqV z (.bl true)=true)/\∀m z,m<j->((rs.map λr=>decide (b∈part r)).map V.bl)[m]?=some z->eqV z (.bl true)=false:=by
 let⟨⟨r,h1,h2⟩,h3⟩:=h;refine⟨⟨.bl true,?_,rfl⟩,λm z hm hz=>?_⟩
 .refine zkJ ?_;rw[ap,h1];simp[h2]
 .rw[ap,ap]at hz;cases e:rs[m]? with
  |none=>rw[e]at hz;cases hz
  |some r' =>
   rw[e]at hz;have:=h3 m r' hm e;simp[this]at hz;subst hz
   rfl
def zaz(T:Txt K mg a):MCal P w K mg base a.r "taker" 1 ["self","belt"] [] (zf0 a Row.ins):=T.nH.cal T.iu λF=>by
 refine F.okx WA ?_ ?_
 .walk_at"i"
 walk_at"j";refine oE6 h λv b j bs rs p p9=>oA5 p9 λpQ hv l100 fa k=>?_;clear p9 h;subst pQ;refine oE7 (qI hv) λy dx fs l1 l2 bvs pW p9=>oA9 p9 λpQ hy e1 e2 h1 h2 hB hK no=>?_;clear p9;subst pQ;walk_at"T";refine⟨_,(zg (zk (z7 ao dL fZ zbS (jJ (vars:=["knot"]) (caps:=[1]) (N:=["knot","belt"]) (ON:=["self","belt"]) (osc:=zi wC) rfl rfl (by right) rfl rfl (qj (zr (pq 0) rfl)) (λ_ _ _ _=>(qq 0 (show(["knot","belt"]:A8).Nodup from by symm))) (λ_ _ _ _=>qg) (λ_ _ _ _=>(xa ziQ (pq 1) (zr (pq 0) rfl) (by with_unfolding_all rfl)))) (za ziN ze)))),?_⟩;left;walk_at"c";exists ra hy T.iu T.io e2 ⟨l2,rfl,.inl ⟨⟨_,SqL.of h2⟩,λ_ _ _ _ pV hacc=>?_⟩⟩;let pY:Nat->St->Hp->Prop:=λi σ H'=>∃(v0:Aq),σ=[v0,some (.int b)]/\Same H H'/\H' pV=some (.lst (((rs.take i).map λr=>decide (b∈r.ins)).map V.bl));refine qL (K:=K) (a:=l2) (xs:=pW) pY ⟨_,iA3 rfl (zf hacc) (by rw[cH];exact rh)⟩ (λi σ H' _ h=>by let⟨_,_,s,_⟩:=h;exact SqL.of (s _ _ h2)) ?_ ?_
 .intro i x σ H' hi pR;refine oE1 pR λv0 p9=>oA3 p9 λpQ s7 e1'=>?_;ext;let⟨r,hr',hKn⟩:=hK.at hi;refine oE6 hKn.inv λy1 dx1 m1 m2 m3 fs1 p9=>oA9 p9 λpQ _ _ _ _ g0 f1 f2 pX=>oA5 pX λ_ g1 g2 _ _=>?_;clear p9 pX;subst pQ;have hil:=(aa.mp hr').1;exists ra (s7 _ _ g0) (CT T _) (NI T _) f1 ?_;refine iE2 m1 _ (iA5 rfl (.inl (SqL.of (s7 _ _ g1))) rfl (JK _) ?_);refine⟨_,iA3 e1' (zn (by rw[af,af,aS];lia)) ⟨_,iA3 rfl (λb o hb=>by rw[rj (rn hb hacc)];exact s7 b o hb) ?_⟩⟩;rw[rh,aT,hr',aQ,aQ];simp[zdr]
 intro σ H2 pR;refine oE1 pR λv0 p9=>oA3 p9 λpQ s2 ha=>?_;ext;rw[hK.len,aV]at ha;refine⟨.inl ⟨rfl,_,SqL.of ha⟩,?_⟩;let⟨q1,q2⟩:=zjS fa;exact iE4 pV _ _ j (iA9 rfl rfl ha (by rw[af,af];lia) rfl (zir _) q1 q2 (k _ s2))
def zg6{y:Addr}{n:SN}{st:PSt}(so:StO a H y n st)(hi:i<st.cells.length)(c0:0<(st.cells.getD i []).length):∃b us z,n.acs[i]?=some b/\H b=some (.lst us)/\Reps H (zX H) us ((st.cells.getD i []).map qz)/\atI us (-1)=some z/\Rep H (zX H) z (qz (qR (st.cells.getD i []))):=by
 have ec:=ac hi;have eg:st.cells.getD i []=st.cells[i]:=by rw[aj,ec];rfl
 rw[eg]at c0 ⊢;let⟨b,us,hb,hu,ru⟩:=so.hc.at (i:=i) (xs:=st.cells[i].map qz) (by rw[qB,ap,ec];rfl);have lu:us.length=st.cells[i].length:=by rw[ru.len,af]
 let⟨z,hz⟩:∃z,us[us.length-1]?=some z:=⟨us[us.length-1]'(by lia),ac _⟩;let⟨d,hd,rz⟩:=ru.at hz;rw[ap,aB]at hd;let⟨wr,hwr,rfl⟩:=hd;have ew:qR st.cells[i]=wr:=by
  unfold qR;rw[bI,dE,<- lu,hwr]
  rfl
 refine⟨b,us,z,hb,hu,ru,?_,by rw[ew];exact rz⟩;rw[zaB (d:=z) (dm (by lia)),bI,dE,hz]
 rfl
def zhA(a:Ad):Sp:=λvs H Q _=>∃(y:Addr)(n:SN)(st:PSt),vs=[.ref y]/\StO a H y n st/\(∀c∈st.cells,0<c.length) /\
 ∀o H',Same H H'->(∀b:Nat,o=some (b:Int)->b<st.cells.length/\qR (st.cells.getD b [])≠none/\∀m,m<b->qR (st.cells.getD m [])=none)->(o=none->∀c∈st.cells,qR c=none)->(∀x,o=some x->∃b:Nat,x=b)->Q (oiV o) H'
theorem WN(T:Txt K mg a):Cal P w K mg base "first_laden" 1 ["state"] [] (zhA a):=T.mH.cal λF=>by
 refine F.okx Xh ?_ ?_
 .walk_at"i"
 walk_at"j";let⟨y,n,st,rfl,so,cl,k⟩:=h;have la:n.acs.length=st.cells.length:=by rw[so.hc.len,qB,af]
 walk_at"T";refine⟨_,(zl (qU jn rfl (jl (za (zr (pq 0) rfl) ze)) (xW (n:=2) rfl (qd (qq 1 Xh.nd) (qd (qq 2 Xh.nd) jO)))  (zg (zH (zo wL (zv (pq 2) (QZ vm zh)) zA (zu _))  (zg (zk (pq 1)))  zp)))  (zg (zk zA))),?_⟩;walk_at"d";exists ra so.hy T.ad T.ir rfl ⟨n.lc,_,rfl,so.hc.out,?_⟩;refine Vz (K:=K) (a:=n.lc) (xs:=n.acs.map V.ref) (λi σ H'=>∃(v1 v2:Aq),σ=[some (.ref y),v1,v2]/\Same H H'/\∀m,m<i->qR (st.cells.getD m [])=none) ⟨_,_,rfl,Same.refl _,λm hm=>absurd hm (cm _)⟩ (λi σ H' _ h=>by let⟨_,_,_,s,_⟩:=h;exact SqL.of (s _ _ so.hc.out)) ?_ ?_
 .rintro i x t σ H2 hi ht ⟨v1,v2,rfl,s2,no⟩;rw[ap,aB]at hi;let⟨b,hb,rfl⟩:=hi;have hil:i<st.cells.length:=by rw[<- la];exact(aa.mp hb).1
  let⟨b',us,z,hb',hu,_,lz,rz⟩:=zg6 so hil (by rw[aj,ac hil];exact cl _ (cc hil));rw[hb]at hb';cases hb';have s3:=s2.trans (zf (o:=.tup [.int i,.ref b]) ht);refine un2 rh ?_;generalize upd H2 t (.tup [.int i,.ref b])=H3 at s3 ⊢;exists zw (SqL.of (s3 _ _ hu)) lz ?_;cases e:qR (st.cells.getD i [])with
  |none =>
   rw[e]at rz;cases rz;refine zR (λz=>absurd rfl z) (λ_=>⟨_,_,rfl,s3,λm hm=>?_⟩);by_cases z:m=i
   .rw[z];exact e
   .exact no m (by lia)
  |some wr =>
   rw[e]at rz;let⟨tw,rfl,_⟩:=Z7 (b:=wr) rz;refine zR (λ_=>k (some i) H3 s3 (λb hb=>?_) (λz=>nomatch z) (λx hx=>⟨i,(aO hx).symm⟩)) (λz=>absurd (λq=>nomatch q) z);have:b=i:=by have:=aO hb;lia
   subst this;exact⟨hil,by rw[e];exact(λz=>nomatch z),no⟩
 .rintro σ H2 ⟨v1,v2,rfl,s2,no⟩;rw[af,la]at no;left;exact k none H2 s2 (λ_ z=>nomatch z) (λ_ c hc=>by
   let⟨m,hm,rfl⟩:=eP hc;have:=no m hm;rw[aj,ac hm]at this;exact this) (λ_ z=>nomatch z)
def zk3(T:Txt K mg a)(wd:Wd):kitOne K (.ref (x6 a wd)) (.ref a.p)=some (decide (wd=.sieve)):=by
 cases wd
 .exact T.lV
 .exact T.mt
 .exact T.lW
 .exact T.ky
 .exact T.my
 .exact T.lY
def zig{rs:At}{st:PSt}(wf:stWf bs rs st)(ro:∀r∈rs,r.ok){b:Nat}(hb:b<st.cells.length)(c0:0<st.cells[b].length)(ne:qR (st.cells.getD b [])≠none):∃(j0:Nat)(nr:Int)(r0:Row),qR (st.cells.getD b [])=some ((j0:Int),nr)/\rs[j0]?=some r0/\r0.wd=.source/\0<r0.kinds.length:=by
 have hbb:=ac (l:=bs) (i:=b) (by rw[<- wf.co.1];exact hb);have hcc:=ac hb;have eg:st.cells.getD b []=st.cells[b]:=by rw[aj,hcc];rfl
 cases ee:qR (st.cells.getD b [])with
 |none=>exact absurd ee ne
 |some wr =>
  let⟨sr,nr⟩:=wr;have mw:some (sr,nr)∈st.cells[b]:=by
   rw[<- ee,eg];unfold qR;rw[bI,dX (dm c0)];exact fN _
  let⟨j0,r0,rfl,hr0,hw0,_⟩:=(wf.co.2 b _ _ hbb hcc).2 _ mw _ _ rfl;have ok0:=ro r0 (ai hr0);refine⟨j0,nr,r0,rfl,hr0,hw0,?_⟩;let⟨wd,ins,outs,pc,ks⟩:=r0;simp only at hw0;subst hw0;exact ok0.2.2.2.2.1
def zhX{r:Row}(ok:r.ok)(e:r.wd≠.drain)(e2:r.wd≠.sieve):∃o os,r.outs=o::os:=by
 let⟨wd,ins,outs,pc,ks⟩:=r;cases wd
 .obtain⟨_,⟨o,q⟩,_⟩:=ok;exact⟨o,[],q⟩
 .exact absurd rfl e
 .obtain⟨_,q,_⟩:=ok;simp only at q ⊢;cases outs with|nil=>simp at q|cons o os=>exact⟨o,os,rfl⟩
 .obtain⟨_,q,_⟩:=ok;simp only at q ⊢;cases outs with|nil=>simp at q|cons o os=>exact⟨o,os,rfl⟩
 .exact absurd rfl e2
 .obtain⟨⟨o,q⟩,_⟩:=ok;exact⟨o,[],q⟩
def zcx{rs:At}{cs:Au}{b j0:Nat}{nr kk pace:Int}{r0:Row}{ins outs:A6}(ee:qR (cs.getD b [])=some ((j0:Int),nr))(hr0:rs[j0]?=some r0)(q1:outs.length=2):∃p1 p2,outs=[p1,p2]/\xz rs cs ⟨.sieve,ins,outs,pace,[kk]⟩ b=some (if wN r0.kinds nr=kk then p1 else p2):=by
 match outs,q1 with
 |[p1,p2],_ =>
  refine⟨p1,p2,rfl,?_⟩;have ek:va rs (qR (zV cs b))=some (wN r0.kinds nr):=by
   rw[zV,aP,ee];simp[va,hr0]
  unfold xz;simp only;rw[ek];by_cases z:wN r0.kinds nr=kk
  .rw[aq z,aq (by simpa using z)];rfl
  .rw[am z,am (by simpa using z)];rfl
def zfV(a:Ad):Sp:=λvs H Q _=>∃(vw:V)(y:Addr)(n:SN)(st:PSt)(bs:A1)(rs:At)(b k:Nat)(r:Row)(p:A5),vs=[vw,.ref y,.int b]/\Rep H p vw (qG a bs rs)/\StO a H y n st/\stWf bs rs st/\rs.length<=24/\(∀r∈rs,r.ok)/\(∀c∈st.cells,0<c.length)/\Zc Row.ins rs b k/\rs[k]?=some r/\b<st.cells.length/\qR (st.cells.getD b [])≠none/\∀H',Same H H'->Q (oiV (xz rs st.cells r b)) H'
def zaO(T:Txt K mg a):Cal P w K mg base "waited_for" 2 ["work","state","belt"] [] (zfV a):=T.m7.cal λF=>by
 refine F.okx Wn ?_ ?_
 .walk_at"i"
 walk_at"j";refine oE8 h λvw y n st bs rs b kt p9=>oE2 p9 λr p pQ=>oA9 pQ λpX hv so wf r24 ro cl fa r8=>oA4 r8 λhr' hb ne k=>?_;clear p9 pQ r8 h;subst pX;have hv0:=hv;refine oE7 (qI hv) λyw dw fw l1 l2 bvs pW p9=>oA9 p9 λpQ hyw ew1 ew2 hl1 hl2 hB hK no=>?_;clear p9;subst pQ;let⟨vk,hvk,hKn⟩:∃vk,pW[kt]?=some vk/\KnP a H p vk r:=by
  have hkl:kt<pW.length:=by rw[hK.len];exact(aa.mp hr').1
  let⟨r',h1,h2⟩:=hK.at (ac hkl);rw[hr']at h1;cases h1;exact⟨_,ac hkl,h2⟩
 walk_at"T";refine⟨_,(zj (zt 3 Wn.nd (zv (zr (pq 0) rfl) (zao ⟨rfl,rfl,rfl⟩ hr (pq 0) (za (pq 2) ze))))  (zj (zH (qp (zS ji zL (za (pq 3) (za qS ze))) (λ_=>rfl))  (zg (zk zA))  zp)  (zj (zH (qp (zS ji zL (za (pq 3) (za qS ze))) (λ_=>rfl))  (zg (zk (zv (zr (pq 3) rfl) (zao ⟨rfl,rfl,rfl⟩ hr (pq 3) (za ‹(pq 0) (za (zv (zv (zr (pq 1) rfl) (pq 2)) (QZ vm zh)) ze)› ze)))))  zp)  (zg (zk (zv (zr (pq 3) rfl) zh)))))),?_⟩;exists oE6 hKn.inv λy1 dx1 m1 m2 m3 fs1 p9=>oA9 p9 λpQ _ _ _ _ g0 f1 f2 pX=>oA5 pX λ_ g1 g2 _ _=>?_;clear p9 pX;subst pQ;have ok:=ro r (ai hr');refine ra hyw T.iu T.io ew2 (iE7 yw a.r dw fw _ _ _ (iA5 rfl hyw (no _ (by symm) (by symm)) ((zaz T).mono) ⟨_,b,kt,bs,rs,p,rfl,hv0,by lia,fa,λH1 s1=>zw (SqL.of (s1 _ _ hl2)) (zJ hvk) ?_⟩));exists iE2 (.ref a.m) _ (iA3 T.kh rfl (iE4 _ _ _ _ (iA4 rfl ((WT T r.wd).ty (CT T r.wd) (s1 _ _ g0)) (.inl ⟨_,rfl,zh8 T r.wd⟩) ?_)));have k:=k H1 s1;by_cases e:r.wd=.drain
 .rw[aZ e];unfold xz at k;rw[e]at k;exact k
 rw[aR e];exists iE2 (.ref a.p) _ (iA3 T.ow rfl (iE4 _ _ _ _ (iA4 rfl ((WT T r.wd).ty (CT T r.wd) (s1 _ _ g0)) (.inl ⟨_,rfl,zk3 T r.wd⟩) ?_)));by_cases e2:r.wd=.sieve
 .rw[aZ e2];left;let⟨b',us,z,hb',hu,_,lz,rz⟩:=zg6 so hb (by rw[aj,ac hb];exact cl _ (cc hb));refine oE3 (zig wf ro hb (cl _ (cc hb)) ne) λj0 nr r0 p9=>oA4 p9 λee hr0 hw0 kp=>?_;clear p9;rw[ee]at rz;let⟨wd,ins,outs,pace,kinds⟩:=r;simp only at e2;subst e2;refine oA3 ok λp9 q1 pQ=>oE1 pQ λkk pX=>oA2 pX λq2 _=>?_;clear pQ pX ok;let⟨o,eo⟩:=p9;simp only at eo q1 q2;subst q2;refine oE3 hKn.sieve λdxs n1 n2 hys=>?_;refine ra (s1 _ _ g0) T.iB T.iP f2 (iE7 y1 a.p dxs _ _ _ _ (iA5 rfl (s1 _ _ hys) (ziB (by symm) (by symm) (by symm)) ((Zo T).mono) (iE3 _ _ _ ⟨(QJ T).mono,?_⟩)));refine ra (s1 _ _ so.hy) T.ad T.ir rfl (zw (SqL.of (s1 _ _ so.hc.out)) (zJ (by rw[ap,hb'];rfl)) (zw (SqL.of (s1 _ _ hu)) lz ?_));refine iE5 _ _ bs rs p (iE4 _ j0 nr r0 (iA7 rfl (jy hv0 s1) (jy rz s1) hr0 hw0 kp (iE6 y1 dxs n1 n2 kk _ (iA3 rfl (s1 _ _ hys) ?_))));refine oE2 (zcx (ins:=ins) (pace:=pace) (kk:=kk) ee hr0 q1) λp1 p2 p9=>oA2 p9 λpQ ew=>?_;clear p9;subst pQ;rw[ew]at k;by_cases z:wN r0.kinds nr=kk
  .rw[aq z]at k ⊢;exact zw (SqL.of (s1 _ _ g2)) at0 k
  .rw[am z]at k ⊢;exact zw (SqL.of (s1 _ _ g2)) (show atI (iv [p1,p2]) 1=some (.int p2)from rfl) k
 rw[aR e2];exists ra (s1 _ _ g0) (CT T _) (NO T _) f2 ?_;have ew:xz rs st.cells r b=some (r.outs.getD 0 0):=by
  unfold xz
  split
  .rename_i z;exact absurd z e
  .rename_i z;exact absurd z e2
  .rfl
 rw[ew]at k;let⟨o,os,eo⟩:=zhX ok e e2;rw[eo]at g2 k;exact zw (SqL.of (s1 _ _ g2)) at0 k
theorem zcc{part:Row->List Int}{b:Int}:∀{rs:At},(∃r∈rs,b∈part r)->∃j,Zc part rs b j
 |[],h=>by let⟨_,h,_⟩:=h;cases h
 |r::rs,h=>by
  by_cases e:b∈part r
  .exact⟨0,⟨r,rfl,e⟩,λm _ hm=>absurd hm (cm _)⟩
  .obtain⟨r',hr,hb⟩:=h;let⟨j,⟨r2,g1,g2⟩,g3⟩:=zcc (rs:=rs) ⟨r',(au.mp hr).resolve_left (λz=>e (z ▸ hb)),hb⟩;refine⟨j+1,⟨r2,g1,g2⟩,λm r3 hm hr3=>?_⟩;cases m with
   |zero=>cases hr3;exact e
   |succ m=>exact g3 m r3 (by lia) hr3
noncomputable def zdN(rs:At)(cs:Au)(b:Int):Option Int:=(rs.find? λr=>decide (b∈r.ins)).bind λr=>xz rs cs r b
theorem zdM{cs:Au}{b:Int}{rs0:At}:∀{rs:At}{k:Nat}{r:Row},Zc Row.ins rs b k->rs[k]?=some r->((rs.find? λr=>decide (b∈r.ins)).bind λr=>xz rs0 cs r b)=xz rs0 cs r b
 |[],_,_,_,h=>by simp at h
 |x::xs,0,r,h,hr=>by
  let⟨⟨r',g1,g2⟩,_⟩:=h;cases hr;cases g1;rw[cF,aZ g2]
  rfl
 |x::xs,k+1,r,h,hr=>by
  let⟨⟨r',g1,g2⟩,g3⟩:=h;rw[cF,aR (g3 0 x (by lia) rfl)];exact zdM (rs:=xs) ⟨⟨r',g1,g2⟩,λm r3 hm hr3=>g3 (m+1) r3 (by lia) hr3⟩ hr
def zaW(bs:A1)(cs:Au)(o:A9):Prop:=∀x,o=some x->∃b:Nat,x=b/\b<bs.length/\qR (cs.getD b [])≠none
def Sti(bs:A1)(rs:At)(cs:Au):Prop:=(∀b:Nat,b<bs.length->XA (cs.getD b []))/\∀b:Nat,b<bs.length->qR (cs.getD b [])≠none->∃k r,Zc Row.ins rs b k/\rs[k]?=some r/\zdN rs cs b=xz rs cs r b /\
 ((r.wd=.drain/\r.pace=0/\xz rs cs r b=none)\/(r.wd≠.drain/\∃x:Nat,xz rs cs r b=some (x:Int)/\x<bs.length/\qR (cs.getD x [])≠none/\∀w∈cs.getD x [],w≠none))
def zjf{n:Nat}(h:x∈rgI n):∃b:Nat,x=b/\b<n:=by
 let⟨b,hb,rfl⟩:=aK.mp h;exact⟨b,rfl,br.mp hb⟩
def zfU{rs:At}(pU:zQ bs rs)(bo:∀b∈bs,zE b.1 b.2)(ro:∀r∈rs,r.ok){lim i j:Nat}(rd:RoundAt bs rs lim i j)(st:js (qt bs rs i j)):Sti bs rs (zm bs rs i).cells:=by
 refine⟨λb hb=>JS pU bo ro rd st hb,λb hb ne=>?_⟩;have mb:(b:Int)∈qA rs:=pU.2.2.mem_iff.mpr (aK.mpr ⟨b,br.mpr hb,rfl⟩);let⟨r0,hr0,hb0⟩:=cB.mp mb;let⟨k,fa⟩:=zcc (part:=Row.ins) ⟨r0,hr0,hb0⟩;let⟨r,hr,hbr⟩:=fa.1;let⟨q,hq⟩:=bF hbr;refine⟨k,r,fa,hr,zdM fa hr,?_⟩;rcases zcB pU bo ro rd st hr hq (by rw[zV,aP];exact ne)with h|⟨h1,x,h2,h3,h4⟩
 .exact .inl h
 .obtain⟨y,rfl,hy⟩:=zjf (pU.2.1.mem_iff.mp (cB.mpr ⟨r,ai hr,h3⟩));rw[zV,aP]at h4;have pk:=JS pU bo ro rd st hy;have full:=λw hw=>ze4 pk h4 (x:=w) hw;refine .inr ⟨h1,y,h2,hy,?_,full⟩;have nn:(zm bs rs i).cells.getD y []≠[]:=λz=>by rw[z]at h4;exact h4 rfl
  unfold qR;rw[bI,dX nn];exact full _ (fN nn)
noncomputable def itr(rs:At)(cs:Au)(o:A9):Nat->Option Int
 |0=>o
 |n+1=>(itr rs cs o n).bind (zdN rs cs)
theorem Za{bs:A1}{rs:At}{cs:Au}{o:A9}(s:Sti bs rs cs)(h:zaW bs cs o):∀n,zaW bs cs (itr rs cs o n)
 |0=>h
 |n+1=>λx hx=>by
  cases e:itr rs cs o n with
  |none=>rw[itr,e]at hx;cases hx
  |some z =>
   let⟨b,rfl,hb,ne⟩:=Za s h n z e;rw[itr,e]at hx;let⟨_,_,_,_,e1,g⟩:=s.2 b hb ne;have hx:zdN rs cs b=some x:=hx;rw[e1]at hx;rcases g with⟨_,_,g⟩|⟨_,y,g,g1,g2,_⟩
   .rw[g]at hx;cases hx
   .rw[g]at hx;cases hx;exact⟨y,rfl,g1,g2⟩
def QP(f:Nat->Option Int)(m:Nat):Prop:=f m=none\/∃k,k<m/\f k=f m
def EndA(f:Nat->Option Int)(m:Nat):Prop:=QP f m/\∀n,n<m->¬QP f n
noncomputable def jL(f:Nat->Option Int)(m:Nat):List Int:=(List.range m).map λk=>(f k).getD 0
def EndA.one{f:Nat->Option Int}{m n:Nat}(h:EndA f m)(h':EndA f n):m=n:=by
 rcases b6 m n with z|z|z
 .exact absurd h.1 (h'.2 m z)
 .exact z
 .exact absurd h'.1 (h.2 n z)
def zfM(f:Nat->Option Int)(m:Nat){b:Int}(e:f m=some b):jL f (m+1)=jL f m++[b]:=by
 unfold jL;rw[gr,aQ,List.map_singleton,e]
 rfl
def Jv{f:Nat->Option Int}(no:∀n,n<m->¬QP f n){b:Int}:b∈jL f m↔∃k,k<m/\f k=some b:=by
 unfold jL;rw[aK];constructor
 .rintro⟨k,hk,rfl⟩;have hk:=br.mp hk;refine⟨k,hk,?_⟩;cases e:f k with
  |none=>exact absurd (.inl e) (no k hk)
  |some x=>rfl
 .rintro⟨k,hk,e⟩;exact⟨k,br.mpr hk,by rw[e];rfl⟩
def ziZ{f:Nat->Option Int}{m k:Nat}(hk:k<m):(jL f m)[k]?=some ((f k).getD 0):=by
 unfold jL;rw[ap,List.getElem?_range hk]
 rfl
def Jw(f:Nat->Option Int)(m:Nat):(jL f m).length=m:=by simp[jL]
def zfN{f:Nat->Option Int}(no:∀n,n<m->¬QP f n):(jL f m).Nodup:=by
 unfold jL;refine List.pairwise_map.mpr (List.Pairwise.imp_of_mem (R:=(· < ·)) (λ{x y} hx hy hlt e=>?_) (gf));have hx:=br.mp hx;have hy:=br.mp hy;refine no y hy (.inr ⟨x,hlt,?_⟩);cases e1:f x with
 |none=>exact absurd (.inl e1) (no x hx)
 |some u =>
  cases e2:f y with
  |none=>exact absurd (.inl e2) (no y hy)
  |some v=>rw[e1,e2]at e;exact bp some e
theorem zgp:∀(n:Nat)(l:A6),l.Nodup->(∀x∈l,∃b:Nat,x=b/\b<n)->l.length<=n
 |0,l,_,h=>by
  cases l with
  |nil=>exact ar _
  |cons x xs=>let⟨b,_,hb⟩:=h x (a7 ..);exact absurd hb (cm _)
 |n+1,l,nd,h=>by
  have:=zgp n (l.erase (n:Int)) (nd.erase _) λx hx=>by
   let⟨ne,hx⟩:=nd.mem_erase_iff.mp hx;let⟨b,rfl,hb⟩:=h x hx;exact⟨b,rfl,by lia⟩
  rw[List.length_erase]at this
  split at this<;>lia
def VO{rs:At}{cs:Au}{o:A9}(s:Sti bs rs cs)(h:zaW bs cs o)(no:∀n,n<m->¬QP (itr rs cs o) n):m<=bs.length:=by
 rw[<- Jw (itr rs cs o) m];refine zgp _ _ (zfN no) λx hx=>?_;let⟨k,_,e⟩:=(Jv no).mp hx;let⟨b,rfl,hb,_⟩:=Za s h k x e;exact⟨b,rfl,hb⟩
def Lad(cs:Au)(o:A9):Prop:=(∀b:Nat,o=some (b:Int)->b<cs.length/\qR (cs.getD b [])≠none/\∀m,m<b->qR (cs.getD m [])=none)/\(o=none->∀c∈cs,qR c=none)/\∀x,o=some x->∃b:Nat,x=b
def Lad.laden{cs:Au}{o:A9}(h:Lad cs o)(l:cs.length=bs.length):zaW bs cs o:=λx e=>by
 let⟨b,rfl⟩:=h.2.2 x e;let⟨h1,h2,_⟩:=h.1 b e;exact⟨b,rfl,by rw[<- l];exact h1,h2⟩
def zgU{Q:VK}{l:Addr}{b:Int}(h:H l=some (.lst (iv ns)))(l1:ns.length<1000)(nd:ns.Nodup)(e:ns[j]?=some b)(q:Q (.int j) H):zgj (.ref l) [.int b] H Q:=by
 refine⟨l,.int b,iv ns,j,rfl,rfl,h,by rw[zP];exact l1,rfl,by simp[iv,jo],⟨.int b,xr e,by simp[eqV]⟩,λm z hm hz=>?_,q⟩;let⟨x,hx,rfl⟩:=vR hz;have:x≠b:=λy=>by
  let⟨h1,e1⟩:=aa.mp hx;let⟨h2,e2⟩:=aa.mp e;exact fG.mp nd m j h1 h2 hm (by rw[e1,e2,y])
 simp[eqV,this]
def RingA(f:Nat->Option Int)(m:Nat)(rg:A9):Prop:=(f m=none/\rg=none)\/∃k,k<m/\f m≠none/\f k=f m/\rg=some (k:Int)
def zk8(rs:At)(cs:Au)(v:V)(H':Hp):Prop:=∃(t l:Addr)(o rg:A9)(m:Nat),v=.ref t/\H' t=some (.tup [.ref l,oiV rg])/\H' l=some (.lst (iv (jL (itr rs cs o) m)))/\Lad cs o/\EndA (itr rs cs o) m/\RingA (itr rs cs o) m rg
def ziH(a:Ad):Sp:=λvs H Q E=>∃(vw:V)(lim:Nat)(bs:A1)(rs:At),vs=[vw,.int lim]/\Rep H (Off []) vw (qG a bs rs)/\zQ bs rs/\(∀b∈bs,zE b.1 b.2)/\(∀r∈rs,r.ok)/\lim<=1000 /\
 (∀i j v H',RoundAt bs rs lim i j->js (qt bs rs i j)->Same H H'->zk8 rs (zm bs rs i).cells v H'->Q v H')/\(∀i j,RoundAt bs rs lim i j->¬js (qt bs rs i j)->∀H',Same H H'->E (.ref a.i) none H')/\(xK bs rs lim->∀H',Same H H'->E (.ref a.h) none H')
def zfs{rs:At}{st:PSt}(wf:stWf bs rs st)(bo:∀b∈bs,zE b.1 b.2):∀c∈st.cells,0<c.length:=λc hc=>by
 let⟨q,hq⟩:=bF hc;have hb:=ac (l:=bs) (i:=q) (by rw[<- wf.co.1];exact(aa.mp hq).1);have:=(wf.co.2 q _ _ hb hq).1;have:=(bo _ (ai hb)).1
 lia
def XG(T:Txt K mg a)(F:FunD K "waiting_way" "waiting_way" xM f fd):FnOk P w K mg base (CXr P w) 10 f fd ["work","limit"] (ziH a):=by
 refine F.okx Xd ?_ ?_
 .walk_at"i"
 walk_at"j";let⟨vw,lim,bs,rs,rfl,hv,pU,bo,ro,l1000,kQ,kM,kE⟩:=h;walk_at"T";refine⟨_,(zj (zt 2 Xd.nd ‹(pq 0) (za (pq 1) ze)›)  (zj (zH (zo qH (pq 2) zA (zu _))  (zg (qN ⟨rfl,rfl,rfl⟩ rfl (za zy ze)))  zp)  (zj (zt 3 Xd.nd (zB ze))  (zj (zt 4 Xd.nd ‹(pq 2) ze›)  (qf (zbD jn (PW.pt (pw_and (zo wL (pq 4) zA (zu _)) (pw_and1 (zo zgy (pq 4) (pq 3) (by with_unfolding_all rfl)))))  (zj (zD (z7 ao aw av zN (pq 3) (za (pq 4) ze)))  (zg (zt 4 Xd.nd ‹(pq 0) (za (pq 2) (za (pq 4) ze))›))))  (zj (zt 5 Xd.nd (jE (zo qH (pq 4) zA (zu _)) zA (z7 ao dL fZ zbS (pq 3) (za (pq 4) ze))))  (zg (zk (qV (za (pq 3) (za (pq 5) ze))))))))))),?_⟩;exists uc (Zt T).mono ⟨vw,lim,bs,rs,rfl,hv,pU,bo,ro,l1000,λi j v H1 rnd s1 r=>?_,kE⟩;rcases r.symm with⟨st,rfl⟩|⟨st,y,n,rfl,so⟩
 .left;exact⟨a.i,T.px,T.pE,kM i j rnd st H1 s1⟩
 have sti:=zfU pU bo ro rnd st;have wf:=z6 pU bo ro i;have lc:=wf.co.1;have cl:=zfs wf bo;left;intro L hL;have s2:=zf (o:=.lst (iv [])) hL;exists uc (WN T).mono ⟨y,n,_,rfl,so.same s2,cl,λo H2 s3 l1 l2 l3=>?_⟩;have lad:Lad (zm bs rs i).cells o:=⟨l1,l2,l3⟩;have ldn:=lad.laden (bs:=bs) lc;have sA:Same H1 H2:=s2.trans s3;have gL:=s3 _ _ (show upd H1 L (.lst (iv [])) L=some (.lst (iv []))from rh);clear s2 s3;exists cut (λσ' H'=>∃(m:Nat),σ'=[some vw,some (.int lim),some (.ref y),some (.ref L),some (oiV (itr rs (zm bs rs i).cells o m)),none]/\Same H1 H'/\H' L=some (.lst (iv (jL (itr rs (zm bs rs i).cells o) m)))/\EndA (itr rs (zm bs rs i).cells o) m) ?_ ?_
 .refine⟨λms σ' H'=>∃(m:Nat),σ'=[some vw,some (.int lim),some (.ref y),some (.ref L),some (oiV (itr rs (zm bs rs i).cells o m)),none]/\Same H1 H'/\H' L=some (.lst (iv (jL (itr rs (zm bs rs i).cells o) m)))/\(∀n,n<m->¬QP (itr rs (zm bs rs i).cells o) n)/\ms=24-m,⟨_,0,rfl,sA,gL,λn hn=>absurd hn (cm _),rfl⟩,?_⟩;rintro ms σ' H3 ⟨m,rfl,s3,g3,no,rfl⟩;have mle:=VO sti ldn no;have b24:=pU.1.1.2;left;cases e:itr rs (zm bs rs i).cells o m with
  |none=>exact zR (λz=>absurd rfl z) (λ_=>⟨m,by rw[e],s3,g3,.inl e,no⟩)
  |some x =>
   let⟨b,rfl,hb,ne⟩:=Za sti ldn m x e;refine zR (λ_=>⟨L,_,rfl,.inl (SqL.of g3),rfl,JK _,?_⟩) (λz=>absurd (λq=>nomatch q) z);show bq (.bl (!inV (.int (b:Int)) (iv (jL (itr rs (zm bs rs i).cells o) m)))) _
   rw[zdr];by_cases hm:(b:Int)∈jL (itr rs (zm bs rs i).cells o) m
   .rw[aZ hm];let⟨k,hk,ek⟩:=(Jv no).mp hm;exact⟨m,by rw[e],s3,g3,.inr ⟨k,hk,ek.trans e.symm⟩,no⟩
   rw[aR hm];have no':∀n,n<m+1->¬QP (itr rs (zm bs rs i).cells o) n:=λn hn z=>by
    by_cases q:n=m
    .subst q;rcases z with z|⟨k,hk,z⟩
     .rw[e]at z;cases z
     .exact hm ((Jv no).mpr ⟨k,hk,z.trans e⟩)
    .exact no n (by lia) z
   have mle':=VO sti ldn no';let⟨k,r,fa,hr',ew,_⟩:=sti.2 b hb ne;refine zkk ?_;exists⟨.inl ⟨rfl,_,SqL.of g3⟩,_,_,_,rfl,rfl,g3,zn (by rw[zP,Jw];lia),?_⟩;have hL1:H1 L=none:=hL;have s4:Same H1 (upd H3 L (.lst (iv (jL (itr rs (zm bs rs i).cells o) (m+1))))):=λc u hc=>by rw[rj (rn hc hL1)];exact s3 c u hc
   have eL:iv (jL (itr rs (zm bs rs i).cells o) m)++[oiV (some (b:Int))]=iv (jL (itr rs (zm bs rs i).cells o) (m+1)):=by rw[zfM _ _ e,iv,iv,aQ];rfl
   rw[eL];have g4:upd H3 L (.lst (iv (jL (itr rs (zm bs rs i).cells o) (m+1)))) L=some (.lst (iv (jL (itr rs (zm bs rs i).cells o) (m+1)))):=rh;generalize upd H3 L (.lst (iv (jL (itr rs (zm bs rs i).cells o) (m+1))))=H4 at s4 g4 ⊢;exists uc (zaO T).mono ⟨vw,y,n,_,bs,rs,b,k,r,_,rfl,hv.same (s1.trans s4),so.same s4,wf,pU.1.2.2,ro,cl,fa,hr',by rw[lc];exact hb,ne,λH5 s5=>?_⟩;exact⟨_,by lia,m+1,by rw[itr,e];show _=[_,_,_,_,some (oiV (zdN rs (zm bs rs i).cells b)),_];rw[ew],s4.trans s5,s5 _ _ g4,no',rfl⟩
 .rintro σ' H3 ⟨m,rfl,s3,g3,en⟩;left;have so3:=s1.trans s3;have fin:∀(rg:A9),RingA (itr rs (zm bs rs i).cells o) m rg->∀t,H3 t=none->Q (.ref t) (upd H3 t (.tup [.ref L,oiV rg])):=λrg hrg t ht=>kQ i j _ _ rnd st (so3.trans (zf ht)) ⟨t,L,o,rg,m,rfl,rh,zf ht _ _ g3,lad,en,hrg⟩;refine zR (λz=>?_) (λz=>⟨.inl ⟨rfl,_,SqL.of g3⟩,?_⟩)
  .left;cases e:itr rs (zm bs rs i).cells o m with
   |none=>exact fin none (.inl ⟨e,rfl⟩)
   |some x=>rw[e]at z;cases z
  .cases e:itr rs (zm bs rs i).cells o m with
   |none=>rw[e]at z;exact absurd rfl z
   |some x =>
    rcases en.1 with q|⟨k,hk,ek⟩
    .rw[e]at q;cases q
    refine zgU g3 (by rw[Jw];have:=VO sti ldn en.2;have:=pU.1.1.2;lia) (zfN en.2) (j:=k) (by rw[ziZ hk,ek,e];rfl) ?_;left;exact fin (some k) (.inr ⟨k,hk,by rw[e];exact(λz=>nomatch z),ek,rfl⟩)
def Zs(T:Txt K mg a):Cal P w K mg base "waiting_way" 10 ["work","limit"] [] (ziH a):=T.mI.cal (XG T)
def zin(g:A6)(j p:Nat):(Ju g j).getD p 0<=g.getD p 0+1:=by
 unfold Ju;by_cases e:j=p
 .subst e;by_cases h:j<g.length
  .rw[aj (l:=g.set _ _),aU h];exact bO _
  .rw[ck (by lia)]
   lia
 .rw[qC e]
  lia
def zj5(rs:At)(st:PSt)(k i p:Nat):((jb rs st k).1.gone.getD i []).getD p 0<=(st.gone.getD i []).getD p 0+1:=by
 have le:∀x:Int,x<=x+1:=λx=>by lia
 unfold jb;cases rs[k]? with
 |none=>exact le _
 |some r =>
  simp only;cases qb r (qh rs st.cells r) (qP st.cells r) st.turn (st.sides.getD k 0).toNat with
  |none=>exact le _
  |some ch =>
   let⟨c1,c2,c3⟩:=movedF_keep (r:=r) (st:=st) (k:=k) (ch:=ch);show(((movedF r st k ch).gone.set k _).getD i []).getD p 0<=_
   rw[c3];by_cases e:k=i
   .subst e;by_cases h:k<st.gone.length
    .rw[aj (l:=st.gone.set _ _),aU h];exact zin _ _ _
    .rw[ck (by lia)];exact le _
   .rw[qC e];exact le _
theorem zex(rs:At)(st:PSt)(i p:Nat):∀m:Nat,((zC rs st m).1.gone.getD i []).getD p 0<=(st.gone.getD i []).getD p 0+m
 |0=>by rw[Int.natCast_zero,Int.add_zero];exact bO _
 |m+1=>by
  have h1:=zex rs st i p m;have h2:=zj5 rs (zC rs st m).1 m i p;have h3:((zC rs st (m+1)).1.gone.getD i []).getD p 0<=_:=h2
  lia
theorem zd4{bs:A1}{rs:At}(r24:rs.length<=24)(n i p:Nat):∀m:Nat,((zm bs rs (n+m)).gone.getD i []).getD p 0<=((zm bs rs n).gone.getD i []).getD p 0+24*m
 |0=>by rw[Int.natCast_zero,Int.mul_zero,Int.add_zero];exact bO _
 |m+1=>by
  have h1:=zd4 (bs:=bs) r24 n i p m;have h2:((zm bs rs (n+(m+1))).gone.getD i []).getD p 0<=_:=zex rs (zm bs rs (n+m)) i p rs.length
  lia
def zje{rs:At}{i j k:Nat}{r:Row}(pU:zQ bs rs)(bo:∀b∈bs,zE b.1 b.2)(ro:∀r∈rs,r.ok)(h:i<=j)(h1:j<=1000)(hr:rs[k]?=some r):∃g c,(qt bs rs i j)[k]?=some g/\g[0]?=some c/\0<=c/\c<=24000:=by
 let⟨lG,lr⟩:=zbv pU bo ro i j;have kl:=(aa.mp hr).1;let⟨g,eg⟩:∃g,(qt bs rs i j)[k]?=some g:=⟨_,ac (by rw[lG];exact kl)⟩;have gp:0<g.length:=by rw[lr k r g hr eg];exact zer (ro r (ai hr))
 refine⟨g,g[0],eg,ac gp,(zd1 ro pU bo h g (ai eg)).2 _ (cc gp),?_⟩;have w0:=z6 pU bo ro i;have w1:=z6 pU bo ro j;let⟨u0,e0⟩:∃g,(zm bs rs i).gone[k]?=some g:=⟨_,ac (by rw[w0.go.1];exact kl)⟩;let⟨u1,e1⟩:∃g,(zm bs rs j).gone[k]?=some g:=⟨_,ac (by rw[w1.go.1];exact kl)⟩;have e2:(qt bs rs i j)[k]?=some (xI u0 u1):=by unfold qt j8;rw[d7,e0,e1]
 rw[eg]at e2;cases e2;have:=zd4 (bs:=bs) pU.1.2.2 i k 0 (j-i);rw[show i+(j-i)=j by lia,aj (l:=(zm bs rs i).gone),aj (l:=(zm bs rs j).gone),e0,e1]at this;simp only[bc]at this;have e3:(xI u0 u1)[0]=u1.getD 0 0-u0.getD 0 0:=by
  simp only[xI,List.getElem_map,List.getElem_range]
 rw[e3]
 lia
def zjh{n L:Int}(h0:0<=n)(hL:0<L):0<=xU n L/\xU n L<=n/\0<=xV n L/\xV n L<=L:=by
 unfold xU xV part;rw[am (by lia),cx _ (a8 _),cx _ (a8 _)];exact⟨Int.ediv_nonneg h0 (a8 _),Int.ediv_le_self _ h0,Int.ediv_nonneg (by lia) (a8 _),Int.ediv_le_self _ (by lia)⟩
def rtS(t b:Int):Str:=if b=1 then qk t else qk t++Str.ofString "/"++qk b
abbrev In(n:Int):Prop:=0<=n/\n<zF
def zag{t b:Int}(h:In t)(h':In b):(rtS t b).length<=4000:=by
 have l1:=qD h.1 h.2;have l2:=qD h'.1 h'.2;unfold rtS
 split
 .lia
 .rw[aG,aG,show(Str.ofString "/").length=1 from by symm]
  lia
def zkQ:Sp:=λvs H Q _=>∃(p:Addr)(t b:Int),vs=[.ref p]/\H p=some (.tup [.int t,.int b])/\In t/\In b/\Q (.str (rtS t b)) H
def wS(T:Txt K mg a):Cal P w K mg base "ratio_text" 1 ["one"] [] zkQ:=T.mX.cal λF=>by
 refine F.okx Wt ?_ ?_
 .walk_at"i"
 walk_at"j";refine oE3 h λp t b p9=>oA5 p9 λpQ hp h1 h2 k=>?_;clear p9 h;subst pQ;have l1:=qD h1.1 h1.2;have l2:=qD h2.1 h2.2;walk_at"T";refine⟨_,(zl (zt 1 Wt.nd (zv (pq 0) zh))  (zl (zt 2 Wt.nd (zv (pq 0) zh))  (zl (zH (zo (qT hr.units1) (pq 2) zh (zu _))  (zg (zk (zkw (w9 (pq 1)))))  zp)  (zg (zk (Xy (qm (w9 (pq 1)) (qm zy (qm (w9 (pq 2)) ZF))))))))),?_⟩;exists rA hp at0 ?_;exists rA hp (show atI _ 1=some (.int b)from rfl) ?_;left;unfold rtS at k;refine zR (λhb=>?_) (λhb=>?_)
 .rw[aq hb]at k;left;exact .inl ⟨t,iA3 rfl (qr h1.1 h1.2) k⟩
 .rw[am hb]at k;left;have e1:(Str.ofString "/").length=1:=by symm
  have z1:(Str.empty++qk t++Str.ofString "/").length<=1922:=by rw[bK,aG];lia
  have z2:(Str.empty++qk t++Str.ofString "/"++qk b).length<=4000:=by rw[aG];lia
  exact .inl ⟨t,iA5 rfl (qr h1.1 h1.2) (big (by rw[bK];lia)) (big (by lia)) (.inl ⟨b,iA5 rfl (qr h2.1 h2.2) (big (by lia)) (big (by lia)) (by rw[bK];exact k)⟩)⟩
def shC(G:List A6)(k:Nat):Int:=(G.getD k []).getD 0 0
def shS(nm:Str)(G:List A6)(L:Int)(k:Nat):Str:=nm++qk k++Str.ofString " "++rtS (xU (shC G k) L) (xV (shC G k) L)
def shX(wd:Wd)(nm:Str)(rs:At)(G:List A6)(L:Int)(k:Nat):List Str:=if (rs[k]?).map Row.wd=some wd then [shS nm G L k]else []
def shL(rs:At)(G:List A6)(L:Int):Nat->List Str
 |0=>[]
 |k+1=>shL rs G L k++shX .source (Str.ofString "source ") rs G L k++shX .drain (Str.ofString "drain ") rs G L k
def VZ(wd:Wd)(nm:Str)(rs:At)(G:List A6)(L:Int)(k:Nat):(shX wd nm rs G L k).length<=1:=by
 unfold shX
 split
 .exact ar _
 .exact cj _
theorem J9(rs:At)(G:List A6)(L:Int):∀k,(shL rs G L k).length<=2*k
 |0=>ar _
 |k+1=>by
  have h1:=J9 rs G L k;have h2:=VZ .source (Str.ofString "source ") rs G L k;have h3:=VZ .drain (Str.ofString "drain ") rs G L k;rw[shL,aD,aD]
  lia
structure Shr(rs:At)(G:List A6)(L:Int):Prop where
 c:∀{k r},rs[k]?=some r->∃g,G[k]?=some g/\g[0]?=some (shC G k)/\In (xU (shC G k) L)/\In (xV (shC G k) L)
def VW{rs:At}{lim i j:Nat}(pU:zQ bs rs)(bo:∀b∈bs,zE b.1 b.2)(ro:∀r∈rs,r.ok)(l1:lim<=1000)(rd:RoundAt bs rs lim i j):Shr rs (qt bs rs i j) ((j:Int)-i):=by
 have hij:=rd.lt;have hj:=rd.le;refine⟨λ{k r} hr=>?_⟩;let⟨g,c,eg,ec,c0,c1⟩:=zje pU bo ro (b7 hij) (show j<=1000 by lia) hr;have e:shC (qt bs rs i j) k=c:=by
  unfold shC;rw[aj (l:=qt bs rs i j),eg,bc,aj,ec]
  rfl
 rw[e];have b:=zjh (L:=(j:Int)-i) c0 (by lia);have kl:(24000:Int)<zF:=by symm
 exact⟨g,eg,ec,⟨b.1,by lia⟩,⟨b.2.2.1,by lia⟩⟩
def zhE{G:List A6}(hn:nm.length<=100)(hk:k<=24)(h1:In (xU (shC G k) L))(h2:In (xV (shC G k) L)):(shS nm G L k).length<=7000:=by
 have l1:=zag h1 h2;have kl:(1000:Int)<zF:=by symm
 have l2:=qD (n:=k) (by lia) (by lia);unfold shS;rw[aG,aG,aG,show(Str.ofString " ").length=1 from by symm]
 lia
def zdW{rs:At}{G:List A6}(h:Shr rs G L)(wd:Wd)(hn:nm.length<=100)(hk:k<=24):∀x∈shX wd nm rs G L k,x.length<=7000:=λx hx=>by
 unfold shX at hx
 split at hx
 .rename_i z;let⟨r,hr,_⟩:=aB.mp z;let⟨g,_,_,h1,h2⟩:=h.c hr;rw[ak.mp hx];exact zhE hn hk h1 h2
 .cases hx
theorem V0{rs:At}{G:List A6}{L:Int}(h:Shr rs G L):∀{k:Nat},k<=24->∀x∈shL rs G L k,x.length<=7000
 |0,_,x,hx=>nomatch hx
 |k+1,hk,x,hx=>by
  rw[shL]at hx;rcases ay.mp hx with hx|hx
  .rcases ay.mp hx with hx|hx
   .exact V0 h (by lia) x hx
   .exact zdW h .source (by symm) (by lia) x hx
  .exact zdW h .drain (by symm) (by lia) x hx
def Jz{rs:At}{G:List A6}{r:Row}(hr:rs[k]?=some r)(h:r.wd=wd):shX wd nm rs G L k=[shS nm G L k]:=by
 unfold shX;rw[aq (by rw[hr,<- h];rfl)]
def VY{rs:At}{G:List A6}{r:Row}(hr:rs[k]?=some r)(h:r.wd≠wd):shX wd nm rs G L k=[]:=by
 unfold shX;rw[am (by rw[hr];exactλz=>h (aO z))]
def ziI{sl:Addr}{as:Ab}{rs:At}{G:List A6}(h:Shr rs G L)(nl:NL H (zX H) sl as (G.map (J3 L))){r:Row}(hr:rs[k]?=some r):∃sb ts vs,as[k]?=some sb/\H sb=some (.lst vs)/\vs[0]?=some (.ref ts)/\H ts=some (.tup [.int (xU (shC G k) L),.int (xV (shC G k) L)]):=by
 let⟨g,eg,ec,_⟩:=h.c hr;let⟨sb,vs,qs,hs,rvs⟩:=nl.at (i:=k) (xs:=J3 L g) (by rw[ap,eg];rfl);let⟨v,hv,rv⟩:=rvs.of (i:=0) (d:=.tup [.int (xU (shC G k) L),.int (xV (shC G k) L)]) (by rw[J3,ap,ec];rfl);let⟨ts,rfl,hts⟩:=Z7 (b:=(xU (shC G k) L,xV (shC G k) L)) rv;exact⟨sb,ts,vs,qs,hs,hv,hts⟩
def VX{nm x:Str}(n1:nm.length<=100)(mi:In m)(n2:x.length<=4000):(Str.empty++nm).length<=sizeLine/\(Str.empty++nm++qk m).length<=sizeLine/\(Str.empty++nm++qk m++Str.ofString " ").length<=sizeLine/\(Str.empty++nm++qk m++Str.ofString " "++x).length<=sizeLine:=by
 have n3:=qD mi.1 mi.2;have n4:(Str.ofString " ").length=1:=by symm
 have e1:=aG nm (qk m);have e2:=aG (nm++qk m) (Str.ofString " ");have e3:=aG (nm++qk m++Str.ofString " ") x;rw[bK];exact⟨big (by lia),big (by lia),big (by lia),big (by lia)⟩
def zkn(bs:A1)(rs:At)(i j:Nat)(_:Hp)(v:V)(H':Hp):Prop:=∃l,v=.ref l/\H' l=some (.lst ((shL rs (qt bs rs i j) ((j:Int)-i) rs.length).map V.str))
def WF(T:Txt K mg a)(F:Fun K "share_rows" "share_rows" wx f fd):FnOk P w K mg base (CXr P w) 10 f fd ["work","limit"] (Zj a zkn):=by
 refine F.okx Wr ?_ ?_
 .walk_at"i"
 walk_at"j";refine oE4 h λvw lim bs rs p9=>oA8 p9 λpQ hv pU bo ro l1000 kQ kE=>?_;clear p9 h;subst pQ;refine oE7 (qI hv) λyw dx fs l1 l2 bvs pW p9=>oA9 p9 λpQ hy e1 e2 h1 h2 hB hK no=>?_;clear p9;subst pQ;have r24:=pU.1.2.2;walk_at"T";refine⟨_,(zj (zt 2 Wr.nd (zB ze))  (zj (zt 3 Wr.nd ‹(pq 0) (za (pq 1) ze)›)  (qf (qU jn rfl (jl (za (zr (pq 0) rfl) ze)) (xW (n:=2) rfl (qd (qq 4 Wr.nd) (qd (qq 5 Wr.nd) jO)))  (zj (zt 6 Wr.nd ‹(zv (zv (pq 3) (pq 4)) zh) ze›)  (qf (zH (qp (zS ji zL (za (pq 5) (za qS ze))) (λ_=>rfl))  (zg (zD (z7 ao aw av zN (pq 2) (za (Xy (qm zy (qm (w9 (pq 4)) (qm zy (qm (w9 (pq 6)) ZF))))) ze))))  zp)  (zg (zH (qp (zS ji zL (za (pq 5) (za qS ze))) (λ_=>rfl))  (zg (zD (z7 ao aw av zN (pq 2) (za (Xy (qm zy (qm (w9 (pq 4)) (qm zy (qm (w9 (pq 6)) ZF))))) ze))))  zp)))))  (zg (zk (pq 2)))))),?_⟩;left;intro R hR;have s1:=zf (o:=.lst []) hR;have g1:upd H R (.lst []) R=some (.lst []):=rh;generalize upd H R (.lst [])=H1 at s1 g1 ⊢;exists uc (Q8 T).mono (iE4 (.ref yw) lim bs rs (iA8 rfl (hv.same s1) pU bo ro l1000 (λi j v H2 rnd s2 r=>?_) (λnr H2 s2=>kE nr H2 (s1.trans s2))));refine oE2 r λsl as p9=>oA3 p9 λpQ nl fa=>?_;clear p9 r;subst pQ;have sh:=VW pU bo ro l1000 rnd;have kQ:∀H',Same H H'->H' R=some (.lst ((shL rs (qt bs rs i j) ((j:Int)-i) rs.length).map V.str))->Q (.ref R) H':=λH' s h=>kQ i j _ H' rnd s ⟨R,rfl,h⟩;generalize qt bs rs i j=G at nl sh kQ;generalize (j:Int)-i=L at nl sh kQ;have s3:=s1.trans s2;have g2:=s2 _ _ g1;have off:∀b∈sl::as,b∉[R]:=λb hb z=>by
  have:=fa b hb;rw[ak.mp z,g1]at this;cases this
 left;let pY:St->Hp->Prop:=λσ' H'=>∃(v4 v5 v6:Aq),σ'=[some (.ref yw),some (.int lim),some (.ref R),some (.ref sl),v4,v5,v6]/\Same H H'/\H' R=some (.lst ((shL rs G L rs.length).map V.str));refine cut pY ?_ ?_
 .walk_at"d";exists ra (s3 _ _ hy) T.iu T.io e2 (iE2 l2 _ (iA3 rfl (s3 _ _ h2) ?_));let pZ:Nat->St->Hp->Prop:=λm σ H'=>∃(v4 v5 v6:Aq),σ=[some (.ref yw),some (.int lim),some (.ref R),some (.ref sl),v4,v5,v6]/\Fr [R] H2 H'/\H' R=some (.lst ((shL rs G L m).map V.str));refine Vz (K:=K) (a:=l2) (xs:=pW) pZ (iE3 _ _ _ (iA3 rfl Fr.refl g2)) (λm σ H' _ h=>by
   refine oE3 h λ_ _ _ p9=>oA3 p9 λ_ f _=>?_;clear p9 h;exact SqL.of (f _ _ (λz=>by rw[<- ak.mp z,h2]at hR;cases hR) (s3 _ _ h2))) ?_ ?_
  .intro m x t σ H3 hm ht pR;refine oE3 pR λv4 v5 v6 p9=>oA3 p9 λpQ f3 g3=>?_;ext;let⟨r,hr',hKn⟩:=hK.at hm;refine oE6 hKn.inv λy1 dx1 m1 m2 m3 fs1 p9=>oA7 p9 λpQ _ _ _ _ q0 _=>?_;clear p9;subst pQ;have hml:=(aa.mp hr').1;refine oE1 (sh.c hr') λg p9=>oA4 p9 λeg ec i1 i2=>?_;clear p9;refine oE3 (ziI sh nl hr') λsb ts us p9=>oA4 p9 λqs hs hu hts=>?_;clear p9;have s4:=zf (o:=.tup [.int m,.ref y1]) ht;have o1:=s4 _ _ (f3 _ _ (off sl (by simp)) nl.out);have o2:=s4 _ _ (f3 _ _ (off sb (aA _ (ai qs))) hs);have o3:=s4 _ _ (f3 ts _ (λz=>by rw[ak.mp z,g2]at hts;cases hts) hts);have q4:=s4 _ _ (f3 y1 _ (λz=>by rw[ak.mp z,hR]at q0;cases q0) (s3 _ _ q0));have g4:=s4 _ _ g3;refine un2 rh ?_;generalize upd H3 t (.tup [.int m,.ref y1])=H4 at s4 g4 o1 o2 o3 q4 ⊢;have f4:=f3.trans s4.fr;have kl:(1000:Int)<zF:=by symm
   have mi:In m:=⟨by lia,by lia⟩;have n1:=qD mi.1 mi.2;have n2:=zag i1 i2;have n3:=J9 rs G L m;exists uc (wS T).mono (zw (SqL.of o1) (zJ (by rw[ap,qs];rfl)) (zw (SqL.of o2) (zJ (j:=0) hu) (iE3 ts _ _ (iA5 rfl o3 i1 i2 ?_))));left;let r9:St->Hp->Prop:=λσ' H'=>σ'=[some (.ref yw),some (.int lim),some (.ref R),some (.ref sl),some (.int m),some (.ref y1),some (.str (rtS (xU (shC G m) L) (xV (shC G m) L)))]/\Fr [R] H4 H'/\H' R=some (.lst ((shL rs G L m++shX .source (Str.ofString "source ") rs G L m).map V.str));refine cut r9 ?_ ?_
   .exists iE2 (.ref a.l) _ (iA3 T.ko rfl (iE4 _ _ _ _ (iA4 rfl ((WT T r.wd).ty (CT T r.wd) q4) (.inl ⟨_,rfl,zjG T r.wd⟩) ?_)));by_cases z:r.wd=.source
    .rw[aZ z];exists oA4 (VX (nm:=Str.ofString "source ") (by symm) mi n2) λz1 z2 z3 z4=>?_;exact⟨.inl ⟨rfl,_,SqL.of g4⟩,z1,.inl ⟨m,iA5 rfl (qr mi.1 mi.2) z2 z3 (.inr (iA4 (big (by lia)) z4 z4 (iE3 R _ _ (iA7 rfl rfl g4 (zn (by rw[af];lia)) rfl (qW (by simp)) (by rw[rh,bK,Jz hr' z,aQ];rfl)))))⟩⟩
    .rw[aR z];left;exact⟨rfl,Fr.refl,by rw[VY hr' z,bB];exact g4⟩
   rintro σ' H5 ⟨rfl,f5,g5⟩;have n4:=VZ .source (Str.ofString "source ") rs G L m;exists iE2 (.ref a.m) _ (iA3 T.kh rfl (iE4 _ _ _ _ (iA4 rfl ((WT T r.wd).ty (CT T r.wd) (f5 y1 _ (λz=>by rw[ak.mp z,g4]at q4;cases q4) q4)) (.inl ⟨_,rfl,zh8 T r.wd⟩) ?_)));by_cases z:r.wd=.drain
   .rw[aZ z];exists oA4 (VX (nm:=Str.ofString "drain ") (by symm) mi n2) λz1 z2 z3 z4=>?_;exact⟨.inl ⟨rfl,_,SqL.of g5⟩,z1,.inl ⟨m,iA5 rfl (qr mi.1 mi.2) z2 z3 (.inr (iA4 (big (by lia)) z4 z4 (iE3 R _ _ (iA5 rfl rfl g5 (zn (by rw[af,aD];lia)) (iE3 _ _ _ (iA3 rfl ((f4.trans f5).trans (qW (by simp))) (by rw[rh,bK,shL,Jz (wd:=.drain) hr' z,aQ (l₂:=[_])];rfl)))))))⟩⟩
   .rw[aR z];left;exact iE3 _ _ _ (iA3 rfl (f4.trans f5) (by rw[shL,VY (wd:=.drain) hr' z,bB];exact g5))
  .intro σ H3 pR;refine oE3 pR λv4 v5 v6 p9=>oA3 p9 λpQ f3 g3=>?_;ext;rw[hK.len]at g3;exact iE3 _ _ _ (iA3 rfl ((s3.fr.trans f3).same λm hm=>by rw[ak.mp hm];exact hR) g3)
 intro σ' H3 pR;refine oE3 pR λv4 v5 v6 p9=>oA3 p9 λpQ s3 g3=>?_;ext;left;exact kQ H3 s3 g3
def zaR(T:Txt K mg a):Cal P w K mg base "share_rows" 10 ["work","limit"] [] (Zj a zkn):=T.m8.cal (WF T)
def Wy(rs:At)(cs:Au)(ws:A6)(rg:A9):Prop:=∃o m,Lad cs o/\EndA (itr rs cs o) m/\RingA (itr rs cs o) m rg/\ws=jL (itr rs cs o) m
def Lad.one{cs:Au}{o o':A9}(h:Lad cs o)(h':Lad cs o'):o=o':=by
 have no:∀{u:A9}{x:Int},Lad cs u->Lad cs (some x)->u≠none:=λ{u x} hu hx z=>by
  let⟨b,rfl⟩:=hx.2.2 x rfl;let⟨q1,q2,_⟩:=hx.1 b rfl;refine q2 ?_;rw[aj,ac q1];exact hu.2.1 z _ (cc q1)
 cases o with
 |none =>
  cases o' with
  |none=>rfl
  |some x=>exact absurd rfl (no h h')
 |some x =>
  cases o' with
  |none=>exact absurd rfl (no h' h)
  |some x' =>
   let⟨b,rfl⟩:=h.2.2 x rfl;let⟨b',rfl⟩:=h'.2.2 x' rfl;let⟨_,p2,p3⟩:=h.1 b rfl;let⟨_,q2,q3⟩:=h'.1 b' rfl;rcases b6 b b' with z|z|z
   .exact absurd (q3 b z) p2
   .rw[z]
   .exact absurd (p3 b' z) q2
def RingA.one{f:Nat->Option Int}{x y:A9}(no:∀n,n<m->¬QP f n)(h:RingA f m x)(h':RingA f m y):x=y:=by
 rcases h with⟨e,rfl⟩|⟨k,hk,n1,e,rfl⟩<;>rcases h' with⟨e',rfl⟩|⟨k',hk',n1',e',rfl⟩
 .rfl
 .exact absurd e n1'
 .exact absurd e' n1
 .rcases b6 k k' with z|z|z
  .exact absurd (.inr ⟨k,z,e.trans e'.symm⟩) (no k' hk')
  .rw[z]
  .exact absurd (.inr ⟨k',z,e'.trans e.symm⟩) (no k hk)
def Wy.one{rs:At}{cs:Au}{ws ws':A6}{rg rg':A9}(h:Wy rs cs ws rg)(h':Wy rs cs ws' rg'):ws=ws'/\rg=rg':=by
 let⟨o,m,l,e,r,rfl⟩:=h;let⟨o',m',l',e',r',rfl⟩:=h';cases l.one l';cases e.one e';exact⟨rfl,r.one e.2 r'⟩
def zbw(rg:A9):Str:=match rg with
 |none=>Str.ofString "none"
 |some x=>qk x
inductive StR(bs:A1)(rs:At)(i j:Nat):List Str->Prop
 |mv:¬js (qt bs rs i j)->StR bs rs i j [Str.ofString "moving"]
 |st {ws:A6} {rg:A9}:js (qt bs rs i j)->Wy rs (zm bs rs i).cells ws rg->StR bs rs i j [zO "still" [(i:Int)],zO "waits" ws,Str.ofString "ring "++zbw rg]
def StR.one{rs:At}{i j:Nat}{x y:A8}(h:StR bs rs i j x)(h':StR bs rs i j y):x=y:=by
 cases h with
 |mv n =>
  cases h' with
  |mv _=>rfl
  |st s _=>exact absurd s n
 |st s w =>
  cases h' with
  |mv n=>exact absurd s n
  |st _ w' =>
   let⟨rfl,rfl⟩:=w.one w'
   rfl
section
variable{bs:A1}{rs:At}{lim i j:Nat}
def zfJ(pU:zQ bs rs)(bo:∀b∈bs,zE b.1 b.2)(ro:∀r∈rs,r.ok)(rd:RoundAt bs rs lim i j)(st:js (qt bs rs i j)){ws:A6}{rg:A9}(h:Wy rs (zm bs rs i).cells ws rg):ws.length<=24/\(∀x∈ws,In x)/\∀x,rg=some x->In x:=by
 let⟨o,m,lad,en,ri,rfl⟩:=h;have sti:=zfU pU bo ro rd st;have ldn:=lad.laden (bs:=bs) (z6 pU bo ro i).co.1;have le:=VO sti ldn en.2;have b24:=pU.1.1.2;have kl:(1000:Int)<zF:=by symm
 refine⟨by rw[Jw];lia,λx hx=>?_,λx e=>?_⟩
 .obtain⟨k,_,e⟩:=(Jv en.2).mp hx;let⟨b,rfl,hb,_⟩:=Za sti ldn k x e;exact⟨by lia,by lia⟩
 .rcases ri with⟨_,z⟩|⟨k,hk,_,_,z⟩
  .rw[z]at e;cases e
  .rw[z]at e;cases e;exact⟨by lia,by lia⟩
def Vh{rg:A9}(h:∀x,rg=some x->In x):(zbw rg).length<=2000:=by
 cases rg with
 |none=>decide+kernel
 |some x =>
  have:=h x rfl;exact aJ (qD this.1 this.2) (by decide)
def zdR(pU:zQ bs rs)(bo:∀b∈bs,zE b.1 b.2)(ro:∀r∈rs,r.ok)(l1:lim<=1000)(rd:RoundAt bs rs lim i j){x:A8}(h:StR bs rs i j x):x.length<=3/\∀y∈x,y.length<=60000:=by
 have kl:(1000:Int)<zF:=by symm
 have h1:=rd.lt;have h2:=rd.le;cases h with
 |mv _=>exact⟨by decide,λy hy=>by rw[ak.mp hy];decide+kernel⟩
 |st s w =>
  let⟨w1,w2,w3⟩:=zfJ pU bo ro rd s w;refine⟨ar _,λy hy=>?_⟩;simp only[au,bn,bR]at hy;rcases hy with rfl|rfl|rfl
  .exact vP (by symm) (by show 1<=30;decide) λn hn=>by rw[ak.mp hn];exact⟨by lia,by lia⟩
  .exact vP (by symm) (by lia) w2
  .have:=Vh w3;rw[aG,show(Str.ofString "ring ").length=5 from by symm]
   lia
end
def zkY(bs:A1)(rs:At)(i j:Nat)(_:Hp)(v:V)(H':Hp):Prop:=∃l x,v=.ref l/\StR bs rs i j x/\H' l=some (.lst (x.map V.str))
def zjD{x y:Str}(e:x=y++Str.ofString " ")(n:Int):Str.empty++x++qk n=zO y [n]:=by
 rw[bK,e]
 rfl
def zjC{x y:Str}(e:x=y++Str.ofString " ")(n m:Int):Str.empty++x++qk n++Str.ofString " "++qk m=zO y [n,m]:=by
 rw[bK,e,za5 _ (qk n),za5 _ (qk n++_)]
 rfl
theorem zaQ(T:Txt K mg a):Cal P w K mg base "still_rows" 11 ["work","limit"] [] (Zj a zkY):=T.m9.cal λF=>by
 refine F.okx Wp ?_ ?_
 .walk_at"i"
 walk_at"j";refine oE4 h λvw lim bs rs p9=>oA8 p9 λpQ hv pU bo ro l1000 kQ kE=>?_;clear p9 h;subst pQ;walk_at"T";refine⟨_,(zj (zt 2 Wp.nd ‹(pq 0) (za (pq 1) ze)›)  (zj (zH (zo qH (pq 2) zA (zu _))  (zg (zk (zB (za zy ze))))  zp)  (zj (zt 3 Wp.nd ‹(pq 0) (za (pq 1) ze)›)  (zj (zt 4 Wp.nd (z7 aW bj bh xf zy (za (zG zK (zB (za zy ze)) (jJ (vars:=["belt"]) (caps:=[]) (N:=["belt"]) (ON:=["work","limit","turn","found","waits","ring"]) (osc:=zi wu) rfl rfl (by right) rfl rfl (qj (zv (pq 3) zh)) (λ_ _ _ _=>(qq 0 (show(["belt"]:A8).Nodup from by symm))) (λ_ _ _ _=>qg) (λ_ _ _ _=>(jS Wf QK (za (pq 0) ze))))) ze)))  (qf (zt 5 Wp.nd (jE (zo qH (zv (pq 3) zh) zA (zu _)) zy (jS Wf QK (za (zv (pq 3) zh) ze))))  (zg (zk (zB (za (Xy (qm zy (qm (w9 (pq 2)) ZF))) (za (pq 4) (za (Xy (qm zy (qm (w9 (pq 5)) ZF))) ze))))))))))),?_⟩;exists uc (Qh T).mono (iE4 vw lim bs rs (iA8 rfl hv pU bo ro l1000 (λi j v H1 rnd s1 r=>?_) kE));rcases r with⟨st,rfl⟩|⟨st,rfl⟩
 .exists uc (Zs T).mono (iE4 vw lim bs rs (iA9 rfl (hv.same s1) pU bo ro l1000 (λi' j' v H2 rd' _ s2 wv=>?_) (λi' j' rd' ns=>?_) (λnr=>absurd nr rnd.no)))
  .obtain⟨e1,e2⟩:=rnd.one rd';subst e1 e2;refine oE5 wv λt l o rg m p9=>oA6 p9 λpQ ht hl lad en ring=>?_;clear p9 wv;subst pQ;have wy:Wy rs (zm bs rs i).cells (jL (itr rs (zm bs rs i).cells o) m) rg:=⟨o,m,lad,en,ring,rfl⟩;clear lad en ring rd';let⟨w1,w2,w3⟩:=zfJ pU bo ro rnd st wy;generalize jL (itr rs (zm bs rs i).cells o) m=ns at hl wy w1 w2;have s12:=s1.trans s2;clear s1 s2;have kl:(1000:Int)<zF:=by symm
   have hij:=rnd.lt;have hj:=rnd.le;have ii:In i:=⟨by lia,by lia⟩;exists⟨jW,λq1 hq1=>?_⟩;have t1:=zf (o:=.lst [V.str (Str.ofString "waits")]) hq1;have g1:upd H2 q1 (.lst [V.str (Str.ofString "waits")]) q1=some (.lst [V.str (Str.ofString "waits")]):=rh;have ht3:=t1 _ _ ht;have hl3:=t1 _ _ hl;have s13:=s12.trans t1;generalize upd H2 q1 _=H3 at g1 ht3 hl3 s13 t1 ⊢;clear t1 s12 ht hl;walk_at"c";exists rA ht3 at0 ⟨l,rfl,.inl ⟨⟨_,SqL.of hl3⟩,λ_ _ _ _ pV hacc=>?_⟩⟩;let pY:Nat->St->Hp->Prop:=λi σ H'=>∃v,σ=[v]/\Same H3 H'/\H' pV=some (.lst (((ns.take i).map qk).map V.str));refine qL (K:=K) (a:=l) (xs:=iv ns) pY ⟨_,iA3 rfl (zf hacc) rh⟩ (λi σ H' _ h=>by let⟨_,_,s,_⟩:=h;exact SqL.of (s _ _ hl3)) ?_ ?_
   .intro q x σ H4 hq pR;refine oE1 pR λv p9=>oA3 p9 λpQ s4 e4=>?_;ext;let⟨y,hy,rfl⟩:=vR hq;have hyl:=(aa.mp hy).1;have yb:=w2 y (ai hy);exists⟨qr yb.1 yb.2,⟨_,iA3 e4 (zn (by rw[af,af,aS];lia)) ⟨_,iA3 rfl (λb o hb=>?_) ?_⟩⟩⟩
    .rw[rj (rn hb hacc)];exact s4 b o hb
    .rw[rh,aT,hy,aQ,aQ];rfl
   intro σ H4 pR;refine oE1 pR λv p9=>oA3 p9 λpQ s4 e4=>?_;ext;rw[zP,aV]at e4;exists qu (SqL.of (s4 _ _ g1)) (SqL.of e4) (qe (by rw[af,af];simp;lia)) λq2 hq2=>?_;have hb:∀x∈Str.ofString "waits"::ns.map qk,x.length<=1921:=λx hx=>by
    rcases au.mp hx with rfl|hx
    .decide+kernel
    .obtain⟨n,hn,rfl⟩:=aK.mp hx;exact qD (w2 n hn).1 (w2 n hn).2
   have sl:=xB hb;rw[aM,af]at sl;refine iE3 _ q2 (Str.ofString "waits"::ns.map qk) (iA5 rfl rfl (by rw[rh];rfl) ?_ ?_)
   .rw[aM,af];have:(Str.ofString " ").length=1:=by symm
    rw[this]
    lia
   have s5:=s13.trans (s4.trans (zf (o:=.lst ([V.str (Str.ofString "waits")]++(ns.map qk).map V.str)) hq2));have ht5:=zf (o:=.lst ([V.str (Str.ofString "waits")]++(ns.map qk).map V.str)) hq2 _ _ (s4 _ _ ht3);generalize upd H4 q2 _=H5 at s5 ht5 ⊢;left;let pZ:St->Hp->Prop:=λσ' H'=>σ'=[some vw,some (.int lim),some (.int i),some (.ref t),some (.str (zO "waits" ns)),some (.str (zbw rg))]/\H'=H5;refine cut pZ ?_ ?_
   .exists rA ht5 (show atI _ 1=some (oiV rg)from rfl) ?_;cases rg with
    |none =>
     left;exact zR (λ_=>⟨rfl,rfl⟩) (λz=>absurd rfl z)
    |some x =>
     have ix:=w3 x rfl;left;exact rA ht5 (show atI _ 1=some (.int x)from rfl) ⟨qr ix.1 ix.2,rfl,rfl⟩
   rintro σ' H6 ⟨rfl,rfl⟩;have a1:=qD ii.1 ii.2;have a2:=Vh w3;have a3:(Str.empty++Str.ofString "still ").length=6:=by symm
   have a4:(Str.empty++Str.ofString "ring ").length=5:=by symm
   have a5:(Str.empty++Str.ofString "still "++qk i).length<=sizeLine:=by rw[aG];exact big (by lia)
   have a6:(Str.empty++Str.ofString "ring "++zbw rg).length<=sizeLine:=by rw[aG];exact big (by lia)
   exists⟨big (by lia),.inl ⟨i,iA6 rfl (qr ii.1 ii.2) a5 a5 (big (by lia)) (.inr (iA4 (big (by lia)) a6 a6 (λp hp=>kQ i j _ _ rnd (s5.trans (zf hp)) (iE2 p _ (iA3 rfl (.st st wy) ?_)))))⟩⟩;rw[rh,zjD (y:=Str.ofString "still") (by symm),bK]
   rfl
  .obtain⟨e1,e2⟩:=rnd.one rd';subst e1 e2;exact absurd st ns
 .left;exactλl hl=>kQ i j _ _ rnd (s1.trans (zf hl)) (iE2 l _ (iA3 rfl (.mv st) rh))
def zaE(x:Str):Bool:=match Zn x with
 |some (.knot _)=>true
 |_=>false
def zk2{x:Str}{rm pc:Int}(h:Zn x=some (.belt rm pc)):zaE x=false:=by unfold zaE;rw[h]
theorem ziL:∀(rows:A8){s:Option (List (Int×Int)×List Row)}{bs:A1}{rs:At},rows.foldl j6 s=some (bs,rs)->∃bs0 rs0,s=some (bs0,rs0)/\rs.length<=rs0.length+rows.countP zaE
 |[],s,bs,rs,h=>⟨bs,rs,h,ar _⟩
 |x::xs,s,bs,rs,h=>by
  let⟨b1,r1,e,le⟩:=ziL xs (s:=j6 s x) h;unfold j6 at e;cases s with
  |none=>cases e
  |some s =>
   let⟨b0,r0⟩:=s;refine⟨b0,r0,rfl,?_⟩;rw[List.countP_cons];cases ep:Zn x with
   |none=>rw[ep]at e;cases e
   |some p =>
    rw[ep]at e;cases p with
    |belt rm pc =>
     simp only at e
     split at e
     .cases e;rw[<- fT];exact aJ le (c9 _ _)
     .cases e
    |knot r =>
     simp only at e
     split at e
     .cases e;rw[aD,bP]at le;rw[aq (by unfold zaE;rw[ep])]
      lia
     .cases e
theorem zaJ{f:Row->List Int}:∀{rs:At},(∀r∈rs,(f r).length<=4)->(rs.flatMap f).length<=4*rs.length
 |[],_=>ar _
 |r::rs,h=>by
  have h1:=h r (a7 ..);have h2:=zaJ (rs:=rs) λr hr=>h r (aA _ hr);rw[List.flatMap_cons,aD,aM]
  lia
structure Rw(rows:A8):Prop where
 ne:rows≠[]
 le:rows.length<=30
 ok:∀x∈rows,10∉x.cps.toList/\x.length<=10000
 kn:rows.countP zaE<=15
def Rw.fed{rs:At}(h:Rw rows)(e:rdF rows=some (bs,rs)):(jK rs).length<64/\(qA rs).length<64:=by
 let⟨b0,r0,e0,le⟩:=ziL rows e;cases e0;have ro:=(zbA e).2.1;have kn:=h.kn;have h1:=zaJ (f:=Row.outs) λr hr=>(zda (ro r hr)).2;have h2:=zaJ (f:=Row.ins) λr hr=>(zda (ro r hr)).1;have h3:rs.length<=0+rows.countP zaE:=le;exact⟨bV h1 (by lia),bV h2 (by lia)⟩
inductive RpT(bs:A1)(rs:At)(lim:Nat):Str->Prop
 |no:xK bs rs lim->RpT bs rs lim (Str.ofString "round none")
 |yes {i j:Nat} {y:A8}:RoundAt bs rs lim i j->StR bs rs i j y->RpT bs rs lim (Str.join (Str.ofString "\n") (zO (Str.ofString "round") [(i:Int),(j:Int)-i]::(shL rs (qt bs rs i j) ((j:Int)-i) rs.length++y)))
def RpT.one{rs:At}{lim lim':Nat}{x y:Str}(h:RpT bs rs lim x)(h':RpT bs rs lim' y)(le:lim<=lim')(f:lim=lim'\/¬xK bs rs lim):x=y:=by
 cases h with
 |no n =>
  rcases f with rfl|f
  .cases h' with
   |no _=>rfl
   |yes rd _=>exact absurd n rd.no
  .exact absurd n f
 |yes rd s =>
  cases h' with
  |no n=>exact absurd rd.eq (n _ _ rd.lt (aJ rd.le le))
  |yes rd' s' =>
   let⟨rfl,rfl⟩:=rd.one rd';cases s.one s'
   rfl
def zd0{rs:At}{lim i j:Nat}(pU:zQ bs rs)(bo:∀b∈bs,zE b.1 b.2)(ro:∀r∈rs,r.ok)(l1:lim<=1000)(rd:RoundAt bs rs lim i j){X y:A8}(sy:StR bs rs i j y)(ll:∀x∈X,x.length<=7000)(ln:X.length<=2*rs.length)(ii:In i)(ij:In ((j:Int)-i)):((zO (Str.ofString "round") [(i:Int),(j:Int)-i]::(X++y)).map (·.length)).sum+(zO (Str.ofString "round") [(i:Int),(j:Int)-i]::(X++y)).length*(Str.ofString "\n").length<=16777216:=by
 let⟨y1,y2⟩:=zdR pU bo ro l1 rd sy;have r24:=pU.1.2.2;have hb:=xB (m:=60000) (xs:=zO (Str.ofString "round") [(i:Int),(j:Int)-i]::(X++y)) λx hx=>by
  rcases au.mp hx with rfl|hx
  .exact vP (by symm) (by show 2<=30;decide) λn hn=>by
    simp only[au,bn,bR]at hn;rcases hn with rfl|rfl
    .exact ii
    .exact ij
  .rcases ay.mp hx with hx|hx
   .exact aJ (ll x hx) (by decide)
   .exact y2 x hx
 have:(Str.ofString "\n").length=1:=by symm
 rw[this];rw[aM,aD]at hb ⊢
 lia
def ZT(a:Ad):Sp:=λvs H Q E=>∃(rows:A8)(lim:Nat),vs=[.str (Str.join "\n" rows),.int lim]/\Rw rows/\lim<=1000 /\
 (∀i,i<rows.length->rdF (rows.take i)≠none->rdF (rows.take (i+1))=none->∀(D:Addr) H',Same H H'->H' D=none->E (.int D a.g) none (upd H' D (.xd [("line",.int (i+1:Nat))]))) /\
 ∀bs rs,rdF rows=some (bs,rs)->(¬zQ bs rs->∀H',Same H H'->E (.ref a.f) none H')/\(zQ bs rs->∀x H',Same H H'->RpT bs rs lim x->Q (.str x) H')
def Vo(T:Txt K mg a)(F:FunD K "report" "report" Xo f fd):FnOk P w K mg base (CXr P w) 12 f fd ["text","limit"] (ZT a):=by
 refine F.okx zeM ?_ ?_
 .walk_at"i"
 walk_at"j";refine oE2 h λrows lim p9=>oA5 p9 λpQ rw0 l1000 kB kW=>?_;clear p9 h;subst pQ;walk_at"T";refine⟨_,(zj (zt 2 zeM.nd ‹(pq 0) ze›)  (qf (zgm ⟨rfl,rfl,rfl⟩ rfl (λpn G=>(zg (zt 3 zeM.nd ‹(pq 2) (za (pq 1) ze)›))) (λpn a=>(zg (zk zy))))  (zj (zt 4 zeM.nd (zv (pq 3) zh))  (zj (zt 5 zeM.nd (zv (pq 3) zh))  (zj (zt 6 zeM.nd (zG zK (zG zK (zB (za (Xy (qm zy (qm (w9 (pq 4)) (qm zy (qm (w9 (pq 5)) ZF))))) ze)) ‹(pq 2) (za (pq 1) ze)›) ‹(pq 2) (za (pq 1) ze)›))  (zg (zk (z7 aW bj bh xf zy (za (pq 6) ze))))))))),?_⟩;exists uc (Q9 T).mono ⟨rows,iA6 rfl rw0.ne (aJ rw0.le (by decide)) rw0.ok kB (λbs rs hrd=>?_)⟩;let⟨lf,lt⟩:=rw0.fed hrd;let⟨bo,ro,_⟩:=zbA hrd;let⟨kE,kQ⟩:=kW bs rs hrd;refine iA4 lf lt (λpU vw H1 s1 rw1=>?_) kE;have kQ:=kQ pU;left;let pY:St->Hp->Prop:=λσ' H'=>∃i j tf,σ'=[some (.str (Str.join "\n" rows)),some (.int lim),some vw,some (.ref tf),none,none,none]/\RoundAt bs rs lim i j/\Same H1 H'/\H' tf=some (.tup [.int i,.int ((j:Int)-i)]);refine cut pY ?_ ?_
 .unfold zfS;left;exact⟨a.h,iA3 T.kH T.mC (λpn=>(uc (Wc T).mono (iE4 vw lim bs rs (iA8 rfl rw1 pU bo ro l1000 (λi j v H2 rnd s2 ⟨t,e,ht⟩=>(iE3 i j t (iA4 (by rw[e]) rnd s2 ht))) (λnr H2 s2=>⟨a.h,iA3 rfl T.iZ (λ_ _=>kQ _ _ (s1.trans s2) (.no nr))⟩)))))⟩
 intro σ' H2 pR;refine oE3 pR λi j tf p9=>oA4 p9 λpQ rd s2 ht=>?_;ext;have kl:(1000:Int)<zF:=by symm
 have hij:=rd.lt;have hj:=rd.le;have ii:In i:=⟨by lia,by lia⟩;have ij:In ((j:Int)-i):=⟨by lia,by lia⟩;have sh:=VW pU bo ro l1000 rd;have kQ:∀y H',StR bs rs i j y->Same H1 H'->Q (.str (Str.join (Str.ofString "\n") (zO (Str.ofString "round") [(i:Int),(j:Int)-i]::(shL rs (qt bs rs i j) ((j:Int)-i) rs.length++y)))) H':=λy H' h s=>kQ _ H' (s1.trans s) (.yes rd h);exists rA ht at0 ?_;exists rA ht (show atI _ 1=some (.int ((j:Int)-i))from rfl) ?_;exists oA4 (VX (nm:=Str.ofString "round ") (x:=qk ((j:Int)-i)) (by symm) ii (aJ (qD ij.1 ij.2) (by decide))) λz1 z2 z3 z4=>?_;refine⟨z1,.inl ⟨i,iA5 rfl (qr ii.1 ii.2) z2 z3 (.inl ⟨(j:Int)-i,iA5 rfl (qr ij.1 ij.2) z4 z4 (λq1 hq1=>?_)⟩)⟩⟩;rw[zjC (y:=Str.ofString "round") (by symm)]at *;have s3:=s2.trans (zf (o:=.lst [V.str (zO (Str.ofString "round") [(i:Int),(j:Int)-i])]) hq1);have g3:upd H2 q1 (.lst [V.str (zO (Str.ofString "round") [(i:Int),(j:Int)-i])]) q1=some (.lst [V.str (zO (Str.ofString "round") [(i:Int),(j:Int)-i])]):=rh;generalize upd H2 q1 _=H3 at s3 g3 ⊢;refine uc (zaR T).mono (iE4 vw lim bs rs (iA8 rfl (rw1.same s3) pU bo ro l1000 (λi' j' v H4 rd' s4 ⟨l4,e4,g4⟩=>?_) (λnr=>absurd nr rd.no)));let⟨rfl,rfl⟩:=rd.one rd';subst e4;have ln:=J9 rs (qt bs rs i j) ((j:Int)-i) rs.length;have ll:=V0 sh (k:=rs.length) pU.1.2.2;have r24:=pU.1.2.2;generalize shL rs (qt bs rs i j) ((j:Int)-i) rs.length=X at g4 kQ ln ll;refine qu (SqL.of (s4 _ _ g3)) (SqL.of g4) (qe (by rw[af,bP];lia)) λq2 hq2=>?_;have s5:=s3.trans (s4.trans (zf (o:=.lst ([V.str (zO (Str.ofString "round") [(i:Int),(j:Int)-i])]++X.map V.str)) hq2));have g5:upd H4 q2 (.lst ([V.str (zO (Str.ofString "round") [(i:Int),(j:Int)-i])]++X.map V.str)) q2=some (.lst ((zO (Str.ofString "round") [(i:Int),(j:Int)-i]::X).map V.str)):=rh;generalize upd H4 q2 _=H5 at s5 g5 ⊢;refine uc (zaQ T).mono (iE4 vw lim bs rs (iA8 rfl (rw1.same s5) pU bo ro l1000 (λi' j' v H6 rd' s6 ⟨l6,y,e6,sy,g6⟩=>?_) (λnr=>absurd nr rd.no)));let⟨rfl,rfl⟩:=rd.one rd';subst e6;let⟨y1,y2⟩:=zdR pU bo ro l1000 rd sy;refine qu (SqL.of (s6 _ _ g5)) (SqL.of g6) (qe (by rw[af,af,aM];lia)) λq3 hq3=>?_;exists⟨jW,iE3 _ q3 (zO (Str.ofString "round") [(i:Int),(j:Int)-i]::(X++y)) (iA5 rfl rfl (by rw[rh,<- aQ];rfl) ?_ (kQ y _ sy (s5.trans (s6.trans (zf hq3)))))⟩;exact zd0 pU bo ro l1000 rd sy ll ln ii ij
def zhf(T:Txt K mg a):Cal P w K mg base "report" 12 ["text","limit"] [] (ZT a):=T.nh.cal (Vo T)
def X8(T:Txt K mg a):Cal P w K mg base "report" 12 ["text","limit"] [.int 200] (ZT a):=T.nh.cald (Vo T)
theorem zaj{ls:A8}{n m:Nat}(h:n<=m)(k:rdF (ls.take m)≠none):rdF (ls.take n)≠none:=λz=>k (by
 have no:∀ys:List Str,ys.foldl j6 none=none:=λys=>by
  induction ys with
  |nil=>rfl
  |cons _ _ ih=>exact ih
 have e:ls.take m=ls.take n++(ls.take m).drop n:=by
  rw[show ls.take n=(ls.take m).take n by rw[List.take_take,fm h],fB]
 rw[e,rdF,foldl_append,show(ls.take n).foldl j6 (some ([],[]))=none from z,no])
inductive Caught(a:Ad)(H:Hp)(e:Addr):Option Nat->Prop
 |row {D:Addr} {d:Nat}:H e=some (QG e (.int D a.g))->H D=some (.xd [("line",.int (d+1:Nat))])->Caught a H e (some d)
 |work:H e=some (QG e (.ref a.f))->Caught a H e none
inductive Due(ls:A8):Option Nat->Prop
 |row {d:Nat}:d<ls.length->rdF (ls.take d)≠none->rdF (ls.take (d+1))=none->Due ls (some d)
 |work {bs:A1} {rs:At}:rdF ls=some (bs,rs)->¬zQ bs rs->Due ls none
def zkj{ls:A8}{d i:Nat}(b1:rdF (ls.take d)≠none)(b2:rdF (ls.take (d+1))=none)(h1:rdF (ls.take i)≠none)(h2:rdF (ls.take (i+1))=none):i=d:=by
 rcases b6 i d with h|h|h
 .exact absurd h2 (zaj h b1)
 .exact h
 .exact absurd b2 (zaj h h1)
def zak{ls:A8}{s:List (Int×Int)×List Row}(h:rdF ls=some s)(il:i<ls.length)(h2:rdF (ls.take (i+1))=none):False:=by
 rw[<- aV (l:=ls)]at h;exact zaj il (by rw[h];exactλz=>nomatch z) h2
def Caught.same{H H':Hp}{e:Addr}{o:Option Nat}(h:Caught a H e o)(s:Same H H'):Caught a H' e o:=by
 cases h with
 |row h1 h2=>exact .row (s _ _ h1) (s _ _ h2)
 |work h1=>exact .work (s _ _ h1)
inductive spReadL(a:Ad)(vs:Ap)(H:Hp)(Q:VK)(E:XK):Prop
 |i (rows:A8):vs=[.str (Str.join "\n" rows)]->Rw rows->(∀bs rs v (t:Addr) H',rdF rows=some (bs,rs)->zQ bs rs->Same H H'->Rep H' (Off []) v (qG a bs rs)->H' t=some (.tup [v,.non])->Q (.ref t) H')->(∀o e (t:Addr) H',Due rows o->Same H H'->Caught a H' e o->H' t=some (.tup [.non,.ref e])->Q (.ref t) H')->spReadL a vs H Q E
def zhh(T:Txt K mg a):Cal P w K mg base "_law_read" 8 ["_law_text_here"] [] (spReadL a):=T.pw.cal λF=>by
 refine F.okx zeQ ?_ ?_
 .walk_at"i"
 walk_at"j";rcases h with⟨rows,rfl,rw0,kW,kC⟩;walk_at"T";refine⟨_,(zl (zt 1 zeQ.nd zA)  (zl (zt 2 zeQ.nd zA)  (qf (Vk (i:=3) ⟨rfl,rfl,rfl⟩ rfl zeQ.nd rfl rfl (λpn G=>(zg (zt 1 zeQ.nd ‹(pq 0) ze›))) (λpn a=>(zg (zt 2 zeQ.nd (pq 3)))))  (zg (zk (qV (za (pq 1) (za (pq 2) ze)))))))),?_⟩;left;let pY:St->Hp->Prop:=λσ' H'=>∃x y,σ'=[some (.str (Str.join "\n" rows)),some x,some y,none]/\Same H H'/\((∃bs rs,rdF rows=some (bs,rs)/\zQ bs rs/\Rep H' (Off []) x (qG a bs rs)/\y=.non)\/∃o e,Due rows o/\Caught a H' e o/\x=.non/\y=.ref e);refine cut pY ?_ ?_
 .exists⟨a.b,iA3 T.ka T.lh (λpn=>(uc (Q9 T).mono ⟨rows,iA6 rfl rw0.ne (aJ rw0.le (by decide)) rw0.ok (λi il h1 h2 D H1 s1 hD=>?_) (λbs rs h=>?_)⟩))⟩
  .exact⟨a.g,iA3 rfl T.iW (λe he=>(iE2 _ _ (iA3 rfl (s1.trans ((zf hD).trans (zf he))) (.inr (iE2 _ e (iA4 (.row il h1 h2) (.row rh (rq rh he)) rfl rfl))))))⟩
  .exact iA4 ((rw0.fed h).1) ((rw0.fed h).2) (λpU v H1 s1 r1=>(iE2 v _ (iA3 rfl s1 (.inl (iE2 bs rs (iA4 h pU r1 rfl)))))) (λz H1 s1=>⟨a.f,iA3 rfl T.iS (λe he=>(iE2 _ _ (iA3 rfl (s1.trans (zf he)) (.inr (iE2 _ e (iA4 (.work h z) (.work rh) rfl rfl))))))⟩)
 intro σ' H1 pR;refine oE2 pR λx y p9=>oA3 p9 λpQ s1 st=>?_;ext;left;intro t ht;have s2:=s1.trans (zf (o:=.tup [x,y]) ht);rcases st with⟨bs,rs,h,pU,r1,rfl⟩|⟨o,e,du,ca,rfl,rfl⟩
 .exact kW bs rs x t _ h pU s2 (r1.same (zf ht)) rh
 .exact kC o e t _ du s2 (ca.same (zf ht)) rh
inductive spRefused(a:Ad)(vs:Ap)(H:Hp)(Q:VK)(E:XK):Prop
 |i (rows:A8) (e:Addr) (o:Option Nat):vs=[.str (Str.join "\n" rows),.ref e]->Rw rows->Due rows o->Caught a H e o->(∀H',Same H H'->Q (.bl true) H')->spRefused a vs H Q E
theorem zcr(T:Txt K mg a):Cal P w K mg base "_law_refused" 13 ["_law_text_here","_law_due_here"] [] (spRefused a):=T.n6.cal λF=>by
 refine F.okx zab ?_ ?_
 .walk_at"i"
 walk_at"j";rcases h with⟨rows,e,o,rfl,rw0,du,ca,k⟩;walk_at"T";refine⟨_,(zj (zt 2 zab.nd zA)  (qf (Vk (i:=3) ⟨rfl,rfl,rfl⟩ rfl zab.nd rfl rfl (λpn G=>(zg (zD ‹(pq 0) ze›))) (λpn a=>(zg (zt 2 zab.nd (pq 3)))))  (zj (zH (qp (zS ji zL (za (pq 1) (za qS ze))) (λ_=>rfl))  (zg (zk (zc4 (zS ji zL (za (pq 2) (za qS ze))) (zc4 (zgs (zS ji zL (za (pq 2) (za qS ze)))) (zc3 (xa (zgz hr.units1) (zd6 (pq 2) rfl) (zd6 (pq 1) rfl) (zu _)))))))  zp)  (zg (zk (zc4 (zS ji zL (za (pq 2) (za qS ze))) (zc3 (zgs (zS ji zL (za (pq 2) (za qS ze))))))))))),?_⟩;exists cut (λσ' H'=>∃e',σ'=[some (.str (Str.join "\n" rows)),some (.ref e),some (.ref e'),none]/\Same H H'/\Caught a H' e' o) ?_ ?_
 .exists⟨a.b,T.ka,T.lh,λpn=>⟨_,_,_,(X8 T).mono,rows,200,rfl,rw0,by decide,λi il h1 h2 D H1 s1 hD=>?_,λbs rs h=>⟨λz H1 s1=>?_,λpU=>?_⟩⟩⟩
  .cases du with
   |row dl b1 b2 =>
    cases zkj b1 b2 h1 h2;exact⟨a.g,rfl,T.iW,λe he=>⟨e,rfl,s1.trans ((zf hD).trans (zf he)),.row rh (rq rh he)⟩⟩
   |work h _=>exact(zak h il h2).elim
  .cases du with
   |row dl b1 b2=>exact(zak h dl b2).elim
   |work _ _=>exact⟨a.f,rfl,T.iS,λe he=>⟨e,rfl,s1.trans (zf he),.work rh⟩⟩
  .cases du with
   |row dl b1 b2=>exact(zak h dl b2).elim
   |work h' z =>
    rw[h]at h';cases h';exact absurd pU z
 rintro σ' H1 ⟨e',rfl,s1,ca'⟩;have ca:=ca.same s1;left;cases ca with
 |row he hD =>
  cases ca' with
  |row he' hD' =>
   refine⟨.ref a.g,_,T.i5,rfl,zaC he hD T.iU rfl T.i8 ?_⟩;exists⟨.ref a.g,_,T.i5,rfl,zaC he' hD' T.iU rfl T.i8 ?_⟩;exists⟨.ref a.f,_,T.i9,rfl,zaC he' hD' T.iU rfl T.k8 ?_⟩;exists⟨e',_,_,_,_,rfl,he',hD',T.iU,T.kA,rfl,e,_,_,_,_,rfl,he,hD,T.iU,T.kA,rfl,?_⟩;left;exact k _ s1
 |work he =>
  cases ca' with
  |work he' =>
   refine⟨.ref a.g,_,T.i5,rfl,zaD he T.ku rfl T.i0 ?_⟩;exists⟨.ref a.f,_,T.i9,rfl,zaD he' T.ku rfl T.kR ?_⟩;exists⟨.ref a.g,_,T.i5,rfl,zaD he' T.ku rfl T.i0 ?_⟩;left;exact k _ s1
def zkR(a:Ad)(R:List (Int×Int)->List Row->Nat->Hp->V->Hp->Prop):Sp:=λvs H Q _=>∃(vw:V)(lim:Nat)(bs:A1)(rs:At),vs=[vw,.int lim]/\Rep H (Off []) vw (qG a bs rs)/\zQ bs rs/\(∀b∈bs,zE b.1 b.2)/\(∀r∈rs,r.ok)/\lim<=1000/\∀v H',Same H H'->R bs rs lim H v H'->Q v H'
def zal(bs:A1)(rs:At)(lim:Nat)(_:Hp)(v:V)(H':Hp):Prop:=(xK bs rs lim/\v=.non)\/∃i j t,RoundAt bs rs lim i j/\v=.ref t/\H' t=some (.tup [.int i,.int ((j:Int)-i)])
def zfy(T:Txt K mg a):Cal P w K mg base "_law_round" 10 ["_law_work","_law_limit"] [] (zkR a zal):=T.oP.cal λF=>by
 refine F.okx zcO ?_ ?_
 .walk_at"i"
 walk_at"j";refine oE4 h λvw lim bs rs p9=>oA7 p9 λpQ hv pU bo ro l1000 k=>?_;clear p9 h;subst pQ;walk_at"T";refine⟨_,(zl (zt 2 zcO.nd zA)  (qf (zgm ⟨rfl,rfl,rfl⟩ rfl (λpn G=>(zg (zt 2 zcO.nd ‹(pq 0) (za (pq 1) ze)›))) (λpn a=>(zg (zt 2 zcO.nd zA))))  (zg (zk (pq 2))))),?_⟩;left;let pY:St->Hp->Prop:=λσ' H'=>∃v,σ'=[some vw,some (.int lim),some v]/\Same H H'/\zal bs rs lim H v H';refine cut pY ?_ ?_
 .unfold zfS;left;exact⟨a.h,iA3 T.kH T.mC (λpn=>(uc (Wc T).mono (iE4 vw lim bs rs (iA8 rfl hv pU bo ro l1000 (λi j v H1 rnd s1 ⟨t,e,ht⟩=>⟨v,iA3 rfl s1 (.inr (iE3 i j t (iA3 rnd e ht)))⟩) (λnr H1 s1=>⟨a.h,iA3 rfl T.iZ (λ_ _=>⟨_,iA3 rfl s1 (.inl ⟨nr,rfl⟩)⟩)⟩)))))⟩
 intro σ' H1 pR;refine oE1 pR λv p9=>oA3 p9 λpQ s1 r=>?_;ext;left;exact k v H1 s1 r
def zdV{nm x:Str}(n1:nm.length<=100)(mi:In m)(n2:x.length<=4000):nm.length+(qk m).length<=sizeLine/\(nm++qk m).length+(Str.ofString " ").length<=sizeLine/\(nm++qk m++Str.ofString " ").length+x.length<=sizeLine:=by
 have h:=VX n1 mi n2;rw[bK,aG nm,aG (nm++_),aG (nm++_++_)]at h;rw[aG nm,aG (nm++_)];rw[aG nm,aG (nm++_)]at h;exact h.2
def zkd(a:Ad):Sp:=λvs H Q _=>∃(vw:V)(lim:Nat)(bs:A1)(rs:At)(i j:Nat),vs=[vw,.int lim]/\Rep H (Off []) vw (qG a bs rs)/\zQ bs rs/\(∀b∈bs,zE b.1 b.2)/\(∀r∈rs,r.ok)/\lim<=1000/\RoundAt bs rs lim i j/\∀(l:Addr) H',Same H H'->H' l=some (.lst ((shL rs (qt bs rs i j) ((j:Int)-i) rs.length).map V.str))->Q (.ref l) H'
def zdH(T:Txt K mg a):Cal P w K mg base "_law_shares" 10 ["_law_work","_law_limit"] [] (zkd a):=T.oF.cal λF=>by
 refine F.okx zbm ?_ ?_
 .walk_at"i"
 walk_at"j";refine oE6 h λvw lim bs rs i j p9=>oA8 p9 λpQ hv pU bo ro l1000 rnd kQ=>?_;clear p9 h;subst pQ;refine oE7 (qI hv) λyw dx fs l1 l2 bvs pW p9=>oA9 p9 λpQ hy e1 e2 h1 h2 hB hK no=>?_;clear p9;subst pQ;have r24:=pU.1.2.2;walk_at"T";refine⟨_,(zj (zt 2 zbm.nd (zB ze))  (zj (zt 3 zbm.nd ‹(pq 0) (za (pq 1) ze)›)  (qf (qU jn rfl (vH (za (zS qa z9 (za (zr (pq 0) rfl) ze)) ze)) (qq 4 zbm.nd)  (qf (zH (qp (zS ji zL (za (zv (zr (pq 0) rfl) (pq 4)) (za qS ze))) (λ_=>rfl))  (zg (zD (z7 ao aw av zN (pq 2) (za (zG zK (zG zK (zG zK zy (jS Wf QK (za (pq 4) ze))) zy) ‹(zv (zv (pq 3) (pq 4)) zh) ze›) ze))))  zp)  (zg (zH (qp (zS ji zL (za (zv (zr (pq 0) rfl) (pq 4)) (za qS ze))) (λ_=>rfl))  (zg (zD (z7 ao aw av zN (pq 2) (za (zG zK (zG zK (zG zK zy (jS Wf QK (za (pq 4) ze))) zy) ‹(zv (zv (pq 3) (pq 4)) zh) ze›) ze))))  zp))))  (zg (zk (pq 2)))))),?_⟩;left;intro R hR;have s1:=zf (o:=.lst []) hR;have g1:upd H R (.lst []) R=some (.lst []):=rh;generalize upd H R (.lst [])=H1 at s1 g1 ⊢;exists uc (Q8 T).mono (iE4 (.ref yw) lim bs rs (iA8 rfl (hv.same s1) pU bo ro l1000 (λi' j' v H2 rnd' s2 r=>?_) (λnr=>absurd nr rnd.no)));let⟨e3,e4⟩:=rnd.one rnd';subst e3 e4;refine oE2 r λsl as p9=>oA3 p9 λpQ nl fa=>?_;clear p9 r;subst pQ;have sh:=VW pU bo ro l1000 rnd;have kQ:=λH'=>kQ R H';clear rnd rnd';generalize qt bs rs i j=G at nl sh kQ;generalize (j:Int)-i=L at nl sh kQ;have s3:=s1.trans s2;have g2:=s2 _ _ g1;have off:∀b∈sl::as,b∉[R]:=λb hb z=>by
  have:=fa b hb;rw[ak.mp z,g1]at this;cases this
 have l2R:l2∉[R]:=λz=>by rw[<- ak.mp z,h2]at hR;cases hR
 have ywR:yw∉[R]:=λz=>by rw[<- ak.mp z,hy]at hR;cases hR
 left;let pY:St->Hp->Prop:=λσ' H'=>∃(v4:Aq),σ'=[some (.ref yw),some (.int lim),some (.ref R),some (.ref sl),v4]/\Same H H'/\H' R=some (.lst ((shL rs G L rs.length).map V.str));refine cut pY ?_ ?_
 .walk_at"d";exists ra (s3 _ _ hy) T.iu T.io e2 ⟨_,.inl ⟨_,SqL.of (s3 _ _ h2),rfl⟩,?_⟩;rw[hK.len];refine⟨by lia,by lia,?_⟩;let pZ:Nat->St->Hp->Prop:=λm σ H'=>∃(v4:Aq),σ=[some (.ref yw),some (.int lim),some (.ref R),some (.ref sl),v4]/\Fr [R] H2 H'/\H' R=some (.lst ((shL rs G L m).map V.str));refine Q5 (n:=(rs.length:Int).toNat) pZ ⟨_,iA3 rfl Fr.refl g2⟩ ?_ ?_
  .intro m σ H4 hm pR;refine oE1 pR λv4 p9=>oA3 p9 λpQ f4 g4=>?_;ext;rw[aP]at hm;simp only[cR];let⟨r,hr'⟩:∃r,rs[m]?=some r:=⟨_,ac hm⟩;let⟨kv,hkv,hKn⟩:=JD hK hr';refine oE6 hKn.inv λy1 dx1 m1 m2 m3 fs1 p9=>oA7 p9 λpQ _ _ _ _ q0 _=>?_;clear p9;subst pQ;refine oE1 (sh.c hr') λg p9=>oA4 p9 λeg ec i1 i2=>?_;clear p9;refine oE3 (ziI sh nl hr') λsb ts us p9=>oA4 p9 λqs hs hu hts=>?_;clear p9;have o1:=f4 _ _ (off sl (by simp)) nl.out;have o2:=f4 _ _ (off sb (aA _ (ai qs))) hs;have o3:=f4 ts _ (λz=>by rw[ak.mp z,g2]at hts;cases hts) hts;have q4:=f4 y1 _ (λz=>by rw[ak.mp z,hR]at q0;cases q0) (s3 _ _ q0);have w4:=f4 _ _ ywR (s3 _ _ hy);have k4:=f4 _ _ l2R (s3 _ _ h2);have kl:(1000:Int)<zF:=by symm
   have mi:In m:=⟨by lia,by lia⟩;have n1:=qD mi.1 mi.2;have n2:=zag i1 i2;have n3:=J9 rs G L m;left;let r9:St->Hp->Prop:=λσ' H'=>σ'=[some (.ref yw),some (.int lim),some (.ref R),some (.ref sl),some (.int m)]/\Fr [R] H4 H'/\H' R=some (.lst ((shL rs G L m++shX .source (Str.ofString "source ") rs G L m).map V.str));refine cut r9 ?_ ?_
   .exists ra w4 T.iu T.io e2 (zw (SqL.of k4) (zJ hkv) ?_);refine iE2 (.ref a.l) _ (iA3 T.ko rfl (iE4 _ _ _ _ (iA4 rfl ((WT T r.wd).ty (CT T r.wd) q4) (.inl ⟨_,rfl,zjG T r.wd⟩) ?_)));by_cases z:r.wd=.source
    .rw[aZ z];left;let⟨z1,z2,z3⟩:=zdV (nm:=Str.ofString "source ") (by symm) mi n2;exact iA6 (.inl ⟨rfl,_,SqL.of g4⟩) mT (qr mi.1 mi.2) z1 z2 (iE3 _ _ _ ⟨(wS T).mono,zw (SqL.of o1) (zJ (by rw[ap,qs];rfl)) (zw (SqL.of o2) (zJ (j:=0) hu) (iE3 ts _ _ (iA6 rfl o3 i1 i2 z3 (iE3 R _ _ (iA7 rfl rfl g4 (zn (by rw[af];lia)) rfl (qW (by simp)) (by rw[rh,Jz hr' z,aQ];rfl))))))⟩)
    .rw[aR z];left;exact⟨rfl,Fr.refl,by rw[VY hr' z,bB];exact g4⟩
   rintro σ' H5 ⟨rfl,f5,g5⟩;have n4:=VZ .source (Str.ofString "source ") rs G L m;have tR:∀{b:Addr},b∉[R]->∀{u:HO},H4 b=some u->H5 b=some u:=λ{b} h {u}=>f5 b u h;exists ra (tR ywR w4) T.iu T.io e2 (zw (SqL.of (tR l2R k4)) (zJ hkv) ?_);refine iE2 (.ref a.m) _ (iA3 T.kh rfl (iE4 _ _ _ _ (iA4 rfl ((WT T r.wd).ty (CT T r.wd) (tR (λz=>by rw[ak.mp z,g4]at q4;cases q4) q4)) (.inl ⟨_,rfl,zh8 T r.wd⟩) ?_)));by_cases z:r.wd=.drain
   .rw[aZ z];left;let⟨z1,z2,z3⟩:=zdV (nm:=Str.ofString "drain ") (by symm) mi n2;exact iA6 (.inl ⟨rfl,_,SqL.of g5⟩) mT (qr mi.1 mi.2) z1 z2 (iE3 _ _ _ ⟨(wS T).mono,zw (SqL.of (tR (off sl (by simp)) o1)) (zJ (by rw[ap,qs];rfl)) (zw (SqL.of (tR (off sb (aA _ (ai qs))) o2)) (zJ (j:=0) hu) (iE3 ts _ _ (iA6 rfl (tR (λz=>by rw[ak.mp z,g4]at o3;cases o3) o3) i1 i2 z3 (iE3 R _ _ (iA5 rfl rfl g5 (zn (by rw[af,aD];lia)) ⟨_,iA3 rfl ((f4.trans f5).trans (qW (by simp))) (by rw[rh,shL,Jz (wd:=.drain) hr' z,aQ (l₂:=[_])];rfl)⟩)))))⟩)
   .rw[aR z];left;exact⟨_,iA3 rfl (f4.trans f5) (by rw[shL,VY (wd:=.drain) hr' z,bB];exact g5)⟩
  .intro σ H3 pR;refine oE1 pR λv4 p9=>oA3 p9 λpQ f3 g3=>?_;ext;rw[aP]at g3;exact⟨_,iA3 rfl ((s3.fr.trans f3).same λm hm=>by rw[ak.mp hm];exact hR) g3⟩
 intro σ' H3 pR;refine oE1 pR λv4 p9=>oA3 p9 λpQ s3 g3=>?_;ext;left;exact kQ H3 s3 g3
def zke(a:Ad):Sp:=λvs H Q _=>∃(vw vf:V)(lim:Nat)(bs:A1)(rs:At)(p:Hp),vs=[vw,.int lim,vf]/\Rep H (Off []) vw (qG a bs rs)/\zQ bs rs/\(∀b∈bs,zE b.1 b.2)/\(∀r∈rs,r.ok)/\lim<=1000/\zal bs rs lim p vf H/\∀(l:Addr) ys H',Same H H'->H' l=some (.lst (ys.map V.str))->(ys.map (·.length)).sum+ys.length*(Str.ofString "\n").length<=16777216->RpT bs rs lim (Str.join (Str.ofString "\n") ys)->Q (.ref l) H'
theorem zim(T:Txt K mg a):Cal P w K mg base "_law_due" 11 ["_law_work","_law_limit","_law_found"] [] (zke a):=T.pK.cal λF=>by
 refine F.okx zgb ?_ ?_
 .walk_at"i"
 walk_at"j";refine oE6 h λvw vf lim bs rs _ p9=>oA8 p9 λpQ hv pU bo ro l1000 rf k=>?_;clear p9 h;subst pQ;walk_at"T";refine⟨_,(zj (zH (zo qH (pq 2) zA (zu _))  (zg (zk (zB (za zy ze))))  zp)  (zj (zt 3 zgb.nd (zG zK (zB (za (zq ⟨rfl,rfl,rfl⟩ hr (za zy (za (zB (za (zv (pq 2) zh) (za (zv (pq 2) zh) ze))) ze))) ze)) ‹(pq 0) (za (pq 1) ze)›))  (zj (zt 4 zgb.nd ‹(pq 0) (za (pq 1) ze)›)  (zj (zH (zo qH (pq 4) zA (zu _))  (zg (zk (zG zK (pq 3) (zB (za zy ze)))))  zp)  (zj (wH ‹(pq 0) (za (pq 1) ze)› (xW (n:=2) rfl (qd (qq 5 zgb.nd) (qd (qq 6 zgb.nd) jO))))  (zj (zt 3 zgb.nd (zG zK (pq 3) (zB (za (zq ⟨rfl,rfl,rfl⟩ hr (za zy (za (zB (za (pq 4) ze)) ze))) (za (zq ⟨rfl,rfl,rfl⟩ hr (za zy (za (pq 5) ze))) ze)))))  (zj (zH (zo qH (pq 6) zA (zu _))  (zg (zk (zG zK (pq 3) (zB (za zy ze)))))  zp)  (zg (zk (zG zK (pq 3) (zB (za (zq ⟨rfl,rfl,rfl⟩ hr (za zy (za (zB (za (pq 6) ze)) ze))) ze)))))))))))),?_⟩;left;rcases rf with⟨nr,rfl⟩|⟨i,j,tf,rd,rfl,ht⟩
 .left;exactλl hl=>k l [Str.ofString "round none"] _ (zf hl) rh (by symm) (.no nr)
 have kl:(1000:Int)<zF:=by symm
 have hij:=rd.lt;have hj:=rd.le;have ii:In i:=⟨by lia,by lia⟩;have ij:In ((j:Int)-i):=⟨by lia,by lia⟩;have sh:=VW pU bo ro l1000 rd;have ln:=J9 rs (qt bs rs i j) ((j:Int)-i) rs.length;have ll:=V0 sh (k:=rs.length) pU.1.2.2;have r24:=pU.1.2.2;have nij:Nb [(i:Int),(j:Int)-i]:=nb1 ii.1 ii.2 (nb1 ij.1 ij.2 nb0);have kQ:∀y (l:Addr) H',StR bs rs i j y->Same H H'->H' l=some (.lst ((zO (Str.ofString "round") [(i:Int),(j:Int)-i]::(shL rs (qt bs rs i j) ((j:Int)-i) rs.length++y)).map V.str))->Q (.ref l) H':=λy l H' sy s h=>k l _ H' s h (zd0 pU bo ro l1000 rd sy ll ln ii ij) (.yes rd sy);clear k;exists uc (jd T).mono (rA ht at0 (rA ht (show atI _ 1=some (.int ((j:Int)-i))from rfl) λq0 hq0=>?_));have s0:=zf (o:=.lst [.int i,.int ((j:Int)-i)]) hq0;refine iE3 _ q0 ([(i:Int),(j:Int)-i]) (iA6 rfl (SqL.of rh) (by symm) (by show 2<=30;decide) nij (λH1 s1 q1 hq1=>?_));have s2:=(s0.trans s1).trans (zf (o:=.lst [.str (zO "round" [(i:Int),(j:Int)-i])]) hq1);have g2:upd H1 q1 (.lst [.str (zO "round" [(i:Int),(j:Int)-i])]) q1=some (.lst [.str (zO (Str.ofString "round") [(i:Int),(j:Int)-i])]):=rh;generalize upd H1 q1 _=H2 at s2 g2 ⊢;clear s0 s1;refine uc (zdH T).mono (iE6 vw lim bs rs i j (iA8 rfl (hv.same s2) pU bo ro l1000 rd (λl3 H3 s3 g3=>?_)));generalize shL rs (qt bs rs i j) ((j:Int)-i) rs.length=X at g3 kQ ln ll;refine qu (SqL.of (s3 _ _ g2)) (SqL.of g3) (qe (by rw[af,bP];lia)) λq4 hq4=>?_;have s4:=s2.trans (s3.trans (zf (o:=.lst ([V.str (zO (Str.ofString "round") [(i:Int),(j:Int)-i])]++X.map V.str)) hq4));have g4:upd H3 q4 (.lst ([V.str (zO (Str.ofString "round") [(i:Int),(j:Int)-i])]++X.map V.str)) q4=some (.lst ((zO (Str.ofString "round") [(i:Int),(j:Int)-i]::X).map V.str)):=rh;generalize upd H3 q4 _=H4 at s4 g4 ⊢;clear s2 s3 g2 g3;exists uc (Qh T).mono (iE4 vw lim bs rs (iA8 rfl (hv.same s4) pU bo ro l1000 (λi' j' v H5 rd' s5 r5=>?_) (λnr=>absurd nr rd.no)));let⟨rfl,rfl⟩:=rd.one rd';have g5:=s5 _ _ g4;have s5:=s4.trans s5;have lX:((zO (Str.ofString "round") [(i:Int),(j:Int)-i]::X).map V.str).length<=60:=by rw[af,aM];lia
 rcases r5.symm with⟨st,rfl⟩|⟨st,rfl⟩
 .left;exactλq6 hq6=>qu (SqL.of (rq g5 hq6)) (SqL.of rh) (qe (by simp only[bP];lia)) λq7 hq7=>kQ _ q7 _ (.mv st) (s5.trans ((zf hq6).trans (zf hq7))) (by rw[rh];simp)
 exists uc (Zs T).mono (iE4 vw lim bs rs (iA9 rfl (hv.same s5) pU bo ro l1000 (λi' j' v H6 rd' _ s6 wv=>?_) (λi' j' rd' ns=>?_) (λnr=>absurd nr rd.no)))
 rotate_left
 .obtain⟨rfl,rfl⟩:=rd.one rd';exact absurd st ns
 let⟨e1,e2⟩:=rd.one rd';subst e1 e2;refine oE5 wv λt l o rg m p9=>oA6 p9 λpQ ht hl lad en ring=>?_;clear p9 wv;subst pQ;have wy:Wy rs (zm bs rs i).cells (jL (itr rs (zm bs rs i).cells o) m) rg:=⟨o,m,lad,en,ring,rfl⟩;clear lad en ring rd';let⟨w1,w2,w3⟩:=zfJ pU bo ro rd st wy;generalize jL (itr rs (zm bs rs i).cells o) m=ns at hl wy w1 w2;have kQ:=λl H' s h=>kQ _ l H' (.st st wy) s h;have g6:=s6 _ _ g5;have s6:=s5.trans s6;clear g5 g4 s4 s5;exists un2 ht ?_;exists uc (jd T).mono (λq7 hq7=>?_);have s7:=zf (o:=.lst [.int i]) hq7;refine iE3 _ q7 ([(i:Int)]) (iA6 rfl (SqL.of rh) (by symm) (by show 1<=30;decide) (nb1 ii.1 ii.2 nb0) (λH8 s8=>?_));replace s8:=s7.trans s8;refine uc (jd T).mono (iE3 _ l ns (iA6 rfl (SqL.of (s8 _ _ hl)) (by symm) (by lia) w2 (λH9 s9 q9 hq9=>?_)));replace s9:=(s8.trans s9).trans (zf (o:=.lst [.str (zO "still" [(i:Int)]),.str (zO "waits" ns)]) hq9);have g9:upd H9 q9 (.lst [.str (zO "still" [(i:Int)]),.str (zO "waits" ns)]) q9=some (.lst [.str (zO "still" [(i:Int)]),.str (zO "waits" ns)]):=rh;generalize upd H9 q9 _=H10 at s9 g9 ⊢;clear s7 s8;refine qu (SqL.of (s9 _ _ g6)) (SqL.of g9) (qe (by simp only[aM,bX]at lX ⊢;lia)) λq11 hq11=>?_;have s11:=s6.trans (s9.trans (zf (o:=.lst ((zO (Str.ofString "round") [(i:Int),(j:Int)-i]::X).map V.str++[.str (zO "still" [(i:Int)]),.str (zO "waits" ns)])) hq11));have g11:upd H10 q11 (.lst ((zO (Str.ofString "round") [(i:Int),(j:Int)-i]::X).map V.str++[.str (zO "still" [(i:Int)]),.str (zO "waits" ns)])) q11=some (.lst ((zO (Str.ofString "round") [(i:Int),(j:Int)-i]::(X++[zO "still" [(i:Int)],zO "waits" ns])).map V.str)):=by rw[rh];simp
 generalize upd H10 q11 _=H11 at s11 g11 ⊢;left;have l11:((zO (Str.ofString "round") [(i:Int),(j:Int)-i]::(X++[zO "still" [(i:Int)],zO "waits" ns])).map V.str).length<=60:=by simp;lia
 cases rg with
 |none =>
  exact zR (λ_ q12 h12=>qu (SqL.of (rq g11 h12)) (SqL.of rh) (qe (by simp only[bP];lia)) λq13 h13=>kQ q13 _ (s11.trans ((zf h12).trans (zf h13))) (by
   rw[rh,show Str.ofString "ring none"=Str.ofString "ring "++zbw none by symm];simp)) (λz=>absurd rfl z)
 |some x =>
  have ix:=w3 x rfl;refine zR (λz=>nomatch z) (λ_=>?_);exists uc (jd T).mono (λq12 h12=>(iE3 _ q12 ([x]) (iA6 rfl (SqL.of rh) (by symm) (by show 1<=30;decide) (nb1 ix.1 ix.2 nb0) (λH13 s13 q14 h14=>?_))));replace s13:=(zf (o:=.lst [oiV (some x)]) h12).trans s13;exact qu (SqL.of (rq (s13 _ _ g11) h14)) (SqL.of rh) (qe (by simp only[bP];lia)) λq15 h15=>kQ q15 _ (s11.trans (s13.trans ((zf h14).trans (zf h15)))) (by
   rw[rh,show Str.ofString "ring "=Str.ofString "ring"++Str.ofString " " by symm];simp
   rfl)
def zfh(h0:0<=n)(h1:n<zF):(qk n).length<=30:=fe h0 (by decide) (by unfold zF at h1;lia)
abbrev zcu(x:Str):Prop:=10∉x.cps.toList/\x.length<=9000
def zaA(h:10∉nm.cps.toList)(h1:nm.length<=100)(h2:ns.length<=20)(hb:Nb ns):zcu (zO nm ns):=by
 refine⟨zfd h hb,?_⟩;have h3:=eE (Str.ofString " ") (nm::ns.map qk);have h4:=xB (m:=100) (xs:=nm::ns.map qk) λx hx=>by
  rcases au.mp hx with rfl|hx
  .exact h1
  .obtain⟨n,hn,rfl⟩:=aK.mp hx;exact aJ (zfh (hb n hn).1 (hb n hn).2) (by decide)
 have h5:(Str.ofString " ").length=1:=by symm
 rw[h5]at h3;rw[aM,af]at h3 h4;show(Str.join (Str.ofString " ") (nm::ns.map qk)).length<=9000
 lia
structure Rw0(rows:A8):Prop where
 two:2<=rows.length
 le:rows.length<=30
 ok:∀x∈rows,zcu x
 kn:rows.countP zaE<=14
def Rw0.rw(h:Rw0 rows):Rw rows:=⟨λz=>by have:=h.two;rw[z]at this;exact absurd this (by decide),h.le,λx hx=>⟨(h.ok x hx).1,aJ (h.ok x hx).2 (by decide)⟩,aJ h.kn (by decide)⟩
def Rw0.few(h1:2<=rows.length)(h2:rows.length<=14)(h:∀x∈rows,zcu x):Rw0 rows:=⟨h1,aJ h2 (by decide),h,aJ gC h2⟩
def VJ{b:Int×Int}(h:zE b.1 b.2):zcu (qZ b):=zaA belt_free.2 (by symm) (by show 2<=20;decide) (Zf h)
def zit{b:Int×Int}(h:zE b.1 b.2):zaE (qZ b)=false:=by
 have nb:=Zf h;have e:∀{n:Int},0<=n/\n<zF->xy (qk n)=some n.toNat:=λ{n} h=>zih h.1 h.2;refine zk2 (rm:=b.1) (pc:=b.2) ?_;unfold Zn qZ;rw[zdi belt_free.1 nb];simp only[bN,map_nil,Q1,e (nb b.1 (by simp)),e (nb b.2 (by simp)),cA];rw[cE (nb b.1 (by simp)).1,cE (nb b.2 (by simp)).1];exact aq ⟨rfl,rfl⟩
def Rw0.text{rs:At}(pU:zQ bs rs)(bo:∀b∈bs,zE b.1 b.2)(ro:∀r∈rs,r.ok)(r14:rs.length<=14)(b8:bs.length<=8):Rw0 (xA bs rs):=by
 have tl:=zdP pU bo ro;have b:=pU.1;have len:(xA bs rs).length=bs.length+rs.length:=by unfold xA;rw[aD,af,af]
 refine⟨by lia,by lia,λx hx=>?_,?_⟩
 .rcases ay.mp hx with hx|hx
  .obtain⟨b,hb,rfl⟩:=aK.mp hx;exact VJ (bo b hb)
  .obtain⟨r,hr,rfl⟩:=aK.mp hx;exact zaA (zfL _).2 (VN _) (zbP (ro r hr)) (tl.nb r hr)
 .unfold xA;rw[List.countP_append,List.countP_eq_zero.mpr λx hx=>by
   let⟨b,hb,rfl⟩:=aK.mp hx;rw[zit (bo b hb)];exact aC]
  have:=gC (p:=zaE) (l:=rs.map zge);rw[af]at this
  lia
def Z5(h:∀x∈rows,x.length<=m)(hm:m<=20000)(l:rows.length<=30):(rows.map (·.length)).sum+rows.length*(Str.ofString "\n").length<=16777216:=by
 have h2:=xB (m:=20000) λx hx=>aJ (h x hx) hm;rw[show(Str.ofString "\n").length=1 from by symm]
 lia
def zf3(K:A0):Sp:=λvs H Q _=>∃(l:Addr)(ns:A6),vs=[.ref l]/\SqL K H l (iv ns)/\∀rows H',Same H H'->Rw0 rows->Q (.str (Str.join (Str.ofString "\n") rows)) H'
def zdI(T:Txt K mg a):Cal P w K mg base "_law_closed" 3 ["_law_cells"] [] (zf3 K):=T.oG.cal λF=>by
 refine F.okx zbn ?_ ?_
 .walk_at"i"
 walk_at"j";refine oE2 h λl ns p9=>oA3 p9 λpQ hl k=>?_;clear p9 h;subst pQ;walk_at"T";refine⟨_,(zl (QY (i:=1) zbn.nd rfl (Or.inl rfl) (vars:=["_law_k"]) (caps:=[0]) (N:=["_law_k","_law_cells"]) (ON:=["_law_cells","_law_belts"]) (osc:=zi ZD) rfl rfl (by right) rfl rfl (vH (za zh ze)) (λ_ _ _ _=>(qq 0 (show(["_law_k","_law_cells"]:A8).Nodup from by symm))) (λ_ _ _ _=>qg) (λ_ _ _ _=>(wK hr (za (wK hr (za (pq 1) (za (pq 0) ze))) ze))))  (zg (zk (z7 aW bj bh xf zy (za (zG zK (pq 1) (zB (za zy (za zy ze)))) ze))))),?_⟩;left;walk_at"c";left;intro _ _ _ _ pV hacc;refine Q5 (n:=3) (λq σ H'=>∃(v0:Aq)(bs:A1),σ=[v0,some (.ref l)]/\Same H H'/\H' pV=some (.lst (bTx bs))/\bs.length=q/\∀b∈bs,zE b.1 b.2) (iE2 _ ([]) (iA5 rfl (zf hacc) rh rfl (λb hb=>nomatch hb))) ?_ ?_
 .intro q σ H1 hq pR;refine oE2 pR λv0 bs p9=>oA5 p9 λpQ s1 ha lb bo=>?_;ext;simp only[cR];exists uc (xw T).mono (uc (jh T).mono (spCell.i l ns q rfl (x8 s1 hl) ⟨_,rfl,λH2 b s2 ob=>?_⟩));refine⟨_,iA3 (s2 _ _ ha) (zn (by rw[jH];lia)) (iE2 _ (bs++[b]) (iA5 rfl (λc o hc=>by rw[rj (rn hc hacc)];exact s2 _ _ (s1 c o hc)) (by rw[rh,bTx,bTx,aQ];rfl) (by simp[lb]) (λc hc=>?_)))⟩;rcases ay.mp hc with hc|hc
  .exact bo c hc
  .rw[ak.mp hc];exact ob
 intro σ H1 pR;refine oE2 pR λv0 bs p9=>oA5 p9 λpQ s1 ha lb bo=>?_;ext;left;have fi:∀x∈bs.map qZ++[Str.ofString "parter 0 1 2",Str.ofString "joiner 0 1 2"],zcu x:=λx hx=>by
  rcases ay.mp hx with hx|hx
  .obtain⟨b,hb,rfl⟩:=aK.mp hx;exact VJ (bo b hb)
  .simp only[au,bn,bR]at hx;rcases hx with rfl|rfl
   .exact⟨by symm,by symm⟩
   .exact⟨by symm,by symm⟩
 have len:(bs.map qZ++[Str.ofString "parter 0 1 2",Str.ofString "joiner 0 1 2"]).length=5:=by rw[aD,af,lb];rfl
 exact⟨jW,λp hp=>qu (SqL.of (rq ha hp)) (SqL.of rh) (qe (by rw[jH,lb];decide)) λq2 hq2=>(iE3 _ q2 _ (iA5 rfl rfl (by rw[rh,aQ,eR];rfl) (Z5 (λx hx=>(fi x hx).2) (by decide) (by lia)) (k _ _ (s1.trans ((zf hp).trans (zf hq2))) (.few (by lia) (by lia) fi))))⟩
def zhz(K:A0):Sp:=λvs H Q _=>∃(l:Addr)(ns:A6)(pk:Int),vs=[.ref l,.int pk]/\SqL K H l (iv ns)/\0<=pk/\pk<2/\∀rows H',Same H H'->Rw0 rows->Q (.str (Str.join (Str.ofString "\n") rows)) H'
def zfz(T:Txt K mg a):Cal P w K mg base "_law_lanes" 2 ["_law_cells","_law_pick"] [] (zhz K):=T.oQ.cal λF=>by
 refine F.okx zcP ?_ ?_
 .walk_at"i"
 walk_at"j";refine oE3 h λl ns pk p9=>oA5 p9 λpQ hl p0 p1 k=>?_;clear p9 h;subst pQ;walk_at"T";refine⟨_,(zj (zc0 (i:=2) zcP.nd rfl (Or.inr rfl) (Xx ‹(pq 0) (za zh ze)›))  (zj (zt 3 zcP.nd (zB (za zy (za zy ze))))  (qf (qU jn rfl (vH (za zh ze)) (qq 4 zcP.nd)  (zj (QY (i:=5) zcP.nd rfl (Or.inl rfl) (vars:=["_law_j"]) (caps:=[2]) (N:=["_law_j","_law_first"]) (ON:=["_law_cells","_law_pick","_law_first","_law_rows","_law_k","_law_kinds"]) (osc:=zi Qx) rfl rfl (by right) rfl rfl (vH (za (zv (zv (zB (za (qV (za zh (za zh ze))) (za (qV (za zh (za zh ze))) ze))) (pq 1)) (pq 4)) ze)) (λ_ _ _ _=>(qq 0 (show(["_law_j","_law_first"]:A8).Nodup from by symm))) (λ_ _ _ _=>qg) (λ_ _ _ _=>(zG zK (pq 1) (pq 0))))  (zg (zD (z7 ao aw av zN (pq 3) (za (zq ⟨rfl,rfl,rfl⟩ hr (za zy (za (zG zK (zB (za (pq 4) (za (zG zK zh (pq 4)) ze))) (pq 5)) ze))) ze))))))  (zg (zk (z7 aW bj bh xf zy (za (zG zK (pq 3) (zB (za zy (za zy ze)))) ze))))))),?_⟩;exists uc (jh T).mono (spCell.i l ns 0 rfl hl ?_);left;have x0:=bY (xv ns 0) (show(100000000000000000000000000000:Int)≠0 by decide);have x1:=bM (xv ns 0) (show(0:Int)<100000000000000000000000000000 by decide);generalize xv ns 0%100000000000000000000000000000=x at x0 x1 ⊢;intro R hR;have s1:=zf (o:=.lst [V.str (Str.ofString "belt 1 1"),V.str (Str.ofString "belt 1 1")]) hR;have g1:upd H R (.lst [V.str (Str.ofString "belt 1 1"),V.str (Str.ofString "belt 1 1")]) R=some (.lst ([Str.ofString "belt 1 1",Str.ofString "belt 1 1"].map V.str)):=rh;generalize upd H R _=H1 at s1 g1 ⊢;left;let pY:St->Hp->Prop:=λσ' H'=>∃(v4 v5:Aq)(xs:A8),σ'=[some (.ref l),some (.int pk),some (.int x),some (.ref R),v4,v5]/\Same H H'/\H' R=some (.lst (xs.map V.str))/\xs.length=4/\∀x∈xs,zcu x;refine cut pY ?_ ?_
 .walk_at"d";exists Q5 (n:=2) (λq σ H'=>∃(v4 v5:Aq)(xs:A8),σ=[some (.ref l),some (.int pk),some (.int x),some (.ref R),v4,v5]/\Fr [R] H1 H'/\H' R=some (.lst (xs.map V.str))/\xs.length=2+q/\∀x∈xs,zcu x) ⟨_,_,_,rfl,Fr.refl,g1,rfl,λx hx=>by
   simp only[au,bn,bR,or_self]at hx;rw[hx];exact⟨by symm,by symm⟩⟩ ?_ ?_
  .intro q σ H2 hq pR;refine oE3 pR λv4 v5 xs p9=>oA5 p9 λpQ f2 g2 lx fx=>?_;ext;simp only[cR];left;walk_at"c";left;intro t1 h1 t2 h2 t3 h3;have s3:=((zf (o:=.tup [.int 5,.int 4]) h1).trans (zf (o:=.tup [.int 3,.int 5]) h2)).trans (zf (o:=.lst [.ref t1,.ref t2]) h3);have r1:=rq (o:=.lst [.ref t1,.ref t2]) (rq (o:=.tup [.int 3,.int 5]) (rh (H:=H2) (a:=t1) (o:=.tup [.int 5,.int 4])) h2) h3;have r2:=rq (o:=.lst [.ref t1,.ref t2]) (rh (H:=upd H2 t1 (.tup [.int 5,.int 4])) (a:=t2) (o:=.tup [.int 3,.int 5])) h3;have r3:upd (upd (upd H2 t1 (.tup [.int 5,.int 4])) t2 (.tup [.int 3,.int 5])) t3 (.lst [.ref t1,.ref t2]) t3=some (.lst [.ref t1,.ref t2]):=rh;generalize upd (upd (upd H2 t1 (.tup [.int 5,.int 4])) t2 (.tup [.int 3,.int 5])) t3 (.lst [.ref t1,.ref t2])=H3 at s3 r1 r2 r3 ⊢;let⟨tt,ws,j,e1,e2,e3,j5⟩:∃tt ws,∃j:Nat,atI [V.ref t1,V.ref t2] pk=some (.ref tt)/\H3 tt=some (.tup ws)/\atI ws q=some (.int j)/\j<=5:=by
    rcases(by lia:pk=0\/pk=1)with rfl|rfl<;>rcases(by lia:q=0\/q=1)with rfl|rfl
    .exact iE3 t1 _ 5 (iA4 rfl r1 rfl (by decide))
    .exact iE3 t1 _ 4 (iA4 rfl r1 rfl (by decide))
    .exact iE3 t2 _ 3 (iA4 rfl r2 rfl (by decide))
    .exact iE3 t2 _ 5 (iA4 rfl r2 rfl (by decide))
   refine zw (SqL.of r3) e1 (rA e2 e3 ⟨by lia,by lia,λ_ _ _ _ pV hacc=>?_⟩);let pZ:Nat->St->Hp->Prop:=λm σ H'=>∃(v0:Aq)(ks:A6),σ=[v0,some (.int x)]/\Same H3 H'/\H' pV=some (.lst (iv ks))/\ks.length=m/\Nb ks;refine Q5 (n:=(j:Int).toNat) pZ (iE2 _ ([]) (iA5 rfl (zf hacc) rh rfl nb0)) ?_ ?_
   .intro m σ H4 hm pR;refine oE2 pR λv0 ks p9=>oA5 p9 λpQ s4 ha lk nk=>?_;ext;simp only[cR];left;exact⟨_,ha,zn (by rw[zP];lia),_,ks++[x+m],rfl,(λc o hc=>by rw[rj (rn hc hacc)];exact s4 c o hc),by rw[rh,jr],by simp[lk],λn hn=>by
     rcases ay.mp hn with hn|hn
     .exact nk n hn
     .rw[ak.mp hn];unfold zF
      lia⟩
   intro σ H4 pR;refine oE2 pR λv0 ks p9=>oA5 p9 λpQ s4 ha lk nk=>?_;ext;exists⟨.inl ⟨rfl,_,SqL.of (s4 _ _ (s3 _ _ g2))⟩,iE3 _ _ _ ⟨(jd T).mono,λp5 h5=>qu (SqL.of rh) (SqL.of (rq ha h5)) (qe (by rw[zP];simp only[aM,bX];lia)) λp6 h6=>?_⟩⟩;have nq:Nb ((q:Int)::(3+q)::ks):=nbs (by lia) (by lia) (nbs (by lia) (by lia) nk);refine iE3 _ p6 ((q:Int)::(3+q)::ks) (iA6 rfl (SqL.of rh) (by symm) (by simp only[aM];lia) nq (λH7 s7=>?_));have s8:=(s3.trans s4).trans (((zf (o:=.lst [.int q,.int (3+q)]) h5).trans (zf (o:=.lst ([.int q,.int (3+q)]++iv ks)) h6)).trans s7);refine iE3 R _ _ (iA5 rfl rfl (s8 _ _ g2) (zn (by rw[af];lia)) (iE3 _ _ (xs++[zO (Str.ofString "source") ((q:Int)::(3+q)::ks)]) (iA5 rfl (f2.trans (s8.fr.trans (qW (by simp)))) (by rw[rh,aQ];rfl) (by simp[lx];lia) (λy hy=>?_))));rcases ay.mp hy with hy|hy
   .exact fx y hy
   .rw[ak.mp hy];exact zaA (by symm) (by symm) (by simp only[aM];lia) nq
  .intro σ H2 pR;refine oE3 pR λv4 v5 xs p9=>oA5 p9 λpQ f2 g2 lx fx=>?_;ext;exact iE3 _ _ xs (iA5 rfl ((s1.fr.trans f2).same λm hm=>by rw[ak.mp hm];exact hR) g2 lx fx)
 intro σ' H2 pR;refine oE3 pR λv4 v5 xs p9=>oA5 p9 λpQ s2 g2 lx fx=>?_;ext;left;have fi:∀x∈xs++[Str.ofString "drain 0 1",Str.ofString "drain 1 1"],zcu x:=λx hx=>by
  rcases ay.mp hx with hx|hx
  .exact fx x hx
  .simp only[au,bn,bR]at hx;rcases hx with rfl|rfl
   .exact⟨by symm,by symm⟩
   .exact⟨by symm,by symm⟩
 have len:(xs++[Str.ofString "drain 0 1",Str.ofString "drain 1 1"]).length=6:=by rw[aD,lx];rfl
 exact⟨jW,λp hp=>qu (SqL.of (rq g2 hp)) (SqL.of rh) (qe (by rw[af,lx];decide)) λq2 hq2=>(iE3 _ q2 _ (iA5 rfl rfl (by rw[rh,aQ];rfl) (Z5 (λx hx=>(fi x hx).2) (by decide) (by lia)) (k _ _ (s2.trans ((zf hp).trans (zf hq2))) (.few (by lia) (by lia) fi))))⟩
inductive spBuilt(K:A0)(vs:Ap)(H:Hp)(Q:VK)(E:XK):Prop
 |i (l:Addr) (ns:A6):vs=[.ref l]->SqL K H l (iv ns)->(∀rows (lim:Nat) (t:Addr) H',Same H H'->Rw0 rows->lim<=1000->H' t=some (.tup [.str (Str.join (Str.ofString "\n") rows),.int lim])->Q (.ref t) H')->spBuilt K vs H Q E
def zfB(T:Txt K mg a):Cal P w K mg base "_law_built" 5 ["_law_cells"] [] (spBuilt K):=T.oR.cal λF=>by
 refine F.okx zcR ?_ ?_
 .walk_at"i"
 walk_at"j";rcases h with⟨l,ns,rfl,hl,k⟩;have k:∀rows (n:Int) (t:Addr) H',Same H H'->Rw0 rows->0<=n->n<=1000->H' t=some (.tup [.str (Str.join (Str.ofString "\n") rows),.int n])->Q (.ref t) H':=λrows n t H' s r n0 n1 h=>by
  let⟨m,rfl⟩:∃m:Nat,n=m:=⟨n.toNat,by lia⟩;exact k rows m t H' s r (by lia) h
 walk_at"T";refine⟨_,(zj (zt 1 zcR.nd ‹‹(pq 0) (za zh ze)› (za zh (za zh ze))›)  (zj (zt 2 zcR.nd (wJ ‹(pq 0) (za zh ze)›))  (zj (zH (zo (qT hr.units1) (pq 2) zh (zu _))  (zg (zk (qV (za ‹(pq 0) (za (wJ (pq 1)) ze)› (za (zv (zB (za zh (za (zG zK zh (wJ (vI (pq 1)))) ze))) (wJ (vI (pq 1)))) ze)))))  zp)  (zj (zt 3 zcR.nd (zG zK zh ‹‹(pq 0) (za zh ze)› (za zh (za zh ze))›))  (zj (zH (zo (qT hr.units1) (pq 2) zh (zu _))  (zg (zk (qV (za ‹(pq 0) ze› (za (pq 3) ze)))))  zp)  (zg (zk (qV (za ‹(pq 0) (za zh ze)› (za (pq 3) ze)))))))))),?_⟩;exists uc (qF T).mono (uc (jh T).mono (spCell.i l ns 1 rfl hl (iE3 _ 10111 9108 (iA4 rfl (by decide) (by decide) (λnu n0 n1=>?_)))));exists uc (jh T).mono (spCell.i l ns 1 rfl hl ?_);exists zR (λ_=>?_) (λ_=>?_)
 .exists uc (zfz T).mono (iE3 l ns (nu%2) (iA5 rfl hl (by lia) (by lia) (λrows H1 s1 rw0 p hp=>?_)));let⟨x,hx,ex⟩:=JB (ns:=[200,242+nu/4%759]) (r:=nu/2%2) (by lia) (by simp only[aM,bX];lia);simp only[au,bn,bR]at hx;exact zw (SqL.of rh) ex λt ht=>k rows x t _ (s1.trans ((zf hp).trans (zf ht))) rw0 (by lia) (by lia) rh
 exists uc (qF T).mono (uc (jh T).mono (spCell.i l ns 1 rfl hl (iE3 _ 10103 20 (iA4 rfl (by decide) (by decide) (λr r0 r1=>?_)))));exists zR (λ_=>?_) (λ_=>?_)
 .left;exact uc (zdI T).mono (iE2 l ns (iA3 rfl hl (λrows H1 s1 rw0 t ht=>k rows (12+r) t _ (s1.trans (zf ht)) rw0 (by lia) (by lia) rh)))
 .left;exact uc (zhg T).mono (iE2 l ns (iA3 rfl hl (λH1 bs rs s1 pU bo ro r14 b8 t ht=>k (xA bs rs) (12+r) t _ (s1.trans (zf ht)) (.text pU bo ro r14 b8) (by lia) (by lia) rh)))
def cat_mem{x y:Str}{c:Nat}:c∈(x++y).cps.toList↔c∈x.cps.toList\/c∈y.cps.toList:=by
 show c∈(x.cps++y.cps).toList↔_
 simp
def Rw0.less(h:Rw0 rows){d:Nat}(dl:d<rows.length):Rw (rows.take d++rows.drop (d+1)):=by
 have e:=List.eraseIdx_eq_take_drop_succ rows d;have l:=List.length_eraseIdx_of_lt dl;have sub:=List.eraseIdx_sublist rows d;have h1:=h.two;have h2:=h.le;rw[<- e];exact⟨λz=>by rw[z,bX]at l;lia,by lia,λx hx=>h.rw.ok x (sub.subset hx),aJ sub.countP_le h.rw.kn⟩
def Rw0.put(h:Rw0 rows){d:Nat}{x y:Str}(hx:rows[d]?=some x)(y1:10∉y.cps.toList)(y2:y.length<=10):Rw (rows.set d (x++y)):=by
 let⟨dl,ex⟩:=aa.mp hx;have h1:=h.two;have hk:=h.kn;refine⟨λz=>?_,by rw[ci];exact h.le,λz hz=>?_,?_⟩
 .have:=bp List.length z;rw[ci,bX]at this
  lia
 .rcases fH hz with hz|rfl
  .exact h.rw.ok z hz
  .have:=h.ok x (ai hx);refine⟨λz=>?_,by rw[aG];lia⟩;rcases cat_mem.mp z with z|z
   .exact this.1 z
   .exact y1 z
 .rw[List.countP_set dl]
  split<;>split<;>lia
def zfW:Sp:=λvs H Q _=>∃(rows:A8)(n:Int),vs=[.str (Str.join (Str.ofString "\n") rows),.int n]/\Rw0 rows/\∀rows' H',Same H H'->Rw rows'->Q (.str (Str.join (Str.ofString "\n") rows')) H'
def zdG(T:Txt K mg a):Cal P w K mg base "_law_spoilt" 1 ["_law_text_here","_law_number"] [] zfW:=T.oE.cal λF=>by
 refine F.okx zbl ?_ ?_
 .walk_at"i"
 walk_at"j";refine oE2 h λrows n p9=>oA3 p9 λpQ rw0 k=>?_;clear p9 h;subst pQ;walk_at"T";refine⟨_,(zj (zt 2 zbl.nd (z7 aW dP dO XR (pq 0) (za zy ze)))  (zj (zt 3 zbl.nd (zG ju (vI (pq 1)) (zS qa z9 (za (pq 2) ze))))  (zj (zH (zo (qT hr.units1) (wJ (pq 1)) zh (zu _))  (zg (zk (z7 aW bj bh xf zy (za (zG zK (qY jX (pq 2) jD (jk (pq 3))) (qY jX (pq 2) (jk (zG zK (pq 3) zh)) jD)) ze))))  zp)  (zj (wH (zv (zB (za (zG zK (zv (pq 2) (pq 3)) zy) (za (zG zK (zv (pq 2) (pq 3)) zy) ze))) (wJ (pq 1))) (Qz (pq 2) (pq 3) xn))  (zg (zk (z7 aW bj bh xf zy (za (pq 2) ze)))))))),?_⟩;left;have ok:=rw0.rw.ok;refine⟨jW,iE2 _ _ (iA5 rfl rfl (by symm) (zbt (aJ rw0.le (by decide)) ok) (λq hq=>?_))⟩;rw[Xt rw0.rw.ne ok];left;have s1:=zf (o:=.lst (rows.map V.str)) hq;have g1:upd H q (.lst (rows.map V.str)) q=some (.lst (rows.map V.str)):=rh;generalize upd H q _=H1 at s1 g1 ⊢;have two:=rw0.two;have le:=rw0.le;refine⟨_,iA3 (.inl ⟨_,SqL.of g1,rfl⟩) (by rw[af];lia) ?_⟩;rw[af];let⟨d,ed,dl⟩:∃d:Nat,n/3%(rows.length:Int)=d/\d<rows.length:=by
  have h0:=bY (n/3) (show(rows.length:Int)≠0 by lia);have h1:=bM (n/3) (show(0:Int)<rows.length by lia);exact⟨(n/3%(rows.length:Int)).toNat,by lia,by lia⟩
 rw[ed];let⟨x,hx⟩:∃x,rows[d]?=some x:=⟨_,ac dl⟩;have xl:=(ok x (ai hx)).2;have hxV:(rows.map V.str)[d]?=some (.str x):=by rw[ap,hx];rfl
 exists zR (λ_=>?_) (λ_=>?_)
 .refine⟨jW,jZ (SqL.of g1) λq1 h1=>?_⟩;rw[zcf];refine jZ (SqL.of (rq g1 h1)) λq2 h2=>?_;rw[show(d:Int)+1=((d+1:Nat):Int)from rfl,xu _ _ (by rw[af];lia)];have rw1:=rw0.less dl;refine qu (SqL.of (rq rh h2)) (SqL.of rh) (qe (by rw[aS,cU,af];lia)) λq3 h3=>(iE3 _ q3 (rows.take d++rows.drop (d+1)) (iA5 rfl rfl (by rw[rh,aQ,List.map_take,List.map_drop]) (Z5 (λx hx=>(rw1.ok x hx).2) (by decide) rw1.le) (k _ _ (s1.trans ((zf h1).trans ((zf h2).trans (zf h3)))) rw1)))
 .have e1:(Str.ofString " 01").length=3:=by symm
  have e2:(Str.ofString " ").length=1:=by symm
  exists zw (SqL.of g1) (zJ hxV) ⟨big (by lia),zw (SqL.of g1) (zJ hxV) ⟨big (by lia),λp hp=>?_⟩⟩;let⟨y,ey,y1,y2⟩:∃y:Str,atI [V.str (x++Str.ofString " 01"),V.str (x++Str.ofString " ")] (n%2)=some (.str (x++y))/\10∉y.cps.toList/\y.length<=10:=by
   rcases(by lia:n%2=0\/n%2=1)with z|z
   .rw[z];exact⟨_,rfl,by symm,by lia⟩
   .rw[z];exact⟨_,rfl,by symm,by lia⟩
  have rw1:=rw0.put hx y1 y2;have np:q≠p:=rn g1 hp;refine zw (SqL.of rh) ey (wG (j:=d) (rq g1 hp) (by rw[QD (by lia) (by rw[af];lia)];rfl) ?_);exists⟨jW,iE3 _ q (rows.set d (x++y)) (iA5 rfl rfl (by rw[rh,ft]) (Z5 (λx hx=>(rw1.ok x hx).2) (by decide) rw1.le) (k _ _ (λb o hb=>?_) rw1))⟩;rw[rj (rn hb hq)];exact rq (s1 _ _ hb) hp
inductive spAsked(vs:Ap)(H:Hp)(Q:VK)(E:XK):Prop
 |i (rows:A8) (lim:Nat) (bs:A1) (rs:At):vs=[.str (Str.join (Str.ofString "\n") rows),.int lim]->Rw rows->lim<=1000->rdF rows=some (bs,rs)->zQ bs rs->(∀x H',Same H H'->RpT bs rs lim x->Q (.str x) H')->spAsked vs H Q E
def zah{lim:Nat}{rs:At}{Q:VK}{E:XK}(rw0:Rw rows)(l1:lim<=1000)(h:rdF rows=some (bs,rs))(pU:zQ bs rs)(k:∀x H',Same H H'->RpT bs rs lim x->Q (.str x) H'):ZT a [.str (Str.join (Str.ofString "\n") rows),.int lim] H Q E:=by
 refine⟨rows,lim,rfl,rw0,l1,λi il _ h2=>(zak h il h2).elim,λbs' rs' h'=>?_⟩;rw[h]at h';cases h';exact⟨λz=>absurd pU z,λ_=>k⟩
def zfC(T:Txt K mg a):Cal P w K mg base "_law_asked" 13 ["_law_text_here","_law_limit"] [] spAsked:=T.oS.cal λF=>by
 refine F.okx zcS ?_ ?_
 .walk_at"i"
 walk_at"j";rcases h with⟨rows,lim,bs,rs,rfl,rw0,l1,h,pU,k⟩;walk_at"T";refine⟨_,(zl (zH (zo (qT hr.units1) (pq 1) zh (zu _))  (zg (zk ‹(pq 0) ze›))  zp)  (zg (zk ‹(pq 0) (za (pq 1) ze)›))),?_⟩;exists zR (λz=>?_) (λ_=>?_)
 .have e:lim=200:=by lia
  subst e;left;exact iE3 _ _ _ ⟨(X8 T).mono,zah rw0 l1 h pU k⟩
 .left;exact uc (zhf T).mono (zah rw0 l1 h pU k)
def za9(K:A0):Sp:=λvs H Q _=>∃(l:Addr)(ns:A6),vs=[.ref l]/\SqL K H l (ns.map V.int)/\ns.length<=63/\∀H',Q (.bl true) H'
def zjv(T:Txt K mg a)(F:Fun K "law" "law" QW f fd):FnOk P w K mg base (CXr P w) 14 f fd ["_law_script"] (za9 K):=by
 refine F.okx zjc ?_ ?_
 .walk_at"i"
 walk_at"j";refine oE2 h λl ns p9=>oA4 p9 λpQ hl hn k=>?_;clear p9 h;subst pQ;walk_at"T";refine⟨_,(zj (QY (i:=1) zjc.nd rfl (Or.inl rfl) (vars:=["_law_cell_here"]) (caps:=[]) (N:=["_law_cell_here"]) (ON:=["_law_script","_law_cells","_law_text_here","_law_limit","_law_work","_law_caught","_law_found","_law_told"]) (osc:=zi QW) rfl rfl (by right) rfl rfl (qj (pq 0)) (λ_ _ _ _=>(qq 0 (show(["_law_cell_here"]:A8).Nodup from by symm))) (λ_ _ _ _=>qg) (λ_ _ _ _=>(Xx (pq 0))))  (zj (wH ‹(pq 1) ze› (xW (n:=2) rfl (qd (qq 2 zjc.nd) (qd (qq 3 zjc.nd) jO))))  (qf (zH (zo (qT hr.units1) (wJ ‹(pq 1) (za zh ze)›) zh (zu _))  (zg (zt 2 zjc.nd ‹(pq 2) (za (vI ‹(pq 1) (za zh ze)›) ze)›))  zp)  (zj (wH ‹(pq 2) ze› (xW (n:=2) rfl (qd (qq 4 zjc.nd) (qd (qq 5 zjc.nd) jO))))  (zj (zH (zo qH (pq 4) zA (zu _))  (zg (zk ‹(pq 2) (za (pq 5) ze)›))  zp)  (zj (zt 6 zjc.nd ‹(pq 4) (za (pq 3) ze)›)  (zj (zt 7 zjc.nd ‹(pq 2) (za (pq 3) ze)›)  (zj (zH (PW.pt (pw_or (jA (qp (zS ji zL (za (pq 7) (za (zku QK) ze))) (λ_=>rfl))) (pw_or1 (zo (zbJ hr.units1) (pq 7) (z7 aW bj bh xf zy (za ‹(pq 4) (za (pq 3) (za (pq 6) ze))› ze)) (zu _)))))  (zg (zk ziN))  zp)  (zg (zk (zgr (xa op_isN (pq 6) zA (zu _)) (zgr (xa ziR (pq 3) zh (zu _)) (zgr (xa ziR (wJ ‹(pq 1) (za zh ze)›) zh (zu _)) (zc3 (xa (zgz hr.units1) ‹(pq 2) ze› (pq 7) (zu _)))))))))))))))),?_⟩;left;walk_at"c";exists⟨l,rfl,.inl ⟨⟨_,hl⟩,λ_ _ _ _ pV hacc=>?_⟩⟩;refine qL (K:=K) (a:=l) (xs:=iv ns) (λq σ H'=>∃(v0:Aq)(cs:A6),σ=[v0]/\Same H H'/\H' pV=some (.lst (iv cs))/\cs.length=q) (iE2 _ ([]) (iA4 rfl (zf hacc) rh rfl)) (λq σ H' _ h=>by let⟨_,_,_,s,_⟩:=h;exact x8 s hl) ?_ ?_
 .intro q x σ H1 hq pR;refine oE2 pR λv0 cs p9=>oA4 p9 λpQ s1 ha lc=>?_;ext;let⟨c,hc,rfl⟩:=vR hq;have hql:=(aa.mp hc).1;left;exact⟨_,iA3 ha (zn (by rw[zP];lia)) (iE2 _ (cs++[_]) (iA4 rfl (λb o hb=>by rw[rj (rn hb hacc)];exact s1 b o hb) (by rw[rh,jr]) (by simp[lc])))⟩
 intro σ H1 pR;refine oE2 pR λv0 cs p9=>oA4 p9 λpQ s1 ha _=>?_;ext;exists uc (zfB T).mono (spBuilt.i pV cs rfl (SqL.of ha) (λrows lim t H2 s2 rw0 l1000 ht=>?_));have ha2:=s2 _ _ ha;clear s1 s2 ha hl hacc;exists un2 ht ?_;left;let pY:St->Hp->Prop:=λσ' H'=>∃rows,σ'=[some (.ref l),some (.ref pV),some (.str (Str.join (Str.ofString "\n") rows)),some (.int lim),none,none,none,none]/\Rw rows/\H' pV=some (.lst (iv cs));refine cut pY ?_ ?_
 .exists uc (jh T).mono (spCell.i pV cs 4 rfl (SqL.of ha2) ?_);exists zR (λ_=>?_) (λ_=>⟨rows,iA3 rfl rw0.rw ha2⟩);left;exact uc (zdG T).mono (uc (jh T).mono (spCell.i pV cs 4 rfl (SqL.of ha2) (iE2 rows _ (iA3 rfl rw0 (λrows' H3 s3 rw'=>⟨rows',iA3 rfl rw' (s3 _ _ ha2)⟩)))))
 clear ht ha2 rw0;intro σ' H3 pR;refine oE1 pR λrows p9=>oA3 p9 λpQ rw0 ha=>?_;ext;exists uc (zhh T).mono (spReadL.i rows rfl rw0 (λbs rs v t H4 h pU s4 r4 ht=>?_) (λo e t H4 du s4 ca ht=>?_))
 rotate_left
 .refine un2 ht ?_;left;left;exact uc (zcr T).mono (spRefused.i rows e o rfl rw0 du ca (λH5 _=>k H5))
 let⟨bo,ro,_⟩:=zbA h;refine oE7 (qI r4) λyw dx fs l1 l2 bvs pW p9=>oA2 p9 λpQ _=>?_;clear p9;subst pQ;refine un2 ht ?_;have ha4:=s4 _ _ ha;clear s4 ha ht;left;exists uc (zfy T).mono (iE4 (.ref yw) lim bs rs (iA7 rfl r4 pU bo ro l1000 (λvf H5 s5 rf=>?_)));exists uc (zfC T).mono (spAsked.i rows lim bs rs rfl rw0 l1000 h pU (λx H6 s6 rx=>?_));have rf6:zal bs rs lim H4 vf H6:=by
  rcases rf with⟨nr,rfl⟩|⟨i,j,t,rd,rfl,ht⟩
  .exact .inl ⟨nr,rfl⟩
  .exact .inr (iE3 i j t (iA3 rd rfl (s6 _ _ ht)))
 have r6:=r4.same (s5.trans s6);have ha6:=s6 _ _ (s5 _ _ ha4);clear rf s5 s6 r4 ha4;exists⟨jW,iE3 _ _ _ ⟨(zim T).mono,⟨.ref yw,vf,lim,bs,rs,H4,rfl,r6,pU,bo,ro,l1000,rf6,λl7 ys H7 s7 hl7 sz rp=>(iE3 _ l7 ys (iA5 rfl rfl hl7 sz ?_))⟩⟩⟩;rw[<- rx.one rp (ar _) (.inl rfl)];refine zR (λz=>absurd rfl z) (λ_=>?_);refine zR (λ_=>k _) (λn1=>zR (λ_=>k _) (λn2=>?_));refine uc (jh T).mono (spCell.i pV cs 3 rfl (SqL.of (s7 _ _ ha6)) (zR (λ_=>k _) (λ_=>?_)));refine iE3 _ _ _ ⟨(X8 T).mono,zah (lim:=200) rw0 (by decide) h pU λy H8 s8 ry=>?_⟩;have e:=rx.one ry (by lia) (.inr λnr=>?_)
 .show Q (.bl (decide (y=x))) H8
  rw[e,aZ rfl];exact k _
 .rcases rf6 with⟨_,rfl⟩|⟨i,j,t,rd,_⟩
  .exact n1 rfl
  .exact rd.no nr
theorem top_ok(T:Txt K mg a)(F:Fun K "law" "law" QW f fd):FnOk P w K mg base (CXr P w) 14 f fd ["_law_script"] (za9 K):=zjv T F
end
def ziw:Nat->(List Value->Prop)->Prop
 |0,P=>P []
 |n+1,P=>∀x,ziw n λl=>P (x::l)
def allV_of{n:Nat}:∀{P:List Value->Prop},ziw n P->∀us:List Value,us.length=n->P us:=by
 induction n with
 |zero =>
  intro P h us e;cases us with
  |nil=>exact h
  |cons=>cases e
 |succ n ih =>
  intro P h us e;cases us with
  |nil=>cases e
  |cons x r=>exact ih (h x) r (Nat.succ.inj e)
def fd_z{K:A0}{mg:A4}{h:Heap}{x:Str}{st:Stmt}{ps:A8}{d:Int}{t:Tok}{f dT:Addr}{oc toc:Am}{od an tod:Aa}{osl tsl:Ae}{tn:Nat}{kV doc pm cdv ct:Am}(X:K.In h)(G:h.Ns mainGlobals mg)(a:nsIn K mainGlobals x=some (some (.ref f)))(l:K.lookup f=some ⟨oc,od,.func (fnOf x x (qo st) (qc st) (zi st) (.ref dT) kV doc pm an cdv ct),osl⟩)(c:codeIn K cdv x=true)(k:keepIn K (.ref f)=true)(lt:K.lookup dT=some ⟨toc,tod,.seq #[.int d t] tn,tsl⟩)(hb:∀(s:An),K.In s.heap->K.lookup dT=some ⟨toc,tod,.seq #[.int d t] tn,tsl⟩->ziw ps.length λz=>BindsTo s (fnOf x x (qo st) (qc st) (zi st) (.ref dT) kV doc pm an cdv ct) ⟨z,[]⟩ (ps.zip z))(hd:∀(s:An),K.In s.heap->K.lookup dT=some ⟨toc,tod,.seq #[.int d t] tn,tsl⟩->ziw (ps.length-1) λz=>BindsTo s (fnOf x x (qo st) (qc st) (zi st) (.ref dT) kV doc pm an cdv ct) ⟨z,[]⟩ (ps.zip (z++[.int d t]))):FD K mg x st ps [.int d] :=
 zkF X G a l c k lt (.cons ⟨_,rfl⟩ .nil) (λs us hK hl=>allV_of (hb s hK lt) us hl) λs us hK hl=>allV_of (hd s hK lt) us (by simp at hl;lia)
def all_ok{l:PySem.W.OpenLaw}{w:World}{K:A0}{h:Heap}{mg:A4}{fa fL ya yc yd ye yf yg yh yi yj yl yn yo yp yq yr yt yu yv:Addr}{od an:Aa}{sl:Ae}{oc kV dc pm cd ct:Am}(X:K.In h)(G:h.Ns mainGlobals mg)(hfa:mg "law"=some (.ref fa))(aL:nsIn K mainGlobals "law"=some (some (.ref fL)))(lL:K.lookup fL=some ⟨oc,od,.func (fnOf "law" "law" (qo QW) (qc QW) (zi QW) .none kV dc pm an cd ct),sl⟩)(cL:codeIn K cd "law"=true)(kL:keepIn K (.ref fL)=true)(T:Txt K mg ⟨ya,yc,yd,ye,yf,yg,yh,yi,yj,yl,yn,yo,yp,yq,yr,yt,yu,yv⟩)
  : ∃fd:FuncData,(∀(s:An)(v:Am),BindsTo s fd ⟨[v],[]⟩ [("_law_script",v)])/\∀base:Heap,K.In base->base.Ns mainGlobals mg->FnOk l.prog w K mg base (CXr l.prog w) 14 fa fd ["_law_script"] (za9 K):=by
 have e:=hfa.symm.trans (mg_of X G aL);cases e;exact⟨_,λs v=>.of_eq rfl,λbase _ _=>top_ok T (xt (st:=QW) lL cL kL)⟩
def walk{l:PySem.W.OpenLaw}{q:Af}{loose:A8}{XP:(Str->Option Value)->Heap->Prop}{YP:World->Heap->Prop}{d:DefRec}{K:Params->PySem.W.Frag}(hn:l.most=some 63)(hdf:d.params.defaults=[])(hY:∀(w:World)(h:Heap),YP w h->(K w.params).In h)(F:∀(w:World)(mg:A4)(fa:Addr)(h:Heap),(K w.params).In h->h.Ns mainGlobals mg->mg d.name=some (.ref fa) ->
   ∃fd:FuncData,(∀(s:An)(u:Am),BindsTo s fd ⟨[u],[]⟩ [("_law_script",u)])/\∀base:Heap,(K w.params).In base->base.Ns mainGlobals mg->FnOk l.prog w (K w.params) mg base (CXr l.prog w) 14 fa fd ["_law_script"] (za9 (K w.params))) :
  PySem.W.WalkO q loose XP YP l.row.toRowW d [] (λf vs=>PySem.call f vs) :=
 L2.walk_of (n:=63) (k:=14) (x:="_law_script") (CX:=λw=>CXr l.prog w) (sp:=λw=>za9 (K w.params)) hn (by decide) hdf ⟨rfl,by decide,by decide⟩ hY F (λ_ _ a ns hl _ hS=>⟨a,ns,rfl,hS,hl,λ_=>rfl⟩) λ_ _ _ _ _ z=>zfo z
end K45
set_option Elab.async false
structure PySem.W.Fast:Prop where(tw13068836852722864100 tw10894226438292523143 tw17968321610711324781 tw1728138285432375924 tw15141516092214216243 tw10494239109116339304 tw6261782291620162962 tw2261652102400698988 tw2178036747569457851 tw9400448465250750393 tw3084350674368720960 tw10633600888494858588 tw3738552539421721333 tw116269083445395113 tw3069527450033827099 tw17169201596037490923 tw11684769314859016330 tw7354130498408065754 tw2284240686779332765 tw9213175691660138481 tw3867360552323557966 tw12435620214685962219 tw3500532298450981165 tw4600623970232374152 tw2043427821073721638 tw11603473721383618394 tw729802683611613705 tw8178894221193956743 tw13627675024675795110 tw3920450436265482213 tw12472053062433270673 tw15104343797352119367 tw15454438655971468962 tw18242350418764187729 tw2141008792468940788 tw7812791391199848964 tw9214404774008173680 tw2050121596762109467 tw17168258155791267359 tw14927731247630234733 tw16811639461228280324 tw9314897816253944063 tw11377580168455623080 tw13771264405096314016 tw8145816189935122140 tw7771686129914311921 tw18294960005761398061 tw1717884175426152449 tw1721230048935082038 tw12051818533874345867 tw9990496346118036780 tw14058349379304665893 tw17149419514142149872 tw4723674264254768686 tw6192416842856283498 tw9282828100768191657 tw2663538896706792863 tw7817987224017634515 tw7739502449757562531 tw13228728715862600594 tw796593527648280049 tw13305418499686454744 tw12516401882579559827 tw64817579303774062 tw17260376872879102405 tw8178408011122808421 tw18138071431136220689 tw3883862214137326557 tw11220358176480572261 tw7855419971295985343 tw7270785501248449624 tw8437412892489876555 tw17660681632492529584 tw3041207253164134483 tw7217775924759846175 tw3460119998069434483 tw16521184600139158025 tw7132428647018893509 tw14506742584648582130 tw3401442887551065622 tw16453443009512069257 tw10543790601487947398 tw8588205419386688633 tw8377043509163864053 tw522380195677029231 tw8848617782738006065 tw1324372344141703337 tw5195456465329850170 tw2200066701920678058 tw1529822125647931591 tw9927263241979782657 tw7015357533787548941 tw3324993769769627543 tw16077287641382223147 tw822244015350885463 tw14683217022119677869 tw5399761070514933730 tw1664904003638929561 tw13007290403359234063 tw365565396386303911 tw12469404719537612452 tw17118529524801161086 tw13613100789671132937 tw7065531191029512940 tw6138240737932612238 tw4277957477760401833 tw9949535161990095611 tw7622700162187351446 tw8296875121553089993 tw1002808858072533158 tw16146870178564824720 tw13464772526110497154 tw17357399981981368174 tw16732470249774465883 tw3052185341196262000 tw12954582515615160433 tw3068486224613360996 tw1439809623142562473 tw5661152006082525032 tw5104826350006159508 tw2242203824905179774 tw3969596688541733613 tw1627165210871477825 tw15430991674174092245 tw3168013079960821539 tw1393819839116267387 tw886370793545092689 tw9536977405465733471 tw8532321287777389137 tw8191053500439989014 tw9489482054411600029 tw5585914874574205307 tw5135111862168811613 tw10311188678646029833 tw10922117706088260171 tw7942879057651570816 tw15421947874186044119 tw16311221124954378034 tw8623478330508372452 tw3397554804052627442 tw4485486313053310982 tw981689081446134537 tw2977011059322691647 tw11691983272392212704 tw10388413947230631213 tw1465385545449976060 tw8848308095412814891 tw13068770589639188994 tw5832554698402598759 tw9921244267006253216 tw3594344851819728034 tw579183748055753118 tw8726835792628749494 tw8806599695657933212 tw11489252576485719053 tw3108727210679033293 tw2624987526175207824 tw17081285757246382356 tw13229969128628462485 tw15996429973123601157 tw12765297904106568504 tw116375986986615280 tw9790968608508624204 tw5284519227016225347 tw17716577623638575292 tw516130104300362461 tw15851558604269323514 tw4549155747632166913 tw10051788807854036238 tw5469056801666589998 tw11749442427532363558 tw8438565264488232170 tw18199431329067492860 tw8594117019763778639 tw8312936236227337697 tw2488967854711720807 tw17147816181640085493 tw10255795727761930572 tw14486108771371570180 tw15787596908644355599 tw9109387491139268436 tw9528192082369470660 tw8113097934372170062 tw12439726273302864766 tw14220511425025437425 tw12397016561347824569 tw5977959139062316881 tw8406653040143821798 tw14241683899661141215 tw8726313011885654588 tw8722002741848558678 tw11084197502938805206 tw13466195720028400292 tw6533951480298196469 tw2649178855788765537 tw5126462289338534464 tw5603567437037257338 tw6019211236717284136 tw13665670165455158856 tw9319173887183191497 tw9383910513279083347 tw1646451190192379181 tw8801388748251547286 tw2048579779966016102 tw5370591464113383891 tw13285177469092697074 tw10249624630485857872 tw8310496584381175220 tw8627265541540725588 tw4825734936722269577 tw3355904786126773094 tw4914153433439092905 tw13230192976653251335 tw2204855522293001037 tw12049484696243336670 tw7404099269419379859 tw6924127070251479390 tw7788036688179093210 tw6783519908540980664 tw2852858560869609193 tw1631433183511565804 tw11124709500444813948 tw15673885237904899824 tw11077812598389491009 tw13568241437885163284 tw15687417882506217929 tw9740503078671707115 tw7773375048716486707 tw10606050797947904397 tw9414141182692375855 tw17713360654104984889 tw3206144027880862976 tw17355928038827616713 tw5201682681819945048 tw17628983891645359025 tw6086340836551245432 tw4770443494214838830 tw3001118867051895895 tw9043908946192713918 tw11873084029676917140 tw335589596184316028 tw7270204279496026927 tw7549350035150244282 tw5047128510461158390 tw5714680713333309791 tw10619841518212031674 tw12606020341863352983 tw17034764493864296193 tw18121666549772883019 tw6635062388316815054 tw7674486753482556868 tw13450738927553730124 tw8659883537518920302 tw2406703579107136278 tw7073694659080916583 tw6276081299012232634 tw2617333780540998017 tw16240578683056672031 tw6815282986406057236 tw12145696110265854165 tw1759605697786855692 tw13649071743043944471 tw12370974720319362569 tw2432058857389354672 tw9342128155131364982 tw8909107181657472438 tw17946115999978742867 tw6331525934496129065 tw5298261866302000991 tw1698432155886750709 tw7686630123873583273 tw6066194213893377961 tw10570152305387119287 tw4103225468567774818 tw12447501230285345597 tw15134427099073132509 tw8268891729254214519 tw10674037411524886743 tw14358380292696968071 tw10384259772678146329 tw9219404649761682054 tw5602969805883276262 tw15883563290859551680 tw9807953762886936096 tw5852614028753655374 tw14651319605608690391 tw14977810374904290079 tw7963118162588447864 tw14784806510827193363 tw1234457537133512474 tw5240920941859964460 tw13518147438680102761 tw313862387558050821 tw17306548393233034481 tw14413240956399919067 tw18346112081648582433 tw17577283655316860811 tw10308107683703631584 tw956216073497756275 tw14129760743408646212 tw2925080291146463624 tw2566349312946625881 tw12456556436888553122 tw17345885157128275937 tw2608328900710520605 tw6006267685586809590 tw5472619327380038837 tw2164097259014188380 tw14693687815957833075 tw14244711373602895679 tw16463404731059601650 tw10347525943715260224 tw16532123825809367162 tw13180966369331986790 tw8086821149948666389 tw10720724164340869892 tw6183631937565564874 tw15729422215029205577 tw13402815372312669399 tw13021154925601276231 tw15255022019423002944 tw12082505176587351828 tw14362876038395264027 tw8655772878719629750 tw14863542475337773186 tw2351859813816131647 tw346318751188119796 tw16559689546429160641 tw6146875842952175572 tw17368180646058322328 tw4105901092515921565 tw4116725408558348756 tw2315354872550375404 tw5062792784936381840 tw4005835407753515228 tw7570080586454096245 tw14086477795036056056 tw12308930433746915288 tw8171687481372042580 tw9094363124891737645 tw371039857049957005 tw14665871946211677146 tw2050465859574243347 tw15757571996374160897 tw9865836251025738615 tw867177776732566955 tw4779706760956229481 tw7515877554974866032 tw16442950746083567958 tw7011889669916797055 tw13876825795182888873 tw9539808917544895878 tw7295195360540063796 tw13446886447124672636 tw13077378546487864773 tw11544625104353105836 tw1836967604185257972 tw463335925661907228 tw12018625554739791479 tw7193458917979996868 tw9118946118694025538 tw10446210895506772514 tw2436649505157094411 tw12892445225239276044 tw17736272772526027369 tw8475595045008653371 tw13669476289492353531 tw4185191696992680916 tw889913108834211538 tw4071427432937348755 tw12204020458604928252 tw9162171511925722842 tw17620483086562472339 tw15859449230360609004 tw17056663702666443766 tw6929865495036729954 tw11333607688594601300 tw12839731744328997956 tw7136104524697935979 tw4426665689759999526 tw696466953448522435 tw2397144106241236136 tw4547293043296305314 tw10985250983703476442 tw16722175485286095355 tw886379772757633784 tw12192261730449023601 tw884895608573586201 tw1078178323241639233 tw5033127221389139470 tw15236378865824877794 tw17761975380638520008 tw14534617260807829253 tw9641331382836844774 tw8643707897723865014 tw8388770330289480560 tw8065174176511925117 tw8956113510480852418 tw14537488132999861593 tw3850652086781316898 tw2006401006885707519 tw9513535560822255863 tw9651673720201096464 tw5478073441717973204 tw14628390311888942103 tw4276027835646160821 tw16473533337783169035 tw17480709734131679880 tw8679854584690459557 tw11457991307168179522 tw17322145407201420125 tw16164410482233270987 tw12128028429949486302 tw5835387677590250121 tw2433999970472533621 tw9548310618628539785 tw647556023090247696 tw12890579762096589397 tw7323144721073450825 tw3085689640645941856 tw6571259666212462803 tw14340433741622746972 tw4767098800484848847 tw4572854141592056691 tw17832211479390412006 tw7797436215276695815 tw18394180155872769437 tw11883521870349973568 tw2971692088924507503 tw6191529437585968947 tw15827669222517687544 tw6232399537545901194 tw9054071782274460809 tw12965367501120972167 tw16639699495852843321 tw17710041939131306642 tw4530417413435985022 tw9941615231283126483 tw14357128037911006368 tw14211157350433545088 tw10280007343660215597 tw12440567759205309147 tw13319982535272612930 tw4573660189901365803 tw8878985735486006507 tw2971664576283594709 tw9529349291424954461 tw16487173970565968863 tw15410796060971957064 tw10233520696495369200 tw9740597487175142464 tw1051871450584451087 tw8783779883788148858 tw1679422388409702466 tw18245996108114196836 tw11694867407382818880 tw7367687285812415227 tw18357412773950486614 tw6202367504730654116 tw8897188565335789870 tw6018800066510940703 tw4784203100441017465 tw5734198481046267842 tw1047379987987810537 tw3615373133138445637 tw13003762086632846925 tw3236816781592142541 tw9272577678118311732 tw3924134491489244929 tw17145355668392815179 tw1832645329897605987 tw12659080462926543172 tw11931016880474502456 tw9182796313868121821 tw14534890811024881743 tw15244252092142173551 tw9587740733236570776 tw15558256435484396849 tw6474913941769204148 tw10196769779730288774 tw6881158042765254923 tw8558812738129112180 tw14198514984106347438 tw9424845162647190281 tw15821392345936873383 tw11744166306723528295 tw16531791591957026599 tw766382284706281704 tw11535926412639431705 tw1623415740688371666 tw13400844459588232159 tw12495231961059514810 tw13494223540045434976 tw11131289913617074622 tw238138308087049391 tw8203441648872380092 tw11745665616514450772 tw11803757666982619384:True)
open PySem PySem.W PyProof.Rows
set_option maxRecDepth 100000 in
set_option maxHeartbeats 0 in
theorem PySem.Challenge.cw_beltshares_k45_reported_holds : PySem.Challenge.rw_beltshares_k45_reported.Holds := by
 w_on;o_law;k_head;(case hw=>w_witness2)
 k_fill
 refine K45.walk (l:=PySem.Challenge.rw_beltshares_k45_reported) rfl rfl (λ w h Y=>PySem.W.kIn_of Y) ?F
 case F =>
  intro w mg fa h KX G hmg;refine' K45.all_ok KX G hmg ?a ?l ?c ?k (K45.Txt.mk ..)
  all_goals try dsimp only
  all_goals try first|k_is|((first|refine' L2.fa_mk KX G .. | refine' L2.fm_mk .. | refine' L2.fk_mk .. | refine' L2.fb_mk (mg_of KX G ?_) .. | refine' L2.fi_mk .. | refine' L2.xs_mk .. | refine' K45.fd_z KX G ..);all_goals try first|k_is|exact ⟨_,rfl⟩|kernel_rfl|rfl|exact λ _ _ _ _ _ _=>K45.allV_of (by (repeat intro _);rfl)|exact λ _ hK lt=>by repeat first|exact PySem.W.binds_K hK rfl lt rfl rfl rfl|intro _)|((first|refine' PySem.W.mg_none_of KX G ?_|refine' mg_of KX G ?_|show findIn _ _ _=_|refine' L2.kitCls_of .. | (apply Exists.intro;refine' mg_of KX G ?_));all_goals try k_is)|(show kitOne _ _ _=_;kit_is)|((first|refine ⟨?_,?_,?_,?_,?_,?_,?_,?_⟩|refine ⟨?_,?_,?_,?_⟩|refine ⟨?_,?_,?_⟩|refine ⟨?_⟩);all_goals first|k_is|k_exc)
  all_goals exact fa
