import PyProof.Rows.All
import Wide.All
import OpenK.AllK
import Wide.FinOn
import Lean
import PyProof.EqAt
import PyProof.EqKinds
import PyProof.TupleCall
import PyProof.NeKinds
import PyProof.SumWalkG
import PyProof.Rows.CallKwBuiltin
import PyProof.Rows.FStr
import PyProof.ListRange
import PyProof.ZipIter
import PyProof.CompFree
import KE.KIntText
import PyProof.StrWalks
import PyProof.Rows.StrMul
import PyProof.ConsumeWalk
import Wide.Txt
import PySem.Challenge.RW_beltshares_k46_whole_nothing_lost_for_ev
open PySem.W (instObj methodObj lookIn plainGet hasDictIn findIn handedIn plainGet_of isFn takerIn any_some makesIn emptyDict looks_findIn keepIn specialIn takesIn mroIn fnOf codeIn callWith_K methodCall_KW kitOne kitCls subIn nsIn mg_of readsIn findCls)
set_option Elab.async false
set_option linter.all false
set_option maxRecDepth 100000
set_option compiler.extract_closed false
set_option bootstrap.genMatcherCode false
set_option hygiene false
local macro_rules | `(tactic| walk_at "p")=>`(tactic| first|exact Or.inl rfl|exact Or.inr rfl|assumption)
local macro_rules | `(tactic| walk_at "q")=>`(tactic| first|exact L2.nobehind _ (by decide) (by decide)|rfl)
set_option hygiene true
open List (of_mem_zip find?_some nodup_nil all_cons)
def aa:=@List.getElem?_eq_some_iff
def ac:=@List.getElem?_eq_getElem
def ae:=@List.getD_eq_getElem?_getD
def af:=@PySem.wpAny_bind
def ah:=@List.mem_of_getElem?
def ai:=@List.length_map
def aj:=@PySem.Heap.get?_push_of_some
def ak:=@if_neg
def am:=@List.getElem?_map
def ao:=@if_pos
def ap:=@PySem.wpAny_pure
def aq:=@Option.map_eq_some_iff
def ar:=@PySem.F.plainAttrs_list
def au:=@Nat.le_refl
def av:=@List.mem_cons
def aw:=@List.size_toArray
def ax:=@Int.toNat_natCast
def ay:=@List.mem_cons_of_mem
def az:=@PySem.F.type_list_append
def aA:=@PySem.F.slot_list_append
def aB:=@PySem.Heap.lt_size
def aC:=@PySem.Heap.get?_push_size
def aD:=@List.mem_singleton
def aE:=@Bool.false_ne_true
def aF:=@Option.some.inj
def aG:=@List.mem_append
def aH:=@List.length_append
def aI:=@List.take_add_one
def aJ:=@List.mem_map
def aK:=@Array.length_toList
def aM:=@Nat.lt_of_lt_of_le
def aN:=@List.take_length
def aO:=@Option.getD_some
def aP:=@Nat.ne_of_lt
def aQ:=@List.length_take
def aR:=@Option.bind_eq_some_iff
def aS:=@List.getElem?_append_right
def aT:=@decide_eq_false
def aU:=@List.mem_cons_self
def aV:=@List.getElem?_of_mem
def aW:=@Bool.false_eq_true
def aX:=@List.length_cons
def aY:=@List.getElem?_append_left
def aZ:=@PySem.wpAny_mono
def a7:=@List.getElem?_set_self
def a8:=@List.mem_append_right
def a9:=@beq_eq_false_iff_ne
def ba:=@List.map_append
def bb:=@Ne.symm
def bc:=@decide_eq_true
def bd:=@List.Perm.refl
def be:=@Array.getElem?_eq_some_iff
def bg:=@List.length_replicate
def bh:=@List.getElem?_set_ne
def bj:=@Nat.le_trans
def bn:=@congrArg
def bp:=@PySem.Heap.get?_update_other
def br:=@if_false
def bu:=@List.mem_range
def bw:=@PySem.wpAny_field
def bx:=@PySem.Heap.get?_update_self
def bz:=@Nat.zero_le
def bA:=@List.mem_append_left
def bB:=@PyProof.Rows.callWith_type1
def bD:=@Array.getD_eq_getD_getElem?
def bE:=@PySem.Obj.data_mapFields
def bF:=@List.map_cons
def bH:=@List.getLastD_eq_getLast?
def bI:=@Array.getElem?_eq_getElem
def bJ:=@PySem.wpAny_seqItems
def bK:=@Array.getElem?_toList
def bL:=@List.not_mem_nil
def bM:=@beq_iff_eq
def bN:=@List.mem_filterMap
def bO:=@Int.emod_lt_of_pos
def bP:=@PySem.wpAny_Call_Name_kw
def bQ:=@of_decide_eq_true
def bR:=@decide_eq_true_eq
def bS:=@Int.emod_nonneg
def bT:=@PySem.mem_of_lookup
def bU:=@Int.toNat_of_nonneg
def bV:=@PySem.Heap.size_push
def bW:=@List.take_zero
def bX:=@PySem.wpAny_truthy_bool
def bY:=@List.mem_flatMap
def bZ:=@Int.natAbs_natCast
def b5:=@Classical.byContradiction
def b6:=@List.length_set
def b7:=@List.filterMap_cons
def b8:=@Nat.le_of_lt
def b9:=@Int.le_refl
def cc:=@List.take_of_length_le
def cf:=@List.getElem_mem
def cg:=@Bool.and_false
def ci:=@Bool.and_eq_true
def cj:=@List.append_nil
def ck:=@Int.zero_add
def cm:=@List.getElem?_eq_none
def cn:=@or_false
def cr:=@Option.map_some
def cu:=@List.mem_filter
def cx:=@Nat.lt_irrefl
def cy:=@List.Perm.append_left
def cz:=@List.getElem?_replicate
def cA:=@Option.some.injEq
def cB:=@PySem.wpAny_setField_rec
def cC:=@PySem.wpAny_passesOwn
def cD:=@Nat.mod_lt
def cE:=@PySem.wpAny_holding
def cF:=@PySem.Paired.length
def cG:=@PySem.Obj.isFreed_of_fields
def cH:=@Nat.mod_eq_of_lt
def cI:=@Nat.lt_succ_self
def cJ:=@List.all_eq_true
def cK:=@List.pairwise_iff_getElem
def cM:=@List.length_pos_iff
def cO:=@List.length_nil
def cP:=@PySem.F.slot_tuple_iterator_next
def cQ:=@Bool.not_true
def cR:=@List.append_assoc
def cS:=@List.nodup_cons
def cT:=@PySem.codeAny_mono
def cU:=@Nat.lt_of_le_of_lt
def cV:=@List.mem_replicate
def cW:=@Int.natCast_nonneg
def cX:=@PySem.F.called_set
def cY:=@List.set_eq_of_length_le
def cZ:=@Nat.le_succ
def c7:=@List.length_eq_zero_iff
def c8:=@PySem.F.plainAttrs_str
def c9:=@PySem.wpAny_execs_nil
def da:=@List.lookup_cons
def de:=@PySem.call_meets
def dg:=@PySem.SeqAt.EqAt.of_refs
def dh:=@PySem.wpAny_callSpecial?_slot
def di:=@Int.natAbs_dvd_natAbs
def dj:=@List.replicate_succ
def dk:=@List.cons.inj
def dn:=@PySem.wpAny_setState_of
def dq:=@PySem.wpAny_pyIter_list
def dr:=@PySem.SeqAt.RcAt.tuples
def du:=@List.exists_cons_of_ne_nil
def dA:=@List.find?_cons
def dB:=@PySem.codeAny_handlers_test
def dC:=@Nat.ne_of_gt
def dD:=@Int.le_of_lt
def dE:=@List.pairwise_cons
def dF:=@Int.lt_of_lt_of_le
def dG:=@Int.lt_of_le_of_lt
def dH:=@Array.forIn_toList
def dI:=@List.getLast?_eq_getElem?
def dJ:=@List.getElem?_eq_none_iff
def dL:=@PySem.wpAny_handleBy_cons
def dM:=@if_true
def dN:=@Option.isSome_map
def dO:=@PySem.Heap.SameBut.update
def dP:=@Function.comp_def
def dQ:=@PySem.wpAny_setField
def dR:=@beq_self_eq_true
def dS:=@PySem.F.slot_list_index
def dU:=@Nat.le_add_right
def dW:=@List.length_drop
def dX:=@PySem.W.callWith_K
def dY:=@Nat.pow_succ
def dZ:=@Nat.mul_comm
def d5:=@Int.add_zero
def d6:=@PySem.wpAny_newObj_type
def d7:=@Bool.eq_iff_iff
def d8:=@PySem.F.type_list_pop
def d9:=@PySem.F.slot_list_pop
def ee:=@List.pairwise_flatMap
def eu:=@List.perm_append_comm
def eB:=@PySem.wpAny_forIn_list
def eC:=@PySem.wpAny_call_entry
def eD:=@PySem.W.methodCall_KW
def eE:=@PySem.Around.in1_units
def eI:=@List.map_set
def eJ:=@List.length_range
def eK:=@List.flatten_cons
def eM:=@ne_true_of_eq_false
def eP:=@PySem.codeAny_handlers_suite
def eQ:=@PySem.codeAny_builtin
def eR:=@PySem.SeqAt.EqAt.same
def eT:=@Nat.mul_assoc
def eU:=@Nat.add_assoc
def eV:=@PySem.F.slot_zip_next
def eX:=@Bool.true_and
def eY:=@Option.toList_some
def eZ:=@PySem.wpAny_updateSeq_pair
def e6:=@List.map_map
def fe:=@Nat.succ_mul
def ff:=@Nat.lt_trichotomy
def fg:=@Nat.lt_succ_of_lt
def fh:=@Int.sub_self
def fj:=@Int.le_trans
def fo:=@Int.add_emod
def fq:=@PySem.Around.under_plainId
def ft:=@Option.getD_none
def fu:=@Int.natCast_emod
def fv:=@PySem.wpAny_onRaise
def fA:=@List.range_succ
def fB:=@PySem.wpAny_call
def fC:=@PySem.typeIs_str
def fD:=@PySem.tupleKind_room_in1
def fE:=@Nat.min_le_left
def fF:=@List.cons.injEq
def fG:=@PySem.F.args_str_split_2
def fH:=@List.nodup_append
def fI:=@Nat.isDigit_of_mem_toDigits
def fJ:=@Option.map_map
def fK:=@Int.fdiv_eq_ediv_of_nonneg
def fM:=@PySem.F.entry_str_split
def fN:=@List.take_succ
def fO:=@List.length_singleton
def fP:=@PySem.F.slot_dict_getitem
def fQ:=@List.ne_nil_of_length_pos
def fR:=@PySem.wpAny_isInstance
def fS:=@PySem.wpAny_execs_cons
def fT:=@List.nodup_range
def fU:=@List.cons_append
def fV:=@PySem.SeqAt.RcAt.lists
def fW:=@PySem.F.type_list_extend
def fX:=@PySem.F.slot_list_extend
def fY:=@PyProof.Rows.digit_range
def fZ:=@Option.isSome_iff_exists
def f9:=@List.length_filterMap_le
def gc:=@PySem.F.slot_str_split
def gd:=@Bool.and_true
def gf:=@PySem.sizeLine_eq
def gi:=@PySem.seqIndex_of
def gj:=@PySem.F.type_list_index
def gk:=@Int.eq_ofNat_of_zero_le
def gu:=@PySem.wpAny_specialOf
def gx:=@List.map_nil
def gy:=@PySem.W.cellsFrom_some
def gz:=@PySem.F.type_str_split
def gA:=@PyProof.noPylong_small
def gC:=@Nat.zero_add
def gD:=@Nat.sub_self
def gF:=@Nat.min_self
def gG:=@Nat.add_zero
def gH:=@List.Perm.append_right
def gI:=@Int.lt_trans
def gJ:=@PySem.F.args_tuple_iterator_next_1
def gM:=@List.length_reverse
def gP:=@List.forIn_cons
def gQ:=@List.flatMap_append
def gS:=@List.any_cons
def gU:=@PySem.W.KIN.signs_num
def gW:=@PySem.F.type_str_join
def gX:=@PySem.F.slot_str_join
def gY:=@List.take_append_drop
def gZ:=@List.mem_iff_getElem?
def g6:=@List.getElem?_zipWith
def g9:=@List.getElem?_reverse
def hJ:=@List.countP_replicate
def hX:=@PySem.F.entry_tuple_iterator_next
def ia:=@Nat.add_mod
def ib:=@List.mem_of_mem_take
def ic:=@Int.emod_emod_of_dvd
def ie:=@Decidable.of_not_not
def ig:=@PySem.Calls.Name_function_global
def ii:=@PySem.intBits_le_64
def ij:=@PySem.W.pyHash_slot
def ik:=@PySem.W.looks_subIn
def io:=@PySem.W.callWith_K0
def ip:=@Nat.add_le_add_left
def ir:=@List.toList_toArray
def iu:=@List.map_congr_left
def iw:=@List.length_zipWith
def ix:=@List.getElem_of_mem
def iy:=@List.getElem?_range
def iz:=@PySem.wpAny_standAt
def iA:=@PySem.wpAny_comprehension_free
def iB:=@PySem.wpAny_attempt
def iC:=@PySem.W.any_some
def iD:=@PySem.SeqAt.RcAt.lists_lengths
def iE:=@Nat.mod_eq_sub_mod
def iF:=@Nat.lt_of_le_of_ne
def iG:=@List.find?_eq_none
def iH:=@Array.append_assoc
abbrev A0:=PySem.W.Frag
abbrev A1:=List (Int × Int)
abbrev A2:=List (PySem.Addr × PySem.Obj)
abbrev A3:=PySem.Value->PySem.Shared->Prop
abbrev A4:=PySem.Str->Option PySem.Value
abbrev A5:=PySem.Addr->Prop
abbrev A6:=List Int
abbrev A7:=List PySem.Value
abbrev A8:=List PySem.Str
abbrev A9:=Option Int
abbrev Aa:=Option PySem.Addr
abbrev Ab:=List PySem.Addr
abbrev Ac:=Array PySem.Value
abbrev Ae:=Array (Option PySem.Value)
abbrev Af:=PySem.Program
abbrev Ag:=Unit->PySem.Shared->Prop
abbrev Ah:=Int × Int->Int × Int->Prop
abbrev Ai:=List Bool
abbrev Aj:=List Nat
abbrev Ak:=Option Nat × Option Nat × Nat
abbrev Al:=PySem.Value->PySem.Value->PySem.Sem PySem.Value
abbrev Am:=PySem.Value
abbrev An:=PySem.Shared
abbrev Ao:=PySem.Around
def rcp:Nat->Lean.TSyntax `term->Lean.MacroM (Lean.TSyntax `rcasesPat)
 |0,_=>Lean.Macro.throwUnsupported
 |n+1,t=>match t with
  |`(_)=>`(rcasesPat| _)
  |`($x:ident)=>`(rcasesPat| $x:ident)
  |`(⟨$s,*⟩)=>do let p<-s.getElems.mapM (rcp n);`(rcasesPat| ⟨$[$p],*⟩)
  |_=>Lean.Macro.throwUnsupported
local macro_rules(kind:=Lean.Parser.Tactic.tacticLet__)|x=>do
 let d:=x[2][0]
 if d.getKind !=``Lean.Parser.Term.letPatDecl then Lean.Macro.throwUnsupported
 let p<-rcp 9 ⟨d[0]⟩
 let e:Lean.TSyntax `term:=⟨d[4]⟩
 if d[2].getNumArgs==0 then `(tactic| obtain $p:rcasesPat := $e) else
  let t:Lean.TSyntax `term:=⟨d[2][0][1]⟩
  `(tactic| obtain $p:rcasesPat : $t := $e)
namespace L2
open PySem PySem.Spec PyProof.Rows
variable{A:Ao}{s:An}{K:A0}{p5:A2}{w:World}{P:Af}{x:Str}{E Q:A3}{u:Am}{us:A7}{k t' i:Nat}{b C:Addr}{M:Model}{mg:A4}{base:Heap}{pos:Pos}{op:CmpOp}{f:Al}{tg:Expr}{fd:FuncData}
abbrev Key:=Sum Int Str
noncomputable def WZ:Key->Value->Bool
 | .inl k,v=>Value.isInt k v
 | .inr x,v=>Value.isStrOf x v
noncomputable def zlc(w:World):Key->Int
 | .inl k=>hashInt k
 | .inr x=>hashStr w x
theorem qK:∀{k:Key}{v:Am},WZ k v=true->(∃i t,k=Sum.inl i/\v=Value.int i t)\/(∃x t,k=Sum.inr x/\v=Value.str x t)
 | .inl i,v,h=>by
  let⟨t,e⟩:=Value.isInt_shape (k:=i) (v:=v) h;exact .inl ⟨i,t,rfl,e⟩
 | .inr x,v,h=>by
  let⟨t,e⟩:=Value.isStrOf_shape (x:=x) (v:=v) h;exact .inr ⟨x,t,rfl,e⟩
def ze3(i:Int)(t:Tok):WZ (.inl i) (.int i t)=true:=by simp[WZ,Value.isInt]
def ze2(x:Str)(t:Tok):WZ (.inr x) (.str x t)=true:=by simp[WZ,Value.isStrOf]
def zjL(a b:Int):decide ((Sum.inl a:Key)=Sum.inl b)=(a == b):=by
 by_cases e:a=b
 .subst e;simp
 .have h:¬(Sum.inl a:Key)=Sum.inl b:=λq=>e (Sum.inl.inj q);rw[aT h];exact(a9.mpr e).symm
def zjI(a b:Str):decide ((Sum.inr a:Key)=Sum.inr b)=decide (a=b):=by
 by_cases e:a=b
 .subst e;simp
 .have h:¬(Sum.inr a:Key)=Sum.inr b:=λq=>e (Sum.inr.inj q);rw[aT h,aT e]
def zjK(a:Int)(b:Str):decide ((Sum.inl a:Key)=Sum.inr b)=false:=aT (λq=>nomatch q)
def zjJ(a:Str)(b:Int):decide ((Sum.inr a:Key)=Sum.inl b)=false:=aT (λq=>nomatch q)
noncomputable def jb(prog:Af)(w:World):PySem.KeyKind prog w Key where
 is:=WZ
 hash:=zlc w
 inj:=λv a b ha hb=>by
  rcases qK ha with⟨i,t,rfl,rfl⟩|⟨x,t,rfl,rfl⟩
  .rcases qK hb with⟨j,u,rfl,e⟩|⟨y,u,rfl,e⟩
   .injection e with e1 _;rw[e1]
   .exact nomatch e
  .rcases qK hb with⟨j,u,rfl,e⟩|⟨y,u,rfl,e⟩
   .exact nomatch e
   .injection e with e1 _;rw[e1]
 byValue:=λk v h=>by
  rcases qK h with⟨i,t,rfl,rfl⟩|⟨x,t,rfl,rfl⟩<;>rfl
 pyHash:=λhv h=>by
  rcases qK hv with⟨i,t,rfl,rfl⟩|⟨x,t,rfl,rfl⟩
  .exact wpAny_pyHash_int h
  .exact wpAny_pyHash_str h
 eqBool:=λhu hv h=>by
  rcases qK hu with⟨i,t,rfl,rfl⟩|⟨x,t,rfl,rfl⟩
  .rcases qK hv with⟨j,u,rfl,rfl⟩|⟨y,u,rfl,rfl⟩
   .rw[zjL]at h;exact wpAny_eqBool_int h
   .rw[zjK]at h;exact SeqAt.EqAt.int_str i t y u _ _ _ _ h
  .rcases qK hv with⟨j,u,rfl,rfl⟩|⟨y,u,rfl,rfl⟩
   .rw[zjJ]at h;exact SeqAt.EqAt.str_int x t j u _ _ _ _ h
   .rw[zjI]at h;exact wpAny_eqBool_str h
 «strs»:=λk x t v h=>by
  rcases qK h with⟨i,u,rfl,e⟩|⟨y,u,rfl,e⟩
  .exact nomatch e
  .injection e with e1 _
   subst e1;cases v<;>rfl
def zbv(prog:Af)(w:World)(i:Int)(t:Tok):(jb prog w).is (.inl i) (.int i t)=true:=ze3 i t
def zbu(prog:Af)(w:World)(x:Str)(t:Tok):(jb prog w).is (.inr x) (.str x t)=true:=ze2 x t
inductive V where
 |non|bl (b:Bool)|int (i:Int)|str (x:Str)|byt (b:Array UInt8)|flt (b:UInt64)|ref (a:Addr)|ty (n:String)
 deriving DecidableEq
abbrev As:=List (List Key×V)
abbrev Ar:=List (Str×V)
abbrev Aq:=Option V
abbrev Ap:=List V
def RelV:V->Value->Prop
 | .non,u=>u=Value.none
 | .bl b,u=>u=Value.bool b
 | .int i,u=>∃t,u=Value.int i t
 | .str x,u=>∃t,u=Value.str x t
 | .byt b,u=>∃t,u=Value.bytes b t
 | .flt b,u=>∃t,u=Value.float b t
 | .ref a,u=>u=Value.ref a
 | .ty n,u=>u=Value.type n
abbrev Vals:List V->List Value->Prop:=Paired RelV
def Vals.length{xs:Ap}(r:Vals xs us):xs.length=us.length:=cF r
theorem Vals.get:∀{xs:Ap}{us:A7}{i:Nat}{x:V},Vals xs us->xs[i]?=some x->∃u,us[i]?=some u/\RelV x u
 |_,_,_,_,.nil,e=>by simp at e
 |_,_,0,_,.cons r _,e=>by simp at e;subst e;exact⟨_,rfl,r⟩
 |_,_,i+1,x,.cons _ t,e=>by
  let⟨u,h1,h2⟩:=Vals.get (i:=i) (x:=x) t (by simpa using e);exact⟨u,by simpa using h1,h2⟩
theorem Vals.set{x:V}{u:Am}(r:RelV x u):∀{xs:Ap}{us:A7}(i:Nat),Vals xs us->Vals (xs.set i x) (us.set i u)
 |_,_,_,.nil=>.nil
 |_,_,0,.cons _ t=>.cons r t
 |_,_,i+1,.cons q t=>.cons q (Vals.set r i t)
theorem Vals.append:∀{xs ys:Ap}{us ws:A7},Vals xs us->Vals ys ws->Vals (xs++ys) (us++ws)
 |_,_,_,_,.nil,s=>s
 |_,_,_,_,.cons r t,s=>.cons r (Vals.append t s)
theorem Vals.take:∀{xs:Ap}{us:A7}(n:Nat),Vals xs us->Vals (xs.take n) (us.take n)
 |_,_,0,_=>.nil
 |_,_,_+1,.nil=>.nil
 |_,_,n+1,.cons r t=>.cons r (Vals.take n t)
theorem Vals.drop:∀{xs:Ap}{us:A7}(n:Nat),Vals xs us->Vals (xs.drop n) (us.drop n)
 |_,_,0,r=>r
 |_,_,_+1,.nil=>.nil
 |_,_,n+1,.cons _ t=>Vals.drop n t
def Vals.none_of:∀{xs:Ap}{us:A7}{i:Nat},Vals xs us->xs[i]?=none->us[i]?=none:=λ{xs us i} r e=>by
 have h1:=r.length;have h2:xs.length<=i:=dJ.mp e;exact dJ.mpr (by lia)
def RelO:Option V->Option Value->Prop
 |some v,some u=>RelV v u
 |none,none=>True
 |_,_=>False
def KV{κ:Type}:List (κ×V)->List (κ×Value)->Prop:=Paired λ(p:κ×V)(q:κ×Value)=>p.1=q.1/\RelV p.2 q.2
noncomputable def kV:Key->V
 | .inl i=>.int i
 | .inr x=>.str x
inductive HO where
 |lst (xs:Ap)
 |tup (xs:Ap)
 |dK (ph:List (Key×V))|dT (ph:As)
 |set (S:Int->Bool) (n:Nat)
 |ins (C dx:Addr) (fs:Ar)
 |own (x:Addr)
 |xd (fs:Ar)
 |met (f x:Addr)
 |rng (lo hi:Int)
 |frz (o:Obj) (u:HO)
 |tbl (ps:Ac)
 |ext (φ:Heap->Prop)
variable{o:HO}
abbrev Hp:=Addr->Option HO
variable{H:Hp}
noncomputable def upd(H:Hp)(a:Addr)(o:HO):Hp:=λb=>if b=a then some o else H b
def upd_same{a:Addr}:upd H a o a=some o:=by unfold upd;rw[ao rfl]
def pD:=@upd_same
def upd_ne{a b:Addr}(h:b≠a):upd H a o b=H b:=by unfold upd;rw[ak h]
def pE:=@upd_ne
def Zc{a:Addr}{o u:HO}:upd (upd H a o) a u=upd H a u:=by
 funext b;unfold upd;split<;>rfl
def Qc{a b:Addr}{o u:HO}(h:H a=some o)(h':H b=some u)(d:o≠u):a≠b:=by
 intro e;subst e;rw[h]at h';exact d (aF h')
def ne_of_none{a b:Addr}(h:H a=some o)(h':H b=none):a≠b:=by
 intro e;subst e;rw[h]at h';cases h'
def pF:=@ne_of_none
section
variable(P:Af)(w:World)
def ObjOk(H:Hp)(h:Heap)(a:Addr):HO->Prop
 | .lst xs=>xs.length<=sizeLine/\∃(pi:A7)(n:Nat),Vals xs pi/\h.get? a=some {cls:=.type "list",data:=.seq pi.toArray n}
 | .tup xs=>xs.length<=sizeLine/\∃pi:List Value,Vals xs pi/\IsTup h a pi.toArray
 | .dK ph=>ph.length<=sizeLine/\(a == sysModules)=false/\∃vs,KV ph vs/\h.DictOf (jb P w) a vs
 | .dT ph=>ph.length<=sizeLine/\(a == sysModules)=false/\∃xs:List (List Key×Addr×Value),
   Paired (λ(p:List Key×V)(q:List Key×Addr×Value)=>p.1=q.1/\H q.2.1=some (.tup (p.1.map kV))/\RelV p.2 q.2.2) ph xs /\
   ∃o es ep,h.get? a=some o/\o.ExactDict/\o.data=.dict es ep/\es.toList=xs.map (entryOfKey (tupleKind (jb P w)))/\(xs.map (·.1)).Nodup
 | .set S n=>h.SetOf (intKind P w) a S n
 | .ins C dx fs=>H dx=some (.own a)/\fs.length<=1000/\dx≠a/\h.get? a=some (instObj C dx) /\
   ∃mA,h.Ns1 dx mA/\(∀f,RelO (fs.lookup f) (mA f))/\PySem.Within mA (fs.map (·.1))
 | .own _=>∃o,h.get? a=some o
 | .xd fs=>∃mA,h.Ns1 a mA/\∀f,RelO (fs.lookup f) (mA f)
 | .rng lo hi=>∃t u v,h.get? a=some {cls:=.type "range",data:=.fields #[.int lo t,.int hi u,.int 1 v]}
 | .frz o u=>h.get? a=some o/\ObjOk H h a u
 | .tbl ps=>h.get? a=some {cls:=.none,data:=.fields ps}
 | .met f x=>h.get? a=some (methodObj (.ref f) (.ref x))
 | .ext φ=>φ h/\(∃o,h.get? a=some o)/\∀h1 h2:Heap,φ h1->(∀o,h1.get? a=some o->h2.get? a=some o)->φ h2
def HOk(H:Hp)(h:Heap):Prop:=∀a o,H a=some o->ObjOk P w H h a o
end
section
variable{P:Af}{w:World}{H H':Hp}{h h':Heap}{a:Addr}{o:HO}
def ObjOk.lt(x:ObjOk P w H h a o):a<h.objs.size:=by
 cases o with
 |lst xs=>let⟨_,_,_,_,e⟩:=x;exact aB e
 |tup xs=>let⟨_,_,_,p⟩:=x;exact p.lt
 |dK ph=>let⟨_,_,_,_,o,_,_,e,_⟩:=x;exact aB e
 |dT ph=>let⟨_,_,_,_,o,_,_,e,_⟩:=x;exact aB e
 |set S n=>let⟨o,_,_,_,e,_⟩:=x;exact aB e
 |ins C dx fs=>let⟨_,_,_,e,_⟩:=x;exact aB e
 |own y=>let⟨_,e⟩:=x;exact aB e
 |xd fs=>let⟨_,⟨_,_,_,e,_⟩,_⟩:=x;exact aB e
 |rng lo hi=>let⟨_,_,_,e⟩:=x;exact aB e
 |frz ob u=>let⟨e,_⟩:=x;exact aB e
 |tbl ps=>exact aB (show h.get? a=some _ from x)
 |met f y=>exact aB (show h.get? a=some _ from x)
 |ext φ=>let⟨_,⟨_,e⟩,_⟩:=x;exact aB e
theorem Paired.mapP{α β:Type}{F G:α->β->Prop}:∀{l₁:List α}{l₂:List β},Paired F l₁ l₂->(∀a b,F a b->G a b)->Paired G l₁ l₂
 |_,_,.nil,_=>.nil
 |_,_,.cons r t,f=>.cons (f _ _ r) (Paired.mapP t f)
theorem ObjOk.stay(x:ObjOk P w H h a o)(k:∀b u,(b=a\/H b=some (.own a))->h.get? b=some u->h'.get? b=some u)(ho:∀b,H b=some (.own a)->H' b=some (.own a))(ht:∀b xs,H b=some (.tup xs)->H' b=some (.tup xs)):ObjOk P w H' h' a o:=by
 induction o with
 |lst xs=>let⟨z,pi,n,r,e⟩:=x;exact⟨z,pi,n,r,k _ _ (.inl rfl) e⟩
 |tup xs=>let⟨z,pi,r,ob,e,c⟩:=x;exact⟨z,pi,r,ob,k _ _ (.inl rfl) e,c⟩
 |dK ph=>let⟨z,y,vs,r,ob,es,ep,e,c⟩:=x;exact⟨z,y,vs,r,ob,es,ep,k _ _ (.inl rfl) e,c⟩
 |dT ph =>
  let⟨z,y,xs,r,ob,es,ep,e,c⟩:=x;exact⟨z,y,xs,Paired.mapP r λp q z=>⟨z.1,ht _ _ z.2.1,z.2.2⟩,ob,es,ep,k _ _ (.inl rfl) e,c⟩
 |set S n=>let⟨ob,es,ep,t,e,c⟩:=x;exact⟨ob,es,ep,t,k _ _ (.inl rfl) e,c⟩
 |ins C dx fs =>
  let⟨d,z,ne,e,mA,⟨od,es,ep,e2,c⟩,r⟩:=x;exact⟨ho _ d,z,ne,k _ _ (.inl rfl) e,mA,⟨od,es,ep,k _ _ (.inr d) e2,c⟩,r⟩
 |own y=>let⟨ob,e⟩:=x;exact⟨ob,k _ _ (.inl rfl) e⟩
 |xd fs=>let⟨mA,⟨od,es,ep,e,c⟩,r⟩:=x;exact⟨mA,⟨od,es,ep,k _ _ (.inl rfl) e,c⟩,r⟩
 |rng lo hi=>let⟨t,u,v,e⟩:=x;exact⟨t,u,v,k _ _ (.inl rfl) e⟩
 |frz ob u ih=>let⟨e,q⟩:=x;exact⟨k _ _ (.inl rfl) e,ih q⟩
 |tbl ps =>
  have e:h.get? a=some {cls:=.none,data:=.fields ps}:=x;show h'.get? a=some {cls:=.none,data:=.fields ps}
  exact k a _ (.inl rfl) e
 |met f y =>
  have e:h.get? a=some (methodObj (.ref f) (.ref y)):=x;show h'.get? a=some (methodObj (.ref f) (.ref y))
  exact k a _ (.inl rfl) e
 |ext φ=>let⟨p,⟨o,e⟩,st⟩:=x;exact⟨st _ _ p λo q=>k _ _ (.inl rfl) q,⟨o,k _ _ (.inl rfl) e⟩,st⟩
def HOk.lt(x:HOk P w H h)(e:H a=some o):a<h.objs.size:=(x a o e).lt
def HOk.fresh(x:HOk P w H h)(e:h.objs.size<=a):H a=none:=by
 cases q:H a with
 |none=>rfl
 |some u=>exact absurd (aM (x.lt q) e) (cx _)
def HOk.kept(x:HOk P w H h)(k:∀b u,h.get? b=some u->h'.get? b=some u):HOk P w H h':=λa o e =>
 (x a o e).stay (λb u _ q=>k b u q) (λ_ q=>q) λ_ _ q=>q
def HOk.laid(x:HOk P w H h)(k:∀b u,h.get? b=some u->h'.get? b=some u)(hp:h.objs.size<=a)(new:ObjOk P w (upd H a o) h' a o):HOk P w (upd H a o) h':=λb u e=>by
 have hn:=x.fresh hp;by_cases hb:b=a
 .subst hb;rw[pD]at e;cases e;exact new
 .rw[pE hb]at e;exact(x b u e).stay (λc v _ q=>k c v q) (λc q=>by rw[pE (pF q hn)];exact q) λc xs q=>by rw[pE (pF q hn)];exact q
end
def Rd(H:Hp)(a:Addr)(u:HO):Prop:=H a=some u\/∃o,H a=some (.frz o u)
def Rd.of{a:Addr}{u:HO}(h:H a=some u):Rd H a u:=.inl h
def Rd.ok{h:Heap}{a:Addr}{u:HO}(r:Rd H a u)(x:HOk P w H h):ObjOk P w H h a u:=by
 rcases r with r|⟨o,r⟩
 .exact x a u r
 .obtain⟨_,q⟩:=x a _ r;exact q
def Mut:Option HO->Prop
 |some (.lst _)=>True
 |some (.dK _)=>True
 |some (.dT _)=>True
 |some (.set _ _)=>True
 |some (.ins _ _ _)=>True
 |some (.ext _)=>True
 |_=>False
section
variable{P:Af}{w:World}{H:Hp}{h h':Heap}{x e:Addr}{o':HO}
def HOk.write(ok:HOk P w H h)(mu:Mut (H x))(he:e=x\/H e=some (.own x))(k:∀b u,b≠e->h.get? b=some u->h'.get? b=some u)(heo:∃u,h'.get? e=some u)(new:ObjOk P w (upd H x o') h' x o'):HOk P w (upd H x o') h':=λb u q=>by
 have nown:∀c y,H c=some (.own y)->c≠x:=λc y r z=>by subst z;rw[r]at mu;exact mu
 have ntup:∀c xs,H c=some (.tup xs)->c≠x:=λc xs r z=>by subst z;rw[r]at mu;exact mu
 by_cases hb:b=x
 .subst hb;rw[pD]at q;cases q;exact new
 .rw[pE hb]at q;by_cases hbe:b=e
  .have q':H b=some (.own x):=by
    rcases he with z|z
    .exact absurd (hbe.trans z) hb
    .rw[hbe];exact z
   rw[q]at q';cases q';let⟨v,hv⟩:=heo;exact⟨v,by rw[hbe];exact hv⟩
  .refine(ok b u q).stay (λc v hc r=>k c v ?_ r) (λc r=>by rw[pE (nown c b r)];exact r) λc xs r=>by rw[pE (ntup c xs r)];exact r
   rcases hc with rfl|hc
   .exact hbe
   .rintro rfl;rcases he with z|z
    .exact nown c b hc z
    .rw[hc]at z;cases z;exact hb rfl
end
structure Un(fs ex:Ab)(H H':Hp)(h h':Heap):Prop where
 keep:∀b o,h.get? b=some o->H b=none->b∉fs->b∉ex->h'.get? b=some o
 slot:∀b o,h.get? b=some o->H b=none->b∈fs->b∉ex->∃sl,h'.get? b=some {o with slots:=sl}
 free:∀b o,h.get? b=some o->H b=none->b∉ex->H' b=none
 there:∀b o,h.get? b=some o->b∉ex->∃o',h'.get? b=some o'
 tups:∀b xs,H b=some (.tup xs)->H' b=some (.tup xs)
 frzs:∀b o u,H b=some (.frz o u)->H' b=some (.frz o u)
 tbls:∀b ps,H b=some (.tbl ps)->∃more,H' b=some (.tbl (ps++more))
section
variable{fs fs' ex ex':Ab}{H H1 H2:Hp}{h h1 h2 h':Heap}{a x e:Addr}{o:HO}
def Un.any(u:Un fs ex H H1 h h1){ob:Obj}(q:h.get? b=some ob)(n:H b=none)(hx:b∉ex):∃sl,h1.get? b=some {ob with slots:=sl}:=by
 by_cases hb:b∈fs
 .exact u.slot b ob q n hb hx
 .exact⟨ob.slots,u.keep b ob q n hb hx⟩
def Un.trans(a:Un fs ex H H1 h h1)(b:Un fs ex H1 H2 h1 h2):Un fs ex H H2 h h2 where
 keep:=λc ob q n hc hx=>b.keep c ob (a.keep c ob q n hc hx) (a.free c ob q n hx) hc hx
 slot:=λc ob q n hc hx=>by
  let⟨sl,e1⟩:=a.slot c ob q n hc hx;let⟨sl',e2⟩:=b.slot c _ e1 (a.free c ob q n hx) hc hx;exact⟨sl',e2⟩
 free:=λc ob q n hx=>by
  let⟨o',e1⟩:=a.there c ob q hx;exact b.free c o' e1 (a.free c ob q n hx) hx
 there:=λc ob q hx=>by
  let⟨o',e1⟩:=a.there c ob q hx;exact b.there c o' e1 hx
 tups:=λc xs q=>b.tups c xs (a.tups c xs q)
 frzs:=λc ob xs q=>b.frzs c ob xs (a.frzs c ob xs q)
 tbls:=λc ps q=>by
  let⟨m1,e1⟩:=a.tbls c ps q;let⟨m2,e2⟩:=b.tbls c _ e1;exact⟨m1++m2,by rw[e2,iH]⟩
def Un.kept(k:∀b u,h.get? b=some u->h'.get? b=some u):Un fs ex H H h h' :=
 ⟨λb ob q _ _ _=>k b ob q,λb ob q _ _ _=>⟨ob.slots,k b ob q⟩,λ_ _ _ n _=>n,λb ob q _=>⟨ob,k b ob q⟩,λ_ _ q=>q,λ_ _ _ q=>q,λ_ ps q=>⟨#[],by rw[q];simp⟩⟩
def Un.refl:Un fs ex H H h h:=Un.kept λ_ _ q=>q
def Un.laid(k:∀b u,h.get? b=some u->h'.get? b=some u)(hp:h.objs.size<=a)(hn:H a=none):Un fs ex H (upd H a o) h h' where
 keep:=λb u q _ _ _=>k b u q
 slot:=λb u q _ _ _=>⟨u.slots,k b u q⟩
 free:=λb u q n _=>by rw[pE (aP (aM (aB q) hp))];exact n
 there:=λb u q _=>⟨u,k b u q⟩
 tups:=λb xs q=>by rw[pE (pF q hn)];exact q
 frzs:=λb u xs q=>by rw[pE (pF q hn)];exact q
 tbls:=λb ps q=>⟨#[],by rw[pE (pF q hn),q];simp⟩
def Un.write(mu:Mut (H x))(he:e=x\/H e=some (.own x))(k:∀b u,b≠e->h.get? b=some u->h'.get? b=some u)(heo:∃u,h'.get? e=some u):Un fs ex H (upd H x o) h h':=by
 have hx:∀b,H b=none->b≠x:=λb n z=>by subst z;rw[n]at mu;exact mu
 have hb:∀b,H b=none->b≠e:=λb n z=>by
  subst z;rcases he with r|r
  .exact hx b n r
  .rw[n]at r;cases r
 have hm:∀b u,H b=some u->¬Mut (some u)->b≠x:=λb u q nm z=>by subst z;rw[q]at mu;exact nm mu
 refine⟨λb u q n _ _=>k b u (hb b n) q,λb u q n _ _=>⟨u.slots,k b u (hb b n) q⟩,λb u q n _=>by rw[pE (hx b n)];exact n,λb u q _=>?_,
  λb xs q=>by rw[pE (hm b _ q λz=>z)];exact q,λb u xs q=>by rw[pE (hm b _ q λz=>z)];exact q,λb ps q=>⟨#[],by rw[pE (hm b _ q λz=>z),q];simp⟩⟩
 by_cases hbe:b=e
 .subst hbe;exact heo
 .exact⟨u,k b u hbe q⟩
def Un.mono(u:Un fs ex H H1 h h1)(hs:∀b∈fs,b∈fs')(hx:∀b∈ex,b∈ex'):Un fs' ex' H H1 h h1 :=
 ⟨λb ob q n hb he=>u.keep b ob q n (λz=>hb (hs b z)) λz=>he (hx b z),λ_ _ q n _ he=>u.any q n λz=>he (hx _ z),λb ob q n he=>u.free b ob q n λz=>he (hx b z),λb ob q he=>u.there b ob q λz=>he (hx b z),u.tups,u.frzs,u.tbls⟩
end
noncomputable def trk(h:Heap)(H:Hp):List Addr:=(List.range h.objs.size).filter λa=>(H a).isSome
noncomputable def V9(h:Heap)(H:Hp):Heap:=PySem.W.hideAll h (trk h H)
def ze5(h:Heap)(H:Hp):(V9 h H).objs.size=h.objs.size:=PySem.W.hideAll_size _ _
def zgR{h:Heap}{o:Obj}(e:h.get? b=some o)(n:H b=none):(V9 h H).get? b=some o :=
 PySem.W.hideAll_get _ e λhm=>by
  have q:(H b).isSome=true:=(cu.mp hm).2;rw[n]at q;simp at q
def zh3{h:Heap}{o:Obj}(e:(V9 h H).get? b=some o):h.get? b=some o/\H b=none:=by
 have e':h.get? b=some o:=PySem.W.of_hideAll (trk h H) e;refine⟨e',?_⟩;cases q:H b with
 |none=>rfl
 |some x =>
  have hm:b∈trk h H:=cu.mpr ⟨bu.mpr (aB e'),by simp[q]⟩;have z:(V9 h H).get? b=none:=PySem.W.hideAll_none (trk h H) hm;rw[z]at e;cases e
noncomputable def ziB(g h:Heap)(L:Addr):List (Addr×Obj):=(List.range h.objs.size).filterMap λa=>if a=L\/(g.get? a).isSome=true then none else(h.get? a).map λo=>(a,o)
noncomputable def rest(g h:Heap)(L d:Addr):List (Addr×Obj):=(ziB g h L).filter λp=>decide (p.1≠d)
structure Mod(K:A0)(mg:A4)(base:Heap):Prop where
 kin:K.In base
 glob:base.Ns mainGlobals mg
 blt:∃mb,base.Ns builtinsNs mb/\∀x:Str,x≠"__name__"->mb x=bootBuiltins x
 nolimit:base.NoLimit
structure Cx where
 prog:Program
 w:World
 K:PySem.W.Frag
 mg:Str->Option Value
 base:Heap
 A:Around
 N:List Str
 s₀:Shared
 H₀:Hp
 env:Env
 outer:List Env
 stack:List Env
 ex:List Addr
 fn:Str->Bool
 calm:Bool
 pn:List (Addr×Obj)
 xe:Value->Shared->Prop
variable{X:Cx}
noncomputable def frs(l:List Env):List Addr:=l.filterMap (·.frame)
noncomputable abbrev Cx.fs(X:Cx):List Addr:=frs X.outer
def Vis(sc:Scope)(x:Str):Prop:=sc.names.lookup x=some .local\/sc.names.lookup x=some .cell\/sc.names.lookup x=some .free
def Loc(sc:Scope)(x:Str):Prop:=sc.names.lookup x=some .local\/sc.names.lookup x=some .cell
def zlg(env:Env)(h:Heap)(m:A4)(x:Str)(u:Am):Prop :=
 (env.kindOf x=some .local/\m x=some u)\/((env.kindOf x=some .cell\/env.kindOf x=some .free)/\∃c,env.cells.lookup x=some c/\h.IsCell c (some u))
structure Cx.Ok(X:Cx):Prop where
 mod:Mod X.K X.mg X.base
 kind:X.env.scope.kind=.function
 glob:X.env.globals=mainGlobals
 blt:X.env.builtins=builtinsNs
 above:X.s₀.heap.objs.size<=X.env.locals
 inj:∀x y c,X.env.cells.lookup x=some c->X.env.cells.lookup y=some c->x=y
 has:∀x,(X.env.kindOf x=some .cell\/X.env.kindOf x=some .free)->∃c,X.env.cells.lookup x=some c
 cab:∀x c,X.fn x=true->X.env.cells.lookup x=some c->X.s₀.heap.objs.size<=c
 hd:X.calm=true->X.A.handled=none
 frames:X.A.frames=some X.stack
 stk:X.stack=X.outer\/(X.stack=X.env::X.outer/\X.env.frame=some X.env.locals)
 exf:∀b∈X.ex,b≠X.env.locals/\∀x c,X.env.cells.lookup x=some c->c≠b
 bs:∀b o,X.base.get? b=some o->X.s₀.heap.get? b=some o/\X.H₀ b=none
 bsz:X.base.objs.size<=X.s₀.heap.objs.size
 noex:∀b o,X.base.get? b=some o->b∉X.ex
 exfs:∀b∈X.ex,b∉X.fs
 funs:X.s₀.heap.FunFrames X.base X.outer
 frf:∀b∈X.fs,X.H₀ b=none
structure Inv(X:Cx)(p5:A2)(σ:List Aq)(H:Hp)(s:An):Prop where
 ok:X.Ok
 os:s.os=X.s₀.os
 bare:AllBare s.gens
 base:Un X.fs X.ex X.H₀ H X.s₀.heap s.heap
 loc:∃m,s.heap.Ns X.env.locals m/\∀(i:Nat)(x:Str)(v:V),X.N[i]?=some x->σ[i]?=some (some v)->Vis X.env.scope x->∃u,RelV v u/\zlg X.env s.heap m x u
 cell:∀x c,X.env.cells.lookup x=some c->∃v,s.heap.IsCell c v
 free:H X.env.locals=none
 freeC:∀x c,X.env.cells.lookup x=some c->H c=none
 pin:∀p∈X.pn++p5,s.heap.get? p.1=some p.2/\H p.1=none/\p.1≠X.env.locals/\p.1∉X.fs/\∀v,p.2.data≠.cell v
 hok:HOk X.prog X.w H s.heap
 len:σ.length=X.N.length
section
variable{X:Cx}{p5:A2}{σ:List Aq}{H H':Hp}{s:An}{h':Heap}
def Cx.Ok.nofr(ok:X.Ok){o:Obj}(e:X.base.get? b=some o):b∉X.fs:=λhb=>by
 have:=(ok.funs.mem hb).1;rw[e]at this;cases this
def Inv.bs(I:Inv X p5 σ H s):∀b o,X.base.get? b=some o->s.heap.get? b=some o/\H b=none:=λb o e =>
 ⟨I.base.keep b o (I.ok.bs b o e).1 (I.ok.bs b o e).2 (I.ok.nofr e) (I.ok.noex b o e),I.base.free b o (I.ok.bs b o e).1 (I.ok.bs b o e).2 (I.ok.noex b o e)⟩
def Inv.bk(I:Inv X p5 σ H s):∀b o,X.base.get? b=some o->s.heap.get? b=some o:=λb o e=>(I.bs b o e).1
def Inv.mod(I:Inv X p5 σ H s):Mod X.K X.mg X.base:=I.ok.mod
def Inv.kIn(I:Inv X p5 σ H s):X.K.In s.heap:=I.ok.mod.kin.keeps I.bk
def Inv.nolimit(I:Inv X p5 σ H s):s.heap.NoLimit:=I.ok.mod.nolimit.keeps I.bk
def Inv.fr(I:Inv X p5 σ H s):∃m,Fr X.base X.env.locals s.heap m :=
 let⟨m,hn,_⟩:=I.loc
 ⟨m,hn,I.bk,bj I.ok.bsz I.ok.above⟩
def Inv.lt(I:Inv X p5 σ H s):X.env.locals<s.heap.objs.size:=by
 let⟨_,hn,_⟩:=I.loc;exact hn.lt
def Inv.sz(I:Inv X p5 σ H s):X.s₀.heap.objs.size<=s.heap.objs.size:=bj I.ok.above (b8 I.lt)
def Inv.nofs(I:Inv X p5 σ H s){a:Addr}(h:s.heap.objs.size<=a):a∉X.fs:=λhb=>by
 let⟨_,o,ho,_⟩:=I.ok.funs.mem hb;exact absurd (aM (aB ho) (bj I.sz h)) (cx _)
def Inv.cne(I:Inv X p5 σ H s):∀x c,X.env.cells.lookup x=some c->c≠X.env.locals:=λx c e z=>by
 let⟨v,o,ho,hd⟩:=I.cell x c e;let⟨m,⟨o',es,ep,ho',hd',_⟩,_⟩:=I.loc;rw[z,ho']at ho;cases ho;rw[hd']at hd;cases hd
def Inv.funs(I:Inv X p5 σ H s):s.heap.FunFrames X.base X.outer:=by
 have all:∀(l:List Env),(∀b∈frs l,b∈X.fs)->X.s₀.heap.FunFrames X.base l->s.heap.FunFrames X.base l:=by
  intro l
  induction l with
  |nil=>intro _ _;trivial
  |cons env r ih =>
   intro hs hl;let⟨hk,⟨L,o,hf,hn,ho,hd⟩,hr⟩:=hl;have hL:L∈X.fs:=hs L (by unfold frs;rw[b7,hf];exact aU);let⟨sl,e⟩:=I.base.slot L o ho (I.ok.frf L hL) hL λz=>I.ok.exfs L z hL;exact⟨hk,⟨L,_,hf,hn,e,hd⟩,ih (λb hb=>hs b (by unfold frs;rw[b7,hf];exact ay _ hb)) hr⟩
 exact all X.outer (λ_ hb=>hb) I.ok.funs
def Inv.stack(I:Inv X p5 σ H s):s.heap.FunFrames X.base X.stack:=by
 rcases I.ok.stk with e|⟨e,hf⟩
 .rw[e];exact I.funs
 .rw[e];let⟨m,hn,_⟩:=I.loc;refine .cons (by rw[I.ok.kind];decide) hf hn ?_ I.funs;exact Heap.get?_none_of_le (bj I.ok.bsz I.ok.above)
def Inv.stkSub(I:Inv X p5 σ H s):∀b∈frs X.stack,b∈X.env.locals::X.fs:=λb hb=>by
 rcases I.ok.stk with e|⟨e,hf⟩
 .rw[e]at hb;exact ay _ hb
 .rw[e]at hb;unfold frs at hb;rw[b7,hf]at hb;exact hb
def Inv.stkFree(I:Inv X p5 σ H s):∀b∈frs X.stack,H b=none:=λb hb=>by
 rcases av.mp (I.stkSub b hb)with e|hb
 .rw[e];exact I.free
 .obtain⟨_,o,ho,_⟩:=I.ok.funs.mem hb;exact I.base.free b o ho (I.ok.frf b hb) λz=>I.ok.exfs b z hb
def Inv.step{g':Array GenState}{d':Drawn}{ch:Ab}(I:Inv X p5 σ H s)(hch:∀b∈ch,(b∈X.ex\/X.s₀.heap.objs.size<=b)/\b≠X.env.locals/\(∀x c,X.env.cells.lookup x=some c->c≠b)/\∀p∈X.pn++p5,p.1≠b)(keep:∀b o,b≠X.env.locals->b∉X.fs->b∉ch->s.heap.get? b=some o->H b=none->h'.get? b=some o)(slot:∀b o,b≠X.env.locals->b∈X.fs->b∉ch->s.heap.get? b=some o->H b=none->∃sl,h'.get? b=some {o with slots:=sl})(free:∀b o,b∉ch->s.heap.get? b=some o->H b=none->H' b=none)(there:∀b o,b∉ch->s.heap.get? b=some o->∃o',h'.get? b=some o')(tups:∀b xs,H b=some (.tup xs)->H' b=some (.tup xs))(frzs:∀b o u,H b=some (.frz o u)->H' b=some (.frz o u))(tbls:∀b ps,H b=some (.tbl ps)->∃more,H' b=some (.tbl (ps++more)))(ns:∀m,s.heap.Ns X.env.locals m->h'.Ns X.env.locals m)(hok:HOk X.prog X.w H' h')(hg:AllBare g') :
  Inv X p5 σ H' {s with heap:=h',gens:=g',drawn:=d',toks:=t'}:=by
 have neL:∀b o,X.s₀.heap.get? b=some o->b≠X.env.locals:=λb o e=>aP (aM (aB e) I.ok.above);have neC:∀b o,X.s₀.heap.get? b=some o->b∉X.ex->b∉ch:=λb o e hx hb=>by
  rcases(hch b hb).1 with z|z
  .exact hx z
  .exact absurd (aM (aB e) z) (cx _)
 have cellK:∀x c,X.env.cells.lookup x=some c->∀v,s.heap.IsCell c v->h'.IsCell c v:=λx c e v ⟨o,ho,hd⟩=>by
  have nch:c∉ch:=λz=>(hch c z).2.2.1 x c e rfl;by_cases hc:c∈X.fs
  .obtain⟨sl,q⟩:=slot c o (I.cne x c e) hc nch ho (I.freeC x c e);exact⟨_,q,hd⟩
  .exact⟨o,keep c o (I.cne x c e) hc nch ho (I.freeC x c e),hd⟩
 refine⟨I.ok,I.os,hg,⟨λb o e n hb hx=>?_,λb o e n hb hx=>?_,λb o e n hx=>?_,λb o e hx=>?_,λb xs e=>tups b xs (I.base.tups b xs e),λb o xs e=>frzs b o xs (I.base.frzs b o xs e),λb ps e=>?_⟩,?_,λx c e=>?_,?_,λx c e=>?_,λp hp=>?_,hok,I.len⟩
 .exact keep b o (neL b o e) hb (neC b o e hx) (I.base.keep b o e n hb hx) (I.base.free b o e n hx)
 .obtain⟨sl,e1⟩:=I.base.slot b o e n hb hx;let⟨sl',e2⟩:=slot b _ (neL b o e) hb (neC b o e hx) e1 (I.base.free b o e n hx);exact⟨sl',e2⟩
 .obtain⟨o',e1⟩:=I.base.there b o e hx;exact free b o' (neC b o e hx) e1 (I.base.free b o e n hx)
 .obtain⟨o',e1⟩:=I.base.there b o e hx;exact there b o' (neC b o e hx) e1
 .obtain⟨m1,e1⟩:=I.base.tbls b ps e;let⟨m2,e2⟩:=tbls b _ e1;exact⟨m1++m2,by rw[e2,iH]⟩
 .obtain⟨m,hn,hl⟩:=I.loc;refine⟨m,ns m hn,λi x v e1 e2 e3=>?_⟩;let⟨u,r,l⟩:=hl i x v e1 e2 e3;refine⟨u,r,?_⟩;rcases l with l|⟨k,c,e,z⟩
  .exact .inl l
  .exact .inr ⟨k,c,e,cellK x c e _ z⟩
 .obtain⟨v,z⟩:=I.cell x c e;exact⟨v,cellK x c e v z⟩
 .obtain⟨m,⟨o,_,_,ho,_⟩,_⟩:=I.loc;exact free _ o (λz=>(hch _ z).2.1 rfl) ho I.free
 .obtain⟨v,o,ho,hd⟩:=I.cell x c e;exact free c o (λz=>(hch c z).2.2.1 x c e rfl) ho (I.freeC x c e)
 .obtain⟨e,n,ne,nf,d⟩:=I.pin p hp;have nch:p.1∉ch:=λz=>(hch p.1 z).2.2.2 p hp rfl;exact⟨keep p.1 p.2 ne nf nch e n,free p.1 p.2 nch e n,ne,nf,d⟩
def Inv.un(I:Inv X p5 σ H s)(u:Un X.fs [] H H' s.heap h')(hok:HOk X.prog X.w H' h'):Inv X p5 σ H' {s with heap:=h',toks:=t'}:=by
 let⟨m,⟨o,es,ep,ho,r⟩,_⟩:=id I.loc;let⟨sl,hL⟩:=u.any ho I.free (by simp);exact I.step (g':=s.gens) (d':=s.drawn) (ch:=[]) (λ_ z=>nomatch z) (λb o _ hb _ e n=>u.keep b o e n hb (by simp)) (λb o _ hb _ e n=>u.slot b o e n hb (by simp)) (λb o _ e n=>u.free b o e n (by simp)) (λb o _ e=>u.there b o e (by simp)) u.tups u.frzs u.tbls (λm' hm=>by
  let⟨o',es',ep',ho',r'⟩:=hm;rw[ho]at ho';cases ho';exact⟨_,es',ep',hL,r'⟩) hok I.bare
def Inv.call{g':Array GenState}{d':Drawn}{ch:Ab}(I:Inv X p5 σ H s)(u:Un (frs X.stack) ch H H' s.heap h')(hok:HOk X.prog X.w H' h')(hg:AllBare g')(hch:∀b∈ch,(b∈X.ex\/X.s₀.heap.objs.size<=b)/\b≠X.env.locals/\(∀x c,X.env.cells.lookup x=some c->c≠b)/\∀p∈X.pn++p5,p.1≠b) :
  Inv X p5 σ H' {s with heap:=h',gens:=g',drawn:=d',toks:=t'}:=by
 let⟨m,⟨o,es,ep,ho,r⟩,_⟩:=id I.loc;let⟨sl,hL⟩:=u.any ho I.free λz=>(hch _ z).2.1 rfl;exact I.step (ch:=ch) hch (λb o hL hb hc e n=>u.keep b o e n (λz=>(av.mp (I.stkSub b z)).elim hL hb) hc) (λb o _ _ hc e n=>u.any e n hc) (λb o hc e n=>u.free b o e n hc) (λb o hc e=>u.there b o e hc) u.tups u.frzs u.tbls (λm' hm=>by
  let⟨o',es',ep',ho',r'⟩:=hm;rw[ho]at ho';cases ho';exact⟨_,es',ep',hL,r'⟩) hok hg
def Inv.turned{it:Addr}(I:Inv X p5 σ H s)(k:∀b o,b≠it->s.heap.get? b=some o->h'.get? b=some o)(hn:H it=none)(hL:it≠X.env.locals)(h1:it∈X.ex\/X.s₀.heap.objs.size<=it)(h2:∀x c,X.env.cells.lookup x=some c->c≠it)(h3:∀p∈X.pn++p5,p.1≠it):Inv X p5 σ H {s with heap:=h',toks:=t'}:=by
 have nit:∀b u,H b=some u->b≠it:=λb u e z=>by rw[z,hn]at e;cases e
 refine I.step (g':=s.gens) (d':=s.drawn) (ch:=[it]) (λb hb=>?_) (λb o _ _ hc e _=>k b o (λz=>hc (by simp[z])) e) (λb o _ _ hc e _=>⟨o.slots,k b o (λz=>hc (by simp[z])) e⟩) (λ_ _ _ _ n=>n)
  (λb o hc e=>⟨o,k b o (λz=>hc (by simp[z])) e⟩) (λ_ _ e=>e) (λ_ _ _ e=>e) (λb ps e=>⟨#[],by rw[e];simp⟩) (λm hm=>?_) (λb u e=>?_) I.bare
 .have e:b=it:=by simpa using hb
  subst e;exact⟨h1,hL,h2,h3⟩
 .obtain⟨o,es,ep,ho,r⟩:=hm;exact⟨o,es,ep,k _ o (bb hL) ho,r⟩
 .refine(I.hok b u e).stay (λc v hc q=>k c v ?_ q) (λ_ q=>q) λ_ _ q=>q;rcases hc with z|z
  .rw[z];exact nit b u e
  .exact nit c _ z
def Inv.tok(I:Inv X p5 σ H s)(t:Nat):Inv X p5 σ H {s with toks:=t}:=I.un (h':=s.heap) (t':=t) Un.refl I.hok
def Inv.kept(I:Inv X p5 σ H s)(k:∀b u,s.heap.get? b=some u->h'.get? b=some u):Inv X p5 σ H {s with heap:=h',toks:=t'}:=I.un (Un.kept k) (I.hok.kept k)
def Inv.laid{a:Addr}(I:Inv X p5 σ H s)(k:∀b u,s.heap.get? b=some u->h'.get? b=some u)(hp:s.heap.objs.size<=a)(new:ObjOk X.prog X.w (upd H a o) h' a o) :
  Inv X p5 σ (upd H a o) {s with heap:=h',toks:=t'}:=I.un (Un.laid k hp (I.hok.fresh hp)) (I.hok.laid k hp new)
def Inv.write{x e:Addr}(I:Inv X p5 σ H s)(mu:Mut (H x))(he:e=x\/H e=some (.own x))(k:∀b u,b≠e->s.heap.get? b=some u->h'.get? b=some u)(heo:∃u,h'.get? e=some u)(new:ObjOk X.prog X.w (upd H x o) h' x o):Inv X p5 σ (upd H x o) {s with heap:=h',toks:=t'}:=I.un (Un.write mu he k heo) (I.hok.write mu he k heo new)
def Inv.pins_of{pins':A2}(I:Inv X p5 σ H s)(h:∀p∈pins',s.heap.get? p.1=some p.2/\H p.1=none/\p.1≠X.env.locals/\p.1∉X.fs/\∀v,p.2.data≠.cell v):Inv X pins' σ H s :=
 ⟨I.ok,I.os,I.bare,I.base,I.loc,I.cell,I.free,I.freeC,λp hp=>(aG.mp hp).elim (λz=>I.pin p (bA _ z)) (h p),I.hok,I.len⟩
def zbo{N:A8}(hN:N.Nodup){i j:Nat}(a:N[i]?=some x)(b:N[j]?=some x):i=j:=by
 let⟨h1,e1⟩:=aa.mp a;let⟨h2,e2⟩:=aa.mp b;exact(List.getElem_inj hN).mp (e1.trans e2.symm)
def Wx{v:V}{Q:Ag}(I:Inv X p5 σ H s)(hN:X.N.Nodup)(hi:X.N[i]?=some x)(hx:Loc X.env.scope x)(r:RelV v u)(h:∀s',Inv X p5 (σ.set i (some v)) H s'->(∃a,Heap.SameBut a s.heap s'.heap/\(a=X.env.locals\/X.env.cells.lookup x=some a))->Q () s')(hf:X.fn x=true\/X.env.scope.names.lookup x=some .local:=by walk_at"p"):wpAny M A (storeName X.env x u) Q E s:=by
 let⟨m,hn,hl⟩:=id I.loc;have hcls:(X.env.scope.kind == .class||(X.env.scope.kind == .module&&X.env.locals != X.env.globals))=false:=by rw[I.ok.kind];rfl
 have hiσ:i<σ.length:=by rw[I.len];exact(aa.mp hi).1
 have cne:=I.cne;have tracked:∀{a:Addr}{h':Heap},(∃o,s.heap.get? a=some o/\H a=none)->Heap.SameBut a s.heap h'->HOk X.prog X.w H h':=λ{a h'} ha hs b ob e=>by
  let⟨_,_,hfree⟩:=ha;refine(I.hok b ob e).stay (λc w' hc q=>(hs.2 c ?_).trans q) (λ_ q=>q) λ_ _ q=>q;rintro rfl;rcases hc with rfl|hc
  .rw[hfree]at e;cases e
  .rw[hfree]at hc;cases hc
 rcases hx with hk|hk
 .refine wpAny_storeName_local hk hn (λh' hn' hs=>?_) hcls;let⟨oL,_,_,hoL,_⟩:=id hn;refine h _ ⟨I.ok,I.os,I.bare,⟨λb o e n hb hx=>?_,λb o e n hb hx=>?_,I.base.free,λb o e hx=>?_,I.base.tups,I.base.frzs,I.base.tbls⟩,⟨_,hn',λj y v' e1 e2 e3=>?_⟩,λy c e=>?_,I.free,I.freeC,λp hp=>?_,tracked ⟨oL,hoL,I.free⟩ hs,by simpa using I.len⟩ ⟨_,hs,.inl rfl⟩
  .exact(hs.2 b (aP (aM (aB e) I.ok.above))).trans (I.base.keep b o e n hb hx)
  .obtain⟨sl,e1⟩:=I.base.slot b o e n hb hx;exact⟨sl,(hs.2 b (aP (aM (aB e) I.ok.above))).trans e1⟩
  .obtain⟨o',e1⟩:=I.base.there b o e hx;exact⟨o',(hs.2 b (aP (aM (aB e) I.ok.above))).trans e1⟩
  .by_cases hj:j=i
   .subst hj;rw[hi]at e1;cases e1;rw[a7 hiσ]at e2;cases e2;exact⟨u,r,.inl ⟨hk,by simp⟩⟩
   .rw[bh (bb hj)]at e2;let⟨u',r',q⟩:=hl j y v' e1 e2 e3;refine⟨u',r',?_⟩;rcases q with⟨k,e⟩|⟨k,c,e,z⟩
    .refine .inl ⟨k,?_⟩;have:y≠x:=λe=>hj (zbo hN e1 (e ▸ hi));simp[this,e]
    .exact .inr ⟨k,c,e,z.sameBut hs (cne y c e)⟩
  .obtain⟨w',z⟩:=I.cell y c e;exact⟨w',z.sameBut hs (cne y c e)⟩
  .obtain⟨e,n,ne,nf,d⟩:=I.pin p hp;exact⟨(hs.2 p.1 ne).trans e,n,ne,nf,d⟩
 .have hfn:X.fn x=true:=by
   rcases hf with z|z
   .exact z
   .rw[z]at hk;cases hk
  let⟨c,hc⟩:=I.ok.has x (.inl hk);let⟨w',z⟩:=I.cell x c hc;refine wpAny_storeName_cell I.ok.kind hk hc z (λh' hc' hs=>?_);let⟨oc,hoc,hocd⟩:=id z;refine h {s with heap:=h'} ⟨I.ok,I.os,I.bare,⟨λb o e n hb hx=>?_,λb o e n hb hx=>?_,I.base.free,λb o e hx=>?_,I.base.tups,I.base.frzs,I.base.tbls⟩,⟨m,hn.sameBut hs (bb (cne x c hc)),λj y v' e1 e2 e3=>?_⟩,λy c' e=>?_,I.free,I.freeC,λp hp=>?_,tracked ⟨oc,hoc,I.freeC x c hc⟩ hs,by simpa using I.len⟩ ⟨c,hs,.inr hc⟩
  .exact(hs.2 b (aP (aM (aB e) (I.ok.cab x c hfn hc)))).trans (I.base.keep b o e n hb hx)
  .obtain⟨sl,e1⟩:=I.base.slot b o e n hb hx;exact⟨sl,(hs.2 b (aP (aM (aB e) (I.ok.cab x c hfn hc)))).trans e1⟩
  .obtain⟨o',e1⟩:=I.base.there b o e hx;exact⟨o',(hs.2 b (aP (aM (aB e) (I.ok.cab x c hfn hc)))).trans e1⟩
  .by_cases hj:j=i
   .subst hj;rw[hi]at e1;cases e1;rw[a7 hiσ]at e2;cases e2;exact⟨u,r,.inr ⟨.inl hk,c,hc,hc'⟩⟩
   .rw[bh (bb hj)]at e2;let⟨u',r',q⟩:=hl j y v' e1 e2 e3;refine⟨u',r',?_⟩;rcases q with q|⟨k,c',e,z'⟩
    .exact .inl q
    .refine .inr ⟨k,c',e,z'.sameBut hs ?_⟩;rintro rfl;exact hj (zbo hN e1 (I.ok.inj _ _ _ e hc ▸ hi))
  .by_cases hcc:c'=c
   .subst hcc;exact⟨_,hc'⟩
   .obtain⟨w2,z2⟩:=I.cell y c' e;exact⟨w2,z2.sameBut hs hcc⟩
  .obtain⟨e,n,ne,nf,d⟩:=I.pin p hp;refine⟨(hs.2 p.1 ?_).trans e,n,ne,nf,d⟩;intro q;rw[q,hoc]at e;have q':oc=p.2:=aF e;exact d w' (by rw[<- q'];exact hocd)
def JO{v:V}{Q:Ag}(I:Inv X p5 σ H s)(hN:X.N.Nodup)(hi:X.N[i]?=some x)(hx:Loc X.env.scope x)(r:RelV v u)(h:∀s',Inv X p5 (σ.set i (some v)) H s'->Q () s')(hf:X.fn x=true\/X.env.scope.names.lookup x=some .local:=by walk_at"p"):wpAny M A (storeName X.env x u) Q E s :=
 Wx I hN hi hx r (λs' I' _=>h s' I') hf
def Inv.call'{s':An}{ch:Ab}(I:Inv X p5 σ H s)(ho:s'.os=s.os)(u:Un (frs X.stack) ch H H' s.heap s'.heap)(hok:HOk X.prog X.w H' s'.heap)(hg:AllBare s'.gens)(hch:∀b∈ch,(b∈X.ex\/X.s₀.heap.objs.size<=b)/\b≠X.env.locals/\(∀x c,X.env.cells.lookup x=some c->c≠b)/\∀p∈X.pn++p5,p.1≠b):Inv X p5 σ H' s':=by
 let⟨h',g',d',t',o'⟩:=s';have e:o'=s.os:=ho;subst e;exact I.call (g':=g') (t':=t') (d':=d') u hok hg hch
end
abbrev XK:=Value->Option Addr->Hp->Prop
abbrev St:=List Aq
variable{σ:St}
abbrev VK:=V->Hp->Prop
abbrev TE:=St->Hp->VK->Prop
abbrev TT:=St->Hp->(Bool->Hp->Prop)->Prop
abbrev TA:=St->Hp->(List V->Hp->Prop)->Prop
structure Ends where
 nx:St->Hp->Prop
 rt:VK
 bk:St->Hp->Prop:=λ_ _=>False
 ct:St->Hp->Prop:=λ_ _=>False
abbrev TS:=Ends->St->Hp->Prop
def EP(X:Cx)(p5:A2)(σ:St)(Q:VK)(u:Am)(s':An):Prop:=∃v H',Inv X p5 σ H' s'/\RelV v u/\Q v H'
def TP(X:Cx)(p5:A2)(σ:St)(Q:Bool->Hp->Prop)(b:Bool)(s':An):Prop:=∃H',Inv X p5 σ H' s'/\Q b H'
def AP(X:Cx)(p5:A2)(σ:St)(Q:List V->Hp->Prop)(us:A7)(s':An):Prop:=∃vs H',Inv X p5 σ H' s'/\Vals vs us/\Q vs H'
def SP(X:Cx)(p5:A2)(D:Ends)(f:Flow)(s':An):Prop :=
 match f with
 | .next=>∃σ' H',Inv X p5 σ' H' s'/\D.nx σ' H'
 | .brk=>∃σ' H',Inv X p5 σ' H' s'/\D.bk σ' H'
 | .cont=>∃σ' H',Inv X p5 σ' H' s'/\D.ct σ' H'
 | .ret u=>∃v σ' H',Inv X p5 σ' H' s'/\RelV v u/\D.rt v H'
def PE(X:Cx)(e:Expr)(t:TE):Prop :=
 ∀(p5:A2)(s:An)(σ:St)(H:Hp)(Q:VK),Inv X p5 σ H s->t σ H Q->wpAny (model X.prog X.w) X.A (eval e X.env) (EP X p5 σ Q) X.xe s
def PT(X:Cx)(e:Expr)(t:TT):Prop :=
 ∀(p5:A2)(s:An)(σ:St)(H:Hp)(Q:Bool->Hp->Prop),Inv X p5 σ H s->t σ H Q->wpAny (model X.prog X.w) X.A (isTrue e X.env (eval e X.env)) (TP X p5 σ Q) X.xe s
def PW(X:Cx)(e:Expr)(t:TT):Prop :=
 ∀(whole:Sem Value)(p5:A2)(s:An)(σ:St)(H:Hp)(Q:Bool->Hp->Prop),Inv X p5 σ H s->t σ H Q->wpAny (model X.prog X.w) X.A (isTrue e X.env whole) (TP X p5 σ Q) X.xe s
def PW.pt{e:Expr}{t:TT}(h:PW X e t):PT X e t:=h _
def PA(X:Cx)(es:List Expr)(t:TA):Prop :=
 ∀(pos:Pos)(p5:A2)(s:An)(σ:St)(H:Hp)(Q:List V->Hp->Prop),Inv X p5 σ H s->t σ H Q->wpAny (model X.prog X.w) X.A (spliced (backTo pos (starEach es X.env))) (AP X p5 σ Q) X.xe s
def PS(X:Cx)(st:Stmt)(t:TS):Prop :=
 ∀(p5:A2)(s:An)(σ:St)(H:Hp)(D:Ends),Inv X p5 σ H s->t D σ H->wpAny (model X.prog X.w) X.A (exec st X.env) (SP X p5 D) X.xe s
def PSs(X:Cx)(st:List Stmt)(t:TS):Prop :=
 ∀(p5:A2)(s:An)(σ:St)(H:Hp)(D:Ends),Inv X p5 σ H s->t D σ H->wpAny (model X.prog X.w) X.A (execs st X.env) (SP X p5 D) X.xe s
def thn{α:Type}{t:Sem α}{Q Q':α->Shared->Prop}(h:wpAny M A t Q E s)(hQ:∀a s,Q a s->Q' a s):wpAny M A t Q' E s:=aZ h hQ λ_ _ x=>x
def qI{Q:VK}{t:Sem Value}{Q':A3}(h:wpAny M A t (EP X p5 σ Q) E s)(k:∀u s1 x H1,Inv X p5 σ H1 s1->RelV x u->Q x H1->Q' u s1):wpAny M A t Q' E s:=thn h λu s1 e=>by
 let⟨x,H1,I1,r,q⟩:=e;exact k u s1 x H1 I1 r q
def vo{Q:List V->Hp->Prop}{t:Sem A7}{Q':List Value->Shared->Prop}(h:wpAny M A t (AP X p5 σ Q) E s)(k:∀us s1 vs H1,Inv X p5 σ H1 s1->Vals vs us->Q vs H1->Q' us s1):wpAny M A t Q' E s:=thn h λu s1 e=>by
 let⟨x,H1,I1,r,q⟩:=e;exact k u s1 x H1 I1 r q
section
variable{X:Cx}
def bq:V->(Bool->Prop)->Prop
 | .bl k,P=>P k
 |_,_=>False
def XR{x:V}{P:Bool->Prop}(h:bq x P):∃k,x=.bl k/\P k:=by
 cases x<;>first|exact⟨_,rfl,h⟩|exact False.elim h
def iq:V->(Int->Prop)->Prop
 | .int i,P=>P i
 |_,_=>False
def Qm{x:V}{P:Int->Prop}(h:iq x P):∃i,x=.int i/\P i:=by
 cases x<;>first|exact⟨_,rfl,h⟩|exact False.elim h
def QO{x y:V}{P:Int->Int->Prop}(h:iq x λi=>iq y λj=>P i j):∃i j,x=.int i/\y=.int j/\P i j:=by
 let⟨i,e,h⟩:=Qm h;let⟨j,e2,h⟩:=Qm h;exact⟨i,j,e,e2,h⟩
def nq:V->Prop->Prop
 | .non,P=>P
 |_,_=>False
def zdG{x:V}{P:Prop}(h:nq x P):x=.non/\P:=by
 cases x<;>first|exact⟨rfl,h⟩|exact False.elim h
def lq:List V->(V->Prop)->Prop
 |[v],P=>P v
 |_,_=>False
theorem zgB:∀{xs:Ap}{P:V->Prop},lq xs P->∃v,xs=[v]/\P v
 |[_],_,h=>⟨_,rfl,h⟩
 |[],_,h=>h.elim
 |_::_::_,_,h=>h.elim
def vq:Option Aq->(V->Prop)->Prop
 |some (some v),P=>P v
 |_,_=>False
theorem ziI:∀{o:Option Aq}{P:V->Prop},vq o P->∃v,o=some (some v)/\P v
 |some (some v),_,h=>⟨v,rfl,h⟩
 |some none,_,h=>h.elim
 |none,_,h=>h.elim
def szl(xs:Ap)(P:Prop):Prop:=cond (Nat.ble xs.length 12) P False
def zch{xs:Ap}{P:Prop}(h:szl xs P):xs.length<=sizeLine/\P:=by
 unfold szl at h;cases e:Nat.ble xs.length 12 with
 |true=>rw[e]at h;exact⟨bj (Nat.le_of_ble_eq_true e) (by decide),h⟩
 |false=>rw[e]at h;exact h.elim
def tVar(i:Nat):TE:=λσ H Q=>vq σ[i]? λv=>Q v H
def tC(v:V):TE:=λ_ H Q=>Q v H
def zjo(hN:X.N[i]?=some x)(hv:Vis X.env.scope x)(hd:(x == ("__debug__":Str))=false:=by decide)(hcd:(x == ("__classdict__":Str))=false:=by decide):PE X (.Name x pos) (tVar i):=by
 intro p5 s σ H Q I h;let⟨v,e,h⟩:=ziI h;let⟨m,hn,hl⟩:=I.loc;let⟨u,r,l⟩:=hl i x v hN e hv;have fin:EP X p5 σ Q u s:=⟨v,H,I,r,h⟩;rcases l with⟨hk,hm⟩|⟨hk,c,hc,hcell⟩
 .exact wpAny_Name (wpAny_loadName_local I.ok.kind hk hn hm fin) hd
 .rcases hk with hk|hk
  .exact wpAny_Name (wpAny_loadName_cell I.ok.kind hk hc hcell fin) hd
  .exact wpAny_Name (wpAny_loadName_free I.ok.kind hk hc hcell fin hcd) hd
def ze{i j pos}:PE X (.Constant (.int i) j pos) (tC (.int i)):=λ_ _ _ H _ I h=>wpAny_Constant_int ⟨.int i,H,I.tok _,⟨_,rfl⟩,h⟩
def zbh{b j pos}:PE X (.Constant (.bool b) j pos) (tC (.bl b)):=λ_ _ _ H _ I h=>Constant_bool ⟨.bl b,H,I,rfl,h⟩
def zC{j pos}:PE X (.Constant .none j pos) (tC .non):=λ_ _ _ H _ I h=>Constant_none ⟨.non,H,I,rfl,h⟩
def zS{x j pos}:PE X (.Constant (.str x) j pos) (tC (.str x)):=λ_ _ _ H _ I h=>Calls.Constant_str ⟨.str x,H,I.tok _,⟨_,rfl⟩,h⟩
def Gl(X:Cx)(x:Str):Prop:=X.env.kindOf x=some .globalImplicit
def jO(I:Inv X p5 σ H s)(hg:Gl X x)(hm:X.mg x=some u)(h:Q u s)(hd:(x == ("__debug__":Str))=false:=by decide):wpAny (model X.prog X.w) X.A (eval (.Name x pos) X.env) Q E s :=
 ig I.ok.kind hg (Calls.loadGlobal_global (by rw[I.ok.glob];exact I.mod.glob.keeps I.bk) hm h) hd
def vS(I:Inv X p5 σ H s)(hg:Gl X x)(hm:X.mg x=none)(hv:bootBuiltins x=some u)(h:Q u s)(hn:x≠"__name__":=by decide)(hd:(x == ("__debug__":Str))=false:=by decide):wpAny (model X.prog X.w) X.A (eval (.Name x pos) X.env) Q E s:=by
 let⟨mb,h1,h2⟩:=I.mod.blt;exact ig I.ok.kind hg (Calls.loadGlobal_builtin (by rw[I.ok.glob];exact I.mod.glob.keeps I.bk) hm (by rw[I.ok.blt];exact h1.keeps I.bk) ((h2 x hn).trans hv) h) hd
variable{a b:Expr}{ta tb:TE}{pos:Pos}
def PC(X:Cx)(op:CmpOp)(a b:Expr)(t:TE):Prop :=
 ∀(p5:A2)(s:An)(σ:St)(H:Hp)(Q:VK),Inv X p5 σ H s->t σ H Q ->
  wpAny (model X.prog X.w) X.A (eval a X.env) (λv s₁=>wpAny (model X.prog X.w) X.A (eval b X.env) (λu s₂=>wpAny (model X.prog X.w) X.A (compareOp op v u) (EP X p5 σ Q) X.xe s₂) X.xe s₁) X.xe s
def nobehind(b:Expr)(h:op≠.In)(h2:op≠.NotIn):behindInMarks op b=false:=by
 have e1:(op == CmpOp.In)=false:=by cases op<;>first|rfl|exact absurd rfl h
 have e2:(op == CmpOp.NotIn)=false:=by cases op<;>first|rfl|exact absurd rfl h2
 cases b<;>simp[behindInMarks,e1,e2]
def RelV.none_iff{x:V}{v:Am}(r:RelV x v):(v == Value.none)=decide (x=.non):=by
 cases x with
 |non=>cases r;rfl
 |bl _=>cases r;rfl
 |int _=>let⟨t,rfl⟩:=r;rfl
 |str _=>let⟨t,rfl⟩:=r;rfl
 |byt _=>let⟨t,rfl⟩:=r;rfl
 |flt _=>let⟨t,rfl⟩:=r;rfl
 |ref _=>cases r;rfl
 |ty _=>cases r;rfl
def tB(t:TE):TT:=λσ H Q=>t σ H λx H1=>bq x λc=>Q c H1
def zga{t:TE}(h:PC X op a b t)(h1:behindInMarks op b=false:=by walk_at"q"):PT X (.Compare a [op] [b] pos) (tB t):=by
 intro p5 s σ H Q I hw;refine wpAny_isTrue_Compare1 (thn (h p5 s σ H _ I hw) λv s1 h1=>thn h1 λu s2 h2=>thn h2 λc s3 ⟨x,H1,I1,r1,q1⟩=>?_) h1;let⟨d,rfl,q⟩:=XR q1;cases r1;exact bX ⟨H1,I1,q⟩
variable{tA tB':TT}{rest:List Expr}
def tAnd(t u:TT):TT:=λσ H Q=>t σ H λc H1=>if c=true then u σ H1 Q else Q false H1
def tOr(t u:TT):TT:=λσ H Q=>t σ H λc H1=>if c=true then Q true H1 else u σ H1 Q
def tNot(t:TT):TT:=λσ H Q=>t σ H λc H1=>Q (!c) H1
def pw_and1(ha:PT X a tA):PW X (.BoolOp .And [a] pos) tA:=by
 intro wh p5 s σ H Q I h;refine isTrue_and (thn (ha p5 s σ H Q I h) λc s1 e=>?_);cases c with
 |true=>exact isTrue_and_nil e
 |false=>exact e
def pw_or1(ha:PT X a tA):PW X (.BoolOp .Or [a] pos) tA:=by
 intro wh p5 s σ H Q I h;refine isTrue_or (thn (ha p5 s σ H Q I h) λc s1 e=>?_);cases c with
 |false=>exact isTrue_or_nil e
 |true=>exact e
def pw_and(ha:PT X a tA)(hb:PW X (.BoolOp .And (b::rest) pos) tB'):PW X (.BoolOp .And (a::b::rest) pos) (tAnd tA tB'):=by
 intro wh p5 s σ H Q I h;refine isTrue_and (thn (ha p5 s σ H _ I h) λc s1 ⟨H1,I1,q1⟩=>?_);cases c with
 |true=>exact hb wh p5 s1 σ H1 Q I1 q1
 |false=>exact⟨H1,I1,q1⟩
def pw_or(ha:PT X a tA)(hb:PW X (.BoolOp .Or (b::rest) pos) tB'):PW X (.BoolOp .Or (a::b::rest) pos) (tOr tA tB'):=by
 intro wh p5 s σ H Q I h;refine isTrue_or (thn (ha p5 s σ H _ I h) λc s1 ⟨H1,I1,q1⟩=>?_);cases c with
 |true=>exact⟨H1,I1,q1⟩
 |false=>exact hb wh p5 s1 σ H1 Q I1 q1
def jp(ha:PT X a tA):PT X (.UnaryOp .Not a pos) (tNot tA):=by
 intro p5 s σ H Q I h;exact isTrue_not (ha p5 s σ H (λc H1=>Q (!c) H1) I h)
def tAndV(ta tb:TE):TE:=λσ H Q=>ta σ H λx H1=>bq x λc=>if c=true then tb σ H1 Q else Q (.bl false) H1
def zgh{op}{t:TE}(h:PE X a t):PE X (.BoolOp op [a] pos) t:=λp5 s σ H Q I hw=>BoolOp_one (h p5 s σ H Q I hw)
def zgm(ha:PE X a ta)(hb:PE X (.BoolOp .And (b::rest) pos) tb):PE X (.BoolOp .And (a::b::rest) pos) (tAndV ta tb):=by
 intro p5 s σ H Q I h;refine BoolOp_and (qI (ha p5 s σ H _ I h) λv s1 x H1 I1 r1 q1=>?_);let⟨c,rfl,q1⟩:=XR q1;cases r1;refine bX ?_;cases c with
 |true=>exact hb p5 s1 σ H1 Q I1 q1
 |false=>exact⟨.bl false,H1,I1,rfl,q1⟩
def tIf(t:TT)(ta tb:TE):TE:=λσ H Q=>t σ H λc H1=>if c=true then ta σ H1 Q else tb σ H1 Q
def wq{c:Expr}(hc:PT X c tA)(ha:PE X a ta)(hb:PE X b tb):PE X (.IfExp c a b pos) (tIf tA ta tb):=by
 intro p5 s σ H Q I h;refine wpAny_IfExp (thn (hc p5 s σ H _ I h) λd s1 ⟨H1,I1,q1⟩=>?_);cases d with
 |true=>exact ha p5 s1 σ H1 Q I1 q1
 |false=>exact hb p5 s1 σ H1 Q I1 q1
end
def SqL(K:A0)(H:Hp)(a:Addr)(xs:Ap):Prop :=
 Rd H a (.lst xs) \/
  ∃(o:Obj)(pi:Ac)(n:Nat),K.lookup a=some o/\o.cls=.type "list"/\o.dict=none/\o.data=.seq pi n/\pi.size<=sizeLine/\Vals xs pi.toList
def SqT(K:A0)(H:Hp)(a:Addr)(xs:Ap):Prop :=
 Rd H a (.tup xs) \/
  ∃(o:Obj)(pi:Ac)(n:Nat),K.lookup a=some o/\o.cls=.type "tuple"/\o.data=.seq pi n/\pi.size<=sizeLine/\Vals xs pi.toList
noncomputable def zle:Value->Option V
 | .none=>some .non
 | .bool b=>some (.bl b)
 | .int i _=>some (.int i)
 | .str x _=>some (.str x)
 | .bytes b _=>some (.byt b)
 | .float b _=>some (.flt b)
 | .ref a=>some (.ref a)
 | .type n=>some (.ty n)
 |_=>none
def RelV.abs{x:V}(r:RelV x u):zle u=some x:=by
 cases x with
 |non=>cases r;rfl
 |bl _=>cases r;rfl
 |int _=>let⟨t,rfl⟩:=r;rfl
 |str _=>let⟨t,rfl⟩:=r;rfl
 |byt _=>let⟨t,rfl⟩:=r;rfl
 |flt _=>let⟨t,rfl⟩:=r;rfl
 |ref _=>cases r;rfl
 |ty _=>cases r;rfl
def RelV.inj{x y:V}(r:RelV x u)(q:RelV y u):x=y:=aF (r.abs.symm.trans q.abs)
theorem Vals.inj:∀{xs ys:Ap}{us:A7},Vals xs us->Vals ys us->xs=ys
 |_,_,_,.nil,.nil=>rfl
 |_,_,_,.cons r t,.cons r' t'=>by rw[r.inj r',Vals.inj t t']
section
variable{X:Cx}{p5:A2}{σ:St}{H:Hp}{s:An}{a:Addr}{xs ys:Ap}
def SqL.of(h:H a=some (.lst xs)):SqL K H a xs:=.inl (.inl h)
def SqT.of(h:H a=some (.tup xs)):SqT K H a xs:=.inl (.inl h)
def Inv.list(I:Inv X p5 σ H s)(h:SqL X.K H a xs):∃pi:List Value,Vals xs pi/\PlainL s.heap a pi.toArray/\xs.length<=sizeLine:=by
 rcases h with h|⟨o,pi,n,hk,hc,hd,hs,hz,r⟩
 .obtain⟨z,pi,n,r,e⟩:=h.ok I.hok;exact⟨pi,r,⟨_,n,e,rfl,rfl,rfl⟩,z⟩
 .refine⟨pi.toList,r,⟨o,n,I.kIn a o hk,hc,hd,by simpa using hs⟩,?_⟩;have e:=r.length;simp only[aK]at e
  lia
def Inv.tuple(I:Inv X p5 σ H s)(h:SqT X.K H a xs):∃pi:List Value,Vals xs pi/\IsTup s.heap a pi.toArray/\xs.length<=sizeLine:=by
 rcases h with h|⟨o,pi,n,hk,hc,hs,hz,r⟩
 .obtain⟨z,pi,r,p⟩:=h.ok I.hok;exact⟨pi,r,p,z⟩
 .refine⟨pi.toList,r,⟨o,I.kIn a o hk,hc,n,by simpa using hs⟩,?_⟩;have e:=r.length;simp only[aK]at e
  lia
def Inv.list_inj(I:Inv X p5 σ H s)(h:SqL X.K H a xs)(h':SqL X.K H a ys):xs=ys:=by
 let⟨pi,r,⟨o,n,e,_,_,d⟩,_⟩:=I.list h;let⟨its',r',⟨o',n',e',_,_,d'⟩,_⟩:=I.list h';rw[e]at e';cases e';rw[d]at d';injection d' with d1 _
 have:pi=its':=by simpa using bn Array.toList d1
 subst this;exact r.inj r'
def Inv.tuple_inj(I:Inv X p5 σ H s)(h:SqT X.K H a xs)(h':SqT X.K H a ys):xs=ys:=by
 let⟨pi,r,⟨o,e,_,n,d⟩,_⟩:=I.tuple h;let⟨its',r',⟨o',e',_,n',d'⟩,_⟩:=I.tuple h';rw[e]at e';cases e';rw[d]at d';injection d' with d1 _
 have:pi=its':=by simpa using bn Array.toList d1
 subst this;exact r.inj r'
end
noncomputable abbrev Cx.wish(X:Cx)(E:A3):Cx:={X with xe:=E}
noncomputable abbrev Cx.nox(X:Cx):Cx:=X.wish λ_ _=>False
def Cx.Ok.wish(ok:X.Ok)(E:A3):(X.wish E).Ok :=
 ⟨ok.mod,ok.kind,ok.glob,ok.blt,ok.above,ok.inj,ok.has,ok.cab,ok.hd,ok.frames,ok.stk,ok.exf,ok.bs,ok.bsz,ok.noex,ok.exfs,ok.funs,ok.frf⟩
def Cx.Ok.unwish(ok:(X.wish E).Ok):X.Ok :=
 ⟨ok.mod,ok.kind,ok.glob,ok.blt,ok.above,ok.inj,ok.has,ok.cab,ok.hd,ok.frames,ok.stk,ok.exf,ok.bs,ok.bsz,ok.noex,ok.exfs,ok.funs,ok.frf⟩
section
variable{X:Cx}{p5:A2}{σ:St}{H:Hp}{s:An}{E:A3}
def Inv.wish(I:Inv X p5 σ H s)(E:A3):Inv (X.wish E) p5 σ H s:=⟨I.ok.wish E,I.os,I.bare,I.base,I.loc,I.cell,I.free,I.freeC,I.pin,I.hok,I.len⟩
def Inv.unwish(I:Inv (X.wish E) p5 σ H s):Inv X p5 σ H s:=⟨I.ok.unwish,I.os,I.bare,I.base,I.loc,I.cell,I.free,I.freeC,I.pin,I.hok,I.len⟩
def SP.unwish{D:Ends}{f:Flow}{s':An}(h:SP (X.wish E) p5 D f s'):SP X p5 D f s':=by
 cases f with
 |next=>let⟨σ',H',I,q⟩:=h;exact⟨σ',H',I.unwish,q⟩
 |brk=>let⟨σ',H',I,q⟩:=h;exact⟨σ',H',I.unwish,q⟩
 |cont=>let⟨σ',H',I,q⟩:=h;exact⟨σ',H',I.unwish,q⟩
 |ret u=>let⟨v,σ',H',I,r,q⟩:=h;exact⟨v,σ',H',I.unwish,r,q⟩
def PE.nox{e:Expr}{t:TE}(h:PE X.nox e t):PE X e t:=λp5 s σ H Q I hw =>
 aZ (h p5 s σ H Q (I.wish _) hw) (λ_ _ ⟨v,H',I',r,q⟩=>⟨v,H',I'.unwish,r,q⟩) λ_ _ z=>False.elim z
def PT.nox{e:Expr}{t:TT}(h:PT X.nox e t):PT X e t:=λp5 s σ H Q I hw =>
 aZ (h p5 s σ H Q (I.wish _) hw) (λ_ _ ⟨H',I',q⟩=>⟨H',I'.unwish,q⟩) λ_ _ z=>False.elim z
def PSs.nox{st:List Stmt}{t:TS}(h:PSs X.nox st t):PSs X st t:=λp5 s σ H D I hw =>
 aZ (h p5 s σ H D (I.wish _) hw) (λ_ _ q=>q.unwish) λ_ _ z=>False.elim z
end
section
variable{X:Cx}{st:Stmt}{rest:List Stmt}{t u:TS}{e:Expr}{te:TE}{pos:Pos}
def tNext:TS:=λD σ H=>D.nx σ H
def tSeq(t u:TS):TS:=λD σ H=>t {D with nx:=u D} σ H
def zp:PSs X [] tNext:=λ_ _ σ H _ I h=>c9 ⟨σ,H,I,h⟩
def zi(h1:PS X st t)(h2:PSs X rest u):PSs X (st::rest) (tSeq t u):=by
 intro p5 s σ H D I h;refine fS (thn (h1 p5 s σ H {D with nx:=u D} I h) λf s1 q=>?_);cases f with
 |next =>
  let⟨σ',H',I',q⟩:=q;exact h2 p5 s1 σ' H' D I' q
 |ret v=>exact q
 |brk=>exact q
 |cont=>exact q
def zd(h1:PS X st t):PSs X [st] t:=by
 intro p5 s σ H D I h;refine fS (thn (h1 p5 s σ H D I h) λf s1 q=>?_);cases f with
 |next=>exact c9 q
 |ret v=>exact q
 |brk=>exact q
 |cont=>exact q
def tBreak:TS:=λD σ H=>D.bk σ H
def zgd:PS X (.Break pos) tBreak:=λ_ _ σ H _ I h=>wpAny_Break ⟨σ,H,I,h⟩
def Inv.quiet(I:Inv X p5 σ H s):interactive X.env=false:=by simp[interactive,I.ok.kind]
def tDrop(te:TE):TS:=λD σ H=>te σ H λ_ H1=>D.nx σ H1
def zH(he:PE X e te)(hs:swapsWith e none pos.line X.env=pure false:=by rfl):PS X (.Expr e pos) (tDrop te):=by
 intro p5 s σ H D I h;exact wpAny_Expr_any (qI (he p5 s σ H _ I h) λv s1 x H1 I1 r1 q1=>⟨σ,H1,I1,q1⟩) I.quiet hs
def tRet(te:TE):TS:=λD σ H=>te σ H D.rt
def zl(he:PE X e te):PS X (.Return (some e) pos) (tRet te):=by
 intro p5 s σ H D I h;exact wpAny_Return_some (qI (he p5 s σ H _ I h) λv s1 x H1 I1 r1 q1=>⟨x,σ,H1,I1,r1,q1⟩)
def tIfS(c:TT)(t u:TS):TS:=λD σ H=>c σ H λb H1=>if b=true then t D σ H1 else u D σ H1
def zF{c:Expr}{a b:List Stmt}{tc:TT}(hc:PT X c tc)(ha:PSs X a t)(hb:PSs X b u):PS X (.If c a b pos) (tIfS tc t u):=by
 intro p5 s σ H D I h;refine wpAny_If (thn (hc p5 s σ H _ I h) λd s1 ⟨H1,I1,q1⟩=>?_);cases d with
 |true=>exact ha p5 s1 σ H1 D I1 q1
 |false=>exact hb p5 s1 σ H1 D I1 q1
def tNever:TS:=λ_ _ _=>False
def zgc:PS X st tNever:=λ_ _ _ _ _ _ h=>h.elim
end
abbrev TG:=V->St->Hp->(St->Hp->Prop)->Prop
abbrev TGs:=List V->St->Hp->(St->Hp->Prop)->Prop
def PG(X:Cx)(target:Expr)(t:TG):Prop :=
 ∀(p5:A2)(s:An)(σ:St)(H:Hp)(v:V)(u:Am)(Q:St->Hp->Prop),Inv X p5 σ H s->RelV v u->t v σ H Q ->
  wpAny (model X.prog X.w) X.A (assign target X.env u) (λ_ s'=>∃σ' H',Inv X p5 σ' H' s'/\Q σ' H') X.xe s
def PGs(X:Cx)(ts:List Expr)(t:TGs):Prop :=
 ∀(p5:A2)(s:An)(σ:St)(H:Hp)(vs:Ap)(us:A7)(Q:St->Hp->Prop),Inv X p5 σ H s->Vals vs us->t vs σ H Q ->
  wpAny (model X.prog X.w) X.A (assignInOrder ((assignEach ts X.env).map (·.2)) us) (λ_ s'=>∃σ' H',Inv X p5 σ' H' s'/\Q σ' H') X.xe s
abbrev zho:=V->V->V->Hp->(Hp->Prop)->Prop
def zke(X:Cx)(t:zho):Prop :=
 ∀(p5:A2)(s:An)(σ:St)(H:Hp)(o i v:V)(ov iv u:Am)(Q:Hp->Prop),Inv X p5 σ H s->RelV o ov->RelV i iv->RelV v u->t o i v H Q ->
  wpAny (model X.prog X.w) X.A (setItem ov iv u) (λ_ s'=>∃H',Inv X p5 σ H' s'/\Q H') X.xe s
abbrev TIp:=V->V->Hp->VK->Prop
def PIp(X:Cx)(op:Operator)(t:TIp):Prop :=
 ∀(p5:A2)(s:An)(σ:St)(H:Hp)(x y:V)(v u:Am)(Q:VK),Inv X p5 σ H s->RelV x v->RelV y u->t x y H Q ->
  wpAny (model X.prog X.w) X.A (inplaceOp op v u) (EP X p5 σ Q) X.xe s
section
variable{X:Cx}{pos:Pos}
def gName(i:Nat):TG:=λv σ H Q=>Q (σ.set i (some v)) H
def Zf(hN:X.N.Nodup)(hi:X.N[i]?=some x)(hx:Loc X.env.scope x)(hf:X.fn x=true\/X.env.scope.names.lookup x=some .local:=by walk_at"p"):PG X (.Name x pos) (gName i):=by
 intro p5 s σ H v u Q I r h;exact wpAny_assign_Name (JO I hN hi hx r (λs' I'=>⟨_,H,I',h⟩) hf)
def gNil:TGs:=λvs σ H Q=>vs=[]/\Q σ H
def gCons(t:TG)(u:TGs):TGs:=λvs σ H Q=>∃v r,vs=v::r/\t v σ H λσ' H'=>u r σ' H' Q
def xj:PGs X [] gNil:=by
 intro p5 s σ H vs us Q I r h;let⟨e,h⟩:=h;subst e;cases r;exact assignInOrder_nil ⟨σ,H,I,h⟩
theorem qt{e:Expr}{es:List Expr}{t:TG}{u:TGs}(h1:PG X e t)(h2:PGs X es u)(hs:(assignEach (e::es) X.env).map (·.2)=assign e X.env::(assignEach es X.env).map (·.2):=by rfl):PGs X (e::es) (gCons t u):=by
 intro p5 s σ H vs us Q I r h;let⟨v,vr,e1,h⟩:=h;subst e1;cases r with
 |cons r rr =>
  rw[hs];refine assignInOrder_cons (thn (h1 p5 s σ H _ _ _ I r h) λ_ s1 ⟨σ1,H1,I1,q1⟩=>?_);exact h2 p5 s1 σ1 H1 _ _ Q I1 rr q1
def gTup(K:A0)(n:Nat)(t:TGs):TG:=λv σ H Q=>∃a xs,v=.ref a/\SqT K H a xs/\xs.length=n/\t xs σ H Q
def wH{es:List Expr}{t:TGs}{n:Nat}(hc:X.calm=true)(h:PGs X es t)(hn:(assignEach es X.env).length=n:=by rfl)(hst:(assignEach es X.env).findIdx? (·.1)=none:=by rfl):PG X (.Tuple es k pos) (gTup X.K n t):=by
 intro p5 s σ H v u Q I r hw;let⟨a,xs,e1,hq,hl,hw⟩:=hw;subst e1;cases r;let⟨pi,rv,ht,hz⟩:=I.tuple hq;refine assign_Tuple_tuple (I.ok.hd hc) ht (by simp[hn,<- hl,rv.length]) hst λh' hx=>?_;have I1:Inv X p5 σ H {s with heap:=h'}:=I.kept (t':=s.toks) λb o e=>hx b o (aP (aB e)) e;exact h p5 _ σ H xs _ Q I1 (by simpa using rv) hw
def gSub(to ti:TE)(t:zho):TG:=λv σ H Q=>to σ H λo H1=>ti σ H1 λi H2=>t o i v H2 λH3=>Q σ H3
def Xf{o i:Expr}{to ti:TE}{t:zho}(ho:PE X o to)(hi:PE X i ti)(hs:zke X t)(ha:∀v,assign (.Subscript o i pos) X.env v=(do
   let ov <- holding [v] (eval o X.env)
   let iv <- holding [v,ov] (eval i X.env)
   standAt pos
   holding [v,ov,iv] (setItem ov iv v)
   release [v,ov,iv] []):=by intro _;rfl):PG X (.Subscript o i pos) (gSub to ti t):=by
 intro p5 s σ H v u Q I r h;rw[ha];refine af (cE (qI (ho p5 s σ H _ I h) λov s1 x H1 I1 r1 q1=>?_));refine af (cE (qI (hi p5 s1 σ H1 _ I1 q1) λiv s2 y H2 I2 r2 q2=>?_));refine af (iz (af (cE (thn (hs p5 s2 σ H2 x y v ov iv u _ I2 r1 r2 r q2) λ_ s3 ⟨H3,I3,q3⟩=>?_))));exact wpAny_release ⟨σ,H3,I3,q3⟩
def tAsg(te:TE)(g:TG):TS:=λD σ H=>te σ H λx H1=>g x σ H1 D.nx
def Xc{tg e:Expr}{te:TE}{g:TG}(he:PE X e te)(hg:PG X tg g)(hs:swapsWithSole [tg] e pos.line X.env=pure false:=by rfl)(hw:swappedStores [tg] e X.env=pure none:=by rfl)(h1:(assignEach [tg] X.env).map (·.2)=[assign tg X.env]:=by rfl):PS X (.Assign [tg] e pos) (tAsg te g):=by
 intro p5 s σ H D I h;refine wpAny_Assign_stores (qI (he p5 s σ H _ I h) λv s1 x H1 I1 r1 q1=>?_) hs hw;rw[h1];exact thn (hg p5 s1 σ H1 x v _ I1 r1 q1) λ_ s2 q=>q
def zgb{e:Expr}{te:TE}{pos':Pos}(hN:X.N.Nodup)(hi:X.N[i]?=some x)(hx:Loc X.env.scope x)(he:PE X e te)(hs:swapsWith e (some (.Name x pos')) pos.line X.env=pure false:=by rfl)(hf:X.fn x=true\/X.env.scope.names.lookup x=some .local:=by walk_at"p") :
  PS X (.Assign [.Name x pos'] e pos) (tAsg te (gName i)):=by
 intro p5 s σ H D I h;refine wpAny_Assign_Name (qI (he p5 s σ H _ I h) λv s1 y H1 I1 r1 q1=>?_) hs;exact JO I1 hN hi hx r1 (λs2 I2=>⟨_,H1,I2,q1⟩) hf
def tAug(i:Nat)(te:TE)(ti:TIp):TS:=λD σ H=>vq σ[i]? λx=>te σ H λy H1=>ti x y H1 λz H2=>D.nx (σ.set i (some z)) H2
def zjl{e:Expr}{te:TE}{op:Operator}{ti:TIp}{pos':Pos}(hN:X.N.Nodup)(hi:X.N[i]?=some x)(hx:Loc X.env.scope x)(he:PE X e te)(ho:PIp X op ti)(hf:X.fn x=true\/X.env.scope.names.lookup x=some .local:=by walk_at"p") :
  PS X (.AugAssign (.Name x pos') op e pos) (tAug i te ti):=by
 intro p5 s σ H D I h;let⟨v,e1,h⟩:=ziI h;let⟨m,hn,hl⟩:=I.loc;have vis:Vis X.env.scope x:=by rcases hx with k|k;exact .inl k;exact .inr (.inl k)
 let⟨u,r,l⟩:=hl i x v hi e1 vis;refine wpAny_AugAssign_Name ?_;have go:wpAny (model X.prog X.w) X.A (eval e X.env) (λw s₂=>wpAny (model X.prog X.w) X.A (inplaceOp op u w) (λr s₃=>wpAny (model X.prog X.w) X.A (storeName X.env x r) (λ_=>SP X p5 D .next) X.xe s₃) X.xe s₂) X.xe s:=by
  refine qI (he p5 s σ H _ I h) λw s1 y H1 I1 r1 q1=>?_;refine qI (ho p5 s1 σ H1 v y u w _ I1 r r1 q1) λz s2 zv H2 I2 r2 q2=>?_;exact JO I2 hN hi hx r2 (λs3 I3=>⟨_,H2,I3,q2⟩) hf
 rcases l with⟨hk,hm⟩|⟨hk,c,hc,hcell⟩
 .exact wpAny_loadName_local I.ok.kind hk hn hm go
 .rcases hk with hk|hk
  .exact wpAny_loadName_cell I.ok.kind hk hc hcell go
  .rcases hx with k|k
   .have:X.env.scope.names.lookup x=some .free:=hk;rw[k]at this;cases this
   .have:X.env.scope.names.lookup x=some .free:=hk;rw[k]at this;cases this
def ziM(to ti te:TE)(tget:V->V->Hp->VK->Prop)(tip:TIp)(tset:zho):TS:=λD σ H=>to σ H λo H1=>ti σ H1 λi H2=>tget o i H2 λx H3=>te σ H3 λy H4=>tip x y H4 λz H5=>tset o i z H5 λH6=>D.nx σ H6
def zkY(X:Cx)(t:V->V->Hp->VK->Prop):Prop :=
 ∀(p5:A2)(s:An)(σ:St)(H:Hp)(o i:V)(ov iv:Am)(Q:VK),Inv X p5 σ H s->RelV o ov->RelV i iv->t o i H Q ->
  wpAny (model X.prog X.w) X.A (getItem ov iv) (EP X p5 σ Q) X.xe s
def zhS{o i e:Expr}{to ti te:TE}{tget:V->V->Hp->VK->Prop}{tip:TIp}{tset:zho}{op:Operator}{tpos:Pos}(ho:PE X o to)(hi:PE X i ti)(hg:zkY X tget)(he:PE X e te)(hp:PIp X op tip)(hs:zke X tset)(ha:∀ov iv new,augStore i ov iv new=(do holding [new,ov,iv] (setItem ov iv new);release [new,ov,iv] [];pure .next):=by intros;rfl):PS X (.AugAssign (.Subscript o i tpos) op e pos) (ziM to ti te tget tip tset):=by
 intro p5 s σ H D I h;refine wpAny_AugAssign_SubscriptAny (qI (ho p5 s σ H _ I h) λov s1 x1 H1 I1 r1 q1=>?_) ha;refine qI (hi p5 s1 σ H1 _ I1 q1) λiv s2 x2 H2 I2 r2 q2=>?_;refine qI (hg p5 s2 σ H2 x1 x2 ov iv _ I2 r1 r2 q2) λold s3 x3 H3 I3 r3 q3=>?_;refine qI (he p5 s3 σ H3 _ I3 q3) λv s4 x4 H4 I4 r4 q4=>?_;refine qI (hp p5 s4 σ H4 x3 x4 old v _ I4 r3 r4 q4) λnew s5 x5 H5 I5 r5 q5=>?_;exact thn (hs p5 s5 σ H5 x1 x2 x5 ov iv new _ I5 r1 r2 r5 q5) λ_ s6 ⟨H6,I6,q6⟩=>⟨σ,H6,I6,q6⟩
def ipI(f:Int->Int->Int):TIp:=λx y H Q=>iq x λi=>iq y λj=>Q (.int (f i j)) H
def zjS:PIp X .Add (ipI λi j=>i+j):=by
 intro p5 s σ H x y v u Q I r1 r2 h;let⟨i,j,e1,e2,q⟩:=QO h;subst e1;subst e2;let⟨t,rfl⟩:=r1;let⟨t',rfl⟩:=r2;exact iadd_int ⟨.int _,H,I.tok _,⟨_,rfl⟩,q⟩
def zjR:PIp X .Sub (ipI λi j=>i-j):=by
 intro p5 s σ H x y v u Q I r1 r2 h;let⟨i,j,e1,e2,q⟩:=QO h;subst e1;subst e2;let⟨t,rfl⟩:=r1;let⟨t',rfl⟩:=r2;exact isub_int ⟨.int _,H,I.tok _,⟨_,rfl⟩,q⟩
end
section
variable{X:Cx}{pos:Pos}
def zi5(c:TT)(tb:TS):TS:=λD σ H=>∃W:Nat->St->Hp->Prop,(∃m,W m σ H)/\∀m σ H,W m σ H ->
 c σ H λb H1=>if b=true then ∃N:St->Hp->Prop,(∀σ' H',N σ' H'->∃m',m'<m/\W m' σ' H')/\tb {D with nx:=N,ct:=N,bk:=D.nx} σ H1 else D.nx σ H1
def zba{c:Expr}{body:List Stmt}{tc:TT}{tb:TS}(hp:PassesOwn (model X.prog X.w) X.A X.env X.xe)(hc:PT X c tc)(hb:PSs X body tb):PS X (.While c body [] pos) (zi5 tc tb):=by
 intro p5 s σ H D I h;let⟨W,⟨m0,w0⟩,turn⟩:=h;refine wpAny_While (codeAny_whileLoop (λn s'=>∃σ' H',Inv X p5 σ' H' s'/\W n σ' H') ?_ m0 ⟨σ,H,I,w0⟩);rintro n s1 ⟨σ1,H1,I1,w1⟩;refine cC hp (thn (hc p5 s1 σ1 H1 _ I1 (turn n σ1 H1 w1)) λb s2 ⟨H2,I2,q2⟩=>?_);cases b with
 |true =>
  let⟨N,hN,q2⟩:=q2;rw[ao rfl];refine cC hp (thn (hb p5 s2 σ1 H2 _ I2 q2) λf s3 q3=>?_);cases f with
  |next =>
   let⟨σ3,H3,I3,n3⟩:=q3;let⟨m',hm,w3⟩:=hN σ3 H3 n3;exact⟨m',hm,σ3,H3,I3,w3⟩
  |cont =>
   let⟨σ3,H3,I3,n3⟩:=q3;let⟨m',hm,w3⟩:=hN σ3 H3 n3;exact⟨m',hm,σ3,H3,I3,w3⟩
  |brk=>exact q3
  |ret v=>exact q3
 |false =>
  rw[ak aE];exact c9 ⟨σ1,H2,I2,q2⟩
end
structure It where
 go:Nat->Hp->Prop
 yld:Nat->Hp->V->Hp->Prop
 stop:Nat->Hp->Prop
def QS(X:Cx)(p5:A2)(H:Hp)(b:Addr):Prop :=
 H b=none/\b≠X.env.locals/\b∉X.fs/\(b∈X.ex\/X.s₀.heap.objs.size<=b)/\(∀x c,X.env.cells.lookup x=some c->c≠b)/\∀p∈X.pn++p5,p.1≠b
def Inv.fpOk{H H':Hp}(I:Inv X p5 σ H s)(hb:s.heap.objs.size<=b)(hn:H' b=none):QS X p5 H' b:=by
 refine⟨hn,dC (aM I.lt hb),I.nofs hb,.inr (bj I.sz hb),λx c e z=>?_,λp hp z=>?_⟩
 .obtain⟨v,q⟩:=I.cell x c e;exact absurd (aM q.lt (by rw[z];exact hb)) (cx _)
 .exact absurd (aM (aB (I.pin p hp).1) (by rw[z];exact hb)) (cx _)
structure Turn(P:Af)(w:World)(K:A0)(tg:Expr)(J:It)(fp:Ab)(it:Addr)(tn:Nat->Heap->Prop):Prop where
 mem:it∈fp
 obj:∀i h,tn i h->∀b∈fp,∃o,h.get? b=some o/\∀v,o.data≠.cell v
 keep:∀i h h',tn i h->(∀b∈fp,∀o,h.get? b=some o->h'.get? b=some o)->tn i h'
 item:∀(X:Cx),X.prog=P->X.w=w->X.K=K->X.calm=true->∀(i:Nat)(p5:A2)(s:An)(σ:St)(H:Hp)(E:A3),Inv X p5 σ H s->(∀b∈fp,QS X p5 H b)->tn i s.heap->J.go i H ->
  wpAny (model P w) X.A (pyNext (.ref it)) (λr s1=>∃u,r=some u /\
   wpAny (model P w) X.A (letOwnedTupleGo tg (.ref it) u) (λ_ s2=>∃x H',Inv X p5 σ H' s2/\RelV x u/\J.yld i H x H'/\tn (i+1) s2.heap/\∀b∈fp,H' b=none) E s1) E s
 done:∀(X:Cx),X.prog=P->X.w=w->X.K=K->X.calm=true->∀(i:Nat)(p5:A2)(s:An)(σ:St)(H:Hp)(E:A3),Inv X p5 σ H s->(∀b∈fp,QS X p5 H b)->tn i s.heap->J.stop i H ->
  wpAny (model P w) X.A (pyNext (.ref it)) (λr s1=>r=none/\Inv X p5 σ H s1) E s
 self:∀(A:Ao)(i:Nat)(s:An)(Q:A3)(E:A3),tn i s.heap->Q (.ref it) s->wpAny (model P w) A (pyIter (.ref it)) Q E s
abbrev TI:=St->Hp->(It->Hp->Prop)->Prop
def PIE(X:Cx)(p5:A2)(σ:St)(tg:Expr)(R:It->Hp->Prop)(itv:Am)(s2:An):Prop :=
 ∃(it:Addr)(fp:Ab)(tn:Nat->Heap->Prop)(J:It)(H':Hp),itv=.ref it/\Inv X p5 σ H' s2/\Turn X.prog X.w X.K tg J fp it tn/\tn 0 s2.heap/\(∀b∈fp,QS X p5 H' b)/\R J H'
def PI(X:Cx)(tg iter:Expr)(wi:TI):Prop :=
 ∀(p5:A2)(s:An)(σ:St)(H:Hp)(R:It->Hp->Prop),Inv X p5 σ H s->wi σ H R ->
  wpAny (model X.prog X.w) X.A (eval iter X.env) (λv s1=>wpAny (model X.prog X.w) X.A (pyIter v) (PIE X p5 σ tg R) X.xe s1) X.xe s
theorem zbR{it:Addr}{o:Obj}{n:String}{vs:Ac}{Q:Ag}(ho:s.heap.get? it=some o)(hc:o.cls=.type n)(hd:o.data=.fields vs)(hn:["enumerate","zip","dict_itemiterator","dict_reverseitemiterator","odict_iterator","itertools.zip_longest","itertools.pairwise"].contains n=false)(hQ:Q () s):wpAny M A (letOwnedTupleGo tg (.ref it) u) Q E s:=by
 unfold letOwnedTupleGo;cases tg<;>first
  |exact ap hQ
  | (cases u<;>first
    |exact ap hQ
    | (refine af (wpAny_load ho ?_)
       rw[hc,hd];show wpAny M A (if (["enumerate","zip","dict_itemiterator","dict_reverseitemiterator","odict_iterator","itertools.zip_longest","itertools.pairwise"].contains n&&vs[0]? == some (rawInt _))=true then _ else _) Q E s
       rw[ak (by intro h;rw[hn,Bool.false_and]at h;cases h)];exact ap hQ))
noncomputable def Itl(K:A0)(a:Addr):It :=
 ⟨λi H=>∃xs x,SqL K H a xs/\xs[i]?=some x,λi H x H'=>H'=H/\∀xs,SqL K H a xs->xs[i]?=some x,λi H=>∃xs,SqL K H a xs/\xs.length<=i⟩
noncomputable def Itt(K:A0)(a:Addr):It :=
 ⟨λi H=>∃xs x,SqT K H a xs/\xs[i]?=some x,λi H x H'=>H'=H/\∀xs,SqT K H a xs->xs[i]?=some x,λi H=>∃xs,SqT K H a xs/\xs.length<=i⟩
noncomputable def Itr(lo:Int)(n:Nat):It:=⟨λi _=>i<n,λi H x H'=>H'=H/\x=.int (lo+i),λi _=>n<=i⟩
def zeh(a it:Addr):Turn P w K tg (Itl K a) [it] it (λi h=>h.IsListIter it a i) where
 mem:=by simp
 obj:=λi h st b hb=>by
  have e:b=it:=by simpa using hb
  subst e;let⟨o,e,c,d⟩:=st;exact⟨o,e,λv z=>by rw[d]at z;cases z⟩
 keep:=λi h h' st k=>st.at λo e=>k it (by simp) o e
 item:=by
  intro X hP hw hK hc i p5 s σ H E I hf st hg;subst hP hw hK;let⟨xs,x,hq,hx⟩:=hg;let⟨pi,rv,p,hz⟩:=I.list hq;let⟨u,hu,ru⟩:=rv.get hx;let⟨f0,f1,f2,f3,f4,f5⟩:=hf it (by simp);refine wpAny_pyNext_list_item st p.isList (x:=u) (by simpa using hu) λh' st' sb=>?_;have I1:Inv X p5 σ H {s with heap:=h'}:=I.turned (t':=s.toks) (λb o hb e=>(sb.2 b hb).trans e) f0 f1 f3 f4 f5;let⟨o,e,c,d⟩:=id st';exact⟨u,rfl,zbR (s:={s with heap:=h'}) e c d (by decide) ⟨x,H,I1,ru,⟨rfl,λys hy=>by rw[I.list_inj hy hq];exact hx⟩,st',λb hb=>(hf b hb).1⟩⟩
 done:=by
  intro X hP hw hK hc i p5 s σ H E I hf st hg;subst hP hw hK;let⟨xs,hq,hx⟩:=hg;let⟨pi,rv,p,hz⟩:=I.list hq;let⟨f0,f1,f2,f3,f4,f5⟩:=hf it (by simp);have hl:=rv.length;exact wpAny_pyNext_list_end (I.ok.hd hc) st p.isList (by simp;lia) λh' eb=>⟨rfl,I.turned (t':=s.toks) (λb o hb e=>eb b o hb e) f0 f1 f3 f4 f5⟩
 self:=λ_ _ _ _ _ st h=>wpAny_pyIter_listiter st h
def zce(a it:Addr):Turn P w K tg (Itt K a) [it] it (λi h=>h.IsTupleIter it a i) where
 mem:=by simp
 obj:=λi h st b hb=>by
  have e:b=it:=by simpa using hb
  subst e;let⟨o,e,c,d⟩:=st;exact⟨o,e,λv z=>by rw[d]at z;cases z⟩
 keep:=λi h h' st k=>st.at λo e=>k it (by simp) o e
 item:=by
  intro X hP hw hK hc i p5 s σ H E I hf st hg;subst hP hw hK;let⟨xs,x,hq,hx⟩:=hg;let⟨pi,rv,p,hz⟩:=I.tuple hq;let⟨u,hu,ru⟩:=rv.get hx;let⟨f0,f1,f2,f3,f4,f5⟩:=hf it (by simp);refine wpAny_pyNext_tuple_item st (show s.heap.IsTuple a pi.toArray from p) (x:=u) (by simpa using hu) λh' st' sb=>?_;have I1:Inv X p5 σ H {s with heap:=h'}:=I.turned (t':=s.toks) (λb o hb e=>(sb.2 b hb).trans e) f0 f1 f3 f4 f5;let⟨o,e,c,d⟩:=id st';exact⟨u,rfl,zbR (s:={s with heap:=h'}) e c d (by decide) ⟨x,H,I1,ru,⟨rfl,λys hy=>by rw[I.tuple_inj hy hq];exact hx⟩,st',λb hb=>(hf b hb).1⟩⟩
 done:=by
  intro X hP hw hK hc i p5 s σ H E I hf st hg;subst hP hw hK;let⟨xs,hq,hx⟩:=hg;let⟨pi,rv,p,hz⟩:=I.tuple hq;let⟨f0,f1,f2,f3,f4,f5⟩:=hf it (by simp);have hl:=rv.length;exact wpAny_pyNext_tuple_end (I.ok.hd hc) st (show s.heap.IsTuple a pi.toArray from p) (by simp;lia) λh' eb=>⟨rfl,I.turned (t':=s.toks) (λb o hb e=>eb b o hb e) f0 f1 f3 f4 f5⟩
 self:=λ_ _ _ _ _ st h=>wpAny_pyIter_tupleiter st h
def zcf(it:Addr)(lo:Int)(n:Nat):Turn P w K tg (Itr lo n) [it] it (λi h=>IsRangeIter h it (lo+(i:Nat)*1) ((n:Int)-(i:Nat)) 1) where
 mem:=by simp
 obj:=λi h st b hb=>by
  have e:b=it:=by simpa using hb
  subst e;exact⟨_,st,λv z=>by
   have z':Data.fields _=Data.cell v:=z;cases z'⟩
 keep:=λi h h' st k=>k it (by simp) _ st
 item:=by
  intro X hP hw hK hc i p5 s σ H E I hf st hg;subst hP hw hK;let⟨f0,f1,f2,f3,f4,f5⟩:=hf it (by simp);have W:=Walks.range (prog:=X.prog) (w:=X.w) (I.ok.hd hc) it lo 1 n;refine W.item i s _ _ hg st λv h' tk hv st' kk=>?_;let⟨t,rfl⟩:=hv;have I1:Inv X p5 σ H {s with heap:=h',toks:=tk}:=I.turned (λb o hb e=>kk b o (by simpa using hb) e) f0 f1 f3 f4 f5;refine⟨_,rfl,zbR (s:={s with heap:=h',toks:=tk}) (n:="range_iterator") st' rfl rfl (by decide) ⟨.int (lo+i),H,I1,⟨t,?_⟩,⟨rfl,rfl⟩,st',λb hb=>(hf b hb).1⟩⟩;rw[Int.mul_one]
 done:=by
  intro X hP hw hK hc i p5 s σ H E I hf st hg;subst hP hw hK;let⟨f0,f1,f2,f3,f4,f5⟩:=hf it (by simp);exact wpAny_pyNext_range_end (I.ok.hd hc) st (by have:n<=i:=hg;lia) λh' eb=>⟨rfl,I.turned (t':=s.toks) (λb o hb e=>eb b o hb e) f0 f1 f3 f4 f5⟩
 self:=λ_ _ _ _ _ st h=>wpAny_pyIter_rangeiter st h
section
variable{X:Cx}{tg:Expr}
def zf6{R:It->Hp->Prop}{lo hi:Int}{t u v:Tok}{tk:Nat}(I:Inv X p5 σ H s)(h1:-(2^62)<=lo)(h2:lo<2^62)(h3:-(2^62)<=hi)(h4:hi<2^62)(q:R (Itr lo (hi-lo).toNat) H):wpAny (model X.prog X.w) X.A (pyIter (.ref s.heap.objs.size)) (PIE X p5 σ tg R) E {s with heap:=s.heap.push {cls:=.type "range",data:=.fields #[.int lo t,.int hi u,.int 1 v]},toks:=tk}:=by
 refine wpAny_pyIter_range (IsRange.new ..) (small_one h1 h2 h3 h4) ?_;have I1:Inv X p5 σ H {s with heap:=s.heap.push {cls:=.type "range",data:=.fields #[.int lo t,.int hi u,.int 1 v]},toks:=tk}:=I.kept λb o e=>aj _ e;refine⟨(s.heap.push {cls:=.type "range",data:=.fields #[.int lo t,.int hi u,.int 1 v]}).objs.size,[(s.heap.push {cls:=.type "range",data:=.fields #[.int lo t,.int hi u,.int 1 v]}).objs.size],_,_,H,rfl,
  I1.kept (t':=tk) λb o e=>aj _ e,zcf _ lo (hi-lo).toNat,?_,λb hb=>?_,q⟩
 .have e1:lo+((0:Nat):Int)*1=lo:=by simp
  have e2:(((hi-lo).toNat:Nat):Int)-((0:Nat):Int)=Builtin.Range.rangeSize lo hi 1:=by rw[rangeSize_one];split<;>lia
  show IsRangeIter _ _ (lo+((0:Nat):Int)*1) ((((hi-lo).toNat:Nat):Int)-((0:Nat):Int)) 1
  rw[e1,e2];exact aC _ rfl
 .have e:b=(s.heap.push {cls:=.type "range",data:=.fields #[.int lo t,.int hi u,.int 1 v]}).objs.size:=by simpa using hb
  subst e;exact I1.fpOk (au _) (I1.hok.fresh (au _))
def iRng1(ta:TA):TI:=λσ H R=>ta σ H λvs H1=>lq vs λv=>iq v λj=>-(2^62)<=j/\j<2^62/\R (Itr 0 j.toNat) H1
def zeN{a:Expr}{ta:TA}{p pos:Pos}(hg:Gl X "range")(hm:X.mg "range"=none)(ha:PA X [a] ta)(hs:starEach [a] X.env=[(false,eval a X.env)]:=by rfl):PI X tg (.Call (.Name "range" p) [a] [] pos) (iRng1 ta):=by
 intro p5 s σ H R I h;refine Call_ (vS I hg hm boot_range (bB (vo (ha pos p5 s σ H _ I h) λus s1 vs H1 I1 r1 q1=>?_) hs rfl));let⟨v,e,q0⟩:=zgB q1;clear q1;let⟨j,e2,q1,q2,q⟩:=Qm q0;subst e2;subst e;cases r1 with
 |cons r rr =>
  cases rr;let⟨t,rfl⟩:=r;exact call_range_1 (zf6 I1 (by lia) (by lia) q1 q2 (by simpa using q))
def tFor(wi:TI)(g:TG)(tb:TS):TS:=λD σ H=>wi σ H λJ H1=>∃W:Nat->Nat->St->Hp->Prop,(∃m,W 0 m σ H1)/\∀i m σ H,W i m σ H ->
 (J.stop i H/\D.nx σ H)\/(J.go i H/\∃N:St->Hp->Prop,(∀σ' H',N σ' H'->∃m',m'<m/\W (i+1) m' σ' H')/\∀x H',J.yld i H x H'->g x σ H' λσ2 H2=>tb {D with nx:=N,ct:=N,bk:=D.nx} σ2 H2)
noncomputable def Xe(fp:Ab)(h:Heap):List (Addr×Obj):=fp.filterMap λb=>(h.get? b).map λo=>(b,o)
def wJ{fp:Ab}{h:Heap}{o:Obj}(hb:b∈fp)(e:h.get? b=some o):(b,o)∈Xe fp h:=bN.mpr ⟨b,hb,by rw[e];rfl⟩
def zeU{fp:Ab}{h:Heap}{p:Addr×Obj}(hp:p∈Xe fp h):p.1∈fp/\h.get? p.1=some p.2:=by
 let⟨b,hb,e⟩:=bN.mp hp;cases q:h.get? b with
 |none=>rw[q]at e;cases e
 |some o =>
  rw[q]at e;have e':(b,o)=p:=aF e;subst e';exact⟨hb,q⟩
def Inv.pinned{fp:Ab}(I:Inv X p5 σ H s)(hf:∀b∈fp,QS X p5 H b)(ho:∀b∈fp,∃o,s.heap.get? b=some o/\∀v,o.data≠.cell v):Inv X (p5++Xe fp s.heap) σ H s :=
 I.pins_of λp hp=>(aG.mp hp).elim (λz=>I.pin p (a8 _ z)) λz=>by
  let⟨hb,e⟩:=zeU z;let⟨f0,f1,f2,_⟩:=hf p.1 hb;let⟨o,e',d⟩:=ho p.1 hb;rw[e]at e';cases e';exact⟨e,f0,f1,f2,d⟩
def Inv.unpinned{p5 pl:A2}(I:Inv X (p5++pl) σ H s):Inv X p5 σ H s:=I.pins_of λp hp=>I.pin p (a8 _ (bA _ hp))
theorem qy{iter:Expr}{body:List Stmt}{wi:TI}{g:TG}{tb:TS}(hp:PassesOwn (model X.prog X.w) X.A X.env X.xe)(hc:X.calm=true)(hi:PI X tg iter wi)(hg:PG X tg g)(hb:PSs X body tb)(hs:∀x,foldedSetIterable iter X.env x=pure x:=by intro _;rfl):PS X (.For tg iter body [] pos) (tFor wi g tb):=by
 intro p5 s σ H D I h;refine wpAny_For (thn (hi p5 s σ H _ I h) λv s1 h1=>thn h1 λitv s2 h2=>?_) hs;let⟨it,fp,tn,J,H2,e,I2,T,st2,f2,W,⟨m0,w0⟩,turn⟩:=h2;subst e;have stat:∀{H':Hp},(∀b∈fp,H' b=none)->∀b∈fp,QS X p5 H' b:=λhn b hb=>⟨hn b hb,(f2 b hb).2⟩;refine codeAny_forLoop_any (λn s'=>∃i σ' H',Inv X p5 σ' H' s'/\tn i s'.heap/\(∀b∈fp,H' b=none)/\W i n σ' H') ?_ m0 ⟨0,σ,H2,I2,st2,λb hb=>(f2 b hb).1,w0⟩;rintro n s3 ⟨i,σ3,H3,I3,st3,fr3,w3⟩;rcases turn i n σ3 H3 w3 with⟨stop,qn⟩|⟨go,N,hN,step⟩
 .refine cC hp (thn (T.done X rfl rfl rfl hc i p5 s3 σ3 H3 X.xe I3 (stat fr3) st3 stop) λr s4 ⟨hr,I4⟩=>?_);subst hr;exact c9 ⟨σ3,H3,I4,qn⟩
 .refine cC hp (thn (T.item X rfl rfl rfl hc i p5 s3 σ3 H3 X.xe I3 (stat fr3) st3 go) λr s4 ⟨u,hr,h4⟩=>?_);subst hr;refine cC hp (thn h4 λ_ s5 ⟨x,H5,I5,r5,y5,st5,fr5⟩=>?_);have I5':=I5.pinned (stat fr5) (T.obj _ _ st5);refine cC hp (thn (hg _ s5 σ3 H5 x u _ I5' r5 (step x H5 y5)) λ_ s6 ⟨σ6,H6,I6,q6⟩=>?_);refine cC hp (thn (hb _ s6 σ6 H6 _ I6 q6) λf s7 q7=>?_);have again:∀{σ7:St}{H7:Hp},Inv X (p5++Xe fp s5.heap) σ7 H7 s7->N σ7 H7->∃m,m<n/\∃i σ' H',Inv X p5 σ' H' s7/\tn i s7.heap/\(∀b∈fp,H' b=none)/\W i m σ' H':=λ{σ7 H7} I7 n7=>by
   let⟨m',hm,w7⟩:=hN σ7 H7 n7;refine⟨m',hm,i+1,σ7,H7,I7.unpinned,T.keep _ _ _ st5 λb hb o e=>(I7.pin (b,o) (a8 _ (a8 _ (wJ hb e)))).1,λb hb=>?_,w7⟩;let⟨o,e,d⟩:=T.obj _ _ st5 b hb;exact(I7.pin (b,o) (a8 _ (a8 _ (wJ hb e)))).2.1
  cases f with
  |next=>let⟨σ7,H7,I7,n7⟩:=q7;exact again I7 n7
  |cont=>let⟨σ7,H7,I7,n7⟩:=q7;exact again I7 n7
  |brk=>let⟨σ7,H7,I7,q7⟩:=q7;exact⟨σ7,H7,I7.unpinned,q7⟩
  |ret v=>let⟨x7,σ7,H7,I7,r7,q7⟩:=q7;exact⟨x7,σ7,H7,I7.unpinned,r7,q7⟩
end
abbrev R2:=V->V->Hp->VK->Prop
def OpR(X:Cx)(f:Al)(r:R2):Prop :=
 ∀(p5:A2)(s:An)(σ:St)(H:Hp)(x y:V)(v u:Am)(Q:VK),Inv X p5 σ H s->RelV x v->RelV y u->r x y H Q ->
  wpAny (model X.prog X.w) X.A (f v u) (EP X p5 σ Q) X.xe s
def UnR(X:Cx)(f:Value->Sem Value)(r:V->Hp->VK->Prop):Prop :=
 ∀(p5:A2)(s:An)(σ:St)(H:Hp)(x:V)(v:Am)(Q:VK),Inv X p5 σ H s->RelV x v->r x H Q ->
  wpAny (model X.prog X.w) X.A (f v) (EP X p5 σ Q) X.xe s
def CallR(X:Cx)(f:Am)(r:List V->Hp->VK->Prop):Prop :=
 ∀(p5:A2)(s:An)(σ:St)(H:Hp)(xs:Ap)(us:A7)(Q:VK),Inv X p5 σ H s->Vals xs us->r xs H Q ->
  wpAny (model X.prog X.w) X.A (call f us) (EP X p5 σ Q) X.xe s
def zlf(X:Cx)(r:V->Hp->(Bool->Hp->Prop)->Prop):Prop :=
 ∀(p5:A2)(s:An)(σ:St)(H:Hp)(x:V)(v:Am)(Q:Bool->Hp->Prop),Inv X p5 σ H s->RelV x v->r x H Q ->
  wpAny (model X.prog X.w) X.A (truthy v) (TP X p5 σ Q) X.xe s
def tOp(r:R2)(ta tb:TE):TE:=λσ H Q=>ta σ H λx H1=>tb σ H1 λy H2=>r x y H2 Q
def tUn(r:V->Hp->VK->Prop)(ta:TE):TE:=λσ H Q=>ta σ H λx H1=>r x H1 Q
def rI(C:Int->Int->Prop)(g:Int->Int->V):R2:=λx y H Q=>iq x λi=>iq y λj=>C i j/\Q (g i j) H
def rI0(g:Int->Int->V):R2:=λx y H Q=>iq x λi=>iq y λj=>Q (g i j) H
def rU(g:Int->V):V->Hp->VK->Prop:=λx H Q=>iq x λi=>Q (g i) H
section
variable{X:Cx}{a b c:Expr}{ta tb tc:TE}{pos:Pos}
def zj8(ha:PE X a ta)(hb:PE X b tb){R:V->V->Hp->Prop}(I:Inv X p5 σ H s)(h:ta σ H λx H1=>tb σ H1 λy H2=>R x y H2)(hf:∀v u s2 x y H2,Inv X p5 σ H2 s2->RelV x v->RelV y u->R x y H2->wpAny (model X.prog X.w) X.A (f v u) Q X.xe s2) :
  wpAny (model X.prog X.w) X.A (eval a X.env) (λv s₁=>wpAny (model X.prog X.w) X.A (eval b X.env) (λu s₂=>wpAny (model X.prog X.w) X.A (f v u) Q X.xe s₂) X.xe s₁) X.xe s:=by
 refine qI (ha p5 s σ H _ I h) λv s1 x H1 I1 r1 q1=>?_;refine qI (hb p5 s1 σ H1 _ I1 q1) λu s2 y H2 I2 r2 q2=>?_;exact hf v u s2 x y H2 I2 r1 r2 q2
def zK{op:Operator}{r:R2}(ho:OpR X (binaryOp op) r)(ha:PE X a ta)(hb:PE X b tb):PE X (.BinOp a op b pos) (tOp r ta tb):=by
 intro p5 s σ H Q I h;exact wpAny_BinOp (zj8 ha hb I h λv u s2 x y H2 I2 rx ry q=>ho p5 s2 σ H2 x y v u Q I2 rx ry q)
def Xg{op:UnaryOp}{r:V->Hp->VK->Prop}(ho:UnR X (unaryOp op) r)(ha:PE X a ta):PE X (.UnaryOp op a pos) (tUn r ta):=by
 intro p5 s σ H Q I h;exact UnaryOp_ (qI (ha p5 s σ H _ I h) λv s1 x H1 I1 r1 q1=>ho p5 s1 σ H1 x v Q I1 r1 q1)
def opI{C:Int->Int->Prop}{g:Int->Int->Int}(rule:∀(i j:Int)(t u:Tok)(s:An)(Q:A3)(E:A3),C i j->Q (.int (g i j) s.toks) {s with toks:=s.toks+1}->wpAny (model X.prog X.w) X.A (f (.int i t) (.int j u)) Q E s) :
  OpR X f (rI C λi j=>.int (g i j)):=by
 intro p5 s σ H x y v u Q I rx ry h;let⟨i,j,rfl,rfl,hc,q⟩:=QO h;let⟨t,rfl⟩:=rx;let⟨t',rfl⟩:=ry;exact rule i j t t' s _ _ hc ⟨.int (g i j),H,I.tok _,⟨_,rfl⟩,q⟩
def zkF{g:Int->Int->Int}(rule:∀(i j:Int)(t u:Tok)(s:An)(Q:A3)(E:A3),Q (.int (g i j) s.toks) {s with toks:=s.toks+1}->wpAny (model X.prog X.w) X.A (f (.int i t) (.int j u)) Q E s) :
  OpR X f (rI0 λi j=>.int (g i j)):=by
 intro p5 s σ H x y v u Q I rx ry h;let⟨i,j,rfl,rfl,q⟩:=QO h;let⟨t,rfl⟩:=rx;let⟨t',rfl⟩:=ry;exact rule i j t t' s _ _ ⟨.int (g i j),H,I.tok _,⟨_,rfl⟩,q⟩
def zh0{g:Int->Int->Bool}(rule:∀(i j:Int)(t u:Tok)(s:An)(Q:A3)(E:A3),Q (.bool (g i j)) s->wpAny (model X.prog X.w) X.A (f (.int i t) (.int j u)) Q E s) :
  OpR X f (rI0 λi j=>.bl (g i j)):=by
 intro p5 s σ H x y v u Q I rx ry h;let⟨i,j,rfl,rfl,q⟩:=QO h;let⟨t,rfl⟩:=rx;let⟨t',rfl⟩:=ry;exact rule i j t t' s _ _ ⟨.bl (g i j),H,I,rfl,q⟩
def zlh(i j:Int):Prop:=0<j/\j<1073741824
def zk1(i j:Int):Prop:=0<=j/\j<=1000000/\i.natAbs<2^64
def CMul(i j:Int):Prop:=(-(2^64)<i/\i<2^64)\/(-(2^64)<j/\j<2^64)
def CMul.ok{i j:Int}(h:CMul i j):IntMulOk i j:=by
 rcases h with⟨h1,h2⟩|⟨h1,h2⟩
 .exact .of_left (intBits_le_64 h1 h2)
 .exact .of_right (intBits_le_64 h1 h2)
def op_add:OpR X (binaryOp .Add) (rI0 λi j=>.int (i+j)):=zkF λ_ _ _ _ _ _ _ q=>add_int q
def x8:OpR X (binaryOp .Sub) (rI0 λi j=>.int (i-j)):=zkF λ_ _ _ _ _ _ _ q=>sub_int q
def zhY:OpR X (binaryOp .FloorDiv) (rI zlh λi j=>.int (i/j)):=opI λi j _ _ _ _ _ hc q=>by
 have h1:(0:Int)<j:=hc.1;have h2:j<1073741824:=hc.2;exact floordiv_int (by lia) (by rw[fK i (by lia)];exact q) (.inl (gA (by lia)))
def js:OpR X (binaryOp .Mod) (rI (λ_ j=>0<j) λi j=>.int (i%j)):=opI λi j _ _ _ _ _ hc q=>by
 have h1:(0:Int)<j:=hc;exact mod_int' (by lia) (by rw[Int.fmod_eq_emod_of_nonneg i (by lia)];exact q)
def zjt:OpR X (binaryOp .Pow) (rI zk1 λi j=>.int (i^j.toNat)):=opI λ_ _ _ _ _ _ _ hc q=>pow_int_small hc.1 hc.2.1 hc.2.2 q
def unI{f:Value->Sem Value}{g:Int->Int}(rule:∀(i:Int)(t:Tok)(s:An)(Q:A3)(E:A3),Q (.int (g i) s.toks) {s with toks:=s.toks+1}->wpAny (model X.prog X.w) X.A (f (.int i t)) Q E s) :
  UnR X f (rU λi=>.int (g i)):=by
 intro p5 s σ H x v Q I rx h;let⟨i,rfl,q⟩:=Qm h;let⟨t,rfl⟩:=rx;exact rule i t s _ _ ⟨.int (g i),H,I.tok _,⟨_,rfl⟩,q⟩
def ZB:UnR X (unaryOp .USub) (rU λi=>.int (-i)):=unI λ_ _ _ _ _ q=>neg_int q
end
noncomputable def zkr:V->V->Bool
 | .non,.non=>true | .non,.int _=>true | .int _,.non=>true | .non,.bl _=>true | .bl _,.non=>true | .non,.str _=>true | .str _,.non=>true
 | .int _,.int _=>true | .bl _,.bl _=>true | .str _,.str _=>true | .byt _,.byt _=>true
 | .int _,.str _=>true | .str _,.int _=>true | .bl _,.str _=>true | .str _,.bl _=>true
 |_,_=>false
def rEq:R2:=λx y H Q=>zkr x y=true/\Q (.bl (decide (x=y))) H
def rNe:R2:=λx y H Q=>zkr x y=true/\Q (.bl (!decide (x=y))) H
def zd1{i j:Int}:decide (V.int i=V.int j)=(i == j):=by
 rw[d7];simp
def zg4{i j:Bool}:decide (V.bl i=V.bl j)=(i == j):=by
 rw[d7];simp
def zd0{i j:Str}:decide (V.str i=V.str j)=(i == j):=by
 rw[d7];simp
def zd2{i j:Array UInt8}:decide (V.byt i=V.byt j)=(i.toList == j.toList):=by
 rw[d7];cases i;cases j;simp
section
variable{X:Cx}{a b c:Expr}{ta tb tc:TE}{pos:Pos}
def qe{Q:VK}{k k':Bool}(I:Inv X p5 σ H s)(q:Q (.bl k) H)(e:k=k'):EP X p5 σ Q (.bool k') s:=by
 subst e;exact⟨.bl k,H,I,rfl,q⟩
def op_eq:OpR X (compareOp .Eq) rEq:=by
 intro p5 s σ H x y v u Q I rx ry h;let⟨hs,q⟩:=h;cases x with
 |non =>
  cases rx;cases y with
  |non=>cases ry;exact PySem.EqNone.eq_none_none (qe I q (by simp))
  |bl j=>cases ry;exact PySem.EqNone.eq_none_bool (qe I q (by simp))
  |int j=>let⟨t',rfl⟩:=ry;exact PySem.EqNone.eq_none_int (qe I q (by simp))
  |str j=>let⟨t',rfl⟩:=ry;exact PySem.EqNone.eq_none_str (qe I q (by simp))
  |_=>exact absurd (show false=true from hs) aE
 |bl i =>
  cases rx;cases y with
  |non=>cases ry;exact PySem.EqNone.eq_bool_none (qe I q (by simp))
  |bl j=>cases ry;exact eq_bool (qe I q zg4)
  |str j=>let⟨t',rfl⟩:=ry;exact PySem.EqMixed.eq_bool_str (qe I q (by simp))
  |_=>exact absurd (show false=true from hs) aE
 |int i =>
  let⟨t,rfl⟩:=rx;cases y with
  |non=>cases ry;exact PySem.EqNone.eq_int_none (qe I q (by simp))
  |int j=>let⟨t',rfl⟩:=ry;exact eq_int (qe I q zd1)
  |str j=>let⟨t',rfl⟩:=ry;exact PySem.EqMixed.eq_int_str (qe I q (by simp))
  |_=>exact absurd (show false=true from hs) aE
 |str i =>
  let⟨t,rfl⟩:=rx;cases y with
  |non=>cases ry;exact PySem.EqNone.eq_str_none (qe I q (by simp))
  |bl j=>cases ry;exact PySem.EqMixed.eq_str_bool (qe I q (by simp))
  |int j=>let⟨t',rfl⟩:=ry;exact PySem.EqMixed.eq_str_int (qe I q (by simp))
  |str j=>let⟨t',rfl⟩:=ry;exact eq_str (qe I q zd0)
  |_=>exact absurd (show false=true from hs) aE
 |byt i =>
  let⟨t,rfl⟩:=rx;cases y with
  |byt j=>let⟨t',rfl⟩:=ry;exact PySem.W.eq_bytes (qe I q zd2)
  |_=>exact absurd (show false=true from hs) aE
 |_=>cases y<;>exact absurd (show false=true from hs) aE
def op_ne:OpR X (compareOp .NotEq) rNe:=by
 intro p5 s σ H x y v u Q I rx ry h;let⟨hs,q⟩:=h;cases x with
 |non =>
  cases rx;cases y with
  |non=>cases ry;exact PySem.EqNone.ne_none_none (qe I q (by simp))
  |bl j=>cases ry;exact PySem.EqNone.ne_none_bool (qe I q (by simp))
  |int j=>let⟨t',rfl⟩:=ry;exact PySem.EqNone.ne_none_int (qe I q (by simp))
  |str j=>let⟨t',rfl⟩:=ry;exact PySem.EqNone.ne_none_str (qe I q (by simp))
  |_=>exact absurd (show false=true from hs) aE
 |bl i =>
  cases rx;cases y with
  |non=>cases ry;exact PySem.EqNone.ne_bool_none (qe I q (by simp))
  |bl j=>cases ry;exact ne_bool (qe I q (bn not zg4))
  |str j=>let⟨t',rfl⟩:=ry;exact PySem.EqMixed.ne_bool_str (qe I q (by simp))
  |_=>exact absurd (show false=true from hs) aE
 |int i =>
  let⟨t,rfl⟩:=rx;cases y with
  |non=>cases ry;exact PySem.EqNone.ne_int_none (qe I q (by simp))
  |int j=>let⟨t',rfl⟩:=ry;exact ne_int (qe I q (bn not zd1))
  |str j=>let⟨t',rfl⟩:=ry;exact PySem.EqMixed.ne_int_str (qe I q (by simp))
  |_=>exact absurd (show false=true from hs) aE
 |str i =>
  let⟨t,rfl⟩:=rx;cases y with
  |non=>cases ry;exact PySem.EqNone.ne_str_none (qe I q (by simp))
  |bl j=>cases ry;exact PySem.EqMixed.ne_str_bool (qe I q (by simp))
  |int j=>let⟨t',rfl⟩:=ry;exact PySem.EqMixed.ne_str_int (qe I q (by simp))
  |str j=>let⟨t',rfl⟩:=ry;exact ne_str (qe I q (bn not zd0))
  |_=>exact absurd (show false=true from hs) aE
 |byt i =>
  let⟨t,rfl⟩:=rx;cases y with
  |byt j=>let⟨t',rfl⟩:=ry;exact PySem.W.ne_bytes (qe I q (bn not zd2))
  |_=>exact absurd (show false=true from hs) aE
 |_=>cases y<;>exact absurd (show false=true from hs) aE
def op_lt:OpR X (compareOp .Lt) (rI0 λi j=>.bl (decide (i<j))):=zh0 λ_ _ _ _ _ _ _ q=>lt_int q
def op_le:OpR X (compareOp .LtE) (rI0 λi j=>.bl (decide (i<=j))):=zh0 λ_ _ _ _ _ _ _ q=>le_int q
def op_gt:OpR X (compareOp .Gt) (rI0 λi j=>.bl (decide (j<i))):=zh0 λ_ _ _ _ _ _ _ q=>gt_int q
def op_ge:OpR X (compareOp .GtE) (rI0 λi j=>.bl (decide (j<=i))):=zh0 λ_ _ _ _ _ _ _ q=>ge_int q
def zeQ:OpR X (compareOp .In) (λx y H Q=>∃i j,x=.str i/\y=.str j/\Q (.bl (!(Builtin.Str.occurrences j i 0 j.length 1).isEmpty)) H):=by
 intro p5 s σ H x y v u Q I rx ry h;let⟨i,j,rfl,rfl,q⟩:=h;let⟨t,rfl⟩:=rx;let⟨t',rfl⟩:=ry;exact in_str (qe I q rfl)
def op_isN:OpR X (compareOp .Is) (λx y H Q=>nq y (Q (.bl (decide (x=.non))) H)):=by
 intro p5 s σ H x y v u Q I rx ry h;let⟨rfl,q⟩:=zdG h;cases ry;refine is_none_gen (qe I q ?_);cases x<;>first
  |(cases rx;rfl)
  |(let⟨t,rfl⟩:=rx;rfl)
def op_notN:OpR X (compareOp .IsNot) (λx y H Q=>nq y (Q (.bl (!decide (x=.non))) H)):=by
 intro p5 s σ H x y v u Q I rx ry h;let⟨rfl,q⟩:=zdG h;cases ry;refine isnot_none_gen (qe I q ?_);cases x<;>first
  |(cases rx;rfl)
  |(let⟨t,rfl⟩:=rx;rfl)
def OpR.or{r r':R2}(h:OpR X f r)(h':OpR X f r'):OpR X f (λx y H Q=>r x y H Q\/r' x y H Q):=by
 intro p5 s σ H x y v u Q I rx ry q;rcases q with q|q
 .exact h p5 s σ H x y v u Q I rx ry q
 .exact h' p5 s σ H x y v u Q I rx ry q
def zr(b:Expr)(h:op≠.In:=by decide)(h2:op≠.NotIn:=by decide):behindInMarks op b=false:=by
 have e1:(op == CmpOp.In)=false:=by cases op<;>first|rfl|exact absurd rfl h
 have e2:(op == CmpOp.NotIn)=false:=by cases op<;>first|rfl|exact absurd rfl h2
 cases b<;>simp[behindInMarks,e1,e2]
def Zg{r:R2}(ho:OpR X (compareOp op) r)(ha:PE X a ta)(hb:PE X b tb)(hm:behindInMarks op b=false):PE X (.Compare a [op] [b] pos) (tOp r ta tb):=by
 intro p5 s σ H Q I h;exact wpAny_Compare1 (zj8 ha hb I h λv u s2 x y H2 I2 rx ry q=>ho p5 s2 σ H2 x y v u Q I2 rx ry q) hm
def tTest(t:TE):TT:=λσ H Q=>t σ H λx H'=>bq x λk=>Q k H'
def zm{r:R2}(ho:OpR X (compareOp op) r)(ha:PE X a ta)(hb:PE X b tb)(hm:behindInMarks op b=false):PT X (.Compare a [op] [b] pos) (tTest (tOp r ta tb)):=by
 intro p5 s σ H Q I h;refine wpAny_isTrue_Compare1 (qI (ha p5 s σ H _ I h) λv s1 x H1 I1 r1 q1=>qI (hb p5 s1 σ H1 _ I1 q1) λu s2 y H2 I2 r2 q2 =>
  thn (ho p5 s2 σ H2 x y v u _ I2 r1 r2 q2) λc s3 ⟨z,H3,I3,r3,q3⟩=>?_) hm
 let⟨k,e,q3⟩:=XR q3;subst e;cases r3;exact bX ⟨H3,I3,q3⟩
def tChain(r r':R2)(ta tb tc:TE):TE:=λσ H Q=>ta σ H λx H1=>tb σ H1 λy H2=>r x y H2 λz H3=>bq z λk =>
 (if k=true then tc σ H3 λw' H4=>r' y w' H4 Q else Q (.bl false) H3)
theorem zgk{op op':CmpOp}{r r':R2}(ho:OpR X (compareOp op) r)(ho':OpR X (compareOp op') r')(ha:PE X a ta)(hb:PE X b tb)(hc:PE X c tc)(hm:lastMarks [op,op'] [b,c]=false:=by with_unfolding_all rfl):PE X (.Compare a [op,op'] [b,c] pos) (tChain r r' ta tb tc):=by
 intro p5 s σ H Q I h;refine Compare_chain (qI (ha p5 s σ H _ I h) λv s1 x H1 I1 r1 q1=>chain_link (qI (hb p5 s1 σ H1 _ I1 q1) λu s2 y H2 I2 r2 q2 =>
  thn (ho p5 s2 σ H2 x y v u _ I2 r1 r2 q2) λd s3 ⟨z,H3,I3,r3,q3⟩=>?_)) hm
 let⟨k,e,q3⟩:=XR q3;subst e;cases r3;refine bX ?_;cases k with
 |false=>exact ite_ff ⟨.bl false,H3,I3,rfl,q3⟩
 |true=>exact ite_tt (chain_last (thn (hc p5 s3 σ H3 _ I3 q3) λw' s4 ⟨z',H4,I4,r4,q4⟩=>ho' p5 s4 σ H4 y z' u w' Q I4 r2 r4 q4))
theorem jv{op op':CmpOp}{r r':R2}(ho:OpR X (compareOp op) r)(ho':OpR X (compareOp op') r')(ha:PE X a ta)(hb:PE X b tb)(hc:PE X c tc)(hm:lastMarks [op,op'] [b,c]=false:=by with_unfolding_all rfl):PT X (.Compare a [op,op'] [b,c] pos) (tTest (tChain r r' ta tb tc)):=by
 intro p5 s σ H Q I h;refine isTrue_chain (qI (ha p5 s σ H _ I h) λv s1 x H1 I1 r1 q1=>test_link (qI (hb p5 s1 σ H1 _ I1 q1) λu s2 y H2 I2 r2 q2 =>
  thn (ho p5 s2 σ H2 x y v u _ I2 r1 r2 q2) λd s3 ⟨z,H3,I3,r3,q3⟩=>?_)) hm
 let⟨k,e,q3⟩:=XR q3;subst e;cases r3;refine bX ?_;cases k with
 |false =>
  let⟨k',e',q'⟩:=XR q3;cases e';exact ite_ff ⟨H3,I3,q'⟩
 |true =>
  refine ite_tt (test_last (thn (hc p5 s3 σ H3 _ I3 q3) λw' s4 ⟨z',H4,I4,r4,q4⟩=>thn (ho' p5 s4 σ H4 y z' u w' _ I4 r2 r4 q4) λd' s5 ⟨z2,H5,I5,r5,q5⟩=>?_));let⟨k2,e2,q5⟩:=XR q5;subst e2;cases r5;exact bX ⟨H5,I5,q5⟩
def zfv(K:A0)(x:V)(H:Hp)(k:Bool):Prop :=
 match x with
 | .non=>k=false
 | .bl b=>k=b
 | .int i=>k=(i != 0)
 | .str y=>y.length<=sizeLine/\k=((y.length:Int) != 0)
 | .byt y=>y.size<=sizeLine/\k=((y.size:Int) != 0)
 | .ref p=>(∃xs,SqL K H p xs/\k=!xs.isEmpty)\/(∃xs,SqT K H p xs/\k=!xs.isEmpty)\/∃ph,H p=some (.dK ph)/\k=!ph.isEmpty
 |_=>False
def zcY{κ:Type}{ph:List (κ×V)}{vs:List (κ×Value)}(r:KV ph vs):(!vs.isEmpty)=!ph.isEmpty:=by
 cases r<;>rfl
def XD{xs:Ap}{pi:A7}(r:Vals xs pi):(!pi.toArray.isEmpty)=!xs.isEmpty:=by
 cases r<;>simp
def ZM:(sizeLine:Nat)<2^63:=by rw[gf];decide
def zi3:zlf X (λx H Q=>∃k,zfv X.K x H k/\Q k H):=by
 intro p5 s σ H x v Q I rx h;let⟨k,e,q⟩:=h;have hl:=ZM;have hs:sizeLine=16777216:=gf;cases x with
 |non =>
  cases rx;have e':k=false:=e;subst e';exact truthy_none ⟨H,I,q⟩
 |bl b =>
  cases rx;have e':k=b:=e;subst e';exact bX ⟨H,I,q⟩
 |int i =>
  let⟨t,rfl⟩:=rx;have e':k=(i != 0):=e;subst e';exact PySem.P.truthy_int ⟨H,I,q⟩
 |str y =>
  let⟨t,rfl⟩:=rx;let⟨hy,e'⟩:y.length<=sizeLine/\k=((y.length:Int) != 0):=e;subst e';exact PySem.P.truthy_str (by lia) ⟨H,I.tok _,q⟩
 |byt y =>
  let⟨t,rfl⟩:=rx;let⟨hy,e'⟩:y.size<=sizeLine/\k=((y.size:Int) != 0):=e;subst e';exact PySem.W.truthy_bytes (by lia) ⟨H,I.tok _,q⟩
 |ref p =>
  cases rx;have e':(∃xs,SqL X.K H p xs/\k=!xs.isEmpty)\/(∃xs,SqT X.K H p xs/\k=!xs.isEmpty)\/∃ph,H p=some (.dK ph)/\k=!ph.isEmpty:=e;rcases e' with⟨xs,hx,e'⟩|⟨xs,hx,e'⟩|⟨ph,hx,e'⟩
  .subst e';let⟨pi,r,pl,hz⟩:=I.list hx;have hlen:=r.length;exact wpAny_truthy_list pl.isList (by simp only[aw];lia) ⟨H,I.tok _,by rw[XD r];exact q⟩
  .subst e';let⟨pi,r,pl,hz⟩:=I.tuple hx;have hlen:=r.length;exact truthy_tuple pl (by simp only[aw];lia) ⟨H,I.tok _,by rw[XD r];exact q⟩
  .subst e';let⟨hz,hS,vs,r,m⟩:ph.length<=sizeLine/\(p == sysModules)=false/\∃vs,KV ph vs/\s.heap.DictOf (jb X.prog X.w) p vs:=I.hok p _ hx;have hlen:ph.length=vs.length:=cF r;exact wpAny_truthy_dict hS m (by lia) ⟨H,I.tok _,by rw[zcY r];exact q⟩
 |_=>exact(show False from e).elim
def trq(K:A0)(x:V)(H:Hp)(Q:Bool->Hp->Prop):Prop :=
 match x with
 | .bl b=>Q b H
 |x=>∃k,zfv K x H k/\Q k H
def zi4{x:V}{Q:Bool->Hp->Prop}(h:trq K x H Q):∃k,zfv K x H k/\Q k H:=by
 cases x<;>first|exact⟨_,rfl,h⟩|exact h
def tTru(K:A0)(ta:TE):TT:=λσ H Q=>ta σ H λx H'=>trq K x H' Q
def qz(ha:PE X a ta)(he:∀whole,isTrue a X.env whole=(do let v <- whole;standAt a.pos;holding [v] (truthy v))) :
  PT X a (tTru X.K ta):=by
 intro p5 s σ H Q I h;exact isTrue_plain (qI (ha p5 s σ H _ I h) λv s1 x H1 I1 r1 q1=>zi3 p5 s1 σ H1 x v Q I1 r1 (zi4 q1)) (he _)
def op_add_str:OpR X (binaryOp .Add) (λx y H Q=>∃i j,x=.str i/\y=.str j/\i.length+j.length<=sizeLine/\Q (.str (i++j)) H):=by
 intro p5 s σ H x y v u Q I rx ry h;let⟨i,j,rfl,rfl,hz,q⟩:=h;let⟨t,rfl⟩:=rx;let⟨t',rfl⟩:=ry;exact add_str (λt' tk=>⟨.str (i++j),H,I.tok _,⟨_,rfl⟩,q⟩) hz
def wR{x:V}(r:Vals [x] us):∃u,us=[u]/\RelV x u:=by
 cases r with
 |cons r1 r2=>cases r2;exact⟨_,rfl,r1⟩
def ziK{x y:V}(r:Vals [x,y] us):∃u w',us=[u,w']/\RelV x u/\RelV y w':=by
 cases r with
 |cons r1 r2 =>
  cases r2 with
  |cons r3 r4=>cases r4;exact⟨_,_,rfl,r1,r3⟩
def zfl(hc:X.calm=true):CallR X (.builtin "max") (λxs H Q=>∃i j,xs=[.int i,.int j]/\Q (.int (if j>i then j else i)) H):=by
 intro p5 s σ H xs us Q I r h;let⟨i,j,rfl,q⟩:=h;let⟨u,w',rfl,⟨t,rfl⟩,⟨t',rfl⟩⟩:=ziK r;refine max_two_ints (I.ok.hd hc) λh' tk k=>⟨_,H,I.kept k,?_,q⟩;by_cases hj:j>i
 .rw[ao hj,ao hj];exact⟨_,rfl⟩
 .rw[ak hj,ak hj];exact⟨_,rfl⟩
def zaj:CallR X (.type "str") (λxs H Q=>∃i,xs=[.int i]/\i.natAbs.log2<1920/\Q (.str (toString i)) H):=by
 intro p5 s σ H xs us Q I r h;let⟨i,rfl,hz,q⟩:=h;let⟨u,rfl,t,rfl⟩:=wR r;exact PySem.P.str_of_int hz ⟨.str _,H,I.tok _,⟨_,rfl⟩,q⟩
def zkZ(K:A0)(x:V)(H:Hp)(n:Nat):Prop :=
 match x with
 | .str y=>y.length<=sizeLine/\n=y.length
 | .byt y=>y.size<=sizeLine/\n=y.size
 | .ref p=>(∃xs,SqL K H p xs/\n=xs.length)\/∃xs,SqT K H p xs/\n=xs.length
 |_=>False
def zg9:CallR X (.builtin "len") (λxs H Q=>∃x n,xs=[x]/\zkZ X.K x H n/\Q (.int n) H):=by
 intro p5 s σ H xs us Q I r h;let⟨x,n,rfl,e,q⟩:=h;let⟨u,rfl,rx⟩:=wR r;have hl:=ZM;have hs:sizeLine=16777216:=gf;cases x with
 |str y =>
  let⟨t,rfl⟩:=rx;let⟨hy,e'⟩:y.length<=sizeLine/\n=y.length:=e;subst e';exact len_str (by lia) ⟨.int _,H,I.tok _,⟨_,rfl⟩,q⟩
 |byt y =>
  let⟨t,rfl⟩:=rx;let⟨hy,e'⟩:y.size<=sizeLine/\n=y.size:=e;subst e';exact PySem.W.len_bytes (by lia) ⟨.int _,H,I.tok _,⟨_,rfl⟩,q⟩
 |ref p =>
  cases rx;have e':(∃xs,SqL X.K H p xs/\n=xs.length)\/∃xs,SqT X.K H p xs/\n=xs.length:=e;rcases e' with⟨xs,hx,e'⟩|⟨xs,hx,e'⟩
  .subst e';let⟨pi,r',pl,hz⟩:=I.list hx;have hlen:=r'.length;exact Calls.call_len_list pl.isList (by simp only[aw];lia) ⟨.int xs.length,H,I.tok _,⟨_,by simp only[aw];rw[hlen]⟩,q⟩
  .subst e';let⟨pi,r',pl,hz⟩:=I.tuple hx;have hlen:=r'.length;exact len_tuple pl (by simp only[aw];lia) ⟨.int xs.length,H,I.tok _,⟨_,by simp only[aw];rw[hlen]⟩,q⟩
 |_=>exact(show False from e).elim
end
structure ObjM(h:Heap)(x dx C:Addr)(mA:A4):Prop where
 obj:h.get? x=some (instObj C dx)
 ns:h.Ns1 dx mA
 ne:dx≠x
def zeX{h:Heap}{dx:Addr}{mA:A4}(n:h.Ns1 dx mA):∃od,h.get? dx=some od/\∀name,lookIn name od=some (mA name):=by
 let⟨o,es,ep,ho,hd,hk,_,hm⟩:=n;refine⟨o,ho,λname=>?_⟩;have e:=hm name;unfold nsFind findBy at e;rw[<- Array.find?_toList]at e;unfold lookIn;rw[hd];dsimp only
 split
 .rename_i y q;rw[q]at e;exact bn some e
 .rename_i q;rw[q]at e;have a:es.toList.any (·.refKey)=false:=by
   rw[List.any_eq_false];intro y hy;let⟨z,t,hkey⟩:=hk y (Array.mem_toList_iff.mp hy);simp[DictEntry.refKey,hkey]
  have a':¬es.toList.any (·.refKey)=true:=by rw[a];exact aE
  rw[ak a'];exact bn some e
def ObjM.look{h:Heap}{x dx C:Addr}{mA:A4}(I:ObjM h x dx C mA):∃od,PySem.W.InstAt h x (instObj C dx) C (some od)/\∀name,lookIn name od=some (mA name) :=
 let⟨od,ho,hl⟩:=zeX I.ns
 ⟨od,⟨I.obj,rfl,rfl,ho⟩,hl⟩
section
variable{prog:Af}{w:World}{A:Ao}{E:A3}{s:An}{K:A0}{x dx C f:Addr}{mA:A4}{name:Str}{v:Am}
def zie{expr:Bool}(X:K.In s.heap)(I:ObjM s.heap x dx C mA)(hg:plainGet K C name=true)(hh:hasDictIn K C=true)(ha:findIn K (.ref C) name=some none)(hv:mA name=some v)(hv':handedIn v=true)(h:Q v {s with toks:=s.toks+1}) :
  wpAny (model prog w) A (getAttr (.ref x) name expr) Q E s:=by
 let⟨od,J,hl⟩:=I.look;exact PySem.W.get_value X J (plainGet_of hg).1 (PySem.W.findObj_own hh ha rfl (by rw[hl,hv])) hv' h
def zgV{pl:Sem Bool}{Q:Value×List Value->Shared->Prop}(X:K.In s.heap)(I:ObjM s.heap x dx C mA)(hg:plainGet K C name=true)(hf:findIn K (.ref C) name=some (some (.ref f)))(ht:isFn K (.ref f)=true)(hv:mA name=none)(h:Q (.ref f,[.ref x]) s) :
  wpAny (model prog w) A (getMethod (.ref x) name pl) Q E s:=by
 let⟨od,J,hl⟩:=I.look;exact PySem.W.method_fn X J (plainGet_of hg).1 (plainGet_of hg).2 hf (bM.mp ht) (by show(lookIn name od).map (·.isSome)=some false;rw[hl,hv];rfl) h
def zhG{ns:A8}{Q:Ag}(X:K.In s.heap)(I:ObjM s.heap x dx C mA)(hs:findIn K (.ref C) "__setattr__"=some (some (.builtin "object.__setattr__")))(hp:PySem.W.plainOver K C=true)(ht:takerIn K C name=some none)(hh:hasDictIn K C=true)(hw:PySem.Within mA ns)(hsz:ns.length<=sizeLine)(h:∀h',ObjM h' x dx C (λy=>if y=name then some v else mA y)->Heap.SameBut dx s.heap h'->Q () {s with heap:=h',toks:=s.toks+2}) :
  wpAny (model prog w) A (setAttr (.ref x) name v) Q E s:=by
 let⟨od,J,hl⟩:=I.look;refine PySem.W.set_plain X J hs (PySem.W.osa_open (s:={s with toks:=s.toks+1}) (r:=none) X J hp ht λb=>?_);let⟨cd,hc,hd'⟩:=iC hh;have hx:s.heap.get? x=some ⟨.ref C,some dx,.plain,#[]⟩:=I.obj;refine af (ap (af (af (wpAny_loadPart hx (af (PySem.W.Looks.here (s:={s with toks:=s.toks+1}) (PySem.W.looks_clsIn X hc) ?_))))));rw[hd'];refine ap (a:=some dx) (af (ap (af ?_)));refine wpAny_nsSet1 (s:={s with toks:=s.toks+1}) I.ns λh' hn2 hs2=>?_;let⟨oD,esD,epD,hoD,hdD,hcD⟩:=hn2.count (PySem.Within.cons name v hw);refine af (wpAny_lookBehind hoD (by rw[hdD];exact pastItsLine_dict (bj hcD (by rw[aX];lia))) ?_);exact ap (h _ ⟨(hs2.2 _ (bb I.ne)).trans I.obj,hn2,I.ne⟩ hs2)
def zby{R:Result->Shared->Prop}{vs:A7}{kw:List (Str×Value)}(X:K.In s.heap)(hm:makesIn K C=true)(hi:findIn K (.ref C) "__init__"=some (some (.ref f)))(hf:PySem.W.typeIn K (.ref f)=some (.type "function"))(h:codeAny (model prog w) (A.under (.builtin "type.__call__" ⟨.ref C::vs,kw⟩)) (.call (.ref f) ⟨.ref (s.heap.objs.size+1)::vs,kw⟩) (PySem.W.InitBack (s.heap.objs.size+1) R)
   {s with heap:=(s.heap.push emptyDict).push (instObj C s.heap.objs.size)}) :
  codeAny (model prog w) A (.call (.ref C) ⟨vs,kw⟩) R s:=by
 let⟨hh,g,d,t,os⟩:=s;exact PySem.W.make_core (PySem.W.makes_of X hm) (looks_findIn X hi) (λself=>PySem.W.bind_fn X self hf) (.inl rfl) h
end
noncomputable def zX(f:Str)(v:V):List (Str×V)->List (Str×V)
 |[]=>[(f,v)]
 |(g,x)::r=>if g=f then(g,v)::r else(g,x)::zX f v r
theorem zG(f g:Str)(v:V):∀fs:List (Str×V),(zX f v fs).lookup g=if g=f then some v else fs.lookup g
 |[]=>by
  show List.lookup g [(f,v)]=_
  by_cases h:g=f
  .have hb:(g == f)=true:=bM.mpr h;simp only[List.lookup,hb,ao h]
  .have hb:(g == f)=false:=a9.mpr h;simp only[List.lookup,hb,ak h]
 |(k,x)::r=>by
  have ih:=zG f g v r;rw[show zX f v ((k,x)::r)=(if k=f then(k,v)::r else(k,x)::zX f v r)from rfl];by_cases hk:k=f
  .rw[ao hk];by_cases h:g=k
   .have hb:(g == k)=true:=bM.mpr h;simp only[List.lookup,hb,ao (h.trans hk)]
   .have hb:(g == k)=false:=a9.mpr h;simp only[List.lookup,hb,ak (λe:g=f=>h (e.trans hk.symm))]
  .rw[ak hk];by_cases h:g=k
   .have hb:(g == k)=true:=bM.mpr h;simp only[List.lookup,hb,ak (λe:g=f=>hk (h.symm.trans e))]
   .have hb:(g == k)=false:=a9.mpr h;simp only[List.lookup,hb];exact ih
theorem QM(f:Str)(v:V):∀fs:List (Str×V),f∈(zX f v fs).map (·.1)/\∀g,g∈fs.map (·.1)->g∈(zX f v fs).map (·.1)
 |[]=>⟨by simp[zX],λg h=>by simp at h⟩
 |(k,x)::r=>by
  let⟨i1,i2⟩:=QM f v r;rw[show zX f v ((k,x)::r)=(if k=f then(k,v)::r else(k,x)::zX f v r)from rfl];by_cases hk:k=f
  .rw[ao hk];subst hk;exact⟨by simp,λg h=>by simpa using h⟩
  .rw[ak hk];refine⟨?_,λg h=>?_⟩
   .rw[bF];exact ay _ i1
   .rw[bF]at h ⊢;rcases av.mp h with e|e
    .exact av.mpr (.inl e)
    .exact ay _ (i2 g e)
theorem xP(f:Str)(v:V):∀fs:List (Str×V),(zX f v fs).length<=fs.length+1
 |[]=>by simp[zX]
 |(k,x)::r=>by
  have ih:=xP f v r;rw[show zX f v ((k,x)::r)=(if k=f then(k,v)::r else(k,x)::zX f v r)from rfl];by_cases hk:k=f
  .rw[ao hk,aX,aX];lia
  .rw[ak hk,aX,aX];lia
def RelO.some_of{v:V}{o:Option Value}(r:RelO (some v) o):∃u,o=some u/\RelV v u:=by
 cases o with
 |none=>exact(show False from r).elim
 |some u=>exact⟨u,rfl,r⟩
def RelO.none_of{o:Option Value}(r:RelO none o):o=none:=by
 cases o with
 |none=>rfl
 |some u=>exact(show False from r).elim
def ze8{v:V}(r:RelV v u):handedIn u=true:=by
 cases v with
 |non=>cases (show u=Value.none from r);rfl
 |bl b=>cases (show u=Value.bool b from r);rfl
 |int i=>let⟨t,e⟩:=(show ∃t,u=Value.int i t from r);cases e;rfl
 |str x=>let⟨t,e⟩:=(show ∃t,u=Value.str x t from r);cases e;rfl
 |byt b=>let⟨t,e⟩:=(show ∃t,u=Value.bytes b t from r);cases e;rfl
 |flt b=>let⟨t,e⟩:=(show ∃t,u=Value.float b t from r);cases e;rfl
 |ref a=>cases (show u=Value.ref a from r);rfl
 |ty n=>cases (show u=Value.type n from r);rfl
section
variable{P:Af}{w:World}{H H':Hp}{h h':Heap}{a C dx:Addr}{fs fs':Ar}
def JH(hok:HOk P w H h)(e:H a=some (.ins C dx fs)):∃mA,ObjM h a dx C mA/\(∀f,RelO (fs.lookup f) (mA f))/\PySem.Within mA (fs.map (·.1))/\fs.length<=1000/\H dx=some (.own a):=by
 let⟨d,z,ne,ob,mA,n,r,q⟩:=(show ObjOk P w H h a (.ins C dx fs)from hok a _ e);exact⟨mA,⟨ob,n,ne⟩,r,q,z,d⟩
end
structure Cls(K:A0)(C:Addr):Prop where
 pg:plainGet K C Str.empty=true
 hd:hasDictIn K C=true
 po:PySem.W.plainOver K C=true
 sa:findIn K (.ref C) "__setattr__"=some (some (.builtin "object.__setattr__"))
def Cls.get(c:Cls K C)(f:Str):plainGet K C f=true:=c.pg
def NoAttr(K:A0)(C:Addr)(f:Str):Prop:=findIn K (.ref C) f=some none
def NoAttr.taker{f:Str}(n:NoAttr K C f):takerIn K C f=some none:=by
 unfold takerIn;rw[show findIn K (.ref C) f=some none from n]
 rfl
structure Meth(K:A0)(C:Addr)(m:Str)(f:Addr):Prop where
 at_:findIn K (.ref C) m=some (some (.ref f))
 fn:isFn K (.ref f)=true
 kp:keepIn K (.ref f)=true
section
variable{X:Cx}{p5:A2}{σ:St}{H:Hp}{s:An}{a C dx:Addr}{fs:Ar}{f:Str}{v:V}{A:Ao}{E:A3}
def XF{b:Bool}(I:Inv X p5 σ H s)(e:H a=some (.ins C dx fs))(c:Cls X.K C)(n:NoAttr X.K C f)(l:fs.lookup f=some v)(h:∀u s',Inv X p5 σ H s'->RelV v u->Q u s'):wpAny (model X.prog X.w) A (getAttr (.ref a) f b) Q E s:=by
 let⟨mA,O,r,_,_,_⟩:=JH I.hok e;let⟨u,hu,ru⟩:=RelO.some_of (v:=v) (o:=mA f) (by rw[<- l];exact r f);exact zie I.kIn O (c.get f) c.hd n hu (ze8 ru) (h u _ (I.tok _) ru)
def wL{m:Str}{g:Addr}{pl:Sem Bool}{Q:Value×List Value->Shared->Prop}(I:Inv X p5 σ H s)(e:H a=some (.ins C dx fs))(c:Cls X.K C)(k:Meth X.K C m g)(l:fs.lookup m=none)(h:Q (.ref g,[.ref a]) s):wpAny (model X.prog X.w) A (getMethod (.ref a) m pl) Q E s:=by
 let⟨mA,O,r,_,_,_⟩:=JH I.hok e;have hn:mA m=none:=RelO.none_of (by rw[<- l];exact r m);exact zgV I.kIn O (c.get m) k.at_ k.fn hn h
def JX{y:V}{Q:Ag}(I:Inv X p5 σ H s)(e:H a=some (.ins C dx fs))(c:Cls X.K C)(n:NoAttr X.K C f)(hl:fs.length<1000)(ry:RelV y u)(h:∀s',Inv X p5 σ (upd H a (.ins C dx (zX f y fs))) s'->Q () s'):wpAny (model X.prog X.w) A (setAttr (.ref a) f u) Q E s:=by
 let⟨mA,O,r,wi,_,ho⟩:=JH I.hok e;have hz:(fs.map (·.1)).length<=sizeLine:=by rw[ai,gf];lia
 refine zhG I.kIn O c.sa c.po n.taker c.hd wi hz λh' O' sb=>h _ ?_;have hd:∃o,h'.get? dx=some o:=let⟨o,_,_,e',_⟩:=O'.ns;⟨o,e'⟩
 refine I.write (x:=a) (e:=dx) (by rw[e];exact True.intro) (.inr ho) (λb q hb z=>(sb.2 b hb).trans z) hd ?_;refine⟨by rw[pE O.ne];exact ho,?_,O.ne,O'.obj,_,O'.ns,λg=>?_,λg hg=>?_⟩
 .have:=xP f y fs;lia
 .show RelO ((zX f y fs).lookup g) (if g=f then some u else mA g)
  rw[zG];by_cases q:g=f
  .rw[ao q,ao q];exact ry
  .rw[ak q,ak q];exact r g
 .by_cases q:g=f
  .rw[q];exact(QM f y fs).1
  .refine(QM f y fs).2 g (wi g λz=>hg ?_);show(if g=f then some u else mA g)=none
   rw[ak q];exact z
def Inv.made(I:Inv X p5 σ H s):Inv X p5 σ (upd (upd H s.heap.objs.size (.own (s.heap.objs.size+1))) (s.heap.objs.size+1) (.ins C s.heap.objs.size []))
  {s with heap:=(s.heap.push emptyDict).push (instObj C s.heap.objs.size)}:=by
 have e1:(s.heap.push emptyDict).get? s.heap.objs.size=some emptyDict:=aC s.heap rfl;have e2:((s.heap.push emptyDict).push (instObj C s.heap.objs.size)).get? (s.heap.objs.size+1)=some (instObj C s.heap.objs.size):=by
  have:=aC (s.heap.push emptyDict) (o:=instObj C s.heap.objs.size) rfl
  rwa[bV]at this
 have e3:(s.heap.push emptyDict).Ns s.heap.objs.size (λ_=>none):=⟨emptyDict,#[],_,e1,rfl,(λe he=>absurd he (by simp)),λ_=>rfl⟩;have I1:=I.laid (a:=s.heap.objs.size) (o:=.own (s.heap.objs.size+1)) (h':=s.heap.push emptyDict) (t':=s.toks) (λb u q=>aj _ q) (au _) ⟨_,e1⟩;refine I1.laid (a:=s.heap.objs.size+1) (o:=.ins C s.heap.objs.size []) (t':=s.toks) (λb u q=>aj _ q) (Nat.le_of_eq (bV _ _)) ?_;have ne:s.heap.objs.size≠s.heap.objs.size+1:=aP (cI _);refine⟨by rw[pE ne,pD],bz _,ne,e2,λ_=>none,(Heap.Ns1.of_empty e3).at λo q=>aj _ q,λ_=>True.intro,λy hy=>absurd rfl hy⟩
def ziz{prog:Af}{env:Env}{e:Expr}{f:Str}{s:An}(hb:attributeBase e f env (eval e env)=eval e env)(h:wpAny (model prog w) A (eval e env) (λo s₁=>wpAny (model prog w) A (getAttr o f true) Q E s₁) E s):wpAny (model prog w) A (eval (.Attribute e f pos) env) Q E s :=
 Attribute_any_ h (by rw[arm_eval_Attribute,hb])
end
def tFld(K:A0)(ta:TE)(f:Str):TE:=λσ H Q=>ta σ H λx H1=>∃a C dx fs v,x=.ref a/\H1 a=some (.ins C dx fs)/\Cls K C/\NoAttr K C f/\fs.lookup f=some v/\Q v H1
def sFld(K:A0)(ta tv:TE)(f:Str):TS:=λD σ H=>tv σ H λy H1=>ta σ H1 λx H2=>∃a C dx fs,x=.ref a/\H2 a=some (.ins C dx fs)/\Cls K C/\NoAttr K C f/\fs.length<1000 /\
 D.nx σ (upd H2 a (.ins C dx (zX f y fs)))
def zk0(X:Cx)(op:Operator)(rd:V->V->Hp->VK->Prop):Prop :=
 ∀(p5:A2)(s:An)(σ:St)(H:Hp)(x y:V)(u v:Am)(Q:VK),Inv X p5 σ H s->RelV x u->RelV y v->rd x y H Q->wpAny (model X.prog X.w) X.A (inplaceOp op u v) (EP X p5 σ Q) X.xe s
def zhH(K:A0)(ta tv:TE)(rd:V->V->Hp->VK->Prop)(f:Str):TS:=λD σ H=>ta σ H λx H1=>∃a C dx fs v,x=.ref a/\H1 a=some (.ins C dx fs)/\Cls K C/\NoAttr K C f/\fs.lookup f=some v /\
 tv σ H1 λy H2=>rd v y H2 λz H3=>∃dx' fs',H3 a=some (.ins C dx' fs')/\fs'.length<1000/\D.nx σ (upd H3 a (.ins C dx' (zX f z fs')))
section
variable{X:Cx}{o e value:Expr}{f:Str}{pos pos' tpos:Pos}{ta tv:TE}
def zk(he:PE X e ta)(hb:attributeBase e f X.env (eval e X.env)=eval e X.env):PE X (.Attribute e f pos) (tFld X.K ta f):=by
 intro p5 s σ H Q I h;refine ziz hb (qI (he p5 s σ H _ I h) λu s1 x H1 I1 rx qq_=>?_);let⟨a,C,dx,fs,v,ex,ea,c,n,l,q⟩:=qq_;subst ex;obtain rfl:u=Value.ref a:=rx;exact XF I1 ea c n l λu' s2 I2 ru=>⟨v,H1,I2,ru,q⟩
def qY(ha:PE X o ta)(hv:PE X value tv)(hs:swapsWith value (some (.Attribute o f pos')) pos.line X.env=pure false):PS X (.Assign [.Attribute o f pos'] value pos) (sFld X.K ta tv f):=by
 intro p5 s σ H D I h;refine plainObj_wpAny_Assign_Attribute (qI (hv p5 s σ H _ I h) λu s1 y H1 I1 ry q=>qI (ha p5 s1 σ H1 _ I1 q) λov s2 x H2 I2 rx qq_=>?_) hs;let⟨a,C,dx,fs,ex,ea,c,n,l,q2⟩:=qq_;subst ex;obtain rfl:ov=Value.ref a:=rx;exact JX I2 ea c n l ry λs3 I3=>⟨σ,_,I3,q2⟩
def zeL{op:Operator}{rd:V->V->Hp->VK->Prop}(ha:PE X o ta)(hv:PE X value tv)(hop:zk0 X op rd):PS X (.AugAssign (.Attribute o f tpos) op value pos) (zhH X.K ta tv rd f):=by
 intro p5 s σ H D I h;refine wpAny_AugAssign_AttributeAny (qI (ha p5 s σ H _ I h) λov s1 x H1 I1 rx qq_=>?_);let⟨a,C,dx,fs,v,ex,ea,c,n,l,q⟩:=qq_;subst ex;obtain rfl:ov=Value.ref a:=rx;refine XF I1 ea c n l λu s2 I2 ru=>qI (hv p5 s2 σ H1 _ I2 q) λw3 s3 y H2 I3 ry q3=>thn (hop p5 s3 σ H2 v y u w3 _ I3 ru ry q3) λw4 s4 ⟨z,H3,I4,rz,dx',fs',ea',l',q4⟩=>?_;exact JX I4 ea' c n l' rz λs5 I5=>⟨σ,_,I5,q4⟩
def zk9:V->V->Hp->VK->Prop:=λx y H Q=>∃i j,x=.int i/\y=.int j/\Q (.int (i+j)) H
def zjT:zk0 X .Add zk9:=by
 rintro p5 s σ H x y u v Q I rx ry ⟨i,j,rfl,rfl,q⟩;let⟨t,rfl⟩:=(show ∃t,u=Value.int i t from rx);let⟨t',rfl⟩:=(show ∃t',v=Value.int j t' from ry);exact PyProof.Rows.iadd_int ⟨.int (i+j),H,I.tok _,⟨_,rfl⟩,q⟩
end
section
variable{X:Cx}{p5:A2}{σ:St}{H:Hp}{s:An}{A:Ao}{E:A3}{Q:A3}{c:Am}{b:Bool}
inductive TyOf(K:A0)(H:Hp):V->Value->Prop where
 |non:TyOf K H .non (.type "NoneType")
 |bl (x:Bool):TyOf K H (.bl x) (.type "bool")
 |int (i:Int):TyOf K H (.int i) (.type "int")
 |str (x:Str):TyOf K H (.str x) (.type "str")
 |flt (x:UInt64):TyOf K H (.flt x) (.type "float")
 |lst {a:Addr} {xs:Ap} (e:H a=some (.lst xs)):TyOf K H (.ref a) (.type "list")
 |frz {a:Addr} {o:Obj} {xs:Ap} (e:H a=some (.frz o (.lst xs))):TyOf K H (.ref a) (.type "list")
 |tup {a:Addr} {xs:Ap} (e:H a=some (.tup xs)):TyOf K H (.ref a) (.type "tuple")
 |dK {a:Addr} {ph:List (Key×V)} (e:H a=some (.dK ph)):TyOf K H (.ref a) (.type "dict")
 |dT {a:Addr} {ph:As} (e:H a=some (.dT ph)):TyOf K H (.ref a) (.type "dict")
 | ins {a C dx:Addr} {fs:Ar} (e:H a=some (.ins C dx fs)) (cl:Cls K C) (ha:findIn K (.ref C) "__class__"=some (some (.builtin "object.__class__")))
   (hn:specialIn K (.builtin "object.__class__") "__get__"=some (some (.builtin "getset_descriptor.__get__"))) (htk:takesIn K (.builtin "object.__class__")=some true)
   (hm:mroIn K C (.type "object")=some true):TyOf K H (.ref a) (.ref C)
end
structure Room(k:Nat)(A:Ao):Prop where
 hd:A.handled=none
 dp:A.depth+3*k+5<recursionLimit
 un:A.units+16*k+200<cLine
def Room.mono{j k:Nat}(r:Room k A)(h:j<=k):Room j A:=⟨r.hd,by have:=r.dp;lia,by have:=r.un;lia⟩
def Room.deeper(r:Room (k+1) A)(env:Env):Room k (A.deeper env) :=
 ⟨r.hd,by have:=r.dp;show A.depth+1+3*k+5<_;lia,by have:=r.un;show A.units+3+16*k+200<_;lia⟩
def Room.in1(r:Room (k+1) A):Room k A.in1 :=
 ⟨r.hd,by have:=r.dp;show A.depth+3*k+5<_;lia,by have:=r.un;show A.units+1+16*k+200<_;lia⟩
def zcS{kw:List (Str×Value)}:(A.under (.builtin "type.__call__" ⟨.ref C::us,kw⟩)).depth=A.depth+1:=by
 first|rfl|simp[Around.under,Code.weight,Code.isCreation,Code.isGuard,Code.isCaller,Code.frames,Code.isFrame,guardIds]
def zcR{kw:List (Str×Value)}:(A.under (.builtin "type.__call__" ⟨.ref C::us,kw⟩)).units=A.units+1:=by
 first|rfl|simp[Around.under,Code.cUnits,Code.frames,Code.isFrame]
def Room.make(r:Room (k+1) A)(C:Addr)(us:A7)(kw:List (Str×Value)):Room k (A.under (.builtin "type.__call__" ⟨.ref C::us,kw⟩)) :=
 ⟨r.hd,by have:=r.dp;rw[zcS];lia,by have:=r.un;rw[zcR];lia⟩
def Room.depth(r:Room k A):A.depth<recursionLimit:=by have:=r.dp;lia
def Room.units(r:Room k A):A.units+64<cLine:=by have:=r.un;lia
def tNil:TA:=λ_ H Q=>Q [] H
def tCons(ta:TE)(tr:TA):TA:=λσ H Q=>ta σ H λx H1=>tr σ H1 λxs H2=>Q (x::xs) H2
section
variable{X:Cx}{e:Expr}{es:List Expr}{te:TE}{t:TA}{pos:Pos}
def zb:PA X [] tNil:=λ_ _ _ _ H Q I h=>Calls.spliced_nil ⟨[],H,I,.nil,h⟩
def za(ha:PE X e te)(hr:PA X es t)(hs:starEach (e::es) X.env=(false,eval e X.env)::starEach es X.env:=by rfl):PA X (e::es) (tCons te t):=by
 intro pos p5 s σ H Q I h;rw[hs];show wpAny _ _ (spliced ((false,eval e X.env)::backTo pos (starEach es X.env))) _ _ s
 refine Calls.spliced_cons (qI (ha p5 s σ H _ I h) λu s1 x H1 I1 r1 q1=>?_);exact vo (hr pos p5 s1 σ H1 _ I1 q1) λus s2 xs H2 I2 r2 q2=>⟨x::xs,H2,I2,.cons r1 r2,q2⟩
def tTup(t:TA):TE:=λσ H Q=>t σ H λxs H1=>szl xs (∀p,H1 p=none->Q (.ref p) (upd H1 p (.tup xs)))
def tLst(t:TA):TE:=λσ H Q=>t σ H λxs H1=>szl xs (∀p,H1 p=none->Q (.ref p) (upd H1 p (.lst xs)))
def jq{x1}(h:PA X es t):PE X (.Tuple es x1 pos) (tTup t):=by
 intro p5 s σ H Q I hq;refine wpAny_Tuple_spliced (vo (h pos p5 s σ H _ I hq) λus s1 xs H1 I1 r q=>let⟨z,q⟩:=zch q;⟨by rw[<- r.length];exact z,?_⟩);have hf:H1 s1.heap.objs.size=none:=I1.hok.fresh (au _);refine⟨.ref s1.heap.objs.size,upd H1 s1.heap.objs.size (.tup xs),I1.laid (t':=s1.toks) (λb u e=>aj _ e) (au _) ?_,rfl,q _ hf⟩;exact⟨z,us,r,⟨_,aC _ rfl,rfl,_,rfl⟩⟩
def zO(h:PA X es t):PE X (.List es pos) (tLst t):=by
 intro p5 s σ H Q I hq;refine wpAny_List_spliced (vo (h pos p5 s σ H _ I hq) λus s1 xs H1 I1 r q=>let⟨z,q⟩:=zch q;⟨by rw[<- r.length];exact z,?_⟩);have hf:H1 s1.heap.objs.size=none:=I1.hok.fresh (au _);refine⟨.ref s1.heap.objs.size,upd H1 s1.heap.objs.size (.lst xs),I1.laid (t':=s1.toks) (λb u e=>aj _ e) (au _) ?_,rfl,q _ hf⟩;exact⟨z,us,0,r,aC _ rfl⟩
end
abbrev Sp:=List V->Hp->VK->XK->Prop
abbrev CXT:=List Env->Hp->Shared->XK->Value->Shared->Prop
variable{CX:CXT}
structure Env0(P:Af)(w:World)(K:A0)(mg:A4)(base:Heap)(A:Ao)(outer:List Env)(s:An)(H:Hp):Prop where
 frames:A.frames=some outer
 mod:Mod K mg base
 bs:∀b o,base.get? b=some o->s.heap.get? b=some o/\H b=none
 bsz:base.objs.size<=s.heap.objs.size
 funs:s.heap.FunFrames base outer
 frf:∀b∈frs outer,H b=none
 hok:HOk P w H s.heap
 bare:AllBare s.gens
def CE(outer:List Env)(P:Af)(w:World)(H:Hp)(s:An)(Q:VK)(u:Am)(s':An):Prop :=
 ∃v H',s'.os=s.os/\AllBare s'.gens/\Un (frs outer) [] H H' s.heap s'.heap/\HOk P w H' s'.heap/\RelV v u/\Q v H'
def CR(CX:CXT)(outer:List Env)(P:Af)(w:World)(H:Hp)(s:An)(Q:VK)(E:XK)(r:Result)(s':An):Prop :=
 match r with
 | .ok (.ret u)=>CE outer P w H s Q u s'
 | .ok _=>False
 | .error e=>CX outer H s E e s'
structure FnOk(P:Af)(w:World)(K:A0)(mg:A4)(base:Heap)(CX:CXT)(k:Nat)(f:Addr)(fd:FuncData)(ps:A8)(sp:Sp):Prop where
 len:∀vs H Q E,sp vs H Q E->vs.length=ps.length
 run:∀(A:Ao)(outer:List Env)(s:An)(H:Hp)(args:Args)(us:A7)(vs:Ap)(Q:VK)(E:XK),Room k A->Env0 P w K mg base A outer s H->BindsTo s fd args (ps.zip us)->Vals vs us->sp vs H Q E ->
  codeAny (model P w) A (.call (.ref f) args) (CR CX outer P w H s Q E) s
def FnOk.mono{j k:Nat}{f:Addr}{ps:A8}{sp:Sp}(F:FnOk P w K mg base CX j f fd ps sp)(h:j<=k) :
  FnOk P w K mg base CX k f fd ps sp:=⟨F.len,λA outer s H args us vs Q E hr=>F.run A outer s H args us vs Q E (hr.mono h)⟩
def FnOk.imp{f:Addr}{ps:A8}{sp sp':Sp}(F:FnOk P w K mg base CX k f fd ps sp)(h:∀vs H Q E,sp' vs H Q E->sp vs H Q E):FnOk P w K mg base CX k f fd ps sp' :=
 ⟨λvs H Q E q=>F.len vs H Q E (h _ _ _ _ q),λA outer s H args us vs Q E hr he hb hv hs=>F.run A outer s H args us vs Q E hr he hb hv (h _ _ _ _ hs)⟩
def Env0.make{outer:List Env}(e:Env0 P w K mg base A outer s H)(C:Addr)(us:A7)(kw:List (Str×Value)) :
  Env0 P w K mg base (A.under (.builtin "type.__call__" ⟨.ref C::us,kw⟩)) outer s H:=⟨by first|exact e.frames|(simpa[Around.under,Code.envs,Code.isFrame,pushEnvs]using e.frames),e.mod,e.bs,e.bsz,e.funs,e.frf,e.hok,e.bare⟩
def Env0.in1{outer:List Env}(e:Env0 P w K mg base A outer s H) :
  Env0 P w K mg base A.in1 outer s H:=⟨e.frames,e.mod,e.bs,e.bsz,e.funs,e.frf,e.hok,e.bare⟩
section
variable{X:Cx}{p5:A2}{σ:St}{H:Hp}{s s':An}
def Inv.env0(I:Inv X p5 σ H s):Env0 X.prog X.w X.K X.mg X.base X.A X.stack s H :=
 ⟨I.ok.frames,I.ok.mod,I.bs,bj I.ok.bsz I.sz,I.stack,I.stkFree,I.hok,I.bare⟩
def Inv.after{Q:VK}(I:Inv X p5 σ H s)(h:CE X.stack X.prog X.w H s Q u s'):EP X p5 σ Q u s':=by
 let⟨v,H',os,bare,un,hok,r,q⟩:=h;let⟨hh,g,d,t,os'⟩:=s';obtain rfl:os'=s.os:=os;exact⟨v,H',I.call (h':=hh) (g':=g) (d':=d) (t':=t) (ch:=[]) un hok bare (λb z=>absurd z (by simp)),r,q⟩
end
def Binds(K:A0)(fd:FuncData)(ps:A8)(ds:A7):Prop :=
 ∀(s:An)(us:A7),K.In s.heap->(us++ds).length=ps.length->BindsTo s fd ⟨us,[]⟩ (ps.zip (us++ds))
def Binds.all{ps:A8}(h:∀us:List Value,us.length=ps.length->bindArgs fd ⟨us,[]⟩=pure (ps.zip us)):Binds K fd ps []:=λs us _ hl=>by
 rw[cj]at hl ⊢;exact .of_eq (h us hl)
def zdk(CX:CXT)(X:Cx)(E:XK):Prop:=∀(p5:A2)(σ:St)(H:Hp)(s:An)(e:Am)(s':An),Inv X p5 σ H s->CX X.stack H s E e s'->X.xe e s'
section
variable{X:Cx}{CX:CXT}{k:Nat}{f C:Addr}{fd:FuncData}{ps:A8}{sp:Sp}{dvs:Ap}{ds:A7}{E:XK}{x m:Str}{p pos apos:Pos}{e o:Expr}{es:List Expr}{ta:TE}{t:TA}
theorem zcz{Q:VK}{vs:Ap}(F:FnOk X.prog X.w X.K X.mg X.base CX k f fd ps sp)(hr:Room k X.A)(hb:Binds X.K fd ps ds)(hd:Vals dvs ds)(hx:zdk CX X E)(I:Inv X p5 σ H s)(r:Vals vs us)(h:sp (vs++dvs) H Q E):wpAny (model X.prog X.w) X.A (call (.ref f) us) (EP X p5 σ Q) X.xe s:=by
 have r2:Vals (vs++dvs) (us++ds):=r.append hd;have hl:(us++ds).length=ps.length:=by rw[<- r2.length];exact F.len _ _ _ _ h
 refine fB (cT (F.run X.A X.stack s H ⟨us,[]⟩ (us++ds) (vs++dvs) Q E hr I.env0 (hb s us I.kIn hl) r2 h) λr s' hq=>?_);cases r with
 |error e=>exact hx p5 σ H s e s' I hq
 |ok fl =>
  cases fl with
  |ret u=>exact I.after hq
  |next=>exact False.elim hq
  |brk=>exact False.elim hq
  |cont=>exact False.elim hq
structure Mk(K:A0)(C f:Addr):Prop where
 makes:makesIn K C=true
 init:findIn K (.ref C) "__init__"=some (some (.ref f))
 fn:isFn K (.ref f)=true
 kp:keepIn K (.ref C)=true
theorem zf1{Q:VK}{vs:Ap}(M:Mk X.K C f)(F:FnOk X.prog X.w X.K X.mg X.base CX k f fd ps sp)(hr:Room (k+1) X.A)(hb:Binds X.K fd ps ds)(hd:Vals dvs ds)(hx:zdk CX X E)(I:Inv X p5 σ H s)(r:Vals vs us)(h:∀x dx,H x=none->H dx=none->dx≠x->sp (.ref x::(vs++dvs)) (upd (upd H dx (.own x)) x (.ins C dx [])) (λv H2=>v=.non/\Q (.ref x) H2) E) :
  wpAny (model X.prog X.w) X.A (call (.ref C) us) (EP X p5 σ Q) X.xe s:=by
 have hq:=h (s.heap.objs.size+1) s.heap.objs.size (I.hok.fresh (cZ _)) (I.hok.fresh (au _)) (aP (cI _));have I2:=Inv.made (C:=C) I;have r2:Vals (V.ref (s.heap.objs.size+1)::(vs++dvs)) (Value.ref (s.heap.objs.size+1)::(us++ds)):=.cons rfl (r.append hd);have hl:(Value.ref (s.heap.objs.size+1)::us++ds).length=ps.length:=by
  have e:=r2.length;rw[F.len _ _ _ _ hq]at e;exact e.symm
 refine fB (zby (f:=f) I.kIn M.makes M.init (bM.mp M.fn) (cT (F.run _ X.stack _ _ ⟨Value.ref (s.heap.objs.size+1)::us,[]⟩ (Value.ref (s.heap.objs.size+1)::(us++ds)) _ _ E (hr.make C us [])
  (I2.env0.make C us []) (hb _ (Value.ref (s.heap.objs.size+1)::us) I2.kIn hl) r2 hq) λr s' hq'=>?_))
 cases r with
 |error e=>exact hx p5 σ _ _ e s' I2 hq'
 |ok fl =>
  cases fl with
  |ret u =>
   let⟨v,H',I3,rv,ev,q3⟩:=I2.after hq';subst ev;exact⟨rv,⟨V.ref (s.heap.objs.size+1),H',I3,rfl,q3⟩⟩
  |next=>exact False.elim hq'
  |brk=>exact False.elim hq'
  |cont=>exact False.elim hq'
end
def PK(X:Cx)(kws:List Keyword)(t:TA):Prop :=
 ∀(pos:Pos)(p5:A2)(s:An)(σ:St)(H:Hp)(Q:List V->Hp->Prop),Inv X p5 σ H s->t σ H Q->wpAny (model X.prog X.w) X.A (evalAll ((backToKw pos (keywordEach kws X.env)).map (·.2))) (AP X p5 σ Q) X.xe s
section
variable{X:Cx}{CX:CXT}{k:Nat}{f C:Addr}{fd:FuncData}{ps ks:A8}{sp:Sp}{E:XK}{x m:Str}{p pos apos kpos:Pos}{e o:Expr}{es:List Expr}{kws:List Keyword}{te ta:TE}{t tk:TA}{nm:Option Str}
variable{g:List Value->List Value->List Value}{gV:List V->List V->List V}
end
structure FnScope(N P:A8)(sc:Scope):Prop where
 kind:sc.kind=.function
 co:sc.isCoroutine=false
 gen:sc.isGenerator=false
 nd:N.Nodup
 pre:N.take P.length=P
 par:∀x∈P,sc.names.lookup x=some .local\/sc.names.lookup x=some .cell
 nofree:∀y∈sc.names,y.2≠.free
theorem Vm{kindOf:Str->Option NameKind}{x:Str}:∀{binds:List (Str×Value)}{m:A4},(∀v,(x,v)∉binds)->bindL kindOf binds m x=m x
 |[],_,_=>rfl
 |(n,v)::r,m,h=>by
  unfold bindL;rw[Vm λw hw=>h w (ay _ hw)]
  split
  .have:x≠n:=by rintro rfl;exact h v aU
   simp[this]
  .rfl
theorem Vo{kindOf:Str->Option NameKind}{x:Str}:∀{binds:List (Str×Value)}{m:A4},(∀v,(x,v)∉binds)->bindC kindOf binds m x=m x
 |[],_,_=>rfl
 |(n,v)::r,m,h=>by
  unfold bindC;rw[Vo λw hw=>h w (ay _ hw)]
  split
  .rfl
  .have:x≠n:=by rintro rfl;exact h v aU
   simp[this]
theorem Vn{kindOf:Str->Option NameKind}{x:Str}{v:Am}:∀{P:A8}{vs:A7}{i:Nat}{m:A4},P.Nodup->P[i]?=some x->vs[i]?=some v->kindOf x=some .local ->
  bindL kindOf (P.zip vs) m x=some v
 |[],_,_,_,_,h,_,_=>by simp at h
 |_::_,[],_,_,_,_,h,_=>by simp at h
 |p::P,w::vs,0,m,nd,h1,h2,hk=>by
  simp at h1 h2;subst h1;subst h2;show bindL kindOf ((p,w)::P.zip vs) m p=_
  unfold bindL;rw[Vm λv hv=>(cS.mp nd).1 (of_mem_zip hv).1,ao hk];simp
 |p::P,w::vs,i+1,m,nd,h1,h2,hk=>by
  show bindL kindOf ((p,w)::P.zip vs) m x=_
  unfold bindL;exact Vn (i:=i) (cS.mp nd).2 (by simpa using h1) (by simpa using h2) hk
theorem Vp{kindOf:Str->Option NameKind}{x:Str}{v:Am}:∀{P:A8}{vs:A7}{i:Nat}{m:A4},P.Nodup->P[i]?=some x->vs[i]?=some v->kindOf x≠some .local ->
  bindC kindOf (P.zip vs) m x=some v
 |[],_,_,_,_,h,_,_=>by simp at h
 |_::_,[],_,_,_,_,h,_=>by simp at h
 |p::P,w::vs,0,m,nd,h1,h2,hk=>by
  simp at h1 h2;subst h1;subst h2;show bindC kindOf ((p,w)::P.zip vs) m p=_
  unfold bindC;rw[Vo λv hv=>(cS.mp nd).1 (of_mem_zip hv).1,ak hk];simp
 |p::P,w::vs,i+1,m,nd,h1,h2,hk=>by
  show bindC kindOf ((p,w)::P.zip vs) m x=_
  unfold bindC;exact Vp (i:=i) (cS.mp nd).2 (by simpa using h1) (by simpa using h2) hk
noncomputable def start(N:A8)(vs:Ap):St:=vs.map some++List.replicate (N.length-vs.length) none
noncomputable def Jv(CX:CXT)(P:Af)(w:World)(K:A0)(mg:A4)(base:Heap)(N:A8)(qual:Str)(scope:Scope)(f:Addr)(cd:Am)(A:Ao)(outer:List Env)(s:An)(H:Hp)(E:XK):Cx where
 prog:=P
 w:=w
 K:=K
 mg:=mg
 base:=base
 A:=A.deeper (envOfC qual scope s.heap.objs.size f cd)
 N:=N
 s₀:=s
 H₀:=H
 env:=envOfC qual scope s.heap.objs.size f cd
 outer:=outer
 stack:=envOfC qual scope s.heap.objs.size f cd::outer
 ex:=[]
 calm:=true
 fn:=λ_=>true
 pn:=[]
 xe:=λe s'=>wpAny (model P w) (A.deeper (envOfC qual scope s.heap.objs.size f cd)) (leaving (envOfC qual scope s.heap.objs.size f cd) e) (λ_ s''=>CX outer H s E e s'') (λe' s''=>CX outer H s E e' s'') s'
def zbY{sc:Scope}{n:Nat}(h:sc.names.lookup x=some .cell):∃c,(cellsFrom n sc.names []).lookup x=some c:=by
 have q:=gy sc.names n [] (.inl h);exact fZ.mp q
theorem ze4{N ps:A8}{qual:Str}{scope:Scope}{f:Addr}{cd:Am}{outer:List Env}{s s1:An}{E:XK}{vs:Ap}(S:FnScope N ps scope)(hd:A.handled=none)(e0:Env0 P w K mg base A outer s H)(hl:vs.length=ps.length)(r:Vals vs us)(x:InCallC s s.heap.objs.size (bindL (envOfC qual scope s.heap.objs.size f cd).kindOf (ps.zip us) λ_=>none) (cellsFrom (s.heap.objs.size+1) scope.names []) (bindC (envOfC qual scope s.heap.objs.size f cd).kindOf (ps.zip us) λ_=>none) s1) :
  Inv (Jv CX P w K mg base N qual scope f cd A outer s H E) [] (start N vs) H s1:=by
 have hpl:ps.length<=N.length:=by have:=bn List.length S.pre;rw[aQ]at this;lia
 let⟨h1,tk,rfl,hk⟩:=x.done;have noA:∀b:Addr,b∉(Jv CX P w K mg base N qual scope f cd A outer s H E).ex:=λb z=>absurd (show b∈([]:Ab)from z) (by simp);refine⟨⟨e0.mod,S.kind,rfl,rfl,au _,λy z c h1 h2=>?_,λy hy=>?_,λy c _ h=>?_,λ_=>hd,Around.frames_deeper e0.frames,.inr ⟨rfl,rfl⟩,λb z=>absurd z (noA b),e0.bs,e0.bsz,λb _ _=>noA b,λb z=>absurd z (noA b),e0.funs,e0.frf⟩,
  rfl,e0.bare,Un.kept hk,⟨_,x.toInCall.ns,λi y v h1 h2 h3=>?_⟩,λy c h=>⟨_,x.cell y c h⟩,e0.hok.fresh (au _),λy c h=>?_,λp hp=>absurd (show p∈([]:A2)from hp) (by simp),e0.hok.kept hk,?_⟩
 .exact name_of_addr x.apart (bT h1) (bT h2)
 .have hy:scope.names.lookup y=some .cell\/scope.names.lookup y=some .free:=hy;rcases hy with hy|hy
  .exact zbY hy
  .exact absurd rfl (S.nofree _ (bT hy))
 .exact b8 (x.above y c (bT h))
 .have hi:i<vs.length:=by
   unfold start at h2;by_cases hi:i<vs.length
   .exact hi
   .rw[aS (by simpa using hi)]at h2;rw[cz]at h2
    split at h2<;>cases h2
  have ha:vs[i]?=some v:=by
   unfold start at h2;rw[aY (by simpa using hi),am]at h2;cases e:vs[i]? with
   |none=>rw[e]at h2;cases h2
   |some a=>rw[e]at h2;cases h2;rfl
  let⟨u,hu,rv⟩:=r.get ha;have hp:ps[i]?=some y:=by
   rw[<- S.pre,List.getElem?_take_of_lt (by lia)];exact h1
  have ndP:ps.Nodup:=by rw[<- S.pre];exact S.nd.sublist (List.take_sublist _ _)
  refine⟨u,rv,?_⟩;rcases S.par y (ah hp)with k|k
  .exact .inl ⟨k,Vn ndP hp hu k⟩
  .obtain⟨c,e⟩:=zbY (n:=s.heap.objs.size+1) k;refine .inr ⟨.inl k,c,e,?_⟩;have q:=x.cell y c e;rw[Vp ndP hp hu (by show scope.names.lookup y≠_;rw[k];decide)]at q;exact q
 .exact e0.hok.fresh (b8 (x.above y c (bT h)))
 .unfold start;show _=N.length
  rw[aH,ai,bg]
  lia
theorem zgY{f:Addr}{name qual:Str}{params:Arguments}{body:List Stmt}{scope:Scope}{dV kV doc pm cdv ct oc:Am}{an od:Aa}{osl:Ae}{N ps:A8}{sp:Sp}(lk:K.lookup f=some ⟨oc,od,.func (fnOf name qual params body scope dV kV doc pm an cdv ct),osl⟩)(hcd:codeIn K cdv qual=true)(S:FnScope N ps scope)(len:∀vs H Q E,sp vs H Q E->vs.length=ps.length)(hbody:∀(A:Ao)(outer:List Env)(s:An)(H:Hp)(vs:Ap)(Q:VK)(E:XK),Room k (A.deeper (envOfC qual scope s.heap.objs.size f cdv))->sp vs H Q E ->
   ∃t,PSs (Jv CX P w K mg base N qual scope f cdv A outer s H E) body t/\t {nx:=λ_ H'=>Q .non H',rt:=Q} (start N vs) H) :
  FnOk P w K mg base CX (k+1) f (fnOf name qual params body scope dV kV doc pm an cdv ct) ps sp:=by
 refine⟨len,λA outer s H args us vs Q E hr e0 hb r hsp=>?_⟩;have hl:=len _ _ _ _ hsp;have KX:K.In s.heap:=e0.mod.kin.keeps λb o e=>(e0.bs b o e).1;have lim:s.heap.NoLimit:=e0.mod.nolimit.keeps λb o e=>(e0.bs b o e).1;have hkind:∀y∈ps.zip us,scope.names.lookup y.1=some .local\/(scope.names.lookup y.1=some .cell/\((cellsFrom (s.heap.objs.size+1) scope.names []).lookup y.1).isSome=true):=λ⟨n,v⟩ hy=>by
  rcases S.par n (of_mem_zip hy).1 with q|q
  .exact .inl q
  .exact .inr ⟨q,gy _ _ _ (.inl q)⟩
 refine codeAny_call_function hr.depth (KX _ _ lk) rfl S.co S.gen rfl (PySem.W.codeRec_of KX hcd) (hb _ _ _ _ ?_);refine wpAny_newFunctionEnv_cells S.kind hkind λenv he s1 x=>?_;subst he;refine⟨lim.keeps x.toInCall.keep,codeAny_func ?_⟩;let⟨t,ht,hq⟩:=hbody A outer s H vs Q E (hr.deeper _) hsp;have I:Inv (Jv CX P w K mg base N qual scope f cdv A outer s H E) [] (start N vs) H s1:=ze4 S hr.hd e0 hl r x;refine aZ (ht [] s1 (start N vs) H _ I hq) (λfl s' hs=>?_) λe s' hs=>hs;have fin:∀{σ':St}{H':Hp}{v:V}{u:Am},Inv (Jv CX P w K mg base N qual scope f cdv A outer s H E) [] σ' H' s'->RelV v u->Q v H'->CE outer P w H s Q u s' :=
  λ{σ' H' v u} J rv q=>⟨v,H',J.os,J.bare,J.base,J.hok,rv,q⟩
 cases fl with
 |ret u =>
  let⟨v,σ',H',J,rv,q⟩:=hs;exact fin J rv q
 |next =>
  let⟨σ',H',J,q⟩:=hs;exact fin (v:=V.non) (u:=Value.none) J rfl q
 |brk =>
  let⟨_,_,_,q⟩:=hs;exact False.elim q
 |cont =>
  let⟨_,_,_,q⟩:=hs;exact False.elim q
section
variable{X:Cx}{x:Str}{p pos:Pos}{e:Expr}{es:List Expr}{t:TA}{id T:String}{r:List V->Hp->VK->Prop}
def tCB(r:List V->Hp->VK->Prop)(t:TA):TE:=λσ H Q=>t σ H λvs H1=>r vs H1 Q
def zgl(hc:CallR X (.builtin id) r)(hg:Gl X x)(hm:X.mg x=none)(hv:bootBuiltins x=some (.builtin id))(ha:PA X (e::es) t)(hn:x≠"__name__":=by decide)(hdb:(x == ("__debug__":Str))=false:=by decide)(he:starEach (e::es) X.env=(false,eval e X.env)::starEach es X.env:=by rfl)(hpl:(backTo pos (starEach es X.env)).any (·.1)=false:=by rfl):PE X (.Call (.Name x p) (e::es) [] pos) (tCB r t):=by
 intro p5 s σ H Q I h;refine bP (vS I hg hm hv ?_ hn hdb);exact PyProof.Rows.callWith_builtin1 (vo (ha pos p5 s σ H _ I h) λus s1 vs H1 I1 r1 q1=>hc p5 s1 σ H1 vs us Q I1 r1 q1) he hpl
def zeO(hc:CallR X (.type T) r)(hg:Gl X x)(hm:X.mg x=none)(hv:bootBuiltins x=some (.type T))(ha:PA X (e::es) t)(hn:x≠"__name__":=by decide)(hdb:(x == ("__debug__":Str))=false:=by decide)(he:starEach (e::es) X.env=(false,eval e X.env)::starEach es X.env:=by rfl)(hpl:(backTo pos (starEach es X.env)).any (·.1)=false:=by rfl):PE X (.Call (.Name x p) (e::es) [] pos) (tCB r t):=by
 intro p5 s σ H Q I h;refine bP (vS I hg hm hv ?_ hn hdb);exact bB (vo (ha pos p5 s σ H _ I h) λus s1 vs H1 I1 r1 q1=>hc p5 s1 σ H1 vs us Q I1 r1 q1) he hpl
end
end L2
namespace HT
open PySem PyProof.Rows
section
open PySem.SeqAt
open PySem.AutoSeq1 (wpAny_loadPart')
open PySem.MeetsSeq PySem.MeetsSeq2 PySem.MeetsSeq3
end
section
variable{prog:Af}{w:World}{A:Ao}{E:A3}{s:An}
noncomputable def sIx(n d:Nat):Option Int->Nat
 |none=>d
 |some v=>if v<0 then(v+(n:Int)).toNat else min v.toNat n
theorem sIx_none(n d:Nat):sIx n d none=d:=rfl
def sIx_nat(n d k:Nat):sIx n d (some (k:Int))=min k n:=by
 show(if (k:Int)<0 then((k:Int)+(n:Int)).toNat else min (k:Int).toNat n)=min k n
 rw[ak (by lia),ax]
end
end HT
namespace L2
open PySem PySem.Spec PyProof.Rows
abbrev TO:=St->Hp->(Option Int->Hp->Prop)->Prop
def PO(X:Cx)(e:Option Expr)(t:TO):Prop :=
 ∀(p5:A2)(s:An)(σ:St)(H:Hp)(Q:Option Int->Hp->Prop),Inv X p5 σ H s->t σ H Q ->
  wpAny (model X.prog X.w) X.A (evalPart e X.env) (λu s'=>∃o H',Inv X p5 σ H' s'/\IsPart u o/\Q o H') X.xe s
def tNoPart:TO:=λ_ H Q=>Q none H
def tPart(t:TE):TO:=λσ H Q=>t σ H λx H1=>iq x λi=>Q (some i) H1
def zc0{ns:A6}:∀{us:A7},Vals (ns.map V.int) us->IntsAre us ns:=by
 induction ns with
 |nil=>intro us r;rw[gx]at r;cases r;exact .nil
 |cons n ns ih =>
  intro us r;rw[bF]at r;cases r with
  |cons r1 r2 =>
   let⟨t,e⟩:=r1;subst e;exact .cons n t (ih r2)
section
variable{X:Cx}{e:Expr}{te:TE}{lo hi:Option Expr}{tl th:TO}{pos p2:Pos}
def jn:PO X none tNoPart:=by
 intro p5 s σ H Q I h;rw[evalPart_none];exact ap ⟨none,H,I,.none,h⟩
def qJ(h:PE X e te):PO X (some e) (tPart te):=by
 intro p5 s σ H Q I hw;rw[evalPart_some];refine qI (h p5 s σ H _ I hw) λu s1 x H1 I1 r1 q1=>?_;let⟨i,rfl,q⟩:=Qm q1;let⟨t,rfl⟩:=r1;exact⟨some i,H1,I1,.int i t,q⟩
def SlR(X:Cx)(r:V->Option Int->Option Int->Hp->VK->Prop):Prop :=
 ∀(p5:A2)(s:An)(σ:St)(H:Hp)(x:V)(v vl vu:Am)(lo hi:A9)(sl:Addr)(Q:VK),Inv X p5 σ H s->RelV x v->s.heap.IsSliceOf sl vl vu .none->IsPart vl lo->IsPart vu hi->r x lo hi H Q ->
  ∃T id,typeLookup (.type T) "__getitem__"=pure (some (.builtin id))/\s.TypeIs v T/\wpAny (model X.prog X.w) X.A (getItem v (.ref sl)) (EP X p5 σ Q) X.xe s
def SlR.or{r r':V->Option Int->Option Int->Hp->VK->Prop}(h:SlR X r)(h':SlR X r'):SlR X (λx lo hi H Q=>r x lo hi H Q\/r' x lo hi H Q):=by
 intro p5 s σ H x v vl vu lo hi sl Q I rx hs pl pu q;rcases q with q|q
 .exact h p5 s σ H x v vl vu lo hi sl Q I rx hs pl pu q
 .exact h' p5 s σ H x v vl vu lo hi sl Q I rx hs pl pu q
def tSl(r:V->Option Int->Option Int->Hp->VK->Prop)(te:TE)(tl th:TO):TE:=λσ H Q=>te σ H λx H1=>tl σ H1 λl H2=>th σ H2 λu H3=>r x l u H3 Q
def qC{r:V->Option Int->Option Int->Hp->VK->Prop}(hr:SlR X r)(he:PE X e te)(hl:PO X lo tl)(hu:PO X hi th):PE X (.Subscript e (.Slice lo hi none p2) pos) (tSl r te tl th):=by
 intro p5 s σ H Q I h;refine Subscript_ (qI (he p5 s σ H _ I h) λv s1 x H1 I1 r1 q1=>?_);refine wpAny_Slice (thn (hl p5 s1 σ H1 _ I1 q1) λvl s2 ⟨l,H2,I2,pl,q2⟩=>thn (hu p5 s2 σ H2 _ I2 q2) λvu s3 ⟨u,H3,I3,pu,q3⟩=>?_);rw[evalPart_none];refine ap ?_;have I4:Inv X p5 σ H3 {s3 with heap:=s3.heap.push {cls:=.type "slice",data:=.fields #[vl,vu,.none]} }:=I3.kept (t':=s3.toks) λb ob q=>aj _ q;let⟨T,id,hT,ht,hg⟩:=hr p5 {s3 with heap:=s3.heap.push {cls:=.type "slice",data:=.fields #[vl,vu,.none]} } σ H3 x v vl vu l u s3.heap.objs.size Q I4 r1 (Heap.IsSliceOf.new ..) pl pu q3;show wpAny (model X.prog X.w) X.A (subscriptTail e (.Slice lo hi none p2) v (.ref s3.heap.objs.size)) (EP X p5 σ Q) X.xe {s3 with heap:=s3.heap.push {cls:=.type "slice",data:=.fields #[vl,vu,.none]} }
 exact tail_any (ops:=[.ref s3.heap.objs.size,v]) ht hT hg (by with_unfolding_all rfl)
noncomputable def vm(xs:Ap)(lo hi:A9):List V:=(xs.drop (HT.sIx xs.length 0 lo)).take (HT.sIx xs.length xs.length hi-HT.sIx xs.length 0 lo)
def zbU(xs:Ap)(lo hi:A9):(vm xs lo hi).length<=xs.length:=by
 unfold vm;rw[aQ,dW]
 lia
end
noncomputable def ixN(n:Nat)(i:Int):Option Nat:=if 0<=i then(if i<n then some i.toNat else none)else if -(n:Int)<=i then some (i+n).toNat else none
noncomputable def atI{α:Type}(xs:List α)(i:Int):Option α:=(ixN xs.length i).bind λj=>xs[j]?
def zdQ{n:Nat}{i:Int}{j:Nat}(h:ixN n i=some j):seqIndex? i n=some j/\j<n/\-(n:Int)<=i/\i<n:=by
 unfold ixN at h;by_cases h0:0<=i
 .rw[ao h0]at h;by_cases h1:i<n
  .rw[ao h1]at h;have e:i.toNat=j:=aF h;exact⟨by rw[gi h0 h1,e],by lia,by lia,h1⟩
  .rw[ak h1]at h;cases h
 .rw[ak h0]at h;by_cases h1:-(n:Int)<=i
  .rw[ao h1]at h;have e:(i+n).toNat=j:=aF h;exact⟨by rw[seqIndex_neg (by lia) h1,e],by lia,h1,by lia⟩
  .rw[ak h1]at h;cases h
def JJ{α:Type}{xs:List α}{i:Int}{v:α}(h:atI xs i=some v):∃j,seqIndex? i xs.length=some j/\xs[j]?=some v/\j<xs.length/\-(xs.length:Int)<=i/\i<xs.length:=by
 unfold atI at h;cases e:ixN xs.length i with
 |none=>rw[e]at h;cases h
 |some j =>
  rw[e]at h;let⟨h1,h2,h3,h4⟩:=zdQ e;exact⟨j,h1,h,h2,h3,h4⟩
def zt{α:Type}{xs:List α}{j:Nat}{v:α}(h:xs[j]?=some v):atI xs (j:Int)=some v:=by
 have hj:j<xs.length:=(aa.mp h).1;have e:ixN xs.length (j:Int)=some j:=by
  unfold ixN;rw[ao (by lia),ao (by lia)];simp
 unfold atI;rw[e];exact h
def zed(b:Expr):Prop:=∀o i,subscripted b false o i=operate [o,i] (getItem o i)
def IxR(X:Cx)(r:R2):Prop :=
 ∀(value slice:Expr)(p5:A2)(s:An)(σ:St)(H:Hp)(x y:V)(v u:Am)(Q:VK),Inv X p5 σ H s->RelV x v->RelV y u->r x y H Q ->
  subscripted slice false v u=operate [v,u] (getItem v u)->wpAny (model X.prog X.w) X.A (subscriptTail value slice v u) (EP X p5 σ Q) X.xe s
def MtR(X:Cx)(id:String)(r:V->List V->Hp->VK->Prop):Prop :=
 ∀(p5:A2)(s:An)(σ:St)(H:Hp)(x:V)(xs:Ap)(v:Am)(us:A7)(Q:VK),Inv X p5 σ H s->RelV x v->Vals xs us->r x xs H Q ->
  wpAny (model X.prog X.w) X.A (call (.builtin id) (v::us)) (EP X p5 σ Q) X.xe s
section
variable{X:Cx}{a b:Expr}{ta tb:TE}{pos:Pos}
def IxR.or{r r':R2}(h:IxR X r)(h':IxR X r'):IxR X (λx y H Q=>r x y H Q\/r' x y H Q):=by
 intro value slice p5 s σ H x y v u Q I rx ry q hs;rcases q with q|q
 .exact h value slice p5 s σ H x y v u Q I rx ry q hs
 .exact h' value slice p5 s σ H x y v u Q I rx ry q hs
def MtR.or{id:String}{r r':V->List V->Hp->VK->Prop}(h:MtR X id r)(h':MtR X id r'):MtR X id (λx xs H Q=>r x xs H Q\/r' x xs H Q):=by
 intro p5 s σ H x xs v us Q I rx rs q;rcases q with q|q
 .exact h p5 s σ H x xs v us Q I rx rs q
 .exact h' p5 s σ H x xs v us Q I rx rs q
def zkC{r:R2}(hr:IxR X r)(ha:PE X a ta)(hb:PE X b tb)(hs:zed b):PE X (.Subscript a b pos) (tOp r ta tb):=by
 intro p5 s σ H Q I h;exact Subscript_ (zj8 ha hb I h λv u s2 x y H2 I2 rx ry q=>hr a b p5 s2 σ H2 x y v u Q I2 rx ry q (hs _ _))
def zkz(K:A0):R2:=λx y H Q=>∃p xs i v,x=.ref p/\y=.int i/\SqL K H p xs/\atI xs i=some v/\Q v H
def zkx(K:A0):R2:=λx y H Q=>∃p xs i v,x=.ref p/\y=.int i/\SqT K H p xs/\atI xs i=some v/\Q v H
def zky:R2:=λx y H Q=>∃z i c,x=.str z/\y=.int i/\z.length<=sizeLine/\atI z.cps.toList i=some c/\Q (.str ⟨#[c]⟩) H
def ix_list:IxR X (zkz X.K):=by
 intro value slice p5 s σ H x y v u Q I rx ry h hs;let⟨p,xs,i,z,rfl,rfl,hq,he,q⟩:=h;cases rx;let⟨t,rfl⟩:=ry;let⟨pi,r,pl,hz⟩:=I.list hq;let⟨j,h1,h2,h3,h4,h5⟩:=JJ he;let⟨w,ew,rw'⟩:=r.get h2;have hl:=r.length;have hn:=ZM;have fin:EP X p5 σ Q w s:=⟨z,H,I,rw',q⟩;by_cases h0:0<=i
 .have hj:i.toNat=j:=by
   rw[gi h0 h5]at h1;exact aF h1
  exact item_listR pl.isList h0 (by lia) (by rw[hj];simpa using ew) fin hs
 .have hj:(i+(pi.toArray.size:Int)).toNat=j:=by
   rw[seqIndex_neg (by lia) h4]at h1;rw[aw,<- hl];exact aF h1
  exact subscriptTail_builtinR (x:=w) pl.isList.typeIs slot_list_getitem.lookup
   (wpAny_getItem_list_neg (Q:=λr s'=>r=w/\EP X p5 σ Q r s') pl.isList (by lia) (by rw[aw]<;>lia) (by lia) (by rw[hj];simpa using ew) ⟨rfl,fin⟩) hs
def ix_tup:IxR X (zkx X.K):=by
 intro value slice p5 s σ H x y v u Q I rx ry h hs;let⟨p,xs,i,z,rfl,rfl,hq,he,q⟩:=h;cases rx;let⟨t,rfl⟩:=ry;let⟨pi,r,pl,hz⟩:=I.tuple hq;let⟨j,h1,h2,h3,h4,h5⟩:=JJ he;let⟨w,ew,rw'⟩:=r.get h2;have hl:=r.length;have hn:=ZM;have fin:EP X p5 σ Q w s:=⟨z,H,I,rw',q⟩;exact subscriptTail_builtinR (x:=w) pl.typeIs slot_tuple_getitem.lookup
  (getItem_tuple (j:=j) (Q:=λr s'=>r=w/\EP X p5 σ Q r s') pl (by lia) (by lia) (by rw[aw,<- hl];exact h1) (by simpa using ew) ⟨rfl,fin⟩) hs
def zjO:IxR X zky:=by
 intro value slice p5 s σ H x y v u Q I rx ry h hs;let⟨z,i,c,rfl,rfl,hz,he,q⟩:=h;let⟨t,rfl⟩:=rx;let⟨t',rfl⟩:=ry;let⟨j,h1,h2,h3,h4,h5⟩:=JJ he;have hl:z.cps.toList.length=z.length:=by simp[Str.length]
 rw[hl]at h1 h4 h5;have hn:=ZM;exact tail_any (fC s z t) slot_str_getitem.lookup (getItem_str (c:=c) (by
  have e1:decide (i < -(2^63:Int))=false:=aT (by lia);have e2:decide (i ≥ 2^63)=false:=aT (by lia);rw[e1,e2,Bool.or_false]) (by rw[h1];simpa using h2) ⟨.str ⟨#[c]⟩,H,I.tok _,⟨_,rfl⟩,q⟩) hs
def rIx(K:A0):R2:=λx y H Q=>zkz K x y H Q\/zkx K x y H Q\/zky x y H Q
def zjP:IxR X (rIx X.K):=ix_list.or (ix_tup.or zjO)
def zcQ(pi:A7)(n j:Nat)(u:Am):Obj.mapSeq (·.setIfInBounds j u) {cls:=.type "list",data:=.seq pi.toArray n}={cls:=.type "list",data:=.seq (pi.set j u).toArray n}:=by
 simp[Obj.mapSeq]
def Inv.lst{p5:A2}{σ:St}{H:Hp}{s:An}{p:Addr}{xs:Ap}(I:Inv X p5 σ H s)(h:H p=some (.lst xs)) :
  ∃(pi:A7)(n:Nat),Vals xs pi/\s.heap.get? p=some {cls:=.type "list",data:=.seq pi.toArray n}/\xs.length<=sizeLine:=by
 let⟨z,pi,n,r,e⟩:=I.hok p _ h;exact⟨pi,n,r,e,z⟩
def Inv.lstUpd{p5:A2}{σ:St}{H:Hp}{s:An}{p:Addr}{xs ys:Ap}{pi its':A7}{n n':Nat}{f:Obj->Obj}(I:Inv X p5 σ H s)(h:H p=some (.lst xs))(ho:s.heap.get? p=some {cls:=.type "list",data:=.seq pi.toArray n})(hf:f {cls:=.type "list",data:=.seq pi.toArray n}={cls:=.type "list",data:=.seq its'.toArray n'})(r:Vals ys its')(hz:ys.length<=sizeLine)(t:Nat) :
  Inv X p5 σ (upd H p (.lst ys)) {s with heap:=s.heap.update p f,toks:=t}:=by
 have e:(s.heap.update p f).get? p=some {cls:=.type "list",data:=.seq its'.toArray n'}:=by
  rw[bx f ho (by rw[hf]<;>rfl),hf]
 refine I.write (x:=p) (e:=p) (by rw[h];trivial) (.inl rfl) (λb u hb q=>(bp _ _ (bb hb)).trans q) ⟨_,e⟩ ?_;exact⟨hz,its',n',r,e⟩
def ziQ:V->V->V->Hp->(Hp->Prop)->Prop:=λo i v H Q=>∃p xs k j,o=.ref p/\i=.int k/\H p=some (.lst xs)/\ixN xs.length k=some j/\Q (upd H p (.lst (xs.set j v)))
def we:zke X ziQ:=by
 intro p5 s σ H o i v ov iv u Q I ro ri rv h;let⟨p,xs,k,j,rfl,rfl,hp,hj,q⟩:=h;cases ro;let⟨t,rfl⟩:=ri;let⟨pi,n,r,ho,hz⟩:=I.lst hp;let⟨h1,h2,h3,h4⟩:=zdQ hj;have hl:=r.length;have hn:=ZM;have I':Inv X p5 σ (upd H p (.lst (xs.set j v))) {s with heap:=s.heap.update p (Obj.mapSeq (·.setIfInBounds j u))} :=
  I.lstUpd hp ho (zcQ pi n j u) (r.set rv j) (by rw[b6];exact hz) s.toks
 by_cases h0:0<=k
 .have hk:k.toNat=j:=by
   rw[gi h0 h4]at h1;exact aF h1
  exact PySem.W.ki_setAt ho h0 (by lia) (by rw[aw,<- hl];exact h4) (by rw[hk];exact⟨_,I',q⟩)
 .have hk:(k+(pi.toArray.size:Int)).toNat=j:=by
   rw[seqIndex_neg (by lia) h3]at h1;rw[aw,<- hl];exact aF h1
  exact PySem.W.ki_setBack ho (by lia) (by rw[aw,<- hl];exact h3) (by lia) (by rw[hk];exact⟨_,I',q⟩)
def VD(lo hi:A9)(n:Nat):(sliceBounds lo hi none n).1=((HT.sIx n 0 lo:Nat):Int)/\(sliceBounds lo hi none n).2.1=((HT.sIx n n hi:Nat):Int)/\(sliceBounds lo hi none n).2.2=1:=by
 refine⟨?_,?_,rfl⟩
 .cases lo with
  |none=>simp[sliceBounds,HT.sIx]
  |some i =>
   simp only[sliceBounds,HT.sIx,ft,show(1:Int)>0 by decide,dM];by_cases h:i<0
   .simp only[h,dM]<;>lia
   .simp only[h,br]<;>lia
 .cases hi with
  |none=>simp[sliceBounds,HT.sIx]
  |some i =>
   simp only[sliceBounds,HT.sIx,ft,show(1:Int)>0 by decide,dM];by_cases h:i<0
   .simp only[h,dM]<;>lia
   .simp only[h,br]<;>lia
def X0(pi:A7)(lo hi:A9):slicePick pi.toArray lo hi none=((pi.drop (HT.sIx pi.length 0 lo)).take (HT.sIx pi.length pi.length hi-HT.sIx pi.length 0 lo)).toArray:=by
 let⟨h1,h2,h3⟩:=VD lo hi pi.toArray.size;unfold slicePick;rw[h1,h2,h3];simp only[sliceRange_one,pick_run,aw]<;>rfl
def zji(K:A0):V->Option Int->Option Int->Hp->VK->Prop:=λx lo hi H Q=>∃a xs,x=.ref a/\SqL K H a xs/\∀p,H p=none->Q (.ref p) (upd H p (.lst (vm xs lo hi)))
def zhD:SlR X (zji X.K):=by
 intro p5 s σ H x v vl vu lo hi sl Q I rx hs pl pu h;let⟨a,xs,rfl,hx,q⟩:=h;cases rx;let⟨pi,r,ht,hz⟩:=I.list hx;have hlen:=r.length;refine⟨"list",_,slot_list_getitem.lookup,ht.isList.typeIs,?_⟩;refine wpAny_getItem_list_slice ht.isList hs pl pu .none (by simp) ?_ (by rw[aw]<;>lia);rw[X0,<- hlen];refine⟨.ref s.heap.objs.size,_,I.laid (t':=s.toks) (o:=.lst (vm xs lo hi)) (λb ob q=>aj _ q) (au _) ?_,rfl,q _ (I.hok.fresh (au _))⟩;exact⟨bj (zbU xs lo hi) hz,_,0,(r.drop (HT.sIx xs.length 0 lo)).take (HT.sIx xs.length xs.length hi-HT.sIx xs.length 0 lo),aC _ rfl⟩
noncomputable def jQ:V->Bool
 | .non=>true
 | .bl _=>true
 | .int _=>true
 | .str _=>true
 |_=>false
noncomputable def eqV:V->V->Bool
 | .non,.non=>true
 | .bl a,.bl b=>a == b
 | .bl a,.int b=>(if a then 1 else 0) == b
 | .int a,.bl b=>a == (if b then 1 else 0)
 | .int a,.int b=>a == b
 | .str a,.str b=>a == b
 |_,_=>false
def ZO{A:Ao}{s:An}{y x:V}{u v:Am}(ry:RelV y u)(rx:RelV x v)(fy:jQ y=true)(fx:jQ x=true):SeqAt.EqAt A s u v (eqV y x):=by
 cases y with
 |non =>
  cases ry;cases x with
  |non=>cases rx;exact eR _
  |bl b=>cases rx;exact SeqAt.EqAt.none_bool b
  |int b=>let⟨t,rfl⟩:=rx;exact SeqAt.EqAt.none_int b t
  |str b=>let⟨t,rfl⟩:=rx;exact SeqAt.EqAt.none_str b t
  |_=>exact absurd (show false=true from fx) aE
 |bl a =>
  cases ry;cases x with
  |non=>cases rx;exact SeqAt.EqAt.bool_none a
  |bl b=>cases rx;exact SeqAt.EqAt.bool_bool a b
  |int b=>let⟨t,rfl⟩:=rx;exact SeqAt.EqAt.bool_int a b t
  |str b=>let⟨t,rfl⟩:=rx;exact SeqAt.EqAt.bool_str a b t
  |_=>exact absurd (show false=true from fx) aE
 |int a =>
  let⟨t',rfl⟩:=ry;cases x with
  |non=>cases rx;exact SeqAt.EqAt.int_none a t'
  |bl b=>cases rx;exact SeqAt.EqAt.int_bool a t' b
  |int b=>let⟨t,rfl⟩:=rx;exact SeqAt.EqAt.int_int a t' b t
  |str b=>let⟨t,rfl⟩:=rx;exact SeqAt.EqAt.int_str a t' b t
  |_=>exact absurd (show false=true from fx) aE
 |str a =>
  let⟨t',rfl⟩:=ry;cases x with
  |non=>cases rx;exact SeqAt.EqAt.str_none a t'
  |bl b=>cases rx;exact SeqAt.EqAt.str_bool a t' b
  |int b=>let⟨t,rfl⟩:=rx;exact SeqAt.EqAt.str_int a t' b t
  |str b=>let⟨t,rfl⟩:=rx;exact SeqAt.EqAt.str_str a t' b t
  |_=>exact absurd (show false=true from fx) aE
 |_=>exact absurd (show false=true from fy) aE
noncomputable def eqU(x:V)(u:Am):Bool:=match u with
 | .none=>eqV .non x
 | .bool b=>eqV (.bl b) x
 | .int i _=>eqV (.int i) x
 | .str z _=>eqV (.str z) x
 |_=>false
def zdb{x y:V}{u:Am}(r:RelV y u)(f:jQ y=true):eqU x u=eqV y x:=by
 cases y with
 |non=>cases r;rfl
 |bl b=>cases r;rfl
 |int i=>let⟨t,rfl⟩:=r;rfl
 |str z=>let⟨t,rfl⟩:=r;rfl
 |_=>exact absurd (show false=true from f) aE
theorem zar{x:V}:∀{xs:Ap}{us:A7},Vals xs us->xs.all jQ=true->us.any (eqU x)=xs.any λy=>eqV y x
 |_,_,.nil,_=>rfl
 |y::xs,u::us,.cons r t,f=>by
  rw[all_cons,ci]at f;rw[gS,gS,zdb r f.1,zar t f.2]
theorem Qg{A:Ao}{s:An}{x:V}{v:Am}(rx:RelV x v)(fx:jQ x=true):∀{xs:Ap}{us:A7},Vals xs us->xs.all jQ=true->∀u∈us,SeqAt.EqAt A s u v (eqU x u)
 |_,_,.nil,_=>λu hu=>by cases hu
 |y::xs,u::us,.cons r t,f=>λu' hu=>by
  rw[all_cons,ci]at f;rcases av.mp hu with rfl|hu
  .rw[zdb r f.1];exact ZO r rx f.1 fx
  .exact Qg rx fx t f.2 u' hu
noncomputable def inV(x:V)(xs:Ap):Bool:=xs.any λy=>eqV y x
def rIn(K:A0)(neg:Bool):R2:=λx y H Q=>∃p xs,y=.ref p/\(SqL K H p xs\/SqT K H p xs)/\jQ x=true/\xs.all jQ=true/\Q (.bl (if neg then !inV x xs else inV x xs)) H
def zeR:OpR X (compareOp .In) (rIn X.K false):=by
 intro p5 s σ H x y v u Q I rx ry h;let⟨p,xs,rfl,hq,fx,fs,q⟩:=h;cases ry;rcases hq with hq|hq
 .obtain⟨pi,r,pl,hz⟩:=I.list hq;refine SeqAt.in_listAt (eqU x) pl.isList (λw hw=>Qg rx fx r fs w (by simpa using hw)) ⟨.bl _,H,I,rfl,?_⟩;rw[show pi.toArray.any (eqU x)=pi.any (eqU x) by simp,zar r fs];exact q
 .obtain⟨pi,r,pl,hz⟩:=I.tuple hq;refine SeqAt.in_tupleAt (eqU x) pl (λw hw=>Qg rx fx r fs w (by simpa using hw)) ⟨.bl _,H,I,rfl,?_⟩;rw[show pi.toArray.any (eqU x)=pi.any (eqU x) by simp,zar r fs];exact q
def CallR.or{f:Am}{r r':List V->Hp->VK->Prop}(h:CallR X f r)(h':CallR X f r'):CallR X f (λxs H Q=>r xs H Q\/r' xs H Q):=by
 intro p5 s σ H xs us Q I rs q;rcases q with q|q
 .exact h p5 s σ H xs us Q I rs q
 .exact h' p5 s σ H xs us Q I rs q
def zak:CallR X (.type "list") (λxs H Q=>∃p ys,xs=[.ref p]/\(SqL X.K H p ys\/SqT X.K H p ys)/\∀l,H l=none->Q (.ref l) (upd H l (.lst ys))):=by
 intro p5 s σ H xs us Q I r h;let⟨p,ys,rfl,hq,q⟩:=h;let⟨u,rfl,rx⟩:=wR r;cases rx;have fin:∀(pi:A7),Vals ys pi->ys.length<=sizeLine->∀(h':Heap)(c':Nat),(∀b o',s.heap.get? b=some o'->h'.get? b=some o') ->
   h'.get? s.heap.objs.size=some {cls:=.type "list",dict:=none,data:=.seq pi.toArray c',slots:=#[]}->EP X p5 σ Q (.ref s.heap.objs.size) {s with heap:=h'}:=λpi r' hz h' c' kp e =>
  ⟨.ref s.heap.objs.size,_,I.laid (t':=s.toks) kp (au _) (show ObjOk X.prog X.w _ h' _ (.lst ys)from⟨hz,pi,c',r',e⟩),rfl,q _ (I.hok.fresh (au _))⟩
 rcases hq with hq|hq
 .obtain⟨pi,r',pl,hz⟩:=I.list hq;have hlen:=r'.length;let⟨o,ho,hc,n,hd⟩:=pl.isList;exact call_list_seq p (.inl rfl) ho hc hd (λh' c' kp e=>fin pi r' hz h' c' kp e) (by simp only[aw]<;>lia)
 .obtain⟨pi,r',pl,hz⟩:=I.tuple hq;have hlen:=r'.length;let⟨o,ho,hc,n,hd⟩:=pl;exact call_list_seq p (.inr rfl) ho hc hd (λh' c' kp e=>fin pi r' hz h' c' kp e) (by simp only[aw]<;>lia)
def Wk:CallR X (.type "tuple") (λxs H Q=>∃p ys,xs=[.ref p]/\((SqL X.K H p ys/\∀l,H l=none->Q (.ref l) (upd H l (.tup ys)))\/(SqT X.K H p ys/\Q (.ref p) H))):=by
 intro p5 s σ H xs us Q I r h;let⟨p,ys,rfl,h⟩:=h;let⟨u,rfl,rx⟩:=wR r;cases rx;rcases h with⟨hq,q⟩|⟨hq,q⟩
 .obtain⟨pi,r',pl,hz⟩:=I.list hq;have hlen:=r'.length;refine call_tuple_list pl.isList (λh' kp=>?_) (by simp only[aw]<;>lia);have I1:Inv X p5 σ H {s with heap:=h'}:=I.kept (t':=s.toks) kp;have I2:Inv X p5 σ (upd H h'.objs.size (.tup ys)) {s with heap:=h'.push {cls:=.type "tuple",data:=.seq pi.toArray} } :=
   I1.laid (t':=s.toks) (λb o e=>aj _ e) (au _) (show ObjOk X.prog X.w _ _ _ (.tup ys)from⟨hz,pi,r',IsTup.new _ _⟩)
  exact⟨.ref h'.objs.size,_,I2,rfl,q _ (I1.hok.fresh (au _))⟩
 .obtain⟨pi,r',pl,hz⟩:=I.tuple hq;exact call_tuple_same pl ⟨.ref p,H,I,rfl,q⟩
def tyV(K:A0)(T:String)(x:V)(H:Hp):Prop:=match x with
 | .str _=>T="str"
 | .int _=>T="int"
 | .ref p=>(T="list"/\∃xs,SqL K H p xs)\/(T="tuple"/\∃o,K.lookup p=some o/\o.cls=.type "tuple"/\o.dict=none) \/
   (T="dict"/\((∃ph,H p=some (.dK ph))\/∃ph,H p=some (.dT ph)))\/(T="set"/\∃S n,H p=some (.set S n))
 |_=>False
theorem zi2{p5:A2}{σ:St}{H:Hp}{s:An}{T:String}{x:V}{v:Am}(I:Inv X p5 σ H s)(r:RelV x v)(ty:tyV X.K T x H) :
  s.TypeIs v T/\∀a,v=.ref a->∃ob,s.heap.get? a=some ob/\ob.dict=none:=by
 cases x with
 |str z =>
  let⟨t,rfl⟩:=r;cases (show T="str" from ty);exact⟨fC s z t,λ_ e=>nomatch e⟩
 |int i =>
  let⟨t,rfl⟩:=r;cases (show T="int" from ty);exact⟨typeIs_int s i t,λ_ e=>nomatch e⟩
 |ref p =>
  cases r;rcases ty with⟨rfl,xs,hq⟩|⟨rfl,o,hk,hc,hd⟩|⟨rfl,hk⟩|⟨rfl,S,n,hk⟩
  .obtain⟨pi,_,pl,_⟩:=I.list hq;refine⟨pl.isList.typeIs,λa e=>?_⟩;cases e;let⟨o,n,e,c,hd,_⟩:=pl;exact⟨o,e,hd⟩
  .refine⟨⟨o,I.kIn p o hk,hc⟩,λa e=>?_⟩;cases e;exact⟨o,I.kIn _ o hk,hd⟩
  .have z:∃o,s.heap.get? p=some o/\o.ExactDict:=by
    rcases hk with⟨ph,hk⟩|⟨ph,hk⟩
    .obtain⟨_,_,_,_,o,_,_,e,ex,_⟩:=I.hok p _ hk;exact⟨o,e,ex⟩
    .obtain⟨_,_,_,_,o,_,_,e,ex,_⟩:=I.hok p _ hk;exact⟨o,e,ex⟩
   let⟨o,e,ex⟩:=z;refine⟨⟨o,e,ex.1⟩,λa e2=>?_⟩;cases e2;exact⟨o,e,ex.2.1⟩
  .obtain⟨o,_,_,_,e,ex,_⟩:=I.hok p _ hk;refine⟨⟨o,e,ex.1⟩,λa e2=>?_⟩;cases e2;exact⟨o,e,ex.2.1⟩
 |_=>exact False.elim ty
def tBM(K:A0)(T:String)(r:V->List V->Hp->VK->Prop)(to:TE)(t:TA):TE:=λσ H Q=>to σ H λx H1=>tyV K T x H1/\t σ H1 λxs H2=>r x xs H2 Q
variable{o e:Expr}{es:List Expr}{to:TE}{t:TA}{name:Str}{apos cpos:Pos}{T id:String}{r:V->List V->Hp->VK->Prop}
def qA(pa:PlainAttrs T)(slot:Slot T name id)(hty:typeOf (.builtin id)=pure (.type "method_descriptor"))(hm:MtR X id r)(ho:PE X o to)(ha:PA X (e::es) t)(hbase:attributeBase o name X.env (eval o X.env)=eval o X.env:=by rfl)(hfew:((backTo cpos (starEach (e::es) X.env)).all (λx=>!x.1)&&(backToKw cpos (keywordEach [] X.env)).all (λx=>x.1.isSome)
   && decide ((e::es).length+([]:List Keyword).length+(if ([]:List Keyword).isEmpty then 0 else 1)<30))=true:=by rfl)(hline:(apos.endLine == cpos.line)=true:=by rfl)(hs:starEach (e::es) X.env=(false,eval e X.env)::starEach es X.env:=by rfl)(hplain:(backTo cpos (starEach es X.env)).any (·.1)=false:=by rfl) :
  PE X (.Call (.Attribute o name apos) (e::es) [] cpos) (tBM X.K T r to t):=by
 intro p5 s σ H Q I h;refine wpAny_Call_method_late hbase hfew hline rfl (qI (ho p5 s σ H _ I h) λv s1 x H1 I1 r1 qq_=>?_);let⟨ty,q1⟩:=qq_;let⟨h1,h2⟩:=zi2 I1 r1 ty;refine⟨T,id,pa,slot,hty,h1,h2,?_⟩;have hA:=ha cpos p5 s1 σ H1 _ I1 q1;rw[hs]at hA ⊢;refine Calls.callWith_builtin (by show(false||(backTo cpos (starEach es X.env)).any (·.1))=false;rw[hplain]<;>rfl) (Calls.evalArgs_plain ?_);exact thn hA λus s2 ⟨vs,H2,I2,r2,q2⟩=>hm p5 s2 σ H2 x vs v us Q I2 r1 r2 q2
end
def MtM(X:Cx)(id:String)(r:V->List V->Hp->VK->Prop):Prop :=
 ∀(p5:A2)(s:An)(σ:St)(H:Hp)(x:V)(xs:Ap)(v:Am)(us:A7)(Q:VK),Inv X p5 σ H s->RelV x v->Vals xs us->r x xs H Q ->
  wpAny (model X.prog X.w) X.A (call (.builtin id) (v::us)) (EP X p5 σ Q) X.xe s
def Vals.one{x:V}{us:A7}(h:Vals [x] us):∃u,us=[u]/\RelV x u:=by
 cases h with
 |cons r t=>cases t;exact⟨_,rfl,r⟩
def Vals.two{x y:V}{us:A7}(h:Vals [x,y] us):∃u v,us=[u,v]/\RelV x u/\RelV y v:=by
 cases h with
 |cons r t =>
  let⟨v,rfl,q⟩:=Vals.one t;exact⟨_,_,rfl,r,q⟩
theorem Vals.zero:∀{us:A7},Vals [] us->us=[]
 |_,.nil=>rfl
theorem Vals.eraseIdx:∀{xs:Ap}{us:A7}(i:Nat),Vals xs us->Vals (xs.eraseIdx i) (us.eraseIdx i)
 |_,_,_,.nil=>.nil
 |_,_,0,.cons _ t=>t
 |_,_,i+1,.cons r t=>.cons r (Vals.eraseIdx i t)
def Vals.reverse{xs:Ap}{us:A7}(h:Vals xs us):Vals xs.reverse us.reverse:=by
 induction h with
 |nil=>exact .nil
 |cons r t ih=>rw[List.reverse_cons,List.reverse_cons];exact Vals.append ih (.cons r .nil)
theorem Vals.rep{xs:Ap}{us:A7}(h:Vals xs us):∀k:Nat,Vals (List.replicate k xs).flatten (List.replicate k us).flatten
 |0=>.nil
 |k+1=>by
  rw[dj,dj,eK,eK];exact Vals.append h (Vals.rep h k)
theorem WS{α:Type}:∀(l:List α)(i:Nat),(l.eraseIdx i).length<=l.length
 |[],_=>au _
 |_::_,0=>cZ _
 |_::r,i+1=>Nat.succ_le_succ (WS r i)
theorem Vd(pi:A7):∀(k:Nat)(pv:A7),
  List.foldl (λx1 x2=>x1++x2) pv.toArray (List.replicate k pi.toArray)=(pv++(List.replicate k pi).flatten).toArray
 |0,pv=>by simp
 |k+1,pv=>by
  have e:pv.toArray++pi.toArray=(pv++pi).toArray:=by simp
  have e2:(pv++pi)++(List.replicate k pi).flatten=pv++(List.replicate (k+1) pi).flatten:=by
   rw[dj,eK,cR]
  rw[<- e2,<- Vd pi k (pv++pi),<- e,dj,List.foldl_cons]
section
variable{X:Cx}{p5:A2}{σ:St}{H:Hp}{s:An}{l b:Addr}{xs ys zs:Ap}
def Inv.lset{pi its':A7}{n:Nat}{f:Array Value->Array Value}{t':Nat}(I:Inv X p5 σ H s)(hH:H l=some (.lst xs))(e:s.heap.get? l=some {cls:=.type "list",data:=.seq pi.toArray n})(hf:f pi.toArray=its'.toArray)(hv:Vals ys its')(hz:ys.length<=sizeLine) :
  Inv X p5 σ (upd H l (.lst ys)) {s with heap:=s.heap.update l (Obj.mapSeq f),toks:=t'}:=by
 have q:=PySem.IsL.update e f;rw[hf]at q;refine I.write (x:=l) (e:=l) (by rw[hH];exact trivial) (.inl rfl) (λb' u hb hu=>(bp s.heap (Obj.mapSeq f) (bb hb)).trans hu) ⟨_,q⟩ ?_;exact⟨hz,its',_,hv,q⟩
def Inv.lnew{pi:A7}{t':Nat}(I:Inv X p5 σ H s)(hv:Vals ys pi)(hz:ys.length<=sizeLine) :
  Inv X p5 σ (upd H s.heap.objs.size (.lst ys)) {s with heap:=s.heap.push {cls:=.type "list",data:=.seq pi.toArray},toks:=t'} :=
 I.laid (λ_ _ q=>aj _ q) (au _) ⟨hz,pi,0,hv,aC _ rfl⟩
def Inv.fresh(I:Inv X p5 σ H s):H s.heap.objs.size=none:=I.hok.fresh (au _)
def Inv.lstM(I:Inv X p5 σ H s)(hH:H l=some (.lst xs)):xs.length<=sizeLine/\∃(pi:A7)(n:Nat),Vals xs pi/\xs.length=pi.length/\s.heap.get? l=some {cls:=.type "list",data:=.seq pi.toArray n}:=by
 let⟨z,pi,n,r,e⟩:=I.hok l _ hH;exact⟨z,pi,n,r,r.length,e⟩
def zbn{n:Nat}(h:n<=sizeLine):Builtin.List.listTooLong n=false:=by
 unfold Builtin.List.listTooLong;exact aT (by lia)
end
section
variable{X:Cx}
def zhO:V->List V->Hp->VK->Prop:=λx vs H Q=>∃l xs y,x=.ref l/\vs=[y]/\H l=some (.lst xs)/\xs.length<sizeLine/\Q .non (upd H l (.lst (xs++[y])))
def zV:MtM X "list.append" zhO:=by
 intro p5 s σ H x vs v us Q I rx rv h;let⟨l,xs,y,rfl,rfl,hH,hz,q⟩:=h;cases rx;let⟨u,rfl,ru⟩:=rv.one;let⟨z,pi,n,r,hl,e⟩:=I.lstM hH;refine de F.slot_list_append ⟨_,e,rfl⟩ F.entry_list_append (F.args_list_append_2 _ _) (PySem.list_append l pi.toArray n u (by rw[aw];lia)) ⟨e,?_⟩;refine⟨.non,_,I.lset (its':=pi++[u]) hH e (by simp) (r.append (.cons ru .nil)) ?_,rfl,q⟩;rw[aH,fO]
 lia
def zhL:V->List V->Hp->VK->Prop:=λx vs H Q=>∃l b xs zs,x=.ref l/\vs=[.ref b]/\H l=some (.lst xs)/\H b=some (.lst zs)/\xs.length+zs.length<=sizeLine/\Q .non (upd H l (.lst (xs++zs)))
def WO:MtM X "list.extend" zhL:=by
 intro p5 s σ H x vs v us Q I rx rv h;let⟨l,b,xs,zs,rfl,rfl,hH,hB,hz,q⟩:=h;cases rx;let⟨u,rfl,ru⟩:=rv.one;cases ru;let⟨z,pi,n,r,hl,e⟩:=I.lstM hH;let⟨z2,its2,n2,r2,hl2,e2⟩:=I.lstM hB;have hsz:pi.toArray.size+its2.toArray.size<=sizeLine:=by rw[aw,aw];lia
 have hlong:¬(!pi.toArray.isEmpty&&Builtin.List.listTooLong (pi.toArray.size+its2.toArray.size))=true:=by
  rw[zbn hsz,cg];exact aE
 refine de F.slot_list_extend ⟨_,e,rfl⟩ F.entry_list_extend (F.args_list_extend_2 _ _)
  (AutoSeq1.list_extend_list_list_0 l pi.toArray n b its2.toArray n2 hlong (by rw[aw];lia) (by lia)) ⟨e,e2,?_⟩
 refine⟨.non,_,I.lset (its':=pi++its2) hH e (by simp) (r.append r2) ?_,rfl,q⟩;rw[aH]
 lia
def zjj:V->List V->Hp->VK->Prop:=λx vs H Q=>∃l xs i k y,x=.ref l/\vs=[.int i]/\H l=some (.lst xs)/\-(2^63)<=i/\i<2^63/\seqIndex? i xs.length=some k/\xs[k]?=some y/\Q y (upd H l (.lst (xs.eraseIdx k)))
def Xp:MtM X "list.pop" zjj:=by
 intro p5 s σ H x vs v us Q I rx rv h;let⟨l,xs,i,k,y,rfl,rfl,hH,h1,h2,hk,hy,q⟩:=h;cases rx;let⟨u,rfl,ru⟩:=rv.one;let⟨t,rfl⟩:=ru;let⟨z,pi,n,r,hl,e⟩:=I.lstM hH;let⟨w,hw,rw'⟩:=r.get hy;refine de F.slot_list_pop ⟨_,e,rfl⟩ F.entry_list_pop (F.args_list_pop_2 _ _)
  (MeetsSeq.list_pop_at l pi.toArray n i t k w (fitsIndex_both h1 h2) (by rw[aw,<- hl];exact hk) (by rw[<- bK];exact hw) (by rw[aw];lia)) ⟨e,?_⟩
 refine⟨y,_,I.lset (its':=pi.eraseIdx k) hH e ?_ (r.eraseIdx k) ?_,rw',q⟩
 .show pi.toArray.eraseIdxIfInBounds k=(pi.eraseIdx k).toArray
  rw[List.eraseIdxIfInBounds_toArray]
 .have:=WS xs k
  lia
def zk8:R2:=λx y H Q=>∃l k xs,x=.ref l/\y=.int k/\H l=some (.lst xs)/\-(2^63)<=k/\k<2^63/\xs.length*k.toNat<=sizeLine /\
 ∀p,H p=none->Q (.ref p) (upd H p (.lst (List.replicate k.toNat xs).flatten))
def zh6{α:Type}(xs:List α)(k:Nat):(List.replicate k xs).flatten.length=k*xs.length:=by
 induction k with
 |zero=>simp
 |succ k ih=>rw[dj,eK,aH,ih,fe,Nat.add_comm]
def zcK:OpR X (binaryOp .Mult) zk8:=by
 intro p5 s σ H x y v u Q I rx ry h;let⟨l,k,xs,rfl,rfl,hH,h1,h2,hz,q⟩:=h;cases rx;let⟨t,rfl⟩:=ry;let⟨z,pi,n,r,hl,e⟩:=I.lstM hH;have hlen:pi.toArray.size*k.toNat<=sizeLine:=by rw[aw,<- hl];exact hz
 have hcap:¬pi.toArray.size*k.toNat>(2^63-1)/8:=by
  have:(sizeLine:Nat)<=(2^63-1)/8:=by decide
  lia
 have hfit:¬(!Builtin.List.listFitsIndex k)=true:=by
  rw[fitsIndex_both h1 h2];exact aE
 have hlong:¬Builtin.List.listTooLong (pi.toArray.size*k.toNat)=true:=by
  rw[zbn hlen];exact aE
 have hnew:List.foldl (λx1 x2=>x1++x2) #[] (List.replicate (if pi.toArray.isEmpty=true then 0 else k.toNat) pi.toArray)=(List.replicate k.toNat pi).flatten.toArray:=by
  have f0:∀m:Nat,List.foldl (λx1 x2=>x1++x2) #[] (List.replicate m pi.toArray)=(List.replicate m pi).flatten.toArray:=λm=>by
   have:=Vd pi m [];rw[List.nil_append]at this;exact this
  rw[f0];cases pi with
  |nil=>simp
  |cons a r'=>rw[ak (by simp)]
 refine wpAny_binaryOp_repeat_ref (T:="list") (U:="int") (by decide) ⟨_,e,rfl⟩ (λs'=>typeIs_int s' k t) noFill_list_mul F.fills_int_mul F.slot_int_rmul repeat_list F.slot_int_index.lookup
  (de F.slot_int_rmul (typeIs_int s k t) F.entry_int_rmul (F.args_int_rmul_2 _ _) (int___rmul___int_list k t l pi.toArray n)
   ⟨e,rfl,⟨_,e,rfl⟩,de F.slot_list_mul ⟨_,e,rfl⟩ F.entry_list_mul (F.args_list_mul_2 _ _) (AutoListH.list___mul___list_int_3 l pi.toArray n k t hfit hcap hlong) ⟨e,?_⟩⟩)
 rw[hnew];exact⟨.ref _,_,I.lnew (t':=s.toks) (r.rep k.toNat) (by rw[zh6,dZ];exact hz),rfl,q _ I.fresh⟩
end
section
variable{prog:Af}{w:World}{A:Ao}{E:A3}{s:An}
end
section
variable{X:Cx}
end
end L2
namespace Att
open PySem PySem.W PySem.Calls PyProof.Rows
def Jt{P:Params}{h:Heap}:∀(ns:A6)(vs:A7),WellAll P h vs (ns.map WData.int)->IntsAre vs ns:=by
 intro ns
 induction ns with
 |nil =>
  intro vs w;rw[gx]at w;cases w;exact .nil
 |cons n ns ih =>
  intro vs w;rw[bF]at w;cases w with
  |cons a b =>
   cases a;exact .cons _ _ (ih _ b)
theorem zet{l:OpenLaw}{n:Nat}(hn:l.most=some n){P:Params}{h:Heap}{args:List WData}{vals:A7}(hpre:l.row.toRowW.claim.pre args=true)(hwl:WellAll P h vals args) :
  ∃a vs ns,vals=[Value.ref a]/\args=[WData.list (ns.map WData.int)]/\h.get? a=some {cls:=.type "list",data:=.seq vs.toArray}/\IntsAre vs ns/\ns.length<=n:=by
 have hsh:WShape.hasAll [] args [.list .int]=true:=(pre_splitW hpre).1;have hc:l.pre.holds [] {args:=args}=true:=(pre_splitW hpre).2;let⟨d,r,rfl,h1,h2⟩:=hasAllW_cons hsh;obtain rfl:=hasAllW_nil h2;let⟨xs,rfl,h3⟩:=hasW_list h1;let⟨ns,rfl⟩:=items_int h3;have hlen:ns.length<=n:=by
  unfold OpenLaw.pre at hc;have h4:(WTm.not (.lt (.lit (.int (n:Int))) (.len (.arg 0)))).holds [] {args:=[.list (ns.map .int)]}=true:=by
   have h4:=(holds_andW hc).1;rw[hn]at h4;exact h4
  have h5:=condW_of h4 (w_not (w_lt w_lit (w_len_list (w_arg rfl))));rw[ai]at h5;refine Nat.le_of_not_lt λq=>?_;have q':(n:Int)<((ns.length:Nat):Int):=by lia
  first
   |(rw[bc q']at h5;exact absurd h5 (by decide))
   |(simp at h5;lia)
 cases hwl with
 |cons w1 w2 =>
  cases w2;cases w1 with
  |list ho hall=>exact⟨_,_,ns,rfl,rfl,ho,Jt ns _ hall,hlen⟩
def zeM(l:OpenLaw)(args:List WData):l.row.toRowW.claim.post args (.bool true) args=true :=
 postW_of (r:=l.row.toRowW) (X:=(true == true))
  (show WShape.has [] (.bool true) .bool=true by first|rfl|decide|simp[WShape.has,WShape.arms,WShape.armsAll])
  (show(WTm.eq .res (.lit (.bool true))).value [] {args:=args,res:=some (.bool true),after:=args}=some (.bool (true == true))from w_eq_bool (w_res rfl) w_lit) rfl
def attach_call{l:OpenLaw}{n:Nat}{q:Af}{loose:A8}{XP:(Str->Option Value)->Heap->Prop}{YP:World->Heap->Prop}{d:DefRec}(hn:l.most=some n)(hdf:d.params.defaults=[])(call:∀(w:World)(s₀ s₁:An)(mg mb:A4)(fa:Addr)(o:Obj)(pm cd doc:Am)(a:Addr)(vs:A7)(ns:A6),
   Ground q loose [] XP w s₀ mg mb s₁.heap->YP w s₁.heap ->
   s₁.heap.get? fa=some o->o.data=.func (docDef d.name d.params d.body d.scope pm cd doc)->s₁.heap.CodeRec cd d.name->mg d.name=some (.ref fa) ->
   s₁.heap.get? a=some {cls:=.type "list",data:=.seq vs.toArray}->IntsAre vs ns->ns.length<=n->s₁.gens=#[] ->
   codeAny (model l.prog w) callerA (.call (.ref fa) ⟨[.ref a],[]⟩) (λr s'=>r=.ok (.ret (.bool true))/\OldK s₁.heap s'.heap/\s'.os=s₁.os/\AllBare s'.gens) s₁) :
  WalkO q loose XP YP l.row.toRowW d [] (λf vs=>PySem.call f vs):=by
 intro w s₀ s₁ mg mb G Y fa o pm cd doc dV kV ho hd hcd hD hmg hg args vals as hpre hlay hrd hwl hlo;obtain rfl:dV=.none:=Dflts.none hD hdf;obtain rfl:kV=.none:=Dflts.noKw hD;let⟨a,vs,ns,rfl,rfl,hobj,hints,hlen⟩:=zet hn hpre hwl;refine enter_call (cT (call w s₀ s₁ mg mb fa o pm cd doc a vs ns G Y ho (fd_plain hd) hcd hmg hobj hints hlen hg) λr s' hq=>?_);let⟨rfl,h2,h3,h4⟩:=hq;exact⟨.inl ⟨.bool true,.bool true,[],rfl,λ_=>rfl,.bool true,zeM l _,λ_=>⟨List.Pairwise.nil,λ_ hm=>(nomatch hm)⟩⟩,h2,h3,h4⟩
section
variable{prog:Af}{w:World}{A:Ao}{E:A3}{s:An}{K:Frag}
noncomputable def ledger(h:Heap)(L d:Addr):List (Addr×Obj):=(List.range h.objs.size).filterMap λa=>if a=L\/a=d then none else(h.get? a).map λo=>(a,o)
end
end Att
namespace L2
open PySem PySem.Spec PyProof.Rows
variable{fd:FuncData}
theorem Ws:∀{vs:A7}{ns:A6},IntsAre vs ns->Vals (ns.map V.int) vs
 |_,_,.nil=>.nil
 |_,_,.cons n t h=>.cons ⟨t,rfl⟩ (Ws h)
def zkf(H:Hp):Prop:=∀b,H b=none\/∃o xs,H b=some (.frz o (.lst xs))
theorem zgD{P:Af}{w:World}{K:A0}{mg mb:A4}{CX:CXT}{k:Nat}{fa a:Addr}{x:Str}{sp:Sp}{s₁:An}{vs:A7}{ns:A6}(KX:K.In s₁.heap)(hns:s₁.heap.Ns mainGlobals mg)(hb:s₁.heap.Ns builtinsNs mb)(hbb:∀x:Str,x≠"__name__"->mb x=bootBuiltins x)(hlim:s₁.heap.NoLimit)(hg:s₁.gens=#[])(ha:s₁.heap.get? a=some {cls:=.type "list",data:=.seq vs.toArray})(hi:IntsAre vs ns)(hl:ns.length<=sizeLine)(hr:Room k callerA)(F:∀base:Heap,K.In base->base.Ns mainGlobals mg->FnOk P w K mg base CX k fa fd [x] sp)(hbind:∀(s:An)(u:Am),BindsTo s fd ⟨[u],[]⟩ [(x,u)])(hsp:∀H:Hp,zkf H->SqL K H a (ns.map V.int)->sp [.ref a] H (λv _=>v=.bl true) λ_ _ _=>False)(hCX:∀H e s',CX [] H s₁ (λ_ _ _=>False) e s'->False) :
  codeAny (model P w) callerA (.call (.ref fa) ⟨[.ref a],[]⟩) (λr s'=>r=.ok (.ret (.bool true))/\OldK s₁.heap s'.heap/\s'.os=s₁.os/\AllBare s'.gens) s₁:=by
 have rv:=Ws hi;have lenV:=hi.length;have core:∀H:Hp,zkf H->SqL K H a (ns.map V.int)->HOk P w H s₁.heap->(∀b,H b≠none->b=a)->(H a≠none->K.lookup a=none) ->
   codeAny (model P w) callerA (.call (.ref fa) ⟨[.ref a],[]⟩) (λr s'=>r=.ok (.ret (.bool true))/\OldK s₁.heap s'.heap/\s'.os=s₁.os/\AllBare s'.gens) s₁:=by
  intro H hO hS hok hA hK;have base_of:∀{b:Addr}{o:Obj},s₁.heap.get? b=some o->H b=none->(V9 s₁.heap H).get? b=some o:=λe n=>zgR e n;have noA:∀{b:Addr}{o:Obj}{es:Array DictEntry}{ep:Nat},s₁.heap.get? b=some o->o.data=.dict es ep->H b=none:=λ{b o es ep} e d=>by
   cases q:H b with
   |none=>rfl
   |some u =>
    have e':b=a:=hA b (by rw[q];simp);subst e';rw[ha]at e;cases e;have d':Data.seq vs.toArray _=Data.dict es ep:=d;cases d'
  have nsK:∀{b:Addr}{m:A4},s₁.heap.Ns b m->(V9 s₁.heap H).Ns b m:=λ{b m} ⟨o,es,ep,e,d,r⟩=>⟨o,es,ep,base_of e (noA e d),d,r⟩;have hKb:K.In (V9 s₁.heap H):=λb o e=>base_of (KX b o e) (by
   cases q:H b with
   |none=>rfl
   |some u =>
    have e':b=a:=hA b (by rw[q];simp);subst e';rw[hK (by rw[q];simp)]at e;cases e)
  have hM:Mod K mg (V9 s₁.heap H):=⟨hKb,nsK hns,⟨mb,nsK hb,hbb⟩,let⟨mc,h1,h2⟩:=hlim;⟨mc,nsK h1,h2⟩⟩;have e0:Env0 P w K mg (V9 s₁.heap H) callerA [] s₁ H:=⟨rfl,hM,λb o e=>zh3 e,Nat.le_of_eq (ze5 _ _),trivial,λb hb=>absurd (show b∈([]:Ab)from hb) (by simp),hok,.of_eq hg⟩;refine cT ((F _ hKb (nsK hns)).run callerA [] s₁ H ⟨[.ref a],[]⟩ [.ref a] [.ref a] _ _ hr e0 (hbind s₁ (.ref a)) (.cons rfl .nil) (hsp H hO hS)) λr s' h=>?_;cases r with
  |error e=>exact(hCX H e s' h).elim
  |ok fl =>
   cases fl with
   |next=>exact False.elim h
   |brk=>exact False.elim h
   |cont=>exact False.elim h
   |ret u =>
    let⟨v,H',os,bare,un,hok',r',q⟩:=h;have q':v=.bl true:=q;subst q';obtain rfl:u=Value.bool true:=r';refine⟨rfl,OldK.of_keep λb o e=>?_,os,bare⟩;cases q:H b with
    |none=>exact un.keep b o e q (by intro z;exact absurd (show b∈([]:Ab)from z) (by simp)) (by simp)
    |some u =>
     rcases hO b with z|⟨ob,xs,z⟩
     .rw[q]at z;cases z
     .have z2:=un.frzs b ob _ z;let⟨e1,_⟩:=hok b _ z;let⟨e2,_⟩:=hok' b _ z2;rw[e]at e1;cases e1;exact e2
 cases hk:K.lookup a with
 |some o =>
  have e:=KX a o hk;rw[ha]at e;cases e;refine core (λ_=>none) (λ_=>.inl rfl) (.inr ⟨_,vs.toArray,_,hk,rfl,rfl,rfl,by rw[aw,lenV];exact hl,by simpa using rv⟩) (λb u z=>by have z':(none:Option HO)=some u:=z;cases z') (λb z=>absurd rfl z) λz=>absurd rfl z
 |none =>
  refine core (λb=>if b=a then some (.frz {cls:=.type "list",data:=.seq vs.toArray} (.lst (ns.map V.int)))else none) (λb=>?_) (.inl (.inr ⟨{cls:=.type "list",data:=.seq vs.toArray},ao rfl⟩)) (λb u z=>?_) (λb z=>?_) λ_=>hk
  .by_cases hb:b=a
   .exact .inr ⟨_,_,ao hb⟩
   .exact .inl (ak hb)
  .by_cases hb:b=a
   .have z':=(ao hb).symm.trans z;cases z';subst hb;exact⟨ha,by rw[ai];exact hl,vs,_,rv,ha⟩
   .have z':=(ak hb).symm.trans z;cases z'
  .by_cases hb:b=a
   .exact hb
   .exact absurd (ak hb) z
def walk_of{l:PySem.W.OpenLaw}{n k:Nat}{q:Af}{loose:A8}{XP:(Str->Option Value)->Heap->Prop}{YP:World->Heap->Prop}{d:DefRec}{K:Params->PySem.W.Frag}{CX:World->CXT}{sp:World->Sp}{x:Str}(hn:l.most=some n)(hn2:n<=sizeLine)(hdf:d.params.defaults=[])(hr:Room k callerA)(hY:∀(w:World)(h:Heap),YP w h->(K w.params).In h)(F:∀(w:World)(mg:A4)(fa:Addr)(h:Heap),(K w.params).In h->h.Ns mainGlobals mg->mg d.name=some (.ref fa) ->
   ∃fd:FuncData,(∀(s:An)(u:Am),BindsTo s fd ⟨[u],[]⟩ [(x,u)]) /\
    ∀base:Heap,(K w.params).In base->base.Ns mainGlobals mg->FnOk l.prog w (K w.params) mg base (CX w) k fa fd [x] (sp w))(hsp:∀(w:World)(H:Hp)(a:Addr)(ns:A6),ns.length<=n->zkf H->SqL (K w.params) H a (ns.map V.int)->sp w [.ref a] H (λv _=>v=.bl true) λ_ _ _=>False)(hCX:∀(w:World)(H:Hp)(s:An)(e:Am)(s':An),CX w [] H s (λ_ _ _=>False) e s'->False) :
  PySem.W.WalkO q loose XP YP l.row.toRowW d [] (λf vs=>PySem.call f vs):=by
 refine Att.attach_call hn hdf λw s₀ s₁ mg mb fa o pm cd doc a vs ns G Y ho hd hcd hmg hobj hints hlen hg=>?_;have KX:=hY w _ Y;let⟨fd,hb,hF⟩:=F w mg fa _ KX G.T.g hmg;exact zgD KX G.T.g G.T.b G.T.builtins G.T.nolimit hg hobj hints (bj hlen hn2) hr hF hb (λH hO hS=>hsp w H a ns hlen hO hS) λH e s'=>hCX w H s₁ e s'
noncomputable def zW(s:Stmt)(j:Nat):Stmt:=match s with
 | .ClassDef _ _ _ body _ _ _ _ _ _ _=>body.getD j (.Pass ⟨0,0,0,0⟩)
 |_=>.Pass ⟨0,0,0,0⟩
noncomputable def qx(s:Stmt):Arguments:=match s with
 | .FunctionDef _ a _ _ _ _ _ _ _ _=>a
 |_=>{posonlyargs:=[],args:=[],vararg:=none,kwonlyargs:=[],kw_defaults:=[],kwarg:=none,defaults:=[]}
noncomputable def qp(s:Stmt):List Stmt:=match s with
 | .FunctionDef _ _ b _ _ _ _ _ _ _=>b
 |_=>[]
noncomputable def zg(s:Stmt):Scope:=match s with
 | .FunctionDef _ _ _ _ _ _ sc _ _ _=>sc
 |_=>{kind:=.function,names:=[],isGenerator:=false,isCoroutine:=false}
abbrev CX0:CXT:=λ_ _ _ _ _ _=>False
structure Fun(K:A0)(x qual:Str)(st:Stmt)(f:Addr)(fd:FuncData):Prop where
 ex:∃(oc:Am)(od:Aa)(kV doc pm:Am)(an:Aa)(cdv ct:Am)(osl:Ae),
  fd=fnOf x qual (qx st) (qp st) (zg st) .none kV doc pm an cdv ct/\K.lookup f=some ⟨oc,od,.func fd,osl⟩/\codeIn K cdv qual=true
 kp:keepIn K (.ref f)=true
section
variable{P:Af}{w:World}{K:A0}{mg:A4}{base:Heap}
def Fun.ok{x qual:Str}{st:Stmt}{f:Addr}{N ps:A8}{k:Nat}{sp:Sp}(F:Fun K x qual st f fd)(S:FnScope N ps (zg st))(len:∀vs H Q E,sp vs H Q E->vs.length=ps.length)(hbody:∀(cdv:Am)(A:Ao)(outer:List Env)(s:An)(H:Hp)(vs:Ap)(Q:VK)(E:XK),Room k (A.deeper (envOfC qual (zg st) s.heap.objs.size f cdv))->sp vs H Q E ->
   ∃t,PSs (Jv CX0 P w K mg base N qual (zg st) f cdv A outer s H E).nox (qp st) t/\t {nx:=λ_ H'=>Q .non H',rt:=Q} (start N vs) H):FnOk P w K mg base CX0 (k+1) f fd ps sp:=by
 let⟨oc,od,kV,doc,pm,an,cdv,ct,osl,rfl,lk,hcd⟩:=F.ex;refine zgY lk hcd S len λA outer s H vs Q E hr hsp=>?_;let⟨t,h,q⟩:=hbody cdv A outer s H vs Q E hr hsp;exact⟨t,h.nox,q⟩
def Fun.binds{x qual:Str}{st:Stmt}{f:Addr}{ps:A8}(F:Fun K x qual st f fd)(h:∀(kV doc pm:Am)(an:Aa)(cdv ct:Am)(us:A7),us.length=ps.length->bindArgs (fnOf x qual (qx st) (qp st) (zg st) .none kV doc pm an cdv ct) ⟨us,[]⟩=pure (ps.zip us)):Binds K fd ps []:=by
 let⟨oc,od,kV,doc,pm,an,cdv,ct,osl,rfl,lk,hcd⟩:=F.ex;exact .all (h kV doc pm an cdv ct)
def wM{x qual:Str}{st:Stmt}{f:Addr}{oc:Am}{od an:Aa}{osl:Ae}{kV doc pm cdv ct:Am}(l:K.lookup f=some ⟨oc,od,.func (fnOf x qual (qx st) (qp st) (zg st) .none kV doc pm an cdv ct),osl⟩)(c:codeIn K cdv qual=true)(k:keepIn K (.ref f)=true):Fun K x qual st f (fnOf x qual (qx st) (qp st) (zg st) .none kV doc pm an cdv ct):=⟨⟨oc,od,kV,doc,pm,an,cdv,ct,osl,rfl,l,c⟩,k⟩
end
def zdS{A:Ao}{k:Nat}(hr:Room k A):A.units+1<cLine:=cU (ip (by decide:1<=64) _) hr.units
def zn{n:Nat}(h:n<=1000):n<sizeLine:=cU h (by decide)
section
variable{X:Cx}
end
def zT{c A B:Prop}[Decidable c](h1:c->A)(h2:¬c->B):if c then A else B:=by
 by_cases h:c
 .rw[ao h];exact h1 h
 .rw[ak h];exact h2 h
def Same(H H':Hp):Prop:=∀b o,H b=some o->H' b=some o
def Same.refl(H:Hp):Same H H:=λ_ _ h=>h
def Same.trans{H H1 H2:Hp}(a:Same H H1)(b:Same H1 H2):Same H H2:=λc o h=>b c o (a c o h)
def Same.free{H H':Hp}(e:Same H H'){l:Addr}(h:H' l=Option.none):H l=Option.none:=by
 cases q:H l with
 |none=>rfl
 |some o =>
  rw[e l o q]at h;cases h
def Same.seq{K:A0}{H H':Hp}{a:Addr}{xs:Ap}(e:Same H H')(h:SqL K H a xs):SqL K H' a xs:=by
 rcases h with(h|⟨o,h⟩)|h
 .exact .inl (.inl (e _ _ h))
 .exact .inl (.inr ⟨o,e _ _ h⟩)
 .exact .inr h
end L2
set_option maxHeartbeats 4000000
namespace L2
open PySem PySem.Spec PyProof.Rows
variable{K:A0}{H:Hp}{P:Af}{w:World}{base:Heap}{s:An}{sp:Sp}{mg:A4}{ps:A8}{oe:Obj}{p5:A2}{cls:Am}{x:Str}
abbrev GK:=Value->St->Hp->Prop
structure Exc(g h:Heap)(H:Hp)(pn:A2)(a:Addr)(cls:Am):Prop where
 ex:∃(oe:Obj)(vs:Ac)(T:Addr)(oT:Obj)(ts:Ac),h.get? a=some oe/\oe.cls=cls/\oe.dict=none/\oe.data=.fields vs/\vs[1]?=some (.ref T)/\T≠a /\
  h.get? T=some oT/\oT.data=.fields ts/\ts[3]?=some .none/\g.get? T=none/\H T=none/\∀p∈pn,p.1≠T
 ga:g.get? a=none
 Ha:H a=none
 pa:∀p∈pn,p.1≠a
def ObjOk.there{h:Heap}{a:Addr}{o:HO}(x:ObjOk P w H h a o):∃ob,h.get? a=some ob:=by
 cases o with
 |lst xs=>let⟨_,_,_,_,e⟩:=x;exact⟨_,e⟩
 |tup xs=>let⟨_,_,_,ob,e,_⟩:=x;exact⟨_,e⟩
 |dK ph=>let⟨_,_,_,_,o,_,_,e,_⟩:=x;exact⟨_,e⟩
 |dT ph=>let⟨_,_,_,_,o,_,_,e,_⟩:=x;exact⟨_,e⟩
 |set S n=>let⟨o,_,_,_,e,_⟩:=x;exact⟨_,e⟩
 |ins C dx fs=>let⟨_,_,_,e,_⟩:=x;exact⟨_,e⟩
 |own y=>let⟨_,e⟩:=x;exact⟨_,e⟩
 |xd fs=>let⟨_,⟨_,_,_,e,_⟩,_⟩:=x;exact⟨_,e⟩
 |rng lo hi=>let⟨_,_,_,e⟩:=x;exact⟨_,e⟩
 |frz ob u=>let⟨e,_⟩:=x;exact⟨_,e⟩
 |tbl ps=>exact⟨_,(show h.get? a=some _ from x)⟩
 |met f y=>exact⟨_,(show h.get? a=some _ from x)⟩
 |ext φ=>let⟨_,⟨_,e⟩,_⟩:=x;exact⟨_,e⟩
section
variable{M:Model}{A:Ao}{E:A3}{s:An}
def Ve{env:Env}{outer:List Env}{L e:Addr}{vs:Ac}{head:Am}{hadNext:Bool}{Q:Ag}(hfr:A.frames=some (env::outer))(hl:s.heap.FunFrames base (env::outer))(hf:env.frame=some L)(he:s.heap.get? e=some oe)(hd:oe.data=.fields vs)(hsz:1<vs.size)(h:∀h' T,(∀b o,b∉(env::outer).filterMap (·.frame)->b≠e->s.heap.get? b=some o->h'.get? b=some o)->(∀b o,b≠e->s.heap.get? b=some o->∃sl,h'.get? b=some {o with slots:=sl}) ->
   s.heap.get? T=none->T≠e->h'.get? e=some (oe.mapFields (·.setIfInBounds 1 (.ref T)))->(∃oT ts,h'.get? T=some oT/\oT.data=.fields ts/\ts[3]?=some .none)->Q () {s with heap:=h'}) :
  wpAny M A (do let a <- frameOf env;let pl <- entryPlaceOf L hadNext;let b <- EntryCells.newEntry head a .none (rawInt L) .none pl;setField (.ref e) 1 b) (λ_ s'=>wpAny M A (setFlight (.ref e) none) Q E s') E s:=by
 have hene:e∉(env::outer).filterMap (·.frame):=λhm=>by
  let⟨_,o,ho,hnf⟩:=hl.mem hm;rw[he]at ho;injection ho with ho;subst ho;exact hnf vs hd
 refine af (wpAny_frameOf_fun hfr hl hf λh₁ hs₁=>?_);refine af (wpAny_entryPlaceOf λpl hpl=>?_);unfold EntryCells.newEntry newFields;refine af (d6 ?_ (hpl.sizeOk5 _ _ _ _ _));have he₁:h₁.get? e=some oe:=(hs₁.2.1 e hene).trans he;have he₂:=aj (h:=h₁) {cls:=.type "traceback",dict:=none,data:=.fields ([head,.ref L,.none,rawInt L,.none]++(if pl.isEmpty then List.replicate 6 Value.none else pl)).toArray} he₁;refine dQ he₂ hd hsz ?_;have hTe:h₁.objs.size≠e:=dC (aB he₁);have hd₃:=bE hd (·.setIfInBounds 1 (Value.ref h₁.objs.size));have he₃:=bx (Obj.mapFields (·.setIfInBounds 1 (Value.ref h₁.objs.size))) he₂ (cG hd₃);have hT₃:=(bp (h₁.push {cls:=.type "traceback",dict:=none,data:=.fields ([head,.ref L,.none,rawInt L,.none]++(if pl.isEmpty then List.replicate 6 Value.none else pl)).toArray})
  (Obj.mapFields (·.setIfInBounds 1 (Value.ref h₁.objs.size))) (bb hTe)).trans (aC h₁ rfl)
 unfold setFlight;refine af (bw he₃ hd₃ (x:=.ref h₁.objs.size) (by simp[hsz]) ?_);rw[ao (show(Value.ref h₁.objs.size != Value.none)=true from by simp)];refine dQ hT₃ rfl (by simp only[aw,aH,aX,cO]<;>lia) ?_;have keep:∀b o,b≠e->h₁.get? b=some o ->
   (((h₁.push {cls:=.type "traceback",dict:=none,data:=.fields ([head,.ref L,.none,rawInt L,.none]++(if pl.isEmpty then List.replicate 6 Value.none else pl)).toArray}).update e (Obj.mapFields (·.setIfInBounds 1 (Value.ref h₁.objs.size)))).update h₁.objs.size
    (Obj.mapFields (·.setIfInBounds 3 ((none:Aa).elim Value.none λf=>rawInt f)))).get? b=some o:=λb o hbe hb=>by
  have hbT:h₁.objs.size≠b:=dC (aB hb);rw[bp _ _ hbT,bp _ _ (bb hbe)];exact aj _ hb
 refine h _ h₁.objs.size (λb o hb hbe q=>keep b o hbe ((hs₁.2.1 b hb).trans q)) (λb o hbe q=>?_) (Heap.get?_none_of_le (by rw[hs₁.1];exact au _)) hTe ?_ ?_
 .obtain⟨sl,hs⟩:=hs₁.2.2 b o q;exact⟨sl,keep b _ hbe hs⟩
 .rw[bp _ _ hTe];exact he₃
 .exact⟨_,_,bx _ hT₃ (cG (bE rfl _)),bE rfl _,by first|(simp;done)|(rcases hpl with rfl|⟨_,_,_,_,_,_,_,rfl⟩<;>simp)⟩
def WU{env:Env}{outer:List Env}{L e:Addr}{vs:Ac}{ch:Ab}{Q:Ag}(hfr:A.frames=some (env::outer))(hl:s.heap.FunFrames base (env::outer))(hf:env.frame=some L)(he:s.heap.get? e=some oe)(hd:oe.data=.fields vs)(h1:(vs[1]?=some .none/\ch=[e])\/∃T oT ts,vs[1]?=some (.ref T)/\T≠e/\s.heap.get? T=some oT/\oT.data=.fields ts/\ts[3]?=some .none/\ch=[e,T])(h:∀h' T,(∀b o,b∉(env::outer).filterMap (·.frame)->b∉ch->s.heap.get? b=some o->h'.get? b=some o)->(∀b o,b∉ch->s.heap.get? b=some o->∃sl,h'.get? b=some {o with slots:=sl}) ->
   (∀b∈ch,∃o,h'.get? b=some o)->s.heap.get? T=none->T≠e->h'.get? e=some (oe.mapFields (·.setIfInBounds 1 (.ref T)))->(∃oT ts,h'.get? T=some oT/\oT.data=.fields ts/\ts[3]?=some .none)->Q () {s with heap:=h'}) :
  wpAny M A (noteFrame (.ref e) env) (λ_ s'=>wpAny M A (setFlight (.ref e) none) Q E s') E s:=by
 rcases h1 with⟨h1,rfl⟩|⟨T,oT,ts,h1,hTe,hT,hdT,h3,rfl⟩
 .unfold noteFrame;simp only[hf];refine af (bw he hd h1 ?_);rw[ak (by decide)];refine Ve hfr hl hf he hd (be.mp h1).1 λh' T k1 k2 k3 k4 k5 k6=>?_;refine h h' T (λb o hb hc q=>k1 b o hb (λz=>hc (by simp[z])) q) (λb o hc q=>k2 b o (λz=>hc (by simp[z])) q) (λb hb=>?_) k3 k4 k5 k6;obtain rfl:b=e:=by simpa using hb
  exact⟨_,k5⟩
 .unfold noteFrame;simp only[hf];refine af (bw he hd h1 ?_);rw[ao (show(Value.ref T != Value.none)=true from by simp)];refine af (bw hT hdT h3 ?_);rw[ak (show ¬((Value.none == rawInt L)=true)from by simp[rawInt])];refine af (dQ hT hdT (be.mp h3).1 ?_);have other:∀b,b≠T->(s.heap.update T (Obj.mapFields (·.setIfInBounds 3 Value.none))).get? b=s.heap.get? b:=λb hb=>bp _ _ (bb hb);have noRecord:∀b o,s.heap.get? b=some o->(∀vs,o.data≠.fields vs)->b≠T:=λb o hb hnf q=>by
   rw[q,hT]at hb;injection hb with hb;subst hb;exact hnf ts hdT
  have hT':=bx (Obj.mapFields (·.setIfInBounds 3 Value.none)) hT (cG (bE hdT _));refine Ve hfr (hl.of_keeps λb o hb hnf=>⟨o,(other b (noRecord b o hb hnf)).trans hb,rfl⟩) hf ((other e (bb hTe)).trans he) hd (be.mp h1).1 λh' T' k1 k2 k3 k4 k5 k6=>?_;have hTT:T'≠T:=λz=>by rw[z,hT']at k3;cases k3
  refine h h' T' (λb o hb hc q=>k1 b o hb (λz=>hc (by simp[z])) ((other b (λz=>hc (by simp[z]))).trans q)) (λb o hc q=>k2 b o (λz=>hc (by simp[z])) ((other b (λz=>hc (by simp[z]))).trans q)) (λb hb=>?_) ((other T' hTT).symm.trans k3) k4 k5 k6;rcases av.mp hb with rfl|hb
  .exact⟨_,k5⟩
  .obtain rfl:b=T:=by simpa using hb
   let⟨sl,q⟩:=k2 b _ hTe hT';exact⟨_,q⟩
end
section
variable{X:Cx}{p5:A2}{σ:List Aq}{H:Hp}{s:An}{h':Heap}
def Inv.stepx{ch:Ab}(I:Inv X p5 σ H s)(hch:∀b∈ch,X.s₀.heap.get? b=none/\H b=none/\∀p∈X.pn++p5,p.1≠b)(hrec:∀b∈ch,∃o vs,s.heap.get? b=some o/\o.data=.fields vs)(keep:∀b o,b∉frs X.stack->b∉ch->s.heap.get? b=some o->h'.get? b=some o)(slot:∀b o,b∉ch->s.heap.get? b=some o->∃sl,h'.get? b=some {o with slots:=sl})(there:∀b∈ch,∃o,h'.get? b=some o):Inv X p5 σ H {s with heap:=h'}:=by
 have neL:∀b∈ch,b≠X.env.locals:=λb hb z=>by
  let⟨o,vs,ho,hd⟩:=hrec b hb;let⟨m,⟨o',es,ep,ho',hd',_⟩,_⟩:=I.loc;rw[z,ho']at ho;cases ho;rw[hd']at hd;cases hd
 have neC:∀b∈ch,∀x c,X.env.cells.lookup x=some c->c≠b:=λb hb x c e z=>by
  let⟨o,vs,ho,hd⟩:=hrec b hb;let⟨v,o',ho',hd'⟩:=I.cell x c e;rw[z,ho]at ho';cases ho';rw[hd]at hd';cases hd'
 have nch:∀b o,X.s₀.heap.get? b=some o->b∉ch:=λb o e hb=>by rw[(hch b hb).1]at e;cases e
 have trk:∀b u,H b=some u->b∉ch/\b∉frs X.stack:=λb u e=>⟨(λhb=>by rw[(hch b hb).2.1]at e;cases e),(λhb=>by rw[I.stkFree b hb]at e;cases e)⟩;have nfs:∀b,b∉X.fs->b≠X.env.locals->b∉frs X.stack:=λb h1 h2 z=>(av.mp (I.stkSub b z)).elim h2 h1;have ltL:∀b o,X.s₀.heap.get? b=some o->b≠X.env.locals:=λb o e=>aP (aM (aB e) I.ok.above);have cellK:∀x c,X.env.cells.lookup x=some c->∀v,s.heap.IsCell c v->h'.IsCell c v:=λx c e v ⟨o,ho,hd⟩=>by
  let⟨sl,q⟩:=slot c o (λz=>neC c z x c e rfl) ho;exact⟨_,q,hd⟩
 have hok:HOk X.prog X.w H h':=λb u e=>(I.hok b u e).stay (λc v hc q=>by
  have hcH:∃u',H c=some u':=by
   rcases hc with rfl|z
   .exact⟨_,e⟩
   .exact⟨_,z⟩
  let⟨u',hu⟩:=hcH;exact keep c v (trk c u' hu).2 (trk c u' hu).1 q) (λ_ q=>q) λ_ _ q=>q
 refine⟨I.ok,I.os,I.bare,⟨λb o e n hb hx=>?_,λb o e n hb hx=>?_,I.base.free,λb o e hx=>?_,I.base.tups,I.base.frzs,I.base.tbls⟩,?_,λx c e=>?_,I.free,I.freeC,λp hp=>?_,hok,I.len⟩
 .exact keep b o (nfs b hb (ltL b o e)) (nch b o e) (I.base.keep b o e n hb hx)
 .obtain⟨sl,e1⟩:=I.base.slot b o e n hb hx;let⟨sl',e2⟩:=slot b _ (nch b o e) e1;exact⟨sl',e2⟩
 .obtain⟨o',e1⟩:=I.base.there b o e hx;let⟨sl',e2⟩:=slot b _ (nch b o e) e1;exact⟨_,e2⟩
 .obtain⟨m,⟨o,es,ep,ho,r⟩,hl⟩:=I.loc;let⟨sl,q⟩:=slot _ o (λz=>neL _ z rfl) ho;refine⟨m,⟨_,es,ep,q,r⟩,λi x v e1 e2 e3=>?_⟩;let⟨u,r',l⟩:=hl i x v e1 e2 e3;refine⟨u,r',?_⟩;rcases l with l|⟨k,c,e,z⟩
  .exact .inl l
  .exact .inr ⟨k,c,e,cellK x c e _ z⟩
 .obtain⟨v,z⟩:=I.cell x c e;exact⟨v,cellK x c e v z⟩
 .obtain⟨e,n,ne,nf,d⟩:=I.pin p hp;exact⟨keep p.1 p.2 (nfs _ nf ne) (λz=>(hch p.1 z).2.2 p hp rfl) e,n,ne,nf,d⟩
theorem WV{a:Addr}{vs:Ac}{E:A3}{Q:Ag}(I:Inv X p5 σ H s)(hst:X.stack=X.env::X.outer)(hfr:X.env.frame=some X.env.locals)(hex:X.ex=[])(he:s.heap.get? a=some oe)(hdict:oe.dict=none)(hd:oe.data=.fields vs)(ga:X.s₀.heap.get? a=none)(Ha:H a=none)(hpa:∀p∈X.pn++p5,p.1≠a)(h1:vs[1]?=some .none\/∃T oT ts,vs[1]?=some (.ref T)/\T≠a/\s.heap.get? T=some oT/\oT.data=.fields ts/\ts[3]?=some .none/\X.s₀.heap.get? T=none/\H T=none/\∀p∈X.pn++p5,p.1≠T)(hQ:∀s',Inv X p5 σ H s'->Exc X.s₀.heap s'.heap H (X.pn++p5) a oe.cls->Q () s') :
  wpAny (model X.prog X.w) X.A (noteFrame (.ref a) X.env) (λ_ s'=>wpAny (model X.prog X.w) X.A (setFlight (.ref a) none) Q E s') E s:=by
 have hfs:=I.ok.frames;have hFF:=I.stack;rw[hst]at hfs hFF;have hS:frs X.stack=(X.env::X.outer).filterMap (·.frame):=by rw[hst];rfl
 have fin:∀(ch:Ab),(∀b∈ch,X.s₀.heap.get? b=none/\H b=none/\∀p∈X.pn++p5,p.1≠b)->(∀b∈ch,∃o vs,s.heap.get? b=some o/\o.data=.fields vs)->a∈ch ->
   ∀h' T,(∀b o,b∉(X.env::X.outer).filterMap (·.frame)->b∉ch->s.heap.get? b=some o->h'.get? b=some o)->(∀b o,b∉ch->s.heap.get? b=some o->∃sl,h'.get? b=some {o with slots:=sl}) ->
   (∀b∈ch,∃o,h'.get? b=some o)->s.heap.get? T=none->T≠a->h'.get? a=some (oe.mapFields (·.setIfInBounds 1 (.ref T)))->(∃oT ts,h'.get? T=some oT/\oT.data=.fields ts/\ts[3]?=some .none)->Q () {s with heap:=h'}:=by
  intro ch hch hrec ha h' T k1 k2 k3 k4 k5 k6 k7;have I':=I.stepx (h':=h') hch hrec (λb o hb hc q=>k1 b o (by rw[<- hS];exact hb) hc q) k2 k3;refine hQ _ I' ⟨?_,ga,Ha,hpa⟩;let⟨oT,ts,q1,q2,q3⟩:=k7;have hsz:1<vs.size:=by
   rcases h1 with z|⟨_,_,_,z,_⟩<;>exact(be.mp z).1
  refine⟨_,_,T,oT,ts,k6,Obj.cls_mapFields _ _,by let⟨c,d,dt,sl⟩:=oe;cases dt<;>exact hdict,bE hd _,by simp[hsz],k5,q1,q2,q3,?_,?_,λp hp z=>?_⟩
  .cases e:X.s₀.heap.get? T with
   |none=>rfl
   |some o =>
    let⟨o',e'⟩:=I.base.there T o e (by rw[hex];simp);rw[k4]at e';cases e'
  .cases e:H T with
   |none=>rfl
   |some u =>
    let⟨o',e'⟩:=(I.hok T u e).there;rw[k4]at e';cases e'
  .have:=(I.pin p hp).1;rw[z,k4]at this;cases this
 rcases h1 with h1|⟨T,oT,ts,h1,hTa,hT,hdT,h3,gT,HT,pT⟩
 .refine WU (ch:=[a]) hfs hFF hfr he hd (.inl ⟨h1,rfl⟩) (fin [a] (λb hb=>?_) (λb hb=>?_) (by simp))
  .obtain rfl:b=a:=by simpa using hb
   exact⟨ga,Ha,hpa⟩
  .obtain rfl:b=a:=by simpa using hb
   exact⟨oe,vs,he,hd⟩
 .refine WU (ch:=[a,T]) hfs hFF hfr he hd (.inr ⟨T,oT,ts,h1,hTa,hT,hdT,h3,rfl⟩) (fin [a,T] (λb hb=>?_) (λb hb=>?_) (by simp))
  .rcases av.mp hb with rfl|hb
   .exact⟨ga,Ha,hpa⟩
   .obtain rfl:b=T:=by simpa using hb
    exact⟨gT,HT,pT⟩
  .rcases av.mp hb with rfl|hb
   .exact⟨oe,vs,he,hd⟩
   .obtain rfl:b=T:=by simpa using hb
    exact⟨oT,ts,hT,hdT⟩
end
def JG(X:Cx)(G:GK)(e:Am)(s:An):Prop:=∃a cls σ H,e=Value.ref a/\Inv X [] σ H s/\Exc X.s₀.heap s.heap H X.pn a cls/\G cls σ H
def xeG(X:Cx)(G:GK)(e:Am)(s:An):Prop:=wpAny (model X.prog X.w) X.A (noteFrame e X.env) (λ_ s'=>wpAny (model X.prog X.w) X.A (setFlight e none) (λ_ s''=>JG X G e s'') (λ_ _=>False) s') (λ_ _=>False) s
noncomputable abbrev Cx.exg(X:Cx)(G:GK):Cx:=X.wish (xeG X G)
structure Bod(X:Cx):Prop where
 st:X.stack=X.env::X.outer
 fr:X.env.frame=some X.env.locals
 ex:X.ex=[]
def qQ{X:Cx}{G:GK}:PassesOwn (model X.prog X.w) X.A X.env (xeG X G):=PassesOwn.looking
def Inv.nopins{X:Cx}{σ:St}(I:Inv X p5 σ H s):Inv X [] σ H s:=I.pins_of λp hp=>absurd hp (by simp)
def Exc.less{g h:Heap}{pn pn':A2}{a:Addr}(x:Exc g h H pn a cls)(hp:∀p∈pn',p∈pn):Exc g h H pn' a cls:=by
 let⟨⟨oe,vs,T,oT,ts,h1,h2,h3,h4,h5,h6,h7,h8,h9,h10,h11,h12⟩,ga,Ha,pa⟩:=x;exact⟨⟨oe,vs,T,oT,ts,h1,h2,h3,h4,h5,h6,h7,h8,h9,h10,h11,λp q=>h12 p (hp p q)⟩,ga,Ha,λp q=>pa p (hp p q)⟩
def CXr(P:Af)(w:World):CXT:=λouter H s E e s'=>∃a cls H',e=Value.ref a/\s'.os=s.os/\AllBare s'.gens/\Un (frs outer) [] H H' s.heap s'.heap/\HOk P w H' s'.heap /\
 Exc s.heap s'.heap H' [] a cls/\E cls none H'
section
variable{X:Cx}{p5:A2}{σ:St}{H:Hp}{s:An}{G:GK}
def QT{e:Am}{s':An}(B:Bod X)(I:Inv X p5 σ H s)(h:CXr X.prog X.w X.stack H s (λcls _ H'=>G cls σ H') e s'):xeG X G e s':=by
 let⟨a,cls,H',rfl,os,bare,un,hok,⟨⟨oe,vs,T,oT,ts,h1,h2,h3,h4,h5,h6,h7,h8,h9,h10,h11,_⟩,ga,Ha,_⟩,hG⟩:=h;have I':Inv X p5 σ H' s':=I.call' os un hok bare (λb z=>absurd z (by simp));have old:∀b,s.heap.get? b=none->X.s₀.heap.get? b=none:=λb hb=>by
  cases e:X.s₀.heap.get? b with
  |none=>rfl
  |some o =>
   let⟨o',e'⟩:=I.base.there b o e (by rw[B.ex];simp);rw[hb]at e';cases e'
 have pin:∀b,s.heap.get? b=none->∀p∈X.pn++p5,p.1≠b:=λb hb p hp z=>by
  have:=(I.pin p hp).1;rw[z,hb]at this;cases this
 refine WV I' B.st B.fr B.ex h1 h3 h4 (old a ga) Ha (pin a ga) (.inr ⟨T,oT,ts,h5,h6,h7,h8,h9,old T h10,h11,pin T h10⟩) λs'' I2 x=>?_;exact⟨a,oe.cls,σ,H',rfl,I2.nopins,x.less λp hp=>bA _ hp,h2 ▸ hG⟩
def zcb{a:Addr}{args:A7}{h':Heap}(B:Bod X)(I:Inv X p5 σ H s)(hm:Heap.MadeExcOf s.heap h' a cls args)(hG:G cls σ H):xeG X G (.ref a) {s with heap:=h'}:=by
 let⟨t,h1,h2,h3⟩:=hm.there;have I':Inv X p5 σ H {s with heap:=h'}:=I.kept (t':=s.toks) hm.keeps;have ga:X.s₀.heap.get? a=none:=by
  cases e:X.s₀.heap.get? a with
  |none=>rfl
  |some o =>
   let⟨o',e'⟩:=I.base.there a o e (by rw[B.ex];simp);rw[hm.new]at e';cases e'
 have Ha:H a=none:=by
  cases e:H a with
  |none=>rfl
  |some u =>
   let⟨o',e'⟩:=(I.hok a u e).there;rw[hm.new]at e';cases e'
 refine WV (s:={s with heap:=h'}) I' B.st B.fr B.ex h1 rfl rfl ga Ha (λp hp z=>?_) (.inl rfl) λs'' I2 x=>?_
 .have:=(I.pin p hp).1;rw[z,hm.new]at this;cases this
 .exact⟨a,cls,σ,H,rfl,I2.nopins,x.less λp hp=>bA _ hp,hG⟩
end
section
variable{P:Af}{w:World}{K:A0}{mg:A4}{base:Heap}
noncomputable abbrev cxR(P:Af)(w:World)(K:A0)(mg:A4)(base:Heap)(N:A8)(qual:Str)(scope:Scope)(f:Addr)(cd:Am)(A:Ao)(outer:List Env)(s:An)(H:Hp)(E:XK):Cx :=
 Jv (CXr P w) P w K mg base N qual scope f cd A outer s H E
def Fun.okx{x qual:Str}{st:Stmt}{f:Addr}{fd:FuncData}{N ps:A8}{k:Nat}(F:Fun K x qual st f fd)(S:FnScope N ps (zg st))(len:∀vs H Q E,sp vs H Q E->vs.length=ps.length)(hbody:∀(cdv:Am)(A:Ao)(outer:List Env)(s:An)(H:Hp)(vs:Ap)(Q:VK)(E:XK),Room k (A.deeper (envOfC qual (zg st) s.heap.objs.size f cdv))->sp vs H Q E ->
   ∃t,PSs ((cxR P w K mg base N qual (zg st) f cdv A outer s H E).exg λcls _ H'=>E cls none H') (qp st) t/\t {nx:=λ_ H'=>Q .non H',rt:=Q} (start N vs) H):FnOk P w K mg base (CXr P w) (k+1) f fd ps sp:=by
 let⟨oc,od,kV,doc,pm,an,cdv,ct,osl,rfl,lk,hcd⟩:=F.ex;refine zgY lk hcd S len λA outer s H vs Q E hr hsp=>?_;let⟨t,h,q⟩:=hbody cdv A outer s H vs Q E hr hsp;refine⟨t,λp5 s σ H' D I hw=>?_,q⟩;refine aZ (h p5 s σ H' D (I.wish _) hw) (λ_ _ z=>z.unwish) λe s' z=>?_;refine af (aZ (show wpAny _ _ _ _ _ _ from z) (λ_ s1 y1=>aZ y1 (λ_ s'' y=>?_) λ_ _ y=>y.elim) λ_ _ y=>y.elim);let⟨a,cls,σ2,H2,rfl,J,xx,g⟩:=y;exact⟨a,cls,H2,rfl,J.os,J.bare,J.base,J.hok,xx.less (λp hp=>absurd hp (by simp)),g⟩
end
structure Cal(P:Af)(w:World)(K:A0)(mg:A4)(base:Heap)(x:Str)(k:Nat)(ps:A8)(dvs:Ap)(sp:Sp):Prop where
 ex:∃f fd ds,FnOk P w K mg base (CXr P w) k f fd ps sp/\mg x=some (.ref f)/\keepIn K (.ref f)=true/\Binds K fd ps ds/\Vals dvs ds
structure MCal(P:Af)(w:World)(K:A0)(mg:A4)(base:Heap)(C:Addr)(m:Str)(k:Nat)(ps:A8)(dvs:Ap)(sp:Sp):Prop where
 cl:Cls K C
 ex:∃f fd ds,FnOk P w K mg base (CXr P w) k f fd ps sp/\Meth K C m f/\Binds K fd ps ds/\Vals dvs ds
structure KCal(P:Af)(w:World)(K:A0)(mg:A4)(base:Heap)(x:Str)(C:Addr)(k:Nat)(ps:A8)(dvs:Ap)(sp:Sp):Prop where
 gl:mg x=some (.ref C)
 ex:∃f fd ds,FnOk P w K mg base (CXr P w) k f fd ps sp/\Mk K C f/\Binds K fd ps ds/\Vals dvs ds
def Cal.mono{j k:Nat}{dvs:Ap}(c:Cal P w K mg base x j ps dvs sp)(h:j<=k:=by decide):Cal P w K mg base x k ps dvs sp:=by
 let⟨f,fd,ds,a,b⟩:=c.ex;exact⟨f,fd,ds,a.mono h,b⟩
def MCal.mono{C:Addr}{m:Str}{j k:Nat}{dvs:Ap}(c:MCal P w K mg base C m j ps dvs sp)(h:j<=k:=by decide):MCal P w K mg base C m k ps dvs sp:=by
 let⟨f,fd,ds,a,b⟩:=c.ex;exact⟨c.cl,f,fd,ds,a.mono h,b⟩
def KCal.mono{C:Addr}{j k:Nat}{dvs:Ap}(c:KCal P w K mg base x C j ps dvs sp)(h:j<=k:=by decide):KCal P w K mg base x C k ps dvs sp:=by
 let⟨f,fd,ds,a,b⟩:=c.ex;exact⟨c.gl,f,fd,ds,a.mono h,b⟩
section
variable{X:Cx}{G:GK}{k:Nat}{f C:Addr}{fd:FuncData}{ps:A8}{sp:Sp}{dvs:Ap}{ds:A7}{x m:Str}{p pos apos:Pos}{e o:Expr}{es:List Expr}{ta:TE}{t:TA}
theorem JB{σ:St}{Q:VK}{us:A7}{vs:Ap}(B:Bod X)(F:FnOk X.prog X.w X.K X.mg X.base (CXr X.prog X.w) k f fd ps sp)(hr:Room k X.A)(hb:Binds X.K fd ps ds)(hd:Vals dvs ds)(I:Inv (X.exg G) p5 σ H s)(r:Vals vs us)(h:sp (vs++dvs) H Q (λcls _ H'=>G cls σ H')):wpAny (model X.prog X.w) X.A (call (.ref f) us) (EP (X.exg G) p5 σ Q) (xeG X G) s:=by
 have r2:Vals (vs++dvs) (us++ds):=r.append hd;have hl:(us++ds).length=ps.length:=by rw[<- r2.length];exact F.len _ _ _ _ h
 refine fB (cT (F.run X.A X.stack s H ⟨us,[]⟩ (us++ds) (vs++dvs) Q _ hr I.unwish.env0 (hb s us I.kIn hl) r2 h) λr s' hq=>?_);cases r with
 |error e=>exact QT B I.unwish hq
 |ok fl =>
  cases fl with
  |ret u=>exact I.after hq
  |next=>exact False.elim hq
  |brk=>exact False.elim hq
  |cont=>exact False.elim hq
theorem zeC{σ:St}{Q:VK}{us:A7}{vs:Ap}(B:Bod X)(M:Mk X.K C f)(F:FnOk X.prog X.w X.K X.mg X.base (CXr X.prog X.w) k f fd ps sp)(hr:Room (k+1) X.A)(hb:Binds X.K fd ps ds)(hd:Vals dvs ds)(I:Inv (X.exg G) p5 σ H s)(r:Vals vs us)(h:∀x dx,H x=none->H dx=none->dx≠x->sp (.ref x::(vs++dvs)) (upd (upd H dx (.own x)) x (.ins C dx [])) (λv H2=>v=.non/\Q (.ref x) H2) (λcls _ H'=>G cls σ H')) :
  wpAny (model X.prog X.w) X.A (call (.ref C) us) (EP (X.exg G) p5 σ Q) (xeG X G) s:=by
 have hq:=h (s.heap.objs.size+1) s.heap.objs.size (I.hok.fresh (cZ _)) (I.hok.fresh (au _)) (aP (cI _));have I2:=Inv.made (C:=C) I;have r2:Vals (V.ref (s.heap.objs.size+1)::(vs++dvs)) (Value.ref (s.heap.objs.size+1)::(us++ds)):=.cons rfl (r.append hd);have hl:(Value.ref (s.heap.objs.size+1)::us++ds).length=ps.length:=by
  have e:=r2.length;rw[F.len _ _ _ _ hq]at e;exact e.symm
 refine fB (zby (f:=f) I.kIn M.makes M.init (bM.mp M.fn) (cT (F.run _ X.stack _ _ ⟨Value.ref (s.heap.objs.size+1)::us,[]⟩ (Value.ref (s.heap.objs.size+1)::(us++ds)) _ _ _ (hr.make C us [])
  (I2.unwish.env0.make C us []) (hb _ (Value.ref (s.heap.objs.size+1)::us) I2.kIn hl) r2 hq) λr s' hq'=>?_))
 cases r with
 |error e=>exact QT B I2.unwish hq'
 |ok fl =>
  cases fl with
  |ret u =>
   let⟨v,H',I3,rv,ev,q3⟩:=I2.after hq';subst ev;exact⟨rv,⟨V.ref (s.heap.objs.size+1),H',I3,rfl,q3⟩⟩
  |next=>exact False.elim hq'
  |brk=>exact False.elim hq'
  |cont=>exact False.elim hq'
def tCl(X:Cx)(k:Nat)(x:Str)(G:GK)(t:TA):TE:=λσ H Q=>∃ps dvs sp,Cal X.prog X.w X.K X.mg X.base x k ps dvs sp/\t σ H λvs H1=>sp (vs++dvs) H1 Q (λcls _ H'=>G cls σ H')
def zA(B:Bod X)(hr:Room k X.A)(ha:PA (X.exg G) (e::es) t)(hg:Gl X x:=by rfl)(hdb:(x == ("__debug__":Str))=false:=by decide)(he:starEach (e::es) X.env=(false,eval e X.env)::starEach es X.env:=by rfl)(hpl:(backTo pos (starEach es X.env)).any (·.1)=false:=by rfl) :
  PE (X.exg G) (.Call (.Name x p) (e::es) [] pos) (tCl X k x G t):=by
 intro p5 s σ H Q I h;let⟨ps,dvs,sp,⟨f,fd,ds,F,hm,hk,hb,hd⟩,h⟩:=h;refine bP (jO I hg hm ?_ hdb);refine dX (h₀:=X.base) I.ok.mod.kin hk (vo (ha pos p5 s σ H _ I h) λus s1 vs H1 I1 r q=>⟨I1.kIn,?_⟩) he hpl;exact JB B F hr hb hd I1 r q
def tMk(X:Cx)(k:Nat)(x:Str)(G:GK)(t:TA):TE:=λσ H Q=>∃C ps dvs sp,KCal X.prog X.w X.K X.mg X.base x C k ps dvs sp/\t σ H λvs H1=>∀y dx,H1 y=none->H1 dx=none->dx≠y ->
 sp (.ref y::(vs++dvs)) (upd (upd H1 dx (.own y)) y (.ins C dx [])) (λv H2=>v=.non/\Q (.ref y) H2) (λcls _ H'=>G cls σ H')
def qW(B:Bod X)(hr:Room (k+1) X.A)(ha:PA (X.exg G) (e::es) t)(hg:Gl X x:=by rfl)(hdb:(x == ("__debug__":Str))=false:=by decide)(he:starEach (e::es) X.env=(false,eval e X.env)::starEach es X.env:=by rfl)(hpl:(backTo pos (starEach es X.env)).any (·.1)=false:=by rfl) :
  PE (X.exg G) (.Call (.Name x p) (e::es) [] pos) (tMk X k x G t):=by
 intro p5 s σ H Q I h;let⟨C,ps,dvs,sp,⟨hm,f,fd,ds,F,M,hb,hd⟩,h⟩:=h;refine bP (jO I hg hm ?_ hdb);refine dX (h₀:=X.base) I.ok.mod.kin M.kp (vo (ha pos p5 s σ H _ I h) λus s1 vs H1 I1 r q=>⟨I1.kIn,?_⟩) he hpl;exact zeC B M F hr hb hd I1 r q
def tMth(X:Cx)(k:Nat)(m:Str)(G:GK)(ta:TE)(t:TA):TE:=λσ H Q=>ta σ H λy H1=>∃a C dx fs ps dvs sp,y=.ref a/\H1 a=some (.ins C dx fs)/\fs.lookup m=none /\
 MCal X.prog X.w X.K X.mg X.base C m k ps dvs sp/\t σ H1 λvs H2=>sp (.ref a::(vs++dvs)) H2 Q (λcls _ H'=>G cls σ H')
def QH{pl:Sem Bool}(B:Bod X)(hr:Room k X.A)(he:PE (X.exg G) o ta)(ha:PA (X.exg G) (e::es) t)(hst:starEach (e::es) X.env=(false,eval e X.env)::starEach es X.env:=by rfl)(hpl:(backTo pos (starEach es X.env)).any (·.1)=false:=by rfl)(ht:eval (.Call (.Attribute o m apos) (e::es) [] pos) X.env=(do
   let ov <- eval o X.env
   standAt apos.atName
   let(f,first) <- holding [ov] (getMethod ov m pl)
   callWith pos f first (backTo pos (starEach (e::es) X.env)) (backToKw pos (keywordEach [] X.env))):=by rfl) :
  PE (X.exg G) (.Call (.Attribute o m apos) (e::es) [] pos) (tMth X k m G ta t):=by
 intro p5 s σ H Q I h;refine eD (pl:=pl) (thn (he p5 s σ H _ I h) λu s1 hz=>?_) ht;let⟨x,H1,I1,rx,a,C,dx,fs,ps,dvs,sp,ex,ea,l,⟨c,f,fd,ds,F,hm,hb,hd⟩,q⟩:=hz;subst ex;obtain rfl:u=Value.ref a:=rx;refine wL I1 ea c hm l ?_;refine dX (first:=[.ref a]) (h₀:=X.base) I.ok.mod.kin hm.kp (vo (ha pos p5 s1 σ H1 _ I1 q) λus s2 vs H2 I2 r q2=>⟨I2.kIn,?_⟩) hst hpl;exact JB (us:=.ref a::us) (vs:=.ref a::vs) B F hr hb hd I2 (.cons rfl r) q2
def JD{pl:Sem Bool}(B:Bod X)(hr:Room k X.A)(he:PE (X.exg G) o ta)(ht:eval (.Call (.Attribute o m apos) [] [] pos) X.env=(do
   let ov <- eval o X.env
   standAt apos.atName
   let(f,first) <- holding [ov] (getMethod ov m pl)
   callWith pos f first (backTo pos (starEach [] X.env)) (backToKw pos (keywordEach [] X.env))):=by rfl) :
  PE (X.exg G) (.Call (.Attribute o m apos) [] [] pos) (tMth X k m G ta tNil):=by
 intro p5 s σ H Q I h;refine eD (pl:=pl) (thn (he p5 s σ H _ I h) λu s1 hz=>?_) ht;let⟨x,H1,I1,rx,a,C,dx,fs,ps,dvs,sp,ex,ea,l,⟨c,f,fd,ds,F,hm,hb,hd⟩,q⟩:=hz;subst ex;obtain rfl:u=Value.ref a:=rx;refine wL I1 ea c hm l ?_;exact io (first:=[.ref a]) I1.kIn hm.kp (JB (us:=[.ref a]) (vs:=[.ref a]) B F hr hb hd I1 (.cons rfl .nil) q)
def tGl(X:Cx)(x:Str):TE:=λ_ H Q=>∃v u,X.mg x=some u/\RelV v u/\Q v H
def jG(hg:Gl X x:=by rfl)(hd:(x == ("__debug__":Str))=false:=by decide):PE X (.Name x pos) (tGl X x):=λ_ _ _ H _ I h=>by
 let⟨v,u,hm,r,h⟩:=h;exact jO I hg hm ⟨v,H,I,r,h⟩ hd
def tBl(X:Cx)(x:Str)(v:V):TE:=λ_ H Q=>X.mg x=none/\Q v H
def zkB{n:String}(hv:bootBuiltins x=some (.type n))(hg:Gl X x:=by rfl)(hn:x≠"__name__":=by decide)(hd:(x == ("__debug__":Str))=false:=by decide):PE X (.Name x pos) (tBl X x (.ty n)):=λ_ _ _ H _ I h=>by
 let⟨hm,h⟩:=h;exact vS I hg hm hv ⟨.ty n,H,I,rfl,h⟩ hn hd
def tBi(X:Cx)(x:Str)(r:List V->Hp->VK->Prop)(t:TA):TE:=λσ H Q=>X.mg x=none/\t σ H λvs H1=>r vs H1 Q
def zM{id:String}{r:List V->Hp->VK->Prop}(hc:CallR X (.builtin id) r)(hv:bootBuiltins x=some (.builtin id))(ha:PA X (e::es) t)(hg:Gl X x:=by rfl)(hn:x≠"__name__":=by decide)(hdb:(x == ("__debug__":Str))=false:=by decide)(he:starEach (e::es) X.env=(false,eval e X.env)::starEach es X.env:=by rfl)(hpl:(backTo pos (starEach es X.env)).any (·.1)=false:=by rfl):PE X (.Call (.Name x p) (e::es) [] pos) (tBi X x r t):=λp5 s σ H Q I h =>
 zgl hc hg h.1 hv ha hn hdb he hpl p5 s σ H Q I h.2
def xL{T:String}{r:List V->Hp->VK->Prop}(hc:CallR X (.type T) r)(hv:bootBuiltins x=some (.type T))(ha:PA X (e::es) t)(hg:Gl X x:=by rfl)(hn:x≠"__name__":=by decide)(hdb:(x == ("__debug__":Str))=false:=by decide)(he:starEach (e::es) X.env=(false,eval e X.env)::starEach es X.env:=by rfl)(hpl:(backTo pos (starEach es X.env)).any (·.1)=false:=by rfl):PE X (.Call (.Name x p) (e::es) [] pos) (tBi X x r t):=λp5 s σ H Q I h =>
 zeO hc hg h.1 hv ha hn hdb he hpl p5 s σ H Q I h.2
end
section
variable{X:Cx}{tg:Expr}{a b c e o:Expr}{ta tb tc:TE}{pos:Pos}
def iSeq(K:A0)(tl:TE):TI:=λσ H R=>tl σ H λx H1=>∃a,x=.ref a/\(((∃xs,SqL K H1 a xs)/\R (Itl K a) H1)\/((∃xs,SqT K H1 a xs)/\R (Itt K a) H1))
def qq{l:Expr}{tl:TE}(hl:PE X l tl):PI X tg l (iSeq X.K tl):=by
 intro p5 s σ H R I h;refine qI (hl p5 s σ H _ I h) λv s1 x H1 I1 r1 q1=>?_;let⟨a,e,q⟩:=q1;subst e;cases r1;rcases q with⟨⟨xs,hq⟩,q⟩|⟨⟨xs,hq⟩,q⟩
 .obtain⟨pi,rv,p,hz⟩:=I1.list hq;refine dq p.isList ?_;refine⟨s1.heap.objs.size,[s1.heap.objs.size],_,_,H1,rfl,I1.kept (t':=s1.toks) λb o e=>aj _ e,zeh a _,⟨_,aC _ rfl,rfl,rfl⟩,λb hb=>?_,q⟩;have e:b=s1.heap.objs.size:=by simpa using hb
  subst e;exact I1.fpOk (au _) (I1.hok.fresh (au _))
 .obtain⟨pi,rv,p,hz⟩:=I1.tuple hq;refine wpAny_pyIter_tuple (show s1.heap.IsTuple a pi.toArray from p) ?_;refine⟨s1.heap.objs.size,[s1.heap.objs.size],_,_,H1,rfl,I1.kept (t':=s1.toks) λb o e=>aj _ e,zce a _,⟨_,aC _ rfl,rfl,rfl⟩,λb hb=>?_,q⟩;have e:b=s1.heap.objs.size:=by simpa using hb
  subst e;exact I1.fpOk (au _) (I1.hok.fresh (au _))
def xb{ta:TA}{p pos:Pos}(ha:PA X [a] ta)(hg:Gl X "range":=by rfl)(hs:starEach [a] X.env=[(false,eval a X.env)]:=by rfl):PI X tg (.Call (.Name "range" p) [a] [] pos) (λσ H R=>X.mg "range"=none/\iRng1 ta σ H R) :=
 λp5 s σ H R I h=>zeN hg h.1 ha hs p5 s σ H R I h.2
def zf8(K:A0):R2:=λx y H Q=>∃l b xs zs,x=.ref l/\y=.ref b/\SqL K H l xs/\SqL K H b zs/\xs.length+zs.length<=sizeLine/\∀p,H p=none->Q (.ref p) (upd H p (.lst (xs++zs)))
def zhZ:OpR X (binaryOp .Add) (zf8 X.K):=by
 intro p5 s σ H x y v u Q I rx ry h;let⟨l,b,xs,zs,rfl,rfl,hH,hB,hz,q⟩:=h;cases rx;cases ry;let⟨pi,r,p,z⟩:=I.list hH;let⟨its2,r2,p2,z2⟩:=I.list hB;have e1:=r.length;have e2:=r2.length;let⟨⟨cls,dd,data,sl⟩,n,ho,hc,hdd,hd⟩:=p;let⟨⟨cls2,dd2,data2,sl2⟩,n2,ho2,hc2,hdd2,hd2⟩:=p2;simp only at hc hd hc2 hd2;subst hc hd hc2 hd2;have ea:pi.toArray++its2.toArray=(pi++its2).toArray:=by simp
 refine concat_meets ⟨_,ho,rfl⟩ ⟨_,ho2,rfl⟩ noFill_list_add seq_list_add PySem.F.slot_list_add PySem.F.entry_list_add (PySem.F.args_list_add_2 _ _) (list_addW l b pi.toArray its2.toArray n n2 dd dd2 sl sl2 (by simp only[aw];lia)) ⟨ho,ho2,?_⟩;rw[ea];exact⟨.ref _,_,I.lnew (t':=s.toks) (r.append r2) (by rw[aH];lia),rfl,q _ I.fresh⟩
def OpR.wk{f:Al}{r r':R2}(h:OpR X f r)(k:∀x y H Q,r' x y H Q->r x y H Q):OpR X f r':=λp5 s σ H x y v u Q I rx ry q=>h p5 s σ H x y v u Q I rx ry (k x y H Q q)
def za9(K:A0):R2:=λx y H Q=>match x,y with
 | .int i,.int j=>Q (.int (i+j)) H
 | .str i,.str j=>i.length+j.length<=sizeLine/\Q (.str (i++j)) H
 |x,y=>zf8 K x y H Q
def qk:OpR X (binaryOp .Add) (za9 X.K):=(op_add.or (op_add_str.or zhZ)).wk λx y H Q h=>by
 unfold za9 at h
 split at h
 .exact .inl h
 .exact .inr (.inl ⟨_,_,rfl,rfl,h⟩)
 .exact .inr (.inr h)
def rT(c:Int->Int->Prop)[∀i j,Decidable (c i j)]:R2:=λx y H Q=>iq x λi=>iq y λj=>if c i j then Q (.bl true) H else Q (.bl false) H
def zcX{c:Prop}[Decidable c]{Q:VK}(h:if c then Q (.bl true) H else Q (.bl false) H):Q (.bl (decide c)) H:=by
 by_cases e:c
 .rw[ao e]at h;rw[bc e];exact h
 .rw[ak e]at h;rw[aT e];exact h
def zdR{c:Prop}[Decidable c]{Q:VK}(h:if ¬c then Q (.bl true) H else Q (.bl false) H):Q (.bl (!decide c)) H:=by
 by_cases e:c
 .rw[ak (λz=>z e)]at h;rw[bc e];exact h
 .rw[ao e]at h;rw[aT e];exact h
def OpR.t{f:Al}{c:Int->Int->Prop}[∀i j,Decidable (c i j)](h:OpR X f (rI0 λi j=>.bl (decide (c i j)))):OpR X f (rT c):=h.wk λx y H Q q=>by
 let⟨i,j,rfl,rfl,q⟩:=QO q;exact zcX q
def zdD:OpR X (compareOp .Lt) (rT λi j=>i<j):=op_lt.t
def jR:OpR X (compareOp .LtE) (rT λi j=>i<=j):=op_le.t
def Q5:OpR X (compareOp .Gt) (rT λi j=>j<i):=op_gt.t
def Q6:OpR X (compareOp .GtE) (rT λi j=>j<=i):=op_ge.t
def jr:OpR X (compareOp .Is) (λx y H Q=>nq y (if x=.non then Q (.bl true) H else Q (.bl false) H)):=op_isN.wk λx y H Q q=>by
 let⟨rfl,q⟩:=zdG q;exact zcX q
def wI:OpR X (compareOp .IsNot) (λx y H Q=>nq y (if ¬x=.non then Q (.bl true) H else Q (.bl false) H)):=op_notN.wk λx y H Q q=>by
 let⟨rfl,q⟩:=zdG q;exact zdR q
def zcH{op:Operator}{b:Expr}{y:V}{r:R2}(ho:OpR X (binaryOp op) r)(hb:PE X b (tC y)){ta:TE}{r':V->Hp->VK->Prop}(k:∀x H Q,r' x H Q->r x y H Q){pos:Pos}(ha:PE X a ta):PE X (.BinOp a op b pos) (tUn r' ta):=by
 intro p5 s σ H Q I h;refine wpAny_BinOp (qI (ha p5 s σ H _ I h) λv s1 x H1 I1 r1 q1=>thn (hb p5 s1 σ H1 (λz H2=>z=y/\H2=H1) I1 ⟨rfl,rfl⟩) λu s2 ⟨z,H2,I2,r2,e,e2⟩=>?_);subst e e2;exact ho p5 s2 σ H2 x z v u Q I2 r1 r2 (k x H2 Q q1)
def zcI{k:Int}{j:Nat}{p2 pos:Pos}{ta:TE}(ha:PE X a ta)(h:decide (0<k)=true:=by rfl):PE X (.BinOp a .Mod (.Constant (.int k) j p2) pos) (tUn (rU λi=>.int (i%k)) ta) :=
 zcH js ze (λx H Q q=>by let⟨i,rfl,q⟩:=Qm q;exact⟨bQ h,q⟩) ha
def VZ{k:Int}{j:Nat}{p2 pos:Pos}{ta:TE}(ha:PE X a ta)(h:decide (0<k/\k<1073741824)=true:=by rfl):PE X (.BinOp a .FloorDiv (.Constant (.int k) j p2) pos) (tUn (rU λi=>.int (i/k)) ta) :=
 zcH zhY ze (λx H Q q=>by let⟨i,rfl,q⟩:=Qm q;have z:=bQ h;exact⟨z,q⟩) ha
def zgg{b k:Int}{j j2:Nat}{p1 p2 pos:Pos}(h:decide (0<=k/\k<=1000000/\b.natAbs<2^64)=true:=by rfl):PE X (.BinOp (.Constant (.int b) j p1) .Pow (.Constant (.int k) j2 p2) pos) (tC (.int (b^k.toNat))):=by
 intro p5 s σ H Q I q;have z:=bQ h;exact zK zjt ze ze p5 s σ H Q I ⟨z,q⟩
def Xh{b k:Int}{j j2:Nat}{p1 p2 p3 pos:Pos}{ta:TE}(ha:PE X a ta)(h:decide (0<=k/\k<=1000000/\b.natAbs<2^64)=true:=by rfl)(h0:decide (0<b)=true:=by rfl) :
  PE X (.BinOp a .Mod (.BinOp (.Constant (.int b) j p1) .Pow (.Constant (.int k) j2 p2) p3) pos) (tUn (rU λi=>.int (i%b^k.toNat)) ta) :=
 zcH js (zgg h) (λx H Q q=>by let⟨i,rfl,q⟩:=Qm q;exact⟨Int.pow_pos (bQ h0),q⟩) ha
structure MulOk(i j:Int):Prop where
 h:IntMulOk i j
def vK:OpR X (binaryOp .Mult) (rI MulOk λi j=>.int (i*j)):=opI λ_ _ _ _ _ _ _ hc q=>mul_int q hc.h
structure CFd(_ j:Int):Prop where
 a:j≠0
 b:j.natAbs.log2<9000
def zdF:OpR X (binaryOp .FloorDiv) (rI CFd λi j=>.int (i.fdiv j)):=opI λ_ _ _ _ _ _ _ hc q=>floordiv_int hc.1 q (.inl (PyProof.noPylong_of_log2 hc.2))
def zkH:OpR X (compareOp .Lt) (rI0 λi j=>.bl (decide (i<j))):=op_lt
def mul_okL{i j:Int}(h1:-(2^64)<i)(h2:i<2^64):MulOk i j:=⟨PySem.IntMulOk.of_left (ii h1 h2)⟩
def mul_okR{i j:Int}(h1:-(2^64)<j)(h2:j<2^64):MulOk i j:=⟨PySem.IntMulOk.of_right (ii h1 h2)⟩
def fd_ok{i j:Int}(h1:0<j)(h2:j.natAbs<2^8999):CFd i j:=⟨by lia,by
 have:=(Nat.log2_lt (n:=j.natAbs) (k:=8999) (by lia)).mpr h2
 lia⟩
def fdiv_pos{i j:Int}(h:0<j):i.fdiv j=i/j:=fK i (dD h)
noncomputable def wm:List V->List V->Bool
 |[],[]=>true
 |x::xs,y::ys=>eqV x y&&wm xs ys
 |_,_=>false
theorem wg:∀{xs ys:Ap},xs.length≠ys.length->wm xs ys=false
 |[],[],h=>absurd rfl h
 |[],_::_,_=>rfl
 |_::_,[],_=>rfl
 |x::xs,y::ys,h=>by
  have:=wg (xs:=xs) (ys:=ys) (λe=>h (by simp[e]));unfold wm;rw[this,cg]
theorem wj:∀{xs ys:Ap},xs.length=ys.length->(List.range xs.length).all (λj=>eqV (xs.getD j .non) (ys.getD j .non))=wm xs ys
 |[],[],_=>rfl
 |[],_::_,h=>by simp at h
 |_::_,[],h=>by simp at h
 |x::xs,y::ys,h=>by
  have ih:=wj (xs:=xs) (ys:=ys) (by simpa using h);unfold wm;rw[<- ih,aX,List.range_succ_eq_map,all_cons,List.all_map]
  rfl
theorem Vals.getD:∀{xs:Ap}{us:A7}{j:Nat}(h:j<us.length),Vals xs us->RelV (xs.getD j .non) us[j]
 |_,_,0,_,.cons r _=>r
 |_,_,j+1,h,.cons _ t=>Vals.getD (j:=j) (by simpa using h) t
def j7{xs:Ap}(f:xs.all jQ=true)(j:Nat):jQ (xs.getD j .non)=true:=by
 rw[ae];cases e:xs[j]? with
 |none=>rfl
 |some x=>exact cJ.mp f x (ah e)
def zhM(K:A0)(neg:Bool):R2:=λx y H Q=>∃a b xs ys,x=.ref a/\y=.ref b/\((SqL K H a xs/\SqL K H b ys)\/(SqT K H a xs/\SqT K H b ys))/\xs.all jQ=true/\ys.all jQ=true/\Q (.bl (if neg then !wm xs ys else wm xs ys)) H
def zeS(hu:X.A.units<cLine):OpR X (compareOp .Eq) (zhM X.K false):=by
 intro p5 s σ H x y v u Q I rx ry h;let⟨a,b,xs,ys,rfl,rfl,hq,fx,fy,q⟩:=h;cases rx;cases ry;have fin:EP X p5 σ Q (.bool (wm xs ys)) s:=⟨.bl (wm xs ys),H,I,rfl,q⟩;rcases hq with⟨h1,h2⟩|⟨h1,h2⟩
 .obtain⟨pi,r,p,_⟩:=I.list h1;let⟨its2,r2,p2,_⟩:=I.list h2;have e1:=r.length;have e2:=r2.length;by_cases hl:xs.length=ys.length
  .refine fV (e:=λj=>eqV (xs.getD j .non) (ys.getD j .non)) p.isList p2.isList (by simp only[aw];lia) hu (λj h1 h2=>?_) _ _ _ _ ?_
   .exact ZO (Vals.getD (by simpa using h1) r) (Vals.getD (by simpa using h2) r2) (j7 fx j) (j7 fy j)
   .rw[aw,<- e1,wj hl];exact fin
  .rw[wg hl]at fin;exact iD p.isList p2.isList (by simp only[aw];simp;lia) hu _ _ _ _ fin
 .obtain⟨pi,r,p,_⟩:=I.tuple h1;let⟨its2,r2,p2,_⟩:=I.tuple h2;have e1:=r.length;have e2:=r2.length;refine dr (e:=λj=>eqV (xs.getD j .non) (ys.getD j .non)) p p2 hu (λj h1 h2=>?_) _ _ _ _ ?_
  .exact ZO (Vals.getD (by simpa using h1) r) (Vals.getD (by simpa using h2) r2) (j7 fx j) (j7 fy j)
  .by_cases hl:xs.length=ys.length
   .have em:min pi.toArray.size its2.toArray.size=xs.length:=by simp only[aw];lia
    have es:(pi.toArray.size == its2.toArray.size)=true:=by simp only[aw];rw[bM];lia
    rw[em,es,wj hl,gd];exact fin
   .have es:(pi.toArray.size == its2.toArray.size)=false:=by simp only[aw];rw[a9];lia
    rw[es,cg];rw[wg hl]at fin;exact fin
def zeP(hu:X.A.units<cLine):OpR X (compareOp .NotEq) (zhM X.K true):=by
 intro p5 s σ H x y v u Q I rx ry h;let⟨a,b,xs,ys,rfl,rfl,hq,fx,fy,q⟩:=h;cases rx;cases ry;have fin:EP X p5 σ Q (.bool (!wm xs ys)) s:=⟨.bl (!wm xs ys),H,I,rfl,q⟩;rcases hq with⟨h1,h2⟩|⟨h1,h2⟩
 .obtain⟨pi,r,p,_⟩:=I.list h1;let⟨its2,r2,p2,_⟩:=I.list h2;have e1:=r.length;have e2:=r2.length;by_cases hl:xs.length=ys.length
  .refine SeqAt.RcNeAt.lists (e:=λj=>eqV (xs.getD j .non) (ys.getD j .non)) p.isList p2.isList (by simp only[aw];lia) hu (λj h1 h2=>?_) _ _ _ _ ?_
   .exact ZO (Vals.getD (by simpa using h1) r) (Vals.getD (by simpa using h2) r2) (j7 fx j) (j7 fy j)
   .rw[aw,<- e1,wj hl];exact fin
  .rw[wg hl]at fin;exact SeqAt.RcNeAt.lists_lengths p.isList p2.isList (by simp only[aw];simp;lia) hu _ _ _ _ fin
 .obtain⟨pi,r,p,_⟩:=I.tuple h1;let⟨its2,r2,p2,_⟩:=I.tuple h2;have e1:=r.length;have e2:=r2.length;refine SeqAt.RcNeAt.tuples (e:=λj=>eqV (xs.getD j .non) (ys.getD j .non)) p p2 hu (λj h1 h2=>?_) _ _ _ _ ?_
  .exact ZO (Vals.getD (by simpa using h1) r) (Vals.getD (by simpa using h2) r2) (j7 fx j) (j7 fy j)
  .by_cases hl:xs.length=ys.length
   .have em:min pi.toArray.size its2.toArray.size=xs.length:=by simp only[aw];lia
    have es:(pi.toArray.size == its2.toArray.size)=true:=by simp only[aw];rw[bM];lia
    rw[em,es,wj hl,gd];exact fin
   .have es:(pi.toArray.size == its2.toArray.size)=false:=by simp only[aw];rw[a9];lia
    rw[es,cg];rw[wg hl]at fin;exact fin
inductive DE(K:A0)(H:Hp):Nat->V->V->Bool->Prop
 |flat {n:Nat} {x y:V}:jQ x=true->jQ y=true->DE K H n x y (eqV x y)
 |same {n:Nat} {p:Addr}:DE K H n (.ref p) (.ref p) true
 |lists {n:Nat} {p q:Addr} {xs ys:Ap} {e:Nat->Bool}:p≠q->SqL K H p xs->SqL K H q ys->xs.length=ys.length->(∀j x y,xs[j]?=some x->ys[j]?=some y->DE K H n x y (e j))->DE K H (n+1) (.ref p) (.ref q) ((List.range xs.length).all e)
 |listsL {n:Nat} {p q:Addr} {xs ys:Ap}:p≠q->SqL K H p xs->SqL K H q ys->xs.length≠ys.length->DE K H (n+1) (.ref p) (.ref q) false
 |tuples {n:Nat} {p q:Addr} {xs ys:Ap} {e:Nat->Bool}:p≠q->SqT K H p xs->SqT K H q ys->(∀j x y,xs[j]?=some x->ys[j]?=some y->DE K H n x y (e j))->DE K H (n+1) (.ref p) (.ref q) ((List.range (min xs.length ys.length)).all e&&xs.length == ys.length)
 |nt {n:Nat} {p:Addr} {xs:Ap}:SqT K H p xs->DE K H n .non (.ref p) false
 |tn {n:Nat} {p:Addr} {xs:Ap}:SqT K H p xs->DE K H n (.ref p) .non false
def Vals.at_{xs:Ap}{us:A7}(r:Vals xs us){j:Nat}(h:j<us.toArray.size):∃x,xs[j]?=some x/\RelV x us.toArray[j]:=by
 have h':j<us.length:=by simpa using h
 have hl:j<xs.length:=by rw[r.length];exact h'
 let⟨u,hu,ru⟩:=r.get (ac hl);have e:us.toArray[j]=u:=by
  have:=aa.mp hu;let⟨_,e⟩:=this;simpa using e
 exact⟨xs[j],ac hl,e ▸ ru⟩
def zd3{σ:St}{n:Nat}{x y:V}{b:Bool}(I:Inv X p5 σ H s)(h:DE X.K H n x y b):∀{u v:Am}{A:Ao},RelV x u->RelV y v->A.units+n<cLine->SeqAt.EqAt A s u v b:=by
 induction h with
 |flat fx fy=>intro u v A rx ry _;exact ZO rx ry fx fy
 |same=>intro u v A rx ry _;cases rx;cases ry;exact eR _
 |lists hne h1 h2 hl _ ih =>
  intro u v A rx ry hu;cases rx;cases ry;let⟨pi,r,p,_⟩:=I.list h1;let⟨its2,r2,p2,_⟩:=I.list h2;have e1:=r.length;have e2:=r2.length;refine dg hne ?_;have:=fV (A:=A) (s:=s) p.isList p2.isList (by simp only[aw];lia) (by lia) (λj h1 h2=>by
   let⟨x,hx,rx⟩:=r.at_ h1;let⟨y,hy,ry⟩:=r2.at_ h2;exact ih j x y hx hy rx ry (by show A.units+1+_<_;lia))
  rw[aw,<- e1]at this;exact this
 |listsL hne h1 h2 hl =>
  intro u v A rx ry hu;cases rx;cases ry;let⟨pi,r,p,_⟩:=I.list h1;let⟨its2,r2,p2,_⟩:=I.list h2;have e1:=r.length;have e2:=r2.length;exact dg hne (iD p.isList p2.isList (by simp only[aw];simp;lia) (by lia))
 |tuples hne h1 h2 _ ih =>
  intro u v A rx ry hu;cases rx;cases ry;let⟨pi,r,p,_⟩:=I.tuple h1;let⟨its2,r2,p2,_⟩:=I.tuple h2;have e1:=r.length;have e2:=r2.length;refine dg hne ?_;have:=dr (A:=A) (s:=s) p p2 (by lia) (λj h1 h2=>by
   let⟨x,hx,rx⟩:=r.at_ h1;let⟨y,hy,ry⟩:=r2.at_ h2;exact ih j x y hx hy rx ry (by show A.units+1+_<_;lia))
  simp only[aw,<- e1,<- e2]at this;exact this
 |nt h1 =>
  intro u v A rx ry hu;cases rx;cases ry;let⟨pi,r,p,_⟩:=I.tuple h1;exact SeqAt.EqAt.none_tuple p (by lia)
 |tn h1 =>
  intro u v A rx ry hu;cases rx;cases ry;let⟨pi,r,p,_⟩:=I.tuple h1;exact SeqAt.EqAt.tuple_none p (by lia)
def zhN(K:A0)(neg:Bool):R2:=λx y H Q=>∃p q xs ys n e,x=.ref p/\y=.ref q/\n<=8/\(∀j x y,xs[j]?=some x->ys[j]?=some y->DE K H n x y (e j)) /\
 ((SqL K H p xs/\SqL K H q ys/\xs.length=ys.length/\Q (.bl (if neg then !((List.range xs.length).all e)else(List.range xs.length).all e)) H) \/
   (SqT K H p xs/\SqT K H q ys/\Q (.bl (if neg then !((List.range (min xs.length ys.length)).all e&&xs.length == ys.length)else((List.range (min xs.length ys.length)).all e&&xs.length == ys.length))) H))
def zcM(hu:X.A.units+100<cLine):OpR X (compareOp .Eq) (zhN X.K false):=by
 intro p5 s σ H x y v u Q I rx ry h;let⟨p,q,xs,ys,n,e,rfl,rfl,hn,hde,h⟩:=h;cases rx;cases ry;rcases h with⟨h1,h2,hl,q⟩|⟨h1,h2,q⟩
 .obtain⟨pi,r,p,_⟩:=I.list h1;let⟨its2,r2,p2,_⟩:=I.list h2;have e1:=r.length;have e2:=r2.length;refine fV (e:=e) p.isList p2.isList (by simp only[aw];lia) (by lia) (λj h1 h2=>?_) _ _ _ _ ?_
  .obtain⟨x,hx,rx⟩:=r.at_ h1;let⟨y,hy,ry⟩:=r2.at_ h2;exact zd3 I (hde j x y hx hy) rx ry (by show X.A.units+1+_<_;lia)
  .rw[aw,<- e1];exact⟨.bl _,H,I,rfl,q⟩
 .obtain⟨pi,r,p,_⟩:=I.tuple h1;let⟨its2,r2,p2,_⟩:=I.tuple h2;have e1:=r.length;have e2:=r2.length;refine dr (e:=e) p p2 (by lia) (λj h1 h2=>?_) _ _ _ _ ?_
  .obtain⟨x,hx,rx⟩:=r.at_ h1;let⟨y,hy,ry⟩:=r2.at_ h2;exact zd3 I (hde j x y hx hy) rx ry (by show X.A.units+1+_<_;lia)
  .simp only[aw,<- e1,<- e2];exact⟨.bl _,H,I,rfl,q⟩
def zcL(hu:X.A.units+100<cLine):OpR X (compareOp .NotEq) (zhN X.K true):=by
 intro p5 s σ H x y v u Q I rx ry h;let⟨p,q,xs,ys,n,e,rfl,rfl,hn,hde,h⟩:=h;cases rx;cases ry;rcases h with⟨h1,h2,hl,q⟩|⟨h1,h2,q⟩
 .obtain⟨pi,r,p,_⟩:=I.list h1;let⟨its2,r2,p2,_⟩:=I.list h2;have e1:=r.length;have e2:=r2.length;refine SeqAt.RcNeAt.lists (e:=e) p.isList p2.isList (by simp only[aw];lia) (by lia) (λj h1 h2=>?_) _ _ _ _ ?_
  .obtain⟨x,hx,rx⟩:=r.at_ h1;let⟨y,hy,ry⟩:=r2.at_ h2;exact zd3 I (hde j x y hx hy) rx ry (by show X.A.units+1+_<_;lia)
  .rw[aw,<- e1];exact⟨.bl _,H,I,rfl,q⟩
 .obtain⟨pi,r,p,_⟩:=I.tuple h1;let⟨its2,r2,p2,_⟩:=I.tuple h2;have e1:=r.length;have e2:=r2.length;refine SeqAt.RcNeAt.tuples (e:=e) p p2 (by lia) (λj h1 h2=>?_) _ _ _ _ ?_
  .obtain⟨x,hx,rx⟩:=r.at_ h1;let⟨y,hy,ry⟩:=r2.at_ h2;exact zd3 I (hde j x y hx hy) rx ry (by show X.A.units+1+_<_;lia)
  .simp only[aw,<- e1,<- e2];exact⟨.bl _,H,I,rfl,q⟩
def zcG(K:A0):R2:=λx y H Q=>match x,y with
 | .int i,.int j=>Q (.bl (decide (i=j))) H
 | .str i,.str j=>Q (.bl (decide (i=j))) H
 | .bl i,.bl j=>Q (.bl (decide (i=j))) H
 |x,y=>rEq x y H Q\/zhM K false x y H Q\/zhN K false x y H Q
def zeH(K:A0):R2:=λx y H Q=>match x,y with
 | .int i,.int j=>Q (.bl (!decide (i=j))) H
 | .str i,.str j=>Q (.bl (!decide (i=j))) H
 | .bl i,.bl j=>Q (.bl (!decide (i=j))) H
 |x,y=>rNe x y H Q\/zhM K true x y H Q\/zhN K true x y H Q
def zeJ(K:A0):R2:=λx y H Q=>match x,y with
 | .int i,.int j=>if i=j then Q (.bl true) H else Q (.bl false) H
 | .str i,.str j=>if i=j then Q (.bl true) H else Q (.bl false) H
 | .bl i,.bl j=>if i=j then Q (.bl true) H else Q (.bl false) H
 |x,y=>zcG K x y H Q
def zeG(K:A0):R2:=λx y H Q=>match x,y with
 | .int i,.int j=>if ¬i=j then Q (.bl true) H else Q (.bl false) H
 | .str i,.str j=>if ¬i=j then Q (.bl true) H else Q (.bl false) H
 | .bl i,.bl j=>if ¬i=j then Q (.bl true) H else Q (.bl false) H
 |x,y=>zeH K x y H Q
def zgs(hu:X.A.units+100<cLine):OpR X (compareOp .Eq) (zcG X.K):=(op_eq.or ((zeS (by lia)).or (zcM hu))).wk λx y H Q h=>by
 unfold zcG at h
 split at h<;>first|exact h|exact .inl ⟨rfl,by simpa using h⟩
def zkG(hu:X.A.units+100<cLine):OpR X (compareOp .NotEq) (zeH X.K):=(op_ne.or ((zeP (by lia)).or (zcL hu))).wk λx y H Q h=>by
 unfold zeH at h
 split at h<;>first|exact h|exact .inl ⟨rfl,by simpa using h⟩
def qB(hu:X.A.units+100<cLine):OpR X (compareOp .Eq) (zeJ X.K):=(zgs hu).wk λx y H Q h=>by
 unfold zeJ at h
 split at h<;>first|exact h|exact zcX (Q:=Q) h
def Q4(hu:X.A.units+100<cLine):OpR X (compareOp .NotEq) (zeG X.K):=(zkG hu).wk λx y H Q h=>by
 unfold zeG at h
 split at h<;>first|exact h|exact zdR (Q:=Q) h
def Room.units1{k:Nat}{A:Ao}(r:Room k A):A.units+100<cLine:=by have:=r.un;lia
noncomputable def zj1:V->Option Value
 | .ty n=>some (.type n)
 | .ref a=>some (.ref a)
 |_=>none
def zP:bootBuiltins "len"=some (.builtin "len"):=by decide+kernel
def qh:bootBuiltins "isinstance"=some (.builtin "isinstance"):=by decide+kernel
def zhg:bootBuiltins "sum"=some (.builtin "sum"):=by decide+kernel
def zj6:bootBuiltins "max"=some (.builtin "max"):=by decide+kernel
def zhh:bootBuiltins "all"=some (.builtin "all"):=by decide+kernel
def zfr:bootBuiltins "sorted"=some (.builtin "sorted"):=by decide+kernel
def zj4:bootBuiltins "str"=some (.type "str"):=by decide+kernel
def zj7:bootBuiltins "int"=some (.type "int"):=by decide+kernel
def wP:bootBuiltins "list"=some (.type "list"):=by decide+kernel
def Za:bootBuiltins "tuple"=some (.type "tuple"):=by decide+kernel
def Q9:kitOne K (.type "int") (.type "int")=some true:=by rfl
def Ql:kitOne K (.type "int") (.type "bool")=some false:=by rfl
def Zu:kitOne K (.type "bool") (.type "bool")=some true:=by rfl
def Q8:kitOne K (.type "str") (.type "str")=some true:=by rfl
def zbH:kitOne K (.type "tuple") (.type "tuple")=some true:=by rfl
def zjQ:IxR X (rIx X.K):=zjP
def zR:CallR X (.builtin "len") (λxs H Q=>lq xs λx=>∃n,zkZ X.K x H n/\Q (.int n) H):=λp5 s σ H xs us Q I r h=>let⟨x,e,n,h⟩:=zgB h;zg9 p5 s σ H xs us Q I r ⟨x,n,e,h⟩
def zgA{xs:Ap}{P:Int->Prop}(h:lq xs λv=>iq v P):∃i,xs=[.int i]/\P i:=by
 let⟨v,rfl,h⟩:=zgB h;let⟨i,rfl,h⟩:=Qm h;exact⟨i,rfl,h⟩
end
abbrev bmV:List Value:=[.type "ValueError",.type "Exception",.type "BaseException",.type "object"]
structure XC(K:A0)(C:Addr):Prop where
 q:PySem.W.excIn K C bmV "ValueError.__new__"=true
def zi1{C:Addr}{h₀:Heap}(X:K.In h₀)(x:XC K C):∃bm N nm q bs hdct sn sub ab col dd k0 k1 k2 k3 k5 mN,h₀.get? C=some (excClassObj nm q C N bs bm hdct sn sub ab col dd k0 k1 k2 k3 k5 "ValueError.__new__")/\h₀.Ns N mN/\mN "__init__"=none/\OwnTail h₀ bmV bm:=by
 have q:=x.q;unfold PySem.W.excIn at q
 split at q
 .rename_i dd cd sl ho
  split at q
  .rename_i C' bm k0 k1 k2 k3 n k5 hm hs;simp only[ci,bM,Bool.not_eq_true']at q;let⟨⟨⟨⟨⟨rfl,rfl⟩,hdel⟩,ht⟩,hok⟩,hni⟩:=q;let⟨nm,bs,mro,ns,qn,hd,sn,sub,ab,col,del⟩:=cd;dsimp only at hm hdel hok hni;subst hm hdel;have hsl:sl=#[k0,k1,k2,k3,some (.builtin "ValueError.__new__"),k5]:=by
    let⟨l⟩:=sl;simp only at hs;rw[hs]
   subst hsl;exact⟨bm,ns,nm,qn,bs,hd,sn,sub,ab,col,dd,k0,k1,k2,k3,k5,_,X _ _ ho,.of_isNs (PySem.W.isNs_of_in X hok),PySem.W.nsMap_none_of_in X hok hni,PySem.W.tail_of_in X ht⟩
  .cases q
 .cases q
section
variable{X:Cx}{G:GK}{x n:Str}{np cpos pos hpos:Pos}{e₀:Expr}{es:List Expr}{t:TA}
def tRaise(X:Cx)(x:Str)(G:GK)(t:TA):TS:=λ_ σ H=>∃C,X.mg x=some (.ref C)/\XC X.K C/\t σ H λvs H1=>szl vs (G (.ref C) σ H1)
def je(B:Bod X)(hc:X.calm=true)(ha:PA (X.exg G) (e₀::es) t)(hg:Gl X x:=by rfl)(hdb:(x == ("__debug__":Str))=false:=by decide)(he:starEach (e₀::es) X.env=(false,eval e₀ X.env)::starEach es X.env:=by rfl)(hpl:(backTo cpos (starEach es X.env)).any (·.1)=false:=by rfl) :
  PS (X.exg G) (.Raise (some (.Call (.Name x np) (e₀::es) [] cpos)) none pos) (tRaise X x G t):=by
 intro p5 s σ H D I h;let⟨C,hm,xc,h⟩:=h;let⟨tl,N,nm,q,bs,hdct,sn,sub,ab,col,dd,k0,k1,k2,k3,k5,mN,hC,hN,hni,T⟩:=zi1 I.ok.mod.kin xc;refine wpAny_Raise_call_subT (C:=C) (nm:=nm) (q:=q) (N:=N) (bs:=bs) (bm:=tl) (hdct:=hdct) (sn:=sn) (sub:=sub) (ab:=ab) (col:=col) (dd:=dd) (k0:=k0) (k1:=k1) (k2:=k2) (k3:=k3) (k5:=k5)
  F.excBase_ValueError (mN:=mN) (T.hasType F.excBase_ValueError.hasBase) (I.ok.hd hc) (by rw[he];show(false||(backTo cpos (starEach es X.env)).any (·.1))=false;rw[hpl];rfl) hni (jO I hg hm ⟨rfl,?_⟩ hdb)
 have hA:=ha cpos p5 s σ H _ I h;rw[he]at hA ⊢;refine Calls.evalArgs_plain (thn hA λus s2 ⟨vs,H2,I2,r,g⟩=>?_);let⟨hl,g⟩:=zch g;exact⟨rfl,by rw[<- r.length];exact hl,I2.bk _ _ hC,hN.keeps I2.bk,T.keeps I2.bk,λh' a hm=>zcb B I2.unwish hm g⟩
end
noncomputable def zkT(a:Addr)(cls:Am):HO:=.ext λh=>∃o vs,h.get? a=some o/\o.cls=cls/\o.dict=none/\o.data=.fields vs
def Exc.obj{g h:Heap}{pn:A2}{a:Addr}(x:Exc g h H pn a cls):∃o vs,h.get? a=some o/\o.cls=cls/\o.dict=none/\o.data=.fields vs:=by
 let⟨oe,vs,_,_,_,h1,h2,h3,h4,_⟩:=x.ex;exact⟨oe,vs,h1,h2,h3,h4⟩
section
variable{X:Cx}{p5:A2}{σ:St}{H:Hp}{s:An}
def ZN{M:Model}{A:Ao}{E:A3}{a:Addr}{Q:Ag}(I:Inv X p5 σ H s)(x:Exc X.s₀.heap s.heap H (X.pn++p5) a cls)(hQ:∀s',Inv X p5 σ H s'->Exc X.s₀.heap s'.heap H (X.pn++p5) a cls->Q () s'):wpAny M A (setFlight (.ref a) none) Q E s:=by
 let⟨⟨oe,vs,T,oT,ts,h1,h2,h3,h4,h5,h6,h7,h8,h9,h10,h11,h12⟩,ga,Ha,pa⟩:=x;have h3s:3<ts.size:=(be.mp h9).1;refine wpAny_setFlight_none h1 h4 h5 h7 h8 h3s ?_;have hT:=bx (Obj.mapFields (·.setIfInBounds 3 Value.none)) h7 (cG (bE h8 _));have other:∀b,b≠T->(s.heap.update T (Obj.mapFields (·.setIfInBounds 3 Value.none))).get? b=s.heap.get? b:=λb hb=>bp _ _ (bb hb);refine hQ _ (I.stepx (ch:=[T]) (λb hb=>?_) (λb hb=>?_) (λb o _ hc q=>(other b (λz=>hc (by simp[z]))).trans q) (λb o hc q=>⟨o.slots,(other b (λz=>hc (by simp[z]))).trans q⟩) λb hb=>?_)
  ⟨⟨oe,vs,T,_,_,(other a (bb h6)).trans h1,h2,h3,h4,h5,h6,hT,bE h8 _,by simp[h3s],h10,h11,h12⟩,ga,Ha,pa⟩
 .obtain rfl:b=T:=by simpa using hb
  exact⟨h10,h11,h12⟩
 .obtain rfl:b=T:=by simpa using hb
  exact⟨oT,ts,h7,h8⟩
 .obtain rfl:b=T:=by simpa using hb
  exact⟨_,hT⟩
end
noncomputable abbrev Cx.suite(X:Cx)(pn:A2)(a:Addr):Cx:={X with pn:=pn,A:=X.A.mark (some (.ref a)),calm:=false,xe:=λ_ _=>False}
noncomputable abbrev Cx.pinned(X:Cx)(pn:A2):Cx:={X with pn:=pn}
section
variable{X:Cx}{p5:A2}{σ:St}{H:Hp}{s:An}
def Inv.topn(I:Inv X p5 σ H s):Inv (X.pinned (X.pn++p5)) [] σ H s :=
 ⟨⟨I.ok.mod,I.ok.kind,I.ok.glob,I.ok.blt,I.ok.above,I.ok.inj,I.ok.has,I.ok.cab,I.ok.hd,I.ok.frames,I.ok.stk,I.ok.exf,I.ok.bs,I.ok.bsz,I.ok.noex,I.ok.exfs,I.ok.funs,I.ok.frf⟩,
  I.os,I.bare,I.base,I.loc,I.cell,I.free,I.freeC,λp hp=>I.pin p (by rwa[cj]at hp),I.hok,I.len⟩
def Inv.ofpn(I:Inv (X.pinned (X.pn++p5)) [] σ H s):Inv X p5 σ H s :=
 ⟨⟨I.ok.mod,I.ok.kind,I.ok.glob,I.ok.blt,I.ok.above,I.ok.inj,I.ok.has,I.ok.cab,I.ok.hd,I.ok.frames,I.ok.stk,I.ok.exf,I.ok.bs,I.ok.bsz,I.ok.noex,I.ok.exfs,I.ok.funs,I.ok.frf⟩,
  I.os,I.bare,I.base,I.loc,I.cell,I.free,I.freeC,λp hp=>I.pin p (by rw[cj];exact hp),I.hok,I.len⟩
def Inv.tosuite{pn:A2}{a:Addr}(I:Inv (X.pinned pn) [] σ H s):Inv (X.suite pn a) [] σ H s :=
 ⟨⟨I.ok.mod,I.ok.kind,I.ok.glob,I.ok.blt,I.ok.above,I.ok.inj,I.ok.has,I.ok.cab,λh=>Bool.noConfusion h,I.ok.frames,I.ok.stk,I.ok.exf,I.ok.bs,I.ok.bsz,I.ok.noex,I.ok.exfs,I.ok.funs,I.ok.frf⟩,
  I.os,I.bare,I.base,I.loc,I.cell,I.free,I.freeC,I.pin,I.hok,I.len⟩
def Inv.ofsuite{pn:A2}{a:Addr}(hd:X.calm=true->X.A.handled=none)(I:Inv (X.suite pn a) [] σ H s):Inv (X.pinned pn) [] σ H s :=
 ⟨⟨I.ok.mod,I.ok.kind,I.ok.glob,I.ok.blt,I.ok.above,I.ok.inj,I.ok.has,I.ok.cab,hd,I.ok.frames,I.ok.stk,I.ok.exf,I.ok.bs,I.ok.bsz,I.ok.noex,I.ok.exfs,I.ok.funs,I.ok.frf⟩,
  I.os,I.bare,I.base,I.loc,I.cell,I.free,I.freeC,I.pin,I.hok,I.len⟩
end
def xQ{M:Model}{A:Ao}{E:A3}{e C D:Addr}{b:Bool}{Q:Bool->Shared->Prop}(X:K.In s.heap)(he:s.heap.get? e=some oe)(hcls:oe.cls=.ref C)(k1:kitCls K (.ref C) (.ref D)=some b)(k2:subIn K (.ref D) (.type "BaseException")=some true)(hq:Q b s):wpAny M A (excMatches (.ref e) (.ref D)) Q E s:=by
 let⟨L1,L2,L3⟩:=PySem.W.kit_cls (M:=M) X k1;have L4:=ik (M:=M) X k2;have f:=tc_notTuple;let⟨hp,g,d,tk,os⟩:=s;unfold excMatches
 repeat (first|(with_reducible refine wpAny_loadPart_at he ?_;rw[hcls])|with_reducible refine L1.at ?_|with_reducible refine L2.at ?_|with_reducible refine L3.at ?_|with_reducible refine L4.at ?_|wp_step)
 cases b
 .wp_walk
  exact hq
 .wp_walk
  exact hq
section
variable{X:Cx}{G:GK}{x n:Str}{np pos hpos:Pos}{i:Nat}{body suite:List Stmt}{b₀:Stmt}{tb:List (Addr×Obj)->GK->TS}{th:List (Addr×Obj)->Addr->TS}
end
structure FA(K:A0)(mg:A4)(x:Str)(st:Stmt)(ps:A8):Prop where
 ex:∃f fd,Fun K x x st f fd/\mg x=some (.ref f)/\Binds K fd ps []
def FA.cal{st:Stmt}{k:Nat}(h:FA K mg x st ps)(ok:∀{f fd},Fun K x x st f fd->FnOk P w K mg base (CXr P w) k f fd ps sp) :
  Cal P w K mg base x k ps [] sp:=by
 let⟨f,fd,F,m,b⟩:=h.ex;exact⟨f,fd,[],ok F,m,F.kp,b,.nil⟩
def fa_mk{h:Heap}{st:Stmt}{f:Addr}{oc:Am}{od an:Aa}{osl:Ae}{kV doc pm cdv ct:Am}(X:K.In h)(G:h.Ns mainGlobals mg)(a:nsIn K mainGlobals x=some (some (.ref f)))(l:K.lookup f=some ⟨oc,od,.func (fnOf x x (qx st) (qp st) (zg st) .none kV doc pm an cdv ct),osl⟩)(c:codeIn K cdv x=true)(k:keepIn K (.ref f)=true)(hb:∀(kV doc pm:Am)(an:Aa)(cdv ct:Am)(us:A7),us.length=ps.length->bindArgs (fnOf x x (qx st) (qp st) (zg st) .none kV doc pm an cdv ct) ⟨us,[]⟩=pure (ps.zip us)):FA K mg x st ps :=
 ⟨f,_,wM l c k,mg_of X G a,(wM l c k).binds hb⟩
def zfh{e:Am}{s':An}(h:CXr P w [] H s (λ_ _ _=>False) e s'):False:=by
 let⟨_,_,_,_,_,_,_,_,_,z⟩:=h;exact z
end L2
namespace L2
open PySem PySem.Spec PySem.Calls PyProof.Rows
variable{K:A0}{C:Addr}{st:Stmt}{ps:A8}
structure XI(K:A0)(C:Addr):Prop where
 ga:findIn K (.ref C) "__getattribute__"=some (some (.builtin "BaseException.__getattribute__"))
 gt:findIn K (.ref C) "__getattr__"=some none
 cl:findIn K (.ref C) "__class__"=some (some (.builtin "object.__class__"))
 hd:hasDictIn K C=true
 gn:specialIn K (.builtin "object.__class__") "__get__"=some (some (.builtin "getset_descriptor.__get__"))
 tk:takesIn K (.builtin "object.__class__")=some true
 mo:mroIn K C (.type "object")=some true
 mb:subIn K (.ref C) (.type "BaseException")=some true
section
variable{prog:Af}{w:World}{A:Ao}{E:A3}{s:An}{K:A0}{a C:Addr}{o:Obj}{vs:Ac}
def zbS{hp:Heap}(hx:hp.get? a=some o)(hc:o.cls=.ref C)(hd:o.dict=none)(hv:o.data=.fields vs):PySem.W.InstAt hp a o C none:=by
 refine⟨hx,hc,?_,?_⟩
 .obtain⟨c,d,dt,sl⟩:=o;simp only at hv;subst hv
  rfl
 .rw[hd]
  trivial
def zfc{Q:Option Value->Shared->Prop}(X:K.In s.heap)(f:XI K C)(hx:s.heap.get? a=some o)(hc:o.cls=.ref C)(hd:o.dict=none)(hv:o.data=.fields vs)(h:Q (some (.ref C)) {s with toks:=s.toks+1}):wpAny (model prog w) A (getAttr? (.ref a) "__class__") Q E s:=by
 have I:=zbS hx hc hd hv;have hf:PySem.W.findObj K C none "__class__"=some (.bind (.builtin "getset_descriptor.__get__") (.builtin "object.__class__")):=by
   let⟨cd,hcd,_⟩:=iC f.hd;simp[PySem.W.findObj,hcd,f.cl,f.gn,f.tk]
 let⟨hh,g,d,t,os⟩:=s;have T0:=I.type (M:=model prog w);have T1:=looks_findIn (M:=model prog w) X f.ga;have T2:=PySem.W.looks_find (M:=model prog w) X I hf;have T3:=looks_findIn (M:=model prog w) X f.gt;have T4:=ik (M:=model prog w) X f.mb;have f3:=F.attr_ValueError.ga.bind (.ref a);unfold getAttr? getAttrBy? getAttrBy;refine af (wpAny_mkText (af (iB (cE (af (T0.at (af (T1.at ?_))))))));dsimp only;have nga:(onTheHeap (Value.ref C)&&Value.builtin "BaseException.__getattribute__" == Value.builtin "object.__getattribute__")=false:=by
  have z:(Value.builtin "BaseException.__getattribute__" == Value.builtin "object.__getattribute__")=false:=by decide+kernel
  rw[z,cg]
 rw[nga,ak aE];unfold getAttrByItsOwn
 repeat (any_goals (first|assumption|with_reducible refine T0.at ?_|with_reducible refine T3.at ?_|with_reducible refine T1.at ?_|wp_step))
 refine codeAny_call_builtin F.attr_ValueError.ga.plain F.entry_bexc_ga ?_;have hk:builtinKind "BaseException.__getattribute__"=some .slot:=by decide+kernel
 have hsp:splitId "BaseException.__getattribute__"=some ("BaseException","__getattribute__"):=by decide+kernel
 have hav:=F.args_bexc_ga (.ref a) (Value.str (Str.ofString "__class__") t);simp only[checkBuiltinCall,hk,hsp];refine af ?_;unfold isInstance
 repeat (first|with_reducible refine T2.at ?_|with_reducible refine T0.at ?_|with_reducible refine T4.at ?_|wp_step)
 refine PySem.W.class_get (s:=⟨hh,g,d,t+1,os⟩) (ox:=o) (od:=none) X I f.mo ?_;refine ap ?_;refine PySem.W.handed_on rfl ?_;exact ap h
def zgI{vs:Ac}(f:XI K C):PySem.W.KitX K (.ref a) (.ref C) (λh=>∃o vs,h.get? a=some o/\o.cls=.ref C/\o.dict=none/\o.data=.fields vs) where
 ty:=λM h _ ⟨o,vs,e,c,d,v⟩=>(zbS e c d v).type
 it:=λ_ _ X _=>by
  let⟨cd,hcd,_⟩:=iC f.hd;unfold PySem.W.clsIn at hcd
  split at hcd
  .rename_i c' d' cd' sl' ho;intro A' Q' E' s' k q;unfold isType loadHead;exact af (wpAny_loadPart (k _ _ (X _ _ ho)) (ap q))
  .cases hcd
 ne:=λh tp dd pi n sl X htp=>by
  let⟨cd,hcd,_⟩:=iC f.hd;refine Bool.eq_false_iff.mpr λq=>?_;have e:C=tp:=Value.ref.inj (bM.mp q);subst e;unfold PySem.W.clsIn at hcd
  split at hcd
  .rename_i ho;have z:=(X _ _ ho).symm.trans htp;cases z
  .cases hcd
 ca:=λX ⟨o,vs,e,c,d,v⟩ k=>zfc X f e c d v k
end
inductive TyX(K:A0)(H:Hp):V->Value->Prop where
 |old {x:V} {t:Am} (h:TyOf K H x t):TyX K H x t
 |exc {a C:Addr} (h:H a=some (zkT a (.ref C))) (f:XI K C):TyX K H (.ref a) (.ref C)
noncomputable def zd6:List V->Option A7
 |[]=>some []
 | c::r=>match zj1 c,zd6 r with
  |some u,some us=>some (u::us)
  |_,_=>none
def zd7{c:V}{u v:Am}(h:zj1 c=some u)(r:RelV c v):v=u:=by
 cases c with
 |ty n=>cases r;exact aF h
 |ref a=>cases r;exact aF h
 |_=>cases h
theorem zbX:∀{cs:Ap}{us vs:A7},zd6 cs=some us->Vals cs vs->vs=us
 |[],_,_,h,.nil=>aF h
 |c::r,us,v::vs,h,.cons rc rr=>by
  unfold zd6 at h
  split at h
  .rename_i u us' h1 h2;cases h;rw[zd7 h1 rc,zbX h2 rr]
  .cases h
theorem zjF{X:Cx}{p5:A2}{σ:St}{H:Hp}{s:An}{x:V}{u t:Am}(I:Inv X p5 σ H s)(rx:RelV x u)(ty:TyX X.K H x t) :
  ∃Hx:Heap->Prop,PySem.W.KitX X.K u t Hx/\Hx s.heap/\u≠.builtin "__main__.__loader__#opaque":=by
 cases ty with
 | @exc a C ea f =>
  cases (show u=Value.ref a from rx);let⟨p,_⟩:=(show ObjOk X.prog X.w H s.heap a (zkT a (.ref C))from I.hok a _ ea);exact⟨_,zgI (vs:=#[]) f,p,λz=>nomatch z⟩
 |old ty =>
  cases ty with
  |non=>cases (show u=Value.none from rx);exact⟨_,PySem.W.kitx_none,True.intro,λz=>nomatch z⟩
  |bl y=>cases (show u=Value.bool y from rx);exact⟨_,PySem.W.kitx_bool,True.intro,λz=>nomatch z⟩
  |int i=>let⟨t,q⟩:=(show ∃t,u=Value.int i t from rx);cases q;exact⟨_,PySem.W.kitx_int,True.intro,λz=>nomatch z⟩
  |str y=>let⟨t,q⟩:=(show ∃t,u=Value.str y t from rx);cases q;exact⟨_,PySem.W.kitx_str,True.intro,λz=>nomatch z⟩
  |flt y=>let⟨t,q⟩:=(show ∃t,u=Value.float y t from rx);cases q;exact⟨_,PySem.W.kitx_float,True.intro,λz=>nomatch z⟩
  | @lst a xs ea =>
   cases (show u=Value.ref a from rx);let⟨_,_,n,_,h1⟩:=(show ObjOk X.prog X.w H s.heap a (.lst xs)from I.hok a _ ea);exact⟨_,PySem.W.kitx_list,⟨_,h1,rfl⟩,λz=>nomatch z⟩
  | @frz a ob xs ea =>
   cases (show u=Value.ref a from rx);let⟨_,_,_,n,_,h1⟩:=(show ObjOk X.prog X.w H s.heap a (.frz ob (.lst xs))from I.hok a _ ea);exact⟨_,PySem.W.kitx_list,⟨_,h1,rfl⟩,λz=>nomatch z⟩
  | @tup a xs ea =>
   cases (show u=Value.ref a from rx);let⟨_,_,_,p⟩:=(show ObjOk X.prog X.w H s.heap a (.tup xs)from I.hok a _ ea);let⟨o,h1,h2,_⟩:=p;exact⟨_,PySem.W.kitx_tuple,⟨o,h1,h2⟩,λz=>nomatch z⟩
  | @dK a ph ea =>
   cases (show u=Value.ref a from rx);let⟨_,_,vs,_,p⟩:=(show ObjOk X.prog X.w H s.heap a (.dK ph)from I.hok a _ ea);let⟨o,es,ep,h1,h2,_⟩:=p;exact⟨_,PySem.W.kitx_dict,⟨o,h1,h2.1⟩,λz=>nomatch z⟩
  | @dT a ph ea =>
   cases (show u=Value.ref a from rx);let⟨_,_,xs,_,o,es,ep,h1,h2,_⟩:=(show ObjOk X.prog X.w H s.heap a (.dT ph)from I.hok a _ ea);exact⟨_,PySem.W.kitx_dict,⟨o,h1,h2.1⟩,λz=>nomatch z⟩
  | @ins a C dx fs ea cl ha hn htk hm =>
   cases (show u=Value.ref a from rx);let⟨mA,O,_⟩:=JH I.hok ea;let⟨od,J,_⟩:=O.look;exact⟨_,PySem.W.kitx_own (cl.get _) cl.hd ha hn htk hm,J,λz=>nomatch z⟩
def zeI(K:A0):List V->Hp->VK->Prop:=λxs H Q=>∃x c t b,xs=[x,c]/\TyX K H x t/\((∃u,zj1 c=some u/\kitOne K t u=some b)\/(∃p cs us,c=.ref p/\H p=some (.tup cs)/\zd6 cs=some us/\PySem.W.kitAny K t us=some b))/\Q (.bl b) H
def xE{X:Cx}:CallR X (.builtin "isinstance") (zeI X.K):=by
 intro p5 s σ H xs us Q I r h;let⟨x,c,t,b,rfl,ty,hc,q⟩:=h;let⟨v,v2,rfl,rx,rc⟩:=r.two;let⟨Hx,Z,p,nx⟩:=zjF I rx ty;rcases hc with⟨u,hu,e⟩|⟨pt,cs,us,rfl,hp,hu,e⟩
 .obtain rfl:=zd7 hu rc;exact PySem.W.kia_one Z I.kIn p e nx λtk=>⟨.bl b,H,I.tok tk,rfl,q⟩
 .cases rc;let⟨_,pi,rv,o,h1,h2,n,h3⟩:=(show ObjOk X.prog X.w H s.heap pt (.tup cs)from I.hok pt _ hp);obtain rfl:=zbX hu rv;let⟨cl,dd,dt,sl⟩:=o;simp only at h2 h3;subst h2 h3;exact PySem.W.kia_tup Z I.kIn p h1 e nx λtk=>⟨.bl b,H,I.tok tk,rfl,q⟩
def kitCls_of{t:Am}{D:Addr}{b:Bool}(h1:hasDictIn K D=true)(h2:PySem.W.typeIn K (.ref D)=some (.type "type"))(h3:subIn K t (.ref D)=some b):kitCls K t (.ref D)=some b:=by
 let⟨cd,hcd,_⟩:=iC h1;simp[kitCls,hcd,h2,h3]
structure FK(K:A0)(C:Addr)(qual:Str)(st:Stmt)(ps:A8):Prop where
 ex:∃f fd,Fun K "__init__" qual st f fd/\Mk K C f/\Binds K fd ps []
structure FM(K:A0)(C:Addr)(m qual:Str)(st:Stmt)(ps:A8):Prop where
 ex:∃f fd,Fun K m qual st f fd/\Meth K C m f/\Binds K fd ps []
def FK.cal{P:Af}{w:World}{mg:A4}{base:Heap}{x:Str}{qual:Str}{k:Nat}{sp:Sp}(h:FK K C qual st ps)(gl:mg x=some (.ref C))(ok:∀{f fd},Fun K "__init__" qual st f fd->FnOk P w K mg base (CXr P w) k f fd ps sp):KCal P w K mg base x C k ps [] sp:=by
 let⟨f,fd,F,m,b⟩:=h.ex;exact⟨gl,f,fd,[],ok F,m,b,.nil⟩
def FM.cal{P:Af}{w:World}{mg:A4}{base:Heap}{m qual:Str}{k:Nat}{sp:Sp}(h:FM K C m qual st ps)(cl:Cls K C)(ok:∀{f fd},Fun K m qual st f fd->FnOk P w K mg base (CXr P w) k f fd ps sp):MCal P w K mg base C m k ps [] sp:=by
 let⟨f,fd,F,mm,b⟩:=h.ex;exact⟨cl,f,fd,[],ok F,mm,b,.nil⟩
def fk_mk{qual:Str}{f:Addr}{oc:Am}{od an:Aa}{osl:Ae}{kV doc pm cdv ct:Am}(mk:makesIn K C=true)(kc:keepIn K (.ref C)=true)(a:findIn K (.ref C) "__init__"=some (some (.ref f)))(i:isFn K (.ref f)=true)(l:K.lookup f=some ⟨oc,od,.func (fnOf "__init__" qual (qx st) (qp st) (zg st) .none kV doc pm an cdv ct),osl⟩)(c:codeIn K cdv qual=true)(k:keepIn K (.ref f)=true)(hb:∀(kV doc pm:Am)(an:Aa)(cdv ct:Am)(us:A7),us.length=ps.length->bindArgs (fnOf "__init__" qual (qx st) (qp st) (zg st) .none kV doc pm an cdv ct) ⟨us,[]⟩=pure (ps.zip us)):FK K C qual st ps :=
 ⟨f,_,wM l c k,⟨mk,a,i,kc⟩,(wM l c k).binds hb⟩
def fm_mk{m qual:Str}{f:Addr}{oc:Am}{od an:Aa}{osl:Ae}{kV doc pm cdv ct:Am}(a:findIn K (.ref C) m=some (some (.ref f)))(i:isFn K (.ref f)=true)(l:K.lookup f=some ⟨oc,od,.func (fnOf m qual (qx st) (qp st) (zg st) .none kV doc pm an cdv ct),osl⟩)(c:codeIn K cdv qual=true)(k:keepIn K (.ref f)=true)(hb:∀(kV doc pm:Am)(an:Aa)(cdv ct:Am)(us:A7),us.length=ps.length->bindArgs (fnOf m qual (qx st) (qp st) (zg st) .none kV doc pm an cdv ct) ⟨us,[]⟩=pure (ps.zip us)):FM K C m qual st ps :=
 ⟨f,_,wM l c k,⟨a,i,k⟩,(wM l c k).binds hb⟩
structure WI(K:A0)(C:Addr):Prop where
 c:findIn K (.ref C) "__class__"=some (some (.builtin "object.__class__"))
 m:mroIn K C (.type "object")=some true
 g:specialIn K (.builtin "object.__class__") "__get__"=some (some (.builtin "getset_descriptor.__get__"))
 t:takesIn K (.builtin "object.__class__")=some true
def WI.ty{H:Hp}{a C dx:Addr}{fs:Ar}(f:WI K C)(cl:Cls K C)(h:H a=some (.ins C dx fs)):TyX K H (.ref a) (.ref C):=.old (.ins h cl f.c f.g f.t f.m)
section
variable{prog:Af}{w:World}{A:Ao}{E:A3}{s:An}
theorem zbb{ns:A6}:∀k,k<=ns.length->preSum (λi=>ns[i]?.getD 0) k=(ns.take k).sum
 |0,_=>by simp[preSum]
 |k+1,h=>by
  have h2:k<ns.length:=h;rw[preSum,zbb k (by lia),fN,List.sum_append,ac h2];simp
theorem JL:∀{ns:A6}{pi:A7},Vals (ns.map V.int) pi->∀(i:Nat)(v:Am),pi[i]?=some v->∃t,v=.int (ns[i]?.getD 0) t
 |[],_,.nil,i,v,h=>by simp at h
 |n::ns,_,.cons (b:=y) ⟨t,e⟩ r,0,v,h=>by
  have:y=v:=by simpa using h
  exact⟨t,by rw[<- this,e];rfl⟩
 |n::ns,_,.cons _ r,i+1,v,h=>by
  let⟨t,e⟩:=JL r i v (by simpa using h);exact⟨t,by simpa using e⟩
end
section
variable{X:Cx}{a e:Expr}{ta:TA}{te:TE}{pos p kp:Pos}
def jz:SlR X (zji X.K):=zhD
def Zn:CallR X (.type "list") (λxs H Q=>∃p ys,xs=[.ref p]/\(SqL X.K H p ys\/SqT X.K H p ys)/\∀l,H l=none->Q (.ref l) (upd H l (.lst ys))):=zak
end
section
variable{X:Cx}{v v1 v2:Expr}{es:List Expr}{te:TE}{pos p:Pos}
def zj2:CallR X (.type "str") (λxs H Q=>lq xs λv=>iq v λi=>i.natAbs.log2<1920/\Q (.str (toString i)) H):=λp5 s σ H xs us Q I r h=>zaj p5 s σ H xs us Q I r (zgA h)
def zkm(t u:TS):TS:=λD σ H=>∃M:St->Hp->Prop,t {D with nx:=M} σ H/\∀σ' H',M σ' H'->u D σ' H'
def qF{st:Stmt}{rest:List Stmt}{t u:TS}(h1:PS X st t)(h2:PSs X rest u):PSs X (st::rest) (zkm t u):=by
 intro p5 s σ H D I ⟨M,ht,hu⟩;refine fS (thn (h1 p5 s σ H _ I ht) λf s1 q=>?_);cases f with
 |next=>exact let⟨σ',H',I',q⟩:=q;h2 p5 s1 σ' H' D I' (hu σ' H' q)
 |_=>exact q
def ziL(t u:TS):TS:=λD σ H=>tSeq t u D σ H
def zh{st:Stmt}{rest:List Stmt}{t u:TS}(h1:PS X st t)(h2:PSs X rest u):PSs X (st::rest) (ziL t u):=show PSs X (st::rest) (tSeq t u)from zi h1 h2
structure Nx(N:St->Hp->Prop)(u:TS)(D:Ends):Prop where
 h:∀σ H,u D σ H->N σ H
def nxt{t u:TS}{D:Ends}{σ:St}{H:Hp}(k:∀N,Nx N u D->t {D with nx:=N} σ H):ziL t u D σ H:=k (u D) ⟨λ_ _ h=>h⟩
def useN{N:St->Hp->Prop}{u:TS}{D:Ends}{σ:St}{H:Hp}(n:Nx N u D)(q:u D σ H):N σ H:=n.h σ H q
def cut{t u:TS}{D:Ends}{σ:St}{H:Hp}(M:St->Hp->Prop)(h1:t {D with nx:=M} σ H)(h2:∀σ' H',M σ' H'->u D σ' H'):zkm t u D σ H:=⟨M,h1,h2⟩
end
section
variable{X:Cx}{k:Nat}{x m:Str}{p pos apos:Pos}{e o:Expr}{es:List Expr}{ta:TE}{t:TA}
def passF:zdk (CXr X.prog X.w) X (λ_ _ _=>False):=λ_ _ _ _ _ _ _ h=>let⟨_,_,_,_,_,_,_,_,_,z⟩:=h;z.elim
def tClN(X:Cx)(k:Nat)(x:Str)(t:TA):TE:=λσ H Q=>∃ps dvs sp,Cal X.prog X.w X.K X.mg X.base x k ps dvs sp/\t σ H λvs H1=>sp (vs++dvs) H1 Q (λ_ _ _=>False)
def vI(hr:Room k X.A)(ha:PA X (e::es) t)(hg:Gl X x:=by rfl)(hdb:(x == ("__debug__":Str))=false:=by decide)(he:starEach (e::es) X.env=(false,eval e X.env)::starEach es X.env:=by rfl)(hpl:(backTo pos (starEach es X.env)).any (·.1)=false:=by rfl) :
  PE X (.Call (.Name x p) (e::es) [] pos) (tClN X k x t):=by
 intro p5 s σ H Q I h;let⟨ps,dvs,sp,⟨f,fd,ds,F,hm,hk,hb,hd⟩,h⟩:=h;refine bP (jO I hg hm ?_ hdb);refine dX (h₀:=X.base) I.ok.mod.kin hk (vo (ha pos p5 s σ H _ I h) λus s1 vs H1 I1 r q=>⟨I1.kIn,?_⟩) he hpl;exact zcz F hr hb hd passF I1 r q
def tMkN(X:Cx)(k:Nat)(x:Str)(t:TA):TE:=λσ H Q=>∃C ps dvs sp,KCal X.prog X.w X.K X.mg X.base x C k ps dvs sp/\t σ H λvs H1=>∀y dx,H1 y=none->H1 dx=none->dx≠y ->
 sp (.ref y::(vs++dvs)) (upd (upd H1 dx (.own y)) y (.ins C dx [])) (λv H2=>v=.non/\Q (.ref y) H2) (λ_ _ _=>False)
def zjq(hr:Room (k+1) X.A)(ha:PA X (e::es) t)(hg:Gl X x:=by rfl)(hdb:(x == ("__debug__":Str))=false:=by decide)(he:starEach (e::es) X.env=(false,eval e X.env)::starEach es X.env:=by rfl)(hpl:(backTo pos (starEach es X.env)).any (·.1)=false:=by rfl) :
  PE X (.Call (.Name x p) (e::es) [] pos) (tMkN X k x t):=by
 intro p5 s σ H Q I h;let⟨C,ps,dvs,sp,⟨hm,f,fd,ds,F,M,hb,hd⟩,h⟩:=h;refine bP (jO I hg hm ?_ hdb);refine dX (h₀:=X.base) I.ok.mod.kin M.kp (vo (ha pos p5 s σ H _ I h) λus s1 vs H1 I1 r q=>⟨I1.kIn,?_⟩) he hpl;exact zf1 M F hr hb hd passF I1 r q
def tMthN(X:Cx)(k:Nat)(m:Str)(ta:TE)(t:TA):TE:=λσ H Q=>ta σ H λy H1=>∃a C dx fs ps dvs sp,y=.ref a/\H1 a=some (.ins C dx fs)/\fs.lookup m=none /\
 MCal X.prog X.w X.K X.mg X.base C m k ps dvs sp/\t σ H1 λvs H2=>sp (.ref a::(vs++dvs)) H2 Q (λ_ _ _=>False)
def zhV{pl:Sem Bool}(hr:Room k X.A)(he:PE X o ta)(ha:PA X (e::es) t)(hst:starEach (e::es) X.env=(false,eval e X.env)::starEach es X.env:=by rfl)(hpl:(backTo pos (starEach es X.env)).any (·.1)=false:=by rfl)(ht:eval (.Call (.Attribute o m apos) (e::es) [] pos) X.env=(do
   let ov <- eval o X.env
   standAt apos.atName
   let(f,first) <- holding [ov] (getMethod ov m pl)
   callWith pos f first (backTo pos (starEach (e::es) X.env)) (backToKw pos (keywordEach [] X.env))):=by rfl) :
  PE X (.Call (.Attribute o m apos) (e::es) [] pos) (tMthN X k m ta t):=by
 intro p5 s σ H Q I h;refine eD (pl:=pl) (thn (he p5 s σ H _ I h) λu s1 hz=>?_) ht;let⟨x,H1,I1,rx,a,C,dx,fs,ps,dvs,sp,ex,ea,l,⟨c,f,fd,ds,F,hm,hb,hd⟩,q⟩:=hz;subst ex;obtain rfl:u=Value.ref a:=rx;refine wL I1 ea c hm l ?_;refine dX (first:=[.ref a]) (h₀:=X.base) I.ok.mod.kin hm.kp (vo (ha pos p5 s1 σ H1 _ I1 q) λus s2 vs H2 I2 r q2=>⟨I2.kIn,?_⟩) hst hpl;exact zcz (us:=.ref a::us) (vs:=.ref a::vs) F hr hb hd passF I2 (.cons rfl r) q2
def zgi{pl:Sem Bool}(hr:Room k X.A)(he:PE X o ta)(ht:eval (.Call (.Attribute o m apos) [] [] pos) X.env=(do
   let ov <- eval o X.env
   standAt apos.atName
   let(f,first) <- holding [ov] (getMethod ov m pl)
   callWith pos f first (backTo pos (starEach [] X.env)) (backToKw pos (keywordEach [] X.env))):=by rfl) :
  PE X (.Call (.Attribute o m apos) [] [] pos) (tMthN X k m ta tNil):=by
 intro p5 s σ H Q I h;refine eD (pl:=pl) (thn (he p5 s σ H _ I h) λu s1 hz=>?_) ht;let⟨x,H1,I1,rx,a,C,dx,fs,ps,dvs,sp,ex,ea,l,⟨c,f,fd,ds,F,hm,hb,hd⟩,q⟩:=hz;subst ex;obtain rfl:u=Value.ref a:=rx;refine wL I1 ea c hm l ?_;exact io (first:=[.ref a]) I1.kIn hm.kp (zcz (us:=[.ref a]) (vs:=[.ref a]) F hr hb hd passF I1 (.cons rfl .nil) q)
end
noncomputable def jm(cells:List (Str×Addr)):List (Str×NameKind)->List (Str×Addr)->List (Str×Addr)
 |[],cs=>cs
 |(n,k)::r,cs=>if k=.free then jm cells r ((n,(cells.lookup n).getD 0)::cs)else jm cells r cs
def zfj(cells:List (Str×Addr))(ns:List (Str×NameKind)):Prop:=∀y∈ns,y.2=.free->∃c,cells.lookup y.1=some c
def Zy{scope:Scope}{env:Env}(h:zfj env.cells scope.names):closureFor scope env=pure (jm env.cells scope.names []):=by
 simp only[closureFor];have key:∀(ns:List (Str×NameKind))(cs:List (Str×Addr)),zfj env.cells ns ->
   (forIn ns cs λx r=>if (x.2 == NameKind.free)=true then do let c <- cellOf env x.1;pure (ForInStep.yield ((x.1,c)::r))else pure (ForInStep.yield r):Sem (List (Str×Addr)))=pure (jm env.cells ns cs):=by
  intro ns
  induction ns with
  |nil=>intro cs _;rfl
  |cons y r ih =>
   intro cs hc;let⟨n,k⟩:=y;have hr:zfj env.cells r:=λz hz=>hc z (ay _ hz);rw[gP];by_cases hk:k=.free
   .subst hk;let⟨c,e⟩:=hc (n,.free) aU rfl;have e':cellOf env n=pure c:=by unfold cellOf;simp only at e;rw[e]
    simp only[dR,dM,e',pure_bind];rw[ih _ hr];simp only at e;simp[jm,e]
   .have hb:(k == NameKind.free)=false:=by simpa using hk
    simp only[hb,aW,br,pure_bind];rw[ih _ hr];simp[jm,hk]
 have:=key scope.names [] h
 first
  |exact this
  |(simp only[bind_pure]at *;exact this)
theorem ZQ{cells:List (Str×Addr)}{x:Str}{c:Addr}:∀{ns:List (Str×NameKind)}{cs:List (Str×Addr)},zfj cells ns->(∀c,cs.lookup x=some c->cells.lookup x=some c)->(jm cells ns cs).lookup x=some c->cells.lookup x=some c
 |[],_,_,hs,h=>hs c h
 |(n,k)::r,cs,hc,hs,h=>by
  have hr:zfj cells r:=λz hz=>hc z (ay _ hz);unfold jm at h
  split at h
  .rename_i hk;let⟨d,e⟩:=hc (n,k) aU hk;refine ZQ hr (λc' hc'=>?_) h;rw[da]at hc'
   split at hc'
   .rename_i hx;have hx:x=n:=by simpa using hx
    subst hx;simp only at e;rw[e]at hc' ⊢;exact hc'
   .exact hs c' hc'
  .exact ZQ hr hs h
theorem vX{cells:List (Str×Addr)}{x:Str}:∀{ns:List (Str×NameKind)}{cs:List (Str×Addr)},(∃c,cs.lookup x=some c)->∃c,(jm cells ns cs).lookup x=some c
 |[],_,h=>h
 |(n,k)::r,cs,h=>by
  unfold jm
  split
  .refine vX ?_;rw[da]
   split
   .exact⟨_,rfl⟩
   .exact h
  .exact vX h
theorem ZP{cells:List (Str×Addr)}{x:Str}:∀{ns:List (Str×NameKind)}{cs:List (Str×Addr)},(x,NameKind.free)∈ns->∃c,(jm cells ns cs).lookup x=some c
 |[],_,h=>by simp at h
 |(n,k)::r,cs,h=>by
  unfold jm;rcases av.mp h with h|h
  .cases h;rw[ao rfl];exact vX ⟨(cells.lookup x).getD 0,by rw[da];simp⟩
  .split<;>exact ZP h
noncomputable def zf5(scope osc:Scope):Scope :=
 {scope with names:=scope.names.map λ(n,k)=>if (k == .free&&osc.kind == .function&&osc.names.lookup n == some .cell)then(n,.cell)else(n,k)}
def zcF{scope osc:Scope}{x:Str}(hcell:∀y∈scope.names,y.2≠.cell)(h:(zf5 scope osc).names.lookup x=some .cell\/(zf5 scope osc).names.lookup x=some .free):(x,NameKind.free)∈scope.names:=by
 have key:∀k,(k=.cell\/k=.free)->(zf5 scope osc).names.lookup x=some k->(x,NameKind.free)∈scope.names:=λk hk hl=>by
  have hm:=bT hl;let⟨⟨n,k'⟩,hm',e⟩:=aJ.mp hm;simp only at e
  split at e
  .rename_i hc;simp only[ci,bM]at hc;cases e;rw[<- hc.1.1];exact hm'
  .cases e;rcases hk with rfl|rfl
   .exact absurd rfl (hcell _ hm')
   .exact hm'
 rcases h with h|h
 .exact key _ (.inl rfl) h
 .exact key _ (.inr rfl) h
noncomputable def cxC(X:Cx)(N:A8)(scope:Scope)(s:An)(H:Hp)(fp:Ab)(p5:A2):Cx where
 prog:=X.prog
 w:=X.w
 K:=X.K
 mg:=X.mg
 base:=X.base
 A:=X.A
 N:=N
 s₀:=s
 H₀:=H
 env:=compEnvC scope (jm X.env.cells scope.names []) s.heap.objs.size X.env
 outer:=X.stack
 stack:=X.stack
 ex:=fp
 fn:=λ_=>false
 calm:=X.calm
 pn:=X.pn++p5
 xe:=λ_ _=>False
noncomputable def stC(nv:Nat)(caps:Aj)(σ:St):St:=List.replicate nv none++caps.map λk=>(σ[k]?).getD none
structure CompOk(osc scope:Scope)(ON:A8)(vars:A8)(caps:Aj):Prop where
 kind:scope.kind=.function
 cell:∀y∈scope.names,y.2≠.cell
 loc:∀y∈scope.names,y.2=.local->scope.names.lookup y.1=some .local
 free:∀y∈scope.names,y.2=.free->osc.names.lookup y.1=some .cell\/osc.names.lookup y.1=some .free
 caps:∀k∈caps,k<ON.length/\scope.names.lookup (ON.getD k Str.empty)=some .free
noncomputable def zd5(osc scope:Scope)(ON:A8)(caps:Aj):Bool :=
 scope.kind == .function&&scope.names.all (λy=>y.2 != .cell)&&scope.names.all (λy=>y.2 != .local||scope.names.lookup y.1 == some .local) &&
 scope.names.all (λy=>y.2 != .free||(osc.names.lookup y.1 == some .cell||osc.names.lookup y.1 == some .free))&&caps.all λk=>decide (k<ON.length)&&scope.names.lookup (ON.getD k Str.empty) == some .free
def zbV{osc scope:Scope}{ON vars:A8}{caps:Aj}(h:zd5 osc scope ON caps=true):CompOk osc scope ON vars caps:=by
 simp only[zd5,ci,cJ,bM,bne_iff_ne,Bool.or_eq_true,bR]at h;let⟨⟨⟨⟨h1,h2⟩,h3⟩,h4⟩,h5⟩:=h;refine⟨h1,h2,λy hy e=>(h3 y hy).resolve_left (λz=>z e),λy hy e=>(h4 y hy).resolve_left (λz=>z e),λk hk=>h5 k hk⟩
theorem Xb{osc:Scope}{x:Str}:∀{ns:List (Str×NameKind)},ns.lookup x=some .free ->
  (ns.map λ(n,k)=>if (k == NameKind.free&&osc.kind == .function&&osc.names.lookup n == some .cell)then(n,NameKind.cell)else(n,k)).lookup x=some .cell \/
  (ns.map λ(n,k)=>if (k == NameKind.free&&osc.kind == .function&&osc.names.lookup n == some .cell)then(n,NameKind.cell)else(n,k)).lookup x=some .free
 |[],h=>by simp at h
 |(n,k)::r,h=>by
  have ih:=@Xb osc x r;rw[bF];show List.lookup x ((if (k == NameKind.free&&osc.kind == .function&&osc.names.lookup n == some .cell)=true then(n,NameKind.cell)else(n,k))::_)=_\/List.lookup x ((if (k == NameKind.free&&osc.kind == .function&&osc.names.lookup n == some .cell)=true then(n,NameKind.cell)else(n,k))::_)=_
  cases hx:x == n with
  |true =>
   simp only[da,hx]at h;cases h
   split
   .exact .inl (by simp[da,hx])
   .exact .inr (by simp[da,hx])
  |false =>
   simp only[da,hx]at h
   split<;>(simp only[da,hx];exact ih h)
section
variable{X:Cx}{p5:A2}{σ:St}{H:Hp}{s:An}{fp:Ab}{N vars:A8}{caps:Aj}{scope osc:Scope}
theorem zgP(I:Inv X p5 σ H s)(hosc:X.env.scope=osc)(C:CompOk osc scope X.N vars caps)(hN:N=vars++caps.map λk=>X.N.getD k Str.empty)(hf:∀b∈fp,QS X p5 H b)(hfo:∀b∈fp,∃o,s.heap.get? b=some o){h':Heap}{tk:Nat}{mm:A4}(hns:h'.Ns s.heap.objs.size mm)(hk:∀b o,s.heap.get? b=some o->h'.get? b=some o) :
  Inv (cxC X N scope s H fp p5) [] (stC vars.length caps σ) H {s with heap:=h',toks:=tk}:=by
 have hkf:∀y∈scope.names,y.2=.free->X.env.kindOf y.1=some .cell\/X.env.kindOf y.1=some .free:=λy hy e=>by
  have z:=C.free y hy e;rw[<- hosc]at z;exact z
 have hcl:zfj X.env.cells scope.names:=λy hy e=>I.ok.has y.1 (hkf y hy e);have get:∀x c,(jm X.env.cells scope.names []).lookup x=some c->X.env.cells.lookup x=some c:=λx c h=>ZQ hcl (λc h=>by simp at h) h;refine⟨⟨I.ok.mod,C.kind,I.ok.glob,I.ok.blt,au _,λx y c h1 h2=>I.ok.inj x y c (get x c h1) (get y c h2),λx hx=>ZP (zcF (osc:=X.env.scope) C.cell hx),λ_ _ h _=>Bool.noConfusion h,I.ok.hd,I.ok.frames,.inl rfl,
   λb hb=>⟨?_,λx c h=>(hf b hb).2.2.2.2.1 x c (get x c h)⟩,I.bs,bj I.ok.bsz I.sz,λb o e hb=>?_,λb hb z=>(av.mp (I.stkSub b z)).elim (hf b hb).2.1 (hf b hb).2.2.1,I.stack,I.stkFree⟩,
  rfl,I.bare,Un.kept hk,⟨_,hns,λi x v e1 e2 e3=>?_⟩,λx c h=>?_,I.hok.fresh (au _),λx c h=>I.freeC x c (get x c h),λp hp=>?_,I.hok.kept hk,?_⟩
 .obtain⟨o,e⟩:=hfo b hb;exact aP (aB e)
 .rcases(hf b hb).2.2.2.1 with z|z
  .exact I.ok.noex b o e z
  .exact absurd (aM (aB (I.ok.bs b o e).1) z) (cx _)
 .have hi:¬i<vars.length:=λhi=>by
   unfold stC at e2;rw[aY (by simpa using hi),cz]at e2
   split at e2<;>cases e2
  have e1':(vars++caps.map λk=>X.N.getD k Str.empty)[i]?=some x:=by rw[<- hN];exact e1
  unfold stC at e2;rw[aS (by simpa using hi),bg,am]at e2;rw[aS (by lia),am]at e1';cases ek:caps[i-vars.length]? with
  |none=>rw[ek]at e2;cases e2
  |some k =>
   rw[ek]at e1' e2;let⟨hkl,hlk⟩:=C.caps k (ah ek);have ex:X.N.getD k Str.empty=x:=by simpa using e1'
   have es:σ[k]?.getD none=some v:=by simpa using e2
   have es':σ[k]?=some (some v):=by
    cases q:σ[k]? with
    |none=>rw[q]at es;cases es
    |some z=>rw[q]at es;simp only[aO]at es;rw[es]
   have eN:X.N[k]?=some x:=by
    rw[<- ex,ae,ac hkl];rfl
   rw[ex]at hlk;have hm:(x,NameKind.free)∈scope.names:=bT hlk;have hkx:=hkf _ hm rfl;let⟨m,_,hl⟩:=I.loc;let⟨u,r,L⟩:=hl k x v eN es' (hkx.elim (λz=>.inr (.inl z)) λz=>.inr (.inr z));refine⟨u,r,.inr ⟨Xb (osc:=X.env.scope) hlk,?_⟩⟩;let⟨c',ec⟩:=ZP (cells:=X.env.cells) (cs:=[]) hm;rcases L with⟨z,_⟩|⟨_,c,ec2,o,ho,hd⟩
   .rcases hkx with y|y<;>(simp only at y;rw[y]at z;cases z)
   .have z:=get x c' ec;rw[ec2]at z;obtain rfl:c=c':=aF z;exact⟨c,ec,o,hk _ _ ho,hd⟩
 .obtain⟨v,o,ho,hd⟩:=I.cell x c (get x c h);exact⟨v,o,hk _ _ ho,hd⟩
 .have hp':p∈X.pn++p5:=by simpa[cxC]using hp
  let⟨e,n,ne,nf,d⟩:=I.pin p hp';exact⟨hk _ _ e,n,aP (aB e),λz=>(av.mp (I.stkSub _ z)).elim ne nf,d⟩
 .show(stC vars.length caps σ).length=N.length
  rw[hN];simp[stC]
def zcZ{σ':St}{H':Hp}{s':An}(I:Inv X p5 σ H s)(hf:∀b∈fp,QS X p5 H b)(I':Inv (cxC X N scope s H fp p5) [] σ' H' s'):Inv X p5 σ H' s' :=
 I.call' (ch:=fp) I'.os I'.base I'.hok I'.bare λb hb=>⟨(hf b hb).2.2.2.1,(hf b hb).2.1,(hf b hb).2.2.2.2.1,(hf b hb).2.2.2.2.2⟩
end
section
variable{prog:Af}{w:World}{A:Ao}{R:Result->Shared->Prop}{s:An}
abbrev NoX:Value->Shared->Prop:=λ_ _=>False
theorem zfi{elt target iter:Expr}{ifs:List Expr}{scope:Scope}{pos:Pos}{it pv:Am}{env:Env}(I:Nat->Shared->Prop)(turn:∀n s,I n s->wpAny (model prog w) A (pyNext it) (λr s₁=>match r with
   |none=>R (.ok .next) s₁
   |some v=>wpAny (model prog w) A (letOwnedTupleGo target it v) (λ_ s₁'=>wpAny (model prog w) A (assign target env v) (λ_ s₂ =>
     wpAny (model prog w) A (forIn ifs true λc r=>if r=true then do let ok <- isTrue c env (eval c env);pure (ForInStep.yield ok)else pure (ForInStep.yield r)) (λok s₃ =>
      if ok=true then wpAny (model prog w) A (eval elt env) (λx s₄ =>
       wpAny (model prog w) A (call (.builtin "list.append") [pv,x]) (λ_ s₅=>∃m,m<n/\I m s₅) NoX s₄) NoX s₃
      else ∃m,m<n/\I m s₃) NoX s₂) NoX s₁') NoX s₁) NoX s)(n:Nat)(h:I n s) :
  codeAny (model prog w) A (.compLoop (.ListComp elt [⟨target,iter,ifs,0⟩] scope pos) 0 it pv env) R s:=by
 refine codeAny_loop rfl I (λn s hI=>?_) n h;show wpAny _ A ((compTurn (.ListComp elt [⟨target,iter,ifs,0⟩] scope pos) 0 it pv env).onRaise (λx=>do noteFrame x env;theTreesLotGoes x)) _ _ s
 refine wpAny_noted ?_;rw[compTurn_list];refine af (iz (af (aZ (turn n s hI) (λr s₁ h₁=>?_) λ_ _ h'=>h'.elim)));cases r with
 |none=>exact ap h₁
 |some v =>
  refine af (aZ h₁ (λ_ s₁' h₁'=>?_) λ_ _ h'=>h'.elim);refine af (aZ h₁' (λ_ s₂ h₂=>af (aZ h₂ (λok s₃ h₃=>?_) λ_ _ h'=>h'.elim)) λ_ _ h'=>h'.elim);cases ok with
  |false=>exact ap ⟨rfl,h₃⟩
  |true =>
   exact af (af (aZ h₃ (λx s₄ h₄=>af (aZ h₄ (λ_ s₅ h₅=>ap (ap ⟨rfl,h₅⟩)) λ_ _ h'=>h'.elim)) λ_ _ h'=>h'.elim))
end
def zhp(X:Cx)(ifs:List Expr)(t:TT):Prop :=
 ∀(p5:A2)(s:An)(σ:St)(H:Hp)(Q:Bool->Hp->Prop),Inv X p5 σ H s->t σ H Q ->
  wpAny (model X.prog X.w) X.A (forIn ifs true λc r=>if r=true then do let ok <- isTrue c X.env (eval c X.env);pure (ForInStep.yield ok)else pure (ForInStep.yield r)) (TP X p5 σ Q) X.xe s
def tYes:TT:=λ_ H Q=>Q true H
def qm{X:Cx}:zhp X [] tYes:=λ_ _ _ H _ I h=>wpAny_tests_nil ⟨H,I,h⟩
def VX{X:Cx}{c:Expr}{t:TT}(h:PT X c t):zhp X [c] t:=λp5 s σ H Q I hw=>wpAny_tests_one (h p5 s σ H Q I hw)
abbrev CB(α:Type):=Shared->Hp->List Addr->List (Addr×Obj)->α
def tLc(wi:TI)(nv:Nat)(caps:Aj)(g:CB TG)(tt:CB TT)(te:CB TE):TE:=λσ H Q=>wi σ H λJ H1=>∀(s3:An)(H3:Hp)(fp:Ab)(pns:A2) pv,H1 pv=none ->
 ∃W:Nat->Nat->St->Hp->Prop,(∃m,W 0 m (stC nv caps σ) (upd H1 pv (.lst [])))/\∀i m σ' H',W i m σ' H' ->
  (J.stop i H'/\Q (.ref pv) H')\/(J.go i H'/\∃N:St->Hp->Prop,(∀σ'' H'',N σ'' H''->∃m',m'<m/\W (i+1) m' σ'' H'')/\∀x H'',J.yld i H' x H''->g s3 H3 fp pns x σ' H'' λσ2 H2=>tt s3 H3 fp pns σ2 H2 λb H5 =>
   if b=true then te s3 H3 fp pns σ2 H5 λy H4=>∃ys,H4 pv=some (.lst ys)/\ys.length<sizeLine/\N σ2 (upd H4 pv (.lst (ys++[y])))else N σ2 H5)
section
variable{X:Cx}{elt target iter:Expr}{ifs:List Expr}{scope osc:Scope}{pos:Pos}{wi:TI}{g:CB TG}{tt:CB TT}{te:CB TE}{N vars:A8}{caps:Aj}
theorem XN{p5:A2}{σ:St}{H2:Hp}{s2:An}{it:Addr}{fp:Ab}{tn:Nat->Heap->Prop}{J:It}{Q:VK}{RR:Value->Addr->Result->Shared->Prop}{E:A3}(hosc:X.env.scope=osc)(C:CompOk osc scope X.N vars caps)(hN:N=vars++caps.map λk=>X.N.getD k Str.empty)(hc:X.calm=true)(hg:∀s H fp p5,PG (cxC X N scope s H fp p5) target (g s H fp p5))(ht:∀s H fp p5,zhp (cxC X N scope s H fp p5) ifs (tt s H fp p5))(he:∀s H fp p5,PE (cxC X N scope s H fp p5) elt (te s H fp p5))(I2:Inv X p5 σ H2 s2)(T:Turn X.prog X.w X.K target J fp it tn)(st2:tn 0 s2.heap)(hf:∀b∈fp,QS X p5 H2 b)(h:∀(s3:An)(H3:Hp)(fp:Ab)(pns:A2) pv,H2 pv=none->∃W:Nat->Nat->St->Hp->Prop,(∃m,W 0 m (stC vars.length caps σ) (upd H2 pv (.lst [])))/\∀i m σ' H',W i m σ' H' ->
   (J.stop i H'/\Q (.ref pv) H')\/(J.go i H'/\∃N:St->Hp->Prop,(∀σ'' H'',N σ'' H''->∃m',m'<m/\W (i+1) m' σ'' H'')/\∀x H'',J.yld i H' x H''->g s3 H3 fp pns x σ' H'' λσ2 H2=>tt s3 H3 fp pns σ2 H2 λb H5 =>
    if b=true then te s3 H3 fp pns σ2 H5 λy H4=>∃ys,H4 pv=some (.lst ys)/\ys.length<sizeLine/\N σ2 (upd H4 pv (.lst (ys++[y])))else N σ2 H5))(hRR:∀pv C s' H' m,Inv X p5 σ H' s'->Q (.ref pv) H'->s'.heap.Ns C m->H' C=none->C≠X.env.locals->X.s₀.heap.objs.size<=C->(∀x c,X.env.cells.lookup x=some c->c≠C)->(∀p∈X.pn++p5,p.1≠C)->RR (.ref pv) C (.ok .next) s') :
  wpAny (model X.prog X.w) X.A (newList []) (λpv s₃=>wpAny (model X.prog X.w) X.A (newFunctionEnv scope X.env.globals (jm X.env.cells scope.names []) [] X.env.qual none .none (some X.env)) (λcenv s₄ =>
   codeAny (model X.prog X.w) X.A (.compStart (.ListComp elt [⟨target,iter,ifs,0⟩] scope pos) 0 (.ref it) pv {cenv with scope:=relabel scope X.env}) (RR pv cenv.locals) s₄) E s₃) E s2:=by
 refine d6 (wpAny_newFunctionEnv C.cell (by intro y hy;simp at hy) (λh₁ hns₁ hsb₁=>?_) C.kind);let⟨W,⟨m0,w0⟩,turn⟩:=h {s2 with heap:=s2.heap.push {cls:=.type "list",dict:=none,data:=.seq ([]:A7).toArray} } (upd H2 s2.heap.objs.size (.lst [])) fp p5 s2.heap.objs.size I2.fresh;have I3:Inv X p5 σ (upd H2 s2.heap.objs.size (.lst [])) {s2 with heap:=s2.heap.push {cls:=.type "list",dict:=none,data:=.seq ([]:A7).toArray} }:=I2.lnew (pi:=[]) (t':=s2.toks) .nil (by decide);dsimp only at hns₁ hsb₁ ⊢;have hfo:∀b∈fp,∃o,s2.heap.get? b=some o:=λb hb=>let⟨o,e,_⟩:=T.obj _ _ st2 b hb;⟨o,e⟩
 have hf3:∀b∈fp,QS X p5 (upd H2 s2.heap.objs.size (.lst [])) b:=λb hb=>by
  refine⟨?_,(hf b hb).2⟩;let⟨o,e⟩:=hfo b hb;rw[pE (aP (aB e))];exact(hf b hb).1
 generalize hs3:({s2 with heap:=s2.heap.push {cls:=.type "list",dict:=none,data:=.seq ([]:A7).toArray} }:An)=s3 at I3 turn;have eh:s2.heap.push {cls:=.type "list",dict:=none,data:=.seq ([]:A7).toArray}=s3.heap:=by rw[<- hs3]
 have old:∀b o,s2.heap.get? b=some o->s3.heap.get? b=some o:=λb o e=>by rw[<- eh];exact aj _ e
 rw[eh]at hns₁ hsb₁ ⊢;have es:({s2 with heap:=h₁,toks:=s2.toks+([]:List (Str×Value)).length}:An)={s3 with heap:=h₁,toks:=s2.toks}:=by rw[<- hs3];rfl
 rw[es];generalize hH3:upd H2 s2.heap.objs.size (.lst [])=H3 at *;have hk:∀b o,s3.heap.get? b=some o->h₁.get? b=some o:=λb o e=>hsb₁.extBut b o (aP (aB e)) (aj _ e);have I4:Inv (cxC X N scope s3 H3 fp p5) [] (stC vars.length caps σ) H3 {s3 with heap:=h₁,toks:=s2.toks}:=zgP I3 hosc C hN hf3 (λb hb=>let⟨o,e⟩:=hfo b hb;⟨o,old b o e⟩) hns₁ hk;have st4:tn 0 h₁:=T.keep _ _ _ st2 λb hb o e=>hk b o (old b o e);have stat:∀{H':Hp},(∀b∈fp,H' b=none)->∀b∈fp,QS (cxC X N scope s3 H3 fp p5) [] H' b:=λhn b hb =>
  ⟨hn b hb,(I4.ok.exf b hb).1,I4.ok.exfs b hb,.inl hb,(I4.ok.exf b hb).2,λp hp=>(hf b hb).2.2.2.2.2 p (by simpa[cxC]using hp)⟩
 have loop:∀s4:Shared,s4={s3 with heap:=h₁,toks:=s2.toks} ->
   codeAny (model X.prog X.w) X.A (.compLoop (.ListComp elt [⟨target,iter,ifs,0⟩] scope pos) 0 (.ref it) (.ref s2.heap.objs.size) (cxC X N scope s3 H3 fp p5).env) (RR (.ref s2.heap.objs.size) s3.heap.objs.size) s4:=by
  rintro s4 rfl;refine zfi (λn s'=>∃i σ' H',Inv (cxC X N scope s3 H3 fp p5) [] σ' H' s'/\tn i s'.heap/\(∀b∈fp,H' b=none)/\W i n σ' H') ?_ m0 ⟨0,_,H3,I4,st4,λb hb=>(hf3 b hb).1,w0⟩;rintro n s5 ⟨i,σ5,H5,I5,st5,fr5,w5⟩;rcases turn i n σ5 H5 w5 with⟨stop,qn⟩|⟨go,NN,hNN,step⟩
  .refine thn (T.done (cxC X N scope s3 H3 fp p5) rfl rfl rfl hc i [] s5 σ5 H5 NoX I5 (stat fr5) st5 stop) λr s6 ⟨hr,I6⟩=>?_;subst hr;let⟨m,hn,_⟩:=I6.loc;have hlt:∀b o,s3.heap.get? b=some o->b≠s3.heap.objs.size:=λb o e=>aP (aB e);let⟨m3,⟨oL,_,_,hoL,_⟩,_⟩:=I3.loc;refine hRR _ _ s6 H5 m (zcZ I3 hf3 I6) qn hn I6.free (λz=>hlt _ _ hoL z.symm) I3.sz (λx c ec z=>?_) λp hp z=>hlt _ _ (I3.pin p hp).1 z;let⟨v,o,ho,_⟩:=I3.cell x c ec;exact hlt _ _ ho z
  .refine thn (T.item (cxC X N scope s3 H3 fp p5) rfl rfl rfl hc i [] s5 σ5 H5 NoX I5 (stat fr5) st5 go) λr s6 ⟨u,hr,h6⟩=>?_;subst hr;refine thn h6 λ_ s7 ⟨x,H7,I7,r7,y7,st7,fr7⟩=>?_;have I7':=I7.pinned (stat fr7) (T.obj _ _ st7);have again:∀{σ8:St}{H8:Hp}{s8:An},Inv (cxC X N scope s3 H3 fp p5) ([]++Xe fp s7.heap) σ8 H8 s8->NN σ8 H8->∃m,m<n/\∃i σ' H',Inv (cxC X N scope s3 H3 fp p5) [] σ' H' s8/\tn i s8.heap/\(∀b∈fp,H' b=none)/\W i m σ' H':=λ{σ8 H8 s8} I8 n8=>by
    let⟨m',hm,w8⟩:=hNN σ8 H8 n8;refine⟨m',hm,i+1,σ8,H8,I8.unpinned,T.keep _ _ _ st7 λb hb o e=>(I8.pin (b,o) (a8 _ (a8 _ (wJ hb e)))).1,λb hb=>?_,w8⟩;let⟨o,e,d⟩:=T.obj _ _ st7 b hb;exact(I8.pin (b,o) (a8 _ (a8 _ (wJ hb e)))).2.1
   refine thn (hg s3 H3 fp p5 _ s7 σ5 H7 x u _ I7' r7 (step x H7 y7)) λ_ s8 ⟨σ8,H8,I8,q8⟩=>?_;refine thn (ht s3 H3 fp p5 _ s8 σ8 H8 _ I8 q8) λb s9 ⟨H9,I9,q9⟩=>?_;cases b with
   |false=>exact again I9 q9
   |true =>
    refine qI (he s3 H3 fp p5 _ s9 σ8 H9 _ I9 q9) λv s10 y H10 I10 r10 qq_=>?_;let⟨ys,ea,hz,q10⟩:=qq_;refine thn (zV (X:=cxC X N scope s3 H3 fp p5) _ s10 σ8 H10 (.ref s2.heap.objs.size) [y] (.ref s2.heap.objs.size) [v] (λ_ H'=>NN σ8 H') I10 rfl (.cons r10 .nil) ⟨_,ys,y,rfl,rfl,ea,hz,q10⟩) λ_ s11 ⟨_,H11,I11,_,q11⟩=>?_;exact again I11 q11
 exact codeAny_compStart_list (loop _ rfl) (T.self X.A 0 _ _ _ st4 (loop _ rfl))
def jF{ON:A8}(hosc:X.env.scope=osc)(hON:X.N=ON)(hB:zd5 osc scope ON caps=true)(hN:N=vars++caps.map λk=>ON.getD k Str.empty)(hc:X.calm=true)(hi:PI X target iter wi)(hg:∀s H fp p5,PG (cxC X N scope s H fp p5) target (g s H fp p5))(ht:∀s H fp p5,zhp (cxC X N scope s H fp p5) ifs (tt s H fp p5))(he:∀s H fp p5,PE (cxC X N scope s H fp p5) elt (te s H fp p5))(hs:∀x,foldedSetIterable iter X.env x=pure x:=by intro _;rfl):PE X (.ListComp elt [⟨target,iter,ifs,0⟩] scope pos) (tLc wi vars.length caps g tt te):=by
 subst hON;intro p5 s σ H Q I h;have C:CompOk osc scope X.N vars caps:=zbV hB;have hclos:closureFor scope X.env=pure (jm X.env.cells scope.names []):=Zy λy hy e=>I.ok.has y.1 (by have z:=C.free y hy e;rw[<- hosc]at z;exact z);rw[eval_ListComp];refine iA (use:=none) rfl hs hclos C.kind C.loc (thn (hi p5 s σ H _ I h) λv s1 h1=>thn h1 λitv s2 h2=>?_);let⟨it,fp,tn,J,H2,e,I2,T,st2,f2,hw⟩:=h2;subst e;refine XN (N:=N) (RR:=λpv Cc=>compPost (model X.prog X.w) X.A X.xe none (EP X p5 σ Q) pv Cc) hosc C hN hc hg ht he I2 T st2 f2 hw λpv Cc s' H' m I' q hn hC hL hsz hcc hpp=>?_;refine⟨m,hn,λh' hs'=>⟨.ref pv,H',?_,rfl,q⟩⟩;exact I'.turned (t':=s'.toks) (it:=Cc) (λb o hb e=>(hs'.2 b hb).trans e) hC (λz=>hL z) (.inr hsz) hcc hpp
def WM{ON:A8}{i:Nat}{x:Str}{pos' spos:Pos}(hNd:X.N.Nodup)(hix:X.N[i]?=some x)(hx:Loc X.env.scope x)(hosc:X.env.scope=osc)(hON:X.N=ON)(hB:zd5 osc scope ON caps=true)(hN:N=vars++caps.map λk=>ON.getD k Str.empty)(hc:X.calm=true)(hi:PI X target iter wi)(hg:∀s H fp p5,PG (cxC X N scope s H fp p5) target (g s H fp p5))(ht:∀s H fp p5,zhp (cxC X N scope s H fp p5) ifs (tt s H fp p5))(he:∀s H fp p5,PE (cxC X N scope s H fp p5) elt (te s H fp p5))(hsw:swapsWith (.ListComp elt [⟨target,iter,ifs,0⟩] scope pos) (some (.Name x pos')) spos.line X.env=pure true:=by rfl)(hf:X.fn x=true\/X.env.scope.names.lookup x=some .local:=by walk_at"p")(hs:∀x,foldedSetIterable iter X.env x=pure x:=by intro _;rfl):PS X (.Assign [.Name x pos'] (.ListComp elt [⟨target,iter,ifs,0⟩] scope pos) spos) (tAsg (tLc wi vars.length caps g tt te) (gName i)):=by
 subst hON;intro p5 s σ H D I h;have C:CompOk osc scope X.N vars caps:=zbV hB;have hclos:closureFor scope X.env=pure (jm X.env.cells scope.names []):=Zy λy hy e=>I.ok.has y.1 (by have z:=C.free y hy e;rw[<- hosc]at z;exact z);rw[exec_Assign_Name_used _ _ _ _ hsw];refine af (iz (af ?_));show wpAny _ X.A (do let _ <- comprehension (.ListComp elt [⟨target,iter,ifs,0⟩] scope pos) scope X.env _ (newList []) false (eval iter X.env) (some (assign (.Name x pos') X.env))) _ _ s
 refine af (aZ (iA (use:=some (assign (.Name x pos') X.env)) (Q:=λ_ s'=>SP X p5 D .next s') rfl hs hclos C.kind C.loc (thn (hi p5 s σ H _ I h) λv s1 h1=>thn h1 λitv s2 h2=>?_)) (λ_ s' hq=>ap (ap hq)) λ_ _ e=>e);let⟨it,fp,tn,J,H2,e,I2,T,st2,f2,hw⟩:=h2;subst e;refine XN (N:=N) (Q:=λv H1=>gName i v σ H1 D.nx) (RR:=λpv Cc=>compPost (model X.prog X.w) X.A X.xe (some (assign (.Name x pos') X.env)) (λ_ s'=>SP X p5 D .next s') pv Cc) hosc C hN hc hg ht he I2 T st2 f2 hw λpv Cc s' H' m I' q hn hC hL hsz hcc hpp=>?_;refine wpAny_assign_Name (Wx I' hNd hix hx (v:=.ref pv) rfl (λs3 I3 ⟨a,sb,ha⟩=>?_) hf);have hne:Cc≠a:=λz=>by
  rcases ha with e|e
  .exact hL (z.trans e)
  .exact hcc x a e z.symm
 refine⟨m,hn.sameBut sb hne,λh' hs'=>⟨_,H',?_,q⟩⟩;exact I3.turned (t':=s3.toks) (it:=Cc) (λb o hb e=>(hs'.2 b hb).trans e) hC (λz=>hL z) (.inr hsz) hcc hpp
end
variable{b:Bool}{Q:A3}{i:Nat}{X:Cx}
section
variable{X:Cx}{p5:A2}{σ:St}{H:Hp}{s:An}{h':Heap}{ch:Ab}
def Inv.turnNew{T:Addr}{o:HO}{t':Nat}(I:Inv X p5 σ H s)(hch:∀b∈ch,QS X p5 H b)(hT:s.heap.objs.size<=T)(keep:∀b o,b∉ch->s.heap.get? b=some o->h'.get? b=some o)(new:ObjOk X.prog X.w (upd H T o) h' T o):Inv X p5 σ (upd H T o) {s with heap:=h',toks:=t'}:=by
 have hn:H T=none:=I.hok.fresh hT;have lt:∀b u,s.heap.get? b=some u->b≠T:=λb u e=>aP (aM (aB e) hT);have nch:∀b u,H b=some u->b∉ch:=λb u e z=>by rw[(hch b z).1]at e;cases e
 refine I.step (g':=s.gens) (d':=s.drawn) (ch:=ch) (λb hb=>⟨(hch b hb).2.2.2.1,(hch b hb).2.1,(hch b hb).2.2.2.2.1,(hch b hb).2.2.2.2.2⟩) (λb o _ _ hc e _=>keep b o hc e) (λb o _ _ hc e _=>⟨o.slots,keep b o hc e⟩)
  (λb o _ e n=>by rw[pE (lt b o e)];exact n) (λb o hc e=>⟨o,keep b o hc e⟩) (λb xs e=>by rw[pE (pF e hn)];exact e) (λb o u e=>by rw[pE (pF e hn)];exact e)
  (λb ps e=>⟨#[],by rw[pE (pF e hn),e];simp⟩) (λm hm=>?_) (λb u e=>?_) I.bare
 .obtain⟨o,es,ep,ho,r⟩:=hm;exact⟨o,es,ep,keep _ o (λz=>(hch _ z).2.1 rfl) ho,r⟩
 .by_cases hb:b=T
  .subst hb;rw[pD]at e;cases e;exact new
  .rw[pE hb]at e;refine(I.hok b u e).stay (λc v hc q=>keep c v ?_ q) (λc q=>by rw[pE (pF q hn)];exact q) λc xs q=>by rw[pE (pF q hn)];exact q
   rcases hc with z|z
   .rw[z];exact nch b u e
   .exact nch c _ z
def Inv.turnL{t':Nat}(I:Inv X p5 σ H s)(hch:∀b∈ch,QS X p5 H b)(keep:∀b o,b∉ch->s.heap.get? b=some o->h'.get? b=some o):Inv X p5 σ H {s with heap:=h',toks:=t'}:=by
 have nch:∀b u,H b=some u->b∉ch:=λb u e z=>by rw[(hch b z).1]at e;cases e
 refine I.step (g':=s.gens) (d':=s.drawn) (ch:=ch) (λb hb=>⟨(hch b hb).2.2.2.1,(hch b hb).2.1,(hch b hb).2.2.2.2.1,(hch b hb).2.2.2.2.2⟩) (λb o _ _ hc e _=>keep b o hc e) (λb o _ _ hc e _=>⟨o.slots,keep b o hc e⟩)
  (λ_ _ _ _ n=>n) (λb o hc e=>⟨o,keep b o hc e⟩) (λ_ _ e=>e) (λ_ _ _ e=>e) (λb ps e=>⟨#[],by rw[e];simp⟩) (λm hm=>?_) (λb u e=>?_) I.bare
 .obtain⟨o,es,ep,ho,r⟩:=hm;exact⟨o,es,ep,keep _ o (λz=>(hch _ z).2.1 rfl) ho,r⟩
 .refine(I.hok b u e).stay (λc v hc q=>keep c v ?_ q) (λ_ q=>q) λ_ _ q=>q;rcases hc with z|z
  .rw[z];exact nch b u e
  .exact nch c _ z
end
noncomputable def Ite(K:A0)(a:Addr):It :=
 ⟨λi H=>∃xs x,SqL K H a xs/\xs[i]?=some x,λi H v H'=>∃t x,H t=none/\v=.ref t/\(∀xs,SqL K H a xs->xs[i]?=some x)/\H'=upd H t (.tup [.int i,x]),λi H=>∃xs,SqL K H a xs/\xs.length<=i⟩
def zei{P:Af}{w:World}{K:A0}{elts:List Expr}{x1}{pos:Pos}(a e it:Addr)(hne:e≠it) :
  Turn P w K (.Tuple elts x1 pos) (Ite K a) [e,it] e (λi h=>(∃old,IsEnum h e it i old)/\h.IsListIter it a i) where
 mem:=by simp
 obj:=λi h st b hb=>by
  let⟨⟨old,he⟩,o,ho,c,d⟩:=st;rcases av.mp hb with rfl|hb
  .exact⟨_,he,λv z=>by cases z⟩
  .obtain rfl:b=it:=by simpa using hb
   exact⟨o,ho,λv z=>by rw[d]at z;cases z⟩
 keep:=λi h h' st k=>by
  let⟨⟨old,he⟩,hi⟩:=st;exact⟨⟨old,k e (by simp) _ he⟩,hi.at λo z=>k it (by simp) o z⟩
 item:=by
  intro X hP hw hK hc i p5 s σ H E I hf st hg;subst hP hw hK;let⟨⟨old,he⟩,hi⟩:=st;let⟨xs,x,hq,hx⟩:=hg;let⟨pi,rv,p,hz⟩:=I.list hq;let⟨u,hu,ru⟩:=rv.get hx;refine wpAny_pyNext_enum_item he hi p.isList (x:=u) (by simpa using hu) hne λh' he' hi' hT hsz hk=>?_;refine⟨_,rfl,?_⟩;have I1:Inv X p5 σ (upd H s.heap.objs.size (.tup [.int i,x])) {s with heap:=h',toks:=s.toks+1}:=I.turnNew hf (au _) (λb o hb q=>hk b o (λz=>hb (by simp[z])) (λz=>hb (by simp[z])) q)
   ⟨by show 2<=sizeLine;decide,[.int i s.toks,u],.cons ⟨_,rfl⟩ (.cons ru .nil),⟨_,hT,rfl,_,rfl⟩⟩
  have hn:H s.heap.objs.size=none:=I.hok.fresh (au _);have ne:∀b∈[e,it],b≠s.heap.objs.size:=λb hb=>by
   rcases av.mp hb with rfl|hb
   .exact aP (aB he)
   .obtain rfl:b=it:=by simpa using hb
    let⟨o,ho,_⟩:=hi;exact aP (aB ho)
  have fr:∀b∈[e,it],(upd H s.heap.objs.size (.tup [.int i,x])) b=none:=λb hb=>by rw[pE (ne b hb)];exact(hf b hb).1
  refine wpAny_letOwnedTupleGo_enum he' λh'' he'' hs''=>?_;refine⟨.ref s.heap.objs.size,_,I1.turnL (t':=s.toks+1) (ch:=[e]) (λb hb=>?_) (λb o hb q=>(hs''.2 b (λz=>hb (by simp[z]))).trans q),rfl,
   ⟨s.heap.objs.size,x,hn,rfl,λys hy=>by rw[I.list_inj hy hq];exact hx,rfl⟩,⟨⟨u,?_⟩,hi'.extBut hs''.extBut (bb hne)⟩,fr⟩
  .obtain rfl:b=e:=by simpa using hb
   exact⟨fr b (by simp),(hf b (by simp)).2⟩
  .exact he''
 done:=by
  intro X hP hw hK hc i p5 s σ H E I hf st hg;subst hP hw hK;let⟨⟨old,he⟩,hi⟩:=st;let⟨xs,hq,hx⟩:=hg;let⟨pi,rv,p,hz⟩:=I.list hq;have hl:=rv.length;exact wpAny_pyNext_enum_end (I.ok.hd hc) he hi p.isList (by simp;lia) λh' eb=>⟨rfl,I.turnL (t':=s.toks) hf λb o hb q=>eb b o (λz=>hb (by simp[z])) q⟩
 self:=λ_ _ _ _ _ st h=>by
  let⟨⟨old,he⟩,_⟩:=st;exact wpAny_pyIter_enum he h
def zaq:bootBuiltins "enumerate"=some (.type "enumerate"):=by decide+kernel
def zj3:bootBuiltins "zip"=some (.type "zip"):=by decide+kernel
def iEnum(X:Cx)(ta:TA):TI:=λσ H R=>X.mg "enumerate"=none/\ta σ H λvs H1=>∃a xs,vs=[.ref a]/\H1 a=some (.lst xs)/\R (Ite X.K a) H1
def qU{a:Expr}{elts:List Expr}{x1}{tp p pos:Pos}{ta:TA}(ha:PA X [a] ta)(hg:Gl X "enumerate":=by rfl)(hs:starEach [a] X.env=(false,eval a X.env)::starEach [] X.env:=by rfl)(hpl:(backTo pos (starEach [] X.env)).any (·.1)=false:=by rfl) :
  PI X (.Tuple elts x1 tp) (.Call (.Name "enumerate" p) [a] [] pos) (iEnum X ta):=by
 intro p5 s σ H R I h;refine bP (vS I hg h.1 zaq ?_);refine bB (vo (ha pos p5 s σ H _ I h.2) λus s1 vs H1 I1 r1 q1=>?_) hs hpl;let⟨l,xs,rfl,hq,hR⟩:=q1;let⟨u,rfl,rx⟩:=wR r1;cases rx;let⟨hz,pi,n,rv,hl,e⟩:=I1.lstM hq;refine call_enumerate_1 e λh' he hi hsz hk=>wpAny_pyIter_enum he ?_;refine⟨s1.heap.objs.size+1,[s1.heap.objs.size+1,s1.heap.objs.size],_,_,H1,rfl,I1.kept (t':=s1.toks) hk,zei l _ _ (Nat.succ_ne_self _),⟨⟨_,he⟩,hi⟩,λb hb=>?_,hR⟩;rcases av.mp hb with rfl|hb
 .exact I1.fpOk (cZ _) (I1.hok.fresh (cZ _))
 .obtain rfl:b=s1.heap.objs.size:=by simpa using hb
  exact I1.fpOk (au _) (I1.hok.fresh (au _))
def ItAt(b:Bool)(h:Heap)(it a:Addr)(i:Nat):Prop:=if b=true then h.IsListIter it a i else h.IsTupleIter it a i
def SqAt(b:Bool)(h:Heap)(a:Addr)(items:Ac):Prop:=if b=true then h.IsList a items else h.IsTuple a items
noncomputable def QN(b:Bool):String:=if b=true then"list_iterator" else"tuple_iterator"
def ItAt.at'{h h':Heap}{it a:Addr}(x:ItAt b h it a i)(hk:∀o,h.get? it=some o->h'.get? it=some o):ItAt b h' it a i:=by
 cases b<;>exact let⟨o,ho,r⟩:=x;⟨o,hk o ho,r⟩
def ItAt.obj{h:Heap}{it a:Addr}(x:ItAt b h it a i):∃o,h.get? it=some o/\∀v,o.data≠.cell v:=by
 cases b<;>exact let⟨o,ho,_,hd⟩:=x;⟨o,ho,λv z=>by rw[hd]at z;cases z⟩
def SqAt.at'{h h':Heap}{a:Addr}{items:Ac}(x:SqAt b h a items)(hk:∀o,h.get? a=some o->h'.get? a=some o):SqAt b h' a items:=by
 cases b<;>exact let⟨o,ho,r⟩:=x;⟨o,hk o ho,r⟩
section
variable{prog:Af}{w:World}{A:Ao}{E:A3}{s:An}
def Qb{it t:Addr}{items}{x:Am}(hit:s.heap.IsTupleIter it t i)(ht:s.heap.IsTuple t items)(hx:items[i]?=some x)(hQ:∀h',h'.IsTupleIter it t (i+1)->Heap.SameBut it s.heap h'->Q x {s with heap:=h'}):wpAny (model prog w) A (Builtin.SmallTypes.nextOf (.ref it)) Q E s:=by
 let⟨o,ho,hc,hd⟩:=id hit;let⟨ol,hol,_,nl,hdl⟩:=ht;unfold Builtin.SmallTypes.nextOf;refine af (dh (name:=Str.ofString "__next__") hit.typeIs cP
  (eC cP hit.typeIs hX ?_ (gJ _)))
 show wpAny _ _ (field (.ref it) 0 >>= _) _ _ s
 refine af (bw ho hd (x:=.ref t) rfl ?_);show wpAny _ _ (if (Value.ref t == Value.none)=true then _ else _) _ _ s
 rw[ak (show ¬((Value.ref t == Value.none)=true)from aE)];show wpAny _ _ (field (.ref it) 1 >>= _) _ _ s
 refine af (bw ho hd (x:=.int i 0) rfl ?_);show wpAny _ _ (seqItems? (.ref t) >>= _) _ _ s
 refine af (bJ hol hdl ?_);simp only[ax,hx];refine af (dQ ho hd (by simp) (ap ⟨x,rfl,ap (hQ _ ?_ (dO ..))⟩));exact⟨_,bx _ ho (cG (bE hd _)),(Obj.cls_mapFields ..).trans hc,by
  rw[bE hd];simp[rawInt]⟩
def QI{it t:Addr}{items}(hh:A.handled=none)(hit:s.heap.IsTupleIter it t i)(ht:s.heap.IsTuple t items)(hx:items[i]?=none)(hE:∀h' e,Heap.ExtBut it s.heap h'->(∃o,h'.get? e=some o/\o.cls=.type "StopIteration")->E (.ref e) {s with heap:=h'}) :
  wpAny (model prog w) A (Builtin.SmallTypes.nextOf (.ref it)) Q E s:=by
 let⟨o,ho,hc,hd⟩:=id hit;let⟨ol,hol,_,nl,hdl⟩:=ht;unfold Builtin.SmallTypes.nextOf;refine af (dh (name:=Str.ofString "__next__") hit.typeIs cP
  (eC cP hit.typeIs hX ?_ (gJ _)))
 show wpAny _ _ (field (.ref it) 0 >>= _) _ _ s
 refine af (bw ho hd (x:=.ref t) rfl ?_);show wpAny _ _ (if (Value.ref t == Value.none)=true then _ else _) _ _ s
 rw[ak (show ¬((Value.ref t == Value.none)=true)from aE)];show wpAny _ _ (field (.ref it) 1 >>= _) _ _ s
 refine af (bw ho hd (x:=.int i 0) rfl ?_);show wpAny _ _ (seqItems? (.ref t) >>= _) _ _ s
 refine af (bJ hol hdl ?_);simp only[ax,hx];refine af (wpAny_rule (af (dQ ho hd (by simp) ?_)));show wpAny _ _ (newExc (.type "StopIteration") [] >>= _) _ _ _
 refine af ?_;simp only[newExc,newTuple];refine af (d6 ?_ (by size_fits));refine af (m:=firstArgMember _ _) (wpAny_of_eq (a:=Value.none) (by first|rfl|(simp only[firstArgMember];rfl)) ?_);refine d6 ?_ (by size_fits);simp only[raiseNew];refine af (wpAny_handled ?_)
 first|rw[show A.in1.handled=none from hh] | rw[hh]
 refine af (ap (wpAny_throw ?_));exact hE _ _ (((dO ..).extBut.push _).push _) ⟨_,aC _ rfl,rfl⟩
def vM{it t:Addr}{items}{x:Am}(hit:ItAt b s.heap it t i)(ht:SqAt b s.heap t items)(hx:items[i]?=some x)(hQ:∀h',ItAt b h' it t (i+1)->Heap.SameBut it s.heap h'->Q x {s with heap:=h'}):wpAny (model prog w) A (Builtin.SmallTypes.nextOf (.ref it)) Q E s:=by
 cases b
 .exact Qb hit ht hx hQ
 .exact wpAny_nextOf_list_item hit ht hx hQ
def Xo{it t:Addr}{items}(hh:A.handled=none)(hit:ItAt b s.heap it t i)(ht:SqAt b s.heap t items)(hx:items[i]?=none)(hE:∀h' e,Heap.ExtBut it s.heap h'->(∃o,h'.get? e=some o/\o.cls=.type "StopIteration")->E (.ref e) {s with heap:=h'}) :
  wpAny (model prog w) A (Builtin.SmallTypes.nextOf (.ref it)) Q E s:=by
 cases b
 .exact QI hh hit ht hx hE
 .exact wpAny_nextOf_list_end hh hit ht hx hE
def WL{t:Addr}{items}(ht:SqAt b s.heap t items)(hQ:Q (.ref s.heap.objs.size) {s with heap:=s.heap.push {cls:=.type (QN b),data:=.fields #[.ref t,.int 0 0]} }):wpAny (model prog w) A (pyIter (.ref t)) Q E s:=by
 cases b
 .exact wpAny_pyIter_tuple ht hQ
 .exact dq ht hQ
def zfw{b1 b2:Bool}{z TI TO i1 i2 l1 l2:Addr}{k1 k2:Nat}{xs ys:Ac}{x y a b:Am}(D:ZipApart z TI TO i1 i2 l1 l2)(hz:IsZip s.heap z TI TO .none)(hTI:IsPair s.heap TI (.ref i1) (.ref i2))(hTO:IsPair s.heap TO a b)(h1:ItAt b1 s.heap i1 l1 k1)(h2:ItAt b2 s.heap i2 l2 k2)(hl1:SqAt b1 s.heap l1 xs)(hl2:SqAt b2 s.heap l2 ys)(hx:xs[k1]?=some x)(hy:ys[k2]?=some y)(hQ:∀h',IsZip h' z TI TO (rawInt s.heap.objs.size)->IsPair h' TO x y->ItAt b1 h' i1 l1 (k1+1)->ItAt b2 h' i2 l2 (k2+1)->IsPair h' s.heap.objs.size x y->h'.objs.size=s.heap.objs.size+1 ->
   (∀c o,c≠z->c≠TO->c≠i1->c≠i2->s.heap.get? c=some o->h'.get? c=some o)->Q (.ref s.heap.objs.size) {s with heap:=h'}) :
  wpAny (model prog w) A (Builtin.«zip.__next__» ⟨[.ref z],[]⟩) (λfin s'=>∃v,fin=.done (.ret v)/\Q v s') E s:=by
 show wpAny _ _ (field (.ref z) 2 >>= _) _ _ _
 refine af (bw hz rfl (x:=.bool false) rfl ?_);show wpAny _ _ (field (.ref z) 3 >>= _) _ _ _
 refine af (bw hz rfl (x:=.ref TI) rfl ?_);refine af (bJ hTI rfl ?_);show wpAny _ _ (Builtin.SmallTypes.ownedTupleIsFree (.ref z) >>= _) _ _ _
 refine af ?_;unfold Builtin.SmallTypes.ownedTupleIsFree;refine af (bw hz rfl (x:=.none) rfl (ap ?_));simp only[dM];refine af (wpAny_rule ?_);refine af (bw hz rfl (x:=.ref TO) rfl ?_);refine af (cB hz (by simp) λh₁ hz₁ hs₁=>?_);replace hz₁:IsZip h₁ z TI TO .ellipsis:=hz₁;refine af ?_;simp only[List.zipIdx_cons,List.zipIdx_nil,gP,List.forIn_nil];refine af (af (fv ?_));show wpAny _ _ (Builtin.SmallTypes.nextOf (.ref i1) >>= _) _ _ _
 refine af (vM (h1.at' λo e=>hs₁.extBut _ _ D.i1z e) (hl1.at' λo e=>hs₁.extBut _ _ D.l1z e) hx λh₂ h1₂ hs₂=>ap ?_);have hTO₂:IsPair h₂ TO a b:=hs₂.extBut _ _ D.TOi1 (hs₁.extBut _ _ D.TOz hTO);refine af (bJ hTO₂ rfl ?_);refine af (eZ hTO₂ λh₃ hTO₃ hs₃=>?_);replace hTO₃:IsPair h₃ TO x b:=hTO₃;refine af (wpAny_letGo (ap ?_));refine af (af (fv ?_));show wpAny _ _ (Builtin.SmallTypes.nextOf (.ref i2) >>= _) _ _ _
 refine af (vM (h2.at' λo e=>hs₃.extBut _ _ D.TOi2.symm (hs₂.extBut _ _ D.i12.symm (hs₁.extBut _ _ D.i2z e)))
  (hl2.at' λo e=>hs₃.extBut _ _ D.l2TO (hs₂.extBut _ _ D.l2i1 (hs₁.extBut _ _ D.l2z e))) hy λh₄ h2₄ hs₄=>ap ?_)
 have hTO₄:IsPair h₄ TO x b:=hs₄.extBut _ _ D.TOi2 hTO₃;refine af (bJ hTO₄ rfl ?_);refine af (eZ hTO₄ λh₅ hTO₅ hs₅=>?_);replace hTO₅:IsPair h₅ TO x y:=hTO₅;refine af (wpAny_letGo (ap (ap ?_)));refine af (bJ hTO₅ rfl ?_);refine af (wpAny_newTuple ?_);have hsz:h₅.objs.size=s.heap.objs.size:=by rw[hs₅.1,hs₄.1,hs₃.1,hs₂.1,hs₁.1]
 have hz₅:IsZip h₅ z TI TO .ellipsis:=hs₅.extBut _ _ D.TOz.symm (hs₄.extBut _ _ D.i2z.symm (hs₃.extBut _ _ D.TOz.symm (hs₂.extBut _ _ D.i1z.symm hz₁)));have hk₅:∀c o,c≠z->c≠TO->c≠i1->c≠i2->s.heap.get? c=some o->h₅.get? c=some o:=λc o c1 c2 c3 c4 e =>
  hs₅.extBut _ _ c2 (hs₄.extBut _ _ c4 (hs₃.extBut _ _ c2 (hs₂.extBut _ _ c3 (hs₁.extBut _ _ c1 e))))
 have h1₅:ItAt b1 h₅ i1 l1 (k1+1):=h1₂.at' λo e=>hs₅.extBut _ _ D.TOi1.symm (hs₄.extBut _ _ D.i12 (hs₃.extBut _ _ D.TOi1.symm e));have h2₅:ItAt b2 h₅ i2 l2 (k2+1):=h2₄.at' λo e=>hs₅.extBut _ _ D.TOi2.symm e;have hzlt:z<h₅.objs.size:=aB hz₅;show wpAny _ _ (Builtin.SmallTypes.ownedTupleHandOut (.ref z) (.ref h₅.objs.size) >>= _) _ _ _
 refine af ?_;unfold Builtin.SmallTypes.ownedTupleHandOut;have hz₆:IsZip (h₅.push {cls:=.type "tuple",data:=.seq #[x,y]}) z TI TO .ellipsis:=aj _ hz₅;refine af (cB hz₆ (by simp) λh₇ hz₇ hs₇=>?_);replace hz₇:IsZip h₇ z TI TO (rawInt h₅.objs.size):=hz₇;refine cB hz₇ (by simp) λh₈ hz₈ hs₈=>?_;replace hz₈:IsZip h₈ z TI TO (rawInt h₅.objs.size):=hz₈;have up:∀c o,c≠z->h₅.get? c=some o->h₈.get? c=some o:=λc o c1 e=>hs₈.extBut _ _ c1 (hs₇.extBut _ _ c1 (aj _ e));have hT₈:IsPair h₈ h₅.objs.size x y:=hs₈.extBut _ _ (dC hzlt) (hs₇.extBut _ _ (dC hzlt) (aC _ rfl));have hz8:h₈.objs.size=h₅.objs.size+1:=by rw[hs₈.1,hs₇.1,bV]
 rw[hsz]at hz₈ hT₈ hz8;refine ap ⟨_,rfl,?_⟩;show Q (.ref h₅.objs.size) _
 rw[hsz];exact hQ h₈ hz₈ (up _ _ D.TOz hTO₅) (h1₅.at' λo e=>up _ o D.i1z e) (h2₅.at' λo e=>up _ o D.i2z e) hT₈ hz8 λc o c1 c2 c3 c4 e=>up c o c1 (hk₅ c o c1 c2 c3 c4 e)
theorem zhq{b1 b2:Bool}{z TI TO i1 i2 l1 l2:Addr}{k1 k2:Nat}{xs ys:Ac}{a b:Am}{Q:Fin->Shared->Prop}(hh:A.handled=none)(D:ZipApart z TI TO i1 i2 l1 l2)(hz:IsZip s.heap z TI TO .none)(hTI:IsPair s.heap TI (.ref i1) (.ref i2))(hTO:IsPair s.heap TO a b)(h1:ItAt b1 s.heap i1 l1 k1)(h2:ItAt b2 s.heap i2 l2 k2)(hl1:SqAt b1 s.heap l1 xs)(hl2:SqAt b2 s.heap l2 ys)(hend:xs[k1]?=none\/ys[k2]?=none)(hE:∀h' e,(∀c o,c≠z->c≠TO->c≠i1->c≠i2->s.heap.get? c=some o->h'.get? c=some o)->(∃o,h'.get? e=some o/\o.cls=.type "StopIteration")->E (.ref e) {s with heap:=h'}) :
  wpAny (model prog w) A (Builtin.«zip.__next__» ⟨[.ref z],[]⟩) Q E s:=by
 show wpAny _ _ (field (.ref z) 2 >>= _) _ _ _
 refine af (bw hz rfl (x:=.bool false) rfl ?_);show wpAny _ _ (field (.ref z) 3 >>= _) _ _ _
 refine af (bw hz rfl (x:=.ref TI) rfl ?_);refine af (bJ hTI rfl ?_);show wpAny _ _ (Builtin.SmallTypes.ownedTupleIsFree (.ref z) >>= _) _ _ _
 refine af ?_;unfold Builtin.SmallTypes.ownedTupleIsFree;refine af (bw hz rfl (x:=.none) rfl (ap ?_));simp only[dM];refine af (wpAny_rule ?_);refine af (bw hz rfl (x:=.ref TO) rfl ?_);refine af (cB hz (by simp) λh₁ hz₁ hs₁=>?_);replace hz₁:IsZip h₁ z TI TO .ellipsis:=hz₁;refine af ?_;simp only[List.zipIdx_cons,List.zipIdx_nil,gP,List.forIn_nil];refine af (af (fv ?_));show wpAny _ _ (Builtin.SmallTypes.nextOf (.ref i1) >>= _) _ _ _
 cases hx:xs[k1]? with
 |none =>
  refine af (Xo hh (h1.at' λo e=>hs₁.extBut _ _ D.i1z e) (hl1.at' λo e=>hs₁.extBut _ _ D.l1z e) hx λh₂ e hs₂ he=>?_);let⟨oe,hoe,hce⟩:=he;have hz₂:IsZip h₂ z TI TO .ellipsis:=hs₂ _ _ D.i1z.symm hz₁;have hez:e≠z:=λx=>by subst x;rw[hz₂]at hoe;cases hoe;simp at hce
  refine cB hz₂ (by simp) λh₃ _ hs₃=>hE h₃ e (λc o c1 _ c3 _ x=>hs₃.extBut _ _ c1 (hs₂ _ _ c3 (hs₁.extBut _ _ c1 x))) ⟨oe,hs₃.extBut _ _ hez hoe,hce⟩
 |some x =>
  have hy:ys[k2]?=none:=by rcases hend with h|h;rw[hx]at h;cases h;exact h
  refine af (vM (h1.at' λo e=>hs₁.extBut _ _ D.i1z e) (hl1.at' λo e=>hs₁.extBut _ _ D.l1z e) hx λh₂ h1₂ hs₂=>ap ?_);have hTO₂:IsPair h₂ TO a b:=hs₂.extBut _ _ D.TOi1 (hs₁.extBut _ _ D.TOz hTO);refine af (bJ hTO₂ rfl ?_);refine af (eZ hTO₂ λh₃ hTO₃ hs₃=>?_);refine af (wpAny_letGo (ap ?_));refine af (af (fv ?_));show wpAny _ _ (Builtin.SmallTypes.nextOf (.ref i2) >>= _) _ _ _
  refine af (Xo hh (h2.at' λo e=>hs₃.extBut _ _ D.TOi2.symm (hs₂.extBut _ _ D.i12.symm (hs₁.extBut _ _ D.i2z e)))
   (hl2.at' λo e=>hs₃.extBut _ _ D.l2TO (hs₂.extBut _ _ D.l2i1 (hs₁.extBut _ _ D.l2z e))) hy λh₄ e hs₄ he=>?_)
  let⟨oe,hoe,hce⟩:=he;have hz₄:IsZip h₄ z TI TO .ellipsis:=hs₄ _ _ D.i2z.symm (hs₃.extBut _ _ D.TOz.symm (hs₂.extBut _ _ D.i1z.symm hz₁));have hez:e≠z:=λx=>by subst x;rw[hz₄]at hoe;cases hoe;simp at hce
  refine cB hz₄ (by simp) λh₅ _ hs₅=>hE h₅ e (λc o c1 c2 c3 c4 x=>hs₅.extBut _ _ c1 (hs₄ _ _ c4 (hs₃.extBut _ _ c2 (hs₂.extBut _ _ c3 (hs₁.extBut _ _ c1 x))))) ⟨oe,hs₅.extBut _ _ hez hoe,hce⟩
noncomputable abbrev zH1(h:Heap)(b1:Bool)(l1:Addr):Heap:=h.push {cls:=.type (QN b1),data:=.fields #[.ref l1,.int 0 0]}
noncomputable abbrev zH2(h:Heap)(b1 b2:Bool)(l1 l2:Addr):Heap:=(zH1 h b1 l1).push {cls:=.type (QN b2),data:=.fields #[.ref l2,.int 0 0]}
noncomputable abbrev zH3(h:Heap)(b1 b2:Bool)(l1 l2:Addr):Heap:=(zH2 h b1 b2 l1 l2).push {cls:=.type "tuple",data:=.seq #[.ref h.objs.size,.ref (zH1 h b1 l1).objs.size]}
noncomputable abbrev zH4(h:Heap)(b1 b2:Bool)(l1 l2:Addr):Heap:=(zH3 h b1 b2 l1 l2).push {cls:=.type "tuple",data:=.seq #[.none,.none]}
noncomputable abbrev zH5(h:Heap)(b1 b2:Bool)(l1 l2:Addr):Heap:=(zH4 h b1 b2 l1 l2).push {cls:=.type "zip",data:=.fields #[.none,.bool false,.bool false,.ref (zH2 h b1 b2 l1 l2).objs.size,.ref (zH3 h b1 b2 l1 l2).objs.size]}
end
def zeW{b1 b2:Bool}(l1 l2:Addr)(xs ys:Ac) :
  Meets (Builtin.«zip.__new__» ⟨[.type "zip",.ref l1,.ref l2],[]⟩) (λ_ R s=>SqAt b1 s.heap l1 xs/\SqAt b2 s.heap l2 ys /\
   R (.ok (.ret (.ref (zH4 s.heap b1 b2 l1 l2).objs.size))) {s with heap:=zH5 s.heap b1 b2 l1 l2}) :=
 .of_wp λprog w A R s h=>by
  let⟨hp,g,d,tk,os⟩:=s;let⟨hl1,hl2,h⟩:=h;have hsub:=sub_zip;have hL1:SqAt b1 (Shared.heap ⟨hp,g,d,tk,os⟩) l1 xs:=hl1;have hL2:SqAt b2 (Shared.heap ⟨hp.push {cls:=.type (QN b1),data:=.fields #[.ref l1,.int 0 0]},g,d,tk,os⟩) l2 ys:=hl2.at' λo e=>aj _ e
  wp_walk using WL hL1,WL hL2
  exact⟨_,rfl,h⟩
section
variable{prog:Af}{w:World}{A:Ao}{E:A3}{s:An}
def ItAt.new{h:Heap}{it l:Addr}(e:h.get? it=some {cls:=.type (QN b),data:=.fields #[.ref l,.int 0 0]}):ItAt b h it l 0:=by
 cases b<;>exact⟨_,e,rfl,rfl⟩
def zg8{b1 b2:Bool}{l1 l2:Addr}{xs ys:Ac}(hl1:SqAt b1 s.heap l1 xs)(hl2:SqAt b2 s.heap l2 ys)(h:∀h',IsZip h' (s.heap.objs.size+4) (s.heap.objs.size+2) (s.heap.objs.size+3) .none->IsPair h' (s.heap.objs.size+2) (.ref s.heap.objs.size) (.ref (s.heap.objs.size+1)) ->
   IsPair h' (s.heap.objs.size+3) .none .none->ItAt b1 h' s.heap.objs.size l1 0->ItAt b2 h' (s.heap.objs.size+1) l2 0->h'.objs.size=s.heap.objs.size+5 ->
   (∀c o,s.heap.get? c=some o->h'.get? c=some o)->Q (.ref (s.heap.objs.size+4)) {s with heap:=h'}) :
  wpAny (model prog w) A (call (.type "zip") [.ref l1,.ref l2]) Q E s:=by
 refine callType_new F.called_zip (by decide) (F.typeCall_zip_2 _ _) (F.newCall_zip_2 _ _) (λobj=>F.args_object_init_3 obj _ _) F.entry_zip_new
  (zeW (b1:=b1) (b2:=b2) l1 l2 xs ys) ⟨hl1,hl2,?_⟩
 have z1:(zH1 s.heap b1 l1).objs.size=s.heap.objs.size+1:=bV ..;have z2:(zH2 s.heap b1 b2 l1 l2).objs.size=s.heap.objs.size+2:=by rw[bV,z1]
 have z3:(zH3 s.heap b1 b2 l1 l2).objs.size=s.heap.objs.size+3:=by rw[bV,z2]
 have z4:(zH4 s.heap b1 b2 l1 l2).objs.size=s.heap.objs.size+4:=by rw[bV,z3]
 have z5:(zH5 s.heap b1 b2 l1 l2).objs.size=s.heap.objs.size+5:=by rw[bV,z4]
 have g5:(zH5 s.heap b1 b2 l1 l2).get? (zH4 s.heap b1 b2 l1 l2).objs.size=some _:=aC _ rfl;have g4:(zH5 s.heap b1 b2 l1 l2).get? (zH3 s.heap b1 b2 l1 l2).objs.size=some _:=aj _ (aC _ rfl);have g3:(zH5 s.heap b1 b2 l1 l2).get? (zH2 s.heap b1 b2 l1 l2).objs.size=some _:=aj _ (aj _ (aC _ rfl));have g2:(zH5 s.heap b1 b2 l1 l2).get? (zH1 s.heap b1 l1).objs.size=some _:=aj _ (aj _ (aj _ (aC _ rfl)));have g1:(zH5 s.heap b1 b2 l1 l2).get? s.heap.objs.size=some _:=aj _ (aj _ (aj _ (aj _ (aC _ rfl))));show _/\_
 rw[z2,z3,z4]at g5;rw[z1,z2]at g3;rw[z3]at g4;rw[z1]at g2;rw[z4];exact⟨⟨_,g5,rfl⟩,h _ g5 g3 g4 (ItAt.new g1) (ItAt.new g2) z5 λc o x =>
  aj _ (aj _ (aj _ (aj _ (aj _ x))))⟩
end
def SqB(b:Bool)(K:A0)(H:Hp)(a:Addr)(xs:Ap):Prop:=if b=true then SqL K H a xs else SqT K H a xs
def Inv.sqB{p5:A2}{σ:St}{H:Hp}{s:An}{a:Addr}{xs:Ap}(I:Inv X p5 σ H s)(h:SqB b X.K H a xs):∃pi:List Value,Vals xs pi/\SqAt b s.heap a pi.toArray:=by
 cases b
 .obtain⟨pi,r,p,_⟩:=I.tuple (show SqT X.K H a xs from h);exact⟨pi,r,p⟩
 .obtain⟨pi,r,p,_⟩:=I.list (show SqL X.K H a xs from h);exact⟨pi,r,p.isList⟩
def Inv.sqB_inj{p5:A2}{σ:St}{H:Hp}{s:An}{a:Addr}{xs ys:Ap}(I:Inv X p5 σ H s)(h1:SqB b X.K H a xs)(h2:SqB b X.K H a ys):xs=ys:=by
 cases b
 .exact I.tuple_inj (show SqT X.K H a xs from h1) (show SqT X.K H a ys from h2)
 .exact I.list_inj (show SqL X.K H a xs from h1) (show SqL X.K H a ys from h2)
noncomputable def Itz(K:A0)(b1 b2:Bool)(a1 a2:Addr):It :=
 ⟨λi H=>∃xs ys x y,SqB b1 K H a1 xs/\SqB b2 K H a2 ys/\xs[i]?=some x/\ys[i]?=some y,
   λi H v H'=>∃t x y,H t=none/\v=.ref t/\(∀xs,SqB b1 K H a1 xs->xs[i]?=some x)/\(∀ys,SqB b2 K H a2 ys->ys[i]?=some y)/\H'=upd H t (.tup [x,y]),
   λi H=>∃xs ys,SqB b1 K H a1 xs/\SqB b2 K H a2 ys/\(xs.length<=i\/ys.length<=i)⟩
def SqB.there{p5:A2}{σ:St}{H:Hp}{s:An}{a:Addr}{xs:Ap}(I:Inv X p5 σ H s)(h:SqB b X.K H a xs):∃o,s.heap.get? a=some o/\(o.cls=.type "list"\/o.cls=.type "tuple")/\∃pi n,o.data=.seq pi n:=by
 let⟨pi,_,p⟩:=I.sqB h;cases b
 .obtain⟨o,e,c,n,d⟩:=p;exact⟨o,e,.inr c,_,n,d⟩
 .obtain⟨o,e,c,n,d⟩:=p;exact⟨o,e,.inl c,_,n,d⟩
def zfD{P:Af}{w:World}{K:A0}{elts:List Expr}{x1}{pos:Pos}{b1 b2:Bool}(z TI TO i1 i2 l1 l2:Addr)(D:ZipApart z TI TO i1 i2 l1 l2) :
  Turn P w K (.Tuple elts x1 pos) (Itz K b1 b2 l1 l2) [z,TI,TO,i1,i2] z (λi h=>IsZip h z TI TO .none/\IsPair h TI (.ref i1) (.ref i2)/\(∃a b,IsPair h TO a b)/\ItAt b1 h i1 l1 i/\ItAt b2 h i2 l2 i) where
 mem:=by simp
 obj:=λi h st b hb=>by
  let⟨hz,hTI,⟨a,b',hTO⟩,h1,h2⟩:=st;simp only[av,bL,cn]at hb;rcases hb with rfl|rfl|rfl|rfl|rfl
  .exact⟨_,hz,λv z=>by cases z⟩
  .exact⟨_,hTI,λv z=>by cases z⟩
  .exact⟨_,hTO,λv z=>by cases z⟩
  .exact h1.obj
  .exact h2.obj
 keep:=λi h h' st k=>by
  let⟨hz,hTI,⟨a,b',hTO⟩,h1,h2⟩:=st;exact⟨k z (by simp) _ hz,k TI (by simp) _ hTI,⟨a,b',k TO (by simp) _ hTO⟩,h1.at' λo e=>k i1 (by simp) o e,h2.at' λo e=>k i2 (by simp) o e⟩
 item:=by
  intro X hP hw hK hc i p5 s σ H E I hf st hg;subst hP hw hK;let⟨hz,hTI,⟨a,b',hTO⟩,h1,h2⟩:=st;let⟨xs,ys,x,y,q1,q2,hx,hy⟩:=hg;let⟨its1,r1,p1⟩:=I.sqB q1;let⟨its2,r2,p2⟩:=I.sqB q2;let⟨u1,hu1,ru1⟩:=r1.get hx;let⟨u2,hu2,ru2⟩:=r2.get hy;have hT:s.TypeIs (.ref z) "zip":=⟨_,hz,rfl⟩;unfold pyNext;refine af (iB (dh (name:=Str.ofString "__next__") hT eV (eC eV hT F.entry_zip_next
   (zfw D hz hTI hTO h1 h2 p1 p2 (x:=u1) (y:=u2) (by simpa using hu1) (by simpa using hu2) λh' a1 a2 a3 a4 a5 a6 hk=>ap ?_) (F.args_zip_next_1 _))))
  refine⟨_,rfl,?_⟩;have I1:Inv X p5 σ (upd H s.heap.objs.size (.tup [x,y])) {s with heap:=h'}:=I.turnNew (t':=s.toks) hf (au _) (λb o hb q=>hk b o (λz=>hb (by simp[z])) (λz=>hb (by simp[z])) (λz=>hb (by simp[z])) (λz=>hb (by simp[z])) q)
   ⟨by show 2<=sizeLine;decide,[u1,u2],.cons ru1 (.cons ru2 .nil),⟨_,a5,rfl,_,rfl⟩⟩
  have hn:H s.heap.objs.size=none:=I.hok.fresh (au _);have ne:∀b∈[z,TI,TO,i1,i2],b≠s.heap.objs.size:=λb hb=>by
   have:∃o,s.heap.get? b=some o:=by
    simp only[av,bL,cn]at hb;rcases hb with rfl|rfl|rfl|rfl|rfl
    .exact⟨_,hz⟩
    .exact⟨_,hTI⟩
    .exact⟨_,hTO⟩
    .exact let⟨o,e,_⟩:=h1.obj;⟨o,e⟩
    .exact let⟨o,e,_⟩:=h2.obj;⟨o,e⟩
   let⟨o,e⟩:=this;exact aP (aB e)
  have fr:∀b∈[z,TI,TO,i1,i2],(upd H s.heap.objs.size (.tup [x,y])) b=none:=λb hb=>by rw[pE (ne b hb)];exact(hf b hb).1
  have hTI':IsPair h' TI (.ref i1) (.ref i2):=hk _ _ D.TIz D.TITO D.TIi1 D.TIi2 hTI;refine wpAny_letOwnedTupleGo_zip a1 λh'' hz'' hs''=>?_;refine⟨.ref s.heap.objs.size,_,I1.turnL (t':=s.toks) (ch:=[z]) (λb hb=>?_) (λb o hb q=>(hs''.2 b (λz=>hb (by simp[z]))).trans q),rfl,
   ⟨s.heap.objs.size,x,y,hn,rfl,λzs hy=>by rw[I.sqB_inj hy q1];exact hx,λzs hz=>by rw[I.sqB_inj hz q2];exact hy,rfl⟩,
   ⟨hz'',hs''.extBut _ _ D.TIz hTI',⟨_,_,hs''.extBut _ _ D.TOz a2⟩,a3.at' λo e=>hs''.extBut _ _ D.i1z e,a4.at' λo e=>hs''.extBut _ _ D.i2z e⟩,fr⟩
  obtain rfl:b=z:=by simpa using hb
  exact⟨fr b (by simp),(hf b (by simp)).2⟩
 done:=by
  intro X hP hw hK hc i p5 s σ H E I hf st hg;subst hP hw hK;let⟨hz,hTI,⟨a,b',hTO⟩,h1,h2⟩:=st;let⟨xs,ys,q1,q2,hx⟩:=hg;let⟨its1,r1,p1⟩:=I.sqB q1;let⟨its2,r2,p2⟩:=I.sqB q2;have e1:=r1.length;have e2:=r2.length;have hT:s.TypeIs (.ref z) "zip":=⟨_,hz,rfl⟩;have hend:its1.toArray[i]?=none\/its2.toArray[i]?=none:=by
   rcases hx with h|h
   .exact .inl (by simp;lia)
   .exact .inr (by simp;lia)
  unfold pyNext;refine af (iB (dh (name:=Str.ofString "__next__") hT eV
   (eC eV hT F.entry_zip_next (zhq (I.ok.hd hc) D hz hTI hTO h1 h2 p1 p2 hend λh' e hk he=>?_) (F.args_zip_next_1 _))))
  let⟨o,ho,hcl⟩:=he;refine af (fR (T:="StopIteration") (b:=true) ⟨o,ho,hcl⟩ isSubtype_stop ?_);exact ap ⟨rfl,I.turnL (t':=s.toks) hf λb o hb q=>hk b o (λz=>hb (by simp[z])) (λz=>hb (by simp[z])) (λz=>hb (by simp[z])) (λz=>hb (by simp[z])) q⟩
 self:=λ_ _ _ _ _ st h=>wpAny_pyIter_zip st.1 h
def zee(n l1 l2:Nat)(h1:l1<n)(h2:l2<n):ZipApart (n+4) (n+2) (n+3) n (n+1) l1 l2:=by
 constructor<;>(show(_:Nat)≠_)<;>lia
def iZip(X:Cx)(ta:TA):TI:=λσ H R=>X.mg "zip"=none/\ta σ H λvs H1=>∃b1 b2 l1 l2 xs ys,vs=[.ref l1,.ref l2]/\SqB b1 X.K H1 l1 xs/\SqB b2 X.K H1 l2 ys/\R (Itz X.K b1 b2 l1 l2) H1
def zgf{a b:Expr}{elts:List Expr}{x1}{tp p pos:Pos}{ta:TA}(ha:PA X [a,b] ta)(hg:Gl X "zip":=by rfl)(hs:starEach [a,b] X.env=(false,eval a X.env)::starEach [b] X.env:=by rfl)(hpl:(backTo pos (starEach [b] X.env)).any (·.1)=false:=by rfl) :
  PI X (.Tuple elts x1 tp) (.Call (.Name "zip" p) [a,b] [] pos) (iZip X ta):=by
 intro p5 s σ H R I h;refine bP (vS I hg h.1 zj3 ?_);refine bB (vo (ha pos p5 s σ H _ I h.2) λus s1 vs H1 I1 r1 q1=>?_) hs hpl;let⟨b1,b2,l1,l2,xs,ys,rfl,q1,q2,hR⟩:=q1;let⟨u1,u2,rfl,rx,ry⟩:=ziK r1;cases rx;cases ry;let⟨its1,rv1,p1⟩:=I1.sqB q1;let⟨its2,rv2,p2⟩:=I1.sqB q2;let⟨o1,e1,_⟩:=SqB.there I1 q1;let⟨o2,e2,_⟩:=SqB.there I1 q2;have n1:=aB e1;have n2:=aB e2;refine zg8 p1 p2 λh' hz hTI hTO h1 h2 hsz hk=>wpAny_pyIter_zip hz ?_;refine⟨s1.heap.objs.size+4,[s1.heap.objs.size+4,s1.heap.objs.size+2,s1.heap.objs.size+3,s1.heap.objs.size,s1.heap.objs.size+1],_,_,H1,rfl,I1.kept (t':=s1.toks) hk,
  zfD _ _ _ _ _ l1 l2 (zee _ _ _ n1 n2),⟨hz,hTI,⟨_,_,hTO⟩,h1,h2⟩,λb hb=>?_,hR⟩
 have ge:s1.heap.objs.size<=b:=by
  simp only[av,bL,cn]at hb;rcases hb with rfl|rfl|rfl|rfl|rfl
  .exact dU _ _
  .exact dU _ _
  .exact dU _ _
  .exact au _
  .exact dU _ _
 exact I1.fpOk ge (I1.hok.fresh ge)
section
variable{K:A0}{σ:St}{H:Hp}
def XH{a:Addr}{xs:Ap}{DN:St->Hp->Prop}{B:(St->Hp->Prop)->V->St->Hp->Prop}(Pv:Nat->St->Hp->Prop)(h0:Pv 0 σ H)(hl:∀i σ H,i<=xs.length->Pv i σ H->SqL K H a xs)(hs:∀i x t σ H,xs[i]?=some x->H t=none->Pv i σ H->B (Pv (i+1)) (.ref t) σ (upd H t (.tup [.int i,x])))(hd:∀σ H,Pv xs.length σ H->DN σ H) :
  ∃W:Nat->Nat->St->Hp->Prop,(∃m,W 0 m σ H)/\∀i m σ H,W i m σ H ->
   ((Ite K a).stop i H/\DN σ H)\/((Ite K a).go i H/\∃N:St->Hp->Prop,(∀σ' H',N σ' H'->∃m',m'<m/\W (i+1) m' σ' H')/\∀x H',(Ite K a).yld i H x H'->B N x σ H'):=by
 refine⟨λi m σ H=>m=xs.length-i/\i<=xs.length/\Pv i σ H,⟨xs.length,by simp,bz _,h0⟩,?_⟩;rintro i m σ H ⟨rfl,hi,p⟩;have q:=hl i σ H hi p;by_cases hlt:i<xs.length
 .refine .inr ⟨⟨xs,xs[i],q,by simp[hlt]⟩,Pv (i+1),λσ' H' p'=>⟨xs.length-(i+1),by lia,rfl,hlt,p'⟩,λv H' y=>?_⟩;let⟨t,x,ht,rfl,hx,rfl⟩:=y;exact hs i x t σ _ (hx xs q) ht p
 .have e:i=xs.length:=by lia
  subst e;exact .inl ⟨⟨xs,q,au _⟩,hd σ H p⟩
def ziW{b1 b2:Bool}{a1 a2:Addr}{xs ys:Ap}{DN:St->Hp->Prop}{B:(St->Hp->Prop)->V->St->Hp->Prop}(Pv:Nat->St->Hp->Prop)(h0:Pv 0 σ H)(hl:∀i σ H,i<=min xs.length ys.length->Pv i σ H->SqB b1 K H a1 xs/\SqB b2 K H a2 ys)(hs:∀i x y t σ H,xs[i]?=some x->ys[i]?=some y->H t=none->Pv i σ H->B (Pv (i+1)) (.ref t) σ (upd H t (.tup [x,y])))(hd:∀σ H,Pv (min xs.length ys.length) σ H->DN σ H) :
  ∃W:Nat->Nat->St->Hp->Prop,(∃m,W 0 m σ H)/\∀i m σ H,W i m σ H ->
   ((Itz K b1 b2 a1 a2).stop i H/\DN σ H)\/((Itz K b1 b2 a1 a2).go i H/\∃N:St->Hp->Prop,(∀σ' H',N σ' H'->∃m',m'<m/\W (i+1) m' σ' H')/\∀x H',(Itz K b1 b2 a1 a2).yld i H x H'->B N x σ H'):=by
 refine⟨λi m σ H=>m=min xs.length ys.length-i/\i<=min xs.length ys.length/\Pv i σ H,⟨min xs.length ys.length,by simp,bz _,h0⟩,?_⟩;rintro i m σ H ⟨rfl,hi,p⟩;let⟨q1,q2⟩:=hl i σ H hi p;by_cases hlt:i<min xs.length ys.length
 .have l1:i<xs.length:=by lia
  have l2:i<ys.length:=by lia
  refine .inr ⟨⟨xs,ys,xs[i],ys[i],q1,q2,by simp[l1],by simp[l2]⟩,Pv (i+1),λσ' H' p'=>⟨min xs.length ys.length-(i+1),by lia,rfl,hlt,p'⟩,λv H' y=>?_⟩;let⟨t,x,y,ht,rfl,hx,hy,rfl⟩:=y;exact hs i x y t σ _ (hx xs q1) (hy ys q2) ht p
 .have e:i=min xs.length ys.length:=by lia
  subst e;exact .inl ⟨⟨xs,ys,q1,q2,by lia⟩,hd σ H p⟩
end
section
variable{X:Cx}{N:A8}{scope:Scope}{s:An}{H:Hp}{fp:Ab}{p5:A2}
theorem cxC_K:(cxC X N scope s H fp p5).K=X.K:=rfl
theorem cxC_mg:(cxC X N scope s H fp p5).mg=X.mg:=rfl
theorem cxC_prog:(cxC X N scope s H fp p5).prog=X.prog:=rfl
theorem cxC_w:(cxC X N scope s H fp p5).w=X.w:=rfl
theorem cxC_base:(cxC X N scope s H fp p5).base=X.base:=rfl
end
structure BCal(P:Af)(w:World)(K:A0)(mg:A4)(base:Heap)(x m:Str)(k:Nat)(ps:A8)(dvs:Ap)(sp:Sp):Prop where
 ex:∃C f fd ds,mg x=some (.ref C)/\specialIn K (.ref C) "__getattribute__"=some (some (.builtin "type.__getattribute__"))/\readsIn K C (.type "type")=true /\
  findCls K (.ref C) (.type "type") m=some (.val (.ref f))/\handedIn (.ref f)=true/\FnOk P w K mg base (CXr P w) k f fd ps sp/\keepIn K (.ref f)=true/\Binds K fd ps ds/\Vals dvs ds
def BCal.mono{P:Af}{w:World}{K:A0}{mg:A4}{base:Heap}{x m:Str}{j k:Nat}{ps:A8}{dvs:Ap}{sp:Sp}(c:BCal P w K mg base x m j ps dvs sp)(h:j<=k:=by decide):BCal P w K mg base x m k ps dvs sp:=by
 let⟨C,f,fd,ds,a,b,c,d,e,g,r⟩:=c.ex;exact⟨C,f,fd,ds,a,b,c,d,e,g.mono h,r⟩
section
variable{X:Cx}{G:GK}{k:Nat}{x m:Str}{p pos apos:Pos}{e:Expr}{es:List Expr}{t:TA}
def tBase(X:Cx)(k:Nat)(x m:Str)(G:GK)(t:TA):TE:=λσ H Q=>∃ps dvs sp,BCal X.prog X.w X.K X.mg X.base x m k ps dvs sp/\t σ H λvs H1=>sp (vs++dvs) H1 Q (λcls _ H'=>G cls σ H')
def Zh{pl:Sem Bool}(B:Bod X)(hr:Room k X.A)(ha:PA (X.exg G) (e::es) t)(hg:Gl X x:=by rfl)(hdb:(x == ("__debug__":Str))=false:=by decide)(hst:starEach (e::es) X.env=(false,eval e X.env)::starEach es X.env:=by rfl)(hpl:(backTo pos (starEach es X.env)).any (·.1)=false:=by rfl)(ht:eval (.Call (.Attribute (.Name x p) m apos) (e::es) [] pos) X.env=(do
   let ov <- eval (.Name x p) X.env
   standAt apos.atName
   let(f,first) <- holding [ov] (getMethod ov m pl)
   callWith pos f first (backTo pos (starEach (e::es) X.env)) (backToKw pos (keywordEach [] X.env))):=by rfl) :
  PE (X.exg G) (.Call (.Attribute (.Name x p) m apos) (e::es) [] pos) (tBase X k x m G t):=by
 intro p5 s σ H Q I h;let⟨ps,dvs,sp,⟨C,f,fd,ds,hm,hga,hrd,hfc,hhd,F,hk,hb,hd⟩,h⟩:=h;refine eD (pl:=pl) (jO I hg hm ?_ hdb) ht;refine PySem.W.method_cls I.kIn hga (PySem.W.cls_value I.kIn hrd hfc hhd ?_);have I0:=I.tok (s.toks+1);refine dX (first:=[]) (h₀:=X.base) I.ok.mod.kin hk (vo (ha pos p5 _ σ H _ I0 h) λus s1 vs H1 I1 r q=>⟨I1.kIn,?_⟩) hst hpl;exact JB B F hr hb hd I1 r q
end
structure FB(K:A0)(mg:A4)(x m qual:Str)(st:Stmt)(ps:A8):Prop where
 ex:∃C f fd,mg x=some (.ref C)/\specialIn K (.ref C) "__getattribute__"=some (some (.builtin "type.__getattribute__"))/\readsIn K C (.type "type")=true /\
  findCls K (.ref C) (.type "type") m=some (.val (.ref f))/\Fun K m qual st f fd/\keepIn K (.ref f)=true/\Binds K fd ps []
def FB.cal{P:Af}{w:World}{K:A0}{mg:A4}{base:Heap}{x m qual:Str}{st:Stmt}{ps:A8}{k:Nat}{sp:Sp}(h:FB K mg x m qual st ps)(ok:∀{f fd},Fun K m qual st f fd->FnOk P w K mg base (CXr P w) k f fd ps sp):BCal P w K mg base x m k ps [] sp:=by
 let⟨C,f,fd,a,b,c,d,F,kp,bi⟩:=h.ex;exact⟨C,f,fd,[],a,b,c,d,rfl,ok F,kp,bi,.nil⟩
def fb_mk{K:A0}{mg:A4}{C:Addr}{x m qual:Str}{st:Stmt}{ps:A8}{f:Addr}{oc:Am}{od an:Aa}{osl:Ae}{kV doc pm cdv ct:Am}(gl:mg x=some (.ref C))(ga:specialIn K (.ref C) "__getattribute__"=some (some (.builtin "type.__getattribute__")))(rd:readsIn K C (.type "type")=true)(fc:findCls K (.ref C) (.type "type") m=some (.val (.ref f)))(l:K.lookup f=some ⟨oc,od,.func (fnOf m qual (qx st) (qp st) (zg st) .none kV doc pm an cdv ct),osl⟩)(c:codeIn K cdv qual=true)(k:keepIn K (.ref f)=true)(hb:∀(kV doc pm:Am)(an:Aa)(cdv ct:Am)(us:A7),us.length=ps.length->bindArgs (fnOf m qual (qx st) (qp st) (zg st) .none kV doc pm an cdv ct) ⟨us,[]⟩=pure (ps.zip us)):FB K mg x m qual st ps :=
 ⟨C,f,_,gl,ga,rd,fc,wM l c k,k,(wM l c k).binds hb⟩
section
variable{X:Cx}{a b:Expr}{ta:TA}{p pos lp lpos:Pos}
noncomputable def rgL(lo:Int)(n:Nat):List V:=(List.range n).map λ(i:Nat)=>V.int (lo+(i:Int))
def zcd{lo:Int}{n:Nat}{pv:Ac}(h:ItemsOf (λi v=>∃t,v=.int (lo+i*1) t) pv n):Vals (rgL lo n) pv.toList:=by
 have key:∀(k:Nat)(l:A7)(m:Nat),l.length=m->(∀i v,l[i]?=some v->∃t,v=Value.int (lo+((k+i:Nat):Int)) t)->Vals ((List.range' k m).map λ(i:Nat)=>V.int (lo+(i:Int))) l:=by
  intro k l
  induction l generalizing k with
  |nil=>intro m hm _;simp at hm;subst hm;exact .nil
  |cons x r ih =>
   intro m hm hv;let⟨m,rfl⟩:∃m',m=m'+1:=⟨r.length,by simpa using hm.symm⟩;rw[List.range'_succ,bF];refine .cons ?_ (ih (k+1) m (by simpa using hm) λi v e=>?_)
   .obtain⟨t,e⟩:=hv 0 x rfl;exact⟨t,by simpa using e⟩
   .obtain⟨t,e'⟩:=hv (i+1) v (by simpa using e);exact⟨t,by rw[e'];congr 2;lia⟩
 have:=key 0 pv.toList n (by simpa using h.1) λi v e=>by
  let⟨t,e'⟩:=h.2 i v (by simpa using e);exact⟨t,by rw[e'];simp⟩
 rw[rgL,List.range_eq_range'];exact this
def tRg1(X:Cx)(ta:TA):TE:=λσ H Q=>X.mg "range"=none/\ta σ H λvs H1=>lq vs λv=>iq v λj=>∀p,H1 p=none->Q (.ref p) (upd H1 p (.rng 0 j))
def zjp(ha:PA X [a] ta)(hg:Gl X "range":=by rfl)(hs:starEach [a] X.env=[(false,eval a X.env)]:=by rfl):PE X (.Call (.Name "range" p) [a] [] pos) (tRg1 X ta):=by
 intro p5 s σ H Q I h;refine Call_ (vS I hg h.1 boot_range (bB (vo (ha pos p5 s σ H _ I h.2) λus s1 vs H1 I1 r1 q1=>?_) hs rfl));let⟨j,e,q⟩:=zgA q1;subst e;cases r1 with
 |cons r rr =>
  cases rr;let⟨t,rfl⟩:=r;exact call_range_1 ⟨.ref _,_,I1.laid (o:=.rng 0 j) (λb o e=>aj _ e) (au _) ⟨_,_,_,aC _ rfl⟩,rfl,q _ I1.fresh⟩
def zcC{lo:Int}{n:Nat}:(rgL lo n).length=n:=by simp[rgL]
def zhf(hc:X.calm=true):CallR X (.type "list") (λxs H Q=>∃p lo hi,xs=[.ref p]/\H p=some (.rng lo hi)/\(-(2^62)<=lo/\lo<2^62/\-(2^62)<=hi/\hi<2^62/\(hi-lo).toNat<=1000)/\∀l,H l=none->Q (.ref l) (upd H l (.lst (rgL lo (hi-lo).toNat)))):=by
 intro p5 s σ H xs us Q I r h;let⟨p,lo,hi,rfl,hq,⟨h1,h2,h3,h4,h5⟩,q⟩:=h;let⟨u,rfl,rx⟩:=wR r;cases rx;let⟨t,u,v,e⟩:=I.hok p _ hq;refine call_list_range (n:=(hi-lo).toNat) (I.ok.hd hc) e (small_one h1 h2 h3 h4) (by rw[rangeSize_one];split<;>lia) (by lia) λh' tk acc' c' hk hS hit=>?_;exact⟨.ref _,_,I.laid (o:=.lst (rgL lo (hi-lo).toNat)) (t':=tk) hk (au _) ⟨by rw[zcC];exact b8 (zn h5),acc'.toList,c',zcd hit,by simpa using hS⟩,rfl,q _ I.fresh⟩
end
end L2
namespace L2
open PySem PySem.Spec PyProof.Rows
noncomputable def Itd(lo:Int)(n:Nat):It:=⟨λi _=>i<n,λi H x H'=>H'=H/\x=.int (lo-i),λi _=>n<=i⟩
def zej{P:Af}{w:World}{K:A0}{tg:Expr}(it:Addr)(lo:Int)(n:Nat):Turn P w K tg (Itd lo n) [it] it (λi h=>IsRangeIter h it (lo+(i:Nat)*(-1)) ((n:Int)-(i:Nat)) (-1)) where
 mem:=by simp
 obj:=λi h st b hb=>by
  have e:b=it:=by simpa using hb
  subst e;exact⟨_,st,λv z=>by
   have z':Data.fields _=Data.cell v:=z;cases z'⟩
 keep:=λi h h' st k=>k it (by simp) _ st
 item:=by
  intro X hP hw hK hc i p5 s σ H E I hf st hg;subst hP hw hK;let⟨f0,f1,f2,f3,f4,f5⟩:=hf it (by simp);have W:=Walks.range (prog:=X.prog) (w:=X.w) (I.ok.hd hc) it lo (-1) n;refine W.item i s _ _ hg st λv h' tk hv st' kk=>?_;let⟨t,rfl⟩:=hv;have I1:Inv X p5 σ H {s with heap:=h',toks:=tk}:=I.turned (λb o hb e=>kk b o (by simpa using hb) e) f0 f1 f3 f4 f5;refine⟨_,rfl,zbR (s:={s with heap:=h',toks:=tk}) (n:="range_iterator") st' rfl rfl (by decide) ⟨.int (lo-i),H,I1,⟨t,?_⟩,⟨rfl,rfl⟩,st',λb hb=>(hf b hb).1⟩⟩
  congr 1;lia
 done:=by
  intro X hP hw hK hc i p5 s σ H E I hf st hg;subst hP hw hK;let⟨f0,f1,f2,f3,f4,f5⟩:=hf it (by simp);exact wpAny_pyNext_range_end (I.ok.hd hc) st (by have:n<=i:=hg;lia) λh' eb=>⟨rfl,I.turned (t':=s.toks) (λb o hb e=>eb b o hb e) f0 f1 f3 f4 f5⟩
 self:=λ_ _ _ _ _ st h=>wpAny_pyIter_rangeiter st h
def vH(a b:Int):Builtin.Range.rangeSize a b (-1)=((a-b).toNat:Int):=by
 unfold Builtin.Range.rangeSize;rw[ak (by decide),show(- (-1:Int))=1 from rfl,Int.ediv_one]
 split<;>lia
def zcn{a b:Int}(ha:-(2^62)<=a)(ha':a<2^62)(hb:-(2^62)<=b)(hb':b<2^62):Builtin.Range.small a b (-1)=true:=by
 unfold Builtin.Range.small;rw[vH];simp only[Builtin.Range.rangeFitsLong,ci,Bool.or_eq_true,bR,bM,show ¬((-1:Int)>0) by decide,br]
 lia
section
variable{X:Cx}{tg:Expr}
def zik{p5:A2}{σ:St}{H:Hp}{s:An}{R:It->Hp->Prop}{E:A3}{lo hi:Int}{t u v:Tok}{tk:Nat}(I:Inv X p5 σ H s)(h1:-(2^62)<=lo)(h2:lo<2^62)(h3:-(2^62)<=hi)(h4:hi<2^62)(q:R (Itd lo (lo-hi).toNat) H):wpAny (model X.prog X.w) X.A (pyIter (.ref s.heap.objs.size)) (PIE X p5 σ tg R) E {s with heap:=s.heap.push {cls:=.type "range",data:=.fields #[.int lo t,.int hi u,.int (-1) v]},toks:=tk}:=by
 refine wpAny_pyIter_range (IsRange.new ..) (zcn h1 h2 h3 h4) ?_;have I1:Inv X p5 σ H {s with heap:=s.heap.push {cls:=.type "range",data:=.fields #[.int lo t,.int hi u,.int (-1) v]},toks:=tk}:=I.kept λb o e=>aj _ e;refine⟨(s.heap.push {cls:=.type "range",data:=.fields #[.int lo t,.int hi u,.int (-1) v]}).objs.size,[(s.heap.push {cls:=.type "range",data:=.fields #[.int lo t,.int hi u,.int (-1) v]}).objs.size],_,_,H,rfl,
  I1.kept (t':=tk) λb o e=>aj _ e,zej _ lo (lo-hi).toNat,?_,λb hb=>?_,q⟩
 .have e1:lo+((0:Nat):Int)*(-1)=lo:=by simp
  have e2:(((lo-hi).toNat:Nat):Int)-((0:Nat):Int)=Builtin.Range.rangeSize lo hi (-1):=by rw[vH];lia
  show IsRangeIter _ _ (lo+((0:Nat):Int)*(-1)) ((((lo-hi).toNat:Nat):Int)-((0:Nat):Int)) (-1)
  rw[e1,e2];exact aC _ rfl
 .have e:b=(s.heap.push {cls:=.type "range",data:=.fields #[.int lo t,.int hi u,.int (-1) v]}).objs.size:=by simpa using hb
  subst e;exact I1.fpOk (au _) (I1.hok.fresh (au _))
def iRng3(X:Cx)(ta:TA):TI:=λσ H R=>X.mg "range"=none/\ta σ H λvs H1=>∃i j:Int,vs=[.int i,.int j,.int (-1)]/\(-1000<=i/\i<1000/\-1000<=j/\j<1000)/\R (Itd i (i-j).toNat) H1
theorem zjn{a b c:Expr}{ta:TA}{p pos:Pos}(ha:PA X [a,b,c] ta)(hg:Gl X "range":=by rfl)(hs:starEach [a,b,c] X.env=[(false,eval a X.env),(false,eval b X.env),(false,eval c X.env)]:=by rfl)(hs2:starEach [b,c] X.env=[(false,eval b X.env),(false,eval c X.env)]:=by rfl) :
  PI X tg (.Call (.Name "range" p) [a,b,c] [] pos) (iRng3 X ta):=by
 intro p5 s σ H R I h;refine Call_ (vS I hg h.1 boot_range (bB (vo (ha pos p5 s σ H _ I h.2) λus s1 vs H1 I1 r1 q1=>?_) (by rw[hs,hs2]) (by rw[hs2];rfl)));let⟨i,j,e,⟨q1,q2,q3,q4⟩,q⟩:=q1;subst e;cases r1 with
 |cons r rr =>
  cases rr with
  |cons r' rr =>
   cases rr with
   |cons r'' rr =>
    cases rr;let⟨t,rfl⟩:=r;let⟨t',rfl⟩:=r';let⟨t'',rfl⟩:=r'';exact call_range_3 (by decide) (zik I1 (by lia) (by lia) (by lia) (by lia) q) (Or.inl (gA (by lia)))
def zkQ{K:A0}{σ:St}{H:Hp}{lo:Int}{n:Nat}{DN:St->Hp->Prop}{B:(St->Hp->Prop)->V->St->Hp->Prop}(Pv:Nat->St->Hp->Prop)(h0:Pv 0 σ H)(hs:∀i σ H,i<n->Pv i σ H->B (Pv (i+1)) (.int (lo-i)) σ H)(hd:∀σ H,Pv n σ H->DN σ H) :
  ∃W:Nat->Nat->St->Hp->Prop,(∃m,W 0 m σ H)/\∀i m σ H,W i m σ H ->
   ((Itd lo n).stop i H/\DN σ H)\/((Itd lo n).go i H/\∃N:St->Hp->Prop,(∀σ' H',N σ' H'->∃m',m'<m/\W (i+1) m' σ' H')/\∀x H',(Itd lo n).yld i H x H'->B N x σ H'):=by
 refine⟨λi m σ H=>m=n-i/\i<=n/\Pv i σ H,⟨n,by simp,bz _,h0⟩,?_⟩;rintro i m σ H ⟨rfl,hi,p⟩;by_cases hlt:i<n
 .refine .inr ⟨hlt,Pv (i+1),λσ' H' p'=>⟨n-(i+1),by lia,rfl,hlt,p'⟩,λx H' y=>?_⟩;let⟨e,y⟩:=y;subst e y;exact hs i σ _ hlt p
 .have e:i=n:=by lia
  subst e;exact .inl ⟨au _,hd σ H p⟩
end
section
variable{X:Cx}{tg:Expr}
def Its(x:Str):It:=⟨λi _=>i<x.cps.size,λi H v H'=>H'=H/\∃c,x.cps[i]?=some c/\v=.str ⟨#[c]⟩,λi _=>i=x.cps.size⟩
def zfE{P:Af}{w:World}{K:A0}{tg:Expr}(it:Addr)(x:Str)(t:Tok)(nm:String)(hn:nm="str_ascii_iterator"\/nm="str_iterator")(W:∀A:Around,A.handled=none->Walks P w A it [it] [it] x.cps.size (SignAt x) (λi h=>h.IsStrIter it nm x t i))(hself:∀(A:Ao)(i:Nat)(s:An)(Q:A3)(E:A3),s.heap.IsStrIter it nm x t i->Q (.ref it) s->wpAny (model P w) A (pyIter (.ref it)) Q E s):Turn P w K tg (Its x) [it] it (λi h=>h.IsStrIter it nm x t i) where
 mem:=by simp
 obj:=λi h st b hb=>by
  have e:b=it:=by simpa using hb
  subst e;let⟨o,e,c,d⟩:=st;exact⟨o,e,λv z=>by rw[d]at z;cases z⟩
 keep:=λi h h' st k=>let⟨o,e,r⟩:=st;⟨o,k it (by simp) o e,r⟩
 item:=by
  intro X hP hw hK hc i p5 s σ H E I hf st hg;subst hP hw hK;let⟨f0,f1,f2,f3,f4,f5⟩:=hf it (by simp);refine(W X.A (I.ok.hd hc)).item i s _ _ hg st λv h' tk hv st' kk=>?_;let⟨c,u,hcx,rfl⟩:=hv;have I1:Inv X p5 σ H {s with heap:=h',toks:=tk}:=I.turned (λb o hb e=>kk b o (by simpa using hb) e) f0 f1 f3 f4 f5;let⟨o,e,c1,d⟩:=id st';refine⟨_,rfl,zbR (s:={s with heap:=h',toks:=tk}) e c1 d (by rcases hn with rfl|rfl<;>decide) ⟨.str ⟨#[c]⟩,H,I1,⟨_,rfl⟩,⟨rfl,c,hcx,rfl⟩,st',λb hb=>(hf b hb).1⟩⟩
 done:=by
  intro X hP hw hK hc i p5 s σ H E I hf st hg;subst hP hw hK;have hg:i=x.cps.size:=hg;subst hg;let⟨f0,f1,f2,f3,f4,f5⟩:=hf it (by simp);exact(W X.A (I.ok.hd hc)).done s _ _ st λh' tk kk=>⟨rfl,I.turned (λb o hb e=>kk b o (by simpa using hb) e) f0 f1 f3 f4 f5⟩
 self:=hself
def iStr(tl:TE):TI:=λσ H R=>tl σ H λv H1=>∃x,v=.str x/\R (Its x) H1
def zjm{l:Expr}{tl:TE}(hl:PE X l tl):PI X tg l (iStr tl):=by
 intro p5 s σ H R I h;refine qI (hl p5 s σ H _ I h) λv s1 y H1 I1 r1 q1=>?_;let⟨x,e,q⟩:=q1;subst e;let⟨t,rfl⟩:=r1;have fin:∀nm,nm="str_ascii_iterator"\/nm="str_iterator"->(∀A:Around,A.handled=none->Walks X.prog X.w A s1.heap.objs.size [s1.heap.objs.size] [s1.heap.objs.size] x.cps.size (SignAt x) (λi h=>h.IsStrIter s1.heap.objs.size nm x t i)) ->
   (∀(A:Ao)(i:Nat)(s:An)(Q:A3)(E:A3),s.heap.IsStrIter s1.heap.objs.size nm x t i->Q (.ref s1.heap.objs.size) s->wpAny (model X.prog X.w) A (pyIter (.ref s1.heap.objs.size)) Q E s) ->
   PIE X p5 σ tg R (.ref s1.heap.objs.size) {s1 with heap:=s1.heap.push {cls:=.type nm,data:=.fields #[.str x t,.int 0 0]} }:=by
  intro nm hn W hs;refine⟨s1.heap.objs.size,[s1.heap.objs.size],_,_,H1,rfl,I1.kept (t':=s1.toks) λb o e=>aj _ e,zfE _ x t nm hn W hs,⟨_,aC _ rfl,rfl,rfl⟩,λb hb=>?_,q⟩;have e:b=s1.heap.objs.size:=by simpa using hb
  subst e;exact I1.fpOk (au _) (I1.hok.fresh (au _))
 cases ha:x.cps.all (· < 128)
 .exact wpAny_pyIter_wide ha (fin _ (.inr rfl) (λA hA=>Walks.strWide hA _ x t) λ_ _ _ _ _ st h=>wpAny_pyIter_striter_wide st h)
 .exact wpAny_pyIter_ascii ha (fin _ (.inl rfl) (λA hA=>Walks.strAscii hA _ x t) λ_ _ _ _ _ st h=>wpAny_pyIter_striter_ascii st h)
def zkP{σ:St}{H:Hp}{x:Str}{DN:St->Hp->Prop}{B:(St->Hp->Prop)->V->St->Hp->Prop}(Pv:Nat->St->Hp->Prop)(h0:Pv 0 σ H)(hs:∀i c σ H,x.cps[i]?=some c->Pv i σ H->B (Pv (i+1)) (.str ⟨#[c]⟩) σ H)(hd:∀σ H,Pv x.cps.size σ H->DN σ H) :
  ∃W:Nat->Nat->St->Hp->Prop,(∃m,W 0 m σ H)/\∀i m σ H,W i m σ H ->
   ((Its x).stop i H/\DN σ H)\/((Its x).go i H/\∃N:St->Hp->Prop,(∀σ' H',N σ' H'->∃m',m'<m/\W (i+1) m' σ' H')/\∀v H',(Its x).yld i H v H'->B N v σ H'):=by
 refine⟨λi m σ H=>m=x.cps.size-i/\i<=x.cps.size/\Pv i σ H,⟨x.cps.size,by simp,bz _,h0⟩,?_⟩;rintro i m σ H ⟨rfl,hi,p⟩;by_cases hlt:i<x.cps.size
 .refine .inr ⟨hlt,Pv (i+1),λσ' H' p'=>⟨x.cps.size-(i+1),by lia,rfl,hlt,p'⟩,λv H' y=>?_⟩;let⟨e,c,hc,y⟩:=y;subst e y;exact hs i c σ _ hc p
 .have e:i=x.cps.size:=by lia
  subst e;exact .inl ⟨rfl,hd σ H p⟩
def zjy:OpR X (compareOp .In) (λx y H Q=>∃i j,x=.str i/\y=.str j/\Q (.bl (!(Builtin.Str.occurrences j i 0 j.length 1).isEmpty)) H):=zeQ
def ziu:CallR X (.type "int") (λxs H Q=>∃x n,xs=[.str x]/\PySem.intText? x=some n/\x.length<=640/\Q (.int n) H):=by
 intro p5 s σ H xs us Q I r h;let⟨x,n,rfl,hn,hl,q⟩:=h;let⟨u,rfl,rx⟩:=wR r;let⟨t,rfl⟩:=rx;exact PySem.W.KIN.call_text hn hl ⟨.int n,H,I.tok _,⟨_,rfl⟩,q⟩
def zhk(hc:X.calm=true):CallR X (.builtin "all") (λxs H Q=>∃p,∃bs:List Bool,xs=[.ref p]/\H p=some (.lst (bs.map V.bl))/\Q (.bl (bs.all id)) H):=by
 intro p5 s σ H xs us Q I r h;let⟨p,bs,rfl,hp,q⟩:=h;let⟨u,rfl,rx⟩:=wR r;cases rx;let⟨pi,rv,hl,hz⟩:=I.list (SqL.of (K:=X.K) hp);have hl':=hl.isList;have hlt:p<s.heap.objs.size:=by let⟨_,e,_⟩:=hl';exact aB e
 have hlen:pi.length=bs.length:=by have:=rv.length;rw[ai]at this;exact this.symm
 refine call_all_walk (dq hl' ?_);refine⟨s.heap.objs.size,[s.heap.objs.size,p],[s.heap.objs.size],pi.toArray.size,_,_,λi=>(bs[i]?).getD true,rfl,Walks.list (A:=X.A.in1) (I.ok.hd hc) _ p (aP hlt) pi.toArray,
  ⟨⟨_,aC _ rfl,rfl,rfl⟩,hl'.push _⟩,λi v s' Q' E' hP hQ=>?_,λh' tk hk=>?_⟩
 .have hP:pi[i]?=some v:=by simpa using hP
  have hib:i<bs.length:=by rw[<- hlen];exact(aa.mp hP).1
  let⟨u,hu,ru⟩:=rv.get (i:=i) (x:=.bl bs[i]) (by rw[am,ac hib];rfl);rw[hu]at hP;cases hP;cases ru;have e:(bs[i]?).getD true=bs[i]:=by rw[ac hib];rfl
  simp only[e]at hQ;exact bX hQ
 .have e:((List.range pi.toArray.size).all λi=>(bs[i]?).getD true)=bs.all id:=by
   rw[aw,hlen];cases hb:bs.all id with
   |true =>
    rw[cJ]at hb ⊢;intro i hi;have hi:=bu.mp hi;rw[ac hi];exact hb _ (cf hi)
   |false =>
    rw[List.all_eq_false]at hb ⊢;let⟨b,hbm,hbf⟩:=hb;let⟨i,hi,rfl⟩:=ix hbm;exact⟨i,bu.mpr hi,by rw[ac hi];exact hbf⟩
  rw[e];refine⟨.bl (bs.all id),H,I.kept (t':=tk) (λb o eb=>hk b o (λhm=>?_) (aj _ eb)),rfl,q⟩;rw[aD.mp hm]at eb;exact cx _ (aB eb)
end
def Zx(c:Nat):Bool:=decide (48<=c)&&decide (c<=57)
def XJ:(("0123456789":Str)).length=10:=by decide+kernel
def zh4(c:Nat):Builtin.Str.occurrences ("0123456789":Str) ⟨#[c]⟩ 0 10 1=if Zx c=true then [c-48]else []:=by
 by_cases h:Zx c=true
 .rw[ao h];have h1:48<=c/\c<=57:=by simpa[Zx]using h
  have h2:c=48\/c=49\/c=50\/c=51\/c=52\/c=53\/c=54\/c=55\/c=56\/c=57:=by lia
  rcases h2 with rfl|rfl|rfl|rfl|rfl|rfl|rfl|rfl|rfl|rfl<;>decide+kernel
 .rw[ak h];have h1:¬(48<=c/\c<=57):=by simpa[Zx]using h
  have:=PySem.W.occ_nil_of_no (x:=("0123456789":Str)) (y:=⟨#[c]⟩) 1 (λi hi=>?_)
  .rw[XJ]at this;exact this
  .have hi:i+1<=10:=by rw[XJ]at hi;exact hi
   have h3:i=0\/i=1\/i=2\/i=3\/i=4\/i=5\/i=6\/i=7\/i=8\/i=9:=by lia
   have key:∀d:Nat,48<=d/\d<=57->((#[d]:Array Nat) == #[c])=false:=λd hd=>by
    rw[a9];intro z;have:d=c:=by simpa using z
    lia
   rcases h3 with rfl|rfl|rfl|rfl|rfl|rfl|rfl|rfl|rfl|rfl<;>exact key _ (by decide)
end L2
namespace L2
open PySem PySem.Spec PySem.Calls PyProof.Rows
theorem ZT:∀{us:A7}{ns:A6},IntsAre us ns->Vals (ns.map V.int) us
 |_,_,.nil=>.nil
 |_,_,.cons n t h=>.cons ⟨t,rfl⟩ (ZT h)
section
variable{X:Cx}
def zfs:CallR X (.builtin "sorted") (λxs H Q=>∃p,∃ns:List Int,xs=[.ref p]/\SqL X.K H p (ns.map V.int)/\ns.length<64 /\
  ∀(ms:A6) l,ms.Perm ns->ms.Pairwise (·<=·)->H l=none->Q (.ref l) (upd H l (.lst (ms.map V.int)))):=by
 intro p5 s σ H xs us Q I r h;let⟨p,ns,rfl,hp,h64,q⟩:=h;let⟨u,rfl,rx⟩:=wR r;cases rx;let⟨pi,rv,hl,hz⟩:=I.list hp;have hlen:pi.length=ns.length:=by have:=rv.length;rw[ai]at this;exact this.symm
 refine sorted_ints hl.isList (zc0 rv) (by lia) λout ms a1 a2 a3=>?_;let⟨e,he⟩:=sortedAll_at s.heap pi out;exact⟨.ref _,_,I.laid (a:=s.heap.objs.size+1) (o:=.lst (ms.map V.int)) (t':=s.toks) (λb o h=>sortedAll_old h) (cZ _) ⟨by rw[ai,a2.length_eq];exact b8 (zn (by lia)),out.toList,e,ZT a1,by simpa using he⟩,rfl,q ms _ a2 a3 (I.hok.fresh (cZ _))⟩
def zhj(hc:X.calm=true):CallR X (.builtin "sum") (λxs H Q=>∃p,∃ns:List Int,xs=[.ref p]/\SqL X.K H p (ns.map V.int)/\Q (.int ns.sum) H):=by
 intro p5 s σ H xs us Q I r h;let⟨p,ns,rfl,hp,q⟩:=h;let⟨u,rfl,rx⟩:=wR r;cases rx;let⟨pi,rv,hl,hz⟩:=I.list hp;have hl':=hl.isList;have hlt:p<s.heap.objs.size:=by let⟨_,e,_⟩:=hl';exact aB e
 have hlen:pi.length=ns.length:=by have:=rv.length;rw[ai]at this;exact this.symm
 refine call_sum_walkG (dq hl' ?_);refine⟨s.heap.objs.size,[s.heap.objs.size,p],[s.heap.objs.size],pi.toArray.size,_,_,λi=>ns[i]?.getD 0,rfl,Walks.list (A:=X.A.in1) (I.ok.hd hc) _ p (aP hlt) pi.toArray,
  ⟨⟨_,aC _ rfl,rfl,rfl⟩,hl'.push _⟩,λb hb=>?_,λi v hP=>JL rv i v (by simpa using hP),λh' tk t' hk=>?_⟩
 .simp only[av,bL,cn]at hb;simp only[bV];rcases hb with rfl|rfl
  .exact cI _
  .exact fg hlt
 .have e0:=zbb (ns:=ns) ns.length (au _);rw[aN]at e0;rw[aw,hlen,e0];exact⟨.int ns.sum,H,I.kept (t':=tk) (λb o e=>hk b o (by simpa using aP (aB e)) (aj _ e)),⟨_,rfl⟩,q⟩
end
structure FunD(K:A0)(x qual:Str)(st:Stmt)(f:Addr)(fd:FuncData):Prop where
 ex:∃(oc:Am)(od:Aa)(dV kV doc pm:Am)(an:Aa)(cdv ct:Am)(osl:Ae),
  fd=fnOf x qual (qx st) (qp st) (zg st) dV kV doc pm an cdv ct/\K.lookup f=some ⟨oc,od,.func fd,osl⟩/\codeIn K cdv qual=true
 kp:keepIn K (.ref f)=true
section
variable{P:Af}{w:World}{K:A0}{mg:A4}{base:Heap}
def FunD.okx{x qual:Str}{st:Stmt}{f:Addr}{fd:FuncData}{N ps:A8}{k:Nat}{sp:Sp}(F:FunD K x qual st f fd)(S:FnScope N ps (zg st))(len:∀vs H Q E,sp vs H Q E->vs.length=ps.length)(hbody:∀(cdv:Am)(A:Ao)(outer:List Env)(s:An)(H:Hp)(vs:Ap)(Q:VK)(E:XK),Room k (A.deeper (envOfC qual (zg st) s.heap.objs.size f cdv))->sp vs H Q E ->
   ∃t,PSs ((cxR P w K mg base N qual (zg st) f cdv A outer s H E).exg λcls _ H'=>E cls none H') (qp st) t/\t {nx:=λ_ H'=>Q .non H',rt:=Q} (start N vs) H):FnOk P w K mg base (CXr P w) (k+1) f fd ps sp:=by
 let⟨oc,od,dV,kV,doc,pm,an,cdv,ct,osl,rfl,lk,hcd⟩:=F.ex;refine zgY lk hcd S len λA outer s H vs Q E hr hsp=>?_;let⟨t,h,q⟩:=hbody cdv A outer s H vs Q E hr hsp;refine⟨t,λp5 s σ H' D I hw=>?_,q⟩;refine aZ (h p5 s σ H' D (I.wish _) hw) (λ_ _ z=>z.unwish) λe s' z=>?_;refine af (aZ (show wpAny _ _ _ _ _ _ from z) (λ_ s1 y1=>aZ y1 (λ_ s'' y=>?_) λ_ _ y=>y.elim) λ_ _ y=>y.elim);let⟨a,cls,σ2,H2,rfl,J,xx,g⟩:=y;exact⟨a,cls,H2,rfl,J.os,J.bare,J.base,J.hok,xx.less (λp hp=>absurd hp (by simp)),g⟩
structure FD(K:A0)(mg:A4)(x:Str)(st:Stmt)(ps:A8)(dvs:Ap):Prop where
 ex:∃f fd ds,FunD K x x st f fd/\mg x=some (.ref f)/\Binds K fd ps []/\Binds K fd ps ds/\Vals dvs ds
def FD.cal{x:Str}{st:Stmt}{ps:A8}{dvs:Ap}{k:Nat}{sp:Sp}(h:FD K mg x st ps dvs)(ok:∀{f fd},FunD K x x st f fd->FnOk P w K mg base (CXr P w) k f fd ps sp) :
  Cal P w K mg base x k ps [] sp:=by
 let⟨f,fd,_,F,m,b,_⟩:=h.ex;exact⟨f,fd,[],ok F,m,F.kp,b,.nil⟩
def zkR{h:Heap}{x:Str}{st:Stmt}{ps:A8}{dvs:Ap}{f dT:Addr}{oc toc:Am}{od an tod:Aa}{osl tsl:Ae}{items:Ac}{tn:Nat}{kV doc pm cdv ct:Am}(X:K.In h)(G:h.Ns mainGlobals mg)(a:nsIn K mainGlobals x=some (some (.ref f)))(l:K.lookup f=some ⟨oc,od,.func (fnOf x x (qx st) (qp st) (zg st) (.ref dT) kV doc pm an cdv ct),osl⟩)(c:codeIn K cdv x=true)(k:keepIn K (.ref f)=true)(lt:K.lookup dT=some ⟨toc,tod,.seq items tn,tsl⟩)(hv:Vals dvs items.toList)(hb:∀(s:An)(us:A7),K.In s.heap->us.length=ps.length->BindsTo s (fnOf x x (qx st) (qp st) (zg st) (.ref dT) kV doc pm an cdv ct) ⟨us,[]⟩ (ps.zip us))(hd:∀(s:An)(us:A7),K.In s.heap->(us++items.toList).length=ps.length->BindsTo s (fnOf x x (qx st) (qp st) (zg st) (.ref dT) kV doc pm an cdv ct) ⟨us,[]⟩ (ps.zip (us++items.toList))):FD K mg x st ps dvs :=
 ⟨f,_,items.toList,⟨⟨oc,od,.ref dT,kV,doc,pm,an,cdv,ct,osl,rfl,l,c⟩,k⟩,mg_of X G a,(λs us hK hl=>by rw[cj]at hl ⊢;exact hb s us hK hl),hd,hv⟩
end
section
variable{prog:Af}{w:World}{A:Ao}{E:A3}{s:An}{R:Result->Shared->Prop}
end
section
variable{X:Cx}{a:Expr}{ta:TA}{p p2 pos pos2:Pos}
end
section
variable{X:Cx}
def zf7:V->List V->Hp->VK->Prop:=λx vs H Q=>∃l y xs,∃j:Nat,x=.ref l/\vs=[y]/\H l=some (.lst xs)/\xs.length<1000/\jQ y=true/\xs.all jQ=true/\(∃z,xs[j]?=some z/\eqV z y=true)/\(∀m z,m<j->xs[m]?=some z->eqV z y=false)/\Q (.int j) H
def zbs:MtM X "list.index" zf7:=by
 intro p5 s σ H x vs v us Q I rx rv h;let⟨l,y,xs,j,rfl,rfl,hH,hz,fy,fs,⟨z0,hj,hjy⟩,hno,q⟩:=h;cases rx;let⟨z,pi,n,r,hl,e⟩:=I.lstM hH;let⟨u,rfl,ru⟩:=rv.one;have hjl:j<xs.length:=(aa.mp hj).1;have at':∀m (hm:m<pi.toArray.size) zz,xs[m]?=some zz->eqU y pi.toArray[m]=eqV zz y:=λm hm zz hzz=>by
  let⟨w',hw',rw'⟩:=r.get hzz;have e1:pi.toArray[m]=w':=by
   have:=(aa.mp hw').2;simpa using this
  rw[e1];exact zdb rw' (cJ.mp fs zz (ah hzz))
 refine de dS ⟨_,e,rfl⟩ PySem.F.entry_list_index (PySem.F.args_list_index_2 _ _)
  (SeqAt.list_indexAt l pi.toArray n none #[] u (eqU y) j (by rw[aw];lia) (by lia) ?_ ?_) ⟨e,λw hw=>Qg ru fy r fs w (by simpa using hw),?_⟩
 .rw[at' j _ z0 hj];exact hjy
 .intro m hm hlt;have hml:m<xs.length:=by lia
  rw[at' m hm _ (ac hml)];exact hno m _ hlt (ac hml)
 .exact⟨.int j,H,I.tok _,⟨_,rfl⟩,q⟩
end
end L2
namespace L2
open PySem PySem.Spec PyProof.Rows
variable{H:Hp}{ph:As}{v:V}{w:World}{b l:Addr}{u:Am}{i:Nat}
inductive D where
 |non|bl (b:Bool)|int (i:Int)|str (x:Str)|lst (xs:List D)|tup (xs:List D)|ob (C:Addr) (fs:List (Str×D))
inductive Rep(H:Hp)(p:A5):V->D->Prop where
 |non:Rep H p .non .non
 |bl {b:Bool}:Rep H p (.bl b) (.bl b)
 |int {i:Int}:Rep H p (.int i) (.int i)
 |str {x:Str}:Rep H p (.str x) (.str x)
 |lst {l:Addr} {vs:Ap} {ds:List D}:p l->H l=some (.lst vs)->vs.length=ds.length->(∀(i:Nat) v d,vs[i]?=some v->ds[i]?=some d->Rep H p v d)->Rep H p (.ref l) (.lst ds)
 |tup {l:Addr} {vs:Ap} {ds:List D}:p l->H l=some (.tup vs)->vs.length=ds.length->(∀(i:Nat) v d,vs[i]?=some v->ds[i]?=some d->Rep H p v d)->Rep H p (.ref l) (.tup ds)
 |ob {l C dx:Addr} {fs:Ar} {ds:List (Str×D)}:p l->H l=some (.ins C dx fs)->fs.map (·.1)=ds.map (·.1)->(∀(i:Nat) f g,fs[i]?=some f->ds[i]?=some g->Rep H p f.2 g.2)->Rep H p (.ref l) (.ob C ds)
def Rep.keep{H H':Hp}{p q:A5}(s:∀b o,p b->H b=some o->q b/\H' b=some o){d:D}(h:Rep H p v d):Rep H' q v d:=by
 induction h with
 |non=>exact .non
 |bl=>exact .bl
 |int=>exact .int
 |str=>exact .str
 |lst pl hl e _ ih=>exact .lst (s _ _ pl hl).1 (s _ _ pl hl).2 e ih
 |tup pl hl e _ ih=>exact .tup (s _ _ pl hl).1 (s _ _ pl hl).2 e ih
 |ob pl hl e _ ih=>exact .ob (s _ _ pl hl).1 (s _ _ pl hl).2 e ih
structure Reps(H:Hp)(p:A5)(vs:Ap)(ds:List D):Prop where
 len:vs.length=ds.length
 g:∀(i:Nat) v d,vs[i]?=some v->ds[i]?=some d->Rep H p v d
section
variable{H H':Hp}{p q:A5}{vs us:Ap}{ds es:List D}{v:V}{d:D}
def Reps.keep(s:∀b o,p b->H b=some o->q b/\H' b=some o)(h:Reps H p vs ds):Reps H' q vs ds:=⟨h.len,λi v d a b=>(h.g i v d a b).keep s⟩
def Reps.nil:Reps H p [] []:=⟨rfl,λi v d h=>by simp at h⟩
theorem Reps.cons(h:Rep H p v d)(k:Reps H p vs ds):Reps H p (v::vs) (d::ds):=⟨by simp[k.len],λi u e a b=>by
 cases i with
 |zero =>
  have a:v=u:=by simpa using a
  have b:d=e:=by simpa using b
  rw[<- a,<- b];exact h
 |succ i=>exact k.g i u e (by simpa using a) (by simpa using b)⟩
def Reps.one(h:Rep H p v d):Reps H p [v] [d]:=.cons h .nil
def Reps.append(h:Reps H p vs ds)(k:Reps H p us es):Reps H p (vs++us) (ds++es):=by
 refine⟨by rw[aH,aH,h.len,k.len],λi v r e1 e2=>?_⟩;by_cases hi:i<vs.length
 .rw[aY hi]at e1;rw[aY (by rw[<- h.len];exact hi)]at e2;exact h.g i v r e1 e2
 .rw[aS (by lia)]at e1;rw[aS (by rw[<- h.len];lia),<- h.len]at e2;exact k.g _ v r e1 e2
def Reps.at(h:Reps H p vs ds)(e:vs[i]?=some v):∃d,ds[i]?=some d/\Rep H p v d:=by
 have hi:=(aa.mp e).1;have e2:ds[i]?=some (ds[i]'(by rw[<- h.len];exact hi)):=ac _;exact⟨_,e2,h.g i v _ e e2⟩
def Reps.of(h:Reps H p vs ds)(e:ds[i]?=some d):∃v,vs[i]?=some v/\Rep H p v d:=by
 have hi:=(aa.mp e).1;have e2:vs[i]?=some (vs[i]'(by rw[h.len];exact hi)):=ac _;exact⟨_,e2,h.g i _ d e2 e⟩
def Reps.take(h:Reps H p vs ds)(n:Nat):Reps H p (vs.take n) (ds.take n):=⟨by rw[aQ,aQ,h.len],λi v d a b=>by
 rw[List.getElem?_take]at a b;by_cases hn:i<n
 .rw[ao hn]at a b;exact h.g i v d a b
 .rw[ak hn]at a;cases a⟩
def Reps.drop(h:Reps H p vs ds)(n:Nat):Reps H p (vs.drop n) (ds.drop n):=⟨by rw[dW,dW,h.len],λi v d a b=>by
 rw[List.getElem?_drop]at a b;exact h.g _ v d a b⟩
def Reps.reverse(h:Reps H p vs ds):Reps H p vs.reverse ds.reverse:=⟨by rw[gM,gM,h.len],λi v d a b=>by
 have hi:i<vs.length:=by have:=(aa.mp a).1;rw[gM]at this;exact this
 rw[g9 hi]at a;rw[g9 (by rw[<- h.len];exact hi),<- h.len]at b;exact h.g _ v d a b⟩
def Reps.mk'(h:Reps H p vs ds)(pl:p l)(e:H l=some (.lst vs)):Rep H p (.ref l) (.lst ds):=.lst pl e h.len h.g
def Reps.mkT(h:Reps H p vs ds)(pl:p l)(e:H l=some (.tup vs)):Rep H p (.ref l) (.tup ds):=.tup pl e h.len h.g
def Rep.lst'(h:Rep H p v (.lst ds)):∃l us,v=.ref l/\p l/\H l=some (.lst us)/\Reps H p us ds:=by
 cases h with|lst a b c e=>exact⟨_,_,rfl,a,b,c,e⟩
def Rep.tup'(h:Rep H p v (.tup ds)):∃l us,v=.ref l/\p l/\H l=some (.tup us)/\Reps H p us ds:=by
 cases h with|tup a b c e=>exact⟨_,_,rfl,a,b,c,e⟩
theorem ZL{f:Str}:∀{fs:Ar}{gs:List (Str×D)},fs.map (·.1)=gs.map (·.1)->(∀(i:Nat) x y,fs[i]?=some x->gs[i]?=some y->Rep H p x.2 y.2) ->
  (∀d,gs.lookup f=some d->∃u,fs.lookup f=some u/\Rep H p u d)/\(gs.lookup f=none->fs.lookup f=none)
 |[],[],_,_=>⟨λd h=>by simp at h,λ_=>rfl⟩
 |[],_::_,e,_=>by simp at e
 |_::_,[],e,_=>by simp at e
 |(a,u)::fs,(b,c)::gs,e,r=>by
  have e1:a=b:=by simpa using(dk e).1
  subst e1;have ih:=ZL (f:=f) (fs:=fs) (gs:=gs) (dk e).2 λi x y hx hy=>r (i+1) x y (by simpa using hx) (by simpa using hy);by_cases hf:f=a
  .have hb:(f == a)=true:=bM.mpr hf;refine⟨λd h=>?_,λh=>?_⟩
   .simp only[List.lookup,hb]at h ⊢;cases h;exact⟨_,rfl,r 0 (a,u) (a,c) rfl rfl⟩
   .simp only[List.lookup,hb]at h;cases h
  .have hb:(f == a)=false:=a9.mpr hf;simp only[List.lookup,hb];exact ih
def Rep.ob'{C:Addr}{gs:List (Str×D)}(h:Rep H p v (.ob C gs)):∃l dx fs,v=.ref l/\p l/\H l=some (.ins C dx fs)/\(∀f d,gs.lookup f=some d->∃u,fs.lookup f=some u/\Rep H p u d)/\(∀f,gs.lookup f=none->fs.lookup f=none):=by
 cases h with|ob a b c e=>exact⟨_,_,_,rfl,a,b,λf=>(ZL c e).1,λf=>(ZL c e).2⟩
noncomputable abbrev D.ints(ns:A6):D:=.lst (ns.map D.int)
theorem reps_ints:∀{ns:A6},Reps H p (ns.map V.int) (ns.map D.int)
 |[]=>.nil
 |_::_=>.cons .int reps_ints
theorem JF:∀{ns:A6}{vs:Ap},Reps H p vs (ns.map D.int)->vs=ns.map V.int
 |[],[],_=>rfl
 |[],_::_,h=>by have:=h.len;simp at this
 |_::_,[],h=>by have:=h.len;simp at this
 |n::ns,v::vs,h=>by
  have h1:=h.g 0 v (.int n) rfl rfl;have h2:Reps H p vs (ns.map D.int):=⟨by have:=h.len;simpa using this,λi u d a b=>h.g (i+1) u d (by simpa using a) (by simpa using b)⟩;cases h1;rw[bF,JF h2]
def Rep.ints'{ns:A6}(h:Rep H p v (.ints ns)):∃l,v=.ref l/\p l/\H l=some (.lst (ns.map V.int)):=by
 let⟨l,us,e,a,b,c⟩:=h.lst';rw[JF c]at b;exact⟨l,e,a,b⟩
def qr{ns:A6}(pl:p l)(e:H l=some (.lst (ns.map V.int))):Rep H p (.ref l) (.ints ns):=reps_ints.mk' pl e
end
def Off(ms:Ab):Addr->Prop:=λb=>b∉ms
def Fr(ms:Ab)(H H':Hp):Prop:=∀b o,b∉ms->H b=some o->H' b=some o
section
variable{H H' H2:Hp}{ms ns:Ab}{x:Addr}{o:HO}{v:V}{d:D}{vs:Ap}{ds:List D}
def Fr.refl:Fr ms H H:=λ_ _ _ h=>h
def Fr.trans(a:Fr ms H H')(b:Fr ms H' H2):Fr ms H H2:=λc o n h=>b c o n (a c o n h)
def Fr.more(a:Fr ms H H')(s:∀b,b∈ms->b∈ns):Fr ns H H':=λb o n h=>a b o (λz=>n (s b z)) h
def Same.fr(a:Same H H'):Fr ms H H':=λb o _ h=>a b o h
def qZ(h:x∈ms):Fr ms H (upd H x o):=λb u n hb=>by
 rw[pE (λz=>n (by rw[z];exact h))];exact hb
def zc6(h:H x=none):Fr ms H (upd H x o):=(same_upd' h).fr where
 same_upd' {H:Hp} {x:Addr} {o:HO} (h:H x=none):Same H (upd H x o):=λb u hb=>by rw[pE (pF hb h)];exact hb
def Fr.same(a:Fr ms H H')(h:∀m∈ms,H m=none):Same H H':=λb o hb=>a b o (λz=>by rw[h b z]at hb;cases hb) hb
def Rep.fr(h:Rep H (Off ms) v d)(s:Fr ms H H'):Rep H' (Off ms) v d:=h.keep λb o pb hb=>⟨pb,s b o pb hb⟩
def Reps.fr(h:Reps H (Off ms) vs ds)(s:Fr ms H H'):Reps H' (Off ms) vs ds:=h.keep λb o pb hb=>⟨pb,s b o pb hb⟩
def Rep.more(h:Rep H (Off ms) v d)(s:∀b,b∈ns->b∈ms\/H b=none):Rep H (Off ns) v d:=h.keep λb o pb hb=>⟨λz=>(s b z).elim pb (λq=>by rw[q]at hb;cases hb),hb⟩
def Reps.more(h:Reps H (Off ms) vs ds)(s:∀b,b∈ns->b∈ms\/H b=none):Reps H (Off ns) vs ds:=h.keep λb o pb hb=>⟨λz=>(s b z).elim pb (λq=>by rw[q]at hb;cases hb),hb⟩
def Rep.same(h:Rep H (Off ms) v d)(s:Same H H'):Rep H' (Off ms) v d:=h.fr s.fr
def Reps.same(h:Reps H (Off ms) vs ds)(s:Same H H'):Reps H' (Off ms) vs ds:=h.fr s.fr
def Rep.ahead(h:Rep H (Off []) v d)(s:Same H H')(n:∀m∈ms,H m=none):Rep H' (Off ms) v d:=h.keep λb o _ hb=>⟨(λz=>nomatch (n b z).symm.trans hb),s b o hb⟩
def Reps.ahead(h:Reps H (Off []) vs ds)(s:Same H H')(n:∀m∈ms,H m=none):Reps H' (Off ms) vs ds:=h.keep λb o _ hb=>⟨(λz=>nomatch (n b z).symm.trans hb),s b o hb⟩
def Rep.all{p:A5}(h:Rep H p v d):Rep H (Off []) v d:=h.keep λb o _ hb=>⟨(λz=>nomatch z),hb⟩
def Reps.all{p:A5}(h:Reps H p vs ds):Reps H (Off []) vs ds:=h.keep λb o _ hb=>⟨(λz=>nomatch z),hb⟩
end
def fd_small{i j:Int}(h1:0<j)(h2:j<1000000):CFd i j:=fd_ok h1 (aM (show j.natAbs<2^20 by lia) (Nat.pow_le_pow_right (by decide) (by decide)))
def Xd{α:Type}{xs:List α}{k:Int}(h0:0<=k)(h1:k<xs.length):seqIndex? k xs.length=some k.toNat:=by
 unfold seqIndex?;have:¬k<0:=by lia
 simp[this,h0,h1]
def vp{K:A0}{H H':Hp}{xs:Ap}(s:Same H H')(h:SqL K H l xs):SqL K H' l xs:=s.seq h
def zbl{X:Cx}:OpR X (compareOp .In) (rIn X.K false):=zeR
noncomputable def del(H:Hp)(x:Addr):Hp:=λb=>if b=x then none else H b
section
variable{K:A0}{H:Hp}{Q:VK}{p:A5}{v:V}{d:D}{ds:List D}{f:Str}
def zhK{C:Addr}{gs:List (Str×D)}{R:V->Prop}(h:Rep H p v (.ob C gs))(c:Cls K C)(n:NoAttr K C f)(e:gs.lookup f=some d)(q:∀u,Rep H p u d->R u) :
  ∃a C dx fs u,v=.ref a/\H a=some (.ins C dx fs)/\Cls K C/\NoAttr K C f/\fs.lookup f=some u/\R u:=by
 let⟨l,dx,fs,rfl,_,a,b,_⟩:=h.ob';let⟨u,e1,r⟩:=b f d e;exact⟨l,C,dx,fs,u,rfl,a,c,n,e1,q u r⟩
def zi0{vs:Ap}{i:Int}(h:Reps H p vs ds)(e:atI ds i=some d):∃u,atI vs i=some u/\Rep H p u d:=by
 unfold atI at e ⊢;rw[h.len];cases z:ixN ds.length i with
 |none=>rw[z]at e;cases e
 |some j=>rw[z]at e;exact h.of (i:=j) e
end
def ju{H H':Hp}{p:A5}{d:D}(h:Rep H p v d)(s:Same H H'):Rep H' p v d:=h.keep λb o pb hb=>⟨pb,s b o hb⟩
section
variable{X:Cx}
def zkA(K:A0):R2:=λx y H Q=>∃p xs i v,x=.ref p/\y=.int i/\SqL K H p xs/\0<=i/\atI xs i=some v/\Q v H
def zgW:zkY X (zkA X.K):=by
 intro p5 s σ H x y v u Q I rx ry h;let⟨p,xs,i,z,rfl,rfl,hq,h0,he,q⟩:=h;cases rx;let⟨t,rfl⟩:=ry;let⟨pi,r,pl,hz⟩:=I.list hq;let⟨j,h1,h2,h3,h4,h5⟩:=JJ he;let⟨w,ew,rw'⟩:=r.get h2;have hl:=r.length;have hn:=ZM;have hj:i.toNat=j:=by
  rw[gi h0 h5]at h1;exact aF h1
 exact wpAny_getItem_list pl.isList h0 (by lia) (by rw[hj];simpa using ew) ⟨z,H,I,rw',q⟩
end
inductive Hard:D->Prop where
 |non:Hard .non
 |bl {b:Bool}:Hard (.bl b)
 |int {i:Int}:Hard (.int i)
 |str {x:Str}:Hard (.str x)
 |tup {ds:List D}:(∀(i:Nat) d,ds[i]?=some d->Hard d)->Hard (.tup ds)
def Rep.hard{p q:A5}{d:D}(h:Rep H p v d)(hd:Hard d)(k:∀b xs,p b->H b=some (.tup xs)->q b):Rep H q v d:=by
 induction h with
 |non=>exact .non
 |bl=>exact .bl
 |int=>exact .int
 |str=>exact .str
 |lst pl hl e _ ih=>cases hd
 |tup pl hl e _ ih =>
  cases hd with
  |tup hd=>exact .tup (k _ _ pl hl) hl e λi v d a b=>ih i v d a b (hd i d b)
 |ob pl hl e _ ih=>cases hd
def zgw{as:Ab}(nd:as.Nodup){i j:Nat}(h1:as[i]?=some b)(h2:as[j]?=some b):i=j:=by
 let⟨hi,e1⟩:=aa.mp h1;let⟨hj,e2⟩:=aa.mp h2;have P:=cK.mp nd;rcases ff i j with h|h|h
 .exact absurd (e1.trans e2.symm) (P i j hi hj h)
 .exact h
 .exact absurd (e2.trans e1.symm) (P j i hj hi h)
structure NL(H:Hp)(p:A5)(G:Addr)(as:Ab)(xss:List (List D)):Prop where
 out:H G=some (.lst (as.map V.ref))
 len:as.length=xss.length
 nd:as.Nodup
 nG:G∉as
 g:∀(i:Nat) b xs,as[i]?=some b->xss[i]?=some xs->∃vs,H b=some (.lst vs)/\Reps H p vs xs
section
variable{H H':Hp}{p q:A5}{G:Addr}{as:Ab}{xss:List (List D)}
def NL.keep(h:NL H p G as xss)(s:∀b o,(b=G\/b∈as\/p b)->H b=some o->H' b=some o)(sp:∀b,p b->H b≠none->q b):NL H' q G as xss:=by
 refine⟨s _ _ (.inl rfl) h.out,h.len,h.nd,h.nG,λi b xs e1 e2=>?_⟩;let⟨vs,h1,h2⟩:=h.g i b xs e1 e2;exact⟨vs,s _ _ (.inr (.inl (ah e1))) h1,h2.keep λc o pc hc=>⟨sp c pc (by rw[hc];intro z;cases z),s c o (.inr (.inr pc)) hc⟩⟩
def NL.same(h:NL H p G as xss)(s:Same H H'):NL H' p G as xss:=h.keep (λb o _ hb=>s b o hb) λ_ hp _=>hp
def NL.at(h:NL H p G as xss){xs:List D}(e:xss[i]?=some xs):∃b vs,as[i]?=some b/\H b=some (.lst vs)/\Reps H p vs xs:=by
 have hi:=(aa.mp e).1;have e2:as[i]?=some (as[i]'(by rw[h.len];exact hi)):=ac _;let⟨vs,h1,h2⟩:=h.g i _ xs e2 e;exact⟨_,vs,e2,h1,h2⟩
def zcN{H:Hp}{p:A5}{G:Addr}(h:H G=some (.lst [])):NL H p G [] []:=⟨h,rfl,nodup_nil,by simp,λi b xs e=>by simp at e⟩
def NL.rep(h:NL H p G as xss):Rep H (Off []) (.ref G) (.lst (xss.map D.lst)):=by
 refine .lst (λz=>nomatch z) h.out (by rw[ai,ai,h.len]) λi v d e1 e2=>?_;rw[am,aq]at e1 e2;let⟨b,e1,rfl⟩:=e1;let⟨xs,e2,rfl⟩:=e2;let⟨vs,h1,h2⟩:=h.g i b xs e1 e2;exact h2.all.mk' (λz=>nomatch z) h1
def NL.put{vs:Ap}{ys:List D}(h:NL H p G as xss)(e:as[i]?=some b)(np:¬p b)(r:Reps H p vs ys):NL (upd H b (.lst vs)) p G as (xss.set i ys):=by
 have hb:=ah e;have nG:G≠b:=λz=>h.nG (by rw[z];exact hb);have rk:∀{us:Ap}{zs:List D},Reps H p us zs->Reps (upd H b (.lst vs)) p us zs:=λr=>r.keep λc o pc hc=>⟨pc,by rw[pE (λz=>np (by rw[<- z];exact pc))];exact hc⟩;refine⟨by rw[pE nG];exact h.out,by rw[b6,h.len],h.nd,h.nG,λj c xs e1 e2=>?_⟩;by_cases hj:j=i
 .subst hj;rw[e]at e1;cases e1;have hl:j<xss.length:=by rw[<- h.len];exact(aa.mp e).1
  rw[a7 hl]at e2;cases e2;exact⟨vs,pD,rk r⟩
 .rw[bh (bb hj)]at e2;have nc:c≠b:=λz=>by
   subst z;exact hj (zgw h.nd e1 e)
  let⟨us,h1,h2⟩:=h.g j c xs e1 e2;exact⟨us,by rw[pE nc];exact h1,rk h2⟩
def NL.push{vs:Ap}{ys:List D}(h:NL H p G as xss)(hb:H b=some (.lst vs))(nb:b∉as)(nG:b≠G)(np:¬p G)(r:Reps H p vs ys):NL (upd H G (.lst (as.map V.ref++[.ref b]))) p G (as++[b]) (xss++[ys]):=by
 have rk:∀{us:Ap}{zs:List D},Reps H p us zs->Reps (upd H G (.lst (as.map V.ref++[.ref b]))) p us zs:=λr=>r.keep λc o pc hc=>⟨pc,by rw[pE (λz=>np (by rw[<- z];exact pc))];exact hc⟩;refine⟨by rw[pD,ba];rfl,by simp[h.len],?_,?_,λj c xs e1 e2=>?_⟩
 .rw[fH];refine⟨h.nd,by simp,?_⟩;intro x hx y hy z;rw[aD.mp hy]at z;exact nb (by rw[<- z];exact hx)
 .intro z;rcases aG.mp z with z|z
  .exact h.nG z
  .exact nG (aD.mp z).symm
 .by_cases hj:j<as.length
  .rw[aY hj]at e1;rw[aY (by rw[<- h.len];exact hj)]at e2;let⟨us,h1,h2⟩:=h.g j c xs e1 e2;have nc:c≠G:=λz=>h.nG (by rw[<- z];exact ah e1);exact⟨us,by rw[pE nc];exact h1,rk h2⟩
  .rw[aS (by lia)]at e1;rw[aS (by rw[<- h.len];lia),<- h.len]at e2;have hj0:j-as.length=0:=by have:=(aa.mp e1).1;simp at this;lia
   rw[hj0]at e1 e2;have e1:b=c:=by simpa using e1
   have e2:ys=xs:=by simpa using e2
   subst e1 e2;exact⟨vs,by rw[pE nG];exact hb,rk r⟩
end
def z6(H:Hp):Addr->Prop:=λb=>∃xs,H b=some (.tup xs)
def NL.tup{H H':Hp}{G:Addr}{as:Ab}{xss:List (List D)}(h:NL H (z6 H) G as xss)(s:∀b o,(b=G\/b∈as\/z6 H b)->H b=some o->H' b=some o):NL H' (z6 H') G as xss :=
 h.keep s λb hb _=>by
  let⟨xs,hx⟩:=hb;exact⟨xs,s b _ (.inr (.inr ⟨xs,hx⟩)) hx⟩
def NL.isl{G:Addr}{as:Ab}{p:A5}{xss:List (List D)}(h:NL H p G as xss)(hb:b∈G::as):∃vs,H b=some (.lst vs):=by
 rcases av.mp hb with rfl|hb
 .exact⟨_,h.out⟩
 .obtain⟨j,hj⟩:=aV hb;let⟨vs,h1,_⟩:=h.g j b _ hj (ac (by rw[<- h.len];exact(aa.mp hj).1));exact⟨vs,h1⟩
def uc{P:Af}{K:A0}{mg:A4}{base:Heap}{x:Str}{k:Nat}{G:List V->Sp->Prop}{ps:A8}{dvs:Ap}{sp:Sp}(c:Cal P w K mg base x k ps dvs sp)(h:G dvs sp):∃ps dvs sp,Cal P w K mg base x k ps dvs sp/\G dvs sp:=⟨ps,dvs,sp,c,h⟩
def un2{K:A0}{t:Addr}{x y:V}{G:V->V->Prop}(h:H t=some (.tup [x,y]))(q:G x y):∃a xs,V.ref t=.ref a/\SqT K H a xs/\xs.length=2/\∃v r,xs=v::r/\∃v' r',r=v'::r'/\r'=[]/\G v v':=⟨t,_,rfl,SqT.of h,rfl,x,_,rfl,y,_,rfl,rfl,q⟩
def ra{K:A0}{a C dx:Addr}{fs:Ar}{f:Str}{G:V->Prop}(h:H a=some (.ins C dx fs))(c:Cls K C)(n:NoAttr K C f)(e:fs.lookup f=some v)(q:G v):∃a' C dx fs v,V.ref a=.ref a'/\H a'=some (.ins C dx fs)/\Cls K C/\NoAttr K C f/\fs.lookup f=some v/\G v:=⟨a,C,dx,fs,v,rfl,h,c,n,e,q⟩
section
variable{prog:Af}{w:World}{A:Ao}{E:A3}{s:An}
noncomputable abbrev lit(l:Addr):Obj:={cls:=.type (QN true),data:=.fields #[.ref l,.int 0 0]}
end
section
variable{prog:Af}{w:World}{A:Ao}{E:A3}{s:An}
end
section
variable{X:Cx}{pos pos':Pos}{x:Str}
def zu(i:Nat){e:Expr}{te:TE}(hN:X.N.Nodup)(he:PE X e te)(hi:X.N[i]?=some x:=by rfl)(hx:Loc X.env.scope x:=by exact Or.inl rfl)(hs:swapsWith e (some (.Name x pos')) pos.line X.env=pure false:=by rfl)(hf:Or (X.fn x=true) (X.env.scope.names.lookup x=some .local):=by walk_at"p"):PS X (.Assign [.Name x pos'] e pos) (tAsg te (gName i)):=zgb hN hi hx he hs hf
def qu(i:Nat)(hN:X.N.Nodup)(hi:X.N[i]?=some x:=by rfl)(hx:Loc X.env.scope x:=by exact Or.inl rfl)(hf:Or (X.fn x=true) (X.env.scope.names.lookup x=some .local):=by walk_at"p"):PG X (.Name x pos) (gName i):=Zf hN hi hx hf
def zo{a b:Expr}{ta tb:TE}(ha:PE X a ta)(hb:PE X b tb)(hs:zed b:=by intro _ _;rfl):PE X (.Subscript a b pos) (tOp (rIx X.K) ta tb):=zkC zjQ ha hb hs
end
section
variable{X:Cx}
theorem zdp:∀{ys:A8}{us:A7},Vals (ys.map V.str) us->StrsAre us ys
 |[],_,h=>by cases h;exact .nil
 |y::ys,_,h=>by
  cases h with
  |cons r rr =>
   let⟨t,rfl⟩:=r;exact .cons y t (zdp rr)
def zkw:V->List V->Hp->VK->Prop:=λx vs H Q=>∃sep l ys,x=.str sep/\vs=[.ref l]/\H l=some (.lst (ys.map V.str))/\(ys.map (·.length)).sum+ys.length*sep.length<=16777216/\Q (.str (Str.join sep ys)) H
def zdI:MtM X "str.join" zkw:=by
 intro p5 s σ H x vs v us Q I rx rv h;let⟨sep,l,ys,rfl,rfl,hH,hz,q⟩:=h;let⟨t,rfl⟩:=rx;let⟨u,rfl,ru⟩:=rv.one;cases ru;let⟨pi,r,hl,_⟩:=I.list (SqL.of hH);have e:Txt.join sep ys=Str.join sep ys:=StrLaws.glued_eq_join sep ys;exact join_list hl.isList (by simpa using zdp r) hz λt' k=>⟨.str _,H,I.tok _,⟨_,rfl⟩,by rw[e];exact q⟩
end
section
variable{X:Cx}{G:GK}{x y:Str}{np mp pos hpos gpos:Pos}{body su sv:List Stmt}{b₀ c₀:Stmt}{tb:List (Addr×Obj)->GK->TS}{th ti:List (Addr×Obj)->Addr->TS}
def tTry2(X:Cx)(x y:Str)(tb:List (Addr×Obj)->GK->TS)(th ti:List (Addr×Obj)->Addr->TS):TS:=λD σ H=>∃Dc Ec,X.mg x=some (.ref Dc)/\subIn X.K (.ref Dc) (.type "BaseException")=some true/\X.mg y=some (.ref Ec)/\subIn X.K (.ref Ec) (.type "BaseException")=some true /\
 ∀pn,tb pn (λcls σ' H'=>∃C,cls=.ref C/\((kitCls X.K (.ref C) (.ref Dc)=some true/\∀a,H' a=none->th pn a D σ' H')\/(kitCls X.K (.ref C) (.ref Dc)=some false/\kitCls X.K (.ref C) (.ref Ec)=some true/\∀a,H' a=none->ti pn a D σ' H'))) D σ H
theorem zhP(B:Bod X)(hc:X.calm=true)(hb:∀pn G',PSs ((X.pinned pn).exg G') body (tb pn G'))(hs:∀pn a,PSs (X.suite pn a) (b₀::su) (th pn a))(ht:∀pn a,PSs (X.suite pn a) (c₀::sv) (ti pn a))(hg:Gl X x:=by rfl)(hg2:Gl X y:=by rfl)(hdb:(x == ("__debug__":Str))=false:=by decide)(hdb2:(y == ("__debug__":Str))=false:=by decide) :
  PS (X.exg G) (.Try body [.ExceptHandler (some (.Name x np)) none (b₀::su) hpos,.ExceptHandler (some (.Name y mp)) none (c₀::sv) gpos] [] [] pos) (tTry2 X x y tb th ti):=by
 intro p5 s σ H D I h;let⟨Dc,Ec,hm,hsub,hm2,hsub2,h⟩:=h;have I1:=I.unwish.topn;refine wpAny_Try_except (aZ (hb (X.pn++p5) _ [] s σ H D (I1.wish _) (h (X.pn++p5))) (λf s1 q=>?_) λe s1 q=>?_)
 .cases f with
  |next =>
   let⟨σ',H',J,q⟩:=q;exact c9 ⟨σ',H',J.unwish.ofpn.wish _,q⟩
  |brk=>let⟨σ',H',J,q⟩:=q;exact⟨σ',H',J.unwish.ofpn.wish _,q⟩
  |cont=>let⟨σ',H',J,q⟩:=q;exact⟨σ',H',J.unwish.ofpn.wish _,q⟩
  |ret u=>let⟨v,σ',H',J,r,q⟩:=q;exact⟨v,σ',H',J.unwish.ofpn.wish _,r,q⟩
 .refine aZ (show wpAny _ _ _ _ _ _ from q) (λ_ s2 q2=>aZ q2 (λ_ s3 q3=>?_) λ_ _ z=>z.elim) λ_ _ z=>z.elim;let⟨a,cls,σ',H',rfl,J,xx,C,rfl,hth⟩:=q3;have J2:Inv (X.suite (X.pn++p5) a) [] σ' H' s3:=J.tosuite;let⟨oe,vs,he,hcls,_,_⟩:=xx.obj;rcases hth with⟨hk,hth⟩|⟨hk,hk2,hth⟩
  .refine dL (dB (jO J2 hg hm (xQ J2.kIn he hcls hk hsub ?_) hdb)) (by intro z;cases z);refine eP ?_;refine ZN J2 (xx.less λp hp=>by rwa[cj]at hp) λs4 J4 x4=>?_;refine aZ (hs (X.pn++p5) a [] s4 _ _ _ J4 (hth a xx.Ha)) (λf s6 q6=>?_) λ_ _ z=>False.elim z;cases f with
   |next=>let⟨σ7,H7,J7,q7⟩:=q6;exact⟨σ7,H7,(J7.ofsuite I.ok.hd).ofpn.wish _,q7⟩
   |brk=>let⟨σ7,H7,J7,q7⟩:=q6;exact⟨σ7,H7,(J7.ofsuite I.ok.hd).ofpn.wish _,q7⟩
   |cont=>let⟨σ7,H7,J7,q7⟩:=q6;exact⟨σ7,H7,(J7.ofsuite I.ok.hd).ofpn.wish _,q7⟩
   |ret u=>let⟨v,σ7,H7,J7,r7,q7⟩:=q6;exact⟨v,σ7,H7,(J7.ofsuite I.ok.hd).ofpn.wish _,r7,q7⟩
  .refine dL (dB (jO J2 hg hm (xQ J2.kIn he hcls hk hsub ?_) hdb)) (by intro z;cases z);refine dL (dB (jO J2 hg2 hm2 (xQ J2.kIn he hcls hk2 hsub2 ?_) hdb2)) (by intro z;cases z);refine eP ?_;refine ZN J2 (xx.less λp hp=>by rwa[cj]at hp) λs4 J4 x4=>?_;refine aZ (ht (X.pn++p5) a [] s4 _ _ _ J4 (hth a xx.Ha)) (λf s6 q6=>?_) λ_ _ z=>False.elim z;cases f with
   |next=>let⟨σ7,H7,J7,q7⟩:=q6;exact⟨σ7,H7,(J7.ofsuite I.ok.hd).ofpn.wish _,q7⟩
   |brk=>let⟨σ7,H7,J7,q7⟩:=q6;exact⟨σ7,H7,(J7.ofsuite I.ok.hd).ofpn.wish _,q7⟩
   |cont=>let⟨σ7,H7,J7,q7⟩:=q6;exact⟨σ7,H7,(J7.ofsuite I.ok.hd).ofpn.wish _,q7⟩
   |ret u=>let⟨v,σ7,H7,J7,r7,q7⟩:=q6;exact⟨v,σ7,H7,(J7.ofsuite I.ok.hd).ofpn.wish _,r7,q7⟩
end
section
variable{X:Cx}
def zdd{prog:Af}{A:Ao}{E:A3}{s:An}{Q:A3}{x y:Str}{t u:Tok}(hy:(y.length == 0)=false)(hx:x.length+2<=sizeLine)(hq:∀(l:List (Str×Tok))(k:Nat),l.map (·.1)=Txt.split x y->Q (.ref s.heap.objs.size) {s with toks:=k,heap:=s.heap.push {cls:=.type "list",data:=.seq (strValues l).toArray} }) :
  wpAny (model prog w) A (call (.builtin "str.split") [.str x t,.str y u]) Q E s:=by
 cases h1:(decide (x.length<y.length)||decide (Builtin.Str.strKind x<Builtin.Str.strKind y))
 .cases hf:(Builtin.Str.occurrences x y 0 x.length (x.length+1)).isEmpty
  .have e:Txt.split x y=Builtin.Str.partsBetween x (Builtin.Str.occurrences x y 0 x.length (x.length+1)) y.length:=(ak (eM h1)).trans (ak (eM hf));have hl:=split_le x y;rw[e]at hl;refine de gc (fC _ _ _) fM (fG _ _) (meets_str_split_sep x y t u h1 hy hf (by lia) (by lia)) ?_;show wants Q E _ {s with toks:=_,heap:=s.heap.push {cls:=.type "list",data:=.seq (strsFrom s.toks (Builtin.Str.partsBetween x (Builtin.Str.occurrences x y 0 x.length (x.length+1)) y.length)).toArray} }
   rw[strsFrom_eq];exact hq (numbered s.toks _) _ ((numbered_texts _ _).trans e.symm)
  .exact de gc (fC _ _ _) fM (fG _ _) (meets_str_split_not_found x y t u h1 hy hf)
    (hq [(x,t)] _ ((ak (eM h1)).trans (ao hf)).symm)
 .exact de gc (fC _ _ _) fM (fG _ _) (meets_str_split_cannot_occur x y t u h1)
   (hq [(x,t)] _ (ao h1).symm)
theorem Wq:∀(l:List (Str×Tok)),Vals ((l.map (·.1)).map V.str) (strValues l)
 |[]=>.nil
 |p::l=>.cons ⟨p.2,rfl⟩ (Wq l)
def zjh:V->List V->Hp->VK->Prop:=λx vs H Q=>∃t y,x=.str t/\vs=[.str y]/\(y.length == 0)=false/\t.length+2<=sizeLine/\∀l,H l=none->Q (.ref l) (upd H l (.lst ((Txt.split t y).map V.str)))
def zbr:MtM X "str.split" zjh:=by
 intro p5 s σ H x vs v us Q I rx rv h;let⟨t,y,rfl,rfl,hy,hz,q⟩:=h;let⟨tk,rfl⟩:=rx;let⟨u,rfl,ru⟩:=rv.one;let⟨tk2,rfl⟩:=ru;refine zdd hy hz λl k e=>?_;have hf:H s.heap.objs.size=none:=I.hok.fresh (au _);have hl:=split_le t y;refine⟨.ref s.heap.objs.size,upd H s.heap.objs.size (.lst ((Txt.split t y).map V.str)),I.laid (t':=k) (λb u e=>aj _ e) (au _) ?_,rfl,q _ hf⟩;rw[<- e];exact⟨by rw[ai,e];lia,strValues l,0,Wq l,aC _ rfl⟩
end
theorem XG{c:Nat}:∀{a b A B:Aj},c∉a->c∉b->a++c::A=b++c::B->a=b/\A=B
 |[],[],_,_,_,_,h=>⟨rfl,(dk h).2⟩
 |[],y::b,_,_,_,hb,h=>absurd (dk h).1 (λe=>hb (by rw[e];exact aU ..))
 |x::a,[],_,_,ha,_,h=>absurd (dk h).1 (λe=>ha (by rw[<- e];exact aU ..))
 |x::a,y::b,A,B,ha,hb,h=>by
  let⟨e1,e2⟩:=dk h;let⟨e3,e4⟩:=XG (λz=>ha (ay _ z)) (λz=>hb (ay _ z)) e2;exact⟨by rw[e1,e3],e4⟩
def zdq{x y:Str}(h:x.cps.toList=y.cps.toList):x=y:=by
 let⟨x⟩:=x;let⟨y⟩:=y;exact bn Str.mk (Array.toList_inj.mp h)
def Zj(c:Nat)(x y:Str)(r:A8):(Str.join ⟨#[c]⟩ (x::y::r)).cps.toList=x.cps.toList++c::(Str.join ⟨#[c]⟩ (y::r)).cps.toList:=by
 show((x.cps ++ #[c])++(Str.join ⟨#[c]⟩ (y::r)).cps).toList=_
 simp
theorem zbM{c:Nat}:∀{xs ys:A8},xs≠[]->ys≠[]->(∀x∈xs,c∉x.cps.toList)->(∀y∈ys,c∉y.cps.toList)->Str.join ⟨#[c]⟩ xs=Str.join ⟨#[c]⟩ ys->xs=ys
 |[],_,h,_,_,_,_=>absurd rfl h
 |_,[],_,h,_,_,_=>absurd rfl h
 |[x],[y],_,_,_,_,e=>by rw[show x=y from e]
 |[x],y::z::r,_,_,hx,_,e=>by
  have e:=bn (λs:Str=>s.cps.toList) e;simp only[Zj]at e;have e:x.cps.toList=y.cps.toList++c::(Str.join ⟨#[c]⟩ (z::r)).cps.toList:=e;exact absurd (by rw[e];simp) (hx x (aU ..))
 |x::z::r,[y],_,_,_,hy,e=>by
  have e:=bn (λs:Str=>s.cps.toList) e;simp only[Zj]at e;have e:x.cps.toList++c::(Str.join ⟨#[c]⟩ (z::r)).cps.toList=y.cps.toList:=e;exact absurd (by rw[<- e];simp) (hy y (aU ..))
 |x::x2::r,y::y2::q,_,_,hx,hy,e=>by
  have e:=bn (λs:Str=>s.cps.toList) e;simp only[Zj]at e;let⟨e1,e2⟩:=XG (hx x (aU ..)) (hy y (aU ..)) e;have:=zbM (xs:=x2::r) (ys:=y2::q) (by simp) (by simp) (λz hz=>hx z (ay _ hz)) (λz hz=>hy z (ay _ hz)) (zdq e2);rw[zdq e1,this]
def JP{c:Nat}{xs:A8}(h0:xs≠[])(h:∀x∈xs,c∉x.cps.toList):Txt.split (Str.join ⟨#[c]⟩ xs) ⟨#[c]⟩=xs :=
 zbM (λz=>by have:=split_pos (Str.join ⟨#[c]⟩ xs) ⟨#[c]⟩;rw[z]at this;simp at this) h0 (StrLaws.split_free _ c) h (StrLaws.join_split _ _)
section
variable{X:Cx}
end
section
variable{κ:Type}[DecidableEq κ]
noncomputable def j8(ph:List (κ×V))(k:κ):Option V:=(ph.find? λkv=>decide (kv.1=k)).map (·.2)
noncomputable def vj(ph:List (κ×V))(k:κ)(v:V):List (κ×V) :=
 if (ph.any λkv=>decide (kv.1=k))=true then ph.map (λkv=>if kv.1=k then(kv.1,v)else kv)else ph++[(k,v)]
noncomputable def ziY(ph:List (κ×V))(k:κ):List (κ×V):=ph.filter λkv=>decide (kv.1≠k)
def jc{p:κ×V}{r:List (κ×V)}{k:κ}(e:p.1=k):j8 (p::r) k=some p.2:=by simp[j8,dA,e]
def jd{p:κ×V}{r:List (κ×V)}{k:κ}(e:¬p.1=k):j8 (p::r) k=j8 r k:=by simp[j8,dA,e]
theorem ZU(k:κ):∀ph:List (κ×V),(ph.any λkv=>decide (kv.1=k))=(j8 ph k).isSome
 |[]=>rfl
 |p::r=>by
  rw[gS];by_cases e:p.1=k
  .simp only[jc e,bc e,Bool.true_or,Option.isSome_some]
  .rw[jd e,aT e,Bool.false_or];exact ZU k r
theorem zaB(k j:κ)(y:V):∀ph:List (κ×V),j8 (ph.map λkv=>if kv.1=k then(kv.1,y)else kv) j=(j8 ph j).map λx=>if j=k then y else x
 |[]=>rfl
 |p::r=>by
  have ih:=zaB k j y r;rw[bF];by_cases h:p.1=k
  .rw[ao h];by_cases e:p.1=j
   .rw[jc (p:=(p.1,y)) e,jc e,cr,ao (e.symm.trans h)]
   .rw[jd (p:=(p.1,y)) e,jd e,ih]
  .rw[ak h];by_cases e:p.1=j
   .rw[jc (p:=p) e,jc e,cr,ak (λz=>h (e.trans z))]
   .rw[jd (p:=p) e,jd e,ih]
theorem Wt(k j:κ)(y:V):∀ph:List (κ×V),j8 ph k=none->j8 (ph++[(k,y)]) j=if j=k then some y else j8 ph j
 |[],_=>by
  by_cases e:k=j
  .rw[ao e.symm];exact jc (p:=(k,y)) e
  .rw[ak (λz=>e z.symm)];exact jd (p:=(k,y)) e
 |p::r,hn=>by
  rw[fU];have hk:¬p.1=k:=λz=>by rw[jc z]at hn;cases hn
  rw[jd hk]at hn;have ih:=Wt k j y r hn;by_cases e:p.1=j
  .rw[jc e,jc e,ak (λz=>hk (e.trans z))]
  .rw[jd e,jd e,ih]
def zaA(ph:List (κ×V))(k j:κ)(y:V):j8 (vj ph k y) j=if j=k then some y else j8 ph j:=by
 unfold vj;by_cases a:(ph.any λkv=>decide (kv.1=k))=true
 .rw[ao a,zaB];rw[ZU]at a;by_cases e:j=k
  .obtain⟨x,hx⟩:=fZ.mp a;rw[ao e,e,hx,cr,ao rfl]
  .rw[ak e];cases j8 ph j with
   |none=>rfl
   |some x=>rw[cr,ak e]
 .rw[ak a];refine Wt k j y ph ?_;rw[ZU]at a;cases q:j8 ph k with
  |none=>rfl
  |some x=>rw[q]at a;exact(a rfl).elim
def Q7(ph:List (κ×V))(k:κ)(v:V):(vj ph k v).length<=ph.length+1:=by
 unfold vj
 split
 .rw[ai];lia
 .rw[aH,aX,cO];lia
def RelO.isSome_eq{o:Aq}{u:Option Value}(r:RelO o u):o.isSome=u.isSome:=by
 cases o with
 | none=>cases u with
  |none=>rfl
  |some _=>exact(show False from r).elim
 | some _=>cases u with
  |none=>exact(show False from r).elim
  |some _=>rfl
def RelO.getD{o:Aq}{u:Option Value}{d:V}{d':Am}(r:RelO o u)(rd:RelV d d'):RelV (o.getD d) (u.getD d'):=by
 cases o with
 | none=>cases u with
  |none=>exact rd
  |some _=>exact(show False from r).elim
 | some _=>cases u with
  |none=>exact(show False from r).elim
  |some _=>exact r
def KV.val{ph:List (κ×V)}{vs:List (κ×Value)}(r:KV ph vs)(k:κ):RelO (j8 ph k) (valueAt vs k):=by
 unfold KV at r
 induction r with
 |nil=>exact True.intro
 | @cons p q ps qs h t ih =>
  let⟨h1,h2⟩:=h;by_cases e:p.1=k
  .have e':q.1=k:=h1.symm.trans e;have b:valueAt (q::qs) k=some q.2:=by simp[valueAt,dA,e']
   rw[jc e,b];exact h2
  .have e':¬q.1=k:=λz=>e (h1.trans z);have b:valueAt (q::qs) k=valueAt qs k:=by simp[valueAt,dA,e']
   rw[jd e,b];exact ih
def KV.any{ph:List (κ×V)}{vs:List (κ×Value)}(r:KV ph vs)(k:κ):(ph.any λkv=>decide (kv.1=k))=vs.any λkv=>decide (kv.1=k):=by
 unfold KV at r
 induction r with
 |nil=>rfl
 |cons h t ih=>rw[gS,gS,ih,h.1]
theorem KV.repl{ph:List (κ×V)}{vs:List (κ×Value)}(r:KV ph vs)(k:κ){y:V}(ry:RelV y u) :
  KV (ph.map λkv=>if kv.1=k then(kv.1,y)else kv) (vs.map λkv=>if kv.1=k then(kv.1,u)else kv):=by
 unfold KV at r ⊢
 induction r with
 |nil=>exact .nil
 | @cons p q ps qs h t ih =>
  rw[bF,bF];refine .cons ?_ ih;let⟨h1,h2⟩:=h;by_cases e:p.1=k
  .rw[ao e,ao (h1.symm.trans e)];exact⟨h1,ry⟩
  .rw[ak e,ak (λz=>e (h1.trans z))];exact⟨h1,h2⟩
def KV.put{ph:List (κ×V)}{vs:List (κ×Value)}(r:KV ph vs)(k:κ){y:V}(ry:RelV y u):KV (vj ph k y) (stored vs k u):=by
 unfold vj stored;rw[r.any k];by_cases e:(vs.any λkv=>decide (kv.1=k))=true
 .rw[ao e,ao e];exact r.repl k ry
 .rw[ak e,ak e];exact Paired.snoc r ⟨rfl,ry⟩
def KV.drop{ph:List (κ×V)}{vs:List (κ×Value)}(r:KV ph vs)(k:κ):KV (ziY ph k) (without vs k):=by
 unfold KV at r ⊢;unfold ziY without
 induction r with
 |nil=>exact .nil
 | @cons p q ps qs h t ih =>
  let⟨h1,h2⟩:=h;rw[List.filter_cons,List.filter_cons];by_cases e:p.1=k
  .have a:¬decide (p.1≠k)=true:=by simp[e]
   have b:¬decide (q.1≠k)=true:=by simp[h1.symm.trans e]
   rw[ak a,ak b];exact ih
  .have e':¬q.1=k:=λz=>e (h1.trans z);have a:decide (p.1≠k)=true:=by simp[e]
   have b:decide (q.1≠k)=true:=by simp[e']
   rw[ao a,ao b];exact .cons ⟨h1,h2⟩ ih
def KV.keys{ph:List (κ×V)}{vs:List (κ×Value)}(r:KV ph vs):ph.map (·.1)=vs.map (·.1):=by
 unfold KV at r
 induction r with
 |nil=>rfl
 |cons h t ih=>rw[bF,bF,ih,h.1]
def KV.length{ph:List (κ×V)}{vs:List (κ×Value)}(r:KV ph vs):ph.length=vs.length:=cF r
end
def zdO{P:Af}{k:Key}(r:RelV (kV k) u):(jb P w).is k u=true:=by
 cases k with
 |inl i=>let⟨t,e⟩:=(show ∃t,u=Value.int i t from r);subst e;exact zbv P w i t
 |inr x=>let⟨t,e⟩:=(show ∃t,u=Value.str x t from r);subst e;exact zbu P w x t
theorem Vb{P:Af}{w:World}:∀{ks:List Key}{us:A7},Vals (ks.map kV) us->ItemsAre (jb P w) ks us
 |[],_,r=>by rw[gx]at r;cases r;exact .nil
 |k::ks,_,r=>by
  rw[bF]at r;cases r with
  |cons h t=>exact .cons (zdO h) (Vb t)
abbrev KT(H:Hp):List (List Key×V)->List (List Key×Addr×Value)->Prop:=Paired λp q=>p.1=q.1/\H q.2.1=some (.tup (p.1.map kV))/\RelV p.2 q.2.2
def KT.val{xs:List (List Key×Addr×Value)}(r:KT H ph xs)(k:List Key):RelO (j8 ph k) ((atKey xs k).map (·.2)):=by
 induction r with
 |nil=>exact True.intro
 | @cons p q ps qs h t ih =>
  let⟨h1,_,h2⟩:=h;by_cases e:p.1=k
  .have e':q.1=k:=h1.symm.trans e;have b:atKey (q::qs) k=some q.2:=by simp[atKey,dA,e']
   rw[jc e,b];exact h2
  .have e':¬q.1=k:=λz=>e (h1.trans z);have b:atKey (q::qs) k=atKey qs k:=by simp[atKey,dA,e']
   rw[jd e,b];exact ih
theorem KT.repl{xs:List (List Key×Addr×Value)}(r:KT H ph xs)(k:List Key){y:V}(ry:RelV y u) :
  KT H (ph.map λkv=>if kv.1=k then(kv.1,y)else kv) (xs.map (putAt k u)):=by
 induction r with
 |nil=>exact .nil
 | @cons p q ps qs h t ih =>
  rw[bF,bF];refine .cons ?_ ih;let⟨h1,h2,h3⟩:=h;unfold putAt;by_cases e:p.1=k
  .rw[ao e,ao (h1.symm.trans e)];exact⟨h1,h2,ry⟩
  .rw[ak e,ak (λz=>e (h1.trans z))];exact⟨h1,h2,h3⟩
def KT.put{xs:List (List Key×Addr×Value)}(r:KT H ph xs)(k:List Key){y:V}(hb:H b=some (.tup (k.map kV)))(ry:RelV y u) :
  KT H (vj ph k y) (storedH xs k b u):=by
 have e:(ph.any λkv=>decide (kv.1=k))=(atKey xs k).isSome:=by
  rw[ZU,(r.val k).isSome_eq,dN]
 unfold vj storedH;rw[e];by_cases q:(atKey xs k).isSome=true
 .rw[ao q,ao q];exact r.repl k ry
 .rw[ak q,ak q];exact Paired.snoc r ⟨rfl,hb,ry⟩
def KT.keeps{H H':Hp}{xs:List (List Key×Addr×Value)}(r:KT H ph xs)(ht:∀b ys,H b=some (.tup ys)->H' b=some (.tup ys)):KT H' ph xs :=
 Paired.mapP r λ_ _ z=>⟨z.1,ht _ _ z.2.1,z.2.2⟩
section
variable{P:Af}{w:World}{H:Hp}{h:Heap}{a:Addr}
def ziP{u:HO}(ok:HOk P w H h)(e:Rd H a u):ObjOk P w H h a u:=e.ok ok
def zdZ{ph:List (Key×V)}(ok:HOk P w H h)(e:Rd H a (.dK ph)):ph.length<=sizeLine/\(a == sysModules)=false/\∃vs,KV ph vs/\h.DictOf (jb P w) a vs :=
 show ObjOk P w H h a (.dK ph)from ziP ok e
def zkV{ph:List (Key×V)}(ok:HOk P w H h)(e:H a=some (.dK ph)):ph.length<=sizeLine/\(a == sysModules)=false/\∃vs,KV ph vs/\h.DictOf (jb P w) a vs:=zdZ ok (.inl e)
def V6{ks:List Key}(ok:HOk P w H h)(e:H a=some (.tup (ks.map kV))):(tupleKind (jb P w)).is h ks a:=by
 let⟨_,pi,r,o,h1,h2,n,h3⟩:=(show ObjOk P w H h a (.tup (ks.map kV))from ok a _ e);exact⟨o,pi.toArray,n,h1,h2,h3,by simpa using Vb r⟩
theorem zdY(ok:HOk P w H h)(e:Rd H a (.dT ph)):ph.length<=sizeLine/\(a == sysModules)=false /\
  ∃xs,KT H ph xs/\h.DictOfH (tupleKind (jb P w)) a xs:=by
 let⟨z,y,xs,r,o,es,ep,h1,h2,h3,h4,h5⟩:=(show ObjOk P w H h a (.dT ph)from ziP ok e);refine⟨z,y,xs,r,o,es,ep,h1,h2,h3,h4,λx hx=>?_,h5⟩;have all:∀{l:As}{m:List (List Key×Addr×Value)},KT H l m->∀x∈m,(tupleKind (jb P w)).is h x.1 x.2.1:=by
  intro l m q
  induction q with
  |nil=>intro x hx;exact nomatch hx
  | @cons p q ps qs hq t ih =>
   intro x hx;rcases av.mp hx with e|hx
   .subst e;exact V6 ok (by rw[<- hq.1];exact hq.2.1)
   .exact ih x hx
 exact all r x hx
def zkU(ok:HOk P w H h)(e:H a=some (.dT ph)):ph.length<=sizeLine/\(a == sysModules)=false /\
  ∃xs,KT H ph xs/\h.DictOfH (tupleKind (jb P w)) a xs:=zdY ok (.inl e)
end
def DGet(H:Hp)(a:Addr)(y:V)(r:Aq):Prop :=
 (∃ph k,Rd H a (.dK ph)/\y=kV k/\r=j8 ph k)\/∃ph k b,Rd H a (.dT ph)/\y=.ref b/\H b=some (.tup (k.map kV))/\r=j8 ph k
def DPut(H:Hp)(a:Addr)(y v:V)(H':Hp):Prop :=
 (∃ph k,H a=some (.dK ph)/\y=kV k/\ph.length<sizeLine/\H'=upd H a (.dK (vj ph k v))) \/
 ∃ph k b,H a=some (.dT ph)/\y=.ref b/\H b=some (.tup (k.map kV))/\ph.length<sizeLine/\H'=upd H a (.dT (vj ph k v))
def DGet.k{a:Addr}{ph:List (Key×V)}{k:Key}(e:H a=some (.dK ph)):DGet H a (kV k) (j8 ph k):=.inl ⟨ph,k,.inl e,rfl,rfl⟩
def DGet.t{a b:Addr}{k:List Key}(e:H a=some (.dT ph))(eb:H b=some (.tup (k.map kV))):DGet H a (.ref b) (j8 ph k):=.inr ⟨ph,k,b,.inl e,rfl,eb,rfl⟩
def DPut.k{a:Addr}{ph:List (Key×V)}{k:Key}(e:H a=some (.dK ph))(hl:ph.length<sizeLine):DPut H a (kV k) v (upd H a (.dK (vj ph k v))):=.inl ⟨ph,k,e,rfl,hl,rfl⟩
def DPut.t{a b:Addr}{k:List Key}(e:H a=some (.dT ph))(eb:H b=some (.tup (k.map kV)))(hl:ph.length<sizeLine) :
  DPut H a (.ref b) v (upd H a (.dT (vj ph k v))):=.inr ⟨ph,k,b,e,rfl,eb,hl,rfl⟩
section
variable{X:Cx}{p5:A2}{σ:St}{H:Hp}{s:An}{a:Addr}{y v:V}{u r:Am}{o:Aq}{A:Ao}{E:A3}
def Inv.big(I:Inv X p5 σ H s):sysModules<s.heap.objs.size:=by
 have h:mainGlobals<s.heap.objs.size:=(I.mod.glob.keeps I.bk).lt;exact Nat.lt_trans (by decide) h
def zfg{Q:A3}(hu:A.units+1<cLine)(I:Inv X p5 σ H s)(g:DGet H a y (some v))(ry:RelV y u)(h:∀w' s',Inv X p5 σ H s'->RelV v w'->Q w' s') :
  wpAny (model X.prog X.w) A (getItem (.ref a) u) Q E s:=by
 rcases g with⟨ph,k,e,ey,l⟩|⟨ph,k,b,e,ey,eb,l⟩
 .subst ey;let⟨z,hd,vs,rel,dd⟩:=zdZ I.hok e;let⟨w',hw,rw'⟩:=RelO.some_of (v:=v) (o:=valueAt vs k) (by rw[l];exact rel.val k);exact wpAny_getItem_of (zdO ry) dd.mapOf hw (h w' _ (I.tok _) rw')
 .subst ey;cases (show u=Value.ref b from ry);let⟨z,hd,xs,rel,dd⟩:=zdY I.hok e;let⟨w',hw,rw'⟩:=RelO.some_of (v:=v) (o:=(atKey xs k).map (·.2)) (by rw[l];exact rel.val k);let⟨p,hp,hp2⟩:=aq.mp hw;refine wpAny_getItem_heap (fD hu) (V6 I.hok eb) dd hp ?_;rw[hp2];exact h w' _ (I.tok _) rw'
def zld{Q:A3}(hu:A.units+1<cLine)(I:Inv X p5 σ H s)(g:DGet H a y o)(ry:RelV y u)(h:∀s',Inv X p5 σ H s'->Q (.bool o.isSome) s') :
  wpAny (model X.prog X.w) A (compareOp .In u (.ref a)) Q E s:=by
 rcases g with⟨ph,k,e,ey,l⟩|⟨ph,k,b,e,ey,eb,l⟩
 .subst ey;let⟨z,hd,vs,rel,dd⟩:=zdZ I.hok e;refine wpAny_in_of (zdO ry) hd dd.mapOf ?_;rw[<- (rel.val k).isSome_eq,<- l];exact h _ (I.tok _)
 .subst ey;cases (show u=Value.ref b from ry);let⟨z,hd,xs,rel,dd⟩:=zdY I.hok e;refine wpAny_in_heap (fD hu) (V6 I.hok eb) hd dd ?_;have q:=(rel.val k).isSome_eq;rw[dN]at q;rw[<- q,<- l];exact h _ (I.tok _)
def zah{h':Heap}{t':Nat}{ob:HO}(I:Inv X p5 σ H s)(mu:Mut (H a))(hs:Heap.SameBut a s.heap h')(he:∃q,h'.get? a=some q)(new:ObjOk X.prog X.w (upd H a ob) h' a ob) :
  Inv X p5 σ (upd H a ob) {s with heap:=h',toks:=t'} :=
 I.write (x:=a) (e:=a) mu (.inl rfl) (λb q hb z=>(hs.2 b hb).trans z) he new
def zjX{P:Af}{H':Hp}{h':Heap}{ph:List (Key×V)}{vs:List (Key×Value)}(z:ph.length<=sizeLine)(hd:(a == sysModules)=false)(rel:KV ph vs)(dd:h'.DictOf (jb P w) a vs) :
  ObjOk P w H' h' a (.dK ph):=⟨z,hd,vs,rel,dd⟩
def zff{H':Hp}{Q:Ag}(hu:A.units+1<cLine)(I:Inv X p5 σ H s)(g:DPut H a y v H')(ry:RelV y u)(rv:RelV v r)(h:∀s',Inv X p5 σ H' s'->Q () s') :
  wpAny (model X.prog X.w) A (setItem (.ref a) u r) Q E s:=by
 rcases g with⟨ph,k,e,ey,l,eH⟩|⟨ph,k,b,e,ey,eb,l,eH⟩
 .subst ey eH;let⟨z,hd,vs,rel,dd⟩:=zkV I.hok e;have hz:vs.length<=sizeLine:=by rw[<- rel.length];exact z
  have hl:(vj ph k v).length<=sizeLine:=by have:=Q7 ph k v;lia
  refine wpAny_setItem_pairs (hsz:=hz) (zdO ry) dd λh' dd' hs=>h _ ?_;have he:∃q,h'.get? a=some q:=let⟨q,_,_,hq,_⟩:=dd';⟨q,hq⟩
  exact zah I (by rw[e];exact True.intro) hs he (zjX hl hd (rel.put k rv) dd')
 .subst ey eH;cases (show u=Value.ref b from ry);let⟨z,hd,xs,rel,dd⟩:=zkU I.hok e;have hz:xs.length<=sizeLine:=by rw[<- cF rel];exact z
  have hl:(vj ph k v).length<=sizeLine:=by have:=Q7 ph k v;lia
  refine wpAny_setItem_heap (hsz:=hz) (fD hu) (V6 I.hok eb) dd λh' dd' hs=>h _ ?_;let⟨q,es,ep,hq,h2,h3,h4,_,h5⟩:=dd';refine zah I (by rw[e];exact True.intro) hs ⟨q,hq⟩ ⟨hl,hd,_,(rel.put k eb rv).keeps λc ys ec=>?_,q,es,ep,hq,h2,h3,h4,h5⟩;rw[pE (Qc ec e (λz=>nomatch z))];exact ec
end
section
variable{X:Cx}{p5:A2}{σ:St}{H:Hp}{s:An}{a:Addr}{ph:List (Key×V)}{k:Key}{u:Am}{A:Ao}{E:A3}
end
def zkg(i:Expr):Prop:=∀ov iv,subscripted i false ov iv=operate [ov,iv] (getItem ov iv)
theorem zdo{prog:Af}{A:Ao}{E:A3}{s:An}{env:Env}{value slice:Expr}{pos:Pos}{T id:String}{Q:A3}(hl:typeLookup (.type T) "__getitem__"=pure (some (.builtin id)))(hs:zkg slice)(h:wpAny (model prog w) A (eval value env) (λo s₁=>wpAny (model prog w) A (eval slice env) (λi s₂=>s₂.TypeIs o T/\wpAny (model prog w) A (getItem o i) Q E s₂) E s₁) E s) :
  wpAny (model prog w) A (eval (.Subscript value slice pos) env) Q E s:=by
 refine Subscript_ (aZ h (λo s₁ h₁=>aZ h₁ (λi s₂ h₂=>?_) λ_ _ x=>x) λ_ _ x=>x);let⟨hT,h₂⟩:=h₂;unfold subscriptTail;refine af ?_;rw[getitemInPython_of_ne hT.not_modules];refine af (gu hT hl ?_);have fin:wpAny (model prog w) A (subscripted slice false o i) (λr s₃=>wpAny (model prog w) A (letTemporaryGo value o r >>= λ_=>pure r) Q E s₃) E s₂:=by
  rw[hs o i];exact wpAny_operating (aZ h₂ (λr s₃ h₃=>af (wpAny_letTemporaryGo (ap h₃))) λ_ _ x=>x)
 first
  |exact ap (af fin)
  |exact af (ap (af fin))
  |exact af fin
def zbT{X:Cx}{p5:A2}{σ:St}{s:An}{a:Addr}{y:V}{o:Aq}(I:Inv X p5 σ H s)(g:DGet H a y o):s.TypeIs (.ref a) "dict":=by
 rcases g with⟨ph,k,e,_,_⟩|⟨ph,k,b,e,_,_,_⟩
 .obtain⟨_,_,vs,_,dd⟩:=zdZ I.hok e;exact dd.typeIs
 .obtain⟨_,_,xs,_,dd⟩:=zdY I.hok e;exact dd.typeIs
def tDGet(td ty:TE):TE:=λσ H Q=>td σ H λx H1=>ty σ H1 λy H2=>∃a v,x=.ref a/\DGet H2 a y (some v)/\Q v H2
def tDIn(ty td:TE):TE:=λσ H Q=>ty σ H λy H1=>td σ H1 λx H2=>∃a o,x=.ref a/\DGet H2 a y o/\Q (.bl o.isSome) H2
def sDPut(td ty tv:TE):TS:=λD σ H=>tv σ H λv H1=>td σ H1 λx H2=>ty σ H2 λy H3=>∃a H4,x=.ref a/\DPut H3 a y v H4/\D.nx σ H4
section
variable{X:Cx}{o i e value:Expr}{pos pos' tpos:Pos}{td ty tv:TE}
def zdA(hu:X.A.units+1<cLine)(ho:PE X o td)(hi:PE X i ty)(hs:zkg i):PE X (.Subscript o i pos) (tDGet td ty):=by
 intro p5 s σ H Q I h;refine zdo fP.lookup hs (thn (ho p5 s σ H _ I h) λu s1 ⟨x,H1,I1,rx,q1⟩=>thn (hi p5 s1 σ H1 _ I1 q1) λiv s2 ⟨y,H2,I2,ry,a,v,ex,g,q2⟩=>?_);subst ex;obtain rfl:u=Value.ref a:=rx;exact⟨zbT I2 g,zfg hu I2 g ry λw' s3 I3 rw'=>⟨v,H2,I3,rw',q2⟩⟩
def zjs(hu:X.A.units+1<cLine)(hi:PE X i ty)(ho:PE X o td):PC X .In i o (tDIn ty td):=by
 intro p5 s σ H Q I h;refine thn (hi p5 s σ H _ I h) λiv s1 ⟨y,H1,I1,ry,q1⟩=>thn (ho p5 s1 σ H1 _ I1 q1) λu s2 ⟨x,H2,I2,rx,a,ov,ex,g,q2⟩=>?_;subst ex;obtain rfl:u=Value.ref a:=rx;exact zld hu I2 g ry λs3 I3=>⟨.bl ov.isSome,H2,I3,rfl,q2⟩
def zhR(hu:X.A.units+1<cLine)(ho:PE X o td)(hi:PE X i ty)(hv:PE X value tv)(hs:swapsWith value (some (.Subscript o i pos')) pos.line X.env=pure false) :
  PS X (.Assign [.Subscript o i pos'] value pos) (sDPut td ty tv):=by
 intro p5 s σ H D I h;refine wpAny_Assign_Subscript (thn (hv p5 s σ H _ I h) λr s1 ⟨v,H1,I1,rv,q1⟩=>thn (ho p5 s1 σ H1 _ I1 q1) λu s2 ⟨x,H2,I2,rx,q2⟩=>thn (hi p5 s2 σ H2 _ I2 q2) λiv s3 ⟨y,H3,I3,ry,a,H4,ex,g,q3⟩=>?_) hs;subst ex;obtain rfl:u=Value.ref a:=rx;exact zff hu I3 g ry rv λs4 I4=>⟨σ,H4,I4,q3⟩
end
def zg2{P:Af}(h:Heap)(hb:sysModules<h.objs.size):ObjOk P w H (h.push {cls:=.type "dict",data:=.dict #[]}) h.objs.size (.dT []) :=
 ⟨bz _,a9.mpr (bb (aP hb)),[],.nil,_,#[],0,aC _ rfl,⟨rfl,rfl,rfl⟩,rfl,rfl,nodup_nil⟩
def tDNewT:TE:=λ_ H Q=>∀p,H p=none->Q (.ref p) (upd H p (.dT []))
section
variable{X:Cx}{pos:Pos}
def zgj:PE X (.Dict [] [] pos) tDNewT:=λp5 s σ H Q I h =>
 wpAny_Dict_empty ⟨.ref s.heap.objs.size,_,I.laid (a:=s.heap.objs.size) (o:=.dT []) (t':=s.toks) (λ_ _ q=>aj _ q) (au _) (zg2 s.heap I.big),rfl,h _ (I.hok.fresh (au _))⟩
end
section
variable{X:Cx}{p5:A2}{σ:St}{H:Hp}{s:An}{a:Addr}{y d:V}{u r:Am}{o:Aq}{A:Ao}{E:A3}
end
section
variable{X:Cx}{o e f:Expr}{apos cpos:Pos}{td ty tx:TE}
end
section
variable{κ:Type}[DecidableEq κ]
end
end L2
namespace L2
open PySem PySem.Spec PySem.Calls PyProof.Rows
section
variable{X:Cx}
end
end L2
namespace L2
open PySem PySem.Spec PyProof.Rows
variable{items:Ac}
section
variable{prog:Af}{w:World}{A:Ao}{E:A3}{s:An}{it d:Addr}{i ep:Nat}{es:Array DictEntry}{od:Obj}
end
theorem xr{α β:Type}{F:α->β->Prop}:∀{l₁:List α}{l₂:List β},Paired F l₁ l₂->∀{i:Nat}{x:α}{y:β},l₁[i]?=some x->l₂[i]?=some y->F x y
 |_,_,.nil,_,_,_,h,_=>nomatch h
 |_,_,.cons r t,0,_,_,h,h'=>by cases h;cases h';exact r
 |_,_,.cons r t,i+1,_,_,h,h'=>xr t h h'
section
variable{prog:Af}{w:World}
structure KItem(prog:Af)(w:World)(κ:Type)[DecidableEq κ](d:Nat) where
 is:Heap->κ->Value->Prop
 hash:κ->Int
 draws:κ->Nat
 inj:∀{h:Heap}{v:Am}{x y:κ},is h x v->is h y v->x=y
 keeps:∀{h h':Heap}{k:κ}{v:Am}{a:Addr}{o:Obj}{es:Array DictEntry}{ep:Nat},is h k v->h.get? a=some o->o.data=.dict es ep->Heap.SameBut a h h'->is h' k v
 pyHash:∀{A:Ao}{E:A3}{s:An}{k:κ}{v:Am}{Q:Int->Shared->Prop},A.units+d<cLine->is s.heap k v->Q (hash k) {s with toks:=s.toks+draws k}->wpAny (model prog w) A (PySem.pyHash v) Q E s
 eq:∀{A:Ao}{s:An}{x y:κ}{u v:Am},A.units+d<cLine->is s.heap x u->is s.heap y v->SeqAt.EqAt A s u v (decide (x=y))
 quiet:∀{A:Ao}{E:A3}{s:An}{n:Nat}{k:κ}{v:Am}{Q:Bool->Shared->Prop},d<=n->is s.heap k v->Q true s->wpAny (model prog w) A (eqIsQuiet n v) Q E s
noncomputable def oiV:Option Int->V
 |none=>.non
 |some n=>.int n
def zbj(x:A9):jQ (oiV x)=true:=by cases x<;>rfl
def zjx(x y:A9):eqV (oiV x) (oiV y)=decide (x=y):=by
 cases x with
 |none=>cases y<;>simp[oiV,eqV]
 |some a =>
  cases y with
  |none=>simp[oiV,eqV]
  |some b =>
   show(a == b)=decide (some a=some b)
   by_cases e:a=b<;>simp[e]
def zh2{x y:A9}{v:Am}(h1:RelV (oiV x) v)(h2:RelV (oiV y) v):x=y:=by
 cases x<;>cases y
 .rfl
 .cases h1;let⟨t,e⟩:=h2;cases e
 .cases h2;let⟨t,e⟩:=h1;cases e
 .obtain⟨t,rfl⟩:=h1;let⟨t,e⟩:=h2;cases e;rfl
noncomputable def zkO:Option Int->Int
 |none=>reduceHash 0xFCA86420
 |some n=>hashInt n
def zbk{x:A9}{v:Am}(h:RelV (oiV x) v):carriedByValue v=true:=by
 cases x with
 |none=>cases h;rfl
 |some n=>let⟨t,rfl⟩:=h;rfl
noncomputable def ji(prog:Af)(w:World):KItem prog w A9 0 where
 is:=λ_ k v=>RelV (oiV k) v
 hash:=zkO
 draws:=λ_=>1
 inj:=zh2
 keeps:=λh _ _ _=>h
 pyHash:=by
  intro A E s k v Q hu h q;cases k with
  |none =>
   cases h;exact ij (T:="NoneType") rfl F.slot_NoneType_hash F.entry_NoneType_hash (F.args_NoneType_hash_1 _) (beq_builtin_none _) (.inr (by lia)) (af (ap (af (wpAny_mkInt (ap ⟨_,_,rfl,q⟩)))))
  |some n =>
   let⟨t,rfl⟩:=h;exact wpAny_pyHash_int q
 eq:=by
  intro A s x y u v hu h1 h2;rw[<- zjx];exact ZO h1 h2 (zbj x) (zbj y)
 quiet:=by
  intro A E s n k v Q _ h q;rw[eqIsQuiet_byValue _ (zbk h)];exact ap q
inductive HashAll(prog:Af)(w:World)(d:Nat)(hp:Heap):List Value->List (Int×Nat)->Prop
 |nil:HashAll prog w d hp [] []
 |cons {v:Am} {h:Int×Nat} {vs:A7} {hs:List (Int×Nat)}:(∀(A:Ao)(E:A3)(s:An)(Q:Int->Shared->Prop),s.heap=hp->A.units+d<cLine->Q h.1 {s with toks:=s.toks+h.2}->wpAny (model prog w) A (PySem.pyHash v) Q E s)->HashAll prog w d hp vs hs->HashAll prog w d hp (v::vs) (h::hs)
theorem Vc{d:Nat}{hp:Heap}{A:Ao}{E:A3}(hu:A.units+d<cLine):∀{vs:A7}{hs:List (Int×Nat)}{s:An}{b:Array Int}{Q:Array Int->Shared->Prop},HashAll prog w d hp vs hs->s.heap=hp->(∀b',b'.toList=b.toList++hs.map (·.1)->Q b' {s with toks:=s.toks+(hs.map (·.2)).sum}) ->
  wpAny (model prog w) A (forIn vs b λx r=>do let h <- PySem.pyHash x;pure PUnit.unit;pure (ForInStep.yield (r.push h))) Q E s
 |_,_,s,b,Q,.nil,_,h=>ap (h b (by simp))
 |_,_,s,b,Q,.cons (h:=h0) x r,e,h=>by
  rw[gP];refine af (af (x A E s _ e hu ?_));refine af (ap (ap ?_));refine Vc hu r (by exact e) λb' hb=>?_;have:=h b' (by simp[hb]);simpa[eU]using this
def zbQ{d:Nat}{a:Addr}{hs:List (Int×Nat)}{A:Ao}{E:A3}{s:An}{Q:Int->Shared->Prop}(hT:IsTup s.heap a items)(all:HashAll prog w d s.heap items.toList hs)(hu:A.units+(d+1)<cLine)(h:Q (reduceHash (Builtin.Tuple.tupleHashOf (hs.map (·.1)))) {s with toks:=s.toks+((hs.map (·.2)).sum+1)}):wpAny (model prog w) A (PySem.pyHash (.ref a)) Q E s:=by
 let⟨o,ho,hc,n,hd⟩:=hT;refine ij (T:="tuple") ⟨_,ho,hc⟩ F.slot_tuple_hash F.entry_tuple_hash (F.args_tuple_hash_1 _) (beq_builtin_none _) (.inr (by lia)) ?_;show wpAny _ _ (Builtin.Tuple.tupleItemsOf (.ref a) >>= _) _ _ s
 refine af (wpAny_tupleItemsOf ho hd ?_);refine af ?_;rw[<- dH];refine Vc (d:=d) (by simp only[eE];lia) all rfl λb hb=>?_;show wpAny _ _ (retInt (Builtin.Tuple.tupleHashOf b.toList)) _ _ _
 rw[hb];exact af (wpAny_mkInt (ap ⟨_,_,rfl,by simpa[eU]using h⟩))
def QF{d:Nat}{a:Addr}{A:Ao}{E:A3}{s:An}{Q:Bool->Shared->Prop}{n:Nat}(hT:IsTup s.heap a items)(all:∀v∈items.toList,∀(A:Ao)(E:A3)(Q:Bool->Shared->Prop),Q true s->wpAny (model prog w) A (eqIsQuiet n v) Q E s)(h:Q true s):wpAny (model prog w) A (eqIsQuiet (n+1) (.ref a)) Q E s:=by
 let⟨o,ho,hc,m,hd⟩:=hT;have hT:s.TypeIs (.ref a) "tuple":=⟨o,ho,hc⟩;unfold eqIsQuiet;refine af (gu hT F.slot_tuple_eq.lookup ?_);show wpAny _ _ (isInstance (.ref a) (.type "tuple") >>= _) _ _ s
 refine af (fR hT isSubtype_tuple_tuple ?_);simp only[cQ,aW,br];refine af (bJ ho hd ?_);refine af ?_;show wpAny _ _ (forIn items _ _) _ _ s
 rw[<- dH];refine eB _ (λrest r s'=>r.1=none/\s'=s/\∀v∈rest,v∈items.toList) _ ?_ ?_ _ _ ⟨rfl,rfl,λv hv=>hv⟩
 .rintro v rest r s' ⟨hr,rfl,hall⟩;refine af (all v (hall v aU) _ _ _ ?_);simp only[cQ,aW,br];exact ap ⟨rfl,rfl,λu hu'=>hall u (ay _ hu')⟩
 .rintro⟨r1,r2⟩ s' ⟨hr,rfl,_⟩;simp only at hr;subst hr;exact ap h
def XB{h h':Heap}{b a:Addr}{o:Obj}{es:Array DictEntry}{ep:Nat}(x:IsTup h b items)(ho:h.get? a=some o)(hd:o.data=.dict es ep)(hs:Heap.SameBut a h h'):IsTup h' b items:=by
 let⟨o',h1,h2,n,h3⟩:=x;have ne:b≠a:=λz=>by
  subst z;rw[ho]at h1;cases h1;rw[hd]at h3;cases h3
 exact⟨o',(hs.2 b ne).trans h1,h2,n,h3⟩
def Zk{h:Heap}{b:Addr}{xs ys:Ac}(x:IsTup h b xs)(y:IsTup h b ys):xs=ys:=by
 let⟨o,h1,_,n,h3⟩:=x;let⟨o',g1,_,m,g3⟩:=y;rw[h1]at g1;cases g1;rw[h3]at g3;injection g3
def zj9{κ:Type}[DecidableEq κ]{xs ys:List κ}:((List.range (min xs.length ys.length)).all (λj=>decide (xs[j]?=ys[j]?))&&xs.length == ys.length)=decide (xs=ys):=by
 by_cases e:xs=ys
 .subst e;simp
 .rw[aT e];by_cases hl:xs.length=ys.length
  .have:¬(List.range (min xs.length ys.length)).all (λj=>decide (xs[j]?=ys[j]?))=true:=λz=>e (List.ext_getElem? λj=>by
    rw[cJ]at z;by_cases hj:j<xs.length
    .exact bQ (z j (bu.mpr (by lia)))
    .rw[cm (by lia),cm (by lia)])
   simp only[Bool.not_eq_true]at this;rw[this]
   rfl
  .have:(xs.length == ys.length)=false:=a9.mpr hl;rw[this,cg]
section
variable{κ:Type}[DecidableEq κ]{d:Nat}
theorem ZK{F:κ->Value->Prop}(f:∀(x y:κ)(v:Am),F x v->F y v->x=y):∀{xs ys:List κ}{vs:A7},Paired F xs vs->Paired F ys vs->xs=ys
 |_,_,_,.nil,h=>by cases h;rfl
 |_,_,_,.cons a t,h=>by
  cases h with
  |cons b u=>rw[f _ _ _ a b,ZK f t u]
def zbC{n d e c:Nat}(l:d<=e)(h:n+e<c):n+d<c:=cU (ip l n) h
def zkN{A:Ao}{e c:Nat}(h:A.units+(e+1)<c):A.in1.units+e<c:=by
 simp only[eE]
 lia
def zfJ{n d:Nat}(h:d+1<=n):∃m,n=m+1/\d<=m:=⟨n-1,by lia,by lia⟩
noncomputable def xF(I:KItem prog w κ d):KItem prog w (List κ) (d+1) where
 is:=λh ks v=>∃a items,v=.ref a/\IsTup h a items/\Paired (I.is h) ks items.toList
 hash:=λks=>reduceHash (Builtin.Tuple.tupleHashOf (ks.map I.hash))
 draws:=λks=>(ks.map I.draws).sum+1
 inj:=by
  rintro h v x y ⟨a,items,rfl,h1,h2⟩ ⟨b,items',e,g1,g2⟩;cases e;have:=Zk h1 g1;subst this;exact ZK (F:=I.is h) (λ_ _ _ p q=>I.inj p q) h2 g2
 keeps:=by
  rintro h h' k v a o es ep ⟨b,items,rfl,h1,h2⟩ ho hd hs;exact⟨b,items,rfl,XB h1 ho hd hs,Paired.mapP h2 λp q z=>I.keeps z ho hd hs⟩
 pyHash:=by
  rintro A E s k v Q hu ⟨b,items,rfl,h1,h2⟩ q;have all:∀{ks:List κ}{vs:A7},Paired (I.is s.heap) ks vs->HashAll prog w d s.heap vs (ks.map λk=>(I.hash k,I.draws k)):=by
   intro ks vs p
   induction p with
   |nil=>exact .nil
   |cons z _ ih=>exact .cons (λA E s' Q e hu q=>I.pyHash hu (by rw[e];exact z) q) ih
  refine zbQ h1 (all h2) hu ?_;rw[e6,e6];exact q
 eq:=by
  rintro A s x y u v hu ⟨a,xs,rfl,h1,h2⟩ ⟨b,ys,rfl,g1,g2⟩;by_cases e:a=b
  .subst e;have:=Zk h1 g1;subst this;rw[ZK (F:=I.is s.heap) (λ_ _ _ p q=>I.inj p q) h2 g2,bc rfl];exact eR _
  .refine dg e ?_;have l1:x.length=xs.size:=by rw[cF h2,aK]
   have l2:y.length=ys.size:=by rw[cF g2,aK]
   have:=dr (A:=A) (s:=s) (e:=λj=>decide (x[j]?=y[j]?)) h1 g1 (by lia) (λj hj1 hj2=>by
    let⟨k1,e1⟩:∃k,x[j]?=some k:=⟨x[j]'(by lia),ac _⟩;let⟨k2,e2⟩:∃k,y[j]?=some k:=⟨y[j]'(by lia),ac _⟩;have p1:=xr h2 e1 (show xs.toList[j]?=some xs[j] by rw[bK,bI hj1]);have p2:=xr g2 e2 (show ys.toList[j]?=some ys[j] by rw[bK,bI hj2]);rw[e1,e2,show decide (some k1=some k2)=decide (k1=k2) by simp];exact I.eq (zkN hu) p1 p2)
   rw[<- l1,<- l2,zj9]at this;exact this
 quiet:=by
  rintro A E s n k v Q hn ⟨b,items,rfl,h1,h2⟩ q;let⟨m,rfl,hm⟩:=zfJ hn;refine QF (d:=d) h1 (λv hv A E Q q=>?_) q;let⟨j,hj⟩:=gZ.mp hv;have hl:=(aa.mp hj).1;let⟨k1,e1⟩:∃x,k[j]?=some x:=⟨k[j]'(by rw[cF h2];exact hl),ac _⟩;exact I.quiet hm (xr h2 e1 hj) q
end
section
variable{κ1 κ2 κ3 κ4:Type}[DecidableEq κ1][DecidableEq κ2][DecidableEq κ3][DecidableEq κ4]{d1 d2 d3 d4:Nat}
inductive QIs(I1:KItem prog w κ1 d1)(I2:KItem prog w κ2 d2)(I3:KItem prog w κ3 d3)(I4:KItem prog w κ4 d4)(h:Heap)(k:κ1×κ2×κ3×κ4)(v:Am):Prop
 |i (a:Addr) (u1 u2 u3 u4:Am):v=.ref a->IsTup h a #[u1,u2,u3,u4]->I1.is h k.1 u1->I2.is h k.2.1 u2->I3.is h k.2.2.1 u3->I4.is h k.2.2.2 u4->QIs I1 I2 I3 I4 h k v
noncomputable def zf9(I1:KItem prog w κ1 d1)(I2:KItem prog w κ2 d2)(I3:KItem prog w κ3 d3)(I4:KItem prog w κ4 d4)(d:Nat)(l1:d1<=d)(l2:d2<=d)(l3:d3<=d)(l4:d4<=d):KItem prog w (κ1×κ2×κ3×κ4) (d+1) where
 is:=QIs I1 I2 I3 I4
 hash:=λk=>reduceHash (Builtin.Tuple.tupleHashOf [I1.hash k.1,I2.hash k.2.1,I3.hash k.2.2.1,I4.hash k.2.2.2])
 draws:=λk=>[I1.draws k.1,I2.draws k.2.1,I3.draws k.2.2.1,I4.draws k.2.2.2].sum+1
 inj:=by
  rintro h v ⟨x1,x2,x3,x4⟩ ⟨y1,y2,y3,y4⟩ ⟨a,u1,u2,u3,u4,rfl,h1,i1,i2,i3,i4⟩ ⟨b,v1,v2,v3,v4,e,g1,j1,j2,j3,j4⟩;cases e;have:=Zk h1 g1;cases this;simp only at i1 i2 i3 i4 j1 j2 j3 j4;rw[I1.inj i1 j1,I2.inj i2 j2,I3.inj i3 j3,I4.inj i4 j4]
 keeps:=by
  rintro h h' k v a o es ep ⟨b,u1,u2,u3,u4,rfl,h1,i1,i2,i3,i4⟩ ho hd hs;exact⟨b,u1,u2,u3,u4,rfl,XB h1 ho hd hs,I1.keeps i1 ho hd hs,I2.keeps i2 ho hd hs,I3.keeps i3 ho hd hs,I4.keeps i4 ho hd hs⟩
 pyHash:=by
  rintro A E s k v Q hu ⟨b,u1,u2,u3,u4,rfl,h1,i1,i2,i3,i4⟩ q;refine zbQ (d:=d) (hs:=[(I1.hash k.1,I1.draws k.1),(I2.hash k.2.1,I2.draws k.2.1),(I3.hash k.2.2.1,I3.draws k.2.2.1),(I4.hash k.2.2.2,I4.draws k.2.2.2)]) h1 ?_ hu q;exact .cons (λA E s' Q e hu q=>I1.pyHash (zbC l1 hu) (by rw[e];exact i1) q) (.cons (λA E s' Q e hu q=>I2.pyHash (zbC l2 hu) (by rw[e];exact i2) q) (.cons (λA E s' Q e hu q=>I3.pyHash (zbC l3 hu) (by rw[e];exact i3) q) (.cons (λA E s' Q e hu q=>I4.pyHash (zbC l4 hu) (by rw[e];exact i4) q) .nil)))
 eq:=by
  rintro A s ⟨x1,x2,x3,x4⟩ ⟨y1,y2,y3,y4⟩ u v hu ⟨a,u1,u2,u3,u4,rfl,h1,i1,i2,i3,i4⟩ ⟨b,v1,v2,v3,v4,rfl,g1,j1,j2,j3,j4⟩;simp only at i1 i2 i3 i4 j1 j2 j3 j4;by_cases e:a=b
  .subst e;have:=Zk h1 g1;cases this;rw[I1.inj i1 j1,I2.inj i2 j2,I3.inj i3 j3,I4.inj i4 j4,bc rfl];exact eR _
  .refine dg e ?_;have hu':=zkN hu;have:=dr (A:=A) (s:=s) (e:=λj=>[decide (x1=y1),decide (x2=y2),decide (x3=y3),decide (x4=y4)].getD j true) h1 g1 (by lia) (λj hj1 hj2=>by
    match j,hj1,hj2 with
    |0,_,_=>exact I1.eq (zbC l1 hu') i1 j1
    |1,_,_=>exact I2.eq (zbC l2 hu') i2 j2
    |2,_,_=>exact I3.eq (zbC l3 hu') i3 j3
    |3,_,_=>exact I4.eq (zbC l4 hu') i4 j4)
   have z:((List.range (min (#[u1,u2,u3,u4]:Ac).size (#[v1,v2,v3,v4]:Ac).size)).all (λj=>[decide (x1=y1),decide (x2=y2),decide (x3=y3),decide (x4=y4)].getD j true)&&(#[u1,u2,u3,u4]:Ac).size == (#[v1,v2,v3,v4]:Ac).size)=decide ((x1,x2,x3,x4)=(y1,y2,y3,y4)):=by
    show((List.range 4).all _&&true)=_
    rw[show List.range 4=[0,1,2,3]from rfl];simp only[all_cons,List.all_nil,gd,List.getD_cons_zero,List.getD_cons_succ,Prod.mk.injEq,Bool.decide_and]
   rw[z]at this;exact this
 quiet:=by
  rintro A E s n k v Q hn ⟨b,u1,u2,u3,u4,rfl,h1,i1,i2,i3,i4⟩ q;let⟨m,rfl,hm⟩:=zfJ hn;refine QF (d:=d) h1 (λv hv A E Q q=>?_) q;have hv:v=u1\/v=u2\/v=u3\/v=u4:=by simpa using hv
  rcases hv with rfl|rfl|rfl|rfl
  .exact I1.quiet (bj l1 hm) i1 q
  .exact I2.quiet (bj l2 hm) i2 q
  .exact I3.quiet (bj l3 hm) i3 q
  .exact I4.quiet (bj l4 hm) i4 q
end
abbrev ShK:=Option Int×List (List A9)×List A9×List A9
noncomputable def jD(prog:Af)(w:World):KItem prog w ShK 3:=zf9 (ji prog w) (xF (xF (ji prog w))) (xF (ji prog w)) (xF (ji prog w)) 2 (by decide) (by decide) (by decide) (by decide)
noncomputable def wc(prog:Af)(w:World):HeapKind prog w ShK where
 is:=λh k a=>(jD prog w).is h k (.ref a)
 hash:=(jD prog w).hash
 draws:=(jD prog w).draws
 room:=λA=>A.units+3<cLine
 inj:=λhx hy=>(jD prog w).inj hx hy
 keeps:=λx ho hd hs=>(jD prog w).keeps x ho hd hs
 pyHash:=λhu hk h=>(jD prog w).pyHash hu hk h
 eqBool:=λhu hx hy h=>(jD prog w).eq hu hx hy prog w _ _ h
 quiet:=λhk h=>(jD prog w).quiet (by decide) hk h
end
noncomputable def oiD:Option Int->D
 |none=>.non
 |some n=>.int n
noncomputable def shD(k:ShK):D:=.tup [oiD k.1,.tup (k.2.1.map λr=>.tup (r.map oiD)),.tup (k.2.2.1.map oiD),.tup (k.2.2.2.map oiD)]
theorem WN{α β:Type}{F:α->β->Prop}:∀{xs:List α}{ys:List β},xs.length=ys.length->(∀(i:Nat) x y,xs[i]?=some x->ys[i]?=some y->F x y)->Paired F xs ys
 |[],[],_,_=>.nil
 |[],_::_,h,_=>by simp at h
 |_::_,[],h,_=>by simp at h
 |x::xs,y::ys,h,f=>.cons (f 0 x y rfl rfl) (WN (by simpa using h) λi a b e1 e2=>f (i+1) a b e1 e2)
section
variable{P:Af}{w:World}{H:Hp}{h:Heap}{p:A5}
def vU{x:A9}{v:V}{u:Am}(r:Rep H p v (oiD x))(e:RelV v u):(ji P w).is h x u:=by
 cases x with
 |none =>
  have r:Rep H p v .non:=r;cases r;exact e
 |some n =>
  have r:Rep H p v (.int n):=r;cases r;exact e
def ZV{κ:Type}[DecidableEq κ]{d:Nat}(ok:HOk P w H h){I:KItem P w κ d}{f:κ->D}(hI:∀x v u,Rep H p v (f x)->RelV v u->I.is h x u){xs:List κ}{v:V}{u:Am}(r:Rep H p v (.tup (xs.map f)))(e:RelV v u):(xF I).is h xs u:=by
 let⟨t,us,rfl,_,ht,rr⟩:=Rep.tup' r;let⟨_,pi,vals,isT⟩:=(show ObjOk P w H h t (.tup us)from ok t _ ht);refine⟨t,pi.toArray,e,isT,WN ?_ λi x y e1 e2=>?_⟩
 .rw[ir,<- vals.length,rr.len,ai]
 .rw[ir]at e2;let⟨v',hv',rv⟩:=rr.of (i:=i) (d:=f x) (by rw[am,e1];rfl);exact hI x v' y rv (xr vals hv' e2)
theorem zd4{α:Type}{n:Nat}:∀{us:List α},us.length=n+1->∃v w,us=v::w/\w.length=n
 |v::w,h=>⟨v,w,rfl,by simpa using h⟩
def zdC{v:V}{vs:Ap}{us:A7}(h:Vals (v::vs) us):∃u ws,us=u::ws/\RelV v u/\Vals vs ws:=by
 cases h with
 |cons a b=>exact⟨_,_,rfl,a,b⟩
def Zd(ok:HOk P w H h){k:ShK}{b:Addr}(r:Rep H p (.ref b) (shD k)):(wc P w).is h k b:=by
 let⟨t,us,e,_,ht,rr⟩:=Rep.tup' r;cases e;let⟨_,pi,vals,isT⟩:=(show ObjOk P w H h b (.tup us)from ok b _ ht);have g:=rr.g;let⟨v1,w1,rfl,l1⟩:=zd4 rr.len;let⟨v2,w2,rfl,l2⟩:=zd4 l1;let⟨v3,w3,rfl,l3⟩:=zd4 l2;let⟨v4,w4,rfl,l4⟩:=zd4 l3;cases c7.mp l4;let⟨u1,z1,rfl,q1,vals⟩:=zdC vals;let⟨u2,z2,rfl,q2,vals⟩:=zdC vals;let⟨u3,z3,rfl,q3,vals⟩:=zdC vals;let⟨u4,z4,rfl,q4,vals⟩:=zdC vals;cases vals;have k1:=vU (P:=P) (w:=w) (h:=h) (g 0 v1 _ rfl rfl) q1;have k2:=ZV ok (I:=xF (ji P w)) (λx v u r e=>ZV ok (I:=ji P w) (λx v u r e=>vU r e) r e) (g 1 v2 _ rfl rfl) q2;have k3:=ZV ok (I:=ji P w) (λx v u r e=>vU r e) (g 2 v3 _ rfl rfl) q3;have k4:=ZV ok (I:=ji P w) (λx v u r e=>vU r e) (g 3 v4 _ rfl rfl) q4;exact⟨b,u1,u2,u3,u4,rfl,isT,k1,k2,k3,k4⟩
end
noncomputable def toV(x:ShK×Addr×Addr):ShK×Addr×Value:=(x.1,x.2.1,.ref x.2.2)
noncomputable def sdO(P:Af)(w:World)(D:Addr)(xs:List (ShK×Addr×Addr)):HO:=.ext λh=>((D == sysModules)=false/\xs.length<=sizeLine/\(xs.map (·.1)).Nodup)/\∃o es ep,h.get? D=some o/\o.ExactDict/\o.data=.dict es ep/\es.toList=(xs.map toV).map (entryOfKey (wc P w))
def keysOk(H:Hp)(xs:List (ShK×Addr×Addr)):Prop:=∀x∈xs,∃p:Addr->Prop,Rep H p (.ref x.2.1) (shD x.1)
noncomputable def xO(xs:List (ShK×Addr×Addr))(k:ShK):Option Addr:=(xs.find? λx=>decide (x.1=k)).map (·.2.2)
theorem Qk(k:ShK):∀xs:List (ShK×Addr×Addr),(atKey (xs.map toV) k).map (·.2)=(xO xs k).map Value.ref
 |[]=>rfl
 |x::xs=>by
  have ih:=Qk k xs;unfold atKey xO at ih ⊢;rw[bF,dA,dA];show Option.map _ (Option.map _ (match decide (x.1=k)with|true=>some (toV x)|false=>_))=_
  by_cases e:x.1=k
  .rw[bc e];rfl
  .rw[aT e];exact ih
def keysOk.same{H H':Hp}{xs:List (ShK×Addr×Addr)}(h:keysOk H xs)(s:∀b ys,H b=some (.tup ys)->H' b=some (.tup ys))(t:∀x∈xs,∃p:Addr->Prop,Rep H p (.ref x.2.1) (shD x.1)/\∀b o,p b->H b=some o->H' b=some o):keysOk H' xs:=λx hx=>by
 let⟨p,r,k⟩:=t x hx;exact⟨p,r.keep λb o pb hb=>⟨pb,k b o pb hb⟩⟩
def zdt{P:Af}{w:World}{H:Hp}{h:Heap}{D:Addr}{xs:List (ShK×Addr×Addr)}(ok:HOk P w H h)(e:H D=some (sdO P w D xs))(ks:keysOk H xs):(D == sysModules)=false/\xs.length<=sizeLine/\(xs.map (·.1)).Nodup/\h.DictOfH (wc P w) D (xs.map toV):=by
 let⟨⟨⟨h1,h2,h3⟩,o,es,ep,g1,g2,g3,g4⟩,_,_⟩:=(show ObjOk P w H h D (sdO P w D xs)from ok D _ e);refine⟨h1,h2,h3,o,es,ep,g1,g2,g3,g4,λx hx=>?_,by rw[e6];exact h3⟩;let⟨y,hy,rfl⟩:=aJ.mp hx;let⟨p,r⟩:=ks y hy;exact Zd ok r
def ziO{P:Af}{w:World}{H:Hp}{h:Heap}{D:Addr}{xs:List (ShK×Addr×Addr)}(h1:(D == sysModules)=false)(h2:xs.length<=sizeLine)(h3:(xs.map (·.1)).Nodup)(g:∃o es ep,h.get? D=some o/\o.ExactDict/\o.data=.dict es ep/\es.toList=(xs.map toV).map (entryOfKey (wc P w))):ObjOk P w H h D (sdO P w D xs):=by
 refine⟨⟨⟨h1,h2,h3⟩,g⟩,?_,?_⟩
 .obtain⟨o,_,_,g1,_⟩:=g;exact⟨o,g1⟩
 .rintro k1 k2 ⟨a,o,es,ep,g1,g2⟩ k;exact⟨a,o,es,ep,k o g1,g2⟩
section
variable{X:Cx}{p5:A2}{σ:St}{H:Hp}{s:An}{D b y:Addr}{A:Ao}{E:A3}{xs:List (ShK×Addr×Addr)}{k:ShK}{p:A5}
def ZC(hu:A.units+100<cLine):(wc X.prog X.w).room A.in1:=by
 show A.in1.units+3<cLine
 simp only[eE]
 lia
def zk7{Q:A3}(hu:A.units+100<cLine)(I:Inv X p5 σ H s)(e:H D=some (sdO X.prog X.w D xs))(ks:keysOk H xs)(r:Rep H p (.ref b) (shD k))(h:∀s',Inv X p5 σ H s'->Q (.bool (xO xs k).isSome) s'):wpAny (model X.prog X.w) A (compareOp .In (.ref b) (.ref D)) Q E s:=by
 let⟨h1,h2,h3,dd⟩:=zdt I.hok e ks;refine wpAny_in_heap (ZC hu) (Zd I.hok r) h1 dd ?_;have q:=bn Option.isSome (Qk k xs);rw[dN,dN]at q;rw[q];exact h _ (I.tok _)
def zkt{Q:A3}(hu:A.units+100<cLine)(I:Inv X p5 σ H s)(e:H D=some (sdO X.prog X.w D xs))(ks:keysOk H xs)(r:Rep H p (.ref b) (shD k))(l:xO xs k=some y)(h:∀s',Inv X p5 σ H s'->Q (.ref y) s'):wpAny (model X.prog X.w) A (getItem (.ref D) (.ref b)) Q E s:=by
 let⟨h1,h2,h3,dd⟩:=zdt I.hok e ks;have q:=Qk k xs;rw[l]at q;let⟨z,hz,e2⟩:=aq.mp q;refine wpAny_getItem_heap (ZC hu) (Zd I.hok r) dd hz ?_;rw[e2];exact h _ (I.tok _)
def zks{Q:Ag}(hu:A.units+100<cLine)(I:Inv X p5 σ H s)(e:H D=some (sdO X.prog X.w D xs))(ks:keysOk H xs)(r:Rep H p (.ref b) (shD k))(l:xO xs k=none)(hl:xs.length<sizeLine)(h:∀s',Inv X p5 σ (upd H D (sdO X.prog X.w D (xs++[(k,b,y)]))) s'->Q () s'):wpAny (model X.prog X.w) A (setItem (.ref D) (.ref b) (.ref y)) Q E s:=by
 let⟨h1,h2,h3,dd⟩:=zdt I.hok e ks;have q:=Qk k xs;rw[l]at q;have q:atKey (xs.map toV) k=none:=by simpa using q
 refine wpAny_setItem_heap (hsz:=by rw[ai];exact h2) (ZC hu) (Zd I.hok r) dd λh' dd' hs=>h _ ?_;rw[storedH_new q]at dd';let⟨o,es,ep,g1,g2,g3,g4,_,g5⟩:=dd';refine zah I (by rw[e];exact True.intro) hs ⟨o,g1⟩ (ziO h1 (by simp;lia) ?_ ⟨o,es,ep,g1,g2,g3,?_⟩)
 .have:(xs++[(k,b,y)]).map (·.1)=((xs.map toV++[(k,b,Value.ref y)]).map (·.1)):=by simp[toV]
  rw[this];exact g5
 .rw[g4];simp[toV]
end
def tSIn(P:Af)(w:World)(ty td:TE):TE:=λσ H Q=>ty σ H λy H1=>td σ H1 λx H2=>∃D b xs k p,x=.ref D/\y=.ref b/\H2 D=some (sdO P w D xs)/\keysOk H2 xs/\Rep H2 p (.ref b) (shD k)/\Q (.bl (xO xs k).isSome) H2
def tSGet(P:Af)(w:World)(td ty:TE):TE:=λσ H Q=>td σ H λx H1=>ty σ H1 λy H2=>∃D b xs k p z,x=.ref D/\y=.ref b/\H2 D=some (sdO P w D xs)/\keysOk H2 xs/\Rep H2 p (.ref b) (shD k)/\xO xs k=some z/\Q (.ref z) H2
def sSPut(P:Af)(w:World)(td ty tv:TE):TS:=λN σ H=>tv σ H λv H1=>td σ H1 λx H2=>ty σ H2 λy H3=>∃D b xs k p z,x=.ref D/\y=.ref b/\v=.ref z/\H3 D=some (sdO P w D xs)/\keysOk H3 xs/\Rep H3 p (.ref b) (shD k)/\xO xs k=none/\xs.length<sizeLine/\N.nx σ (upd H3 D (sdO P w D (xs++[(k,b,z)])))
def tSNew(P:Af)(w:World):TE:=λ_ H Q=>∀p,H p=none->Q (.ref p) (upd H p (sdO P w p []))
section
variable{X:Cx}{o i value:Expr}{pos pos':Pos}{td ty tv:TE}
def zjr(hu:X.A.units+100<cLine)(hi:PE X i ty)(ho:PE X o td):PC X .In i o (tSIn X.prog X.w ty td):=by
 intro p5 s σ H Q I h;refine qI (hi p5 s σ H _ I h) λiv s1 y H1 I1 ry q1=>qI (ho p5 s1 σ H1 _ I1 q1) λu s2 x H2 I2 rx qq_=>?_;let⟨D,b,xs,k,p,ex,ey,e,ks,r,q2⟩:=qq_;subst ex ey;obtain rfl:u=Value.ref D:=rx;obtain rfl:iv=Value.ref b:=ry;exact zk7 hu I2 e ks r λs3 I3=>⟨.bl _,H2,I3,rfl,q2⟩
def zhU(hu:X.A.units+100<cLine)(ho:PE X o td)(hi:PE X i ty)(hs:zkg i):PE X (.Subscript o i pos) (tSGet X.prog X.w td ty):=by
 intro p5 s σ H Q I h;refine zdo fP.lookup hs (qI (ho p5 s σ H _ I h) λu s1 x H1 I1 rx q1=>qI (hi p5 s1 σ H1 _ I1 q1) λiv s2 y H2 I2 ry qq_=>?_);let⟨D,b,xs,k,p,z,ex,ey,e,ks,r,l,q2⟩:=qq_;subst ex ey;obtain rfl:u=Value.ref D:=rx;obtain rfl:iv=Value.ref b:=ry;exact⟨(zdt I2.hok e ks).2.2.2.typeIs,zkt hu I2 e ks r l λs3 I3=>⟨.ref z,H2,I3,rfl,q2⟩⟩
def zhQ(hu:X.A.units+100<cLine)(ho:PE X o td)(hi:PE X i ty)(hv:PE X value tv)(hs:swapsWith value (some (.Subscript o i pos')) pos.line X.env=pure false) :
  PS X (.Assign [.Subscript o i pos'] value pos) (sSPut X.prog X.w td ty tv):=by
 intro p5 s σ H N I h;refine wpAny_Assign_Subscript (qI (hv p5 s σ H _ I h) λr s1 v H1 I1 rv q1=>qI (ho p5 s1 σ H1 _ I1 q1) λu s2 x H2 I2 rx q2=>qI (hi p5 s2 σ H2 _ I2 q2) λiv s3 y H3 I3 ry qq_=>?_) hs;let⟨D,b,xs,k,p,z,ex,ey,ez,e,ks,r',l,hl,q3⟩:=qq_;subst ex ey ez;obtain rfl:u=Value.ref D:=rx;obtain rfl:iv=Value.ref b:=ry;obtain rfl:r=Value.ref z:=rv;exact zks hu I3 e ks r' l hl λs4 I4=>⟨σ,_,I4,q3⟩
def zhT:PE X (.Dict [] [] pos) (tSNew X.prog X.w):=λp5 s σ H Q I h =>
 wpAny_Dict_empty ⟨.ref s.heap.objs.size,_,I.laid (a:=s.heap.objs.size) (o:=sdO X.prog X.w s.heap.objs.size []) (t':=s.toks) (λ_ _ q=>aj _ q) (au _) (ziO (a9.mpr (bb (aP I.big))) (bz _) nodup_nil ⟨_,#[],0,aC _ rfl,⟨rfl,rfl,rfl⟩,rfl,rfl⟩),rfl,h _ (I.hok.fresh (au _))⟩
end
section
variable{X:Cx}{G:GK}{x:Str}{np pos hpos:Pos}{body su:List Stmt}{b₀:Stmt}{tb:List (Addr×Obj)->GK->TS}{th:List (Addr×Obj)->Addr->TS}
def zkl(X:Cx)(x:Str)(tb:List (Addr×Obj)->GK->TS)(th:List (Addr×Obj)->Addr->TS):TS:=λD σ H=>∃Dc,X.mg x=some (.ref Dc)/\subIn X.K (.ref Dc) (.type "BaseException")=some true /\
 ∀pn,tb pn (λcls σ' H'=>∃C,cls=.ref C/\kitCls X.K (.ref C) (.ref Dc)=some true/\∀a,H' a=none->th pn a D σ' H') D σ H
theorem zjk(B:Bod X)(hc:X.calm=true)(hb:∀pn G',PSs ((X.pinned pn).exg G') body (tb pn G'))(hs:∀pn a,PSs (X.suite pn a) (b₀::su) (th pn a))(hg:Gl X x:=by rfl)(hdb:(x == ("__debug__":Str))=false:=by decide) :
  PS (X.exg G) (.Try body [.ExceptHandler (some (.Name x np)) none (b₀::su) hpos] [] [] pos) (zkl X x tb th):=by
 intro p5 s σ H D I h;let⟨Dc,hm,hsub,h⟩:=h;have I1:=I.unwish.topn;refine wpAny_Try_except (aZ (hb (X.pn++p5) _ [] s σ H D (I1.wish _) (h (X.pn++p5))) (λf s1 q=>?_) λe s1 q=>?_)
 .cases f with
  |next =>
   let⟨σ',H',J,q⟩:=q;exact c9 ⟨σ',H',J.unwish.ofpn.wish _,q⟩
  |brk=>let⟨σ',H',J,q⟩:=q;exact⟨σ',H',J.unwish.ofpn.wish _,q⟩
  |cont=>let⟨σ',H',J,q⟩:=q;exact⟨σ',H',J.unwish.ofpn.wish _,q⟩
  |ret u=>let⟨v,σ',H',J,r,q⟩:=q;exact⟨v,σ',H',J.unwish.ofpn.wish _,r,q⟩
 .refine aZ (show wpAny _ _ _ _ _ _ from q) (λ_ s2 q2=>aZ q2 (λ_ s3 q3=>?_) λ_ _ z=>z.elim) λ_ _ z=>z.elim;let⟨a,cls,σ',H',rfl,J,xx,C,rfl,hk,hth⟩:=q3;have J2:Inv (X.suite (X.pn++p5) a) [] σ' H' s3:=J.tosuite;let⟨oe,vs,he,hcls,_,_⟩:=xx.obj;refine dL (dB (jO J2 hg hm (xQ J2.kIn he hcls hk hsub ?_) hdb)) (by intro z;cases z);refine eP ?_;refine ZN J2 (xx.less λp hp=>by rwa[cj]at hp) λs4 J4 x4=>?_;refine aZ (hs (X.pn++p5) a [] s4 _ _ _ J4 (hth a xx.Ha)) (λf s6 q6=>?_) λ_ _ z=>False.elim z;cases f with
  |next=>let⟨σ7,H7,J7,q7⟩:=q6;exact⟨σ7,H7,(J7.ofsuite I.ok.hd).ofpn.wish _,q7⟩
  |brk=>let⟨σ7,H7,J7,q7⟩:=q6;exact⟨σ7,H7,(J7.ofsuite I.ok.hd).ofpn.wish _,q7⟩
  |cont=>let⟨σ7,H7,J7,q7⟩:=q6;exact⟨σ7,H7,(J7.ofsuite I.ok.hd).ofpn.wish _,q7⟩
  |ret u=>let⟨v,σ7,H7,J7,r7,q7⟩:=q6;exact⟨v,σ7,H7,(J7.ofsuite I.ok.hd).ofpn.wish _,r7,q7⟩
end
def Qq{X:Cx}:CallR X (.type "tuple") (λxs H Q=>∃p ys,xs=[.ref p]/\((SqL X.K H p ys/\∀l,H l=none->Q (.ref l) (upd H l (.tup ys)))\/(SqT X.K H p ys/\Q (.ref p) H))):=Wk
end L2
namespace L2
open PySem PySem.Spec PySem.Calls PyProof.Rows
section
variable{X:Cx}
def zj5:bootBuiltins "set"=some (.type "set"):=by decide+kernel
end
def JM(a:Am):checkTypeCall "set" ⟨[a],[]⟩=pure ():=by kernel_rfl
def Wg(a:Am):checkBuiltinCall "set.__new__" ⟨[.type "set",a],[]⟩=pure ():=by kernel_rfl
def vV:entryFor table "set.update.loop"=some Builtin.«set.update.loop»:=entryFor_of_tree (by kernel_rfl)
def xy:plainId "set.update.loop"=true:=by decide+kernel
section
variable{prog:Af}{w:World}{A:Ao}{E:A3}{s:An}
def Wj(a:Am){Q₁:A3}(h:∀led:Bool,Q₁ (.ref s.heap.objs.size) {s with heap:=s.heap.push {cls:=.type "set",dict:=none,data:=.set #[] 0 (.fresh 0 0 led)} }) :
  codeAny (model prog w) A (.call (.builtin "set.__new__") ⟨[.type "set",a],[]⟩) (wants Q₁ E) s:=by
 refine codeAny_of_tree ?_;show wpAny _ A.in1 (do checkBuiltinCall "set.__new__" ⟨[.type "set",a],[]⟩;again (.builtin "set.__new__" ⟨[.type "set",a],[]⟩)) _ _ s
 refine af (wpAny_of_eq (Wg a) (ap ⟨plainId_quiet F.plain_set_new _,eQ F.entry_set_new ?_⟩));rw[fq F.plain_set_new _];unfold Builtin.«set.__new__» Builtin.Frozenset.newClass;have hsub:=sub_set_self;let⟨hp,g,d,tk,os⟩:=s;dsimp only
 wp_walk
 refine wpAny_askSetting (ap ?_);dsimp only;simp only[newObj];refine af (wpAny_alloc (ap ?_));exact ap (h _)
variable{R:Result->Shared->Prop}{I:Addr}{fp wr:Ab}{n:Nat}{P:Nat->Value->Prop}{St:Nat->Heap->Prop}
end
section
variable{prog:Af}{w:World}{A:Ao}{E:A3}{s:An}
def Jw{M:Model}{self x:Am}{Q:Ag}(hT:s.TypeIs self "set")(hQ:Q () s):wpAny M A (checkBuiltinCall "set.__init__" ⟨[self,x],[]⟩) Q E s:=by
 simp only[checkBuiltinCall,kind_set_init,split_set_init,sig_set_init];refine af (fR hT sub_set_self ?_);simp only[cQ,aW,br];unfold Bind.checkArgs;dsimp only;refine af (m:=Bind.printed "set" true _ _) (PyProof.Rows.printed_name (by decide) ?_);refine af (m:=Bind.printed "*" false _ _) (PyProof.Rows.printed_star (self:=self) rfl hT λshort=>?_);have hrn:(Manifest.Receiver.self == Manifest.Receiver.none)=false:=by decide
 have hn:(if (Manifest.Receiver.self == Manifest.Receiver.none)=true then [self,x].length else [self,x].length-1)=1:=by simp[hrn]
 rw[hn];simp only[gx];have hc:Bind.check ⟨.positional,"set","*",.self,[⟨"iterable",.posOnly,false⟩]⟩ "set" short 1 []=pure ():=by
  simp+decide [Bind.check,Bind.checkCount,Bind.isPositional]
 rw[hc];exact ap hQ
set_option maxHeartbeats 1000000 in
theorem zde{x:Am}{Q:A3}(h:∀(led:Bool)(s₁:An),s₁={s with heap:=s.heap.push {cls:=.type "set",dict:=none,data:=.set #[] 0 (.fresh 0 0 led)} }->wpAny (model prog w) A.in1.in1 (Builtin.«set.__init__» ⟨[.ref s.heap.objs.size,x],[]⟩) (λfin s'=>match fin with | .done f=>wants (λr s₂=>r=.none/\Q (.ref s.heap.objs.size) s₂) E (.ok f) s' | .again c'=>c'.quiet=true/\codeAny (model prog w) A.in1 c' (wants (λr s₂=>r=.none/\Q (.ref s.heap.objs.size) s₂) E) s') (λe s'=>wants (λr s₂=>r=.none/\Q (.ref s.heap.objs.size) s₂) E (.error e) s') s₁) :
  wpAny (model prog w) A (call (.type "set") [x]) Q E s:=by
 let⟨c,tl,hmro⟩:=cX.mro;have hmade:=cX.made;have hsub:=cX.sub;refine fB (codeAny_of_tree ?_);show wpAny _ _ (callAny (.type "set") _) _ _ _
 refine ap ⟨Code.quiet_builtin _ (by decide+kernel),eQ F.entry_type_call ?_⟩;rw[Around.under_plain (weight_type_call_type "set" [x] []) rfl];have h1:=cX.notType;have h2:=cX.canCreate;have hct:=JM x
 repeat (any_goals (first|assumption|wp_step))
 refine cT (Wj x (E:=E) (Q₁:=λobj s₁=>∃led:Bool,obj=.ref s.heap.objs.size/\s₁={s with heap:=s.heap.push {cls:=.type "set",dict:=none,data:=.set #[] 0 (.fresh 0 0 led)} }) λled=>⟨led,rfl,rfl⟩) λr s₁ hr=>?_;cases r with
 |error e=>exact hr
 |ok fl =>
  cases fl with
  |ret obj =>
   let⟨led,rfl,rfl⟩:=hr;have hS:(s.heap.push {cls:=.type "set",dict:=none,data:=.set #[] 0 (.fresh 0 0 led)}).get? s.heap.objs.size=some {cls:=.type "set",dict:=none,data:=.set #[] 0 (.fresh 0 0 led)}:=aC _ rfl;have hT:Shared.TypeIs {s with heap:=s.heap.push {cls:=.type "set",dict:=none,data:=.set #[] 0 (.fresh 0 0 led)} } (.ref s.heap.objs.size) "set":=⟨_,hS,rfl⟩;have hli:=cX.init.lookup;have hbi:=cX.init.bind (.ref s.heap.objs.size)
   repeat (any_goals (first|assumption|wp_step))
   refine cT (codeAny_call_builtin (R:=wants (λr s₂=>r=.none/\Q (.ref s.heap.objs.size) s₂) E) cX.init.plain F.entry_set_init (Jw hT (h led _ rfl))) λr₂ s₂ hr₂=>?_;cases r₂ with
   |error e=>exact hr₂
   |ok fl₂ =>
    cases fl₂ with
    |ret r =>
     let⟨rfl,hq⟩:=hr₂
     repeat (any_goals (first|assumption|wp_step))
    |_=>exact hr₂.elim
  |_=>exact hr.elim
end
section
variable{X:Cx}
end
end L2
namespace L2
open PySem
def sN:Nat->Nat
 |0=>0
 |n+1=>5*sN n+1
theorem zcy(a:Nat):∀b,sN (a+b)=sN a+sN b+4*(sN a*sN b)
 |0=>by simp[sN]
 |b+1=>by
  rw[<- eU,sN,zcy a b,sN,Nat.mul_add (sN a),Nat.mul_left_comm (sN a) 5]
  lia
theorem zf0:∀k,∃u,sN (2^k)=2^k*(2*u+1)
 |0=>⟨0,rfl⟩
 |k+1=>by
  let⟨u,hu⟩:=zf0 k;refine⟨u+(2*u+1)*sN (2^k),?_⟩;rw[dY,Nat.mul_two,zcy];generalize sN (2^k)=z at hu ⊢;generalize 2^k=p at hu ⊢
  grind
def wp(x n:Nat):Nat:=x+sN n*(4*x+1)
def zcB(x n:Nat):wp x (n+1)=wp x n*5+1:=by
 unfold wp;rw[sN,Nat.add_mul,Nat.one_mul,eT,Nat.add_mul,dZ _ 5]
 lia
def zeD(x n k:Nat):∃v,wp x (n+2^k)=wp x n+2^k*(2*v+1):=by
 let⟨u,hu⟩:=zf0 k;unfold wp;rw[zcy,hu];generalize sN n=s;generalize 2^k=p;exact⟨u*(4*s+1)*(4*x+1)+2*s*(4*x+1)+2*x,by grind⟩
theorem za5(x:Nat):∀k e,∃n,n<2^k/\wp x n%2^k=e%2^k
 |0,e=>⟨0,by decide,by lia⟩
 |k+1,e=>by
  let⟨n,hn,he⟩:=za5 x k e;have p2:2^(k+1)=2*2^k:=by rw[dY,dZ]
  have pp:0<2^k:=Nat.two_pow_pos k;by_cases h:wp x n%2^(k+1)=e%2^(k+1)
  .exact⟨n,by lia,h⟩
  .refine⟨n+2^k,by lia,?_⟩;let⟨v,hv⟩:=zeD x n k;rw[hv,p2]at *;generalize wp x n=r at *;generalize 2^k=p at *;have m:∀a,a%(2*p)=a%p\/a%(2*p)=a%p+p:=λa=>by
    have:=Nat.mod_mul (x:=a) (a:=p) (b:=2);rw[dZ p 2]at this;rw[this];rcases Nat.mod_two_eq_zero_or_one (a/p)with z|z<;>rw[z]
    .left;lia
    .right;lia
   have q:(r+p*(2*v+1))%(2*p)=(r+p)%(2*p):=by
    rw[show r+p*(2*v+1)=r+p+(2*p)*v by rw[Nat.mul_add,Nat.mul_one];simp only[eT,Nat.mul_left_comm];lia,Nat.add_mul_mod_self_left]
   rw[q];have hr:(r+p)%(2*p)=if r%(2*p)<p then r%(2*p)+p else r%(2*p)-p:=by
    rw[ia,cH (a:=p) (by lia)];have:=cD r (show 0<2*p by lia)
    split
    .rw[cH (by lia)]
    .rw[iE (by lia),cH (by lia)];lia
   rw[hr];have m1:=m r;have m2:=m e;have l1:=cD r pp;have l2:=cD e pp
   split<;>lia
section
variable(t:SetTable)
def ZS:Nat->SetTable.Probe->SetTable.Probe
 |0,p=>p
 |n+1,p=>ZS n (t.advance p)
def zb8(a:Nat):∀b p,ZS t (a+b) p=ZS t b (ZS t a p):=by
 induction a with
 |zero=>intro b p;rw[gC];rfl
 |succ a ih=>intro b p;rw[Nat.succ_add];exact ih b _
def Vq(p:SetTable.Probe):(t.advance p).dummy=p.dummy:=by
 unfold SetTable.advance
 split<;>rfl
def ZW(i pt:Nat):SetTable.Probe:={j:=i,more:=SetTable.runEnd t.mask i-i,i:=i,perturb:=pt,dummy:=none}
def ziD:∀m (p:SetTable.Probe),p.more=m->p.dummy=none->ZS t (m+1) p=ZW t (SetTable.leap t.mask p.i p.perturb).1 (SetTable.leap t.mask p.i p.perturb).2:=by
 intro m
 induction m with
 |zero =>
  intro p h hd;show t.advance p=_
  unfold SetTable.advance;rw[ak (by lia)];simp only[ZW,hd]
 |succ m ih =>
  intro p h hd;show ZS t (m+1) (t.advance p)=_
  have e:t.advance p={p with j:=p.j+1,more:=p.more-1}:=by unfold SetTable.advance;rw[ao (by lia)]
  rw[e];exact ih {p with j:=p.j+1,more:=p.more-1} (show p.more-1=m by lia) hd
def jN(x:Nat×Nat):Nat->Nat×Nat
 |0=>x
 |l+1=>SetTable.leap t.mask (jN x l).1 (jN x l).2
theorem vR(x:Nat×Nat):∀l,jN t x (l+1)=jN t (SetTable.leap t.mask x.1 x.2) l
 |0=>rfl
 |l+1=>by rw[jN,vR x l];rfl
def zlb:∀l i pt,∃d,d<=10*l/\(ZS t d (ZW t i pt)).j=(jN t (i,pt) l).1:=by
 intro l
 induction l with
 |zero=>intro i pt;exact⟨0,by lia,rfl⟩
 |succ l ih =>
  intro i pt;let⟨d,hd,e⟩:=ih (SetTable.leap t.mask i pt).1 (SetTable.leap t.mask i pt).2;have m9:SetTable.runEnd t.mask i-i<=9:=by unfold SetTable.runEnd;split<;>lia
  refine⟨SetTable.runEnd t.mask i-i+1+d,by lia,?_⟩;rw[zb8,ziD t (SetTable.runEnd t.mask i-i) (ZW t i pt) rfl rfl,vR];exact e
theorem zbB(x:Nat×Nat):∀l,(jN t x l).2=x.2/32^l
 |0=>by rw[Nat.pow_zero,Nat.div_one];rfl
 |l+1=>by
  show(jN t x l).2/32=_
  rw[zbB x l,Nat.div_div_eq_div_mul,dY]
theorem Xx{k:Nat}(hk:t.mask+1=2^k){x:Nat}(hx:x<2^k):∀n,jN t (x,0) n=(wp x n%2^k,0)
 |0=>by
  show(x,0)=_
  rw[show wp x 0=x by simp[wp,sN],cH hx]
 |n+1=>by
  rw[jN,Xx hk hx n];show((wp x n%2^k*5+1+0/32)%(t.mask+1),0/32)=_
  rw[hk,zcB,Nat.zero_div,gG,ia,Nat.mod_mul_mod,<- ia]
def ziT{k:Nat}(hk:t.mask+1=2^k){e:Nat}(he:e<=t.mask)(i:Nat){pt:Nat}(hp:pt<2^64):∃l,l<=t.mask+13/\(jN t (i,pt) l).1=e:=by
 have z:(jN t (i,pt) 13).2=0:=by
  rw[zbB];exact Nat.div_eq_of_lt (aM hp (by decide))
 have hx:(jN t (i,pt) 13).1<2^k:=by
  rw[<- hk];exact cD _ (Nat.succ_pos _)
 let⟨n,hn,hr⟩:=za5 (jN t (i,pt) 13).1 k e;have key:∀n,jN t (i,pt) (13+n)=jN t ((jN t (i,pt) 13).1,0) n:=λn=>by
  induction n with
  |zero=>exact Prod.ext rfl z
  |succ n ih=>rw[<- eU,jN,ih];rfl
 refine⟨13+n,by lia,?_⟩;rw[key,Xx t hk hx,hr];exact cH (by lia)
theorem Vy:∀{xs ys:Aj},xs.Nodup->(∀x∈xs,x∈ys)->xs.length<=ys.length
 |[],_,_,_=>bz _
 |x::xs,ys,nd,h=>by
  have hx:=h x (aU ..);let⟨n1,n2⟩:=cS.mp nd;have:=Vy (xs:=xs) (ys:=ys.erase x) n2 λy hy=>(List.mem_erase_of_ne (λz=>n1 (by rw[<- z];exact hy))).mpr (h y (ay _ hy));rw[List.length_erase_of_mem hx]at this;have:=List.length_pos_of_mem hx;rw[aX]
  lia
def zbp(hd:t.dummies=#[])(j:Nat):t.slot j≠.dummy:=by
 unfold SetTable.slot;dsimp only
 split
 .exactλz=>nomatch z
 .rw[hd,show SetTable.has #[] j=false by simp[SetTable.has]];exactλz=>nomatch z
def zdJ{j i:Nat}(h:t.slot j=.live i):t.place[i]?=some j:=by
 unfold SetTable.slot at h;dsimp only at h
 split at h
 .rename_i e;cases h;exact bQ (by simpa using e)
 .split at h<;>cases h
def zcm(hd:t.dummies=#[])(hs:t.place.size<=t.mask):∃e,e<=t.mask/\t.slot e=.empty:=by
 refine b5 λno=>?_;have all:∀x∈List.range (t.mask+1),x∈t.place.toList:=λx hx=>by
  have hx:=bu.mp hx;cases e:t.slot x with
  |empty=>exact absurd ⟨x,by lia,e⟩ no
  |dummy=>exact absurd e (zbp t hd x)
  |live i=>exact ah (by rw[bK];exact zdJ t e)
 have:=Vy fT all;rw[eJ,aK]at this
 lia
def zcA{k:Nat}(hk:t.mask+1=2^k)(hd:t.dummies=#[])(hs:t.place.size<=t.mask)(h:Int):∃d,d<10*SetTable.turns t.mask/\t.slot (ZS t d (t.probeStart h)).j=.empty:=by
 let⟨e,he,hm⟩:=zcm t hd hs;have hp:SetTable.bits h<2^64:=by
  unfold SetTable.bits;have h1:=bO h (show(0:Int)<2^64 by decide);have h0:=bS h (show(2^64:Int)≠0 by decide)
  lia
 let⟨l,hl,el⟩:=ziT t hk he (SetTable.bits h%(t.mask+1)) hp;let⟨d,dl,ed⟩:=zlb t l (SetTable.bits h%(t.mask+1)) (SetTable.bits h);refine⟨d,by unfold SetTable.turns;lia,?_⟩;rw[show t.probeStart h=ZW t (SetTable.bits h%(t.mask+1)) (SetTable.bits h)from rfl,ed,el];exact hm
def zgU{hashAt:Nat->Int}{h:Int}(hd:t.dummies=#[]):∀d fuel (p:SetTable.Probe),d<fuel->t.slot (ZS t d p).j=.empty->p.dummy=none->∃r,SetTable.probe.go t hashAt h fuel p=some r/\((∃j,r=.empty j none/\t.slot j=.empty)\/∃j i d',r=.candidate j i (ZS t d' p)/\t.slot j=.live i/\hashAt i=h/\1<=d'/\d'<=d):=by
 intro d
 induction d with
 |zero =>
  intro fuel p hf he hdm;let⟨f,rfl⟩:∃f,fuel=f+1:=⟨fuel-1,by lia⟩;unfold SetTable.probe.go;rw[show t.slot p.j=.empty from he];exact⟨_,rfl,.inl ⟨p.j,by rw[hdm],he⟩⟩
 |succ d ih =>
  intro fuel p hf he hdm;let⟨f,rfl⟩:∃f,fuel=f+1:=⟨fuel-1,by lia⟩;unfold SetTable.probe.go;cases e:t.slot p.j with
  |empty=>exact⟨_,rfl,.inl ⟨p.j,by rw[hdm],e⟩⟩
  |dummy=>exact absurd e (zbp t hd _)
  |live i =>
   dsimp only;by_cases eh:hashAt i=h
   .rw[ao (by simpa using eh)];exact⟨_,rfl,.inr ⟨p.j,i,1,rfl,e,eh,by lia,by lia⟩⟩
   .rw[ak (by simpa using eh)];let⟨r,hr,h1⟩:=ih f (t.advance p) (by lia) he (by rw[Vq];exact hdm);refine⟨r,hr,h1.imp id ?_⟩;rintro⟨j,i',d',q1,q2,q3,q4,q5⟩;exact⟨j,i',d'+1,q1,q2,q3,by lia,by lia⟩
end
section
variable{mask:Nat}
def Xi(mask:Nat)(owner:Array (Option Nat)):List (Nat×Nat):=(List.range (mask+1)).filterMap λj=>(owner.getD j none).map (j,·)
theorem zgZ{α:Type}{f g:Nat->Option α}{j:Nat}{v:α}:∀{xs:Aj},xs.Nodup->j∈xs->f j=none->g j=some v->(∀i,i≠j->g i=f i)->(xs.filterMap g).Perm (v::xs.filterMap f)
 |[],_,h,_,_,_=>nomatch h
 |x::xs,nd,h,hf,hg,e=>by
  let⟨n1,n2⟩:=cS.mp nd;by_cases ex:x=j
  .subst ex;have:∀ys:List Nat,x∉ys->ys.filterMap g=ys.filterMap f:=λys hy=>by
    induction ys with
    |nil=>rfl
    |cons y ys ih=>rw[b7,b7,e y λz=>hy (by rw[z];exact aU ..),ih λz=>hy (ay _ z)]
   rw[b7,hg,b7,hf,this xs n1]
  .have hj:j∈xs:=(av.mp h).resolve_left (bb ex);have ih:=zgZ n2 hj hf hg e;rw[b7,b7,e x ex];cases f x with
   |none=>exact ih
   |some y=>exact(ih.cons y).trans (List.Perm.swap ..)
def zgp{owner:Array (Option Nat)}{j k:Nat}(hs:owner.size=mask+1)(hj:j<owner.size)(hn:owner.getD j none=none):(Xi mask (owner.setIfInBounds j (some k))).Perm ((j,k)::Xi mask owner):=by
 refine zgZ (j:=j) fT (bu.mpr (by lia)) (by rw[hn];rfl) ?_ λi hi=>?_
 .rw[bD,Array.getElem?_setIfInBounds_self_of_lt hj];rfl
 .rw[bD,Array.getElem?_setIfInBounds_ne (bb hi),<- bD]
def zc5{owner:Array (Option Nat)}(t:SetTable)(hm:t.mask=mask):∀l fuel i pt,l<fuel->(owner.getD (jN t (i,pt) l).1 (some 0)).isNone=true->∃j,SetTable.layClean.free mask owner fuel i pt=some j/\(owner.getD j (some 0)).isNone=true:=by
 intro l
 induction l with
 |zero =>
  intro fuel i pt hf he;let⟨f,rfl⟩:∃f,fuel=f+1:=⟨fuel-1,by lia⟩;have he:(owner.getD i (some 0)).isNone=true:=he;unfold SetTable.layClean.free;cases e:(List.range (SetTable.runEnd mask i+1-i)).find? λk=>(owner.getD (i+k) (some 0)).isNone with
  |some k=>exact⟨_,rfl,find?_some (p:=λk=>(owner.getD (i+k) (some 0)).isNone) e⟩
  |none =>
   have:=iG.mp e 0 (bu.mpr (by unfold SetTable.runEnd;split<;>lia));exact absurd he this
 |succ l ih =>
  intro fuel i pt hf he;let⟨f,rfl⟩:∃f,fuel=f+1:=⟨fuel-1,by lia⟩;unfold SetTable.layClean.free;cases e:(List.range (SetTable.runEnd mask i+1-i)).find? λk=>(owner.getD (i+k) (some 0)).isNone with
  |some k=>exact⟨_,rfl,find?_some (p:=λk=>(owner.getD (i+k) (some 0)).isNone) e⟩
  |none =>
   rw[vR,hm]at he;exact ih f _ _ (by lia) he
def zfb{owner:Array (Option Nat)}{k:Nat}(hk:mask+1=2^k)(hs:owner.size=mask+1){c:Nat}(hc:(Xi mask owner).length=c)(lt:c<=mask)(h:Int):∃j,SetTable.layClean.free mask owner (SetTable.turns mask) (SetTable.bits h%(mask+1)) (SetTable.bits h)=some j/\j<owner.size/\owner.getD j none=none:=by
 have:∃e,e<=mask/\owner.getD e none=none:=by
  refine b5 λno=>?_;have all:∀x∈List.range (mask+1),x∈(Xi mask owner).map (·.1):=λx hx=>by
   cases e:owner.getD x none with
   |none=>exact absurd ⟨x,by have:=bu.mp hx;lia,e⟩ no
   |some v=>exact aJ.mpr ⟨(x,v),bN.mpr ⟨x,hx,by rw[e];rfl⟩,rfl⟩
  have:=Vy fT all;rw[eJ,ai]at this
  lia
 let⟨e,he,hn⟩:=this;have hp:SetTable.bits h<2^64:=by
  unfold SetTable.bits;have h1:=bO h (show(0:Int)<2^64 by decide);have h0:=bS h (show(2^64:Int)≠0 by decide)
  lia
 have cv:∀j,(owner.getD j (some 0)).isNone=true->j<owner.size/\owner.getD j none=none:=λj hj=>by
  rw[bD]at hj ⊢;cases e:owner[j]? with
  |none=>rw[e]at hj;cases hj
  |some v =>
   rw[e]at hj;refine⟨(be.mp e).1,?_⟩;cases v with
   |none=>rfl
   |some v=>cases hj
 let t:SetTable:={mask,place:=#[],dummies:=#[],finger:=0,led:=true,moves:=0,plain:=true};let⟨l,hl,el⟩:=ziT t hk he (SetTable.bits h%(mask+1)) hp;have en:(owner.getD e (some 0)).isNone=true:=by
  rw[bD,bI (by lia)]at hn ⊢;have hn:owner[e]=none:=hn;show owner[e].isNone=true
  rw[hn];rfl
 let⟨j,hj,hjn⟩:=zc5 (owner:=owner) (mask:=mask) t rfl l (SetTable.turns mask) _ _ (by unfold SetTable.turns;show l<mask+15;have:l<=mask+13:=hl;lia) (by rw[el];exact en);exact⟨j,hj,cv j hjn⟩
theorem zgC{k:Nat}(hk:mask+1=2^k):∀(hs:A6)(owner:Array (Option Nat))(c:Nat),owner.size=mask+1->((Xi mask owner).map (·.2)).Perm (List.range c)->c+hs.length<=mask ->
  ∃owner',(hs.foldl (init:=some (owner,c)) λpv h=>do
   let(owner,k) <- pv
   let j <- SetTable.layClean.free mask owner (SetTable.turns mask) (SetTable.bits h%(mask+1)) (SetTable.bits h)
   pure (owner.setIfInBounds j (some k),k+1))=some (owner',c+hs.length)/\owner'.size=mask+1/\((Xi mask owner').map (·.2)).Perm (List.range (c+hs.length))
 |[],owner,c,h1,h2,_=>⟨owner,rfl,h1,h2⟩
 |h::hs,owner,c,h1,h2,h3=>by
  have hl:=h2.length_eq;rw[ai,eJ]at hl;rw[aX]at h3;let⟨j,hj,hjl,hjn⟩:=zfb hk h1 hl (by lia) h;have h2':((Xi mask (owner.setIfInBounds j (some c))).map (·.2)).Perm (List.range (c+1)):=by
   refine((zgp h1 hjl hjn).map (·.2)).trans ?_;rw[bF,fA];exact(h2.cons c).trans (eu (l₁:=[c]))
  let⟨o',e,s',p'⟩:=zgC hk hs (owner.setIfInBounds j (some c)) (c+1) (by rw[Array.size_setIfInBounds];exact h1) h2' (by lia);refine⟨o',?_,s',?_⟩
  .rw[List.foldl_cons];show List.foldl _ ((SetTable.layClean.free mask owner (SetTable.turns mask) (SetTable.bits h%(mask+1)) (SetTable.bits h)).bind λj=>some (owner.setIfInBounds j (some c),c+1)) hs=_
   rw[hj];show List.foldl _ (some (owner.setIfInBounds j (some c),c+1)) hs=_
   rw[e,aX,show c+1+hs.length=c+(hs.length+1) by lia]
  .rw[aX,show c+(hs.length+1)=c+1+hs.length by lia];exact p'
def zgq:Xi mask (Array.replicate (mask+1) none)=[]:=by
 unfold Xi;rw[List.filterMap_eq_nil_iff];intro j _;rw[bD,Array.getElem?_replicate]
 split<;>rfl
def zh7{k finger moves:Nat}{led plain:Bool}{hs:Array Int}(hk:mask+1=2^k)(hl:hs.size<=mask):∃t order,SetTable.laid mask finger moves led plain hs=some (t,order)/\t.mask=mask/\t.dummies=#[]/\t.place.size=hs.size/\t.led=led/\order.toList.Perm (List.range hs.size):=by
 let⟨o,e,s',p'⟩:=zgC hk hs.toList (Array.replicate (mask+1) none) 0 (Array.size_replicate ..) (by rw[zgq];exact bd _) (by rw[aK];lia);rw[gC,aK]at p';have e2:SetTable.layClean mask hs=some o:=by
  unfold SetTable.layClean;rw[<- Array.foldl_toList,e]
  rfl
 unfold SetTable.laid;rw[e2];refine⟨_,_,rfl,rfl,rfl,?_,rfl,?_⟩
 .have:=p'.length_eq;rw[ai,eJ]at this;simpa[Xi]using this
 .simpa[Xi]using p'
def zhE:∀fuel size n,(∃k,size=2^k)->(∃k,SetTable.sizeAbove.go n fuel size=2^k)/\(n<size*2^fuel->n<SetTable.sizeAbove.go n fuel size)/\size<=SetTable.sizeAbove.go n fuel size/\(SetTable.sizeAbove.go n fuel size<=max size (2*n)):=by
 intro fuel
 induction fuel with
 |zero=>intro size n h;exact⟨h,λz=>by rw[Nat.pow_zero,Nat.mul_one]at z;exact z,au _,Nat.le_max_left ..⟩
 |succ f ih =>
  intro size n ⟨k,hk⟩;unfold SetTable.sizeAbove.go
  split
  .obtain⟨a,b,c,d⟩:=ih (size*2) n ⟨k+1,by rw[hk,dY]⟩;exact⟨a,λz=>b (by rw[eT,<- Nat.pow_succ'];exact z),by lia,by lia⟩
  .exact⟨⟨k,hk⟩,λ_=>by lia,au _,Nat.le_max_left ..⟩
def zco{n:Nat}(h:n<=1000000):(∃k,SetTable.sizeAbove n=2^k)/\n<SetTable.sizeAbove n/\8<=SetTable.sizeAbove n/\SetTable.sizeAbove n<=max 8 (2*n):=by
 let⟨a,b,c,d⟩:=zhE 64 8 n ⟨3,rfl⟩;exact⟨a,b (cU h (by decide)),c,d⟩
end
end L2
namespace L2
open PySem PySem.Spec PySem.Calls PyProof.Rows
section
variable{prog:Af}{w:World}{A:Ao}{E:A3}{s:An}
inductive TV(h:Heap):Nat->Value->Prop
 |non {n:Nat}:TV h n .none
 |int {n:Nat} {i:Int} {t:Tok}:TV h n (.int i t)
 |tup {n:Nat} {a:Addr} {items:Ac}:IsTup h a items->(∀v∈items.toList,TV h n v)->TV h (n+1) (.ref a)
def zaC:∀{n:Nat}{v:Am}{A:Ao}{E:A3}{Q:Bool->Shared->Prop},TV s.heap n v->Q true s->wpAny (model prog w) A (eqIsQuiet n v) Q E s:=by
 intro n
 induction n with
 |zero=>intro v A E Q h q;cases h<;>exact ap q
 |succ n ih =>
  intro v A E Q h q;cases h with
  |non=>exact ap q
  |int=>exact ap q
  |tup hT all=>exact QF (d:=n) hT (λv hv A E Q q=>ih (all v hv) q) q
def zfC:∀{n:Nat}{v:Am}{A:Ao}{E:A3}{Q:Bool->Shared->Prop},TV s.heap n v->Q false s->wpAny (model prog w) A (ofAClassStatement n v) Q E s:=by
 intro n
 induction n with
 |zero=>intro v A E Q h q;cases h<;>exact ap q
 |succ n ih =>
  intro v A E Q h q;cases h with
  |non=>exact ap q
  |int=>exact ap q
  |tup hT all =>
   let⟨o,ho,hc,m,hd⟩:=hT;unfold ofAClassStatement;refine af (wpAny_typeOf (T:="tuple") ⟨o,ho,hc⟩ ?_);show wpAny _ _ (pure true >>= _) _ _ s
   refine af (ap ?_);simp only[cQ,aW,br];refine af (bJ ho hd ?_);dsimp only;refine af ?_;rw[<- dH];refine eB _ (λrest r s'=>r.1=none/\s'=s/\∀v∈rest,TV s.heap n v) _ ?_ ?_ _ _ ⟨rfl,rfl,all⟩
   .rintro v rest r s' ⟨hr,rfl,hall⟩;refine af (ih (hall v aU) ?_);simp only[aW,br];exact ap ⟨rfl,rfl,λu hu'=>hall u (ay _ hu')⟩
   .rintro⟨r1,r2⟩ s' ⟨hr,rfl,_⟩;simp only at hr;subst hr;exact ap q
def zfB:∀{n:Nat}{v:Am}{A:Ao}{E:A3}{Q:Bool->Shared->Prop},TV s.heap n v->(∀b,Q b s)->wpAny (model prog w) A (hashByValue n v) Q E s:=by
 intro n
 induction n with
 |zero=>intro v A E Q h q;cases h<;>exact ap (q _)
 |succ n ih =>
  intro v A E Q h q;cases h with
  |non=>exact ap (q _)
  |int=>exact ap (q _)
  |tup hT all =>
   let⟨o,ho,hc,m,hd⟩:=hT;unfold hashByValue;refine af (gu (T:="tuple") ⟨o,ho,hc⟩ F.slot_tuple_hash.lookup ?_);show wpAny _ _ (seqItems? _ >>= _) _ _ s
   refine af (bJ ho hd ?_);refine af ?_;show wpAny _ _ (forIn _ _ _) _ _ s
   rw[<- dH];refine eB _ (λrest r s'=>r.1=none/\s'=s/\∀v∈rest,TV s.heap n v) _ ?_ ?_ _ _ ⟨rfl,rfl,all⟩
   .rintro v rest r s' ⟨hr,rfl,hall⟩;refine af (ih (hall v aU) λb=>?_);cases b
    .exact ap (ap (q _))
    .exact ap ⟨rfl,rfl,λu hu'=>hall u (ay _ hu')⟩
   .rintro⟨r1,r2⟩ s' ⟨hr,rfl,_⟩;simp only at hr;subst hr;exact ap (q _)
def zgv{x:Addr}{A:Ao}{E:A3}{Q:Bool->Shared->Prop}(hx:TV s.heap 8 (.ref x)){ys:A7}(hy:∀v∈ys,(∃b,v=.ref b)/\TV s.heap 8 v)(q:Q false s):wpAny (model prog w) A (searchCouldBeSeen (.ref x) ys) Q E s:=by
 unfold searchCouldBeSeen;refine af ?_;refine eB _ (λrest r s'=>r.1=none/\s'=s/\∀v∈rest,(∃b,v=.ref b)/\TV s.heap 8 v) _ ?_ ?_ _ _ ⟨rfl,rfl,hy⟩
 .rintro v rest r s' ⟨hr,rfl,hall⟩;let⟨⟨b,rfl⟩,hv⟩:=hall v aU;by_cases e:(x == b)=true
  .dsimp only;rw[e];exact ap ⟨rfl,rfl,λu hu'=>hall u (ay _ hu')⟩
  .dsimp only;rw[Bool.not_eq_true]at e;rw[e];simp only[Bool.false_or,carriedByValue,cg,aW,br];refine af (zaC hx ?_);simp only[cQ,aW,br];refine af (zaC hv ?_);simp only[cQ,aW,br];refine af (zfC hx ?_);simp only[aW,br];refine af (zfC hv ?_);simp only[aW,br];exact ap ⟨rfl,rfl,λu hu'=>hall u (ay _ hu')⟩
 .rintro⟨r1,r2⟩ s' ⟨hr,rfl,_⟩;simp only at hr;subst hr;exact ap q
theorem XT(t:SetTable):∀n p,(ZS t n p).dummy=p.dummy
 |0,_=>rfl
 |n+1,p=>(XT t n _).trans (Vq t p)
def zjB{α:Type}{c:Bool}{m rest:Sem α}{Q:α->Shared->Prop}(h1:wpAny (model prog w) A rest Q E s)(h2:wpAny (model prog w) A rest Q E s->wpAny (model prog w) A m Q E s):wpAny (model prog w) A (if (!c)=true then m else rest) Q E s:=by
 split
 .exact h2 h1
 .exact h1
theorem zef{a x:Addr}{o:Obj}{es:Array (Int×Value)}{ep:Nat}{t:SetTable}{hsh:Int}{Q:SetFound->Shared->Prop}(ho:s.heap.get? a=some o)(hd:o.data=.set es ep t)(hf:t.fits es.size=true)(dm:t.dummies=#[])(odd:t.gaveWay=false)(hx:TV s.heap 8 (.ref x))(hy:∀e∈es.toList,(∃b,e.2=.ref b)/\TV s.heap 8 e.2)(eqs:∀e∈es.toList,∀{Q':Bool->Shared->Prop},Q' false s->wpAny (model prog w) A (eqBool e.2 (.ref x)) Q' E s)(q:∀j,t.slot j=.empty->Q (.free j false) s) :
  ∀d fuel stand,d<fuel->d<10*SetTable.turns t.mask->t.slot (ZS t d (stand.getD (t.probeStart hsh))).j=.empty->(stand.getD (t.probeStart hsh)).dummy=none->wpAny (model prog w) A (setSearchFrom a (.ref x) hsh true fuel stand) Q E s:=by
 have fz:t.place.size=es.size:=by
  simp only[SetTable.fits,ci,bM]at hf;exact hf.1
 intro d
 induction d using Nat.strongRecOn with
 |ind d ih =>
  intro fuel stand hfu ht he hdm;let⟨f,rfl⟩:∃f,fuel=f+1:=⟨fuel-1,by lia⟩;let⟨r,hr,hc⟩:=zgU t (hashAt:=λi=>(es[i]?.map (·.1)).getD 0) (h:=hsh) dm d _ _ ht he hdm;unfold setSearchFrom;refine af (dn ho hd hf ?_);dsimp only;rw[odd];simp only[aW,br];have hp:t.probe (λi=>(es[i]?.map (·.1)).getD 0) hsh (stand.getD (t.probeStart hsh))=some r:=hr;generalize hpe:t.probe _ hsh (stand.getD (t.probeStart hsh))=pr;have er:pr=some r:=hpe.symm.trans hp;subst er;rcases hc with⟨j,rfl,hj⟩|⟨j,i,d',rfl,hj,hh,d1,d2⟩
  .exact ap (q j hj)
  .have hi:i<es.size:=by rw[<- fz];exact(be.mp (zdJ t hj)).1
   have hei:es[i]?=some es[i]:=bI hi;have hem:es[i]∈es.toList:=by rw[<- Array.getElem_toList hi];exact cf _
   let⟨⟨b,hb⟩,hv⟩:=hy _ hem;dsimp only;refine zjB ?_ λhrest=>af (zgv hx (λv hv=>by
    let⟨e,he,rfl⟩:=aJ.mp hv;rw[Array.toList_filter]at he;exact hy e (cu.mp he).1) hrest)
   rw[hei];dsimp only;refine af (cE (eqs _ hem ?_));refine af (dn ho hd hf ?_);dsimp only;rw[show t.sameMemory t.moves t.mask=some true by simp[SetTable.sameMemory]];simp only[cg,aW,br,dM];rw[hj];dsimp only;rw[hei];dsimp only;rw[hb];refine af (wpAny_isSame_ref_self ?_);refine af (ap ?_);simp only[dM,aW,br];refine ih (d-d') (by lia) f (some _) (by lia) (by lia) ?_ ?_
   .show t.slot (ZS t (d-d') (ZS t d' (stand.getD (t.probeStart hsh)))).j=.empty
    rw[<- zb8,show d'+(d-d')=d by lia];exact he
   .show(ZS t d' (stand.getD (t.probeStart hsh))).dummy=none
    rw[XT];exact hdm
def zca(h:Heap)(a:Addr)(xs:List (Int×Addr)):Prop :=
 ∃o es ep t,h.get? a=some o/\o.ExactSet/\o.data=.set es ep t/\es.toList.Perm (xs.map λx=>(x.1,Value.ref x.2))/\t.dummies=#[]/\t.place.size=es.size/\(∃k,t.mask+1=2^k)/\7<=t.mask/\es.size*5<t.mask*3/\t.mask<=8*xs.length+7
def zeY{es:Array (Int×Value)}{order:Array Nat}(h:order.toList.Perm (List.range es.size)):(order.filterMap (es[·]?)).toList.Perm es.toList:=by
 rw[Array.toList_filterMap];refine(h.filterMap _).trans ?_;have:∀n,n<=es.size->(List.range n).filterMap (es[·]?)=es.toList.take n:=λn=>by
  induction n with
  |zero=>intro _;rfl
  |succ n ih =>
   intro hn;rw[fA,List.filterMap_append,ih (by lia),aI,bK,bI (by lia)];simp[bI (show n<es.size by lia)]
 rw[this _ (au _),<- aK,aN]
def zfy{a:Addr}{o:Obj}{es:Array (Int×Value)}{ep:Nat}{t:SetTable}{xs:List (Int×Addr)}{Q:Ag}(ho:s.heap.get? a=some o)(hex:o.ExactSet)(hd:o.data=.set es ep t)(hf:t.fits es.size=true)(pm:es.toList.Perm (xs.map λx=>(x.1,Value.ref x.2)))(h1:1<=es.size)(hn:es.size<=1100)(q:∀h',Heap.SameBut a s.heap h'->zca h' a xs->Q () {s with heap:=h'}):wpAny (model prog w) A (setRelay a (SetTable.grown es.size)) Q E s:=by
 have hg:SetTable.grown es.size=es.size*4:=by unfold SetTable.grown;rw[ak (by lia)]
 rw[hg];let⟨⟨k,hk⟩,s1,s8,s2⟩:=zco (n:=es.size*4) (by lia);have hl:es.size=xs.length:=by rw[<- aK,pm.length_eq,ai]
 let⟨t',order,e,em,ed,ep',_,po⟩:=zh7 (mask:=SetTable.sizeAbove (es.size*4)-1) (finger:=t.finger) (moves:=t.movedTo (SetTable.sizeAbove (es.size*4)-1)) (led:=t.led) (plain:=t.plain) (hs:=es.map (·.1)) (k:=k) (by lia) (by rw[Array.size_map];lia);rw[Array.size_map]at ep' po;have pe:=zeY po;have sz:(order.filterMap (es[·]?)).size=es.size:=by rw[<- aK,pe.length_eq,aK]
 unfold setRelay;refine af (dn ho hd hf ?_);dsimp only;rw[ak (show ¬SetTable.sizeAbove (es.size*4)>sizeLine by have:(100000:Nat)<=sizeLine:=(by decide);lia)];refine af ?_;rw[show t.relaid (es.map (·.1)) (es.size*4)=some (t',order)from e];show wpAny _ _ (if ((order.filterMap (es[·]?)).size != es.size)=true then _ else pure (order.filterMap (es[·]?),t')) _ _ s
 rw[ak (by rw[sz];simp)];refine ap (wpAny_storeSet_of ho hd (q _ (dO s.heap a _) ?_) (by rw[sz];have:(100000:Nat)<=sizeLine:=(by decide);lia));have hg:=bx (Obj.putSet (order.filterMap (es[·]?)) t') ho (by rw[putSet_of _ _ hd];rfl);rw[putSet_of _ _ hd]at hg;exact⟨_,_,_,t',hg,hex,rfl,pe.trans pm,ed,by rw[ep',sz],⟨k,by rw[em];lia⟩,by rw[em];lia,by rw[em,sz];lia,by rw[em];lia⟩
def zfx{a:Addr}{o:Obj}{es es1:Array (Int×Value)}{ep:Nat}{t t2:SetTable}{xs:List (Int×Addr)}{Q:Bool->Shared->Prop}(ho:s.heap.get? a=some o)(hex:o.ExactSet)(hd:o.data=.set es ep t)(hs:es1.size=es.size+1)(pm:es1.toList.Perm (xs.map λx=>(x.1,Value.ref x.2)))(hn:es1.size<=1100)(dm:t2.dummies=#[])(ps:t2.place.size=es1.size)(hk:∃k,t2.mask+1=2^k)(m7:7<=t2.mask)(nf:es.size*5<t2.mask*3)(mx:t2.mask<=8*xs.length+7)(q:∀h',Heap.SameBut a s.heap h'->zca h' a xs->Q true {s with heap:=h'}) :
  wpAny (model prog w) A (do
   storeSet a es1 t2
   if (!false&&t2.tooFull)=true then do
    setRelay a (SetTable.grown (es.size+1))
    pure true
   else pure true) Q E s:=by
 have sl:(100000:Nat)<=sizeLine:=by decide
 refine af (wpAny_storeSet_of ho hd ?_ (by lia));have hg:=bx (Obj.putSet es1 t2) ho (by rw[putSet_of _ _ hd];rfl);rw[putSet_of _ _ hd]at hg;have sb:=dO s.heap a (Obj.putSet es1 t2)
 split
 .refine af ?_;rw[<- hs];refine zfy (xs:=xs) hg hex rfl ?_ pm (by lia) hn λh' sb' st=>ap (q h' (sb.trans sb') st);simp only[SetTable.fits,SetTable.fill,dm,ps,dR,eX,bR];show es1.size+0<=t2.mask
  lia
 .rename_i hfull;refine ap (q _ sb ⟨_,_,_,t2,hg,hex,rfl,pm,dm,ps,hk,m7,?_,mx⟩);simp only[SetTable.tooFull,SetTable.fill,dm,ps,Bool.not_false,eX,bR]at hfull;have hfull:¬(es1.size+0)*5 ≥ t2.mask*3:=hfull
  lia
theorem zhr{a x:Addr}{hsh:Int}{xs:List (Int×Addr)}{Q:Bool->Shared->Prop}(hS:zca s.heap a xs)(hn:xs.length<1100)(hx:TV s.heap 8 (.ref x))(hy:∀y∈xs,TV s.heap 8 (.ref y.2))(eqs:∀y∈xs,∀{Q':Bool->Shared->Prop},Q' false s->wpAny (model prog w) A (eqBool (.ref y.2) (.ref x)) Q' E s)(q:∀h',Heap.SameBut a s.heap h'->zca h' a (xs++[(hsh,x)])->Q true {s with heap:=h'}) :
  wpAny (model prog w) A (setAddHashed a (.ref x) hsh) Q E s:=by
 let⟨o,es,ep,t,ho,hex,hd,pm,dm,ps,⟨k,hk⟩,m7,nf,mx⟩:=hS;have hl:es.size=xs.length:=by rw[<- aK,pm.length_eq,ai]
 have hf:t.fits es.size=true:=by
  simp only[SetTable.fits,SetTable.fill,dm,ps,dR,eX,bR];show es.size+0<=t.mask
  lia
 have odd:t.gaveWay=false:=by
  unfold SetTable.gaveWay;cases k with
  |zero=>lia
  |succ k =>
   rw[dY]at hk;exact a9.mpr (by lia)
 have mem:∀e∈es.toList,∃y∈xs,e=(y.1,Value.ref y.2):=λe he=>by
  let⟨y,hy,e'⟩:=aJ.mp (pm.mem_iff.mp he);exact⟨y,hy,e'.symm⟩
 let⟨d,hd1,hd2⟩:=zcA t hk dm (by lia) hsh;unfold setAddHashed setAddHashedIn;refine cE (af (dn ho hd hf ?_));dsimp only;rw[show byScan (.ref x) es=false from rfl];simp only[aW,br];refine af (zef ho hd hf dm odd hx (λe he=>by
  let⟨y,hy',rfl⟩:=mem e he;exact⟨⟨_,rfl⟩,hy y hy'⟩) (λe he Q' z=>by
  let⟨y,hy',rfl⟩:=mem e he;exact eqs y hy' z) (λj hj=>?_) d 100000 none (by unfold SetTable.turns at hd1;lia) hd1 hd2 rfl)
 dsimp only;refine af (dn ho hd hf ?_);dsimp only;have pm1:(SetTable.insertAt es (t.put j).2 (hsh,Value.ref x)).toList.Perm ((xs++[(hsh,x)]).map λx=>(x.1,Value.ref x.2)):=by
  rw[ba];refine(SetTable.insertAt_perm _ _ _).trans ?_;rw[Array.toList_push];exact pm.append_right _
 have sz1:(SetTable.insertAt es (t.put j).2 (hsh,Value.ref x)).size=es.size+1:=by rw[<- aK,pm1.length_eq,ai,aH,hl];rfl
 have d1:(t.put j).1.dummies=#[]:=by
  show(if SetTable.has t.dummies j then _ else t.dummies)=#[]
  rw[dm,show SetTable.has #[] j=false by simp[SetTable.has]]
  rfl
 have p1:(t.put j).1.place.size=es.size+1:=by
  have:=(SetTable.insertAt_perm t.place (SetTable.below t.place j) j).length_eq;rw[aK,aK,Array.size_push,ps]at this;exact this
 have m1:(t.put j).1.mask=t.mask:=rfl;have fin:∀t2:SetTable,t2.dummies=#[]->t2.place.size=es.size+1->t2.mask=t.mask->wpAny (model prog w) A (do
   storeSet a (SetTable.insertAt es (t.put j).2 (hsh,Value.ref x)) t2
   if (!false&&t2.tooFull)=true then do
    setRelay a (SetTable.grown (es.size+1))
    pure true
   else pure true) Q E s:=λt2 e1 e2 e3=>zfx ho hex hd sz1 pm1 (by lia) e1 (by rw[e2,sz1]) ⟨k,by rw[e3];exact hk⟩ (by lia) (by lia) (by rw[aH];simp;lia) q
 split
 .refine af (zfB hx λb=>?_);cases b
  .exact fin _ d1 p1 m1
  .exact fin _ d1 p1 m1
 .exact af (ap (fin _ d1 p1 m1))
end
section
variable{prog:Af}{w:World}
structure KSet{κ:Type}[DecidableEq κ]{d:Nat}(It:KItem prog w κ d)(n:Nat):Prop where
 kp:∀{h h':Heap}{k:κ}{v:Am},(∀b items,IsTup h b items->IsTup h' b items)->It.is h k v->It.is h' k v
 tv:∀{h:Heap}{k:κ}{v:Am},It.is h k v->TV h n v
def TV.up{h:Heap}:∀{n m:Nat}{v:Am},TV h n v->n<=m->TV h m v:=by
 intro n
 induction n with
 |zero=>intro m v t _;cases t<;>constructor
 |succ n ih =>
  intro m v t l;let⟨m,rfl⟩:∃k,m=k+1:=⟨m-1,by lia⟩;cases t with
  |non=>exact .non
  |int=>exact .int
  |tup hT all=>exact .tup hT λv hv=>ih (all v hv) (by lia)
theorem zh8:KSet (ji prog w) 0 where
 kp:=λ_ h=>h
 tv:=by
  intro h k v r;cases k with
  |none=>cases r;exact .non
  |some n=>let⟨t,rfl⟩:=r;exact .int
def zjE{κ:Type}[DecidableEq κ]{d n:Nat}{It:KItem prog w κ d}(K:KSet It n):KSet (xF It) (n+1) where
 kp:=by
  rintro h h' k v s ⟨a,items,rfl,h1,h2⟩;exact⟨a,items,rfl,s _ _ h1,Paired.mapP h2 λp q z=>K.kp s z⟩
 tv:=by
  rintro h k v ⟨a,items,rfl,h1,h2⟩;refine .tup h1 λv hv=>?_;let⟨j,hj⟩:=gZ.mp hv;let⟨k1,e1⟩:∃x,k[j]?=some x:=⟨k[j]'(by rw[cF h2];exact(aa.mp hj).1),ac _⟩;exact K.tv (xr h2 e1 hj)
def zkI:KSet (xF (ji prog w)) 1:=zjE zh8
variable{A:Ao}{E:A3}{κ:Type}[DecidableEq κ]{d n8:Nat}{It:KItem prog w κ d}
def zii(It:KItem prog w κ d)(x:κ×Addr):Int×Addr:=(It.hash x.1,x.2)
theorem zer(KS:KSet It n8)(h8:n8<=8){R:Result->Shared->Prop}{I p:Addr}(hh:A.in1.handled=none)(hp:p≠I){S:Addr}(hSI:S≠I)(hSp:S≠p){xs:List (κ×Addr)}{pi:Ac}(hu:A.in1.units+d<cLine)(hits:pi.toList=xs.map λx=>Value.ref x.2)(nd:(xs.map (·.1)).Nodup)(sm:xs.length<1100) :
  ∀(m i:Nat)(s:An),xs.length-i=m->i<=xs.length->(s.heap.IsListIter I p i/\s.heap.IsList p pi)->(∀x∈xs,It.is s.heap x.1 (.ref x.2))->zca s.heap S ((xs.take i).map (zii It)) ->
  (∀h' tk,(∀b o,b≠I->b≠S->s.heap.get? b=some o->h'.get? b=some o)->zca h' S (xs.map (zii It))->R (.ok (.ret .none)) {s with heap:=h',toks:=tk}) ->
  codeAny (model prog w) A (.builtin "set.update.loop" ⟨[.ref S,.ref I],[]⟩) R s:=by
 have hsz:pi.size=xs.length:=by rw[<- aK,hits,ai]
 have W:=Walks.list (prog:=prog) (w:=w) hh I p hp pi;intro m
 induction m with
 |zero =>
  intro i s hm hi hst his hs hR;have hin:i=pi.size:=by lia
  subst hin;refine eQ vV ?_;rw[fq xy _];show wpAny _ A.in1 (pyNext (.ref I) >>= _) _ _ s
  refine af (W.done s _ _ hst λh' tk hk'=>?_);refine ap (hR h' tk (λb o hb _ e=>hk' b o (by simpa using hb) e) ?_);rw[hsz,aN]at hs;let⟨o,es,ep,t,h1,h2⟩:=hs;exact⟨o,es,ep,t,hk' S o (by simpa using hSI) h1,h2⟩
 |succ m ih =>
  intro i s hm hi hst his hs hR;have hlt:i<xs.length:=by lia
  refine eQ vV ?_;rw[fq xy _];show wpAny _ A.in1 (pyNext (.ref I) >>= _) _ _ s
  refine af (W.item i s _ _ (by lia) hst λv h' tk hPv hst' hk'=>?_);have hv:v=.ref xs[i].2:=by
   rw[<- bK,hits,am,ac hlt]at hPv;exact(aF hPv).symm
  subst hv;have tI:∀b items,IsTup s.heap b items->b≠I:=λb items hb z=>by
   let⟨o,h1,h2,_⟩:=hst.1;let⟨o',g1,g2,_⟩:=hb;rw[z,h1]at g1;cases g1;rw[h2]at g2;exact absurd (Value.type.inj g2) (by decide)
  have k1:∀b items,IsTup s.heap b items->IsTup h' b items:=λb items hb=>by
   let⟨o,g⟩:=hb;exact⟨o,hk' b o (by simpa using tI b items ⟨o,g⟩) g.1,g.2⟩
  have his1:∀x∈xs,It.is h' x.1 (.ref x.2):=λx hx=>KS.kp k1 (his x hx);have hs1:zca h' S ((xs.take i).map (zii It)):=by
   let⟨o,es,ep,t,h1,h2⟩:=hs;exact⟨o,es,ep,t,hk' S o (by simpa using hSI) h1,h2⟩
  have hx:=his1 _ (cf hlt);have nin:∀x∈xs.take i,x.1≠xs[i].1:=λx hx e=>by
   let⟨j,hj,ej⟩:=ix hx;rw[aQ]at hj;rw[List.getElem_take]at ej;have:j=i:=(List.getElem_inj (i:=j) (j:=i) (h₀:=by rw[ai];lia) (h₁:=by rw[ai];lia) nd).mp (by rw[List.getElem_map,List.getElem_map,ej,e])
   lia
  refine af (cE ?_);unfold setAdd;refine cE (af (It.pyHash hu hx ?_));refine zhr (xs:=(xs.take i).map (zii It)) (x:=xs[i].2) hs1 (by rw[ai,aQ];lia) ((KS.tv hx).up h8) (λy hy=>?_) (λy hy Q' z=>?_) λh'' sb hs2=>?_
  .obtain⟨x,hx',rfl⟩:=aJ.mp hy;exact(KS.tv (his1 x (ib hx'))).up h8
  .obtain⟨x,hx',rfl⟩:=aJ.mp hy;have:=It.eq (A:=A.in1) (s:={s with heap:=h',toks:=tk+It.draws xs[i].1}) hu (his1 x (ib hx')) hx;rw[aT (nin x hx')]at this;exact this prog w _ _ z
  .refine ap ⟨plainId_quiet xy _,ih (i+1) _ (by lia) hlt ?_ ?_ ?_ ?_⟩
   .have e:∀b,b≠S->h''.get? b=h'.get? b:=λb hb=>sb.2 b hb;exact W.frame (i+1) h' h'' hst' λb hb o e'=>by
     rw[e b (λz=>by
      simp only[av,bL,cn]at hb;rcases hb with rfl|rfl
      .exact hSI z.symm
      .exact hSp z.symm)]
     exact e'
   .refineλx hx'=>KS.kp (λb items hb=>?_) (his1 x hx');let⟨o,g⟩:=hb;have:b≠S:=λz=>by
     let⟨o',_,_,_,g1,g2,_⟩:=hs1;rw[z,g1]at g;let⟨e,g3,_⟩:=g;cases e;rw[g2.1]at g3;exact absurd (Value.type.inj g3) (by decide)
    exact⟨o,(sb.2 b this).trans g.1,g.2⟩
   .rw[aI,ac hlt,ba];exact hs2
   .intro h3 tk3 hk3 hs3;refine hR h3 tk3 (λb o hb nb e=>hk3 b o hb nb ?_) hs3;rw[sb.2 b nb];exact hk' b o (by simpa using hb) e
end
def tsO(D:Addr)(n:Nat):HO:=.ext λh=>∃xs:List (Int×Addr),xs.length=n/\n<1100/\zca h D xs
section
variable{X:Cx}{κ:Type}[DecidableEq κ]{d n8:Nat}
theorem Wr:∀{xs:List (κ×Addr)}{us:A7},Vals (xs.map λx=>V.ref x.2) us->us=xs.map λx=>Value.ref x.2
 |[],_,.nil=>rfl
 |x::xs,_,.cons r t=>by cases r;rw[Wr t];rfl
def zit{It:KItem X.prog X.w κ d}(KS:KSet It n8)(h8:n8<=8)(hc:X.calm=true)(hu:X.A.units+100<cLine)(hd:d<=50):CallR X (.type "set") (λvs H Q=>∃p,∃xs:List (κ×Addr),vs=[.ref p]/\SqL X.K H p (xs.map λx=>.ref x.2)/\(xs.map (·.1)).Nodup/\xs.length<1100/\(∀h,HOk X.prog X.w H h->∀x∈xs,It.is h x.1 (.ref x.2))/\∀l,H l=none->Q (.ref l) (upd H l (tsO l xs.length))):=by
 intro p5 s σ H vs us Q I r h;let⟨p,xs,rfl,hp,nd,sm,hk,q⟩:=h;let⟨u,rfl,rx⟩:=wR r;cases rx;let⟨pi,rv,hl,hz⟩:=I.list hp;have hl':=hl.isList;have hlt:p<s.heap.objs.size:=by let⟨_,e,_⟩:=hl';exact aB e
 refine zde λled s₁ e₁=>?_;subst e₁;have hl2:=hl'.push {cls:=.type "set",dict:=none,data:=.set #[] 0 (.fresh 0 0 led)};have hSo:(s.heap.push {cls:=.type "set",dict:=none,data:=.set #[] 0 (.fresh 0 0 led)}).get? s.heap.objs.size=some {cls:=.type "set",dict:=none,data:=.set #[] 0 (.fresh 0 0 led)}:=aC _ rfl;have hT:Shared.TypeIs {s with heap:=s.heap.push {cls:=.type "set",dict:=none,data:=.set #[] 0 (.fresh 0 0 led)} } (.ref p) "list":=by let⟨o,h1,h2,_⟩:=hl2;exact⟨o,h1,h2⟩
 have f1:=F.sub_list_set;have f2:=F.sub_list_frozenset;unfold Builtin.«set.__init__» noKeywords
 wp_walk using dq hl2
 have hS1:(s.heap.push {cls:=.type "set",dict:=none,data:=.set #[] 0 (.fresh 0 0 led)}).objs.size=s.heap.objs.size+1:=bV ..;have hits:pi.toArray.toList=xs.map λx=>Value.ref x.2:=Wr rv;refine zer (A:=X.A.in1.in1) (S:=s.heap.objs.size) (xs:=xs) KS h8 (p:=p) (pi:=pi.toArray) (I.ok.hd hc) ?_ ?_ ?_ ?_ hits nd sm _ 0 _ rfl (bz _) ⟨⟨_,aC _ rfl,rfl,rfl⟩,hl2.push _⟩ ?_ ?_ λh' tk hk' hs=>?_
 .rw[hS1];exact aP (fg hlt)
 .rw[hS1];exact aP (cI _)
 .exact dC hlt
 .simp only[eE];lia
 .exactλx hx=>KS.kp (λb items ⟨o,g⟩=>⟨o,aj _ (aj _ g.1),g.2⟩) (hk _ I.hok x hx)
 .exact⟨_,#[],0,_,aj _ hSo,⟨rfl,rfl,rfl⟩,rfl,bd _,rfl,rfl,⟨3,rfl⟩,au 7,show 0*5<7*3 by decide,show 7<=8*0+7 by decide⟩
 .refine ap (ap ⟨rfl,.ref s.heap.objs.size,_,I.laid (a:=s.heap.objs.size) (o:=tsO s.heap.objs.size xs.length) (t':=tk) (λb u e=>?_) (au _) ?_,rfl,q _ (I.hok.fresh (au _))⟩)
  .have hb:=aB e;exact hk' b u (λz=>by rw[z,hS1]at hb;exact absurd hb (Nat.not_lt.mpr (cZ _))) (aP hb) (aj _ (aj _ e))
  .refine⟨⟨_,ai ..,sm,hs⟩,?_,?_⟩
   .obtain⟨o,_,_,_,g,_⟩:=hs;exact⟨o,g⟩
   .rintro h1 h2 ⟨ys,e,l,o,es,ep,t,g,rest⟩ kk;exact⟨ys,e,l,o,es,ep,t,kk o g,rest⟩
def ziv:CallR X (.builtin "len") (λxs H Q=>∃p n,xs=[.ref p]/\H p=some (tsO p n)/\Q (.int n) H):=by
 intro p5 s σ H xs us Q I r h;let⟨p,n,rfl,hp,q⟩:=h;let⟨u,rfl,rx⟩:=wR r;cases rx;let⟨⟨ys,e,l,o,es,ep,t,h1,h2,h3,pm,dm,ps,_,m7,nf,_⟩,_⟩:=(show ObjOk X.prog X.w H s.heap p (tsO p n)from I.hok p _ hp);have hl:es.size=n:=by rw[<- e,<- aK,pm.length_eq,ai]
 have hf:t.fits es.size=true:=by
  simp only[SetTable.fits,SetTable.fill,dm,ps,dR,eX,bR];show es.size+0<=t.mask
  lia
 refine call_len_set h1 h2 h3 hf ?_ ⟨.int n,H,I.tok _,⟨_,by rw[hl]⟩,q⟩
 lia
end
end L2
namespace L2
open PySem PySem.Spec PyProof.Rows
structure RoomH(k:Nat)(A:Ao):Prop where
 dp:A.depth+3*k+5<recursionLimit
 un:A.units+16*k+200<cLine
structure FnOkH(P:Af)(w:World)(K:A0)(mg:A4)(base:Heap)(k:Nat)(f:Addr)(fd:FuncData)(ps:A8)(sp:Sp):Prop where
 len:∀vs H Q E,sp vs H Q E->vs.length=ps.length
 run:∀(A:Ao)(outer:List Env)(s:An)(H:Hp)(args:Args)(us:A7)(vs:Ap)(Q:VK),RoomH k A->Env0 P w K mg base A outer s H->BindsTo s fd args (ps.zip us)->Vals vs us->sp vs H Q (λ_ _ _=>False) ->
  codeAny (model P w) A (.call (.ref f) args) (CR CX0 outer P w H s Q λ_ _ _=>False) s
def CalH(P:Af)(w:World)(K:A0)(mg:A4)(base:Heap)(x:Str)(k:Nat)(ps:A8)(sp:Sp):Prop:=∃f fd,FnOkH P w K mg base k f fd ps sp/\mg x=some (.ref f)/\keepIn K (.ref f)=true/\Binds K fd ps []
def CalH.mono{P:Af}{w:World}{K:A0}{mg:A4}{base:Heap}{x:Str}{j k:Nat}{ps:A8}{sp:Sp}(h:CalH P w K mg base x j ps sp)(l:j<=k:=by decide):CalH P w K mg base x k ps sp:=by
 let⟨f,fd,F,r⟩:=h;exact⟨f,fd,⟨F.len,λA outer s H args us vs Q hr=>F.run A outer s H args us vs Q ⟨by have:=hr.dp;lia,by have:=hr.un;lia⟩⟩,r⟩
section
variable{X:Cx}{x:Str}{p pos:Pos}{e:Expr}{es:List Expr}{t:TA}{k:Nat}
end
end L2
namespace L2
section
variable{G:Prop}{A B C D E F H I:Type}
def iE2{k:A->B->Prop}(a:A)(b:B)(p:k a b):∃a b,k a b:=⟨a,b,p⟩
def iE3{k:A->B->C->Prop}(a:A)(b:B)(c:C)(p:k a b c):∃a b c,k a b c:=⟨a,b,c,p⟩
def iE4{k:A->B->C->D->Prop}(a:A)(b:B)(c:C)(d:D)(p:k a b c d):∃a b c d,k a b c d:=⟨a,b,c,d,p⟩
def iE5{k:A->B->C->D->E->Prop}(a:A)(b:B)(c:C)(d:D)(e:E)(p:k a b c d e):∃a b c d e,k a b c d e:=⟨a,b,c,d,e,p⟩
def iE6{k:A->B->C->D->E->F->Prop}(a:A)(b:B)(c:C)(d:D)(e:E)(f:F)(p:k a b c d e f):∃a b c d e f,k a b c d e f:=⟨a,b,c,d,e,f,p⟩
def iE7{k:A->B->C->D->E->F->H->Prop}(a:A)(b:B)(c:C)(d:D)(e:E)(f:F)(g:H)(p:k a b c d e f g):∃a b c d e f g,k a b c d e f g:=⟨a,b,c,d,e,f,g,p⟩
def iE8{k:A->B->C->D->E->F->H->I->Prop}(a:A)(b:B)(c:C)(d:D)(e:E)(f:F)(g:H)(i:I)(p:k a b c d e f g i):∃a b c d e f g i,k a b c d e f g i:=⟨a,b,c,d,e,f,g,i,p⟩
def oE1{k:A->Prop}(h:∃a,k a)(w:∀a,k a->G):G:=by let⟨a,p⟩:=h;exact w a p
def oE2{k:A->B->Prop}(h:∃a b,k a b)(w:∀a b,k a b->G):G:=by let⟨a,b,p⟩:=h;exact w a b p
def oE3{k:A->B->C->Prop}(h:∃a b c,k a b c)(w:∀a b c,k a b c->G):G:=by let⟨a,b,c,p⟩:=h;exact w a b c p
def oE4{k:A->B->C->D->Prop}(h:∃a b c d,k a b c d)(w:∀a b c d,k a b c d->G):G:=by let⟨a,b,c,d,p⟩:=h;exact w a b c d p
def oE5{k:A->B->C->D->E->Prop}(h:∃a b c d e,k a b c d e)(w:∀a b c d e,k a b c d e->G):G:=by let⟨a,b,c,d,e,p⟩:=h;exact w a b c d e p
def oE6{k:A->B->C->D->E->F->Prop}(h:∃a b c d e f,k a b c d e f)(w:∀a b c d e f,k a b c d e f->G):G:=by let⟨a,b,c,d,e,f,p⟩:=h;exact w a b c d e f p
def oE7{k:A->B->C->D->E->F->H->Prop}(h:∃a b c d e f g,k a b c d e f g)(w:∀a b c d e f g,k a b c d e f g->G):G:=by let⟨a,b,c,d,e,f,g,p⟩:=h;exact w a b c d e f g p
def oE8{k:A->B->C->D->E->F->H->I->Prop}(h:∃a b c d e f g i,k a b c d e f g i)(w:∀a b c d e f g i,k a b c d e f g i->G):G:=by let⟨a,b,c,d,e,f,g,i,p⟩:=h;exact w a b c d e f g i p
end
section
variable{G A B C D E F H I J:Prop}
def iA3(a:A)(b:B)(c:C):A/\B/\C:=⟨a,b,c⟩
def iA4(a:A)(b:B)(c:C)(d:D):A/\B/\C/\D:=⟨a,b,c,d⟩
def iA5(a:A)(b:B)(c:C)(d:D)(e:E):A/\B/\C/\D/\E:=⟨a,b,c,d,e⟩
def iA6(a:A)(b:B)(c:C)(d:D)(e:E)(f:F):A/\B/\C/\D/\E/\F:=⟨a,b,c,d,e,f⟩
def iA7(a:A)(b:B)(c:C)(d:D)(e:E)(f:F)(g:H):A/\B/\C/\D/\E/\F/\H:=⟨a,b,c,d,e,f,g⟩
def iA8(a:A)(b:B)(c:C)(d:D)(e:E)(f:F)(g:H)(i:I):A/\B/\C/\D/\E/\F/\H/\I:=⟨a,b,c,d,e,f,g,i⟩
def iA9(a:A)(b:B)(c:C)(d:D)(e:E)(f:F)(g:H)(i:I)(j:J):A/\B/\C/\D/\E/\F/\H/\I/\J:=⟨a,b,c,d,e,f,g,i,j⟩
def oA2(h:A/\B)(k:A->B->G):G:=by let⟨a,b⟩:=h;exact k a b
def oA3(h:A/\B/\C)(k:A->B->C->G):G:=by let⟨a,b,c⟩:=h;exact k a b c
def oA4(h:A/\B/\C/\D)(k:A->B->C->D->G):G:=by let⟨a,b,c,d⟩:=h;exact k a b c d
def oA5(h:A/\B/\C/\D/\E)(k:A->B->C->D->E->G):G:=by let⟨a,b,c,d,e⟩:=h;exact k a b c d e
def oA6(h:A/\B/\C/\D/\E/\F)(k:A->B->C->D->E->F->G):G:=by let⟨a,b,c,d,e,f⟩:=h;exact k a b c d e f
def oA7(h:A/\B/\C/\D/\E/\F/\H)(k:A->B->C->D->E->F->H->G):G:=by let⟨a,b,c,d,e,f,g⟩:=h;exact k a b c d e f g
def oA8(h:A/\B/\C/\D/\E/\F/\H/\I)(k:A->B->C->D->E->F->H->I->G):G:=by let⟨a,b,c,d,e,f,g,i⟩:=h;exact k a b c d e f g i
def oA9(h:A/\B/\C/\D/\E/\F/\H/\I/\J)(k:A->B->C->D->E->F->H->I->J->G):G:=by let⟨a,b,c,d,e,f,g,i,j⟩:=h;exact k a b c d e f g i j
end
end L2
namespace Mine
def zgX{p r:Int}(hp:0<=p)(hr:0<r):Int.gcd r (p%r)=Int.gcd p r:=by
 have e:(p%r).natAbs=p.natAbs%r.natAbs:=by
  have h1:p=(p.natAbs:Int):=by lia
  have h2:r=(r.natAbs:Int):=by lia
  rw[h1,h2,<- fu,bZ,bZ,bZ]
 show Nat.gcd r.natAbs (p%r).natAbs=Nat.gcd p.natAbs r.natAbs
 rw[e,Nat.gcd_comm p.natAbs,Nat.gcd_rec r.natAbs p.natAbs,Nat.gcd_comm]
def zif{p:Int}(hp:0<=p):(Int.gcd p 0:Int)=p:=by
 rw[Int.gcd_zero_right];lia
def zdT{a b:Int}(h:¬(a=0/\b=0)):1<=(Int.gcd a b:Int):=by
 have:0<Int.gcd a b:=Int.gcd_pos_iff.mpr (by lia)
 lia
end Mine
namespace Mine
structure IsLcm(ns:A6)(l:Int):Prop where
 pos:0<l
 dv:∀n∈ns,n∣l
 least:∀m:Int,(∀n∈ns,n∣m)->l∣m
def IsLcm.nil:IsLcm [] 1:=⟨by decide,(λ_ h=>nomatch h),λm _=>Int.one_dvd m⟩
def zjC{a b:Int}(ha:0<a)(hb:0<b):a/(Int.gcd a b:Int)*b=(Nat.lcm a.natAbs b.natAbs:Int):=by
 have g:(Int.gcd a b:Int)∣a:=Int.gcd_dvd_left ..;let⟨k,hk⟩:=g;have gp:0<(Int.gcd a b:Int):=by have:=zdT (a:=a) (b:=b) (by lia);lia
 have e1:a/(Int.gcd a b:Int)=k:=by
  conv=>lhs;rw[hk]
  have hk':=hk;rw[Int.mul_comm (Int.gcd a b:Int) k];have e2:Int.gcd (k*(Int.gcd a b:Int)) b=Int.gcd a b:=by rw[Int.mul_comm,<- hk]
  rw[e2];exact Int.mul_ediv_cancel _ (by lia)
 have hkn:0<k:=by
  rcases(by lia:k<=0\/0<k)with h|h
  .have:=Int.mul_nonpos_of_nonneg_of_nonpos (dD gp) h
   lia
  .exact h
 have hg:Nat.gcd a.natAbs b.natAbs*Nat.lcm a.natAbs b.natAbs=a.natAbs*b.natAbs:=Nat.gcd_mul_lcm ..;have ea:a.natAbs=Nat.gcd a.natAbs b.natAbs*k.natAbs:=by
  have:=bn Int.natAbs hk;rw[Int.natAbs_mul,bZ]at this;exact this
 have gp':0<Nat.gcd a.natAbs b.natAbs:=by
  have:(Nat.gcd a.natAbs b.natAbs:Int)=(Int.gcd a b:Int):=rfl
  lia
 have e3:Nat.lcm a.natAbs b.natAbs=k.natAbs*b.natAbs:=by
  apply Nat.eq_of_mul_eq_mul_left gp';rw[hg,<- eT,<- ea]
 rw[e1,e3];rw[Int.natCast_mul];have h1:k=(k.natAbs:Int):=by lia
 have h2:b=(b.natAbs:Int):=by lia
 rw[<- h1,<- h2]
def Zt{a b:Int}(h:a∣b):a.natAbs∣b.natAbs:=di.mpr h
def IsLcm.step{ns:A6}{l p:Int}(x:IsLcm ns l)(hp:0<p):IsLcm (ns++[p]) (l/(Int.gcd l p:Int)*p):=by
 rw[zjC x.pos hp];have lp:0<l.natAbs:=by have:=x.pos;lia
 have pp:0<p.natAbs:=by lia
 refine⟨?_,λn hn=>?_,λm hm=>?_⟩
 .have:=Nat.lcm_pos lp pp
  lia
 .rcases aG.mp hn with h|h
  .have h1:=x.dv n h;refine Int.dvd_trans h1 ?_;rw[<- di,bZ];exact Nat.dvd_lcm_left ..
  .rw[aD.mp h,<- di,bZ];exact Nat.dvd_lcm_right ..
 .have h1:=x.least m λn hn=>hm n (bA _ hn);have h2:=hm p (a8 _ (aD.mpr rfl));rw[<- di,bZ];exact Nat.lcm_dvd (Zt h1) (Zt h2)
def zaa{a b:Int}(hb:0<b):(Int.gcd a b:Int)<=b:=Int.le_of_dvd hb (Int.gcd_dvd_right ..)
end Mine
namespace L2
open PySem PySem.Spec PyProof.Rows
variable{i:Int}{xs:Ap}{v:V}{CX:CXT}{P:Af}{w:World}{mg:A4}{base:Heap}{N:A8}{qual:Str}{scope:Scope}{f:Addr}{cd:Am}{A:Ao}{s:An}{E:XK}
section
variable{X:Cx}{K:A0}{σ:St}{H:Hp}{Q:VK}{D:Ends}
theorem rd_iq{P:Int->Prop}:iq (.int i) P=P i:=rfl
theorem rd_bq{b:Bool}{P:Bool->Prop}:bq (.bl b) P=P b:=rfl
theorem rd_nq{P:Prop}:nq .non P=P:=rfl
theorem rd_lq{P:V->Prop}:lq [v] P=P v:=rfl
theorem rd_vq{P:V->Prop}:vq (some (some v)) P=P v:=rfl
theorem rd_addI{i j:Int}:za9 K (.int i) (.int j) H Q=Q (.int (i+j)) H:=rfl
theorem rd_addS{i j:Str}:za9 K (.str i) (.str j) H Q=(i.length+j.length<=sizeLine/\Q (.str (i++j)) H):=rfl
theorem rd_mc{α β:Type}{f:α->β}{a:α}{l:List α}:List.map f (a::l)=f a::List.map f l:=rfl
theorem rd_mn{α β:Type}{f:α->β}:List.map f []=[]:=rfl
theorem rd_itT{A B:Prop}:(if true=true then A else B)=A:=rfl
theorem rd_itF{A B:Prop}:(if false=true then A else B)=B:=rfl
theorem rd_is0{A B:Prop}:(if V.non=V.non then A else B)=A:=rfl
theorem rd_is1{a:Addr}{A B:Prop}:(if V.ref a=V.non then A else B)=B:=rfl
theorem rd_is2{a:Int}{A B:Prop}:(if V.int a=V.non then A else B)=B:=rfl
theorem rd_in0{A B:Prop}:(if ¬V.non=V.non then A else B)=B:=rfl
theorem rd_in1{a:Addr}{A B:Prop}:(if ¬V.ref a=V.non then A else B)=A:=rfl
theorem rd_in2{a:Int}{A B:Prop}:(if ¬V.int a=V.non then A else B)=A:=rfl
theorem rd_sz0{P:Prop}:szl [] P=P:=rfl
section
variable{P:Prop}{a b c d e f g h i:V}
theorem rd_sz1:szl [a] P=P:=rfl
theorem rd_sz2:szl [a,b] P=P:=rfl
theorem rd_sz3:szl [a,b,c] P=P:=rfl
theorem rd_sz4:szl [a,b,c,d] P=P:=rfl
theorem rd_sz5:szl [a,b,c,d,e] P=P:=rfl
theorem rd_sz6:szl [a,b,c,d,e,f] P=P:=rfl
theorem rd_sz7:szl [a,b,c,d,e,f,g] P=P:=rfl
theorem rd_sz8:szl [a,b,c,d,e,f,g,h] P=P:=rfl
theorem rd_sz9:szl [a,b,c,d,e,f,g,h,i] P=P:=rfl
end
noncomputable def zdW:Nat->List Stmt->Bool
 |0,_=>false
 | n+1,b=>match b.getLast? with
  |some (.Return ..)=>true
  |some (.Raise ..)=>true
  |some (.Continue ..)=>true
  |some (.Break ..)=>true
  |some (.If _ b e _)=>zdW n b&&zdW n e
  |_=>false
noncomputable def zkS:Stmt->Bool
 | .For ..=>true
 | .While ..=>true
 | .Try ..=>true
 | .If _ b e _=>!zdW 9 b && !zdW 9 e
 |_=>false
def fa{X:Cx}{st:Stmt}{t:TS}(_:zkS st=true)(p:PS X st t):PS X st t:=p
structure Vr(X:Cx)(i:Nat)(x:Str):Prop where
 n:X.N[i]?=some x
 v:Vis X.env.scope x
 d:(x == ("__debug__":Str))=false
 c:(x == ("__classdict__":Str))=false
def pq{X:Cx}(i:Nat){x:Str}{pos:Pos}(h:Vr X i x:=by walk_at"v"):PE X (.Name x pos) (tVar i):=zjo h.n h.v h.d h.c
theorem rd_trB{b:Bool}{P:Bool->Hp->Prop}:trq K (.bl b) H P=P b H:=rfl
theorem rd_trI{P:Bool->Hp->Prop}:trq K (.int i) H P=∃k,zfv K (.int i) H k/\P k H:=rfl
theorem rd_trR{a:Addr}{P:Bool->Hp->Prop}:trq K (.ref a) H P=∃k,zfv K (.ref a) H k/\P k H:=rfl
theorem rd_trS{x:Str}{P:Bool->Hp->Prop}:trq K (.str x) H P=∃k,zfv K (.str x) H k/\P k H:=rfl
theorem rd_eqI{i j:Int}:zcG K (.int i) (.int j) H Q=Q (.bl (decide (i=j))) H:=rfl
theorem rd_neI{i j:Int}:zeH K (.int i) (.int j) H Q=Q (.bl (!decide (i=j))) H:=rfl
theorem rd_eqS{i j:Str}:zcG K (.str i) (.str j) H Q=Q (.bl (decide (i=j))) H:=rfl
theorem rd_eqB{i j:Bool}:zcG K (.bl i) (.bl j) H Q=Q (.bl (decide (i=j))) H:=rfl
theorem rd_eTI{i j:Int}:zeJ K (.int i) (.int j) H Q=if i=j then Q (.bl true) H else Q (.bl false) H:=rfl
theorem rd_eTS{i j:Str}:zeJ K (.str i) (.str j) H Q=if i=j then Q (.bl true) H else Q (.bl false) H:=rfl
theorem rd_eTB{i j:Bool}:zeJ K (.bl i) (.bl j) H Q=if i=j then Q (.bl true) H else Q (.bl false) H:=rfl
theorem rd_nTI{i j:Int}:zeG K (.int i) (.int j) H Q=if ¬i=j then Q (.bl true) H else Q (.bl false) H:=rfl
theorem rd_nTS{i j:Str}:zeG K (.str i) (.str j) H Q=if ¬i=j then Q (.bl true) H else Q (.bl false) H:=rfl
theorem rd_nTB{i j:Bool}:zeG K (.bl i) (.bl j) H Q=if ¬i=j then Q (.bl true) H else Q (.bl false) H:=rfl
theorem rd_eTR{a b:Addr}:zeJ K (.ref a) (.ref b) H Q=zcG K (.ref a) (.ref b) H Q:=rfl
theorem rd_nTR{a b:Addr}:zeG K (.ref a) (.ref b) H Q=zeH K (.ref a) (.ref b) H Q:=rfl
def rd_fvI{P:Str->Prop}{R:Str->Prop}:((∃j,V.int i=V.int j/\j.natAbs.log2<1920/\P (toString j))\/(∃y,V.int i=V.str y/\y.length<=sizeLine/\R y))↔i.natAbs.log2<1920/\P (toString i) :=
 ⟨λh=>h.elim (λ⟨_,e,h⟩=>by cases e;exact h) (λ⟨_,e,_⟩=>nomatch e),λh=>.inl ⟨i,rfl,h⟩⟩
def rd_strS{y:Str}{P:Str->Prop}:(∃z,V.str y=V.str z/\P z)↔P y:=⟨λ⟨_,e,h⟩=>by cases e;exact h,λh=>⟨y,rfl,h⟩⟩
theorem rd_c0:((0:Nat):Int)=0:=rfl
theorem rd_c1:((1:Nat):Int)=1:=rfl
theorem rd_c2:((2:Nat):Int)=2:=rfl
theorem rd_c3:((3:Nat):Int)=3:=rfl
theorem rd_c4:((4:Nat):Int)=4:=rfl
theorem rd_c5:((5:Nat):Int)=5:=rfl
theorem rd_c6:((6:Nat):Int)=6:=rfl
def Ze{p:Addr}{k:Int}{j:Nat}{R:Hp->Prop}(h:H p=some (.lst xs))(e:ixN xs.length k=some j)(q:R (upd H p (.lst (xs.set j v)))):ziQ (.ref p) (.int k) v H R:=⟨p,xs,k,j,rfl,rfl,h,e,q⟩
def XA{n:Nat}{k:Int}(h0:0<=k)(h1:k<n):ixN n k=some k.toNat:=by unfold ixN;rw[ao h0,ao h1]
theorem cx_K{K:A0}{outer:List Env}{H:Hp}:(Jv CX P w K mg base N qual scope f cd A outer s H E).K=K:=rfl
theorem cx_mg{K:A0}{outer:List Env}{H:Hp}:(Jv CX P w K mg base N qual scope f cd A outer s H E).mg=mg:=rfl
theorem cx_prog{K:A0}{outer:List Env}{H:Hp}:(Jv CX P w K mg base N qual scope f cd A outer s H E).prog=P:=rfl
theorem cx_w{K:A0}{outer:List Env}{H:Hp}:(Jv CX P w K mg base N qual scope f cd A outer s H E).w=w:=rfl
theorem cx_base{K:A0}{outer:List Env}{H:Hp}:(Jv CX P w K mg base N qual scope f cd A outer s H E).base=base:=rfl
def rd_cpow{n:Int}:zk1 10 n↔0<=n/\n<=1000000:=⟨λh=>⟨h.1,h.2.1⟩,λh=>⟨h.1,h.2,by decide⟩⟩
def rd_isiI:zeI K [.int i,.ty "int"] H Q↔Q (.bl true) H:=by
 refine⟨λh=>?_,λq=>⟨_,_,_,_,rfl,.old (.int i),.inl ⟨_,rfl,Q9⟩,q⟩⟩;let⟨x,c,t,b,e,ty,k,q⟩:=h;cases e;rcases k with⟨u,hu,k⟩|⟨_,_,_,e,_⟩
 .cases hu;cases ty with|old ty=>cases ty;rw[Q9]at k;cases k;exact q
 .cases e
def rd_isiIB:zeI K [.int i,.ty "bool"] H Q↔Q (.bl false) H:=by
 refine⟨λh=>?_,λq=>⟨_,_,_,_,rfl,.old (.int i),.inl ⟨_,rfl,Ql⟩,q⟩⟩;let⟨x,c,t,b,e,ty,k,q⟩:=h;cases e;rcases k with⟨u,hu,k⟩|⟨_,_,_,e,_⟩
 .cases hu;cases ty with|old ty=>cases ty;rw[Ql]at k;cases k;exact q
 .cases e
def rd_isiB{i:Bool}:zeI K [.bl i,.ty "bool"] H Q↔Q (.bl true) H:=by
 refine⟨λh=>?_,λq=>⟨_,_,_,_,rfl,.old (.bl i),.inl ⟨_,rfl,Zu⟩,q⟩⟩;let⟨x,c,t,b,e,ty,k,q⟩:=h;cases e;rcases k with⟨u,hu,k⟩|⟨_,_,_,e,_⟩
 .cases hu;cases ty with|old ty=>cases ty;rw[Zu]at k;cases k;exact q
 .cases e
def rd_isiS{i:Str}:zeI K [.str i,.ty "str"] H Q↔Q (.bl true) H:=by
 refine⟨λh=>?_,λq=>⟨_,_,_,_,rfl,.old (.str i),.inl ⟨_,rfl,Q8⟩,q⟩⟩;let⟨x,c,t,b,e,ty,k,q⟩:=h;cases e;rcases k with⟨u,hu,k⟩|⟨_,_,_,e,_⟩
 .cases hu;cases ty with|old ty=>cases ty;rw[Q8]at k;cases k;exact q
 .cases e
def zid{a:Addr}(h:H a=some (.tup xs))(q:Q (.bl true) H):zeI K [.ref a,.ty "tuple"] H Q:=⟨_,_,_,_,rfl,.old (.tup h),.inl ⟨_,rfl,zbH⟩,q⟩
def jW{a b:Addr}{xs ys:Ap}(h1:SqL K H a xs)(h2:SqL K H b ys)(hl:xs.length+ys.length<=sizeLine)(q:∀p,H p=none->Q (.ref p) (upd H p (.lst (xs++ys)))):za9 K (.ref a) (.ref b) H Q :=
 show zf8 K _ _ H Q from⟨a,b,xs,ys,rfl,rfl,h1,h2,hl,q⟩
def jx{n:Nat}(h:n<=1000):n<=sizeLine:=b8 (zn h)
def qM{a:Addr}{DN:St->Hp->Prop}{B:(St->Hp->Prop)->V->St->Hp->Prop}(Pv:Nat->St->Hp->Prop)(h0:Pv 0 σ H)(hl:∀i σ H,i<=xs.length->Pv i σ H->SqL K H a xs)(hs:∀i x σ H,xs[i]?=some x->Pv i σ H->B (Pv (i+1)) x σ H)(hd:∀σ H,Pv xs.length σ H->DN σ H) :
  ∃W:Nat->Nat->St->Hp->Prop,(∃m,W 0 m σ H)/\∀i m σ H,W i m σ H ->
   ((Itl K a).stop i H/\DN σ H)\/((Itl K a).go i H/\∃N:St->Hp->Prop,(∀σ' H',N σ' H'->∃m',m'<m/\W (i+1) m' σ' H')/\∀x H',(Itl K a).yld i H x H'->B N x σ H'):=by
 refine⟨λi m σ H=>m=xs.length-i/\i<=xs.length/\Pv i σ H,⟨xs.length,by simp,bz _,h0⟩,?_⟩;rintro i m σ H ⟨rfl,hi,p⟩;have q:=hl i σ H hi p;by_cases hlt:i<xs.length
 .refine .inr ⟨⟨xs,xs[i],q,by simp[hlt]⟩,Pv (i+1),λσ' H' p'=>⟨xs.length-(i+1),by lia,rfl,hlt,p'⟩,λx H' y=>?_⟩;let⟨e,y⟩:=y;subst e;exact hs i x σ _ (y xs q) p
 .have e:i=xs.length:=by lia
  subst e;exact .inl ⟨⟨xs,q,au _⟩,hd σ H p⟩
def va{lo:Int}{n:Nat}{DN:St->Hp->Prop}{B:(St->Hp->Prop)->V->St->Hp->Prop}(Pv:Nat->St->Hp->Prop)(h0:Pv 0 σ H)(hs:∀i σ H,i<n->Pv i σ H->B (Pv (i+1)) (.int (lo+i)) σ H)(hd:∀σ H,Pv n σ H->DN σ H) :
  ∃W:Nat->Nat->St->Hp->Prop,(∃m,W 0 m σ H)/\∀i m σ H,W i m σ H ->
   ((Itr lo n).stop i H/\DN σ H)\/((Itr lo n).go i H/\∃N:St->Hp->Prop,(∀σ' H',N σ' H'->∃m',m'<m/\W (i+1) m' σ' H')/\∀x H',(Itr lo n).yld i H x H'->B N x σ H'):=by
 refine⟨λi m σ H=>m=n-i/\i<=n/\Pv i σ H,⟨n,by simp,bz _,h0⟩,?_⟩;rintro i m σ H ⟨rfl,hi,p⟩;by_cases hlt:i<n
 .refine .inr ⟨hlt,Pv (i+1),λσ' H' p'=>⟨n-(i+1),by lia,rfl,hlt,p'⟩,λx H' y=>?_⟩;let⟨e,y⟩:=y;subst e y;exact hs i σ _ hlt p
 .have e:i=n:=by lia
  subst e;exact .inl ⟨au _,hd σ H p⟩
def xZ{a:Addr}{lo hi:A9}(h:SqL K H a xs)(q:∀p,H p=none->Q (.ref p) (upd H p (.lst (vm xs lo hi)))):zji K (.ref a) lo hi H Q:=⟨a,xs,rfl,h,q⟩
def upd_keep{a b:Addr}{o u:HO}(h:H b=some u)(ha:H a=none):upd H a o b=some u:=by rw[pE (pF h ha)];exact h
def pG:=@upd_keep
def zf{a:Addr}{o:HO}(ha:H a=none):Same H (upd H a o):=λ_ _ h=>pG h ha
def rd_ixT{a:Addr}(h:H a=some (.tup xs))(e:atI xs i=some v)(q:Q v H):rIx K (.ref a) (.int i) H Q:=.inr (.inl ⟨a,xs,i,v,rfl,rfl,SqT.of h,e,q⟩)
def pH:=@rd_ixT
def zq{a:Addr}(h:SqL K H a xs)(e:atI xs i=some v)(q:Q v H):rIx K (.ref a) (.int i) H Q:=.inl ⟨a,xs,i,v,rfl,rfl,h,e,q⟩
def zkv{N0:St->Hp->Prop}{B:(St->Hp->Prop)->Prop}(h:B N0):∃N:St->Hp->Prop,(∀σ' H',N σ' H'->N0 σ' H')/\B N:=⟨N0,λ_ _ h=>h,h⟩
end
end L2
set_option hygiene false
local macro_rules | `(tactic| walk_at "v")=>`(tactic| exact ⟨rfl,by first|exact Or.inl rfl|exact Or.inr (Or.inl rfl)|exact Or.inr (Or.inr rfl),by decide,by decide⟩)
local macro_rules | `(tactic| walk_at "e") => do
 let f:=fun (s:String)=>Lean.mkIdent (if s.front == '.' then "L2"++s else s).toName
 let a ← (".start .tDNewT .sDPut .tDIn .tDGet .tSIn .tSGet .sSPut .tSNew .tB .rd_mc .rd_mn List.length_cons List.length_nil List.cons_append List.nil_append .tSeq .tAsg .gName .tC .tOp .tUn .tTest .tIfS .tRet .tNext .tDrop .tNot .tAnd .tOr .tAndV .tCons .tNil .tTup .tLst .tBi .tBl .tVar ↓.rd_vq .rd_vq ↓.rd_iq .rd_iq ↓.rd_bq .rd_bq ↓.rd_nq .rd_nq ↓.rd_lq .rd_lq ↓.rd_itT .rd_itT ↓.rd_itF .rd_itF ↓.rd_is0 .rd_is0 ↓.rd_is1 .rd_is1 ↓.rd_is2 .rd_is2 ↓.rd_in0 .rd_in0 ↓.rd_in1 .rd_in1 ↓.rd_in2 .rd_in2 .rI .rI0 .rU .rT .ipI .tTru .rd_trB .rd_trI .rd_trR .rd_trS .tAug .rd_addI .rd_addS .rd_eqI .rd_neI .rd_eqS .rd_eqB .rd_eTI .rd_eTS .rd_eTB .rd_eTR .rd_nTI .rd_nTR .rd_nTS .rd_nTB .rd_fvI .rd_strS .rd_sz0 .rd_sz1 .rd_sz2 .rd_sz3 .rd_sz4 .rd_sz5 .rd_sz6 .rd_sz7 .gSub .tBreak .rd_sz8 .rd_sz9 .cx_K .cx_mg .cx_prog .cx_w .cx_base .gTup .gCons .gNil .tCl .tGl .tChain .tRaise .tTry2 .tNever .sFld .tFld .tMk .tMth .tBM .tSl .tNoPart .tPart .tClN .tMkN .tMthN .tBase .tYes .tRg1 .tIf .cxC_K .cxC_mg .cxC_prog .cxC_w .cxC_base eq_self reduceCtorEq decide_false Option.getD_some Option.getD_none List.getElem?_cons_zero List.getElem?_cons_succ List.set_cons_zero List.set_cons_succ List.replicate Nat.reduceSub Nat.reduceAdd true_and and_true .rd_cpow Int.reduceToNat Int.reducePow Int.reduceLT Int.reduceLE Int.reduceNeg .fdiv_pos .rd_isiI .rd_isiIB .rd_isiB .rd_isiS Bool.not_true Bool.not_false Bool.false_eq_true reduceIte decide_true decide_eq_true_eq Bool.true_eq_false Bool.not_eq_true' decide_eq_false_iff_not .rd_c0 .rd_c1 .rd_c2 .rd_c3 .rd_c4 .rd_c5 .rd_c6 Int.reduceEq not_true_eq_false not_false_eq_true Int.reduceMul Int.reduceAdd Int.reduceSub".splitOn " ").toArray.mapM fun s=>if s.front == '↓' then `(Lean.Parser.Tactic.simpLemma| ↓$(f (s.drop 1).toString):term) else `(Lean.Parser.Tactic.simpLemma| $(f s):term)
 `(tactic| (simp only [$a,*]))
local macro_rules | `(tactic| walk_at "r")=>`(tactic| try walk_at "e")
local macro_rules | `(tactic| walk_at "l")=>`(tactic| (refine L2.rd_ixT (by assumption) rfl ?_;try walk_at "e"))
local macro_rules | `(tactic| walk_at "g")=>`(tactic| first|assumption|exact L2.mul_okR (by decide) (by decide)|exact L2.mul_okL (by decide) (by decide)|exact L2.mul_okR (by lia) (by lia)|exact L2.mul_okL (by lia) (by lia)|exact L2.fd_ok (by decide) (by decide +kernel)|decide|lia|exact L2.fd_small (by lia) (by lia))
local macro_rules | `(tactic| walk_at "m")=>`(tactic| repeat (refine And.intro (by walk_at "g") ?_))
local macro_rules | `(tactic| walk_at "c")=>`(tactic| (walk_at "a";(try simp only [L2.tFor,L2.iSeq,L2.iRng1,L2.iRng3,L2.iStr,L2.iEnum,L2.iZip]);try walk_at "e"))
local macro_rules | `(tactic| walk_at "d")=>`(tactic| (walk_at "a";(try simp only [L2.tLc,L2.iSeq,L2.stC,L2.iRng1,L2.iRng3,L2.iStr,L2.iEnum,L2.iZip]);try walk_at "e"))
local macro_rules | `(tactic| walk_at "a")=>`(tactic| repeat (first|walk_at "e" | refine And.intro (by assumption) ?_|refine L2.nxt λ Nq_ hNq_=>?_|refine L2.useN (by assumption) ?_))
local macro_rules | `(tactic| walk_at "h")=>`(tactic| first|assumption|exact bb (by assumption)|exact L2.ne_of_none (by assumption) (by assumption)|exact bb (L2.ne_of_none (by assumption) (by assumption)))
local macro_rules | `(tactic| walk_at "f")=>`(tactic| first|assumption|exact L2.upd_same|(refine L2.upd_keep ?_ (by assumption);walk_at "f")|(rw [L2.upd_ne (by walk_at "h")];walk_at "f"))
set_option hygiene false
local macro_rules | `(tactic| walk_at "i")=>`(tactic| (intro vs H Q E h;first|(cases h;subst_vars;rfl)|repeat (first|(obtain ⟨rfl,_⟩:=h;rfl)|obtain ⟨_,h⟩:=h)))
local macro_rules | `(tactic| walk_at "j")=>`(tactic| intro cdv A outer s H vs Q EX hr h)
local macro_rules | `(tactic| walk_at "k")=>`(tactic| intro cdv A outer s H vs Q E hr h)
seal L2.PE L2.PT L2.PA L2.PS L2.PSs L2.PC L2.PG L2.PGs L2.PI L2.PO L2.PK
namespace K46
open PySem L2 Mine
local macro_rules | `(tactic| exists $t)=>`(tactic| (walk_at "a";refine $t))
local macro_rules | `(tactic| left)=>`(tactic| walk_at "a")
local macro_rules | `(tactic| right)=>`(tactic| first|decide +kernel|kernel_rfl)
local macro_rules | `(tactic| symm)=>`(tactic| decide +kernel)
local macro_rules | `(tactic| ext)=>`(tactic| (clear p6 p9;subst p8))
local macro_rules | `(‹$f $x*›)=>`((zA ⟨rfl,rfl,rfl⟩ hr (za $f $x*)))
variable{H:Hp}{bs:A1}{p:A5}{i k j side:Nat}{v:V}{n L:Int}{vs:Ap}{b:Addr}{ns:A6}{fs:Ar}{o:HO}{wd:Wd}
noncomputable def top(i:Nat):Stmt:=PySem.Challenge.pw_beltshares_k46_whole_nothing_lost_for_ev.main.body.getD i (.Pass ⟨0,0,0,0⟩)
local macro_rules | `(tactic| walk_at "b")=>`(tactic| exact ⟨rfl,rfl,rfl,by symm,rfl,by symm,by symm⟩)
noncomputable abbrev jK:Stmt:=zW (top 2) 0
def X9:FnScope ["self","turn","cells","sides","gone"] ["self","turn","cells","sides","gone"] (zg jK):=by walk_at"b"
noncomputable abbrev WE:Stmt:=top 3
def zcr:FnScope ["work","ware","kinds"] ["work","ware"] (zg WE):=by walk_at"b"
noncomputable abbrev QZ:Stmt:=top 4
def VJ:FnScope ["knot"] ["knot"] (zg QZ):=by walk_at"b"
noncomputable abbrev jV:Stmt:=top 5
def J1:FnScope ["work","cells","sides"] ["work"] (zg jV):=by walk_at"b"
noncomputable abbrev vy:Stmt:=top 6
def Jg:FnScope ["state"] ["state"] (zg vy):=by walk_at"b"
noncomputable abbrev vG:Stmt:=zW (top 17) 0
def VQ:FnScope ["self","room","pace"] ["self","room","pace"] (zg vG):=by walk_at"b"
noncomputable abbrev Z8:Stmt:=top 22
def X7:FnScope ["pace","least"] ["pace","least"] (zg Z8):=by walk_at"b"
noncomputable abbrev Z9:Stmt:=top 23
def X8:FnScope ["kind"] ["kind"] (zg Z9):=by walk_at"b"
noncomputable abbrev Z6:Stmt:=top 24
def X5:FnScope ["belts"] ["belts"] (zg Z6):=by walk_at"b"
noncomputable abbrev Zs:Stmt:=top 25
def J0:FnScope ["wanted","side","step","place"] ["wanted","side"] (zg Zs):=by walk_at"b"
noncomputable abbrev wn:Stmt:=top 26
def ZZ:FnScope ["head","free","side"] ["head","free","side"] (zg wn):=by walk_at"b"
noncomputable abbrev vD:Stmt:=zW (top 27) 0
def VP:FnScope ["self","ins","outs"] ["self","ins","outs"] (zg vD):=by walk_at"b"
noncomputable abbrev xW:Stmt:=zW (top 28) 0
def J5:FnScope ["self","out","pace","kinds","kind"] ["self","out","pace","kinds"] (zg xW):=by walk_at"b"
noncomputable abbrev wV:Stmt:=zW (top 28) 1
def Qz:FnScope ["self","heads","free","turn","side"] ["self","heads","free","turn","side"] (zg wV):=by walk_at"b"
noncomputable abbrev wU:Stmt:=zW (top 28) 2
def Qy:FnScope ["self"] ["self"] (zg wU):=by walk_at"b"
noncomputable abbrev wF:Stmt:=zW (top 29) 0
def Wb:FnScope ["self","into","pace"] ["self","into","pace"] (zg wF):=by walk_at"b"
noncomputable abbrev vF:Stmt:=zW (top 29) 1
def Jm:FnScope ["self","heads","free","turn","side"] ["self","heads","free","turn","side"] (zg vF):=by walk_at"b"
noncomputable abbrev vE:Stmt:=zW (top 29) 2
def Jl:FnScope ["self"] ["self"] (zg vE):=by walk_at"b"
noncomputable abbrev xX:Stmt:=zW (top 30) 0
def J6:FnScope ["self","into","outs"] ["self","into","outs"] (zg xX):=by walk_at"b"
noncomputable abbrev wX:Stmt:=zW (top 30) 1
def QB:FnScope ["self","heads","free","turn","side","place"] ["self","heads","free","turn","side"] (zg wX):=by walk_at"b"
noncomputable abbrev wW:Stmt:=zW (top 30) 2
def QA:FnScope ["self"] ["self"] (zg wW):=by walk_at"b"
noncomputable abbrev jA:Stmt:=zW (top 31) 0
def Zp:FnScope ["self","into","outs"] ["self","into","outs"] (zg jA):=by walk_at"b"
noncomputable abbrev jZ:Stmt:=zW (top 31) 1
def vh:FnScope ["self","heads","free","turn","side","place"] ["self","heads","free","turn","side"] (zg jZ):=by walk_at"b"
noncomputable abbrev jY:Stmt:=zW (top 31) 2
def vd:FnScope ["self"] ["self"] (zg jY):=by walk_at"b"
noncomputable abbrev wE:Stmt:=zW (top 32) 0
def Wa:FnScope ["self","into","outs","kind"] ["self","into","outs","kind"] (zg wE):=by walk_at"b"
noncomputable abbrev vB:Stmt:=zW (top 32) 1
def Jj:FnScope ["self","heads","free","turn","side","place"] ["self","heads","free","turn","side"] (zg vB):=by walk_at"b"
noncomputable abbrev xI:Stmt:=zW (top 32) 2
def ZF:FnScope ["self","kind"] ["self","kind"] (zg xI):=by walk_at"b"
noncomputable abbrev vA:Stmt:=zW (top 32) 3
def Ji:FnScope ["self"] ["self"] (zg vA):=by walk_at"b"
noncomputable abbrev xY:Stmt:=zW (top 33) 0
def J8:FnScope ["self","ins","out"] ["self","ins","out"] (zg xY):=by walk_at"b"
noncomputable abbrev j9:Stmt:=zW (top 33) 1
def QD:FnScope ["self","heads","free","turn","side","place"] ["self","heads","free","turn","side"] (zg j9):=by walk_at"b"
noncomputable abbrev wY:Stmt:=zW (top 33) 2
def QC:FnScope ["self"] ["self"] (zg wY):=by walk_at"b"
noncomputable abbrev wD:Stmt:=top 35
def zaV:FnScope ["work","state","knot","ends"] ["work","state","knot"] (zg wD):=by walk_at"b"
noncomputable abbrev Z3:Stmt:=top 36
def X1:FnScope ["state","number","from_belt","ware"] ["state","number","from_belt"] (zg Z3):=by walk_at"b"
noncomputable abbrev WF:Stmt:=top 37
def zcs:FnScope ["belts","place"] ["belts","place"] (zg WF):=by walk_at"b"
noncomputable abbrev wS:Stmt:=top 38
def Qw:FnScope ["knot","chosen"] ["knot","chosen"] (zg wS):=by walk_at"b"
noncomputable abbrev zdu:Stmt:=top 39
def zjf:FnScope ["work","state","number","knot","free","chosen","from_belt","to_belt","ware"] ["work","state","number"] (zg zdu):=by walk_at"b"
noncomputable abbrev WG:Stmt:=top 40
def zct:FnScope ["work","state","moves","number","move"] ["work","state"] (zg WG):=by walk_at"b"
noncomputable abbrev Q0:Stmt:=top 41
def VL:FnScope ["cells","place"] ["cells"] (zg Q0):=by walk_at"b"
noncomputable abbrev vv:Stmt:=top 42
def VG:FnScope ["work","state","moves","number","belt"] ["work","state"] (zg vv):=by walk_at"b"
noncomputable abbrev J9:Stmt:=top 43
def zaT:FnScope ["work","state","after"] ["work","state"] (zg J9):=by walk_at"b"
noncomputable abbrev zaX:Stmt:=top 45
def zeu:FnScope ["work","turns","state","turn"] ["work","turns"] (zg zaX):=by walk_at"b"
noncomputable abbrev ZI:Stmt:=top 47
def zaU:FnScope ["work","cells"] ["work","cells"] (zg ZI):=by walk_at"b"
noncomputable abbrev Z5:Stmt:=top 48
def X4:FnScope ["work","state","number"] ["work","state","number"] (zg Z5):=by walk_at"b"
noncomputable abbrev wB:Stmt:=top 49
def zaS:FnScope ["work","state","beat_place","kinds","places"] ["work","state"] (zg wB):=by walk_at"b"
noncomputable abbrev Z4:Stmt:=top 51
def X2:FnScope ["work","limit","state","state_by_shape","turn","shape"] ["work","limit"] (zg Z4):=by walk_at"b"
noncomputable abbrev vx:Stmt:=top 52
def VM:FnScope ["before","after","growth","old","new"] ["before","after"] (zg vx):=by walk_at"b"
noncomputable abbrev wT:Stmt:=top 54
def Qx:FnScope ["state","found","belt","cells","place","ware"] ["state"] (zg wT):=by walk_at"b"
noncomputable abbrev QY:Stmt:=top 55
def VI:FnScope ["ware","lay","before"] ["ware","lay","before"] (zg QY):=by walk_at"b"
noncomputable abbrev wC:Stmt:=top 56
def X3:FnScope ["before","after","lay","origins","cells"] ["before","after"] (zg wC):=by walk_at"b"
noncomputable abbrev ZJ:Stmt:=zW (top 57) 0
def zaW:FnScope ["self","before","after"] ["self","before","after"] (zg ZJ):=by walk_at"b"
noncomputable abbrev vC:Stmt:=zW (top 57) 1
def Jk:FnScope ["self","origin","rounds","source","given"] ["self","origin","rounds"] (zg vC):=by walk_at"b"
noncomputable abbrev wo:Stmt:=zW (top 57) 2
def Z1:FnScope ["self","first","rounds","cell","left","origin"] ["self","first","rounds"] (zg wo):=by walk_at"b"
noncomputable abbrev jL:Stmt:=zW (top 57) 3
def ZH:FnScope ["self","rounds","cells","belt","old"] ["self","rounds"] (zg jL):=by walk_at"b"
noncomputable abbrev jT:Stmt:=zW (top 57) 4
def Z2:FnScope ["self","rounds","gone","old","more"] ["self","rounds"] (zg jT):=by walk_at"b"
noncomputable abbrev xJ:Stmt:=zW (top 57) 5
def ZG:FnScope ["self","rounds","turn"] ["self","rounds"] (zg xJ):=by walk_at"b"
noncomputable abbrev VR:Stmt:=top 58
def zfV:FnScope ["work","turns","limit","ends","lap","begin","state","turn"] ["work","turns","limit"] (zg VR):=by walk_at"b"
noncomputable abbrev xU:Stmt:=top 62
def JZ:FnScope ["word"] ["word"] (zg xU):=by walk_at"b"
noncomputable abbrev Xa:Stmt:=top 64
def zev:FnScope ["one","other","part","rest","left"] ["one","other"] (zg Xa):=by walk_at"b"
noncomputable abbrev WD:Stmt:=top 65
def zcq:FnScope ["paces","number","pace"] ["paces"] (zg WD):=by walk_at"b"
noncomputable abbrev Z7:Stmt:=top 69
def X6:FnScope ["belts","knots"] ["belts","knots"] (zg Z7):=by walk_at"b"
noncomputable abbrev xH:Stmt:=top 70
def ZE:FnScope ["named","size"] ["named","size"] (zg xH):=by walk_at"b"
noncomputable abbrev jX:Stmt:=zW (top 71) 0
def VN:FnScope ["self","belts","knots","fed","taken","knot"] ["self","belts","knots"] (zg jX):=by walk_at"b"
noncomputable abbrev xV:Stmt:=zW (top 71) 3
def J3:FnScope ["self"] ["self"] (zg xV):=by walk_at"b"
noncomputable abbrev xw:Stmt:=zW (top 71) 4
def Jh:FnScope ["self"] ["self"] (zg xw):=by walk_at"b"
noncomputable abbrev vz:Stmt:=zW (top 71) 5
def VO:FnScope ["self","paces","number","pace"] ["self"] (zg vz):=by walk_at"b"
noncomputable abbrev Q1:Stmt:=top 73
def Z0:FnScope ["name","numbers","many"] ["name","numbers"] (zg Q1):=by walk_at"b"
noncomputable abbrev xG:Stmt:=top 74
def VH:FnScope ["row","words","numbers"] ["row"] (zg xG):=by walk_at"b"
noncomputable abbrev QX:Stmt:=top 75
def VF:FnScope ["text","belts","knots","place","row","part"] ["text"] (zg QX):=by walk_at"b"
noncomputable abbrev za2:Stmt:=top 77
def zeA:FnScope ["_law_cells","_law_k"] ["_law_cells","_law_k"] (zg za2):=by walk_at"b"
noncomputable abbrev za1:Stmt:=top 78
def zez:FnScope ["_law_number","_law_prime","_law_many"] ["_law_number","_law_prime","_law_many"] (zg za1):=by walk_at"b"
noncomputable abbrev VS:Stmt:=top 79
def zfW:FnScope ["_law_word","_law_numbers"] ["_law_word","_law_numbers"] (zg VS):=by walk_at"b"
noncomputable abbrev za3:Stmt:=top 80
def zeB:FnScope ["_law_number","_law_room"] ["_law_number"] (zg za3):=by walk_at"b"
noncomputable abbrev WJ:Stmt:=top 81
def zcw:FnScope ["_law_number","_law_into","_law_outs","_law_kind","_law_pick"] ["_law_number","_law_into","_law_outs","_law_kind"] (zg WJ):=by walk_at"b"
noncomputable abbrev WK:Stmt:=top 82
def zcx:FnScope ["_law_belts","_law_knots","_law_loose","_law_loop","_law_number","_law_kind","_law_at","_law_pick","_law_into","_law_outs"] ["_law_belts","_law_knots","_law_loose","_law_loop","_law_number","_law_kind"] (zg WK):=by walk_at"b"
noncomputable abbrev za0:Stmt:=top 83
def zey:FnScope ["_law_cells","_law_top","_law_lead","_law_kinds","_law_belts","_law_first","_law_loose","_law_loop","_law_knots","_law_number","_law_at","_law_cut"] ["_law_cells","_law_top"] (zg za0):=by walk_at"b"
noncomputable abbrev zdw:Stmt:=top 84
def zfY:FnScope ["_law_cells","_law_far_here","_law_cell_here"] ["_law_cells"] (zg zdw):=by walk_at"b"
noncomputable abbrev WH:Stmt:=top 85
def zcv:FnScope ["_law_work","_law_far_here","_law_limit","_law_state_here"] ["_law_work","_law_far_here","_law_limit"] (zg WH):=by walk_at"b"
noncomputable abbrev QE:Stmt:=top 86
def zcu:FnScope ["_law_row_here"] ["_law_row_here"] (zg QE):=by walk_at"b"
noncomputable abbrev zdv:Stmt:=top 87
def zfX:FnScope ["_law_work","_law_state_here","_law_belt_here","_law_k","_law_knot"] ["_law_work","_law_state_here","_law_belt_here"] (zg zdv):=by walk_at"b"
noncomputable abbrev zaZ:Stmt:=top 88
def zex:FnScope ["_law_work","_law_state_here","_law_belt_here","_law_k","_law_knot"] ["_law_work","_law_state_here","_law_belt_here"] (zg zaZ):=by walk_at"b"
noncomputable abbrev zaY:Stmt:=top 89
def zew:FnScope ["_law_work","_law_state_here","_law_ware_here"] ["_law_work","_law_state_here","_law_ware_here"] (zg zaY):=by walk_at"b"
noncomputable abbrev VT:Stmt:=top 90
def zfZ:FnScope ["_law_work","_law_state_here","_law_wares_here","_law_belt_here","_law_row_here","_law_lying","_law_rest","_law_k"] ["_law_work","_law_state_here"] (zg VT):=by walk_at"b"
noncomputable abbrev Q3:Stmt:=top 91
def zje:FnScope ["_law_script","_law_cells","_law_work","_law_limit","_law_far_here","_law_state_here"] ["_law_script"] (zg Q3):=by walk_at"b"
local macro_rules | `(tactic| walk_at "T")=>`(tactic| (have n6:=T.n6;have iV:=T.iV;have nP:=T.nP;have kS:=T.kS;have kM:=T.kM;have k9:=T.k9;have nH:=T.nH;have oJ:=T.oJ;have oK:=T.oK;have oM:=T.oM;have mQ:=T.mQ;have oN:=T.oN;have oO:=T.oO;have oP:=T.oP))
structure Ad where
 b:Addr
 c:Addr
 d:Addr
 e:Addr
 f:Addr
 g:Addr
 h:Addr
 i:Addr
 j:Addr
 k:Addr
 l:Addr
 m:Addr
 n:Addr
 o:Addr
 p:Addr
 q:Addr
 r:Addr
abbrev KOy(K:A0)(c d:Addr)(b:Bool):Prop:=kitOne K (.ref c) (.ref d)=some b
structure Txt(K:A0)(mg:A4)(a:Ad):Prop where
 nS:FA K mg "kind_of" WE ["work","ware"]
 mZ:FA K mg "no_counts" QZ ["knot"]
 mr:FA K mg "empty_state" jV ["work"]
 lW:FA K mg "copied_state" vy ["state"]
 mH:FA K mg "check_pace" Z8 ["pace","least"]
 mI:FA K mg "check_kind" Z9 ["kind"]
 mJ:FA K mg "check_ways" Z6 ["belts"]
 mt:FA K mg "first_place" Zs ["wanted","side"]
 lj:FA K mg "place_for_ware" wn ["head","free","side"]
 nI:FA K mg "heads_of" wD ["work","state","knot"]
 mK:FA K mg "taken_ware" Z3 ["state","number","from_belt"]
 nT:FA K mg "belt_at" WF ["belts","place"]
 lF:FA K mg "counted_place" wS ["knot","chosen"]
 o8:FA K mg "act" zdu ["work","state","number"]
 nU:FA K mg "act_all" WG ["work","state"]
 m4:FA K mg "move_belt" Q0 ["cells"]
 m5:FA K mg "pass_turn" vv ["work","state"]
 nJ:FA K mg "one_turn" J9 ["work","state"]
 ou:FA K mg "played" zaX ["work","turns"]
 nK:FA K mg "kinds_in" ZI ["work","cells"]
 mL:FA K mg "kind_place" Z5 ["work","state","number"]
 nN:FA K mg "shape_of" wB ["work","state"]
 mM:FA K mg "round_ends" Z4 ["work","limit"]
 m8:FA K mg "growth_of" vx ["before","after"]
 lG:FA K mg "cells_by_ware" wT ["state"]
 nh:FA K mg "origin_of" QY ["ware","lay","before"]
 mO:FA K mg "origins_of" wC ["before","after"]
 oQ:FD K mg "leapt" VR ["work","turns","limit"] [.int 200]
 mv:FA K mg "number_from" xU ["word"]
 ow:FA K mg "common" Xa ["one","other"]
 nV:FA K mg "lasting" WD ["paces"]
 mP:FA K mg "check_size" Z7 ["belts","knots"]
 kT:FA K mg "check_each_once" xH ["named","size"]
 k8:FA K mg "made_part" Q1 ["name","numbers"]
 ni:FA K mg "part_from" xG ["row"]
 nk:FA K mg "read_work" QX ["text"]
 oy:FA K mg "_law_cell" za2 ["_law_cells","_law_k"]
 oz:FA K mg "_law_some" za1 ["_law_number","_law_prime","_law_many"]
 oR:FA K mg "_law_row" VS ["_law_word","_law_numbers"]
 oA:FA K mg "_law_belt" za3 ["_law_number"]
 nW:FA K mg "_law_split" WJ ["_law_number","_law_into","_law_outs","_law_kind"]
 nX:FA K mg "_law_grown" WK ["_law_belts","_law_knots","_law_loose","_law_loop","_law_number","_law_kind"]
 oB:FA K mg "_law_text" za0 ["_law_cells","_law_top"]
 oS:FA K mg "_law_far" zdw ["_law_cells"]
 nY:FA K mg "_law_state" WH ["_law_work","_law_far_here","_law_limit"]
 nZ:FA K mg "_law_wares" QE ["_law_row_here"]
 oU:FA K mg "_law_put" zdv ["_law_work","_law_state_here","_law_belt_here"]
 oC:FA K mg "_law_took" zaZ ["_law_work","_law_state_here","_law_belt_here"]
 oE:FA K mg "_law_ware" zaY ["_law_work","_law_state_here","_law_ware_here"]
 oV:FA K mg "_law_all" VT ["_law_work","_law_state_here"]
 n6:mg "list"=none
 iV:mg "len"=none
 nP:mg "max"=none
 kS:mg "range"=none
 kM:mg "isinstance"=none
 k9:mg "enumerate"=none
 nH:mg "tuple"=none
 oJ:mg "zip"=none
 oK:mg "int"=none
 oM:mg "all"=none
 mQ:mg "sorted"=none
 oN:mg "str"=none
 oO:mg "sum"=none
 oP:mg "set"=none
 oW:mg "State"=some (.ref a.b)
 mj:mg "BadBelt"=some (.ref a.d)
 ka:mg "BadKnot"=some (.ref a.e)
 ml:mg "BadWork"=some (.ref a.f)
 mn:mg "TooLong"=some (.ref a.h)
 n9:mg "Belt"=some (.ref a.i)
 oa:mg "Knot"=some (.ref a.j)
 kD:mg "Source"=some (.ref a.k)
 lX:mg "Drain"=some (.ref a.l)
 oF:mg "Parter"=some (.ref a.m)
 mw:mg "FirstParter"=some (.ref a.n)
 oX:mg "Sieve"=some (.ref a.o)
 kF:mg "Joiner"=some (.ref a.p)
 pd:mg "Lap"=some (.ref a.q)
 o6:mg "Work"=some (.ref a.r)
 ad:Cls K a.b
 iM:NoAttr K a.b "turn"
 iK:NoAttr K a.b "cells"
 iQ:NoAttr K a.b "sides"
 iJ:NoAttr K a.b "gone"
 mR:FK K a.b "State.__init__" jK ["self","turn","cells","sides","gone"]
 i5:Cls K a.i
 kg:NoAttr K a.i "room"
 kh:NoAttr K a.i "pace"
 oh:WI K a.i
 nu:FK K a.i "Belt.__init__" vG ["self","room","pace"]
 iO:FB K mg "Knot" "__init__" "Knot.__init__" vD ["self","ins","outs"]
 iS:Cls K a.k
 i6:NoAttr K a.k "pace"
 iY:NoAttr K a.k "kinds"
 kO:NoAttr K a.k "ins"
 kj:NoAttr K a.k "outs"
 oG:WI K a.k
 my:FK K a.k "Source.__init__" xW ["self","out","pace","kinds"]
 lH:FM K a.k "choice" "Source.choice" wV ["self","heads","free","turn","side"]
 lI:FM K a.k "copied" "Source.copied" wU ["self"]
 iZ:Cls K a.l
 iW:NoAttr K a.l "pace"
 kz:NoAttr K a.l "ins"
 kP:NoAttr K a.l "outs"
 oY:WI K a.l
 mS:FK K a.l "Drain.__init__" wF ["self","into","pace"]
 lY:FM K a.l "choice" "Drain.choice" vF ["self","heads","free","turn","side"]
 lZ:FM K a.l "copied" "Drain.copied" vE ["self"]
 i8:Cls K a.m
 kq:NoAttr K a.m "ins"
 i7:NoAttr K a.m "outs"
 oH:WI K a.m
 mz:FK K a.m "Parter.__init__" xX ["self","into","outs"]
 lJ:FM K a.m "choice" "Parter.choice" wX ["self","heads","free","turn","side"]
 lK:FM K a.m "copied" "Parter.copied" wW ["self"]
 iR:Cls K a.n
 i0:NoAttr K a.n "ins"
 iX:NoAttr K a.n "outs"
 mB:WI K a.n
 kR:FK K a.n "FirstParter.__init__" jA ["self","into","outs"]
 kG:FM K a.n "choice" "FirstParter.choice" jZ ["self","heads","free","turn","side"]
 kH:FM K a.n "copied" "FirstParter.copied" jY ["self"]
 iU:Cls K a.o
 kr:NoAttr K a.o "kind"
 kA:NoAttr K a.o "ins"
 ku:NoAttr K a.o "outs"
 oZ:WI K a.o
 mT:FK K a.o "Sieve.__init__" wE ["self","into","outs","kind"]
 l5:FM K a.o "choice" "Sieve.choice" vB ["self","heads","free","turn","side"]
 kU:FM K a.o "place_for" "Sieve.place_for" xI ["self","kind"]
 l7:FM K a.o "copied" "Sieve.copied" vA ["self"]
 i9:Cls K a.p
 kb:NoAttr K a.p "ins"
 ko:NoAttr K a.p "outs"
 oI:WI K a.p
 mC:FK K a.p "Joiner.__init__" xY ["self","ins","out"]
 lM:FM K a.p "choice" "Joiner.choice" j9 ["self","heads","free","turn","side"]
 lO:FM K a.p "copied" "Joiner.copied" wY ["self"]
 iN:Cls K a.q
 iP:NoAttr K a.q "before"
 ke:NoAttr K a.q "length"
 kJ:NoAttr K a.q "origins"
 kx:NoAttr K a.q "growth"
 nQ:FK K a.q "Lap.__init__" ZJ ["self","before","after"]
 l8:FM K a.q "new_ware" "Lap.new_ware" vC ["self","origin","rounds"]
 ly:FM K a.q "ware_after" "Lap.ware_after" wo ["self","first","rounds"]
 kX:FM K a.q "cells_after" "Lap.cells_after" jL ["self","rounds"]
 lz:FM K a.q "gone_after" "Lap.gone_after" jT ["self","rounds"]
 kY:FM K a.q "state_after" "Lap.state_after" xJ ["self","rounds"]
 iL:Cls K a.r
 iT:NoAttr K a.r "belts"
 iI:NoAttr K a.r "knots"
 nA:FK K a.r "Work.__init__" jX ["self","belts","knots"]
 mD:FM K a.r "drains" "Work.drains" xV ["self"]
 l9:FM K a.r "sources" "Work.sources" xw ["self"]
 nB:FM K a.r "beat" "Work.beat" vz ["self"]
 nC:∃t,mg "MOST_ROOM"=some (.int 6 t)
 lh:∃t,mg "MOST_PACE"=some (.int 4 t)
 mU:∃t,mg "MOST_KINDS"=some (.int 6 t)
 mE:∃t,mg "FEWEST_WAYS"=some (.int 2 t)
 nF:∃t,mg "MOST_WAYS"=some (.int 4 t)
 oi:∃t,mg "FIGURES"=some (.str "0123456789" t)
 ma:∃t,mg "MOST_FIGURES"=some (.int 30 t)
 mV:∃t,mg "MOST_BELTS"=some (.int 24 t)
 mW:∃t,mg "MOST_KNOTS"=some (.int 24 t)
 oj:XC K a.d
 ki:XC K a.e
 om:XC K a.h
 mq:XC K a.f
 oo:subIn K (.ref a.d) (.type "BaseException")=some true
 oq:subIn K (.ref a.e) (.type "BaseException")=some true
 ot:subIn K (.ref a.h) (.type "BaseException")=some true
 kZ:kitCls K (.ref a.h) (.ref a.h)=some true
 lA:KOy K a.k a.p false
 lP:KOy K a.l a.p false
 lB:KOy K a.m a.p false
 kB:KOy K a.n a.p false
 lQ:KOy K a.o a.p false
 lC:KOy K a.p a.p true
 lR:KOy K a.k a.l false
 md:KOy K a.l a.l true
 lS:KOy K a.m a.l false
 kI:KOy K a.n a.l false
 me:KOy K a.o a.l false
 lT:KOy K a.p a.l false
 ky:KOy K a.k a.k true
 lU:KOy K a.l a.k false
 lD:KOy K a.m a.k false
 kC:KOy K a.n a.k false
 lV:KOy K a.o a.k false
 lE:KOy K a.p a.k false
 mX:KOy K a.i a.j false
 mf:KOy K a.k a.j true
 mF:KOy K a.l a.j true
 mh:KOy K a.m a.j true
 kK:KOy K a.n a.j true
 mG:KOy K a.o a.j true
 mi:KOy K a.p a.j true
 mY:KOy K a.i a.i true
section
variable{P:Af}{w:World}{K:A0}{mg:A4}{base:Heap}{a:Ad}{f:Addr}{fd:FuncData}
def at0{α:Type}{x:α}{xs:List α}:atI (x::xs) 0=some x:=by
 have:=zt (xs:=x::xs) (j:=0) rfl;simpa using this
noncomputable def iv(ns:A6):List V:=ns.map V.int
noncomputable def kf(l1 l2:Addr):List (Str×V):=zX "outs" (.ref l2) (zX "ins" (.ref l1) [])
def zjH{l1 l2:Addr}:(kf l1 l2).lookup ("ins":Str)=some (.ref l1):=by
 unfold kf;rw[zG,ak (by symm),zG,ao rfl]
def zia{l1 l2:Addr}:(kf l1 l2).lookup ("outs":Str)=some (.ref l2):=by
 unfold kf;rw[zG,ao rfl]
def zcV{l1 l2:Addr}:(kf l1 l2).length<1000:=by
 unfold kf;have:=xP "outs" (V.ref l2) (zX "ins" (.ref l1) []);have:=xP "ins" (V.ref l1) [];simp at *;lia
def zkL{l1 l2:Addr}{m:Str}(h1:m≠"ins")(h2:m≠"outs"):(kf l1 l2).lookup m=none:=by
 unfold kf;rw[zG,ak h2,zG,ak h1];rfl
def Own(H H':Hp)(y:Addr):Prop:=∀b o,b≠y->H b=some o->H' b=some o
def Same.own{H H':Hp}{y:Addr}(s:Same H H'):Own H H' y:=λb o _ h=>s b o h
def Own.trans{H1 H2 H3:Hp}{y:Addr}(s:Own H1 H2 y)(t:Own H2 H3 y):Own H1 H3 y:=λb o hb h=>t b o hb (s b o hb h)
def jy{y:Addr}:Own H (upd H y o) y:=λb u hb h=>by rw[pE hb];exact h
def Own.of_new{H H':Hp}{y dx:Addr}{o p:HO}(hy:H y=none)(hd:H dx=none)(s:Own (upd (upd H dx o) y p) H' y):Same H H':=λb u h =>
 s b u (pF h hy) (by rw[pE (pF h hy),pE (pF h hd)];exact h)
def zI{p b:Addr}(h:upd H p o b=none):H b=none:=by
 by_cases e:b=p
 .subst e;rw[pD]at h;cases h
 .rw[pE e]at h;exact h
def JT(K:A0):Sp:=λvs H Q _=>∃(y C dx i o:Addr)(xs ys:Ap),vs=[.ref y,.ref i,.ref o]/\H y=some (.ins C dx [])/\Cls K C/\NoAttr K C "ins"/\NoAttr K C "outs"/\SqL K H i xs/\SqL K H o ys/\i≠y/\o≠y /\
 ∀H' l1 l2,Own H H' y->H' y=some (.ins C dx (kf l1 l2))->H' l1=some (.lst xs)->H' l2=some (.lst ys)->H l1=none->H l2=none->Q .non H'
def zdr{H H':Hp}{y l:Addr}{xs:Ap}(h:SqL K H l xs)(s:Own H H' y)(hl:l≠y):SqL K H' l xs:=by
 rcases h with h|h
 .refine .inl ?_;rcases h with h|⟨ob,h⟩
  .exact .inl (s _ _ hl h)
  .exact .inr ⟨ob,s _ _ hl h⟩
 .exact .inr h
def V4(T:Txt K mg a)(F:Fun K "__init__" "Knot.__init__" vD f fd):FnOk P w K mg base (CXr P w) 1 f fd ["self","ins","outs"] (JT K):=by
 refine F.okx VP ?_ ?_
 .walk_at"i"
 walk_at"k";let⟨y,C,dx,i,o,xs,ys,rfl,hy,hC,hN1,hN2,hi,ho,hiy,hoy,k⟩:=h;walk_at"T";refine⟨_,(zi (qY (pq 0) (xL Zn wP (za (pq 1) zb)) rfl)  (zd (qY (pq 0) (xL Zn wP (za (pq 2) zb)) rfl))),?_⟩;exists⟨i,xs,rfl,.inl hi,λl1 h1=>?_⟩;left;have y1:y≠l1:=pF hy h1;refine⟨y,C,dx,[],rfl,pG hy h1,hC,hN1,by decide,?_⟩;left;have s1:Own H (upd (upd H l1 (.lst xs)) y (.ins C dx (zX "ins" (.ref l1) []))) y:=(Same.own (zf h1)).trans jy;refine⟨o,ys,rfl,.inl (zdr ho s1 hoy),λl2 h2=>?_⟩;left;have y2:y≠l2:=pF pD h2;have l12:l1≠l2:=λz=>by
  rw[<- z,pE (bb y1),pD]at h2;cases h2
 refine⟨y,C,dx,_,rfl,pG pD h2,hC,hN2,by show 1<1000;decide,?_⟩;refine k _ l1 l2 (s1.trans ((Same.own (zf h2)).trans jy)) pD ?_ ?_ h1 ?_
 .rw[pE (bb y1),pE l12,pE (bb y1),pD]
 .rw[pE (bb y2),pD]
 .rw[pE (bb y2),pE (bb l12)]at h2;exact h2
def iO(T:Txt K mg a):BCal P w K mg base "Knot" "__init__" 1 ["self","ins","outs"] [] (JT K):=T.iO.cal (V4 T)
def zaO(K:A0)(a:Ad):Sp:=λvs H Q E=>∃(l:Addr)(xs:Ap),vs=[.ref l]/\SqL K H l xs/\if 2<=xs.length/\xs.length<=4 then Q .non H else E (.ref a.e) none H
def wO(T:Txt K mg a):Cal P w K mg base "check_ways" 1 ["belts"] [] (zaO K a):=T.mJ.cal λF=>by
 refine F.okx X5 ?_ ?_
 .walk_at"i"
 walk_at"k";let⟨l,xs,rfl,hl,k⟩:=h;walk_at"T";refine⟨_,(zd (zF (jp (jv jR jR jG (zM zR zP (za (pq 0) zb)) jG))  (zd (je ⟨rfl,rfl,rfl⟩ rfl (za zS zb)))  zp)),?_⟩;left;let⟨t1,g1⟩:=T.mE;let⟨t2,g2⟩:=T.nF;have bad:¬(2<=xs.length/\xs.length<=4)->∃C,mg "BadKnot"=some (Value.ref C)/\XC K C/\E (Value.ref C) none H:=λh=>by
  rw[ak h]at k;exact⟨a.e,T.ka,T.ki,k⟩
 refine⟨.int 2,_,g1,⟨_,rfl⟩,?_⟩;exists⟨_,.inl ⟨_,hl,rfl⟩,?_⟩;walk_at"r";refine zT (λh1=>?_) (λh1=>bad (by lia));refine⟨.int 4,_,g2,⟨_,rfl⟩,?_⟩;walk_at"r";refine zT (λh2=>?_) (λh2=>bad (by lia));rw[ao (by lia)]at k;exact k
def zaQ(a:Ad):Sp:=λvs H Q E=>∃p q:Int,vs=[.int p,.int q]/\if q<=p/\p<=4 then Q .non H else E (.ref a.e) none H
def Qo(T:Txt K mg a):Cal P w K mg base "check_pace" 1 ["pace","least"] [] (zaQ a):=T.mH.cal λF=>by
 refine F.okx X7 ?_ ?_
 .walk_at"i"
 walk_at"k";let⟨p,q,rfl,k⟩:=h;walk_at"T";refine⟨_,(zd (zF (jp (jv jR jR (pq 1) (pq 0) jG))  (zd (je ⟨rfl,rfl,rfl⟩ rfl (za zS zb)))  zp)),?_⟩;left;let⟨t1,g1⟩:=T.lh;have bad:¬(q<=p/\p<=4)->∃C,mg "BadKnot"=some (Value.ref C)/\XC K C/\E (Value.ref C) none H:=λh=>by
  rw[ak h]at k;exact⟨a.e,T.ka,T.ki,k⟩
 refine zT (λh1=>?_) (λh1=>bad (by lia));refine⟨.int 4,_,g1,⟨_,rfl⟩,?_⟩;exists zT (λh2=>?_) (λh2=>bad (by lia));rw[ao (by lia)]at k;left;exact k
noncomputable abbrev z9:Int:=1000000000000000000000000000000
def zaR(a:Ad):Sp:=λvs H Q E=>∃n:Int,vs=[.int n]/\if 0<=n/\n<z9 then Q .non H else E (.ref a.e) none H
def Qp(T:Txt K mg a):Cal P w K mg base "check_kind" 1 ["kind"] [] (zaR a):=T.mI.cal λF=>by
 refine F.okx X8 ?_ ?_
 .walk_at"i"
 walk_at"k";let⟨n,rfl,k⟩:=h;walk_at"T";refine⟨_,(zd (zF (jp (jv jR zdD ze (pq 0) zgg))  (zd (je ⟨rfl,rfl,rfl⟩ rfl (za zS zb)))  zp)),?_⟩;left;have bad:¬(0<=n/\n<z9)->∃C,mg "BadKnot"=some (Value.ref C)/\XC K C/\E (Value.ref C) none H:=λh=>by
  rw[ak h]at k;exact⟨a.e,iA3 T.ka T.ki k⟩
 refine zT (λh1=>?_) (λh1=>bad (by lia));exists zT (λh2=>?_) (λh2=>bad (by unfold z9;lia));rw[ao (by unfold z9;lia)]at k;left;exact k
noncomputable def Ju(bs:Ai)(side:Nat):Nat->Nat->Option Nat
 |0,_=>none
 |n+1,k=>if bs.getD ((side+k)%bs.length) false=true then some ((side+k)%bs.length)else Ju bs side n (k+1)
noncomputable def jU(bs:Ai)(side:Nat):Option Nat:=Ju bs side bs.length 0
noncomputable def Zq:Option Nat->V
 |none=>.non
 |some n=>.int n
theorem zdV{bs:Ai}{side:Nat}(h:0<bs.length):∀{n k p:Nat},Ju bs side n k=some p->p<bs.length
 |0,_,_,e=>by simp[Ju]at e
 |n+1,k,p,e=>by
  unfold Ju at e
  split at e
  .cases e;exact cD _ h
  .exact zdV h e
def wu{bs:Ai}{side p:Nat}(e:jU bs side=some p):p<bs.length:=by
 by_cases h:0<bs.length
 .exact zdV h e
 .unfold jU at e;rw[show bs.length=0 by lia]at e;simp[Ju]at e
def VA(K:A0):Sp:=λvs H Q _=>∃(l:Addr)(bs:Ai)(side:Nat),vs=[.ref l,.int side]/\SqL K H l (bs.map V.bl)/\bs.length<=1000/\Q (Zq (jU bs side)) H
theorem Zz(T:Txt K mg a):Cal P w K mg base "first_place" 1 ["wanted","side"] [] (VA K):=T.mt.cal λF=>by
 refine F.okx J0 ?_ ?_
 .walk_at"i"
 walk_at"k";refine oE3 h λl bs side p6=>oA4 p6 λp8 hl hb k=>?_;clear p6 h;subst p8;walk_at"T";refine⟨_,(zi (qy qQ rfl (xb (za (zM zR zP (za (pq 0) zb)) zb)) (qu 2 J0.nd)  (zi (zu 3 J0.nd (zK js (zK qk (pq 1) (pq 2)) (zM zR zP (za (pq 0) zb))))  (zd (zF (qz (zo (pq 0) (pq 3)) (λ_=>rfl))  (zd (zl (pq 3)))  zp))))  (zd (zl zC))),?_⟩;walk_at"c";exists⟨_,iA4 (.inl ⟨_,hl,rfl⟩) (by lia) (by rw[ai];lia) ?_⟩;refine va (λi σ H'=>∃v2 v3,σ=[some (.ref l),some (.int side),v2,v3]/\H'=H/\Q (Zq (Ju bs side (bs.length-i) i)) H) (iE2 _ _ (iA3 rfl rfl k)) ?_ ?_
 .intro i σ H' hi p9;refine oE2 p9 λv2 v3 p6=>oA3 p6 λp8 pw k=>?_;clear p6 p9;subst p8 pw;have hi:i<bs.length:=by simpa using hi
  exists⟨_,.inl ⟨_,hl,rfl⟩,?_⟩;walk_at"r";rw[ai];refine And.intro (by lia) ?_;have e:((side:Int)+(0+(i:Int)))%(bs.length:Int)=(((side+i)%bs.length:Nat):Int):=by push_cast;rw[ck]
  rw[e];have hlt:(side+i)%bs.length<bs.length:=cD _ (by lia);refine zq hl (zt (by rw[am,ac hlt];rfl)) ?_;walk_at"r";have em:bs.length-i=(bs.length-(i+1))+1:=by lia
  rw[em,Ju]at k;have eg:bs.getD ((side+i)%bs.length) false=bs[(side+i)%bs.length]:=by simp[hlt]
  rw[eg]at k;cases hbb:bs[(side+i)%bs.length]with
  |true =>
   rw[hbb,ao rfl]at k;walk_at"r";exact k
  |false =>
   rw[hbb,ak (by decide)]at k;walk_at"r"
   first|exact⟨_,_,rfl,rfl,k⟩|exact⟨_,_,rfl,k⟩|exact k
 .intro σ H' p9;refine oE2 p9 λv2 v3 p6=>oA3 p6 λp8 pw k=>?_;clear p6 p9;subst p8 pw;walk_at"r";simpa[Ju,Zq]using k
def zci(K:A0):Sp:=λvs H Q _=>∃(v:V)(l:Addr)(bs:Ai)(side:Nat),vs=[v,.ref l,.int side]/\SqL K H l (bs.map V.bl)/\bs.length<=1000/\Q (if v=.non then .non else Zq (jU bs side)) H
def wx(T:Txt K mg a):Cal P w K mg base "place_for_ware" 2 ["head","free","side"] [] (zci K):=T.lj.cal λF=>by
 refine F.okx ZZ ?_ ?_
 .walk_at"i"
 walk_at"k";let⟨v,l,bs,side,rfl,hl,hb,k⟩:=h;walk_at"T";refine⟨_,(zd (zl (wq (zm jr (pq 0) zC (zr _)) zC ‹(pq 1) (za (pq 2) zb)›))),?_⟩;exists zT (λh=>?_) (λh=>?_)
 .rw[ao h]at k;walk_at"r";exact k
 .rw[ak h]at k;walk_at"r";exact⟨_,_,_,Zz T,l,bs,side,rfl,hl,hb,k⟩
def xi(K:A0)(C CB:Addr):Sp:=λvs H Q E=>∃(y dx o:Addr)(into:V)(ys:Ap),vs=[.ref y,into,.ref o]/\H y=some (.ins C dx [])/\SqL K H o ys/\o≠y /\
 if 2<=ys.length/\ys.length<=4 then ∀H' l1 l2,Own H H' y->H' y=some (.ins C dx (kf l1 l2))->H' l1=some (.lst [into])->H' l2=some (.lst ys)->H l1=none->H l2=none->Q .non H' else E (.ref CB) none H
def Xk(T:Txt K mg a)(F:Fun K "__init__" "Parter.__init__" xX f fd):FnOk P w K mg base (CXr P w) 2 f fd ["self","into","outs"] (xi K a.m a.e):=by
 refine F.okx J6 ?_ ?_
 .walk_at"i"
 walk_at"k";let⟨y,dx,o,into,ys,rfl,hy,ho,hoy,k⟩:=h;walk_at"T";refine⟨_,(zi (zH ‹(pq 2) zb›)  (zd (zH (Zh ⟨rfl,rfl,rfl⟩ hr (za (pq 0) (za (zO (za (pq 1) zb)) (za (pq 2) zb))))))),?_⟩;exists⟨_,_,_,wO T,o,ys,rfl,ho,zT (λhok=>?_) (λhok=>?_)⟩
 .rw[ao hok]at k;exists⟨_,_,_,iO T,λp hp=>⟨y,a.m,dx,p,o,[into],ys,rfl,pG hy hp,T.i8,T.kq,T.i7,SqL.of pD,(zf hp).seq ho,(pF hy hp).symm,hoy,λH' l1 l2 s h1 h2 h3 h4 h5=>?_⟩⟩;exact k H' l1 l2 ((Same.own (zf hp)).trans s) h1 h2 h3 (zI h4) (zI h5)
 .rw[ak hok]at k;exact k
def zbK(T:Txt K mg a):KCal P w K mg base "Parter" a.m 2 ["self","into","outs"] [] (xi K a.m a.e):=T.mz.cal T.oF (Xk T)
def Zr(T:Txt K mg a)(F:Fun K "__init__" "FirstParter.__init__" jA f fd):FnOk P w K mg base (CXr P w) 2 f fd ["self","into","outs"] (xi K a.n a.e):=by
 refine F.okx Zp ?_ ?_
 .walk_at"i"
 walk_at"k";let⟨y,dx,o,into,ys,rfl,hy,ho,hoy,k⟩:=h;walk_at"T";refine⟨_,(zi (zH ‹(pq 2) zb›)  (zd (zH (Zh ⟨rfl,rfl,rfl⟩ hr (za (pq 0) (za (zO (za (pq 1) zb)) (za (pq 2) zb))))))),?_⟩;exists⟨_,_,_,wO T,o,ys,rfl,ho,zT (λhok=>?_) (λhok=>?_)⟩
 .rw[ao hok]at k;exists⟨_,_,_,iO T,λp hp=>⟨y,a.n,dx,p,o,[into],ys,rfl,pG hy hp,T.iR,T.i0,T.iX,SqL.of pD,(zf hp).seq ho,(pF hy hp).symm,hoy,λH' l1 l2 s h1 h2 h3 h4 h5=>?_⟩⟩;exact k H' l1 l2 ((Same.own (zf hp)).trans s) h1 h2 h3 (zI h4) (zI h5)
 .rw[ak hok]at k;exact k
def Zv(T:Txt K mg a):KCal P w K mg base "FirstParter" a.n 2 ["self","into","outs"] [] (xi K a.n a.e):=T.kR.cal T.mw (Zr T)
noncomputable def vf(l1 l2:Addr)(n:Int):List (Str×V):=zX "kind" (.int n) (kf l1 l2)
def zhs{l1 l2:Addr}:(vf l1 l2 n).lookup ("kind":Str)=some (.int n):=by
 unfold vf;rw[zG,ao rfl]
def zkj{l1 l2:Addr}{m:Str}(h1:m≠"ins")(h2:m≠"outs")(h3:m≠"kind"):(vf l1 l2 n).lookup m=none:=by
 unfold vf;rw[zG,ak h3];exact zkL h1 h2
def QV(K:A0)(C CB:Addr):Sp:=λvs H Q E=>∃(y dx o:Addr)(into:V)(ys:Ap)(n:Int),vs=[.ref y,into,.ref o,.int n]/\H y=some (.ins C dx [])/\SqL K H o ys/\o≠y /\
 if ys.length=2/\0<=n/\n<z9 then ∀H' l1 l2,Own H H' y->H' y=some (.ins C dx (vf l1 l2 n))->H' l1=some (.lst [into])->H' l2=some (.lst ys)->H l1=none->H l2=none->Q .non H' else E (.ref CB) none H
def We(T:Txt K mg a)(F:Fun K "__init__" "Sieve.__init__" wE f fd):FnOk P w K mg base (CXr P w) 2 f fd ["self","into","outs","kind"] (QV K a.o a.e):=by
 refine F.okx Wa ?_ ?_
 .walk_at"i"
 walk_at"k";refine oE6 h λy dx o into ys n p6=>oA5 p6 λp8 hy ho hoy k=>?_;clear p6 h;subst p8;walk_at"T";refine⟨_,(zi (zF (zm (Q4 hr.units1) (zM zR zP (za (pq 2) zb)) ze (zr _))  (zd (je ⟨rfl,rfl,rfl⟩ rfl (za zS zb)))  zp)  (zi (zH ‹(pq 3) zb›)  (zi (zH (Zh ⟨rfl,rfl,rfl⟩ hr (za (pq 0) (za (zO (za (pq 1) zb)) (za (pq 2) zb)))))  (zd (qY (pq 0) (pq 3) rfl))))),?_⟩;exists⟨_,.inl ⟨_,ho,rfl⟩,?_⟩;exists zT (λh1=>?_) (λh1=>?_)
 .rw[ak (by lia)]at k;exact⟨a.e,iA3 T.ka T.ki k⟩
 .refine iE3 _ _ _ ⟨Qp T,⟨n,rfl,zT (λhok=>?_) (λhok=>?_)⟩⟩
  .rw[ao ⟨by lia,hok⟩]at k;exists iE3 _ _ _ ⟨iO T,λp hp=>(iE7 y a.o dx p o ([into]) ys (iA6 rfl (pG hy hp) T.iU T.kA T.ku (iA5 (SqL.of pD) ((zf hp).seq ho) ((pF hy hp).symm) hoy (λH' l1 l2 s h1 h2 h3 h4 h5=>?_))))⟩;exists iE4 y a.o dx _ (iA6 rfl h1 T.iU T.kr zcV ?_);exact k _ l1 l2 (((Same.own (zf hp)).trans s).trans jy) pD (by rw[pE (Qc h2 h1 (by intro z;cases z))];exact h2) (by rw[pE (Qc h3 h1 (by intro z;cases z))];exact h3) (zI h4) (zI h5)
  .rw[ak (λz=>hok z.2)]at k;exact k
def zdM(T:Txt K mg a):KCal P w K mg base "Sieve" a.o 2 ["self","into","outs","kind"] [] (QV K a.o a.e):=T.mT.cal T.oX (We T)
def ZY(K:A0)(C CB:Addr):Sp:=λvs H Q E=>∃(y dx o:Addr)(out:V)(ys:Ap),vs=[.ref y,.ref o,out]/\H y=some (.ins C dx [])/\SqL K H o ys/\o≠y /\
 if 2<=ys.length/\ys.length<=4 then ∀H' l1 l2,Own H H' y->H' y=some (.ins C dx (kf l1 l2))->H' l1=some (.lst ys)->H' l2=some (.lst [out])->H l1=none->H l2=none->Q .non H' else E (.ref CB) none H
def Xl(T:Txt K mg a)(F:Fun K "__init__" "Joiner.__init__" xY f fd):FnOk P w K mg base (CXr P w) 2 f fd ["self","ins","out"] (ZY K a.p a.e):=by
 refine F.okx J8 ?_ ?_
 .walk_at"i"
 walk_at"k";let⟨y,dx,o,out,ys,rfl,hy,ho,hoy,k⟩:=h;walk_at"T";refine⟨_,(zi (zH ‹(pq 1) zb›)  (zd (zH (Zh ⟨rfl,rfl,rfl⟩ hr (za (pq 0) (za (pq 1) (za (zO (za (pq 2) zb)) zb))))))),?_⟩;exists⟨_,_,_,wO T,o,ys,rfl,ho,zT (λhok=>?_) (λhok=>?_)⟩
 .rw[ao hok]at k;exists⟨_,_,_,iO T,λp hp=>⟨y,a.p,dx,o,p,ys,[out],rfl,pG hy hp,T.i9,T.kb,T.ko,(zf hp).seq ho,SqL.of pD,hoy,(pF hy hp).symm,λH' l1 l2 s h1 h2 h3 h4 h5=>?_⟩⟩;exact k H' l1 l2 ((Same.own (zf hp)).trans s) h1 h2 h3 (zI h4) (zI h5)
 .rw[ak hok]at k;exact k
def zbL(T:Txt K mg a):KCal P w K mg base "Joiner" a.p 2 ["self","ins","out"] [] (ZY K a.p a.e):=T.mC.cal T.kF (Xl T)
noncomputable def df(l1 l2:Addr)(p:Int):List (Str×V):=zX "pace" (.int p) (kf l1 l2)
def zag{l1 l2:Addr}{p:Int}:(df l1 l2 p).lookup ("pace":Str)=some (.int p):=by
 unfold df;rw[zG,ao rfl]
theorem Qa(f:Str)(v:V):∀fs:List (Str×V),(zX f v fs).length<=fs.length+1
 |[]=>by simp[zX]
 |(g,x)::r=>by
  unfold zX
  split
  .simp
  .have:=Qa f v r;simp;lia
def zib{l1 l2:Addr}:(kf l1 l2).length<=2:=by
 unfold kf;have h1:=Qa "outs" (V.ref l2) (zX "ins" (.ref l1) []);have h2:=Qa "ins" (V.ref l1) [];simp only[cO]at h2
 lia
def zjY{l1 l2:Addr}{p:Int}:(df l1 l2 p).length<1000:=by
 unfold df;have h1:=Qa "pace" (V.int p) (kf l1 l2);have h2:=zib (l1:=l1) (l2:=l2)
 lia
def QW(C CB:Addr):Sp:=λvs H Q E=>∃(y dx:Addr)(into:V)(p:Int),vs=[.ref y,into,.int p]/\H y=some (.ins C dx []) /\
 if 0<=p/\p<=4 then ∀H' l1 l2,Own H H' y->H' y=some (.ins C dx (df l1 l2 p))->H' l1=some (.lst [into])->H' l2=some (.lst [])->H l1=none->H l2=none->Q .non H' else E (.ref CB) none H
def Wf(T:Txt K mg a)(F:Fun K "__init__" "Drain.__init__" wF f fd):FnOk P w K mg base (CXr P w) 2 f fd ["self","into","pace"] (QW a.l a.e):=by
 refine F.okx Wb ?_ ?_
 .walk_at"i"
 walk_at"k";let⟨y,dx,into,p,rfl,hy,k⟩:=h;walk_at"T";refine⟨_,(zi (zH ‹(pq 2) (za ze zb)›)  (zi (zH (Zh ⟨rfl,rfl,rfl⟩ hr (za (pq 0) (za (zO (za (pq 1) zb)) (za (zO zb) zb)))))  (zd (qY (pq 0) (pq 2) rfl)))),?_⟩;exists⟨_,_,_,Qo T,p,0,rfl,zT (λhok=>?_) (λhok=>?_)⟩
 .rw[ao hok]at k;exists⟨_,_,_,iO T,λq1 hq1 q2 hq2=>?_⟩;have n12:q1≠q2:=pF pD hq2;have hy2:=pG (o:=.lst []) (pG (o:=.lst [into]) hy hq1) hq2;refine⟨y,a.l,dx,q1,q2,[into],[],rfl,hy2,T.iZ,T.kz,T.kP,SqL.of (pG pD hq2),SqL.of pD,(pF hy hq1).symm,(pF (pG hy hq1) hq2).symm,λH' l1 l2 s h1 h2 h3 h4 h5=>?_⟩;exists⟨y,a.l,dx,_,rfl,h1,T.iZ,T.iW,zcV,?_⟩;exact k _ l1 l2 (((Same.own ((zf hq1).trans (zf hq2))).trans s).trans jy) pD (by rw[pE (Qc h2 h1 (by intro z;cases z))];exact h2) (by rw[pE (Qc h3 h1 (by intro z;cases z))];exact h3) (zI (zI h4)) (zI (zI h5))
 .rw[ak hok]at k;exact k
def zdN(T:Txt K mg a):KCal P w K mg base "Drain" a.l 2 ["self","into","pace"] [] (QW a.l a.e):=T.mS.cal T.lX (Wf T)
noncomputable def sf(l1 l2:Addr)(p:Int)(l3:Addr):List (Str×V):=zX "kinds" (.ref l3) (df l1 l2 p)
def zhF{l1 l2 l3:Addr}{p:Int}:(sf l1 l2 p l3).lookup ("pace":Str)=some (.int p):=by
 unfold sf;rw[zG,ak (by symm)];exact zag
def XW(ks:A6):Prop:=∀n∈ks,0<=n/\n<z9
def ZX(K:A0)(C CB:Addr):Sp:=λvs H Q E=>∃(y dx l:Addr)(out:V)(p:Int)(ks:A6),vs=[.ref y,out,.int p,.ref l]/\H y=some (.ins C dx [])/\SqL K H l (ks.map V.int)/\l≠y /\
 ((1<=p/\p<=4/\1<=ks.length/\ks.length<=6/\XW ks->∀H' l1 l2 l3,Own H H' y->H' y=some (.ins C dx (sf l1 l2 p l3))->H' l1=some (.lst [])->H' l2=some (.lst [out])->H' l3=some (.lst (ks.map V.int))->H l1=none->H l2=none->H l3=none->Q .non H') /\
   (¬(1<=p/\p<=4/\1<=ks.length/\ks.length<=6/\XW ks)->E (.ref CB) none H))
def Xj(T:Txt K mg a)(F:Fun K "__init__" "Source.__init__" xW f fd):FnOk P w K mg base (CXr P w) 2 f fd ["self","out","pace","kinds"] (ZX K a.k a.e):=by
 refine F.okx J5 ?_ ?_
 .walk_at"i"
 walk_at"k";refine oE6 h λy dx l out p ks p6=>oA6 p6 λp8 hy hl hly kok kbad=>?_;clear p6 h;subst p8;let⟨t1,g1⟩:=T.mU;walk_at"T";refine⟨_,(zi (zH ‹(pq 2) (za ze zb)›)  (zi (zF (jp (jv jR jR ze (zM zR zP (za (pq 3) zb)) jG))  (zd (je ⟨rfl,rfl,rfl⟩ rfl (za zS zb)))  zp)  (zi (qy qQ rfl (qq (pq 3)) (qu 4 J5.nd)  (zd (zH ‹(pq 4) zb›)))  (zi (zH (Zh ⟨rfl,rfl,rfl⟩ hr (za (pq 0) (za (zO zb) (za (zO (za (pq 1) zb)) zb)))))  (zi (qY (pq 0) (pq 2) rfl)  (zd (qY (pq 0) (xL Zn wP (za (pq 3) zb)) rfl))))))),?_⟩;exists iE3 _ _ _ ⟨Qo T,⟨p,1,rfl,zT (λhp=>?_) (λhp=>kbad λz=>hp ⟨z.1,z.2.1⟩)⟩⟩;exists⟨_,.inl ⟨_,hl,rfl⟩,?_⟩;rw[ai];left;have bad:¬(1<=ks.length/\ks.length<=6)->∃C,mg "BadKnot"=some (Value.ref C)/\XC K C/\E (Value.ref C) none H:=λh=>⟨a.e,T.ka,T.ki,kbad λz=>h ⟨z.2.2.1,z.2.2.2.1⟩⟩;refine zT (λh1=>?_) (λh1=>bad (by lia));refine iE2 (.int 6) _ (iA3 g1 ⟨_,rfl⟩ ?_);exists zT (λh2=>?_) (λh2=>bad (by lia));walk_at"c";refine⟨l,rfl,.inl ⟨⟨_,hl⟩,?_⟩⟩;refine qM (K:=K) (a:=l) (xs:=ks.map V.int) (λi σ H'=>∃v4,σ=[some (.ref y),some out,some (.int p),some (.ref l),v4]/\H'=H/\XW (ks.take i)) ⟨_,iA3 rfl rfl (λ_ h=>nomatch h)⟩ (λi σ H' _ ⟨_,_,e,_⟩=>e ▸ hl) ?_ ?_
 .intro i x σ H' hi p9;refine oE1 p9 λv4 p6=>oA3 p6 λp8 pw hk=>?_;clear p6 p9;subst p8 pw;rw[am,aq]at hi;let⟨n,hn,rfl⟩:=hi;exists iE3 _ _ _ ⟨Qp T,⟨n,rfl,zT (λhok=>?_) (λhok=>kbad λz=>hok (z.2.2.2.2 n (ah hn)))⟩⟩;left;have:XW (ks.take (i+1)):=λm hm=>by
   rw[fN,hn]at hm;rcases aG.mp hm with z|z
   .exact hk m z
   .have e:m=n:=by simpa using z
    rw[e];exact hok
  first|exact⟨_,rfl,rfl,this⟩|exact⟨_,rfl,this⟩
 .intro σ H' p9;refine oE1 p9 λv4 p6=>oA3 p6 λp8 pw hk=>?_;clear p6 p9;subst p8 pw;rw[ai,aN]at hk;have kok:=kok ⟨hp.1,hp.2,by lia,by lia,hk⟩;exists iE3 _ _ _ ⟨iO T,λq1 hq1 q2 hq2=>?_⟩;have hy2:=pG (o:=.lst [out]) (pG (o:=.lst []) hy hq1) hq2;have s12:Same H' (upd (upd H' q1 (.lst [])) q2 (.lst [out])):=(zf hq1).trans (zf hq2);refine iE7 y a.k dx q1 q2 ([]) ([out]) (iA6 rfl hy2 T.iS T.kO T.kj (iA5 (SqL.of (pG pD hq2)) (SqL.of pD) ((pF hy hq1).symm) ((pF (pG hy hq1) hq2).symm) (λH2 l1 l2 s h1 h2 h3 h4 h5=>?_)));exists iE4 y a.k dx _ (iA6 rfl h1 T.iS T.i6 zcV ?_);left;have s3:Own H' (upd H2 y (.ins a.k dx (df l1 l2 p))) y:=((Same.own s12).trans s).trans jy;have h2':upd H2 y (.ins a.k dx (df l1 l2 p)) l1=some (.lst []):=by rw[pE (Qc h2 h1 (by intro z;cases z))];exact h2
  have h3':upd H2 y (.ins a.k dx (df l1 l2 p)) l2=some (.lst [out]):=by rw[pE (Qc h3 h1 (by intro z;cases z))];exact h3
  refine iE2 l _ (iA3 rfl (.inl (zdr hl s3 hly)) (λl3 hl3=>?_));left;have hy3:upd (upd H2 y (.ins a.k dx (df l1 l2 p))) l3 (.lst (ks.map V.int)) y=some (.ins a.k dx (df l1 l2 p)):=pG pD hl3;refine iE4 y a.k dx _ (iA6 rfl hy3 T.iS T.iY zjY ?_);have n1:l1≠y:=Qc h2 h1 (by intro z;cases z);have n2:l2≠y:=Qc h3 h1 (by intro z;cases z);have n3:l3≠y:=(pF (pD (H:=H2)) hl3).symm;refine kok _ l1 l2 l3 ((s3.trans (Same.own (zf hl3))).trans jy) pD ?_ ?_ ?_ (zI (zI h4)) (zI (zI h5)) ?_
  .rw[pE n1];exact pG h2' hl3
  .rw[pE n2];exact pG h3' hl3
  .rw[pE n3];exact pD
  .cases e:H' l3 with
   |none=>rfl
   |some o=>exact absurd (hl3.symm.trans (s3 l3 o n3 e)) (by intro z;cases z)
def zbJ(T:Txt K mg a):KCal P w K mg base "Source" a.k 2 ["self","out","pace","kinds"] [] (ZX K a.k a.e):=T.my.cal T.kD (Xj T)
noncomputable def bf(rm pc:Int):List (Str×V):=zX "pace" (.int pc) (zX "room" (.int rm) [])
abbrev zE(rm pc:Int):Prop:=1<=rm/\rm<=6/\1<=pc/\pc<=4
def JV(C CB:Addr):Sp:=λvs H Q E=>∃(y dx:Addr)(rm pc:Int),vs=[.ref y,.int rm,.int pc]/\H y=some (.ins C dx [])/\if zE rm pc then Q .non (upd H y (.ins C dx (bf rm pc)))else E (.ref CB) none H
def V5(T:Txt K mg a)(F:Fun K "__init__" "Belt.__init__" vG f fd):FnOk P w K mg base (CXr P w) 1 f fd ["self","room","pace"] (JV a.i a.d):=by
 refine F.okx VQ ?_ ?_
 .walk_at"i"
 walk_at"k";refine oE4 h λy dx rm pc p6=>oA3 p6 λp8 hy k=>?_;clear p6 h;subst p8;let⟨t1,g1⟩:=T.nC;let⟨t2,g2⟩:=T.lh;walk_at"T";refine⟨_,(zi (zF (jp (jv jR jR ze (pq 1) jG))  (zd (je ⟨rfl,rfl,rfl⟩ rfl (za zS zb)))  zp)  (zi (zF (jp (jv jR jR ze (pq 2) jG))  (zd (je ⟨rfl,rfl,rfl⟩ rfl (za zS zb)))  zp)  (zi (qY (pq 0) (pq 1) rfl)  (zd (qY (pq 0) (pq 2) rfl))))),?_⟩;left;have bad:¬zE rm pc->∃C,mg "BadBelt"=some (Value.ref C)/\XC K C/\E (Value.ref C) none H:=λh=>by
  rw[ak h]at k;exact⟨a.d,iA3 T.mj T.oj k⟩
 refine zT (λh1=>?_) (λh1=>bad (by unfold zE;lia));refine iE2 (.int 6) _ (iA3 g1 ⟨_,rfl⟩ ?_);exists zT (λh2=>?_) (λh2=>bad (by unfold zE;lia));exists zT (λh3=>?_) (λh3=>bad (by unfold zE;lia));refine iE2 (.int 4) _ (iA3 g2 ⟨_,rfl⟩ ?_);exists zT (λh4=>?_) (λh4=>bad (by unfold zE;lia));rw[ao (by unfold zE;lia)]at k;exists iE4 y a.i dx ([]) (iA6 rfl hy T.i5 T.kg (by decide) ?_);exists iE4 y a.i dx _ (iA6 rfl pD T.i5 T.kh (by show 1<1000;decide) ?_);rw[Zc];exact k
def zgK(T:Txt K mg a):KCal P w K mg base "Belt" a.i 1 ["self","room","pace"] [] (JV a.i a.d):=T.nu.cal T.n9 (V5 T)
def qD{y dx b C:Addr}{u:HO}(hy:H y=none)(hdx:H dx=none)(h:H b=some u):upd (upd H dx (.own y)) y (.ins C dx []) b=some u:=by
 rw[pE (pF h hy),pE (pF h hdx)];exact h
def zU{y dx b:Addr}{o p:HO}(h:upd (upd H dx o) y p b=none):H b=none:=zI (zI h)
def zw{H H':Hp}(s:Same H H')(h:H' b=none):H b=none:=by
 cases e:H b with
 |none=>rfl
 |some o=>rw[s b o e]at h;cases h
inductive Wd|source|drain|parter|first|sieve|joiner
deriving DecidableEq
noncomputable def ww(a:Ad):Wd->Addr
 | .source=>a.k
 | .drain=>a.l
 | .parter=>a.m
 | .first=>a.n
 | .sieve=>a.o
 | .joiner=>a.p
structure Row where
 wd:Wd
 ins:List Int
 outs:List Int
 pace:Int
 kinds:List Int
abbrev At:=List Row
def Row.ok(r:Row):Prop:=match r.wd with
 | .source=>r.ins=[]/\(∃o,r.outs=[o])/\1<=r.pace/\r.pace<=4/\1<=r.kinds.length/\r.kinds.length<=6/\XW r.kinds
 | .drain=>(∃i,r.ins=[i])/\r.outs=[]/\0<=r.pace/\r.pace<=4
 | .parter=>(∃i,r.ins=[i])/\2<=r.outs.length/\r.outs.length<=4
 | .first=>(∃i,r.ins=[i])/\2<=r.outs.length/\r.outs.length<=4
 | .sieve=>(∃i,r.ins=[i])/\r.outs.length=2/\∃k,r.kinds=[k]/\0<=k/\k<z9
 | .joiner=>(∃o,r.outs=[o])/\2<=r.ins.length/\r.ins.length<=4
noncomputable def zbt(r:Row):List (Str×D):=match r.wd with
 | .source=>[("pace",.int r.pace),("kinds",.ints r.kinds)]
 | .drain=>[("pace",.int r.pace)]
 | .sieve=>[("kind",.int (r.kinds.headD 0))]
 |_=>[]
noncomputable def Xy(r:Row):List (Str×D):=("ins",.ints r.ins)::("outs",.ints r.outs)::zbt r
noncomputable def Jb(a:Ad)(r:Row):D:=.ob (ww a r.wd) (Xy r)
noncomputable def Jc(a:Ad)(b:Int×Int):D:=.ob a.i [("room",.int b.1),("pace",.int b.2)]
def jg{α:Type}{f:Str}{x:α}{r:List (Str×α)}:((f,x)::r).lookup f=some x:=by simp[List.lookup]
def z7{α:Type}{f g:Str}{x:α}{r:List (Str×α)}(h:f≠g):((g,x)::r).lookup f=r.lookup f:=by
 have hb:(f == g)=false:=a9.mpr h;simp[List.lookup,hb]
def zh9(r:Row):(Xy r).lookup ("ins":Str)=some (.ints r.ins):=jg
def zgF(r:Row):(Xy r).lookup ("outs":Str)=some (.ints r.outs):=(z7 (by symm)).trans jg
def zgE{r:Row}(h:r.wd=.source\/r.wd=.drain):(Xy r).lookup ("pace":Str)=some (.int r.pace):=by
 refine(z7 (by symm)).trans ((z7 (by symm)).trans ?_);unfold zbt;rcases h with h|h<;>(rw[h];exact jg)
def zeZ{r:Row}(h:r.wd=.source):(Xy r).lookup ("kinds":Str)=some (.ints r.kinds):=by
 refine(z7 (by symm)).trans ((z7 (by symm)).trans ?_);unfold zbt;rw[h];exact(z7 (by symm)).trans jg
def zgH{r:Row}{k:Int}(h:r.wd=.sieve)(e:r.kinds=[k]):(Xy r).lookup ("kind":Str)=some (.int k):=by
 refine(z7 (by symm)).trans ((z7 (by symm)).trans ?_);unfold zbt;rw[h,e];exact jg
def zgG{r:Row}{f:Str}(h1:f≠"ins")(h2:f≠"outs")(h3:f≠"pace")(h4:f≠"kinds")(h5:f≠"kind"):(Xy r).lookup f=none:=by
 refine(z7 h1).trans ((z7 h2).trans ?_);unfold zbt
 split
 .exact(z7 h3).trans (z7 h4)
 .exact z7 h3
 .exact z7 h5
 .rfl
def KnP(a:Ad)(H:Hp)(p:A5)(v:V)(r:Row):Prop:=Rep H p v (Jb a r)
def KnP.keep{H H':Hp}{p q:A5}{r:Row}(h:KnP a H p v r)(s:∀b o,p b->H b=some o->q b/\H' b=some o):KnP a H' q v r:=Rep.keep s h
def KnP.inv{r:Row}(h:KnP a H p v r):∃y dx l1 l2 l3 fs,v=.ref y/\p y/\p l1/\p l2/\(r.wd=.source->p l3)/\H y=some (.ins (ww a r.wd) dx fs)/\fs.lookup ("ins":Str)=some (.ref l1)/\fs.lookup ("outs":Str)=some (.ref l2) /\
  fs.lookup ("copied":Str)=none/\H l1=some (.lst (iv r.ins))/\H l2=some (.lst (iv r.outs))/\(r.wd=.source->fs.lookup ("kinds":Str)=some (.ref l3)/\H l3=some (.lst (iv r.kinds)))/\((r.wd=.source\/r.wd=.drain)->fs.lookup ("pace":Str)=some (.int r.pace)):=by
 let⟨y,dx,fs,rfl,py,hy,g1,g2⟩:=Rep.ob' h;let⟨u1,e1,r1⟩:=g1 _ _ (zh9 r);let⟨l1,rfl,p1,h1⟩:=r1.ints';let⟨u2,e2,r2⟩:=g1 _ _ (zgF r);let⟨l2,rfl,p2,h2⟩:=r2.ints';have e3:=g2 ("copied":Str) (zgG (by symm) (by symm) (by symm) (by symm) (by symm));have pc:(r.wd=.source\/r.wd=.drain)->fs.lookup ("pace":Str)=some (.int r.pace):=λz=>by
  let⟨u,e,ru⟩:=g1 _ _ (zgE z);cases ru;exact e
 by_cases hs:r.wd=.source
 .obtain⟨u3,e4,r3⟩:=g1 _ _ (zeZ hs);let⟨l3,rfl,p3,h3⟩:=r3.ints';exact⟨y,dx,l1,l2,l3,fs,rfl,py,p1,p2,λ_=>p3,hy,e1,e2,e3,h1,h2,λ_=>⟨e4,h3⟩,pc⟩
 .exact⟨y,dx,l1,l2,l1,fs,rfl,py,p1,p2,λz=>absurd z hs,hy,e1,e2,e3,h1,h2,λz=>absurd z hs,pc⟩
def Xz{l1 l2:Addr}:kf l1 l2=([(("ins":Str),V.ref l1),(("outs":Str),V.ref l2)]:Ar):=by
 unfold kf;simp only[zX];rw[ak (by symm)]
def zg3{l1 l2:Addr}:df l1 l2 n=([(("ins":Str),V.ref l1),(("outs":Str),V.ref l2),(("pace":Str),V.int n)]:Ar):=by
 unfold df;rw[Xz];simp only[zX];rw[ak (by symm),ak (by symm)]
def ziN{l1 l2 l3:Addr}:sf l1 l2 n l3=([(("ins":Str),V.ref l1),(("outs":Str),V.ref l2),(("pace":Str),V.int n),(("kinds":Str),V.ref l3)]:Ar):=by
 unfold sf;rw[zg3];simp only[zX];rw[ak (by symm),ak (by symm),ak (by symm)]
def ziJ{l1 l2:Addr}:vf l1 l2 n=([(("ins":Str),V.ref l1),(("outs":Str),V.ref l2),(("kind":Str),V.int n)]:Ar):=by
 unfold vf;rw[Xz];simp only[zX];rw[ak (by symm),ak (by symm)]
def wG{l C dx:Addr}{gs:List (Str×D)}(pl:p l)(e:H l=some (.ins C dx fs))(n:fs.map (·.1)=gs.map (·.1))(r:Reps H p (fs.map (·.2)) (gs.map (·.2))):Rep H p (.ref l) (.ob C gs) :=
 .ob pl e n λi f g hf hg=>r.g i f.2 g.2 (by rw[am,hf];rfl) (by rw[am,hg];rfl)
section
variable{H:Hp}{p:A5}{z dz m1 m2 m3:Addr}{ins outs kinds:A6}{pace:Int}
def WW(q0:p z)(q1:p m1)(q2:p m2)(q3:p m3)(h0:H z=some (.ins a.k dz (sf m1 m2 pace m3)))(h1:H m1=some (.lst (iv ins)))(h2:H m2=some (.lst (iv outs)))(h3:H m3=some (.lst (iv kinds))):KnP a H p (.ref z) ⟨.source,ins,outs,pace,kinds⟩:=by
 rw[ziN]at h0;exact wG q0 h0 rfl (.cons (qr q1 h1) (.cons (qr q2 h2) (.cons .int (.cons (qr q3 h3) .nil))))
def zbG(q0:p z)(q1:p m1)(q2:p m2)(h0:H z=some (.ins a.l dz (df m1 m2 pace)))(h1:H m1=some (.lst (iv ins)))(h2:H m2=some (.lst (iv outs))):KnP a H p (.ref z) ⟨.drain,ins,outs,pace,kinds⟩:=by
 rw[zg3]at h0;exact wG q0 h0 rfl (.cons (qr q1 h1) (.cons (qr q2 h2) (.cons .int .nil)))
def zbE{k:Int}(q0:p z)(q1:p m1)(q2:p m2)(h0:H z=some (.ins a.o dz (vf m1 m2 k)))(h1:H m1=some (.lst (iv ins)))(h2:H m2=some (.lst (iv outs))):KnP a H p (.ref z) ⟨.sieve,ins,outs,pace,[k]⟩:=by
 rw[ziJ]at h0;exact wG q0 h0 rfl (.cons (qr q1 h1) (.cons (qr q2 h2) (.cons .int .nil)))
def WX(q0:p z)(q1:p m1)(q2:p m2)(h0:H z=some (.ins a.m dz (kf m1 m2)))(h1:H m1=some (.lst (iv ins)))(h2:H m2=some (.lst (iv outs))):KnP a H p (.ref z) ⟨.parter,ins,outs,pace,kinds⟩:=by
 rw[Xz]at h0;exact wG q0 h0 rfl (.cons (qr q1 h1) (.cons (qr q2 h2) .nil))
def zbF(q0:p z)(q1:p m1)(q2:p m2)(h0:H z=some (.ins a.n dz (kf m1 m2)))(h1:H m1=some (.lst (iv ins)))(h2:H m2=some (.lst (iv outs))):KnP a H p (.ref z) ⟨.first,ins,outs,pace,kinds⟩:=by
 rw[Xz]at h0;exact wG q0 h0 rfl (.cons (qr q1 h1) (.cons (qr q2 h2) .nil))
def WY(q0:p z)(q1:p m1)(q2:p m2)(h0:H z=some (.ins a.p dz (kf m1 m2)))(h1:H m1=some (.lst (iv ins)))(h2:H m2=some (.lst (iv outs))):KnP a H p (.ref z) ⟨.joiner,ins,outs,pace,kinds⟩:=by
 rw[Xz]at h0;exact wG q0 h0 rfl (.cons (qr q1 h1) (.cons (qr q2 h2) .nil))
end
def BtP(a:Ad)(H:Hp)(p:A5)(v:V)(r:Int×Int):Prop:=Rep H p v (Jc a r)
def BtP.keep{H H':Hp}{p q:A5}{r:Int×Int}(h:BtP a H p v r)(s:∀b o,p b->H b=some o->q b/\H' b=some o):BtP a H' q v r:=Rep.keep s h
def zkX{rm pc:Int}:bf rm pc=([(("room":Str),V.int rm),(("pace":Str),V.int pc)]:Ar):=by
 unfold bf;simp only[zX];rw[ak (by symm)]
def ziZ{y dx:Addr}{rm pc:Int}(q0:p y)(h0:H y=some (.ins a.i dx (bf rm pc))):BtP a H p (.ref y) (rm,pc):=by
 rw[zkX]at h0;exact wG q0 h0 rfl (.cons .int (.cons .int .nil))
def BtP.inv{r:Int×Int}(h:BtP a H p v r):∃y dx fs,v=.ref y/\p y/\H y=some (.ins a.i dx fs)/\fs.lookup ("room":Str)=some (.int r.1)/\fs.lookup ("pace":Str)=some (.int r.2):=by
 let⟨y,dx,fs,rfl,py,hy,g1,g2⟩:=Rep.ob' h;let⟨u1,e1,r1⟩:=g1 ("room":Str) _ jg;let⟨u2,e2,r2⟩:=g1 ("pace":Str) _ ((z7 (by symm)).trans jg);cases r1;cases r2;exact⟨y,dx,fs,rfl,py,hy,e1,e2⟩
structure Kns(a:Ad)(H:Hp)(p:A5)(vs:Ap)(rs:At):Prop where
 len:vs.length=rs.length
 g:∀(i:Nat) v r,vs[i]?=some v->rs[i]?=some r->KnP a H p v r
def Kns.keep{H H':Hp}{p q:A5}{rs:At}(h:Kns a H p vs rs)(s:∀b o,p b->H b=some o->q b/\H' b=some o):Kns a H' q vs rs:=⟨h.len,λi v r e1 e2=>(h.g i v r e1 e2).keep s⟩
def Kns.nil:Kns a H p [] []:=⟨rfl,λi v r h=>by simp at h⟩
def Kns.append{vs us:Ap}{rs qs:At}(h:Kns a H p vs rs)(k:Kns a H p us qs):Kns a H p (vs++us) (rs++qs):=by
 refine⟨by rw[aH,aH,h.len,k.len],λi v r e1 e2=>?_⟩;by_cases hi:i<vs.length
 .rw[aY hi]at e1;rw[aY (by rw[<- h.len];exact hi)]at e2;exact h.g i v r e1 e2
 .rw[aS (by lia)]at e1;rw[aS (by rw[<- h.len];lia),<- h.len]at e2;exact k.g _ v r e1 e2
def Kns.one{r:Row}(h:KnP a H p v r):Kns a H p [v] [r] :=
 ⟨rfl,λi u q e1 e2=>by
  have hi:=(aa.mp e1).1;have:i=0:=by simp at hi;lia
  subst this;have e1:v=u:=by simpa using e1
  have e2:r=q:=by simpa using e2
  rw[<- e1,<- e2];exact h⟩
def Kns.at{rs:At}(h:Kns a H p vs rs)(e:vs[i]?=some v):∃r,rs[i]?=some r/\KnP a H p v r:=by
 have hi:=(aa.mp e).1;have e2:rs[i]?=some (rs[i]'(by rw[<- h.len];exact hi)):=ac _;exact⟨_,e2,h.g i v _ e e2⟩
structure Bts(a:Ad)(H:Hp)(p:A5)(vs:Ap)(rs:A1):Prop where
 len:vs.length=rs.length
 g:∀(i:Nat) v r,vs[i]?=some v->rs[i]?=some r->BtP a H p v r
def Bts.keep{H H':Hp}{p q:A5}{rs:A1}(h:Bts a H p vs rs)(s:∀b o,p b->H b=some o->q b/\H' b=some o):Bts a H' q vs rs:=⟨h.len,λi v r e1 e2=>(h.g i v r e1 e2).keep s⟩
def Bts.nil:Bts a H p [] []:=⟨rfl,λi v r h=>by simp at h⟩
def Bts.push{rs:A1}{r:Int×Int}(h:Bts a H p vs rs)(k:BtP a H p v r):Bts a H p (vs++[v]) (rs++[r]):=by
 refine⟨by rw[aH,aH,h.len];rfl,λi u q e1 e2=>?_⟩;by_cases hi:i<vs.length
 .rw[aY hi]at e1;rw[aY (by rw[<- h.len];exact hi)]at e2;exact h.g i u q e1 e2
 .rw[aS (by lia)]at e1;rw[aS (by rw[<- h.len];lia),<- h.len]at e2;have hj:=(aa.mp e1).1;have:i-vs.length=0:=by simp at hj;lia
  rw[this]at e1 e2;have e1:v=u:=by simpa using e1
  have e2:r=q:=by simpa using e2
  rw[<- e1,<- e2];exact k
def Bts.at{rs:A1}(h:Bts a H p vs rs)(e:vs[i]?=some v):∃r,rs[i]?=some r/\BtP a H p v r:=by
 have hi:=(aa.mp e).1;have e2:rs[i]?=some (rs[i]'(by rw[<- h.len];exact hi)):=ac _;exact⟨_,e2,h.g i v _ e e2⟩
abbrev New(H:Hp):Addr->Prop:=λb=>H b=none
def xv(a:Ad)(wd:Wd):Sp:=λvs H Q _=>∃(y:Addr)(r:Row)(p:A5),vs=[.ref y]/\KnP a H p (.ref y) r/\r.wd=wd/\r.ok/\∀v H',Same H H'->KnP a H' (New H) v r->Q v H'
def Kns.reps{rs:At}(h:Kns a H p vs rs):Reps H p vs (rs.map (Jb a)):=⟨by rw[h.len,ai],λi v d e1 e2=>by
 rw[am,aq]at e2;let⟨r,e2,rfl⟩:=e2;exact h.g i v r e1 e2⟩
def Bts.reps{rs:A1}(h:Bts a H p vs rs):Reps H p vs (rs.map (Jc a)):=⟨by rw[h.len,ai],λi v d e1 e2=>by
 rw[am,aq]at e2;let⟨r,e2,rfl⟩:=e2;exact h.g i v r e1 e2⟩
def Kns.of{rs:At}(h:Reps H p vs (rs.map (Jb a))):Kns a H p vs rs:=⟨by rw[h.len,ai],λi v r e1 e2=>h.g i v _ e1 (by rw[am,e2];rfl)⟩
def Bts.of{rs:A1}(h:Reps H p vs (rs.map (Jc a))):Bts a H p vs rs:=⟨by rw[h.len,ai],λi v r e1 e2=>h.g i v _ e1 (by rw[am,e2];rfl)⟩
def Jn(T:Txt K mg a):MCal P w K mg base a.k "copied" 4 ["self"] [] (xv a .source):=T.lI.cal T.iS λF=>by
 refine F.okx Qy ?_ ?_
 .walk_at"i"
 walk_at"k";refine oE3 h λy p6 p p8=>oA5 p8 λpw hK hw hok k=>?_;clear p8 h;let⟨wd,ins,outs,pace,kinds⟩:=p6;subst pw;cases hw;have hK0:=hK;refine oE6 hK.inv λy' dx l1 l2 l3 fs p6=>oA9 p6 λe p0 p1 p2 p3 h0 e1 e2 p8=>oA5 p8 λe3 h1 h2 h3 h4=>?_;clear p6 p8;cases e;let⟨hk,hk'⟩:=h3 rfl;have hp:=h4 (.inl rfl);refine oA7 hok λq1 p6 q3 q4 q5 q6 q7=>?_;clear hok;let⟨ov,q2⟩:=p6;simp only at q1 q2;subst q1 q2;walk_at"T";refine⟨_,(zd (zl (qW (x:="Source") ⟨rfl,rfl,rfl⟩ hr (za (zo (zk (pq 0) rfl) ze) (za (zk (pq 0) rfl) (za (zk (pq 0) rfl) zb)))))),?_⟩;exists iE4 a.k _ _ _ ⟨(zbJ T).mono,iE5 y a.k dx fs _ (iA6 rfl h0 T.iS T.kj e2 (zq (SqL.of h2) at0 ?_))⟩;refine ra h0 T.iS T.i6 hp ?_;refine ra h0 T.iS T.iY hk ?_;intro z dz hz hdz hne;refine iE6 z dz l3 (.int ov) pace kinds (iA6 rfl pD (SqL.of (qD hz hdz hk')) (pF hk' hz) (λ_ H' m1 m2 m3 s' g1 g2 g3 g4 n1 n2 n3=>⟨rfl,?_⟩) (λhbad=>absurd (iA5 q3 q4 q5 q6 q7) hbad));exact k _ _ (Own.of_new hz hdz s') (WW (p:=New H) (ins:=[]) (outs:=[ov]) hz (zU n1) (zU n2) (zU n3) g1 g2 g3 g4)
def Xu(T:Txt K mg a):MCal P w K mg base a.l "copied" 4 ["self"] [] (xv a .drain):=T.lZ.cal T.iZ λF=>by
 refine F.okx Jl ?_ ?_
 .walk_at"i"
 walk_at"k";refine oE3 h λy p6 p p8=>oA5 p8 λpw hK hw hok k=>?_;clear p8 h;let⟨wd,ins,outs,pace,kinds⟩:=p6;subst pw;cases hw;have hK0:=hK;refine oE6 hK.inv λy' dx l1 l2 l3 fs p6=>oA9 p6 λe p0 p1 p2 p3 h0 e1 e2 p8=>oA5 p8 λe3 h1 h2 h3 h4=>?_;clear p6 p8;cases e;have hp:=h4 (.inr rfl);refine oA4 hok λp6 q2 q3 q4=>?_;clear hok;let⟨iv',q1⟩:=p6;simp only at q1 q2;subst q1 q2;walk_at"T";refine⟨_,(zd (zl (qW (x:="Drain") ⟨rfl,rfl,rfl⟩ hr (za (zo (zk (pq 0) rfl) ze) (za (zk (pq 0) rfl) zb))))),?_⟩;exists iE4 a.l _ _ _ ⟨(zdN T).mono,iE5 y a.l dx fs _ (iA6 rfl h0 T.iZ T.kz e1 (zq (SqL.of h1) at0 ?_))⟩;refine ra h0 T.iZ T.iW hp ?_;intro z dz hz hdz hne;refine iE4 z dz (.int iv') pace (iA3 rfl pD ?_);rw[ao ⟨q3,q4⟩];intro H' m1 m2 s' g1 g2 g3 n1 n2;exact⟨rfl,k _ _ (Own.of_new hz hdz s') (zbG (p:=New H) (ins:=[iv']) (outs:=[]) hz (zU n1) (zU n2) g1 g2 g3)⟩
def Jp(T:Txt K mg a):MCal P w K mg base a.m "copied" 4 ["self"] [] (xv a .parter):=T.lK.cal T.i8 λF=>by
 refine F.okx QA ?_ ?_
 .walk_at"i"
 walk_at"k";refine oE3 h λy p6 p p8=>oA5 p8 λpw hK hw hok k=>?_;clear p8 h;let⟨wd,ins,outs,pace,kinds⟩:=p6;subst pw;cases hw;have hK0:=hK;refine oE6 hK.inv λy' dx l1 l2 l3 fs p6=>oA9 p6 λe p0 p1 p2 p3 h0 e1 e2 p8=>oA5 p8 λe3 h1 h2 h3 h4=>?_;clear p6 p8;cases e;let⟨⟨iv',q1⟩,q3,q4⟩:=hok;simp only at q1 q3 q4;subst q1;walk_at"T";refine⟨_,(zd (zl (qW (x:="Parter") ⟨rfl,rfl,rfl⟩ hr (za (zo (zk (pq 0) rfl) ze) (za (zk (pq 0) rfl) zb))))),?_⟩;exists iE4 a.m _ _ _ ⟨(zbK T).mono,iE5 y a.m dx fs _ (iA6 rfl h0 T.i8 T.kq e1 (zq (SqL.of h1) at0 ?_))⟩;refine ra h0 T.i8 T.i7 e2 ?_;intro z dz hz hdz hne;refine iE5 z dz l2 (.int iv') (iv outs) (iA5 rfl pD (SqL.of (qD hz hdz h2)) (pF h2 hz) ?_);rw[ao (by rw[iv,ai];exact⟨q3,q4⟩)];intro H' m1 m2 s' g1 g2 g3 n1 n2;exact⟨rfl,k _ _ (Own.of_new hz hdz s') (WX (p:=New H) (ins:=[iv']) (outs:=outs) hz (zU n1) (zU n2) g1 g2 g3)⟩
def vP(T:Txt K mg a):MCal P w K mg base a.n "copied" 4 ["self"] [] (xv a .first):=T.kH.cal T.iR λF=>by
 refine F.okx vd ?_ ?_
 .walk_at"i"
 walk_at"k";refine oE3 h λy p6 p p8=>oA5 p8 λpw hK hw hok k=>?_;clear p8 h;let⟨wd,ins,outs,pace,kinds⟩:=p6;subst pw;cases hw;have hK0:=hK;refine oE6 hK.inv λy' dx l1 l2 l3 fs p6=>oA9 p6 λe p0 p1 p2 p3 h0 e1 e2 p8=>oA5 p8 λe3 h1 h2 h3 h4=>?_;clear p6 p8;cases e;let⟨⟨iv',q1⟩,q3,q4⟩:=hok;simp only at q1 q3 q4;subst q1;walk_at"T";refine⟨_,(zd (zl (qW (x:="FirstParter") ⟨rfl,rfl,rfl⟩ hr (za (zo (zk (pq 0) rfl) ze) (za (zk (pq 0) rfl) zb))))),?_⟩;exists iE4 a.n _ _ _ ⟨(Zv T).mono,iE5 y a.n dx fs _ (iA6 rfl h0 T.iR T.i0 e1 (zq (SqL.of h1) at0 ?_))⟩;refine ra h0 T.iR T.iX e2 ?_;intro z dz hz hdz hne;refine iE5 z dz l2 (.int iv') (iv outs) (iA5 rfl pD (SqL.of (qD hz hdz h2)) (pF h2 hz) ?_);rw[ao (by rw[iv,ai];exact⟨q3,q4⟩)];intro H' m1 m2 s' g1 g2 g3 n1 n2;exact⟨rfl,k _ _ (Own.of_new hz hdz s') (zbF (p:=New H) (ins:=[iv']) (outs:=outs) hz (zU n1) (zU n2) g1 g2 g3)⟩
def Xr(T:Txt K mg a):MCal P w K mg base a.o "copied" 4 ["self"] [] (xv a .sieve):=T.l7.cal T.iU λF=>by
 refine F.okx Ji ?_ ?_
 .walk_at"i"
 walk_at"k";refine oE3 h λy p6 p p8=>oA5 p8 λpw hK hw hok k=>?_;clear p8 h;let⟨wd,ins,outs,pace,kinds⟩:=p6;subst pw;cases hw;have hK0:=hK;refine oE6 hK.inv λy' dx l1 l2 l3 fs p6=>oA9 p6 λe p0 p1 p2 p3 h0 e1 e2 p8=>oA5 p8 λe3 h1 h2 h3 h4=>?_;clear p6 p8;cases e;refine oA3 hok λp6 q3 p8=>oE1 p8 λkk pw=>oA3 pw λq4 q5 q6=>?_;clear p8 pw hok;let⟨iv',q1⟩:=p6;simp only at q1 q3 q4;subst q1 q4;walk_at"T";refine⟨_,(zd (zl (qW (x:="Sieve") ⟨rfl,rfl,rfl⟩ hr (za (zo (zk (pq 0) rfl) ze) (za (zk (pq 0) rfl) (za (zk (pq 0) rfl) zb)))))),?_⟩;exists iE4 a.o _ _ _ ⟨(zdM T).mono,iE5 y a.o dx fs _ (iA6 rfl h0 T.iU T.kA e1 (zq (SqL.of h1) at0 ?_))⟩;refine ra h0 T.iU T.ku e2 ?_;refine zhK hK0 T.iU T.kr (zgH rfl rfl) λu ru=>?_;cases ru;intro z dz hz hdz hne;refine iE6 z dz l2 (.int iv') (iv outs) kk (iA5 rfl pD (SqL.of (qD hz hdz h2)) (pF h2 hz) ?_);rw[ao (by rw[iv,ai];exact⟨q3,q5,q6⟩)];intro H' m1 m2 s' g1 g2 g3 n1 n2;exact⟨rfl,k _ _ (Own.of_new hz hdz s') (zbE (p:=New H) (ins:=[iv']) (outs:=outs) hz (zU n1) (zU n2) g1 g2 g3)⟩
def Jr(T:Txt K mg a):MCal P w K mg base a.p "copied" 4 ["self"] [] (xv a .joiner):=T.lO.cal T.i9 λF=>by
 refine F.okx QC ?_ ?_
 .walk_at"i"
 walk_at"k";refine oE3 h λy p6 p p8=>oA5 p8 λpw hK hw hok k=>?_;clear p8 h;let⟨wd,ins,outs,pace,kinds⟩:=p6;subst pw;cases hw;have hK0:=hK;refine oE6 hK.inv λy' dx l1 l2 l3 fs p6=>oA9 p6 λe p0 p1 p2 p3 h0 e1 e2 p8=>oA5 p8 λe3 h1 h2 h3 h4=>?_;clear p6 p8;cases e;let⟨⟨ov,q1⟩,q3,q4⟩:=hok;simp only at q1 q3 q4;subst q1;walk_at"T";refine⟨_,(zd (zl (qW (x:="Joiner") ⟨rfl,rfl,rfl⟩ hr (za (zk (pq 0) rfl) (za (zo (zk (pq 0) rfl) ze) zb))))),?_⟩;exists iE4 a.p _ _ _ ⟨(zbL T).mono,iE5 y a.p dx fs _ (iA6 rfl h0 T.i9 T.kb e1 ?_)⟩;refine ra h0 T.i9 T.ko e2 (zq (SqL.of h2) at0 ?_);intro z dz hz hdz hne;refine iE5 z dz l1 (.int ov) (iv ins) (iA5 rfl pD (SqL.of (qD hz hdz h1)) (pF h1 hz) ?_);rw[ao (by rw[iv,ai];exact⟨q3,q4⟩)];intro H' m1 m2 s' g1 g2 g3 n1 n2;exact⟨rfl,k _ _ (Own.of_new hz hdz s') (WY (p:=New H) (ins:=ins) (outs:=[ov]) hz (zU n1) (zU n2) g1 g2 g3)⟩
def CT(T:Txt K mg a)(wd:Wd):Cls K (ww a wd):=by
 cases wd
 .exact T.iS
 .exact T.iZ
 .exact T.i8
 .exact T.iR
 .exact T.iU
 .exact T.i9
def NI(T:Txt K mg a)(wd:Wd):NoAttr K (ww a wd) "ins":=by
 cases wd
 .exact T.kO
 .exact T.kz
 .exact T.kq
 .exact T.i0
 .exact T.kA
 .exact T.kb
def NO(T:Txt K mg a)(wd:Wd):NoAttr K (ww a wd) "outs":=by
 cases wd
 .exact T.kj
 .exact T.kP
 .exact T.i7
 .exact T.iX
 .exact T.ku
 .exact T.ko
def WT(T:Txt K mg a)(wd:Wd):WI K (ww a wd):=by
 cases wd
 .exact T.oG
 .exact T.oY
 .exact T.oH
 .exact T.mB
 .exact T.oZ
 .exact T.oI
def zgy(T:Txt K mg a)(wd:Wd):MCal P w K mg base (ww a wd) "copied" 4 ["self"] [] (xv a wd):=by
 cases wd
 .exact Jn T
 .exact Xu T
 .exact Jp T
 .exact vP T
 .exact Xr T
 .exact Jr T
theorem WB:∀(xs ys:A6),xs.Perm ys->xs.Pairwise (·<=·)->ys.Pairwise (·<=·)->xs=ys
 |[],ys,h,_,_=>(List.nil_perm.mp h).symm
 |x::xs,[],h,_,_=>absurd h.length_eq (by simp)
 |x::xs,y::ys,h,hx,hy=>by
  have e:x=y:=by
   have h1:y∈x::xs:=h.mem_iff.mpr (by simp);have h2:x∈y::ys:=h.mem_iff.mp (by simp);rcases av.mp h1 with e|m1
   .exact e.symm
   rcases av.mp h2 with e|m2
   .exact e
   have:=(dE.mp hx).1 y m1;have:=(dE.mp hy).1 x m2
   lia
  subst e;rw[WB xs ys h.cons_inv (dE.mp hx).2 (dE.mp hy).2]
noncomputable def rgI(n:Nat):List Int:=(List.range n).map λ(i:Nat)=>(i:Int)
def zcD(n:Nat):(rgI n).Pairwise (·<=·):=by
 unfold rgI;rw[List.pairwise_map];exact List.pairwise_lt_range.imp λ{i j} h=>by lia
def zhI(n:Nat):rgL 0 n=iv (rgI n):=by
 simp[rgL,iv,rgI,e6,dP]
theorem ZD:∀ms ns:List Int,wm (iv ms) (iv ns)=decide (ms=ns)
 |[],[]=>rfl
 |[],_::_=>rfl
 |_::_,[]=>rfl
 |m::ms,n::ns=>by
  show(eqV (.int m) (.int n)&&wm (iv ms) (iv ns))=_
  rw[ZD ms ns];by_cases e:m=n
  .subst e;simp[eqV]
  .simp[eqV,e]
def Qn(ns:A6):(iv ns).all jQ=true:=cJ.mpr λx hx=>by
 let⟨n,_,rfl⟩:=aJ.mp hx
 rfl
def zhJ{Q:VK}{p q:Addr}{ms ns:A6}(h1:SqL K H p (iv ms))(h2:SqL K H q (iv ns))(k:Q (.bl (!decide (ms=ns))) H):zeH K (.ref p) (.ref q) H Q :=
 .inr (.inl ⟨p,q,iv ms,iv ns,rfl,rfl,.inl ⟨h1,h2⟩,Qn ms,Qn ns,by rw[ZD];exact k⟩)
def zaP(K:A0)(a:Ad):Sp:=λvs H Q E=>∃(bl kl:Addr)(xs ys:Ap),vs=[.ref bl,.ref kl]/\SqL K H bl xs/\SqL K H kl ys/\if (1<=xs.length/\xs.length<=24)/\1<=ys.length/\ys.length<=24 then Q .non H else E (.ref a.f) none H
def zap(T:Txt K mg a):Cal P w K mg base "check_size" 1 ["belts","knots"] [] (zaP K a):=T.mP.cal λF=>by
 refine F.okx X6 ?_ ?_
 .walk_at"i"
 walk_at"k";let⟨bl,kl,xs,ys,rfl,h1,h2,k⟩:=h;let⟨t1,g1⟩:=T.mV;let⟨t2,g2⟩:=T.mW;walk_at"T";refine⟨_,(zi (zF (jp (jv jR jR ze (zM zR zP (za (pq 0) zb)) jG))  (zd (je ⟨rfl,rfl,rfl⟩ rfl (za zS zb)))  zp)  (zd (zF (jp (jv jR jR ze (zM zR zP (za (pq 1) zb)) jG))  (zd (je ⟨rfl,rfl,rfl⟩ rfl (za zS zb)))  zp))),?_⟩;left;have bad:¬((1<=xs.length/\xs.length<=24)/\1<=ys.length/\ys.length<=24)->∃C,mg "BadWork"=some (Value.ref C)/\XC K C/\E (Value.ref C) none H:=λh=>by
  rw[ak h]at k;exact⟨a.f,T.ml,T.mq,k⟩
 refine⟨_,.inl ⟨_,h1,rfl⟩,?_⟩;exists zT (λb1=>?_) (λb1=>bad (by lia));refine⟨.int 24,_,g1,⟨_,rfl⟩,?_⟩;exists zT (λb2=>?_) (λb2=>bad (by lia));exists⟨_,.inl ⟨_,h2,rfl⟩,?_⟩;exists zT (λb3=>?_) (λb3=>bad (by lia));refine⟨.int 24,_,g2,⟨_,rfl⟩,?_⟩;exists zT (λb4=>?_) (λb4=>bad (by lia));rw[ao (by lia)]at k;left;exact k
def zcl(K:A0)(a:Ad):Sp:=λvs H Q E=>∃(l:Addr)(ns:A6)(n:Nat),vs=[.ref l,.int n]/\SqL K H l (iv ns)/\ns.length<64/\n<=1000/\(ns.Perm (rgI n)->∀H',Same H H'->Q .non H')/\(¬ns.Perm (rgI n)->∀H',Same H H'->E (.ref a.f) none H')
def xR(T:Txt K mg a):Cal P w K mg base "check_each_once" 1 ["named","size"] [] (zcl K a):=T.kT.cal λF=>by
 refine F.okx ZE ?_ ?_
 .walk_at"i"
 walk_at"k";let⟨l,ns,n,rfl,hl,h64,hn,kok,kbad⟩:=h;walk_at"T";refine⟨_,(zd (zF (zm (Q4 hr.units1) (zM zfs zfr (za (pq 0) zb)) (xL (zhf rfl) wP (za (zjp (za (pq 1) zb)) zb)) (zr _))  (zd (je ⟨rfl,rfl,rfl⟩ rfl (za zS zb)))  zp)),?_⟩;exists⟨l,ns,rfl,hl,h64,λms q1 hp hs hq1=>?_⟩;left;intro q2 hq2;refine⟨q2,0,n,rfl,pD,⟨by lia,by lia,by lia,by lia,by lia⟩,λq3 hq3=>?_⟩;rw[show((n:Int)-0).toNat=n by lia,zhI];left;have sm:Same H (upd (upd (upd H q1 (.lst (iv ms))) q2 (.rng 0 n)) q3 (.lst (iv (rgI n)))):=(zf hq1).trans ((zf hq2).trans (zf hq3));refine zhJ (ms:=ms) (ns:=rgI n) (SqL.of (pG (pG pD hq2) hq3)) (SqL.of pD) ?_;exists zT (λb1=>?_) (λb1=>?_)
 .refine⟨a.f,T.ml,T.mq,kbad (λz=>b1 (WB _ _ (hp.trans z) hs (zcD n))) _ sm⟩
 .exists kok ?_ _ sm;have e:ms=rgI n:=ie b1;rw[<- e];exact hp.symm
noncomputable def xh(rs:At):List Int:=rs.flatMap Row.outs
noncomputable def qN(rs:At):List Int:=rs.flatMap Row.ins
noncomputable def wf(l1 l2:Addr):List (Str×V):=zX "knots" (.ref l2) (zX "belts" (.ref l1) [])
def zN(bs:A1)(rs:At):Prop:=((1<=bs.length/\bs.length<=24)/\1<=rs.length/\rs.length<=24)/\(xh rs).Perm (rgI bs.length)/\(qN rs).Perm (rgI bs.length)
def JQ(K:A0)(a:Ad):Sp:=λvs H Q E=>∃(y dx bl kl:Addr)(bvs ph:Ap)(bs:A1)(rs:At)(p:A5),vs=[.ref y,.ref bl,.ref kl]/\H y=some (.ins a.r dx [])/\bl≠y/\kl≠y/\(∀b,p b->b≠y) /\
 H bl=some (.lst bvs)/\H kl=some (.lst ph)/\Bts a H p bvs bs/\Kns a H p ph rs/\(∀b∈bs,zE b.1 b.2)/\(∀r∈rs,r.ok)/\(xh rs).length<64/\(qN rs).length<64/\bs.length<=1000 /\
 (zN bs rs->∀H' l1 l2 bvs' kvs',Own H H' y->H' y=some (.ins a.r dx (wf l1 l2))->H' l1=some (.lst bvs')->H' l2=some (.lst kvs')->Bts a H' (New H) bvs' bs->Kns a H' (New H) kvs' rs->H l1=none->H l2=none->Q .non H') /\
 (¬zN bs rs->∀H',Same H H'->E (.ref a.f) none H')
def zc9{rs:At}{r:Row}(h:rs[i]?=some r):xh (rs.take (i+1))=xh (rs.take i)++r.outs:=by
 unfold xh;rw[aI,h,gQ];simp
def Vw{rs:At}{r:Row}(h:rs[i]?=some r):qN (rs.take (i+1))=qN (rs.take i)++r.ins:=by
 unfold qN;rw[aI,h,gQ];simp
def xk(f:Row->List Int)(rs:At)(i:Nat):((rs.take i).flatMap f).length<=(rs.flatMap f).length:=by
 conv=>rhs;rw[<- gY i rs,gQ,aH]
 lia
def zcW(xs ys:A6):iv xs++iv ys=iv (xs++ys):=by rw[iv,iv,iv,ba]
def V3(T:Txt K mg a)(F:Fun K "__init__" "Work.__init__" jX f fd):FnOk P w K mg base (CXr P w) 5 f fd ["self","belts","knots"] (JQ K a):=by
 refine F.okx VN ?_ ?_
 .walk_at"i"
 walk_at"k";refine oE5 h λy dx bl kl bvs p6=>oE4 p6 λph bs rs p p8=>oA9 p8 λpw hy nby nky hpy hb hk hB pA=>oA8 pA λhKs hbo hro h64 h64' hlb kok kbad=>?_;clear p6 p8 pA h;subst pw;walk_at"T";refine⟨_,(zh (zH ‹(pq 1) (za (pq 2) zb)›)  (zh (zu 3 VN.nd (zO zb))  (zh (zu 4 VN.nd (zO zb))  (zh (qy qQ rfl (qq (pq 2)) (qu 5 VN.nd)  (zh (zH (qA ar fX fW WO (pq 3) (za (zk (pq 5) rfl) zb)))  (zd (zH (qA ar fX fW WO (pq 4) (za (zk (pq 5) rfl) zb))))))  (zh (zH ‹(pq 3) (za (zM zR zP (za (pq 1) zb)) zb)›)  (zh (zH ‹(pq 4) (za (zM zR zP (za (pq 1) zb)) zb)›)  (zh (qY (pq 0) (jF (vars:=["belt"]) (caps:=[]) (N:=["belt"]) (ON:=["self","belts","knots","fed","taken","knot"]) (osc:=zg jX) rfl rfl (by right) rfl rfl (qq (pq 1)) (λ_ _ _ _=>(qu 0 (show(["belt"]:A8).Nodup from by symm))) (λ_ _ _ _=>qm) (λ_ _ _ _=>(zjq (x:="Belt") hr (za (zk (pq 0) rfl) (za (zk (pq 0) rfl) zb))))) rfl)  (zd (qY (pq 0) (jF (vars:=["knot"]) (caps:=[]) (N:=["knot"]) (ON:=["self","belts","knots","fed","taken","knot"]) (osc:=zg jX) rfl rfl (by right) rfl rfl (qq (pq 2)) (λ_ _ _ _=>(qu 0 (show(["knot"]:A8).Nodup from by symm))) (λ_ _ _ _=>qm) (λ_ _ _ _=>(zgi hr (pq 0)))) rfl))))))))),?_⟩;exists uc (zap T).mono (iE4 bl kl bvs ph (iA4 rfl (SqL.of hb) (SqL.of hk) (zT (λb1=>?_) (λb1=>?_))))
 rotate_left
 .refine kbad (λz=>b1 ?_) H (Same.refl _);rw[hB.len,hKs.len];exact z.1
 rw[hB.len,hKs.len]at b1;left;intro fl hfl;left;intro tl htl;have nft:fl≠tl:=pF pD htl;have htl0:H tl=none:=zI htl;walk_at"c";left;have s2:Same H (upd (upd H fl (.lst [])) tl (.lst [])):=(zf hfl).trans (zf htl);refine⟨kl,rfl,.inl ⟨⟨_,SqL.of (s2 _ _ hk)⟩,?_⟩⟩;let px:Nat->St->Hp->Prop:=λi σ H'=>∃v5,σ=[some (.ref y),some (.ref bl),some (.ref kl),some (.ref fl),some (.ref tl),v5]/\Same H H'/\H' fl=some (.lst (iv (xh (rs.take i))))/\H' tl=some (.lst (iv (qN (rs.take i))));refine qM (K:=K) (a:=kl) (xs:=ph) px ⟨_,iA4 rfl s2 (pG pD htl) pD⟩ (λi σ H' _ ⟨_,_,s,_⟩=>SqL.of (s _ _ hk)) ?_ ?_
 .intro i x σ H' hi p9;refine oE1 p9 λv5 p6=>oA4 p6 λp8 s3 e1 e2=>?_;ext;let⟨r,hr',hKn0⟩:=hKs.at hi;refine oE6 hKn0.inv λy1 dx1 l1 l2 l3 fs p6=>oA9 p6 λp8 p0 p1 p2 p3 h0 f1 f2 pw=>oA5 pw λf3 h1 h2 h3 h4=>?_;clear p6 pw;subst p8;have L1:=xk Row.outs rs i;have L2':=xk Row.ins rs i;have L3:=xk Row.outs rs (i+1);have L4:=xk Row.ins rs (i+1);have E1:=zc9 hr';have E2:=Vw hr';have n1:∀{b:Addr}{o:HO},H b=some o->b≠fl:=λh=>pF h hfl;have n2:∀{b:Addr}{o:HO},H b=some o->b≠tl:=λh=>pF h htl0;exists⟨.inl ⟨rfl,_,SqL.of e1⟩,iE5 y1 (ww a r.wd) dx1 fs _ (iA6 rfl (s3 _ _ h0) (CT T _) (NO T _) f2 ?_)⟩;refine iE4 fl l2 _ _ (iA6 rfl rfl e1 (s3 _ _ h2) ?_ ?_)
  .refine b8 (zn ?_);have:=bn List.length E1;rw[aH]at this;rw[iv,iv,ai,ai];unfold xh at this h64 ⊢
   lia
  left;have e2':upd H' fl (.lst (iv (xh (rs.take i))++iv r.outs)) tl=some (.lst (iv (qN (rs.take i)))):=by rw[pE (bb nft)];exact e2
  refine⟨.inl ⟨rfl,_,SqL.of e2'⟩,iE5 y1 (ww a r.wd) dx1 fs _ (iA6 rfl ?_ (CT T _) (NI T _) f1 ?_)⟩
  .rw[pE (n1 h0)];exact s3 _ _ h0
  refine iE4 tl l1 _ (iv r.ins) (iA6 rfl rfl e2' ?_ ?_ ?_)
  .rw[pE (n1 h1)];exact s3 _ _ h1
  .refine b8 (zn ?_);have:=bn List.length E2;rw[aH]at this;rw[iv,iv,ai,ai];unfold qN at this h64' ⊢
   lia
  refine⟨_,iA4 rfl (λb o hb=>?_) ?_ ?_⟩
  .rw[pE (n2 hb),pE (n1 hb)];exact s3 _ _ hb
  .rw[pE nft,pD,E1,zcW]
  .rw[pD,E2,zcW]
 .intro σ H1 p9;refine oE1 p9 λv5 p6=>oA4 p6 λp8 s3 e1 e2=>?_;ext;rw[hKs.len,aN]at e1 e2;exists uc (xR T).mono ⟨iV,⟨_,⟨.inl ⟨_,SqL.of (s3 _ _ hb),rfl⟩,?_⟩⟩⟩;rw[hB.len];refine iE3 fl (xh rs) bs.length (iA6 rfl (SqL.of e1) h64 hlb (λg1 H2 s4=>?_) (λg1 H2 s4=>kbad (λz=>g1 z.2.1) _ (s3.trans s4)));exists uc (xR T).mono ⟨iV,⟨_,⟨.inl ⟨_,SqL.of (s4 _ _ (s3 _ _ hb)),rfl⟩,?_⟩⟩⟩;rw[hB.len];refine iE3 tl (qN rs) bs.length (iA6 rfl (SqL.of (s4 _ _ e2)) h64' hlb (λg2 H3 s5=>?_) (λg2 H3 s5=>kbad (λz=>g2 z.2.2) _ (s3.trans (s4.trans s5))));have kok:=kok ⟨b1,g1,g2⟩;have s6:=s3.trans (s4.trans s5);clear s3 s4 s5 e1 e2;clear g1 g2;left;walk_at"d";exists⟨bl,rfl,.inl ⟨⟨_,SqL.of (s6 _ _ hb)⟩,λ_ _ _ _ pv hacc=>?_⟩⟩;have nacc:H pv=none:=zw s6 hacc;let pB:Nat->St->Hp->Prop:=λi σ H'=>∃v us,σ=[v]/\Same H3 H'/\H' pv=some (.lst us)/\Bts a H' (λb=>H3 b=none/\b≠pv) us (bs.take i);refine qM (K:=K) (a:=bl) (xs:=bvs) pB (iE2 _ ([]) (iA4 rfl (zf hacc) pD (by rw[bW];exact .nil))) (λi σ H' _ ⟨_,_,_,s,_⟩=>SqL.of (s _ _ (s6 _ _ hb))) ?_ ?_
  .intro i x σ H' hi p9;refine oE2 p9 λv us p6=>oA4 p6 λp8 s7 e1 hU=>?_;ext;let⟨⟨rm,pc⟩,hr',hBt0⟩:=hB.at hi;refine oE3 hBt0.inv λy1 dx1 fs p6=>oA5 p6 λp8 p0 h0 f1 f2=>?_;clear p6;subst p8;have hok:=hbo _ (ah hr');have hil:i<bs.length:=(aa.mp hr').1;have h0':=s7 _ _ (s6 _ _ h0);exists iE4 a.i _ _ _ ⟨(zgK T).mono,iE5 y1 a.i dx1 fs _ (iA6 rfl h0' T.i5 T.kg f1 (iE5 y1 a.i dx1 fs _ (iA6 rfl h0' T.i5 T.kh f2 ?_)))⟩;intro z dz hz hdz hne;refine iE4 z dz rm pc (iA3 rfl pD ?_);rw[ao hok,Zc];have sN:Same H' (upd (upd H' dz (.own z)) z (.ins a.i dz (bf rm pc))):=λb o h=>by rw[pE (pF h hz),pE (pF h hdz)];exact h
   have hz':upd (upd H' dz (.own z)) z (.ins a.i dz (bf rm pc)) z=some (.ins a.i dz (bf rm pc)):=pD;generalize upd (upd H' dz (.own z)) z (.ins a.i dz (bf rm pc))=H4 at sN hz' ⊢;have hzn:z≠pv:=λq=>by rw[q,e1]at hz;cases hz
   refine⟨rfl,⟨_,iA3 (sN _ _ e1) (zn (by have:=hU.len;rw[aQ]at this;lia)) (iE2 _ (us++[.ref z]) (iA4 rfl (λb o hb=>?_) pD ?_))⟩⟩
   .rw[pE (pF hb hacc)];exact sN _ _ (s7 _ _ hb)
   .rw[aI,hr'];refine Bts.push (hU.keep λb o hp hb=>⟨hp,by rw[pE hp.2];exact sN _ _ hb⟩) (ziZ (p:=λb=>H3 b=none/\b≠pv) ⟨zw s7 hz,hzn⟩ (by rw[pE hzn];exact hz'))
  .intro σ H4 p9;refine oE2 p9 λv us p6=>oA4 p6 λp8 s7 e1 hU=>?_;ext;rw[hB.len,aN]at hU;have s8:=s6.trans s7;have nacy:pv≠y:=(pF hy nacc).symm;exists iE4 y a.r dx ([]) (iA6 rfl (s8 _ _ hy) T.iL T.iT (by decide) ?_);have o9:Own H (upd H4 y (.ins a.r dx (zX "belts" (.ref pv) []))) y:=(Same.own s8).trans jy;have hy9:upd H4 y (.ins a.r dx (zX "belts" (.ref pv) [])) y=some (.ins a.r dx (zX "belts" (.ref pv) [])):=pD;have e9:upd H4 y (.ins a.r dx (zX "belts" (.ref pv) [])) pv=some (.lst us):=by rw[pE nacy];exact e1
   have hU9:Bts a (upd H4 y (.ins a.r dx (zX "belts" (.ref pv) []))) (λb=>H b=none/\b≠y) us bs:=hU.keep λb o hp hb=>by
    have q1:H b=none:=zw s6 hp.1;have q2:b≠y:=(pF hy q1).symm;exact⟨⟨q1,q2⟩,by rw[pE q2];exact hb⟩
   generalize upd H4 y (.ins a.r dx (zX "belts" (.ref pv) []))=H5 at o9 hy9 e9 hU9 ⊢;left;walk_at"d";exists⟨kl,rfl,.inl ⟨⟨_,SqL.of (o9 _ _ nky hk)⟩,λ_ _ _ _ ac2 hac2=>?_⟩⟩;let pC:Nat->St->Hp->Prop:=λi σ H'=>∃v us2,σ=[v]/\Same H5 H'/\H' ac2=some (.lst us2)/\Kns a H' (λb=>H5 b=none/\b≠ac2) us2 (rs.take i);refine qM (K:=K) (a:=kl) (xs:=ph) pC (iE2 _ ([]) (iA4 rfl (zf hac2) pD (by rw[bW];exact .nil))) (λi σ H' _ ⟨_,_,_,s,_⟩=>SqL.of (s _ _ (o9 _ _ nky hk))) ?_ ?_
   .intro i x σ H' hi p9;refine oE2 p9 λv us2 p6=>oA4 p6 λp8 s10 e2 hV=>?_;ext;let⟨r,hr',hKn⟩:=hKs.at hi;have hok:=hro _ (ah hr');have hil:i<rs.length:=(aa.mp hr').1;have hKn':KnP a H' p x r:=hKn.keep λb o hp hb=>⟨hp,s10 _ _ (o9 _ _ (hpy b hp) hb)⟩;refine oE6 hKn'.inv λy1 dx1 l1 l2 l3 fs p6=>oA9 p6 λp8 p0 p1 p2 p3 h0 f1 f2 pw=>oA5 pw λf3 h1 h2 h3 h4=>?_;clear p6 pw;subst p8;exists iE7 y1 (ww a r.wd) dx1 fs _ _ _ (iA5 rfl h0 f3 ((zgy T r.wd).mono) ?_);refine iE3 y1 r p (iA5 rfl hKn' rfl hok (λv' H6 s11 hN=>?_));refine⟨_,iA3 (s11 _ _ e2) (zn (by have:=hV.len;rw[aQ]at this;lia)) (iE2 _ (us2++[v']) (iA4 rfl (λb o hb=>?_) pD ?_))⟩
    .rw[pE (pF hb hac2)];exact s11 _ _ (s10 _ _ hb)
    .rw[aI,hr'];refine Kns.append (hV.keep λb o hp hb=>⟨hp,by rw[pE hp.2];exact s11 _ _ hb⟩) (Kns.one (hN.keep λb o hp hb=>?_));have q2:b≠ac2:=λz=>by rw[z]at hp;rw[New,e2]at hp;cases hp
     exact⟨⟨zw s10 hp,q2⟩,by rw[pE q2];exact hb⟩
   .intro σ H6 p9;refine oE2 p9 λv us2 p6=>oA4 p6 λp8 s10 e2 hV=>?_;ext;rw[hKs.len,aN]at hV;have hy10:=s10 _ _ hy9;exists iE4 y a.r dx _ (iA6 rfl hy10 T.iL T.iI (by show 1<1000;decide) ?_);have n2y:ac2≠y:=λz=>by rw[z,hy9]at hac2;cases hac2
    have ho:∀b,H5 b=none->b≠y->H b=none:=λb h1 h2=>by
     cases e:H b with
     |none=>rfl
     |some o=>rw[o9 b o h2 e]at h1;cases h1
    refine kok _ pv ac2 us us2 ((o9.trans (Same.own s10)).trans jy) pD ?_ ?_ ?_ ?_ nacc (ho _ hac2 n2y)
    .rw[pE nacy];exact s10 _ _ e9
    .rw[pE n2y];exact e2
    .exact hU9.keep λb o hp hb=>⟨hp.1,by rw[pE hp.2];exact s10 _ _ hb⟩
    .refine hV.keep λb o hp hb=>?_;have q:b≠y:=λz=>by rw[z,hy9]at hp;cases hp.1
     exact⟨ho b hp.1 q,by rw[pE q];exact hb⟩
def zjM(T:Txt K mg a):KCal P w K mg base "Work" a.r 5 ["self","belts","knots"] [] (JQ K a):=T.nA.cal T.o6 (V3 T)
noncomputable def Ja(b:Int×Int):D:=.tup [.int b.1,.int b.2]
def JC(n:Nat):(rgI n).length=n:=by simp[rgI]
def za6(n:Nat):rgI (n+1)=rgI n++[(n:Int)]:=by simp[rgI,fA]
def zL(ns:A6):(iv ns).length=ns.length:=by rw[iv,ai]
def Zw{x:V}(h:(iv ns)[i]?=some x):∃n,ns[i]?=some n/\x=.int n:=by
 rw[iv,am,aq]at h;let⟨n,h1,h2⟩:=h;exact⟨n,h1,h2.symm⟩
def qV(h:ns[i]?=some n):(iv ns)[i]?=some (.int n):=by rw[iv,am,h];rfl
def zgN(ns:A6)(k:Nat):(iv ns).eraseIdx k=iv (ns.eraseIdx k):=by
 induction ns generalizing k with
 |nil=>simp[iv]
 |cons n ns ih =>
  cases k with
  |zero=>simp[iv]
  |succ k=>simpa[iv]using ih k
def jo(ns:A6)(n:Int):iv ns++[.int n]=iv (ns++[n]):=by simp[iv]
structure WInv(bs:A1)(rs:At)(es ks:A6):Prop where
 tk:(qN rs++es).Perm (rgI bs.length)
 fd:(xh rs++ks).Perm (rgI bs.length)
 ro:∀r∈rs,r.ok
 bo:∀b∈bs,zE b.1 b.2
def zda(rs:At)(r:Row):xh (rs++[r])=xh rs++r.outs:=by simp[xh]
def Vx(rs:At)(r:Row):qN (rs++[r])=qN rs++r.ins:=by simp[qN]
def zai{us:Ap}{n:Nat}(h:us.length=n+1):∃a vs,us=a::vs/\vs.length=n:=by
 cases us with
 |nil=>cases h
 |cons a vs=>exact⟨a,vs,rfl,Nat.succ.inj h⟩
def two_of{us:Ap}(h:us.length=2):∃a b,us=[a,b]:=by
 let⟨a,_,rfl,h1⟩:=zai h;let⟨b,_,rfl,h2⟩:=zai h1;exact⟨a,b,by rw[c7.mp h2]⟩
theorem zbc:∀{es:A6}{j:Nat}{y:Int},es[j]?=some y->(y::es.eraseIdx j).Perm es
 |[],_,_,h=>by simp at h
 |e::es,0,y,h=>by
  have h:e=y:=by simpa using h
  subst h;simp
 |e::es,j+1,y,h=>by
  have ih:=zbc (es:=es) (j:=j) (y:=y) (by simpa using h);rw[List.eraseIdx_cons_succ];exact(List.Perm.swap e y _).trans (ih.cons e)
def Qe{n:Nat}{x:Int}(h:x∈rgI n):0<=x/\x<n:=by
 unfold rgI at h;let⟨i,hi,rfl⟩:=aJ.mp h;have:=bu.mp hi
 lia
def wdS:Wd->Str
 | .source=>"source"
 | .drain=>"drain"
 | .parter=>"parter"
 | .first=>"first"
 | .sieve=>"sieve"
 | .joiner=>"joiner"
def xz{b:Int×Int}(h:Rep H p v (Ja b)):∃t,v=.ref t/\H t=some (.tup [.int b.1,.int b.2]):=by
 let⟨t,us,rfl,_,ht,rr⟩:=Rep.tup' h;have g:=rr.g;let⟨x0,x1,rfl⟩:=two_of rr.len;have a0:=g 0 x0 _ rfl rfl;have a1:=g 1 x1 _ rfl rfl;cases a0;cases a1;exact⟨t,rfl,ht⟩
noncomputable def qG(a:Ad)(bs:A1)(rs:At):D:=.ob a.r [("belts",.lst (bs.map (Jc a))),("knots",.lst (rs.map (Jb a)))]
def zki{l1 l2:Addr}:wf l1 l2=([(("belts":Str),V.ref l1),(("knots":Str),V.ref l2)]:Ar):=by
 unfold wf;simp only[zX];rw[ak (by symm)]
def zau{a:Ad}{rs:At}:([("belts",.lst (bs.map (Jc a))),("knots",.lst (rs.map (Jb a)))]:List (Str×D)).lookup ("belts":Str)=some (.lst (bs.map (Jc a))):=jg
def zfz{a:Ad}{rs:At}:([("belts",.lst (bs.map (Jc a))),("knots",.lst (rs.map (Jb a)))]:List (Str×D)).lookup ("knots":Str)=some (.lst (rs.map (Jb a))):=(z7 (by symm)).trans jg
def zkh{a:Ad}{rs:At}{f:Str}(h1:f≠"belts")(h2:f≠"knots"):([("belts",.lst (bs.map (Jc a))),("knots",.lst (rs.map (Jb a)))]:List (Str×D)).lookup f=none:=(z7 h1).trans (z7 h2)
def zgt{x b:Addr}(h:H x=some o)(hb:H b=none):b∉[x]:=λz=>by rw[aD.mp z,h]at hb;cases hb
def wZ(r:Row):List Int:=match r.wd with
 | .source=>r.pace::r.kinds
 | .drain=>[r.pace]
 | .sieve=>r.kinds
 |_=>[]
def zh1{xs:A6}:(∃x,xs=[x])↔xs.length=1:=⟨λ⟨_,h⟩=>by rw[h];rfl,λh=>List.length_eq_one_iff.mp h⟩
def zju{r:Row}(h:r.ok):r.ins.length<=4/\r.outs.length<=4:=by
 let⟨wd,ins,outs,pc,ks⟩:=r;cases wd<;>simp only[Row.ok,zh1,<- c7]at h ⊢ <;> lia
def KT(T:Txt K mg a)(wd:Wd):kitOne K (.ref (ww a wd)) (.ref a.j)=some true:=by
 cases wd
 .exact T.mf
 .exact T.mF
 .exact T.mh
 .exact T.kK
 .exact T.mG
 .exact T.mi
abbrev jh(i:Int):Str:=toString i
def WC(h0:0<=n)(h1:n<z9):n.natAbs.log2<1920:=by
 rcases Nat.eq_zero_or_pos n.natAbs with z|z
 .rw[z];decide
 .refine(Nat.log2_lt (by lia)).mpr (aM (show n.natAbs<1000000000000000000000000000000 by unfold z9 at h1;lia) (by symm))
def XE(h0:0<=n)(h1:n<z9):(jh n).length<=1921:=PyProof.Rows.int_text_len_1921 (WC h0 h1)
def JA{xs:A8}{m:Nat}(h:∀x∈xs,x.length<=m):(xs.map (·.length)).sum<=xs.length*m:=by
 induction xs with
 |nil=>simp
 |cons x xs ih =>
  have h1:=h x (aU ..);have h2:=ih λy hy=>h y (ay _ hy);simp only[bF,List.sum_cons,aX,fe]
  lia
def Vv{x:Str}:tyV K "str" (.str x) H:=by trivial
def jS(nm:Str)(ns:A6):Str:=Str.join " " (nm::ns.map jh)
def zhx(K:A0):Sp:=λvs H Q _=>∃(nm:Str)(l:Addr)(ns:A6),vs=[.str nm,.ref l]/\SqL K H l (iv ns)/\nm.length<=100/\ns.length<=20/\(∀n∈ns,0<=n/\n<z9)/\∀H',Same H H'->Q (.str (jS nm ns)) H'
def xo(T:Txt K mg a):Cal P w K mg base "_law_row" 1 ["_law_word","_law_numbers"] [] (zhx K):=T.oR.cal λF=>by
 refine F.okx zfW ?_ ?_
 .walk_at"i"
 walk_at"j";refine oE3 h λnm l ns p6=>oA6 p6 λp8 hl n100 n20 hk k=>?_;clear p6 h;subst p8;walk_at"T";refine⟨_,(zd (zl (qA c8 gX gW zdI zS (za (zK qk (zO (za (pq 0) zb)) (jF (vars:=["_law_number"]) (caps:=[]) (N:=["_law_number"]) (ON:=["_law_word","_law_numbers"]) (osc:=zg VS) rfl rfl (by right) rfl rfl (qq (pq 1)) (λ_ _ _ _=>(qu 0 (show(["_law_number"]:A8).Nodup from by symm))) (λ_ _ _ _=>qm) (λ_ _ _ _=>(xL zj2 zj4 (za (pq 0) zb))))) zb)))),?_⟩;exists⟨Vv,λq1 hq1=>?_⟩;have s1:=zf (o:=.lst [.str nm]) hq1;have g1:upd H q1 (.lst [.str nm]) q1=some (.lst [.str nm]):=pD;generalize upd H q1 (.lst [.str nm])=H1 at s1 g1 ⊢;walk_at"d";exists⟨l,rfl,.inl ⟨⟨_,vp s1 hl⟩,λ_ _ _ _ pv hacc=>?_⟩⟩;refine qM (K:=K) (a:=l) (xs:=iv ns) (λi σ H'=>∃v,σ=[v]/\Same H1 H'/\H' pv=some (.lst (((ns.take i).map jh).map V.str))) ⟨_,iA3 rfl (zf hacc) pD⟩ (λi σ H' _ h=>by let⟨_,_,s,_⟩:=h;exact vp (s1.trans s) hl) ?_ ?_
 .intro i x σ H2 hi p9;refine oE1 p9 λv p6=>oA3 p6 λp8 s2 e2=>?_;ext;let⟨y,hy,rfl⟩:=Zw hi;have hyl:=(aa.mp hy).1;have yb:=hk y (ah hy);exists⟨WC yb.1 yb.2,⟨_,iA3 e2 (zn (by rw[ai,ai,aQ];lia)) ⟨_,iA3 rfl (λb o hb=>?_) ?_⟩⟩⟩
  .rw[pE (pF hb hacc)];exact s2 b o hb
  .rw[pD,aI,hy,ba,ba];rfl
 intro σ H2 p9;refine oE1 p9 λv p6=>oA3 p6 λp8 s2 e2=>?_;ext;rw[zL,aN]at e2;exists jW (SqL.of (s2 _ _ g1)) (SqL.of e2) (jx (by rw[ai,ai];simp;lia)) λq2 hq2=>?_;have hb:∀x∈nm::ns.map jh,x.length<=1921:=λx hx=>by
  rcases av.mp hx with rfl|hx
  .lia
  .obtain⟨n,hn,rfl⟩:=aJ.mp hx;exact XE (hk n hn).1 (hk n hn).2
 have sl:=JA hb;rw[aX,ai]at sl;refine iE3 _ q2 (nm::ns.map jh) (iA5 rfl rfl (by rw[pD];rfl) ?_ (k _ ((s1.trans s2).trans (zf hq2))));rw[aX,ai];have:(Str.ofString " ").length=1:=by symm
 rw[this]
 lia
def qi(r:Row):List Int:=if r.wd=.joiner then r.outs++r.ins else r.ins++r.outs++wZ r
def zf3(r:Row):Str:=jS (wdS r.wd) (qi r)
def zbm{r:Row}(h:r.ok):(qi r).length<=20:=by
 have h4:=zju h;let⟨wd,ins,outs,pc,ks⟩:=r;simp only at h4;cases wd
 .obtain⟨_,_,_,_,_,h6,_⟩:=h;simp only at h6;simp only[qi,wZ,reduceCtorEq,br,aH,aX]
  lia
 .simp only[qi,wZ,reduceCtorEq,br,aH,aX,cO]
  lia
 .simp only[qi,wZ,reduceCtorEq,br,aH,aX,cO]
  lia
 .simp only[qi,wZ,reduceCtorEq,br,aH,aX,cO]
  lia
 .obtain⟨_,_,kk,ek,_⟩:=h;simp only at ek;subst ek;simp only[qi,wZ,reduceCtorEq,br,aH,aX,cO]
  lia
 .simp only[qi,dM,aH]
  lia
def jw(b:Int×Int):Str:=jS "belt" [b.1,b.2]
def jC(bs:A1)(rs:At):List Str:=bs.map jw++rs.map zf3
def QU(bs:A1)(rs:At):Str:=Str.join "\n" (jC bs rs)
def Xw{nm:Str}(h1:nm.length<=100)(h2:ns.length<=20)(hb:∀n∈ns,0<=n/\n<z9):(jS nm ns).length<=50000:=by
 have h:=StrLaws.join_length_le " " (nm::ns.map jh);have hb:∀x∈nm::ns.map jh,x.length<=1921:=λx hx=>by
  rcases av.mp hx with rfl|hx
  .lia
  .obtain⟨n,hn,rfl⟩:=aJ.mp hx;exact XE (hb n hn).1 (hb n hn).2
 have sl:=JA hb;have:(Str.ofString " ").length=1:=by symm
 rw[this]at h;rw[aX,ai]at sl h;unfold jS
 lia
structure Told2(bs:A1)(rs:At):Prop where
 b24:bs.length<=24
 r24:rs.length<=24
 bo:∀b∈bs,zE b.1 b.2
 ro:∀r∈rs,r.ok
 nb:∀r∈rs,∀n∈qi r,0<=n/\n<z9
def zdn{rs:At}(h:zN bs rs)(bo:∀b∈bs,zE b.1 b.2)(ro:∀r∈rs,r.ok):Told2 bs rs:=by
 have b24:=h.1.1.2;have kl:(1000:Int)<z9:=by symm
 refine⟨h.1.1.2,h.1.2.2,bo,ro,λr hr n hn=>?_⟩;have h1:∀n∈r.outs,0<=n/\n<z9:=λn hn=>by
  have:=Qe (h.2.1.mem_iff.mp (bY.mpr ⟨r,hr,hn⟩));exact⟨this.1,gI (dF this.2 (by lia:(bs.length:Int)<=1000)) kl⟩
 have h2:∀n∈r.ins,0<=n/\n<z9:=λn hn=>by
  have:=Qe (h.2.2.mem_iff.mp (bY.mpr ⟨r,hr,hn⟩));exact⟨this.1,gI (dF this.2 (by lia:(bs.length:Int)<=1000)) kl⟩
 have ok:=ro r hr;have h3:∀n∈wZ r,0<=n/\n<z9:=λn hn=>by
  let⟨wd,ins,outs,pc,ks⟩:=r;cases wd
  .obtain⟨_,_,p1,p4,_,_,kk⟩:=ok;simp only at p1 p4;rcases av.mp hn with e|hn
   .rw[show n=pc from e];exact⟨by lia,dG (show pc<=1000 by lia) kl⟩
   .exact kk n hn
  .obtain⟨_,_,p1,p4⟩:=ok;simp only at p1 p4;rcases av.mp hn with e|hn
   .rw[show n=pc from e];exact⟨p1,dG (show pc<=1000 by lia) kl⟩
   .cases hn
  .cases hn
  .cases hn
  .obtain⟨_,_,kk,ek,q1,q2⟩:=ok;simp only at ek;subst ek;rcases av.mp hn with rfl|hn
   .exact⟨q1,q2⟩
   .cases hn
  .cases hn
 unfold qi at hn
 split at hn
 .rcases aG.mp hn with hn|hn
  .exact h1 n hn
  .exact h2 n hn
 .rcases aG.mp hn with hn|hn
  .rcases aG.mp hn with hn|hn
   .exact h2 n hn
   .exact h1 n hn
  .exact h3 n hn
def Zo{b:Int×Int}(h:zE b.1 b.2):∀n∈[b.1,b.2],0<=n/\n<z9:=λn hn=>by
 have kl:(1000:Int)<z9:=by symm
 let⟨h1,h2,h3,h4⟩:=h;simp only[av,bL,cn]at hn;rcases hn with rfl|rfl
 .exact⟨by lia,dG (show b.1<=1000 by lia) kl⟩
 .exact⟨by lia,dG (show b.2<=1000 by lia) kl⟩
def Vu(wd:Wd):(wdS wd).length<=100:=by cases wd<;>decide+kernel
def Wv{rs:At}(h:Told2 bs rs):(jC bs rs).length<=48/\∀x∈jC bs rs,x.length<=50000:=by
 have b24:=h.b24;have r24:=h.r24;refine⟨by unfold jC;rw[aH,ai,ai];lia,λx hx=>?_⟩;rcases aG.mp hx with hx|hx
 .obtain⟨b,hb,rfl⟩:=aJ.mp hx;exact Xw (by symm) (by show 2<=20;decide) (Zo (h.bo b hb))
 .obtain⟨r,hr,rfl⟩:=aJ.mp hx;exact Xw (Vu _) (zbm (h.ro r hr)) (h.nb r hr)
def zek{rs:At}(h:Told2 bs rs):((jC bs rs).map (·.length)).sum+(jC bs rs).length*(Str.ofString "\n").length<=16777216:=by
 let⟨h1,h2⟩:=Wv h;have sl:=JA h2;have:(Str.ofString "\n").length=1:=by symm
 rw[this]
 lia
section
variable{H:Hp}{z dz:Addr}{Q:VK}{EX:XK}
end
def WInv.knot{rs:At}{es ks es' ks':A6}{r:Row}(h:WInv bs rs es ks)(pe:(r.ins++es').Perm es)(pk:(r.outs++ks').Perm ks)(ok:r.ok):WInv bs (rs++[r]) es' ks':=by
 refine⟨?_,?_,λx hx=>?_,h.bo⟩
 .rw[Vx,cR];exact(cy _ pe).trans h.tk
 .rw[zda,cR];exact(cy _ pk).trans h.fd
 .rcases aG.mp hx with hx|hx
  .exact h.ro x hx
  .rw[aD.mp hx];exact ok
def WInv.perm{rs:At}{es ks es' ks':A6}(h:WInv bs rs es ks)(pe:es'.Perm es)(pk:ks'.Perm ks):WInv bs rs es' ks':=⟨(cy _ pe).trans h.tk,(cy _ pk).trans h.fd,h.ro,h.bo⟩
def WInv.belt{rs:At}{es ks:A6}{b:Int×Int}(h:WInv bs rs es ks)(hb:zE b.1 b.2):WInv (bs++[b]) rs (es++[(bs.length:Int)]) (ks++[(bs.length:Int)]):=by
 refine⟨?_,?_,h.ro,λx hx=>?_⟩
 .rw[aH,fO,za6,<- cR];exact gH _ h.tk
 .rw[aH,fO,za6,<- cR];exact gH _ h.fd
 .rcases aG.mp hx with hx|hx
  .exact h.bo x hx
  .rw[aD.mp hx];exact hb
noncomputable abbrev ms3(L R E:Addr):List Addr:=[L,R,E]
def bTx(bs:A1):List V:=bs.map λb=>V.str (jw b)
def rTx(rs:At):List V:=rs.map λr=>V.str (zf3 r)
structure GS(H0 H:Hp)(L R E:Addr)(bs:A1)(rs:At)(es:A6):Prop where
 f:Fr (ms3 L R E) H0 H
 nLR:L≠R
 nLE:L≠E
 nRE:R≠E
 hL:H L=some (.lst (bTx bs))
 hR:H R=some (.lst (rTx rs))
 hE:H E=some (.lst (iv es))
section
variable{H0 H H':Hp}{L R E:Addr}{bs bs':A1}{rs rs':At}{es es':A6}
def GS.same(w:GS H0 H L R E bs rs es)(s:Same H H'):GS H0 H' L R E bs rs es:={w with f:=w.f.trans s.fr,hL:=s _ _ w.hL,hR:=s _ _ w.hR,hE:=s _ _ w.hE}
def GS.off(w:GS H0 H L R E bs rs es){x:Addr}(h:H x=none):x∉ms3 L R E:=λz=>by
 have h1:=w.hL;have h2:=w.hR;have h3:=w.hE;simp only[av,bL,cn]at z;rcases z with rfl|rfl|rfl
 .rw[h1]at h;cases h
 .rw[h2]at h;cases h
 .rw[h3]at h;cases h
def GS.here(w:GS H0 H L R E bs rs es):GS H H L R E bs rs es:={w with f:=Fr.refl}
def GS.trans(w:GS H0 H L R E bs rs es)(v:GS H H' L R E bs' rs' es'):GS H0 H' L R E bs' rs' es':={v with f:=w.f.trans v.f}
def GS.setE(w:GS H0 H L R E bs rs es)(es':A6):GS H0 (upd H E (.lst (iv es'))) L R E bs rs es' :=
 {w with f:=w.f.trans (qZ (by simp)),hL:=by rw[pE w.nLE];exact w.hL,hR:=by rw[pE w.nRE];exact w.hR,hE:=pD}
def GS.addL(w:GS H0 H L R E bs rs es)(b:Int×Int):GS H0 (upd H L (.lst (bTx bs++[.str (jw b)]))) L R E (bs++[b]) rs es :=
 {w with f:=w.f.trans (qZ (by simp)),hL:=by rw[pD,bTx,bTx,ba];rfl,hR:=by rw[pE w.nLR.symm];exact w.hR,hE:=by rw[pE w.nLE.symm];exact w.hE}
def GS.addR(w:GS H0 H L R E bs rs es)(r:Row){x:Str}(e:x=zf3 r):GS H0 (upd H R (.lst (rTx rs++[.str x]))) L R E bs (rs++[r]) es :=
 {w with f:=w.f.trans (qZ (by simp)),hL:=by rw[pE w.nLR];exact w.hL,hR:=by rw[pD,rTx,rTx,ba,e];rfl,hE:=by rw[pE w.nRE.symm];exact w.hE}
end
def zf4{α:Type}(xs:List α)(k:Nat):(xs.drop k++xs.take k).Perm xs:=by
 refine List.perm_append_comm.trans ?_;rw[gY]
def wv(xs:Ap)(k:Nat)(h:k<=xs.length):vm xs (some (k:Int)) none=xs.drop k:=by
 unfold vm;rw[HT.sIx_nat,HT.sIx_none,Nat.min_eq_left h];exact cc (by rw[dW];lia)
def zg5(xs:Ap)(n:Nat):vm xs none (some (n:Int))=xs.take n:=by
 have h:=HT.sIx_nat xs.length xs.length n;unfold vm;rw[HT.sIx_none,h,Nat.sub_zero,List.drop_zero];by_cases e:n<=xs.length
 .rw[Nat.min_eq_left e]
 .rw[Nat.min_eq_right (by lia),aN,cc (by lia)]
def WInv.work{rs rs':At}(h:WInv bs rs [] [])(pm:rs'.Perm rs)(b24:bs.length<=24)(r1:1<=rs.length)(r24:rs.length<=24):zN bs rs'/\(∀r∈rs',r.ok):=by
 have tk:=h.tk;have fd:=h.fd;rw[cj]at tk fd;have pl:=pm.length_eq;have b1:1<=bs.length:=by
  let⟨r,rs0,rfl⟩:=du (fQ (by lia:0<rs.length));have ok:=h.ro r (by simp);have lt:=tk.length_eq;have lf:=fd.length_eq;rw[JC]at lt lf;have e1:(qN (r::rs0)).length=r.ins.length+(qN rs0).length:=by simp[qN]
  have e2:(xh (r::rs0)).length=r.outs.length+(xh rs0).length:=by simp[xh]
  have:1<=r.ins.length+r.outs.length:=by
   let⟨wd,ins,outs,pc,kd⟩:=r;cases wd
   .obtain⟨_,⟨o,q⟩,_⟩:=ok;simp only at q;subst q;simp
   .obtain⟨⟨o,q⟩,_⟩:=ok;simp only at q;subst q;simp
   .obtain⟨⟨o,q⟩,_⟩:=ok;simp only at q;subst q;simp
   .obtain⟨⟨o,q⟩,_⟩:=ok;simp only at q;subst q;simp
   .obtain⟨⟨o,q⟩,_⟩:=ok;simp only at q;subst q;simp
   .obtain⟨⟨o,q⟩,_⟩:=ok;simp only at q;subst q;simp
  lia
 refine⟨⟨⟨⟨b1,b24⟩,by lia,by lia⟩,?_,?_⟩,λr hr=>h.ro r (pm.mem_iff.mp hr)⟩
 .exact(pm.flatMap_right _).trans fd
 .exact(pm.flatMap_right _).trans tk
abbrev Nb(ns:A6):Prop:=∀n∈ns,0<=n/\n<z9
def nb0:Nb []:=λ_ h=>nomatch h
def nb1{x:Int}{xs:A6}(h0:0<=x)(h1:x<z9)(h:Nb xs):Nb (x::xs):=λn hn=>by
 rcases av.mp hn with rfl|hn
 .exact⟨h0,h1⟩
 .exact h n hn
def nbs{x:Int}{xs:A6}(h0:0<=x)(h1:x<1000)(h:Nb xs):Nb (x::xs):=nb1 h0 (gI h1 (by symm)) h
noncomputable def vb(ns:A6)(k:Nat):Int:=ns.getD k 0
def zja(K:A0):Sp:=λvs H Q _=>∃(l:Addr)(ns:A6)(k:Nat),vs=[.ref l,.int k]/\SqL K H l (iv ns)/\Q (.int (vb ns k)) H
def vZ(T:Txt K mg a):Cal P w K mg base "_law_cell" 1 ["_law_cells","_law_k"] [] (zja K):=T.oy.cal λF=>by
 refine F.okx zeA ?_ ?_
 .walk_at"i"
 walk_at"k";refine oE3 h λl ns n p6=>oA3 p6 λp8 hl k=>?_;clear p6 h;subst p8;walk_at"T";refine⟨_,(zi (zF (zm zdD (pq 1) (zM zR zP (za (pq 0) zb)) (zr _))  (zd (zl (zo (pq 0) (pq 1))))  zp)  (zd (zl ze))),?_⟩;exists⟨_,.inl ⟨_,hl,rfl⟩,?_⟩;walk_at"r";rw[zL];refine zT (λh=>?_) (λh=>?_)
 .have h:n<ns.length:=by lia
  refine zq hl (zt (qV (ac h))) ?_;have e:ns[n]=vb ns n:=by simp[vb,h]
  rw[e];exact k
 .have e:vb ns n=0:=by
   have h:ns.length<=n:=by lia
   simp[vb,h]
  rw[e]at k;walk_at"r";exact k
def zi7:Sp:=λvs H Q _=>∃n p m:Int,vs=[.int n,.int p,.int m]/\0<p/\0<m/\∀r,0<=r->r<m->Q (.int r) H
def qL(T:Txt K mg a):Cal P w K mg base "_law_some" 1 ["_law_number","_law_prime","_law_many"] [] zi7:=T.oz.cal λF=>by
 refine F.okx zez ?_ ?_
 .walk_at"i"
 walk_at"k";refine oE3 h λn p m p6=>oA4 p6 λp8 p0 m0 k=>?_;clear p6 h;subst p8;walk_at"T";refine⟨_,(zd (zl (zK js (zK js (zK vK (zcI (zK qk (pq 0) ze)) ze) (pq 1)) (pq 2)))),?_⟩;walk_at"r";exact iA4 (mul_okR (by decide) (by decide)) p0 m0 (k _ (bS _ (by lia)) (bO _ m0))
def VY{r:Int}(h0:0<=r)(h1:r<ns.length):∃x∈ns,atI (iv ns) r=some (.int x):=by
 let⟨j,rfl⟩:∃j:Nat,r=j:=⟨r.toNat,by lia⟩;have hj:j<ns.length:=by lia
 exact⟨_,cf hj,zt (qV (ac hj))⟩
def zjb:Sp:=λvs H Q _=>∃n:Int,vs=[.int n]/\∀H' b,Same H H'->zE b.1 b.2->Q (.str (jw b)) H'
def wy(T:Txt K mg a):Cal P w K mg base "_law_belt" 2 ["_law_number"] [] zjb:=T.oA.cal λF=>by
 refine F.okx zeB ?_ ?_
 .walk_at"i"
 walk_at"j";let⟨n,rfl,k⟩:=h;walk_at"T";refine⟨_,(zi (zu 1 zeB.nd (zo (zO (za ze (za ze (za ze (za ze zb))))) ‹(pq 0) (za ze (za ze zb))›))  (zd (zl (zA ⟨rfl,rfl,rfl⟩ hr (za zS (za (zO (za (pq 1) (za (zo (zO (za ze (za ze (za ze (za ze (za ze zb)))))) ‹(pq 0) (za ze (za ze zb))›) zb))) zb)))))),?_⟩;existsλp hp=>(uc (qL T).mono (iE3 n 10007 4 (iA4 rfl (by decide) (by decide) (λr r0 r1=>?_))));let⟨x,hx,ex⟩:=VY (ns:=[1,1,2,3]) r0 r1;have s1:=zf (o:=.lst (iv [1,1,2,3])) hp;refine zq (SqL.of pD) ex ?_;exists uc (xo T).mono (λq hq=>(uc (qL T).mono (iE3 n 10009 5 (iA4 rfl (by decide) (by decide) (λr' r0' r1'=>?_)))));let⟨y,hy,ey⟩:=VY (ns:=[1,1,1,2,3]) r0' r1';have s2:=s1.trans (zf (o:=.lst (iv [1,1,1,2,3])) hq);refine zq (SqL.of pD) ey λt ht=>?_;have bo:zE x y:=by
  simp only[av,bL,cn]at hx hy;exact iA4 (by lia) (by lia) (by lia) (by lia)
 exact iE3 _ t ([x,y]) (iA6 rfl (SqL.of pD) (by symm) (by simp) (Zo (b:=(x,y)) bo) (λH' s3=>k H' (x,y) ((s2.trans (zf ht)).trans s3) bo))
def zhv:Sp:=λvs H Q _=>∃(n y kk o1 o2:Int)(O:Addr),vs=[.int n,.int y,.ref O,.int kk]/\H O=some (.lst (iv [o1,o2]))/\Nb [y,o1,o2]/\0<=kk/\kk<z9/\∀H' r,Same H H'->r.ins=[y]->r.outs=[o1,o2]->r.ok->Q (.str (zf3 r)) H'
def zfp(T:Txt K mg a):Cal P w K mg base "_law_split" 2 ["_law_number","_law_into","_law_outs","_law_kind"] [] zhv:=T.nW.cal λF=>by
 refine F.okx zcw ?_ ?_
 .walk_at"i"
 walk_at"j";refine oE6 h λn y kk o1 o2 O p6=>oA6 p6 λp8 hO nb k0 k1 k=>?_;clear p6 h;subst p8;walk_at"T";refine⟨_,(zi (zu 4 zcw.nd ‹(pq 0) (za ze (za ze zb))›)  (zi (zF (zm (qB hr.units1) (pq 4) ze (zr _))  (zd (zl (zA ⟨rfl,rfl,rfl⟩ hr (za zS (za (zK qk (zK qk (zO (za (pq 1) zb)) (pq 2)) (zO (za (pq 3) zb))) zb)))))  zp)  (zd (zl ‹(zo (zO (za zS (za zS zb))) (pq 4)) (za (zK qk (zO (za (pq 1) zb)) (pq 2)) zb)›)))),?_⟩;exists uc (qL T).mono (iE3 n 10039 3 (iA4 rfl (by decide) (by decide) (λpk p0 p3=>?_)));exists zT (λ_=>?_) (λp2=>?_)
 .exists uc (xo T).mono (λq1 h1=>?_);have s1:=zf (o:=.lst [.int y]) h1;refine jW (SqL.of pD) (SqL.of (s1 _ _ hO)) (jx (by simp[iv])) λq2 h2=>?_;have s2:=s1.trans (zf (o:=.lst ([.int y]++iv [o1,o2])) h2);intro q3 h3;have s3:=s2.trans (zf (o:=.lst [.int kk]) h3);refine jW (SqL.of (pG pD h3)) (SqL.of pD) (jx (by simp[iv])) λq4 h4=>?_;exact⟨_,q4,[y,o1,o2,kk],rfl,SqL.of pD,by symm,by simp,λn hn=>by
   rcases aG.mp (show n∈[y,o1,o2]++[kk]from hn)with z|z
   .exact nb n z
   .rw[aD.mp z];exact⟨k0,k1⟩,λH' s5=>k H' ⟨.sieve,[y],[o1,o2],0,[kk]⟩ ((s3.trans (zf h4)).trans s5) rfl rfl ⟨⟨_,rfl⟩,rfl,kk,rfl,k0,k1⟩⟩
 exists uc (xo T).mono (λq0 h0=>?_);have s0:=zf (o:=.lst [V.str "parter",.str "first"]) h0;let⟨wd,hw,ew⟩:∃wd:Wd,(wd=.parter\/wd=.first)/\atI [V.str "parter",.str "first"] pk=some (V.str (wdS wd)):=by
  rcases(by lia:pk=0\/pk=1)with rfl|rfl
  .exact⟨.parter,.inl rfl,rfl⟩
  .exact⟨.first,.inr rfl,rfl⟩
 refine zq (SqL.of pD) ew λq1 h1=>?_;have s1:=s0.trans (zf (o:=.lst [.int y]) h1);refine jW (SqL.of pD) (SqL.of (s1 _ _ hO)) (jx (by simp[iv])) λq2 h2=>?_;have er:qi ⟨wd,[y],[o1,o2],0,[]⟩=[y,o1,o2]:=by rcases hw with rfl|rfl<;>rfl
 exact iE3 _ q2 (qi ⟨wd,[y],[o1,o2],0,[]⟩) (iA6 rfl (by rw[er];exact SqL.of pD) (Vu wd) (by rw[er];simp) (by rw[er];exact nb) (λH' s5=>k H' ⟨wd,[y],[o1,o2],0,[]⟩ ((s1.trans (zf h2)).trans s5) rfl rfl (by rcases hw with rfl|rfl<;>exact⟨⟨_,rfl⟩,by simp,by simp⟩)))
def zgO{A C X Y:Prop}[Decidable A][Decidable C](x:A->C->X)(y:Y):if A then(if C then X else Y)else Y:=by
 split
 .split
  .rename_i a c;exact x a c
  .exact y
 .exact y
def zic{A W Z:Prop}[Decidable A](z:Z)(w:A->Z->W):if A then W else Z:=by
 by_cases h:A
 .rw[ao h];exact w h z
 .rw[ak h];exact z
noncomputable abbrev stG(L R E:Addr)(v3:V)(c kk:Int)(v6 v7 v8 v9:Aq):St:=[some (.ref L),some (.ref R),some (.ref E),some v3,some (.int c),some (.int kk),v6,v7,v8,v9]
def zhB:Sp:=λvs H Q _=>∃(L R E:Addr)(bs:A1)(rs:At)(es:A6)(lp:A9)(c kk:Int),vs=[.ref L,.ref R,.ref E,oiV lp,.int c,.int kk]/\GS H H L R E bs rs es/\WInv bs rs es lp.toList/\0<=kk/\kk<z9/\bs.length<=20/\rs.length<=20/\es.length<=20/\1<=es.length /\
 ∀H' bs' rs' es' lp',GS H H' L R E bs' rs' es'->WInv bs' rs' es' lp'.toList->1<=es'.length->bs.length+1<=bs'.length->bs'.length<=bs.length+2->rs'.length=rs.length+1->Q (oiV lp') H'
def WInv.em{rs:At}{es ks:A6}(h:WInv bs rs es ks){x:Int}(hx:x∈es):0<=x/\x<bs.length:=Qe (h.tk.mem_iff.mp (a8 _ hx))
def WInv.km{rs:At}{es ks:A6}(h:WInv bs rs es ks){x:Int}(hx:x∈ks):0<=x/\x<bs.length:=Qe (h.fd.mem_iff.mp (a8 _ hx))
def xp(bs:A1):(bTx bs).length=bs.length:=ai ..
def jM(rs:At):(rTx rs).length=rs.length:=ai ..
def zfq(T:Txt K mg a):Cal P w K mg base "_law_grown" 3 ["_law_belts","_law_knots","_law_loose","_law_loop","_law_number","_law_kind"] [] zhB:=T.nX.cal λF=>by
 refine F.okx zcx ?_ ?_
 .walk_at"i"
 walk_at"j";refine oE5 h λL R E bs rs p6=>oE4 p6 λes lp c kk p8=>oA6 p8 λpw W I k0 k1 pA=>oA5 pA λlb lr le le1 k=>?_;clear p6 p8 pA h;subst pw;walk_at"T";refine⟨_,(zh (zu 6 zcx.nd (zM zR zP (za (pq 0) zb)))  (zh (zH (qA ar aA az zV (pq 0) (za ‹(pq 4) zb› zb)))  (zh (zu 7 zcx.nd ‹(pq 4) (za ze (za ze zb))›)  (zh (zF (zm (qB hr.units1) (pq 7) ze (zr _))  (zh (zH (qA ar aA az zV (pq 1) (za (zA ⟨rfl,rfl,rfl⟩ hr (za zS (za (zO (za (pq 6) (za (zK qk ze ‹(pq 4) (za ze (za ze zb))›) (za (pq 5) (za (Xh (pq 4)) zb))))) zb))) zb)))  (zh (zH (qA ar aA az zV (pq 2) (za (pq 6) zb)))  (zd (zl (pq 3)))))  zp)  (zh (zu 8 zcx.nd (qA ar d9 d8 Xp (pq 2) (za ‹(pq 4) (za ze (za (zM zR zP (za (pq 2) zb)) zb))› zb)))  (zh (zF (PW.pt (pw_and (zm (qB hr.units1) (pq 7) ze (zr _)) (pw_and1 (zm Q5 (zM zR zP (za (pq 2) zb)) ze (zr _)))))  (zh (zH (qA ar aA az zV (pq 1) (za (zA ⟨rfl,rfl,rfl⟩ hr (za zS (za (zO (za (pq 6) (za (pq 8) (za (qA ar d9 d8 Xp (pq 2) (za ze zb)) zb)))) zb))) zb)))  (zh (zH (qA ar aA az zV (pq 2) (za (pq 6) zb)))  (zd (zl (pq 3)))))  zp)  (zh (zu 9 zcx.nd (zO (za (pq 6) (za (zK qk (pq 6) ze) zb))))  (qF (zF (PW.pt (pw_and (zm wI (pq 3) zC (zr _)) (pw_and1 (zm Q5 (pq 7) ze (zr _)))))  (zh (zu 9 zcx.nd (zO (za (pq 3) (za (pq 6) zb))))  (zd (zu 3 zcx.nd zC)))  (zh (zH (qA ar aA az zV (pq 0) (za ‹(VZ (pq 4)) zb› zb)))  (zd (zH (qA ar aA az zV (pq 2) (za (zK qk (pq 6) ze) zb))))))  (zh (zH (qA ar aA az zV (pq 2) (za (pq 6) zb)))  (qF (zF (zm (qB hr.units1) ‹(pq 4) (za ze (za ze zb))› ze (zr _))  (zd (zu 9 zcx.nd (zO (za (zo (pq 9) ze) (za (zo (pq 9) ze) zb)))))  zp)  (zh (zH (qA ar aA az zV (pq 1) (za ‹(pq 4) (za (pq 8) (za (pq 9) (za (pq 5) zb)))› zb)))  (zd (zl (pq 3)))))))))))))),?_⟩;exists⟨_,.inl ⟨_,SqL.of W.hL,rfl⟩,?_⟩;rw[xp];exists⟨.inl ⟨rfl,_,SqL.of W.hL⟩,iE3 _ _ _ ⟨(wy T).mono,⟨c,rfl,λH1 b s1 ob=>?_⟩⟩⟩;have W0:=W.same s1;have W1:=W0.addL b;have I1:=I.belt ob;refine iE3 L _ _ (iA5 rfl rfl W0.hL (zn (by rw[xp];lia)) ?_);generalize upd H1 L _=H2 at W1 ⊢;have lb1:(bs++[b]).length=bs.length+1:=by simp
 clear W W0 I s1;exists uc (qL T).mono (iE3 c 10061 7 (iA4 rfl (by decide) (by decide) (λpk p0 p7=>?_)));exists zT (λ_=>?_) (λ_=>?_)
 .exists⟨.inl ⟨rfl,_,SqL.of W1.hR⟩,iE3 _ _ _ ⟨(xo T).mono,iE3 _ _ _ ⟨(qL T).mono,⟨c,10069,4,rfl,by decide,by decide,λr r0 r4=>?_⟩⟩⟩⟩;left;intro p hp;have x0:=bS c (show(1000000000000000000000000000000:Int)≠0 by decide);have x1:=bO c (show(0:Int)<1000000000000000000000000000000 by decide);generalize c%1000000000000000000000000000000=x at x0 x1 ⊢;have kd:XW [kk,x]:=nb1 k0 k1 (nb1 x0 x1 nb0);refine iE3 _ p ([(bs.length:Int),1+r,kk,x]) (iA6 rfl (SqL.of pD) (by symm) (by simp) (nbs (by lia) (by lia) (nbs (by lia) (by lia) kd)) (λH3 s3=>?_));have W3:=W1.same ((zf hp).trans s3);have W4:=W3.addR ⟨.source,[],[(bs.length:Int)],1+r,[kk,x]⟩ (x:=jS "source" [(bs.length:Int),1+r,kk,x]) rfl;refine iE3 R _ _ (iA5 rfl rfl W3.hR (zn (by rw[jM];lia)) ?_);generalize upd H3 R _=H5 at W4 ⊢;exists⟨.inl ⟨rfl,_,SqL.of W4.hE⟩,iE3 E _ _ (iA5 rfl rfl W4.hE (zn (by rw[zL];lia)) ?_)⟩;rw[jo];have W5:=W4.setE (es++[(bs.length:Int)]);generalize upd H5 E _=H6 at W5 ⊢;exists k _ _ _ _ lp W5 (I1.knot (r:=⟨.source,[],[(bs.length:Int)],1+r,[kk,x]⟩) (bd _) eu (iA7 rfl ⟨_,rfl⟩ (show(1:Int)<=1+r by lia) (show 1+r<=4 by lia) (by simp) (by simp) kd)) (by simp) (by lia) (by lia) (by simp)
 exists⟨.inl ⟨rfl,_,SqL.of W1.hE⟩,iE3 _ _ _ (iA3 ((qL T).mono) iV ⟨_,⟨.inl ⟨_,SqL.of W1.hE,rfl⟩,⟨c,10067,_,rfl,by decide,by rw[zL];lia,λjj v0 v1=>?_⟩⟩⟩)⟩;rw[zL]at v1;let⟨y,hy⟩:∃y,es[jj.toNat]?=some y:=⟨es[jj.toNat]'(by lia),ac _⟩;refine iE5 E (iv es) jj jj.toNat (.int y) (iA8 rfl rfl W1.hE (by lia) (by lia) (Xd v0 (by rw[zL];exact v1)) (qV hy) ?_);rw[zgN];have W2:=W1.setE (es.eraseIdx jj.toNat);have pp:=zbc hy;have pl:=pp.length_eq;rw[aX]at pl;have I2:=I1.perm (pp.append_right [(bs.length:Int)]) (bd _);generalize upd H2 E (.lst (iv (es.eraseIdx jj.toNat)))=H3 at W2 ⊢;generalize es.eraseIdx jj.toNat=es1 at pp pl W2 I2 ⊢;clear W1 I1 pp hy v0 v1;have ym:=I2.em (x:=y) (by simp);exists zic ?_ (λ_ z=>⟨iV,⟨_,⟨.inl ⟨_,SqL.of W2.hE,rfl⟩,zT (λw1=>?_) (λ_=>z)⟩⟩⟩)
 rotate_left
 .rw[zL]at w1;let⟨x,es2,rfl⟩:∃x es2,es1=x::es2:=by cases es1 with|nil=>simp at w1|cons x es2=>exact⟨x,es2,rfl⟩
  have xm:=I2.em (x:=x) (by simp);exists⟨.inl ⟨rfl,_,SqL.of W2.hR⟩,iE3 _ _ _ (iA3 ((xo T).mono) (.inl ⟨rfl,_,SqL.of W2.hE⟩) (iE5 E (iv (x::es2)) 0 0 (.int x) (iA8 rfl rfl W2.hE (by decide) (by decide) (Xd (by decide) (by simp[iv])) rfl (λp hp=>?_))))⟩;have W3:=W2.setE es2;refine iE3 _ p ([(bs.length:Int),y,x]) (iA6 rfl (SqL.of pD) (by symm) (by simp) (nbs (by lia) (by lia) (nbs ym.1 (by lia) (nbs xm.1 (by lia) nb0))) (λH6 s6=>?_));have W4:=W3.same ((zf hp).trans s6);have W6:=W4.addR ⟨.joiner,[y,x],[(bs.length:Int)],0,[]⟩ (x:=jS "joiner" [(bs.length:Int),y,x]) rfl;refine iE3 R _ _ (iA5 rfl rfl W4.hR (zn (by rw[jM];lia)) ?_);generalize upd H6 R _=H7 at W6 ⊢;left;simp only[aX]at pl;refine⟨.inl ⟨rfl,_,SqL.of W6.hE⟩,iE3 E _ _ (iA5 rfl rfl W6.hE (zn (by rw[zL];lia)) ?_)⟩;rw[jo];have W7:=W6.setE (es2++[(bs.length:Int)]);generalize upd H7 E _=H8 at W7 ⊢;left;exact k _ _ _ _ lp W7 (I2.knot (r:=⟨.joiner,[y,x],[(bs.length:Int)],0,[]⟩) (bd _) eu ⟨⟨_,rfl⟩,by simp,by simp⟩) (by simp) (by lia) (by lia) (by simp)
 left;intro O hO;have W3:=W2.same (zf (o:=.lst [V.int bs.length,.int (bs.length+1)]) hO);have nO:=W2.off hO;have gO:upd H3 O (.lst [V.int bs.length,.int (bs.length+1)]) O=some (.lst (iv [(bs.length:Int),bs.length+1])):=pD;generalize upd H3 O (.lst [V.int bs.length,.int (bs.length+1)])=H4 at W3 gO ⊢;clear W2;exists cut (λσ' H'=>∃(lp':A9)(bs':A1)(es':A6)(o1 o2:Int)(O':Addr),σ'=stG L R E (oiV lp') c kk (some (.int bs.length)) (some (.int pk)) (some (.int y)) (some (.ref O'))/\GS H H' L R E bs' rs es'/\O'∉ms3 L R E/\H' O'=some (.lst (iv [o1,o2]))/\WInv bs' rs ([y]++(es'++[(bs.length:Int)])) ([o1,o2]++lp'.toList)/\bs.length+1<=bs'.length/\bs'.length<=bs.length+2/\es'.length<=30) ?_ ?_
 .exists zgO (λx1 _=>?_) ?_
  .obtain⟨x,rfl⟩:∃x,lp=some x:=by cases lp with|none=>exact absurd rfl x1|some x=>exact⟨x,rfl⟩
   left;intro O2 hO2;left;exact iE6 none _ es1 x _ O2 (iA8 rfl (W3.same (zf hO2)) (W3.off hO2) pD I2 (by lia) (by lia) (by lia))
  exists⟨.inl ⟨rfl,_,SqL.of W3.hL⟩,iE3 _ _ _ ⟨(wy T).mono,⟨_,rfl,λH5 b2 s5 ob2=>?_⟩⟩⟩;have W4:=W3.same s5;have W5:=W4.addL b2;have I5:=I2.belt ob2;refine iE3 L _ _ (iA5 rfl rfl W4.hL (zn (by rw[xp];lia)) ?_);have nOL:O≠L:=λz=>nO (by simp[z]);have nOE:O≠E:=λz=>nO (by simp[z]);have g5:upd H5 L (.lst (bTx (bs++[b])++[.str (jw b2)])) O=some (.lst (iv [(bs.length:Int),bs.length+1])):=by rw[pE nOL];exact s5 _ _ gO
  generalize upd H5 L _=H6 at W5 g5 ⊢;exists⟨.inl ⟨rfl,_,SqL.of W5.hE⟩,iE3 E _ _ (iA5 rfl rfl W5.hE (zn (by rw[zL];lia)) ?_)⟩;rw[jo];have W6:=W5.setE (es1++[(bs.length:Int)+1]);refine iE6 lp _ _ _ _ O (iA8 rfl W6 nO (by rw[pE nOE];exact g5) ?_ (by simp) (by simp) (by simp;lia));refine I5.perm ?_ ?_
  .rw[lb1];show(y::(es1++[((bs.length:Int)+1)]++[(bs.length:Int)])).Perm (y::es1++[(bs.length:Int)]++[((bs.length+1:Nat):Int)])
   rw[show((bs.length+1:Nat):Int)=(bs.length:Int)+1 from rfl,fU,fU,cR,cR];exact List.Perm.cons _ (cy _ (List.Perm.swap ..))
  .rw[lb1,cR];exact eu (l₁:=[(bs.length:Int),(bs.length:Int)+1]) (l₂:=lp.toList)
 clear W3 I2 gO nO;intro σ' H5 p9;refine oE6 p9 λlp' bs' es' o1 o2 O' p6=>oA8 p6 λp8 W5 nO gO I5 b1 b2 le'=>?_;ext;exists⟨.inl ⟨rfl,_,SqL.of W5.hE⟩,iE3 E _ _ (iA5 rfl rfl W5.hE (zn (by rw[zL];lia)) ?_)⟩;rw[jo];have W6:=W5.setE (es'++[(bs.length:Int)]);have nOE:O'≠E:=λz=>nO (by simp[z]);have gO:upd H5 E (.lst (iv (es'++[(bs.length:Int)]))) O'=some (.lst (iv [o1,o2])):=by rw[pE nOE];exact gO
 generalize upd H5 E _=H6 at W6 gO ⊢;exists cut (λσ' H'=>∃(p1 p2:Int)(O2:Addr),σ'=stG L R E (oiV lp') c kk (some (.int bs.length)) (some (.int pk)) (some (.int y)) (some (.ref O2))/\Same H6 H'/\H' O2=some (.lst (iv [p1,p2]))/\[p1,p2].Perm [o1,o2]) ?_ ?_
 .exists uc (qL T).mono (iE3 c 10069 2 (iA4 rfl (by decide) (by decide) (λr _ _=>?_)));exists zT (λ_=>?_) (λ_=>(iE3 o1 o2 O' (iA4 rfl (Same.refl _) gO (bd _))));exists zq (SqL.of gO) (show atI _ 1=some (.int o2)from rfl) (zq (SqL.of gO) at0 λO2 hO2=>?_);exact iE3 o2 o1 O2 (iA4 rfl (zf hO2) pD (List.Perm.swap ..))
 intro σ' H7 p9;refine oE3 p9 λp1 p2 O2 p6=>oA4 p6 λp8 s7 g7 pm=>?_;ext;have W7:=W6.same s7;have m1:=I5.km (x:=p1) (bA _ (pm.mem_iff.mp (by simp)));have m2:=I5.km (x:=p2) (bA _ (pm.mem_iff.mp (by simp)));exists⟨.inl ⟨rfl,_,SqL.of W7.hR⟩,iE3 _ _ _ ⟨(zfp T).mono,⟨c,y,kk,p1,p2,O2,rfl,g7,nbs ym.1 (by lia) (nbs m1.1 (by lia) (nbs m2.1 (by lia) nb0)),k0,k1,λH8 r s8 r1 r2 r3=>?_⟩⟩⟩;have W8:=(W7.same s8).addR r rfl;refine iE3 R _ _ (iA5 rfl rfl (s8 _ _ W7.hR) (zn (by rw[jM];lia)) ?_);generalize upd H8 R _=H9 at W8 ⊢;left;exact k _ _ _ _ lp' W8 (I5.knot (r:=r) (by rw[r1]) (by rw[r2];exact pm.append_right _) r3) (by simp) (by lia) (by lia) (by simp)
noncomputable abbrev stK(l:Addr)(tp c:Int)(kl:Addr)(v4 v5 v6 v7 v8 v9 v10 v11:Aq):St:=[some (.ref l),some (.int tp),some (.int c),some (.ref kl),v4,v5,v6,v7,v8,v9,v10,v11]
inductive spText(K:A0)(vs:Ap)(H:Hp)(Q:VK)(E:XK):Prop
 |i (l:Addr) (ns:A6):vs=[.ref l,.int 8]->SqL K H l (iv ns)->(∀H' bs rs,Same H H'->zN bs rs->(∀b∈bs,zE b.1 b.2)->(∀r∈rs,r.ok)->Q (.str (QU bs rs)) H')->spText K vs H Q E
def WInv.el{rs:At}{es ks:A6}(h:WInv bs rs es ks):es.length<=bs.length:=by
 have:=h.tk.length_eq;rw[aH,JC]at this
 lia
def zil(ns:A6):∃cs:List Int,vm (iv ns) (some 1) none=iv cs:=by
 unfold vm;rw[show(some (1:Int))=some ((1:Nat):Int)from rfl,HT.sIx_nat,HT.sIx_none,zL];exact⟨(ns.drop (min 1 ns.length)).take (ns.length-min 1 ns.length),by simp[iv]⟩
def winv0:WInv [] [] [] []:=⟨bd _,bd _,(λ_ z=>nomatch z),(λ_ z=>nomatch z)⟩
theorem zhe(T:Txt K mg a):Cal P w K mg base "_law_text" 4 ["_law_cells","_law_top"] [] (spText K):=T.oB.cal λF=>by
 refine F.okx zey ?_ ?_
 .walk_at"i"
 walk_at"j";rcases h with⟨l,ns,rfl,hl,k⟩;walk_at"T";refine⟨_,(zh (zu 2 zey.nd ‹(pq 0) (za ze zb)›)  (zh (zu 3 zey.nd (qC jz (zO (za (Xh ‹(pq 0) (za ze zb)›) (za (Xh ‹(pq 0) (za ze zb)›) zb))) jn (qJ (zK qk ze ‹(pq 2) (za ze (za ze zb))›))))  (zh (zu 4 zey.nd (zO (za ‹(pq 2) zb› zb)))  (zh (zu 5 zey.nd ze)  (zh (zu 6 zey.nd (zO (za ze zb)))  (zh (zu 7 zey.nd zC)  (qF (zF (zm Q5 ‹(pq 2) (za ze (za ze zb))› ze (zr _))  (zh (zu 5 zey.nd ‹(pq 2) (za ze (za ze zb))›)  (zh (zu 4 zey.nd (zK qk (pq 4) (zO (za ‹(VZ (pq 2)) zb› (za ‹(VZ (pq 2)) zb› zb)))))  (zh (zu 6 zey.nd (zO (za ze zb)))  (zd (zu 7 zey.nd (zK x8 ze (pq 5)))))))  zp)  (zh (zu 8 zey.nd (zO (za (zA ⟨rfl,rfl,rfl⟩ hr (za zS (za (zK qk (zO (za (pq 5) (za (zK qk ze ‹(pq 2) (za ze (za ze zb))›) zb))) (pq 3)) zb))) zb)))  (qF (zF (zm wI (pq 7) zC (zr _))  (zd (zH (qA ar aA az zV (pq 8) (za (zA ⟨rfl,rfl,rfl⟩ hr (za zS (za (zO (za ze (za (pq 5) (za (pq 7) zb)))) zb))) zb))))  zp)  (qF (qy qQ rfl (qq (qC jz (pq 0) (qJ ze) jn)) (qu 9 zey.nd)  (zh (zF (zm Q5 (zK qk (zM zR zP (za (pq 4) zb)) ze) (pq 1) (zr _))  (zd zgd)  zp)  (zd (zu 7 zey.nd ‹(pq 4) (za (pq 8) (za (pq 6) (za (pq 7) (za (pq 9) (za (zo (pq 3) ze) zb)))))›))))  (qF (zF (zm wI (pq 7) zC (zr _))  (zh (zH (qA ar aA az zV (pq 8) (za (zA ⟨rfl,rfl,rfl⟩ hr (za zS (za (zO (za (qA ar d9 d8 Xp (pq 6) (za ze zb)) (za (pq 7) (za (zM zR zP (za (pq 4) zb)) zb)))) zb))) zb)))  (zh (zH (qA ar aA az zV (pq 6) (za (zM zR zP (za (pq 4) zb)) zb)))  (zd (zH (qA ar aA az zV (pq 4) (za ‹(VZ (pq 2)) zb› zb))))))  zp)  (qF (qy qQ rfl (qq (pq 6)) (qu 10 zey.nd)  (zd (zH (qA ar aA az zV (pq 8) (za (zA ⟨rfl,rfl,rfl⟩ hr (za zS (za (zO (za (pq 10) (za (zo (zO (za ze (za ze (za ze (za ze (za ze (za ze zb))))))) ‹(zK qk (pq 2) (zK vK (zK vK (pq 10) (pq 10)) ze)) (za ze (za ze zb))›) zb))) zb))) zb)))))  (zh (zu 11 zey.nd ‹(pq 2) (za ze (za (zM zR zP (za (pq 8) zb)) zb))›)  (zd (zl (qA c8 gX gW zdI zS (za (zK qk (zK qk (pq 4) (qC jz (pq 8) (qJ (pq 11)) jn)) (qC jz (pq 8) jn (qJ (pq 11)))) zb))))))))))))))))),?_⟩;exists uc (vZ T).mono (iE3 l ns 0 (iA3 rfl hl ?_));generalize vb ns 0=c;exists uc (vZ T).mono (iE3 l ns 2 (iA3 rfl hl ?_));exists uc (vZ T).mono (iE3 l ns 3 (iA3 rfl hl ?_));left;have x0:=bS (vb ns 2) (show(1000000000000000000000000000000:Int)≠0 by decide);have x1:=bO (vb ns 2) (show(0:Int)<1000000000000000000000000000000 by decide);have y0:=bS (vb ns 3) (show(1000000000000000000000000000000:Int)≠0 by decide);have y1:=bO (vb ns 3) (show(0:Int)<1000000000000000000000000000000 by decide);generalize vb ns 2%1000000000000000000000000000000=x at x0 x1 ⊢;generalize vb ns 3%1000000000000000000000000000000=y at y0 y1 ⊢;intro p1 h1;have s1:=zf (o:=.lst [.int x,.int y]) h1;refine uc (qL T).mono (iE3 c 10037 2 (iA4 rfl (by decide) (by decide) (λr r0 r2=>?_)));left;let⟨ks,eks,k1,k2,kk⟩:∃ks,vm [.int x,.int y] none (some (1+r))=iv ks/\1<=ks.length/\ks.length<=2/\XW ks:=by
  rcases(by lia:r=0\/r=1)with rfl|rfl
  .exact⟨[x],iA4 rfl (by simp) (by simp) (nb1 x0 x1 nb0)⟩
  .exact⟨[x,y],iA4 rfl (by simp) (by simp) (nb1 x0 x1 (nb1 y0 y1 nb0))⟩
 refine xZ (SqL.of pD) λkl hkl=>?_;rw[eks];replace s1:=s1.trans (zf (o:=.lst (iv ks)) hkl);have g1:upd (upd H p1 (.lst [.int x,.int y])) kl (.lst (iv ks)) kl=some (.lst (iv ks)):=pD;generalize upd (upd H p1 (.lst [.int x,.int y])) kl (.lst (iv ks))=H1 at s1 g1 ⊢;have hl1:=vp s1 hl;clear hl r0 r2 eks x0 x1 y0 y1 h1 hkl;exists uc (wy T).mono ⟨c,rfl,λH2 b0 s2 o0 L hL=>?_⟩;have gL:upd H2 L (.lst [.str (jw b0)]) L=some (.lst (bTx [b0])):=pD;have s3:=s2.trans (zf (o:=.lst [.str (jw b0)]) hL);have nL:=zw s2 hL;have w0:WInv [b0] [] [0] [0]:=winv0.belt o0;generalize upd H2 L (.lst [.str (jw b0)])=H3 at s3 gL ⊢;clear hL s2 o0;left;left;intro E hE;have gE:upd H3 E (.lst [.int 0]) E=some (.lst (iv [0])):=pD;have s4:=zf (o:=.lst [.int 0]) hE;have nE:=zw s3 hE;have nLE:L≠E:=λz=>by rw[<- z,gL]at hE;cases hE
 have gL4:=s4 _ _ gL;have s14:=s3.trans s4;generalize upd H3 E (.lst [.int 0])=H4 at gE gL4 s14 ⊢;clear s4 s3 gL hE;left;exists cut (λσ' H'=>∃(L E:Addr)(bs:A1)(es:A6)(fi:Int)(lp:A9),σ'=stK l 8 c kl (some (.ref L)) (some (.int fi)) (some (.ref E)) (some (oiV lp)) none none none none/\Same H1 H'/\H1 L=none/\H1 E=none/\L≠E/\H' L=some (.lst (bTx bs))/\H' E=some (.lst (iv es)) /\
  ((bs.length=1/\WInv bs [] [0] [0]/\fi=0/\lp=none/\es=[0])\/(bs.length=3/\WInv bs [] [0,1,2] [0,1,2]/\(fi=0\/fi=1)/\lp=some (1-fi)/\es=[2]))) ?_ ?_
 .exists uc (qL T).mono (iE3 c 10091 3 (iA4 rfl (by decide) (by decide) (λr _ _=>?_)));exists zT (λ_=>?_) (λ_=>(iE6 L E ([b0]) ([0]) 0 none (iA8 rfl s14 nL nE nLE gL4 gE (.inl (iA5 rfl w0 rfl rfl rfl)))));exists uc (qL T).mono (iE3 c 10133 2 (iA4 rfl (by decide) (by decide) (λfi f0 f1=>?_)));exists uc (wy T).mono ⟨_,rfl,λH5 b1 s5 o1=>(uc (wy T).mono ⟨_,rfl,λH6 b2 s6 o2=>λp hp=>?_⟩)⟩;have s7:=(s5.trans s6).trans (zf (o:=.lst [.str (jw b1),.str (jw b2)]) hp);refine jW (SqL.of (s7 _ _ gL4)) (SqL.of pD) (jx (by simp[bTx])) λLw hL2=>?_;have s8:=s7.trans (zf (o:=.lst (bTx [b0]++[.str (jw b1),.str (jw b2)])) hL2);have n8:=zw (s14.trans s7) hL2;have g8:upd (upd H6 p (.lst [.str (jw b1),.str (jw b2)])) Lw (.lst (bTx [b0]++[.str (jw b1),.str (jw b2)])) Lw=some (.lst (bTx [b0,b1,b2])):=pD;generalize upd (upd H6 p (.lst [.str (jw b1),.str (jw b2)])) Lw (.lst (bTx [b0]++[.str (jw b1),.str (jw b2)]))=H8 at s8 g8 ⊢;left;intro E2 hE2;have s9:=zf (o:=.lst [.int 2]) hE2;left;exact iE6 Lw E2 ([b0,b1,b2]) ([2]) fi (some (1-fi)) (iA8 rfl ((s14.trans s8).trans s9) n8 (zw (s14.trans s8) hE2) (λz=>by rw[<- z,g8]at hE2;cases hE2) (s9 _ _ g8) pD (.inr (iA5 rfl ((w0.belt o1).belt o2) (by lia) rfl rfl)))
 clear gL4 gE s14 nL nE nLE w0;intro σ' H5 p9;refine oE6 p9 λL E bs es fi lp p6=>oA8 p6 λp8 s5 nL nE nLE gL gE st=>?_;ext;exists uc (xo T).mono (uc (qL T).mono (iE3 c 10079 2 (iA4 rfl (by decide) (by decide) (λr r0 r2=>?_))));left;intro p hp;have s6:=zf (o:=.lst [.int fi,.int (1+r)]) hp;refine jW (SqL.of pD) (SqL.of (s6 _ _ (s5 _ _ g1))) (jx (by rw[zL];simp;lia)) λp2 hp2=>?_;have fb:0<=fi/\fi<1000:=by rcases st with⟨_,_,rfl,_⟩|⟨_,_,rfl|rfl,_⟩<;>decide
 refine iE3 _ p2 (fi::(1+r)::ks) (iA6 rfl (SqL.of pD) (by symm) (by simp;lia) (nbs fb.1 fb.2 (nbs (by lia) (by lia) kk)) (λH6 s7 R hR=>?_));have s57:=((s6.trans (zf (o:=.lst ([.int fi,.int (1+r)]++iv ks)) hp2)).trans s7).trans (zf (o:=.lst [.str (jS "source" (fi::(1+r)::ks))]) hR);have nR:H1 R=none:=zw (s5.trans ((s6.trans (zf hp2)).trans s7)) hR;have r6:H6 L=some (.lst (bTx bs))/\H6 E=some (.lst (iv es)):=⟨s7 _ _ (pG (s6 _ _ gL) hp2),s7 _ _ (pG (s6 _ _ gE) hp2)⟩;have W:GS (upd H6 R (.lst [.str (jS "source" (fi::(1+r)::ks))])) (upd H6 R (.lst [.str (jS "source" (fi::(1+r)::ks))])) L R E bs [⟨.source,[],[fi],1+r,ks⟩] es :=
  ⟨Fr.refl,(λe=>by rw[<- e,r6.1]at hR;cases hR),nLE,(λe=>by rw[e,r6.2]at hR;cases hR),s57 _ _ gL,pD,s57 _ _ gE⟩
 have n1:∀b∈ms3 L R E,H1 b=none:=λb hb=>by
  simp only[av,bL,cn]at hb;rcases hb with rfl|rfl|rfl
  .exact nL
  .exact nR
  .exact nE
 have s17:=s5.trans s57;generalize upd H6 R _=H7 at W s17 ⊢;clear s5 s6 s7 s57 nL nE nLE gL gE nR hR hp hp2 r6;left;let px:St->Hp->Prop:=λσ' H'=>∃rs,σ'=stK l 8 c kl (some (.ref L)) (some (.int fi)) (some (.ref E)) (some (oiV lp)) (some (.ref R)) none none none/\GS H7 H' L R E bs rs es/\WInv bs rs es lp.toList/\rs.length<=bs.length/\bs.length<=3/\es.length=1;refine cut px ?_ ?_
 .have ok:Row.ok ⟨.source,[],[fi],1+r,ks⟩:=⟨rfl,⟨_,rfl⟩,show(1:Int)<=1+r by lia,show 1+r<=4 by lia,k1,show ks.length<=6 by lia,kk⟩;rcases st with⟨l1,I,rfl,rfl,rfl⟩|⟨l3,I,hf,rfl,rfl⟩
  .left;exact⟨_,iA6 rfl W (I.knot (r:=⟨.source,[],[0],1+r,ks⟩) (bd _) (bd _) ok) (by simp[l1]) (by lia) rfl⟩
  .exists zT (λ_=>?_) (λz=>absurd (λq=>nomatch q) z);refine⟨.inl ⟨rfl,_,SqL.of W.hR⟩,iE3 _ _ _ ⟨(xo T).mono,λp hp=>?_⟩⟩;refine iE3 _ p ([2,fi,1-fi]) (iA6 rfl (SqL.of pD) (by symm) (by simp) (nbs (by decide) (by decide) (nbs fb.1 fb.2 (nbs (by lia) (by lia) nb0))) (λH9 s9=>?_));have W8:=W.same ((zf hp).trans s9);have W9:=W8.addR ⟨.joiner,[fi,1-fi],[2],0,[]⟩ (x:=jS "joiner" [2,fi,1-fi]) rfl;have pf:[fi,1-fi,2].Perm [0,1,2]:=by rcases hf with rfl|rfl<;>decide
   have I2:WInv bs [⟨.source,[],[fi],1+r,ks⟩] [0,1,2] [1-fi,2]:=I.knot (r:=⟨.source,[],[fi],1+r,ks⟩) (bd _) pf ok;exact iE3 R _ _ (iA5 rfl rfl W8.hR (zn (by rw[jM];simp)) ⟨_,iA6 rfl W9 (I2.knot (r:=⟨.joiner,[fi,1-fi],[2],0,[]⟩) pf (List.Perm.swap ..) ⟨⟨_,rfl⟩,by simp,by simp⟩) (by simp[l3]) (by lia) rfl⟩)
 clear W st;intro σ' H8 p9;refine oE1 p9 λrs p6=>oA6 p6 λp8 W I lr lb le=>?_;ext;have s8:Same H1 H8:=(s17.fr.trans W.f).same n1;left;let pB:St->Hp->Prop:=λσ' H'=>∃(v9:Aq)(lp:A9)(bs:A1)(rs:At)(es:A6),σ'=stK l 8 c kl (some (.ref L)) (some (.int fi)) (some (.ref E)) (some (oiV lp)) (some (.ref R)) v9 none none/\GS H7 H' L R E bs rs es/\WInv bs rs es lp.toList/\rs.length<=bs.length/\bs.length<=7/\1<=es.length;refine cut pB ?_ ?_
 .walk_at"c";exists xZ (vp s8 hl1) λp hp=>?_;let⟨cs,ecs⟩:=zil ns;rw[ecs];have W1:=W.same (zf (o:=.lst (iv cs)) hp);have np:=W.off hp;have gp:upd H8 p (.lst (iv cs)) p=some (.lst (iv cs)):=pD;generalize upd H8 p (.lst (iv cs))=H9 at W1 gp ⊢;refine⟨p,rfl,.inl ⟨⟨_,SqL.of gp⟩,?_⟩⟩;let pC:Nat->St->Hp->Prop:=λi σ' H'=>∃(v9:Aq)(lp:A9)(bs:A1)(rs:At)(es:A6),σ'=stK l 8 c kl (some (.ref L)) (some (.int fi)) (some (.ref E)) (some (oiV lp)) (some (.ref R)) v9 none none/\GS H7 H' L R E bs rs es/\WInv bs rs es lp.toList/\rs.length<=bs.length/\bs.length<=7/\1<=es.length/\H' p=some (.lst (iv cs));refine qM (K:=K) (a:=p) (xs:=iv cs) pC (iE5 _ lp bs rs es (iA7 rfl W1 I lr (by lia) (by lia) gp)) (λi σ H' _ h=>by let⟨_,_,_,_,_,_,_,_,_,_,_,g⟩:=h;exact SqL.of g) ?_ ?_
  .clear W1 gp W I lr lb le s8;intro i x σ' H10 hi p9;refine oE5 p9 λv9 lp bs rs es p6=>oA7 p6 λp8 W I lr lb le gp=>?_;ext;let⟨y,hy,rfl⟩:=Zw hi;have el:=I.el;have s10:Same H1 H10:=(s17.fr.trans W.f).same n1;let⟨k0,hk0⟩:∃k0,ks[0]?=some k0:=⟨ks[0]'(by lia),ac _⟩;have hk:=kk k0 (ah hk0);exists⟨_,.inl ⟨_,SqL.of W.hL,rfl⟩,?_⟩;rw[xp];exists zT (λ_=>(iE5 _ lp bs rs es (iA6 rfl W I lr lb le))) (λlt=>?_);exists uc (zfq T).mono (zq (SqL.of (s10 _ _ g1)) (show atI (iv ks) ((0:Nat):Int)=some (.int k0)from zt (qV hk0)) ?_);refine iE5 L R E bs rs (iE4 es lp y k0 (iA6 rfl W.here I hk.1 hk.2 (iA5 (by lia) (by lia) (by lia) le (λH11 bs2 rs2 es2 lp2 W2 I2 a1 a2 a3 a4=>?_))));exact iE5 _ lp2 bs2 rs2 es2 (iA7 rfl (W.trans W2) I2 (by lia) (by lia) a1 (W2.f _ _ np gp))
  .intro σ' H10 p9;refine oE5 p9 λv9 lp bs rs es p6=>oA7 p6 λp8 W I lr lb le gp=>?_;ext;exact iE5 _ lp bs rs es (iA6 rfl W I lr lb le)
 clear W I lr lb le s8;intro σ' H8 p9;refine oE5 p9 λv9 lp bs rs es p6=>oA6 p6 λp8 W I lr lb le=>?_;ext;left;let M4_:St->Hp->Prop:=λσ' H'=>∃(bs:A1)(rs:At)(es:A6),σ'=stK l 8 c kl (some (.ref L)) (some (.int fi)) (some (.ref E)) (some (oiV lp)) (some (.ref R)) v9 none none/\GS H7 H' L R E bs rs es/\WInv bs rs es []/\rs.length<=8/\bs.length<=8/\1<=es.length;refine cut M4_ ?_ ?_
 .left;cases lp with
  |none=>exact zT (λz=>absurd rfl z) (λ_=>⟨bs,rs,es,rfl,W,I,by lia,by lia,le⟩)
  |some x =>
   refine zT (λ_=>?_) (λz=>absurd (λq=>nomatch q) z);let⟨y,es2,rfl⟩:∃y es2,es=y::es2:=by cases es with|nil=>simp at le|cons x es2=>exact⟨x,es2,rfl⟩
   have el:=I.el;rw[aX]at el;have ym:=I.em (x:=y) (by simp);have xm:=I.km (x:=x) (by simp);exists⟨.inl ⟨rfl,_,SqL.of W.hR⟩,iE3 _ _ _ (iA3 ((xo T).mono) (.inl ⟨rfl,_,SqL.of W.hE⟩) (iE5 E (iv (y::es2)) 0 0 (.int y) (iA8 rfl rfl W.hE (by decide) (by decide) (Xd (by decide) (by simp[iv])) rfl ?_)))⟩;have W2:=W.setE es2;refine⟨iV,⟨_,⟨.inl ⟨_,SqL.of W2.hL,rfl⟩,?_⟩⟩⟩;rw[xp];refineλp hp=>(iE3 _ p ([y,x,(bs.length:Int)]) (iA6 rfl (SqL.of pD) (by symm) (by simp) (nbs ym.1 (by lia) (nbs xm.1 (by lia) (nbs (by lia) (by lia) nb0))) (λH11 s4=>?_)));have W3:=W2.same ((zf hp).trans s4);have W4:=W3.addR ⟨.parter,[y],[x,bs.length],0,[]⟩ (x:=jS "parter" [y,x,(bs.length:Int)]) rfl;refine iE3 R _ _ (iA5 rfl rfl W3.hR (zn (by rw[jM];lia)) ?_);generalize upd H11 R _=H12 at W4 ⊢;exists iA3 (.inl ⟨rfl,_,SqL.of W4.hE⟩) iV ⟨_,⟨.inl ⟨_,SqL.of W4.hL,rfl⟩,iE3 E _ _ (iA5 rfl rfl W4.hE (zn (by rw[zL];lia)) ?_)⟩⟩;rw[xp,jo];have W5:=W4.setE (es2++[(bs.length:Int)]);generalize upd H12 E _=H13 at W5 ⊢;exists⟨.inl ⟨rfl,_,SqL.of W5.hL⟩,iE3 _ _ _ ⟨(wy T).mono,⟨_,rfl,λH14 b s6 ob=>?_⟩⟩⟩;have W6:=W5.same s6;exact iE3 L _ _ (iA5 rfl rfl W6.hL (zn (by rw[xp];lia)) (iE3 _ _ _ (iA6 rfl (W6.addL b) ((I.belt ob).knot (r:=⟨.parter,[y],[x,bs.length],0,[]⟩) (bd _) (bd _) ⟨⟨_,rfl⟩,by simp,by simp⟩) (by simp;lia) (by simp;lia) (by simp))))
 clear W I lr lb le;intro σ' H8 p9;refine oE3 p9 λbs rs es p6=>oA6 p6 λp8 W I lr lb le=>?_;ext;have el:=I.el;have em:∀x∈es,0<=x/\x<8:=λx hx=>by have:=I.em hx;lia
 left;let M5_:St->Hp->Prop:=λσ' H'=>∃(v10:Aq)(rs:At),σ'=stK l 8 c kl (some (.ref L)) (some (.int fi)) (some (.ref E)) (some (oiV lp)) (some (.ref R)) v9 v10 none/\GS H7 H' L R E bs rs es/\WInv bs rs [] []/\rs.length<=16/\1<=rs.length;refine cut M5_ ?_ ?_
 .walk_at"c";exists⟨E,rfl,.inl ⟨⟨_,SqL.of W.hE⟩,?_⟩⟩;let M6_:Nat->St->Hp->Prop:=λi σ' H'=>∃(v10:Aq)(rs':At),σ'=stK l 8 c kl (some (.ref L)) (some (.int fi)) (some (.ref E)) (some (oiV lp)) (some (.ref R)) v9 v10 none/\GS H7 H' L R E bs rs' es/\WInv bs rs' (es.drop i) []/\rs'.length=rs.length+i;refine qM (K:=K) (a:=E) (xs:=iv es) M6_ (iE2 _ rs (iA4 rfl W I rfl)) (λi σ H' _ h=>by let⟨_,_,_,W,_⟩:=h;exact SqL.of W.hE) ?_ ?_
  .clear W I;intro i x σ' H9 hi p9;refine oE2 p9 λv10 rs' p6=>oA4 p6 λp8 W I lr'=>?_;ext;let⟨y,hy,rfl⟩:=Zw hi;have hil:=(aa.mp hy).1;let⟨y0,y8⟩:=em y (ah hy);exists⟨.inl ⟨rfl,_,SqL.of W.hR⟩,iE3 _ _ _ ⟨(xo T).mono,λp hp=>(uc (qL T).mono (iA3 (mul_okR (by lia) (by lia)) (mul_okR (by decide) (by decide)) (iE3 _ 10093 6 (iA4 rfl (by decide) (by decide) (λr r0 r6=>?_)))))⟩⟩;let⟨pc,hpc,ep⟩:=VY (ns:=[1,0,2,1,3,0]) r0 r6;refine zq (SqL.of pD) ep λp2 hp2=>?_;have pb:0<=pc/\pc<=4:=by
    simp only[av,bL,cn]at hpc
    lia
   clear ep hpc;refine iE3 _ p2 ([y,pc]) (iA6 rfl (SqL.of pD) (by symm) (by simp) (nbs y0 (by lia) (nbs pb.1 (by lia) nb0)) (λH11 s3=>?_));have W2:=W.same (((zf hp).trans (zf hp2)).trans s3);have W3:=W2.addR ⟨.drain,[y],[],pc,[]⟩ (x:=jS "drain" [y,pc]) rfl;refine iE3 R _ _ (iA5 rfl rfl W2.hR (zn (by rw[jM];lia)) (iE2 _ _ (iA4 rfl W3 (I.knot (r:=⟨.drain,[y],[],pc,[]⟩) ?_ (bd _) ⟨⟨_,rfl⟩,rfl,pb⟩) (by simp;lia))));rw[List.drop_eq_getElem_cons hil,(aa.mp hy).2];exact bd _
  .intro σ' H9 p9;refine oE2 p9 λv10 rs' p6=>oA4 p6 λp8 W I lr'=>?_;ext;rw[zL]at lr' I;rw[List.drop_length]at I;exact iE2 _ rs' (iA5 rfl W I (by lia) (by lia))
 clear W I lr le el em;intro σ' H8 p9;refine oE2 p9 λv10 rs p6=>oA5 p6 λp8 W I lr lr1=>?_;ext;have s8:Same H1 H8:=(s17.fr.trans W.f).same n1;exists uc (qL T).mono ⟨iV,⟨_,⟨.inl ⟨_,SqL.of W.hR,rfl⟩,iE3 c 10099 _ (iA4 rfl (by decide) (by rw[jM];lia) (λctI ct0 ct1=>?_))⟩⟩⟩;rw[jM]at ct1;let⟨ct,rfl⟩:∃m:Nat,ctI=m:=⟨ctI.toNat,by lia⟩;exists⟨Vv,xZ (SqL.of W.hR) λq1 hq1=>?_⟩;rw[wv (rTx rs) ct (by rw[jM];lia)];have a1:=zf (o:=.lst ((rTx rs).drop ct)) hq1;refine jW (SqL.of (a1 _ _ W.hL)) (SqL.of pD) (jx (by rw[xp,dW,jM];lia)) λq2 hq2=>?_;have a2:=a1.trans (zf (o:=.lst (bTx bs++(rTx rs).drop ct)) hq2);refine xZ (SqL.of (a2 _ _ W.hR)) λq3 hq3=>?_;rw[zg5 (rTx rs) ct];refine jW (SqL.of (pG pD hq3)) (SqL.of pD) (jx (by rw[aH,xp,dW,aQ,jM];lia)) λq4 hq4=>?_;have sA:=(a2.trans (zf (o:=.lst ((rTx rs).take ct)) hq3)).trans (zf (o:=.lst (bTx bs++(rTx rs).drop ct++(rTx rs).take ct)) hq4);let⟨pj,ro⟩:=I.work (zf4 rs ct) (by lia) (by lia) (by lia);have tl:=zdn pj I.bo ro;have e:bTx bs++(rTx rs).drop ct++(rTx rs).take ct=(jC bs (rs.drop ct++rs.take ct)).map V.str:=by simp[bTx,rTx,jC,dP]
 exact iE3 _ q4 (jC bs (rs.drop ct++rs.take ct)) (iA5 rfl rfl (by rw[pD,e]) (zek tl) (k _ _ _ ((s1.trans s8).trans sA) pj I.bo ro))
def XS(cs:Aj):Bool:=cs.all Zx
def zaf(x:Str):Option Nat:=if x.length<1\/30<x.length\/(x.cps.toList[0]?=some 48/\1<x.length)then none else if XS x.cps.toList=true then some (NumText.digitsVal x.cps.toList)else none
def zkE:Option Nat->V
 |none=>.non
 |some n=>.int n
def Xn(c:Nat):((⟨#[c]⟩:Str)=("0":Str))↔c=48:=by
 constructor
 .intro h;have h:(#[c]:Array Nat)=#[48]:=bn Str.cps h;simpa using h
 .rintro rfl;decide+kernel
def Wp{cs:Aj}(h:XS cs=true):NumText.AllDigits cs:=λc hc=>by
 have:=cJ.mp h c hc;simpa[Zx]using this
def zk2:Sp:=λvs H Q _=>∃x:Str,vs=[.str x]/\x.length<=sizeLine/\∀H',Same H H'->Q (zkE (zaf x)) H'
theorem Wl(T:Txt K mg a):Cal P w K mg base "number_from" 1 ["word"] [] zk2:=T.mv.cal λF=>by
 refine F.okx JZ ?_ ?_
 .walk_at"i"
 walk_at"k";refine oE1 h λx p6=>oA3 p6 λp8 hx k=>?_;clear p6 h;subst p8;let⟨t1,g1⟩:=T.ma;let⟨t2,g2⟩:=T.oi;walk_at"T";refine⟨_,(zi (zF (jp (jv jR jR ze (zM zR zP (za (pq 0) zb)) jG))  (zd (zl zC))  zp)  (zi (zF (jp (qz (zM (zhk rfl) zhh (za (jF (vars:=["sign"]) (caps:=[]) (N:=["sign"]) (ON:=["word"]) (osc:=zg xU) rfl rfl (by right) rfl rfl (zjm (pq 0)) (λ_ _ _ _=>(qu 0 (show(["sign"]:A8).Nodup from by symm))) (λ_ _ _ _=>qm) (λ_ _ _ _=>(Zg zjy (pq 0) jG (by with_unfolding_all rfl)))) zb)) (λ_=>rfl)))  (zd (zl zC))  zp)  (zi (zF (PW.pt (pw_and (zm (qB hr.units1) (zo (pq 0) ze) zS (zr _)) (pw_and1 (zm Q5 (zM zR zP (za (pq 0) zb)) ze (zr _)))))  (zd (zl zC))  zp)  (zd (zl (xL ziu zj7 (za (pq 0) zb))))))),?_⟩;exists⟨x.length,⟨hx,rfl⟩,?_⟩;left;have hlen:x.cps.toList.length=x.length:=aK;refine zT (λh1=>?_) (λh1=>?_)
 .refine iE2 (.int 30) _ (iA3 g1 ⟨_,rfl⟩ ?_);exists zT (λh2=>?_) (λh2=>?_)
  rotate_left
  .left;have:=k H (Same.refl _);unfold zaf at this;rw[ao (.inr (.inl (by lia)))]at this;exact this
  .walk_at"d";existsλ_ _ _ _ pv hacc=>?_;refine zkP (x:=x) (λi σ H'=>∃v,σ=[v]/\Same H H'/\H' pv=some (.lst (((x.cps.toList.take i).map Zx).map V.bl))) ⟨_,iA3 rfl (zf hacc) pD⟩ ?_ ?_
   .intro i c σ H' hi p9;refine oE1 p9 λv p6=>oA3 p6 λp8 sH ha=>?_;ext;have hil:i<x.length:=(be.mp hi).1;have hi':x.cps.toList[i]?=some c:=by rw[bK];exact hi
    exists iE2 (.str "0123456789") _ (iA3 g2 ⟨_,rfl⟩ (iE2 _ _ (iA3 rfl rfl ?_)));refine⟨_,iA3 ha (by rw[ai,ai,aQ];exact zn (by lia)) ⟨_,iA3 rfl (λb o hb=>by rw[pE (pF hb hacc)];exact sH b o hb) ?_⟩⟩;rw[pD,aI,hi',XJ,zh4];simp only[eY,ba,bF,gx];cases Zx c<;>rfl
   .intro σ H' p9;refine oE1 p9 λv p6=>oA3 p6 λp8 sH ha=>?_;ext;rw[cc (by rw[hlen];exact au _)]at ha;exists iE2 pv _ (iA3 rfl ha ?_);have hall:(x.cps.toList.map Zx).all id=XS x.cps.toList:=by rw[List.all_map];rfl
    rw[hall];left;cases hA:XS x.cps.toList with
    |false =>
     left;have:=k H' sH;unfold zaf at this;rw[hA]at this;by_cases hz:x.length<1\/30<x.length\/(x.cps.toList[0]?=some 48/\1<x.length)
     .rw[ao hz]at this;exact this
     .rw[ak hz,ak (by decide)]at this;exact this
    |true =>
     left;let⟨c,hc⟩:∃c,x.cps.toList[0]?=some c:=⟨_,ac (by lia)⟩;refine .inr (.inr (iE3 x 0 c (iA5 rfl rfl hx (by have:=zt hc;simpa using this) ?_)));left;have fin:¬(c=48/\1<x.length)->Q (V.int (NumText.digitsVal x.cps.toList:Nat)) H':=λhz=>by
      have:=k H' sH;unfold zaf at this;rw[ak (by rw[hc];intro z;rcases z with z|z|⟨z,z'⟩<;>first|lia|exact hz ⟨by simpa using z,z'⟩),ao hA]at this;exact this
     have fin2:¬(c=48/\1<x.length)->∃x_1 n,[V.str x]=[V.str x_1]/\PySem.intText? x_1=some n/\x_1.length<=640/\Q (V.int n) H':=λhz =>
      ⟨x,_,rfl,PySem.intText_digits (Wp hA) (λz=>by rw[z]at hlen;simp at hlen;lia) (by lia),by lia,fin hz⟩
     by_cases h48:c=48
     .subst h48;rw[ao ((Xn 48).mpr rfl)];exists⟨x.length,⟨hx,rfl⟩,?_⟩;exists zT (λh3=>?_) (λh3=>?_)
      .left;have:=k H' sH;unfold zaf at this;rw[ao (.inr (.inr ⟨hc,by lia⟩))]at this;exact this
      .left;exact fin2 (by lia)
     .rw[ak (λz=>h48 ((Xn c).mp z))];left;exact fin2 (by lia)
 .left;have:=k H (Same.refl _);unfold zaf at this;rw[ao (.inl (by lia))]at this;exact this
def zij(h0:0<=n)(h1:n<z9):zaf (jh n)=some n.toNat:=by
 let⟨m,rfl⟩:=gk h0;have hs:=gU m;have hl:(jh (m:Int)).length<=30:=PyProof.Rows.toString_length_le h0 (by decide) (by unfold z9 at h1;lia);have hlen:(jh (m:Int)).cps.toList.length=(jh (m:Int)).length:=aK;have hs:(jh (m:Int)).cps.toList=(Nat.toDigits 10 m).map Char.toNat:=hs;have hd:NumText.AllDigits (jh (m:Int)).cps.toList:=by
  intro c hc;rw[hs]at hc;let⟨ch,hch,e⟩:=aJ.mp hc;have r:=fY (fI (by decide) (by decide) hch);rw[<- e];exact r
 have hv:NumText.digitsVal (jh (m:Int)).cps.toList=m:=by rw[hs];exact PySem.W.KIN.val_back m
 have h1l:1<=(Nat.toDigits 10 m).length:=PySem.toDigits_len_ge 10 m;have hl2:(Nat.toDigits 10 m).length=(jh (m:Int)).length:=by rw[<- hlen,hs,ai]
 have nz:¬((jh (m:Int)).cps.toList[0]?=some 48/\1<(jh (m:Int)).length):=by
  rintro⟨z,z1⟩;have ta:=NumText.toDigits_all _ hd;rw[hv]at ta;generalize (jh (m:Int)).cps.toList=cs at z hlen ta;cases cs with
  |nil=>cases z
  |cons c r =>
   have z:c=48:=aF z;subst z;rw[List.dropWhile_cons_of_pos (by rfl)]at ta;have tl:=bn List.length ta;have dl:=(List.dropWhile_sublist (λx=>x == 48) (l:=r)).length_le;rw[aX]at hlen
   split at tl
   .simp at tl;lia
   .rename_i c' r' e;rw[e]at dl;rw[ai]at tl
    lia
 have hA:XS (jh (m:Int)).cps.toList=true:=cJ.mpr λc hc=>by
  have:=hd c hc;simp[Zx,this.1,this.2]
 unfold zaf;rw[ak (λw=>w.elim (λw=>by lia) λw=>w.elim (λw=>by lia) nz),ao hA,hv]
 rfl
def zc1(h0:0<=n):NumText.AllDigits (jh n).cps.toList:=by
 let⟨m,rfl⟩:=gk h0;have hs:(jh (m:Int)).cps.toList=(Nat.toDigits 10 m).map Char.toNat:=gU m;intro c hc;rw[hs]at hc;let⟨ch,hch,e⟩:=aJ.mp hc;have r:=fY (fI (by decide) (by decide) hch);rw[<- e];exact r
def zbN{c:Nat}(h0:0<=n)(hc:c<48):c∉(jh n).cps.toList:=λz=>by
 have:=zc1 h0 c z
 lia
def zkp:(Str.ofString " ")=(⟨#[32]⟩:Str):=by symm
def zla:(Str.ofString "\n")=(⟨#[10]⟩:Str):=by symm
theorem zbw{c d:Nat}:∀{xs:A8},c∈(Str.join ⟨#[d]⟩ xs).cps.toList->c=d\/∃x∈xs,c∈x.cps.toList
 |[],h=>nomatch h
 |[x],h=>.inr ⟨x,aU ..,h⟩
 |x::y::r,h=>by
  rw[Zj]at h;rcases aG.mp h with h|h
  .exact .inr ⟨x,aU ..,h⟩
  .rcases av.mp h with h|h
   .exact .inl h
   .rcases zbw h with h|⟨z,hz,h⟩
    .exact .inl h
    .exact .inr ⟨z,ay _ hz,h⟩
def zcT{nm:Str}(h:32∉nm.cps.toList)(hb:∀n∈ns,0<=n/\n<z9):Txt.split (jS nm ns) (Str.ofString " ")=nm::ns.map jh:=by
 unfold jS;rw[zkp];refine JP (by simp) λx hx=>?_;rcases av.mp hx with rfl|hx
 .exact h
 .obtain⟨n,hn,rfl⟩:=aJ.mp hx;exact zbN (hb n hn).1 (by decide)
def WQ{nm:Str}(h:10∉nm.cps.toList)(hb:∀n∈ns,0<=n/\n<z9):10∉(jS nm ns).cps.toList:=λz=>by
 unfold jS at z;rw[zkp]at z;rcases zbw z with zc|⟨x,hx,zx⟩
 .cases zc
 .rcases av.mp hx with rfl|hx
  .exact h zx
  .obtain⟨n,hn,rfl⟩:=aJ.mp hx;exact zbN (hb n hn).1 (by decide) zx
def zav(wd:Wd):32∉(wdS wd).cps.toList/\10∉(wdS wd).cps.toList:=by cases wd<;>exact⟨by symm,by symm⟩
def belt_free:32∉(Str.ofString "belt").cps.toList/\10∉(Str.ofString "belt").cps.toList:=⟨by symm,by symm⟩
def zcg{rs:At}(h:Told2 bs rs)(b1:1<=bs.length):Txt.split (QU bs rs) (Str.ofString "\n")=jC bs rs:=by
 unfold QU;rw[zla];refine JP (λz=>?_) λx hx=>?_
 .have:=bn List.length z;unfold jC at this;rw[aH,ai,ai,cO]at this
  lia
 .rcases aG.mp hx with hx|hx
  .obtain⟨b,hb,rfl⟩:=aJ.mp hx;exact WQ belt_free.2 (Zo (h.bo b hb))
  .obtain⟨r,hr,rfl⟩:=aJ.mp hx;exact WQ (zav _).2 (h.nb r hr)
def zfG{rs:At}(h:Told2 bs rs):(QU bs rs).length+2<=sizeLine:=by
 have h1:=StrLaws.join_length_le "\n" (jC bs rs);let⟨h2,h3⟩:=Wv h;have sl:=JA h3;have c:(Str.ofString "\n").length=1:=by symm
 rw[c]at h1;have:3000000<=sizeLine:=by decide
 unfold QU
 lia
theorem at1{x y:V}:atI [x,y] 1=some y:=rfl
def zhz(K:A0)(a:Ad):Sp:=λvs H Q _=>∃(l:Addr)(r:Row),vs=[.str (wdS r.wd),.ref l]/\H l=some (.lst (iv (qi r)))/\r.ok/\∀v' H',Same H H'->KnP a H' (New H) v' r->Q v' H'
theorem Wm(T:Txt K mg a):Cal P w K mg base "made_part" 4 ["name","numbers"] [] (zhz K a):=T.k8.cal λF=>by
 refine F.okx Z0 ?_ ?_
 .walk_at"i"
 walk_at"j";refine oE2 h λl p6 p8=>oA4 p8 λpw hl ok k=>?_;clear p8 h;let⟨wd,ins,outs,pc,ks⟩:=p6;subst pw;walk_at"T";refine⟨_,(zh (zu 2 Z0.nd (zM zR zP (za (pq 1) zb)))  (zh (zF (PW.pt (pw_and (zm (qB hr.units1) (pq 0) zS (zr _)) (pw_and1 (zm (qB hr.units1) (pq 2) ze (zr _)))))  (zd (zl (qW (x:="Belt") ⟨rfl,rfl,rfl⟩ hr (za (zo (pq 1) ze) (za (zo (pq 1) ze) zb)))))  zp)  (zh (zF (PW.pt (pw_and (zm (qB hr.units1) (pq 0) zS (zr _)) (pw_and1 (zm Q6 (pq 2) ze (zr _)))))  (zd (zl (qW (x:="Source") ⟨rfl,rfl,rfl⟩ hr (za (zo (pq 1) ze) (za (zo (pq 1) ze) (za (qC jz (pq 1) (qJ ze) jn) zb))))))  zp)  (zh (zF (PW.pt (pw_and (zm (qB hr.units1) (pq 0) zS (zr _)) (pw_and1 (zm (qB hr.units1) (pq 2) ze (zr _)))))  (zd (zl (qW (x:="Drain") ⟨rfl,rfl,rfl⟩ hr (za (zo (pq 1) ze) (za (zo (pq 1) ze) zb)))))  zp)  (zh (zF (PW.pt (pw_and (zm (qB hr.units1) (pq 0) zS (zr _)) (pw_and1 (zm Q6 (pq 2) ze (zr _)))))  (zd (zl (qW (x:="Parter") ⟨rfl,rfl,rfl⟩ hr (za (zo (pq 1) ze) (za (qC jz (pq 1) (qJ ze) jn) zb)))))  zp)  (zh (zF (PW.pt (pw_and (zm (qB hr.units1) (pq 0) zS (zr _)) (pw_and1 (zm Q6 (pq 2) ze (zr _)))))  (zd (zl (qW (x:="FirstParter") ⟨rfl,rfl,rfl⟩ hr (za (zo (pq 1) ze) (za (qC jz (pq 1) (qJ ze) jn) zb)))))  zp)  (zh (zF (PW.pt (pw_and (zm (qB hr.units1) (pq 0) zS (zr _)) (pw_and1 (zm (qB hr.units1) (pq 2) ze (zr _)))))  (zd (zl (qW (x:="Sieve") ⟨rfl,rfl,rfl⟩ hr (za (zo (pq 1) ze) (za (qC jz (pq 1) (qJ ze) (qJ ze)) (za (zo (pq 1) ze) zb))))))  zp)  (zh (zF (PW.pt (pw_and (zm (qB hr.units1) (pq 0) zS (zr _)) (pw_and1 (zm Q6 (pq 2) ze (zr _)))))  (zd (zl (qW (x:="Joiner") ⟨rfl,rfl,rfl⟩ hr (za (qC jz (pq 1) (qJ ze) jn) (za (zo (pq 1) ze) zb)))))  zp)  (zd (zl zC)))))))))),?_⟩;exists⟨_,.inl ⟨_,SqL.of hl,rfl⟩,?_⟩;left;cases wd
 .refine oA7 ok λq1 p6 q3 q4 q5 q6 q7=>?_;clear ok;let⟨ov,q2⟩:=p6;simp only at q1 q2 q3 q4 q5 q6 q7;subst q1 q2;have e:qi ⟨.source,[],[ov],pc,ks⟩=ov::pc::ks:=by simp[qi,wZ]
  rw[e]at hl;have hl:H l=some (.lst (.int ov::.int pc::iv ks)):=hl;exists zT (λ_=>zT (λ_=>?_) (λz=>absurd (by rw[e,zL];simp;lia) z)) (λz=>absurd rfl z);refine iE4 a.k _ _ _ ⟨(zbJ T).mono,zq (SqL.of hl) at0 (zq (SqL.of hl) (show atI _ 1=some (.int pc)from zt (j:=1) rfl) (xZ (SqL.of hl) λm3' hm3=>?_))⟩;rw[show vm (.int ov::.int pc::iv ks) (some 2) none=iv ks from(wv _ 2 (by simp)).trans rfl]at *;intro z dz hz hdz hne;have hm3':=pD (H:=H) (a:=m3') (o:=.lst (iv ks));refine iE6 z dz m3' (.int ov) pc ks (iA6 rfl pD (SqL.of (qD hz hdz hm3')) (pF hm3' hz) (λ_ H' m1 m2 m3 s' g1 g2 g3 g4 n1 n2 n3=>⟨rfl,?_⟩) (λhbad=>absurd (iA5 q3 q4 q5 q6 q7) hbad));exact k _ _ ((zf hm3).trans (Own.of_new hz hdz s')) (WW (p:=New H) (ins:=[]) (outs:=[ov]) (zI hz) (zI (zU n1)) (zI (zU n2)) (zI (zU n3)) g1 g2 g3 g4)
 .refine oA4 ok λp6 q2 q3 q4=>?_;clear ok;let⟨iv',q1⟩:=p6;simp only at q1 q2 q3 q4;subst q1 q2;have e:qi ⟨.drain,[iv'],[],pc,ks⟩=[iv',pc]:=by simp[qi,wZ]
  rw[e]at hl;have hl:H l=some (.lst [.int iv',.int pc]):=hl;exists zT (λ_=>zT (λ_=>?_) (λz=>absurd (by rw[e];rfl) z)) (λz=>absurd rfl z);refine iE4 a.l _ _ _ ⟨(zdN T).mono,zq (SqL.of hl) at0 (zq (SqL.of hl) at1 ?_)⟩;intro z dz hz hdz hne;refine iE4 z dz (.int iv') pc (iA3 rfl pD ?_);rw[ao ⟨q3,q4⟩];intro H' m1 m2 s' g1 g2 g3 n1 n2;exact⟨rfl,k _ _ (Own.of_new hz hdz s') (zbG (p:=New H) (ins:=[iv']) (outs:=[]) hz (zU n1) (zU n2) g1 g2 g3)⟩
 .obtain⟨⟨iv',q1⟩,q3,q4⟩:=ok;simp only at q1 q3 q4;subst q1;have e:qi ⟨.parter,[iv'],outs,pc,ks⟩=iv'::outs:=by simp[qi,wZ]
  rw[e]at hl;have hl:H l=some (.lst (.int iv'::iv outs)):=hl;exists zT (λ_=>zT (λ_=>?_) (λz=>absurd (by rw[e,zL];simp;lia) z)) (λz=>absurd rfl z);refine iE4 a.m _ _ _ ⟨(zbK T).mono,zq (SqL.of hl) at0 (xZ (SqL.of hl) λm3 hm3=>?_)⟩;rw[show vm (.int iv'::iv outs) (some 1) none=iv outs from(wv _ 1 (by simp)).trans rfl]at *;intro z dz hz hdz hne;have hm3':=pD (H:=H) (a:=m3) (o:=.lst (iv outs));refine iE5 z dz m3 (.int iv') (iv outs) (iA5 rfl pD (SqL.of (qD hz hdz hm3')) (pF hm3' hz) ?_);rw[ao (by rw[zL];exact⟨q3,q4⟩)];intro H' m1 m2 s' g1 g2 g3 n1 n2;exact⟨rfl,k _ _ ((zf hm3).trans (Own.of_new hz hdz s')) (WX (p:=New H) (ins:=[iv']) (outs:=outs) (zI hz) (zI (zU n1)) (zI (zU n2)) g1 g2 g3)⟩
 .obtain⟨⟨iv',q1⟩,q3,q4⟩:=ok;simp only at q1 q3 q4;subst q1;have e:qi ⟨.first,[iv'],outs,pc,ks⟩=iv'::outs:=by simp[qi,wZ]
  rw[e]at hl;have hl:H l=some (.lst (.int iv'::iv outs)):=hl;exists zT (λ_=>zT (λ_=>?_) (λz=>absurd (by rw[e,zL];simp;lia) z)) (λz=>absurd rfl z);refine iE4 a.n _ _ _ ⟨(Zv T).mono,zq (SqL.of hl) at0 (xZ (SqL.of hl) λm3 hm3=>?_)⟩;rw[show vm (.int iv'::iv outs) (some 1) none=iv outs from(wv _ 1 (by simp)).trans rfl]at *;intro z dz hz hdz hne;have hm3':=pD (H:=H) (a:=m3) (o:=.lst (iv outs));refine iE5 z dz m3 (.int iv') (iv outs) (iA5 rfl pD (SqL.of (qD hz hdz hm3')) (pF hm3' hz) ?_);rw[ao (by rw[zL];exact⟨q3,q4⟩)];intro H' m1 m2 s' g1 g2 g3 n1 n2;exact⟨rfl,k _ _ ((zf hm3).trans (Own.of_new hz hdz s')) (zbF (p:=New H) (ins:=[iv']) (outs:=outs) (zI hz) (zI (zU n1)) (zI (zU n2)) g1 g2 g3)⟩
 .refine oA3 ok λp6 q3 p8=>oE1 p8 λkk pw=>oA3 pw λq4 q5 q6=>?_;clear p8 pw ok;let⟨iv',q1⟩:=p6;simp only at q1 q3 q4;subst q1 q4;let⟨o1,o2,rfl⟩:∃o1 o2,outs=[o1,o2]:=by
   match outs,q3 with
   |[o1,o2],_=>exact⟨o1,o2,rfl⟩
  have e:qi ⟨.sieve,[iv'],[o1,o2],pc,[kk]⟩=[iv',o1,o2,kk]:=by simp[qi,wZ]
  rw[e]at hl;have hl:H l=some (.lst [.int iv',.int o1,.int o2,.int kk]):=hl;exists zT (λ_=>zT (λ_=>?_) (λz=>absurd (by rw[e];rfl) z)) (λz=>absurd rfl z);refine iE4 a.o _ _ _ ⟨(zdM T).mono,zq (SqL.of hl) at0 (xZ (SqL.of hl) λm3 hm3=>?_)⟩;rw[show vm [V.int iv',.int o1,.int o2,.int kk] (some 1) (some 3)=iv [o1,o2]from rfl]at *;refine zq (SqL.of (pG hl hm3)) (show atI _ 3=some (.int kk)from zt (j:=3) rfl) ?_;intro z dz hz hdz hne;have hm3':=pD (H:=H) (a:=m3) (o:=.lst (iv [o1,o2]));refine iE6 z dz m3 (.int iv') (iv [o1,o2]) kk (iA5 rfl pD (SqL.of (qD hz hdz hm3')) (pF hm3' hz) ?_);rw[ao (by rw[zL];exact⟨q3,q5,q6⟩)];intro H' m1 m2 s' g1 g2 g3 n1 n2;exact⟨rfl,k _ _ ((zf hm3).trans (Own.of_new hz hdz s')) (zbE (p:=New H) (ins:=[iv']) (outs:=[o1,o2]) (zI hz) (zI (zU n1)) (zI (zU n2)) g1 g2 g3)⟩
 .obtain⟨⟨ov,q1⟩,q3,q4⟩:=ok;simp only at q1 q3 q4;subst q1;have e:qi ⟨.joiner,ins,[ov],pc,ks⟩=ov::ins:=by simp[qi]
  rw[e]at hl;have hl:H l=some (.lst (.int ov::iv ins)):=hl;exists zT (λ_=>zT (λ_=>?_) (λz=>absurd (by rw[e,zL];simp;lia) z)) (λz=>absurd rfl z);refine iE4 a.p _ _ _ ⟨(zbL T).mono,xZ (SqL.of hl) λm3 hm3=>?_⟩;rw[show vm (.int ov::iv ins) (some 1) none=iv ins from(wv _ 1 (by simp)).trans rfl]at *;refine zq (SqL.of (pG hl hm3)) at0 ?_;intro z dz hz hdz hne;have hm3':=pD (H:=H) (a:=m3) (o:=.lst (iv ins));refine iE5 z dz m3 (.int ov) (iv ins) (iA5 rfl pD (SqL.of (qD hz hdz hm3')) (pF hm3' hz) ?_);rw[ao (by rw[zL];exact⟨q3,q4⟩)];intro H' m1 m2 s' g1 g2 g3 n1 n2;exact⟨rfl,k _ _ ((zf hm3).trans (Own.of_new hz hdz s')) (WY (p:=New H) (ins:=ins) (outs:=[ov]) (zI hz) (zI (zU n1)) (zI (zU n2)) g1 g2 g3)⟩
def zhA(a:Ad):Sp:=λvs H Q _=>∃(l:Addr)(b:Int×Int),vs=[.str "belt",.ref l]/\H l=some (.lst (iv [b.1,b.2]))/\zE b.1 b.2/\∀v' H',Same H H'->BtP a H' (New H) v' b->Q v' H'
def Wn(T:Txt K mg a):Cal P w K mg base "made_part" 4 ["name","numbers"] [] (zhA a):=T.k8.cal λF=>by
 refine F.okx Z0 ?_ ?_
 .walk_at"i"
 walk_at"j";refine oE2 h λl p6 p8=>oA4 p8 λpw hl ok k=>?_;clear p8 h;let⟨rm,pc⟩:=p6;subst pw;have hl:H l=some (.lst [.int rm,.int pc]):=hl;walk_at"T";refine⟨_,(zh (zu 2 Z0.nd (zM zR zP (za (pq 1) zb)))  (zh (zF (PW.pt (pw_and (zm (qB hr.units1) (pq 0) zS (zr _)) (pw_and1 (zm (qB hr.units1) (pq 2) ze (zr _)))))  (zd (zl (qW (x:="Belt") ⟨rfl,rfl,rfl⟩ hr (za (zo (pq 1) ze) (za (zo (pq 1) ze) zb)))))  zp)  (zh (zF (PW.pt (pw_and (zm (qB hr.units1) (pq 0) zS (zr _)) (pw_and1 (zm Q6 (pq 2) ze (zr _)))))  (zd (zl (qW (x:="Source") ⟨rfl,rfl,rfl⟩ hr (za (zo (pq 1) ze) (za (zo (pq 1) ze) (za (qC jz (pq 1) (qJ ze) jn) zb))))))  zp)  (zh (zF (PW.pt (pw_and (zm (qB hr.units1) (pq 0) zS (zr _)) (pw_and1 (zm (qB hr.units1) (pq 2) ze (zr _)))))  (zd (zl (qW (x:="Drain") ⟨rfl,rfl,rfl⟩ hr (za (zo (pq 1) ze) (za (zo (pq 1) ze) zb)))))  zp)  (zh (zF (PW.pt (pw_and (zm (qB hr.units1) (pq 0) zS (zr _)) (pw_and1 (zm Q6 (pq 2) ze (zr _)))))  (zd (zl (qW (x:="Parter") ⟨rfl,rfl,rfl⟩ hr (za (zo (pq 1) ze) (za (qC jz (pq 1) (qJ ze) jn) zb)))))  zp)  (zh (zF (PW.pt (pw_and (zm (qB hr.units1) (pq 0) zS (zr _)) (pw_and1 (zm Q6 (pq 2) ze (zr _)))))  (zd (zl (qW (x:="FirstParter") ⟨rfl,rfl,rfl⟩ hr (za (zo (pq 1) ze) (za (qC jz (pq 1) (qJ ze) jn) zb)))))  zp)  (zh (zF (PW.pt (pw_and (zm (qB hr.units1) (pq 0) zS (zr _)) (pw_and1 (zm (qB hr.units1) (pq 2) ze (zr _)))))  (zd (zl (qW (x:="Sieve") ⟨rfl,rfl,rfl⟩ hr (za (zo (pq 1) ze) (za (qC jz (pq 1) (qJ ze) (qJ ze)) (za (zo (pq 1) ze) zb))))))  zp)  (zh (zF (PW.pt (pw_and (zm (qB hr.units1) (pq 0) zS (zr _)) (pw_and1 (zm Q6 (pq 2) ze (zr _)))))  (zd (zl (qW (x:="Joiner") ⟨rfl,rfl,rfl⟩ hr (za (qC jz (pq 1) (qJ ze) jn) (za (zo (pq 1) ze) zb)))))  zp)  (zd (zl zC)))))))))),?_⟩;exists⟨_,.inl ⟨_,SqL.of hl,rfl⟩,?_⟩;exists iE4 a.i _ _ _ ⟨(zgK T).mono,zq (SqL.of hl) at0 (zq (SqL.of hl) at1 ?_)⟩;intro z dz hz hdz hne;refine iE4 z dz rm pc (iA3 rfl pD ?_);rw[ao ok,Zc];have sN:Same H (upd (upd H dz (.own z)) z (.ins a.i dz (bf rm pc))):=λb o h=>by rw[pE (pF h hz),pE (pF h hdz)];exact h
 exact⟨rfl,k _ _ sN (ziZ (p:=New H) hz pD)⟩
def zjz(ns:A6):inV .non (iv ns)=false:=by
 unfold inV iv;rw[List.any_map];exact List.any_eq_false.mpr λn _=>by simp[eqV]
def zhX(h0:0<=n)(h1:n<z9):zkE (zaf (jh n))=.int n:=by
 rw[zij h0 h1];show V.int (n.toNat:Int)=.int n
 rw[bU h0]
def zfM(S:Sp):Sp:=λvs H Q _=>∃(nm:Str)(ns:A6),vs=[.str (jS nm ns)]/\nm.length<=100/\32∉nm.cps.toList/\ns.length<=20/\(∀n∈ns,0<=n/\n<z9)/\∀(l:Addr)(H1:Hp)(E':XK),Same H H1->H1 l=some (.lst (iv ns))->S [.str nm,.ref l] H1 Q E'
def V2(T:Txt K mg a){S:Sp}(M:Cal P w K mg base "made_part" 4 ["name","numbers"] [] S)(F:Fun K "part_from" "part_from" xG f fd):FnOk P w K mg base (CXr P w) 5 f fd ["row"] (zfM S):=by
 refine F.okx VH ?_ ?_
 .walk_at"i"
 walk_at"j";refine oE2 h λnm ns p6=>oA6 p6 λp8 l100 fr len20 nb k=>?_;clear p6 h;subst p8;have ll:=Xw l100 len20 nb;have z3:3000000<=sizeLine:=by decide
 walk_at"T";refine⟨_,(zh (zu 1 VH.nd (qA c8 gc gz zbr (pq 0) (za zS zb)))  (zh (WM (i:=2) VH.nd rfl (Or.inl rfl) (vars:=["word"]) (caps:=[]) (N:=["word"]) (ON:=["row","words","numbers"]) (osc:=zg xG) rfl rfl (by right) rfl rfl (qq (qC jz (pq 1) (qJ ze) jn)) (λ_ _ _ _=>(qu 0 (show(["word"]:A8).Nodup from by symm))) (λ_ _ _ _=>qm) (λ_ _ _ _=>(vI hr (za (pq 0) zb))))  (zh (zF (zm zbl zC (pq 2) (by with_unfolding_all rfl))  (zd (zl zC))  zp)  (zd (zhP ⟨rfl,rfl,rfl⟩ rfl (λpn G=>(zd (zl ‹(zo (pq 1) ze) (za (pq 2) zb)›))) (λpn a=>(zd (zl zC))) (λpn a=>(zd (zl zC)))))))),?_⟩;exists⟨Vv,iE2 _ _ (iA5 rfl rfl (by symm) (by lia) (λwl hwl=>?_))⟩;rw[zcT fr nb];have s1:=zf (o:=.lst ((nm::ns.map jh).map V.str)) hwl;have g1:upd H wl (.lst ((nm::ns.map jh).map V.str)) wl=some (.lst (.str nm::(ns.map jh).map V.str)):=pD;generalize upd H wl _=H1 at s1 g1 ⊢;left;walk_at"d";exists xZ (SqL.of g1) λq1 hq1=>?_;rw[show vm (.str nm::(ns.map jh).map V.str) (some 1) none=(ns.map jh).map V.str from(wv _ 1 (by simp)).trans rfl]at *;have s2:=s1.trans (zf (o:=.lst ((ns.map jh).map V.str)) hq1);have g2:upd H1 q1 (.lst ((ns.map jh).map V.str)) q1=some (.lst ((ns.map jh).map V.str)):=pD;have gw:=zf (o:=.lst ((ns.map jh).map V.str)) hq1 _ _ g1;generalize upd H1 q1 _=H2 at s2 g2 gw ⊢;refine⟨q1,rfl,.inl ⟨⟨_,SqL.of g2⟩,λ_ _ _ _ pv hacc=>?_⟩⟩;refine qM (K:=K) (a:=q1) (xs:=(ns.map jh).map V.str) (λi σ H'=>∃v0,σ=[v0]/\Same H2 H'/\H' pv=some (.lst (iv (ns.take i)))) ⟨_,iA3 rfl (zf hacc) pD⟩ (λi σ H' _ h=>by let⟨_,_,s,_⟩:=h;exact SqL.of (s _ _ g2)) ?_ ?_
 .intro i x σ H3 hi p9;refine oE1 p9 λv0 p6=>oA3 p6 λp8 s3 g3=>?_;ext;rw[e6,am,aq]at hi;let⟨n,hn,rfl⟩:=hi;have hil:=(aa.mp hn).1;have nn:=nb n (ah hn);have il:=XE nn.1 nn.2;exists uc (Wl T).mono ⟨jh n,iA3 rfl (by lia) (λH4 s4=>?_)⟩;rw[zhX nn.1 nn.2];refine⟨_,iA3 (s4 _ _ g3) (zn (by rw[zL,aQ];lia)) ⟨_,iA3 rfl (λb o hb=>?_) ?_⟩⟩
  .rw[pE (pF hb hacc)];exact s4 _ _ (s3 b o hb)
  .rw[pD,jo,aI,hn];rfl
 intro σ H3 p9;refine oE1 p9 λv0 p6=>oA3 p6 λp8 s3 g3=>?_;ext;rw[ai,ai,aN]at g3;exists iE2 pv _ (iA5 rfl (.inl (SqL.of g3)) rfl (Qn _) ?_);rw[zjz];exists iE2 a.d a.e (iA5 T.mj T.oo T.ka T.oq (λpn=>?_));left;exact iE3 _ _ _ ⟨M.mono,zq (SqL.of (s3 _ _ gw)) at0 (k pv H3 _ (s2.trans s3) g3)⟩
def Je(T:Txt K mg a){S:Sp}(M:Cal P w K mg base "made_part" 4 ["name","numbers"] [] S):Cal P w K mg base "part_from" 5 ["row"] [] (zfM S):=T.ni.cal (V2 T M)
def zi9(K:A0)(a:Ad):Sp:=λvs H Q _=>∃(bs:A1)(rs:At),vs=[.str (QU bs rs)]/\zN bs rs/\Told2 bs rs/\∀v' H',Same H H'->Rep H' (Off []) v' (qG a bs rs)->Q v' H'
def zbZ(T:Txt K mg a):Cal P w K mg base "read_work" 7 ["text"] [] (zi9 K a):=T.nk.cal λF=>by
 refine F.okx VF ?_ ?_
 .walk_at"i"
 walk_at"j";refine oE2 h λbs rs p6=>oA4 p6 λp8 pj tl k=>?_;clear p6 h;subst p8;have b24:=tl.b24;have r24:=tl.r24;have tln:(jC bs rs).length=bs.length+rs.length:=by unfold jC;rw[aH,ai,ai]
 walk_at"T";refine⟨_,(zh (zu 1 VF.nd (zO zb))  (zh (zu 2 VF.nd (zO zb))  (qF (qy qQ rfl (qU (za (qA c8 gc gz zbr (pq 0) (za zS zb)) zb)) (wH (n:=2) rfl (qt (qu 3 VF.nd) (qt (qu 4 VF.nd) xj)))  (zh (zu 5 VF.nd ‹(pq 4) zb›)  (zd (zF (qz (zM xE qh (za (pq 5) (za jG zb))) (λ_=>rfl))  (zd (zH (qA ar aA az zV (pq 2) (za (pq 5) zb))))  (zd (zF (PW.pt (pw_and (qz (zM xE qh (za (pq 5) (za jG zb))) (λ_=>rfl)) (pw_and1 (zm (qB hr.units1) (zM zR zP (za (pq 2) zb)) ze (zr _)))))  (zd (zH (qA ar aA az zV (pq 1) (za (pq 5) zb))))  (zd zgc)))))))  (zd (zl (qW (x:="Work") ⟨rfl,rfl,rfl⟩ hr (za (pq 1) (za (pq 2) zb)))))))),?_⟩;left;intro B hB;left;intro R hR;have s1:=(zf (o:=.lst []) hB).trans (zf (o:=.lst []) hR);have nBR:B≠R:=pF pD hR;have gB:=pG (o:=.lst []) (pD (H:=H) (a:=B) (o:=.lst [])) hR;have gR:upd (upd H B (.lst [])) R (.lst []) R=some (.lst []):=pD;have nR:=zI hR;generalize upd (upd H B (.lst [])) R (.lst [])=H1 at s1 gB gR ⊢;have nw:∀m∈[B,R],H m=none:=λm hm=>by
  simp only[av,bL,cn]at hm;rcases hm with rfl|rfl
  .exact hB
  .exact nR
 exists cut (λσ' H'=>∃v3 v4 v5 bv kv,σ'=[some (.str (QU bs rs)),some (.ref B),some (.ref R),v3,v4,v5]/\Same H H'/\H' B=some (.lst bv)/\H' R=some (.lst kv)/\Bts a H' (Off [B,R]) bv bs/\Kns a H' (Off [B,R]) kv rs) ?_ ?_
 .walk_at"c";exists⟨Vv,iE2 _ _ (iA5 rfl rfl (by symm) (zfG tl) (λq hq=>?_))⟩;rw[zcg tl pj.1.1.1];have s2:=zf (o:=.lst ((jC bs rs).map V.str)) hq;have gq:upd H1 q (.lst ((jC bs rs).map V.str)) q=some (.lst ((jC bs rs).map V.str)):=pD;have nq:q∉[B,R]:=λz=>by
   simp only[av,bL,cn]at z;rcases z with rfl|rfl
   .rw[gB]at hq;cases hq
   .rw[gR]at hq;cases hq
  have gB2:=s2 _ _ gB;have gR2:=s2 _ _ gR;generalize upd H1 q _=H2 at s2 gq gB2 gR2 ⊢;refine iE2 q _ (iA3 rfl gq ?_);refine XH (K:=K) (a:=q) (xs:=(jC bs rs).map V.str) (λi σ' H'=>∃v3 v4 v5 bv kv,σ'=[some (.str (QU bs rs)),some (.ref B),some (.ref R),v3,v4,v5]/\Fr [B,R] H2 H'/\H' B=some (.lst bv)/\H' R=some (.lst kv)/\Bts a H' (Off [B,R]) bv (bs.take i)/\Kns a H' (Off [B,R]) kv (rs.take (i-bs.length)))
   ⟨_,_,_,[],[],rfl,Fr.refl,gB2,gR2,by rw[bW];exact .nil,by rw[Nat.zero_sub,bW];exact .nil⟩ (λi σ H' _ h=>by let⟨_,_,_,_,_,_,fr,_⟩:=h;exact SqL.of (fr _ _ nq gq)) ?_ ?_
  .intro i x t σ' H3 hi ht p9;refine oE5 p9 λv3 v4 v5 bv kv p6=>oA6 p6 λp8 f3 gB3 gR3 hb3 hk3=>?_;ext;rw[am,aq]at hi;let⟨ln,hln,rfl⟩:=hi;have off3:∀{b:Addr},H3 b=none->b∉[B,R]:=λ{b} hb z=>by
    simp only[av,bL,cn]at z;rcases z with rfl|rfl
    .rw[gB3]at hb;cases hb
    .rw[gR3]at hb;cases hb
   have s4:=zf (o:=.tup [.int i,.str ln]) ht;refine un2 pD ?_;generalize upd H3 t (.tup [.int i,.str ln])=H4 at s4 ⊢;left;by_cases hib:i<bs.length
   .have e:ln=jw bs[i]:=by
     unfold jC at hln;rw[aY (by rw[ai];exact hib),am,ac hib]at hln;exact(aF hln).symm
    subst e;have hbi:bs[i]?=some bs[i]:=ac hib;refine iE3 _ _ _ ⟨(Je T (Wn T)).mono,⟨_,_,rfl,by symm,belt_free.1,by show 2<=20;decide,Zo (tl.bo _ (cf hib)),λl H5 _ s5 g5=>(iE2 l (bs[i]) (iA4 rfl g5 (tl.bo _ (cf hib)) (λv' H5' s5' hBt=>?_)))⟩⟩;have hBt:=hBt.keep (q:=New H4) λb o hp hb=>⟨zw s5 hp,hb⟩;replace s5:=s5.trans s5';clear s5' g5;generalize H5'=H5 at s5 hBt ⊢;have s35:=s4.trans s5;refine oE3 hBt.inv λyb dxb fb p6=>oA5 p6 λp8 pyb hyb f1 f2=>?_;clear p6;subst p8;exists iE2 (.ref a.j) _ (iA3 T.oa rfl (iE4 _ _ _ _ (iA4 rfl (T.oh.ty T.i5 hyb) (.inl ⟨_,rfl,T.mX⟩) ?_)));exists iE2 (.ref a.i) _ (iA3 T.n9 rfl (iE4 _ _ _ _ (iA4 rfl (T.oh.ty T.i5 hyb) (.inl ⟨_,rfl,T.mY⟩) ?_)));exists⟨_,.inl ⟨_,SqL.of (s35 _ _ gR3),rfl⟩,?_⟩;rw[hk3.len,show i-bs.length=0 by lia,bW];exists⟨.inl ⟨rfl,_,SqL.of (s35 _ _ gB3)⟩,iE3 B bv _ (iA5 rfl rfl (s35 _ _ gB3) (zn (by rw[hb3.len,aQ];lia)) ?_)⟩;have f6:Fr [B,R] H5 (upd H5 B (.lst (bv++[.ref yb]))):=qZ (by simp);have f36:=s35.fr.trans f6;refine iE5 _ _ _ (bv++[.ref yb]) kv (iA6 rfl (f3.trans f36) pD (by rw[pE nBR.symm];exact s35 _ _ gR3) ?_ ?_)
    .rw[aI,hbi];exact Bts.push (hb3.keep λb o hp hb=>⟨hp,f36 _ _ hp hb⟩) (hBt.keep λb o hp hb=>⟨off3 (zw s4 hp),f6 _ _ (off3 (zw s4 hp)) hb⟩)
    .rw[show i+1-bs.length=i-bs.length by lia];exact hk3.keep λb o hp hb=>⟨hp,f36 _ _ hp hb⟩
   .have hjr:i-bs.length<rs.length:=by
     have:=(aa.mp hln).1;rw[tln]at this
     lia
    have hri:rs[i-bs.length]?=some rs[i-bs.length]:=ac hjr;have e:ln=zf3 rs[i-bs.length]:=by
     unfold jC at hln;rw[aS (by rw[ai];lia),ai,am,hri]at hln;exact(aF hln).symm
    have rm:=ah hri;generalize hrr:rs[i-bs.length]=r at e hri rm;subst e;refine iE3 _ _ _ ⟨(Je T (Wm T)).mono,⟨_,_,rfl,Vu _,(zav _).1,zbm (tl.ro r rm),tl.nb r rm,λl H5 _ s5 g5=>(iE2 l r (iA4 rfl g5 (tl.ro r rm) (λv' H5' s5' hKn=>?_)))⟩⟩;have hKn:=hKn.keep (q:=New H4) λb o hp hb=>⟨zw s5 hp,hb⟩;replace s5:=s5.trans s5';clear s5' g5;generalize H5'=H5 at s5 hKn ⊢;have s35:=s4.trans s5;refine oE6 hKn.inv λyk dxk m1 m2 m3 fk p6=>oA7 p6 λp8 _ _ _ _ hyk _=>?_;clear p6;subst p8;exists iE2 (.ref a.j) _ (iA3 T.oa rfl (iE4 _ _ _ _ (iA4 rfl ((WT T _).ty (CT T _) hyk) (.inl ⟨_,rfl,KT T _⟩) ?_)));exists⟨.inl ⟨rfl,_,SqL.of (s35 _ _ gR3)⟩,iE3 R kv _ (iA5 rfl rfl (s35 _ _ gR3) (zn (by rw[hk3.len,aQ];lia)) ?_)⟩;have f6:Fr [B,R] H5 (upd H5 R (.lst (kv++[.ref yk]))):=qZ (by simp);have f36:=s35.fr.trans f6;refine iE5 _ _ _ bv (kv++[.ref yk]) (iA6 rfl (f3.trans f36) (by rw[pE nBR];exact s35 _ _ gB3) pD ?_ ?_)
    .rw[cc (by lia)]at hb3 ⊢;exact hb3.keep λb o hp hb=>⟨hp,f36 _ _ hp hb⟩
    .rw[show i+1-bs.length=(i-bs.length)+1 by lia,aI,hri];exact Kns.append (hk3.keep λb o hp hb=>⟨hp,f36 _ _ hp hb⟩) (Kns.one (hKn.keep λb o hp hb=>⟨off3 (zw s4 hp),f6 _ _ (off3 (zw s4 hp)) hb⟩))
  .intro σ' H3 p9;refine oE5 p9 λv3 v4 v5 bv kv p6=>oA6 p6 λp8 f3 gB3 gR3 hb3 hk3=>?_;ext;rw[ai,tln]at hb3 hk3;rw[cc (by lia)]at hb3;rw[show bs.length+rs.length-bs.length=rs.length by lia,aN]at hk3;exact iE5 _ _ _ bv kv (iA6 rfl (((s1.trans s2).fr.trans f3).same nw) gB3 gR3 hb3 hk3)
 intro σ' H3 p9;refine oE5 p9 λv3 v4 v5 bv kv p6=>oA6 p6 λp8 s3 gB3 gR3 hb3 hk3=>?_;ext;exists iE4 a.r _ _ _ ⟨(zjM T).mono,?_⟩;intro y dy hy hdy hne;refine⟨y,dy,B,R,bv,kv,bs,rs,λb=>b≠y,rfl,pD,pF gB3 hy,pF gR3 hy,λ_ h=>h,qD hy hdy gB3,qD hy hdy gR3,
  hb3.keep λb o _ hb=>⟨pF hb hy,qD hy hdy hb⟩,hk3.keep λb o _ hb=>⟨pF hb hy,qD hy hdy hb⟩,tl.bo,tl.ro,by rw[pj.2.1.length_eq,JC];lia,by rw[pj.2.2.length_eq,JC];lia,by lia,λ_ H4 m1 m2 bv kv o4 g0 g1 g2 gB gK n1 n2=>⟨rfl,?_⟩,λz=>absurd pj z⟩
 refine k _ _ (s3.trans (Own.of_new hy hdy o4)) ?_;rw[zki]at g0;exact wG (λz=>nomatch z) g0 rfl (.cons (gB.reps.all.mk' (λz=>nomatch z) g1) (.cons (gK.reps.all.mk' (λz=>nomatch z) g2) .nil))
def Told(H:Hp)(v:V)(r:Option Ap):Prop:=match r with
 |none=>v=.non
 |some xs=>∃p,v=.ref p/\H p=some (.tup xs)
def Told.same{H H':Hp}{r:Option Ap}(h:Told H v r)(s:Same H H'):Told H' v r:=by
 cases r with
 |none=>exact h
 |some xs=>exact let⟨p,e,hp⟩:=h;⟨p,e,s _ _ hp⟩
noncomputable def VC(side:V)(p:Int)(t:Int)(b:Bool):Option Ap:=if b=true/\t%p=0 then some [.non,.int 0,side]else none
def JR(K:A0)(C:Addr):Sp:=λvs H Q _=>∃(y dx l1 l2 l3 fl:Addr)(p t:Int)(hs side:V)(b:Bool)(bs:Ap),vs=[.ref y,hs,.ref fl,.int t,side]/\H y=some (.ins C dx (sf l1 l2 p l3))/\1<=p /\
 SqL K H fl (.bl b::bs)/\∀v H',Same H H'->Told H' v (VC side p t b)->Q v H'
theorem Jo(T:Txt K mg a):MCal P w K mg base a.k "choice" 1 ["self","heads","free","turn","side"] [] (JR K a.k):=T.lH.cal T.iS λF=>by
 refine F.okx Qz ?_ ?_
 .walk_at"i"
 walk_at"k";refine oE8 h λy dx l1 l2 l3 fl p t p6=>oE4 p6 λhs side b bs p8=>oA5 p8 λpw hy p1 hf k=>?_;clear p6 p8 h;subst pw;unfold VC at k;walk_at"T";refine⟨_,(zi (zF (PW.pt (pw_or (jp (qz (zo (pq 2) ze) (λ_=>rfl))) (pw_or1 (zm (Q4 hr.units1) (zK js (pq 3) (zk (pq 0) rfl)) ze (zr _)))))  (zd (zl zC))  zp)  (zd (zl (jq (za zC (za ze (za (pq 4) zb))))))),?_⟩;exists zq hf at0 ?_;left;cases b with
 |false =>
  rw[ak (by simp)]at k;left;exact k _ _ (Same.refl _) rfl
 |true =>
  exists ra hy T.iS T.i6 zhF ?_;exists zT (λh=>?_) (λh=>?_)
  .rw[ak (λz=>h z.2)]at k;left;exact k _ _ (Same.refl _) rfl
  .rw[ao ⟨rfl,ie h⟩]at k;left;intro q hq;exact k _ _ (zf hq) ⟨q,rfl,pD⟩
noncomputable def zdc(side:V)(p:Int)(t:Int)(hd:V):Option Ap:=if p=0\/hd=.non\/t%p≠0 then none else some [.int 0,.non,side]
def XZ(K:A0)(C:Addr):Sp:=λvs H Q _=>∃(y dx l1 l2 hl:Addr)(p t:Int)(fr side:V)(hd:V)(hs:Ap),vs=[.ref y,.ref hl,fr,.int t,side]/\H y=some (.ins C dx (df l1 l2 p))/\0<=p/\p<=4 /\
 SqL K H hl (hd::hs)/\∀v H',Same H H'->Told H' v (zdc side p t hd)->Q v H'
def Xv(T:Txt K mg a):MCal P w K mg base a.l "choice" 1 ["self","heads","free","turn","side"] [] (XZ K a.l):=T.lY.cal T.iZ λF=>by
 refine F.okx Jm ?_ ?_
 .walk_at"i"
 walk_at"k";refine oE8 h λy dx l1 l2 hl p t fr p6=>oE3 p6 λside hd hs p8=>oA6 p8 λpw hy p0 p4 hh k=>?_;clear p6 p8 h;subst pw;unfold zdc at k;walk_at"T";refine⟨_,(zi (zF (zm (qB hr.units1) (zk (pq 0) rfl) ze (zr _))  (zd (zl zC))  zp)  (zi (zF (PW.pt (pw_or (zm jr (zo (pq 1) ze) zC (zr _)) (pw_or1 (zm (Q4 hr.units1) (zK js (pq 3) (zk (pq 0) rfl)) ze (zr _)))))  (zd (zl zC))  zp)  (zd (zl (jq (za ze (za zC (za (pq 4) zb)))))))),?_⟩;exists ra hy T.iZ T.iW zag ?_;exists zT (λh1=>?_) (λh1=>?_)
 .rw[ao (.inl h1)]at k;left;exact k _ _ (Same.refl _) rfl
 .exists zq hh at0 ?_;exists zT (λh2=>?_) (λh2=>?_)
  .rw[ao (.inr (.inl h2))]at k;left;exact k _ _ (Same.refl _) rfl
  .exists ra hy T.iZ T.iW zag ?_;exists And.intro (by lia) ?_;refine zT (λh3=>?_) (λh3=>?_)
   .rw[ao (.inr (.inr h3))]at k;left;exact k _ _ (Same.refl _) rfl
   .rw[ak (λz=>z.elim h1 λz=>z.elim h2 h3)]at k;left;intro q hq;exact k _ _ (zf hq) ⟨q,rfl,pD⟩
noncomputable def ziR(n:Nat)(p:Option Nat):Option Ap:=p.map λ(p:Nat)=>[.int 0,.int p,.int ((p+1)%n:Nat)]
def JS(K:A0)(C:Addr):Sp:=λvs H Q _=>∃(y dx l1 l2 hl fl:Addr)(turn:V)(side:Nat)(hd:V)(hs outs:Ap)(bs:Ai),vs=[.ref y,.ref hl,.ref fl,turn,.int side]/\H y=some (.ins C dx (kf l1 l2))/\H l2=some (.lst outs) /\
 SqL K H hl (hd::hs)/\SqL K H fl (bs.map V.bl)/\bs.length=outs.length/\bs.length<=1000 /\
 ∀v H',Same H H'->Told H' v (if hd=.non then none else ziR bs.length (jU bs side))->Q v H'
theorem Jq(T:Txt K mg a):MCal P w K mg base a.m "choice" 3 ["self","heads","free","turn","side"] [] (JS K a.m):=T.lJ.cal T.i8 λF=>by
 refine F.okx QB ?_ ?_
 .walk_at"i"
 walk_at"k";refine oE8 h λy dx l1 l2 hl fl turn side p6=>oE4 p6 λhd hs outs bs p8=>oA8 p8 λpw hy h2 hh hf hbl hb k=>?_;clear p6 p8 h;subst pw;walk_at"T";refine⟨_,(zi (zu 5 QB.nd ‹(zo (pq 1) ze) (za (pq 2) (za (pq 4) zb))›)  (zi (zF (zm jr (pq 5) zC (zr _))  (zd (zl zC))  zp)  (zd (zl (jq (za ze (za (pq 5) (za (zK js (zK qk (pq 5) ze) (zM zR zP (za (zk (pq 0) rfl) zb))) zb)))))))),?_⟩;exists iE3 _ _ _ ⟨wx T,zq hh at0 (iE4 hd fl bs side (iA4 rfl hf hb ?_))⟩;by_cases hn:hd=.non
 .rw[ao hn]at k ⊢;left;exact k _ _ (Same.refl _) rfl
 .rw[ak hn]at k ⊢;cases hp:jU bs side with
  |none =>
   rw[hp]at k;simp only[Zq];left;exact k _ _ (Same.refl _) rfl
  |some p =>
   rw[hp]at k;simp only[Zq];have hlt:=wu hp;exists ra hy T.i8 T.i7 zia ⟨_,.inl ⟨_,SqL.of h2,rfl⟩,?_⟩;left;rw[<- hbl];refine And.intro (by lia) ?_;left;intro q hq;have e:((p:Int)+1)%(bs.length:Int)=(((p+1)%bs.length:Nat):Int):=by push_cast;rfl
   rw[e];exact k _ _ (zf hq) ⟨q,rfl,pD⟩
noncomputable def zg0(side:V)(p:Option Nat):Option Ap:=p.map λ(p:Nat)=>[.int 0,.int p,side]
def XY(K:A0):Sp:=λvs H Q _=>∃(y hl fl:Addr)(turn side:V)(hd:V)(hs:Ap)(bs:Ai),vs=[.ref y,.ref hl,.ref fl,turn,side] /\
 SqL K H hl (hd::hs)/\SqL K H fl (bs.map V.bl)/\bs.length<=1000/\∀v H',Same H H'->Told H' v (if hd=.non then none else zg0 side (jU bs 0))->Q v H'
theorem vQ(T:Txt K mg a):MCal P w K mg base a.n "choice" 3 ["self","heads","free","turn","side"] [] (XY K):=T.kG.cal T.iR λF=>by
 refine F.okx vh ?_ ?_
 .walk_at"i"
 walk_at"k";refine oE8 h λy hl fl turn side hd hs bs p6=>oA5 p6 λp8 hh hf hb k=>?_;clear p6 h;subst p8;walk_at"T";refine⟨_,(zi (zu 5 vh.nd ‹(zo (pq 1) ze) (za (pq 2) (za ze zb))›)  (zi (zF (zm jr (pq 5) zC (zr _))  (zd (zl zC))  zp)  (zd (zl (jq (za ze (za (pq 5) (za (pq 4) zb)))))))),?_⟩;exists iE3 _ _ _ ⟨wx T,zq hh at0 (iE4 hd fl bs 0 (iA4 rfl hf hb ?_))⟩;by_cases hn:hd=.non
 .rw[ao hn]at k ⊢;left;exact k _ _ (Same.refl _) rfl
 .rw[ak hn]at k ⊢;cases hp:jU bs 0 with
  |none =>
   rw[hp]at k;simp only[Zq];left;exact k _ _ (Same.refl _) rfl
  |some p =>
   rw[hp]at k;simp only[Zq];left;intro q hq;exact k _ _ (zf hq) ⟨q,rfl,pD⟩
def zhy(C:Addr):Sp:=λvs H Q _=>∃(y dx l1 l2:Addr)(n j:Int),vs=[.ref y,.int j]/\H y=some (.ins C dx (vf l1 l2 n))/\Q (.int (if j=n then 0 else 1)) H
def Wi(T:Txt K mg a):MCal P w K mg base a.o "place_for" 1 ["self","kind"] [] (zhy a.o):=T.kU.cal T.iU λF=>by
 refine F.okx ZF ?_ ?_
 .walk_at"i"
 walk_at"k";refine oE6 h λy dx l1 l2 n j p6=>oA3 p6 λp8 hy k=>?_;clear p6 h;subst p8;walk_at"T";refine⟨_,(zd (zl (wq (zm (qB hr.units1) (pq 1) (zk (pq 0) rfl) (zr _)) ze ze))),?_⟩;exists ra hy T.iU T.kr zhs ?_;exists zT (λh=>?_) (λh=>?_)
 .rw[ao h]at k;left;exact k
 .rw[ak h]at k;left;exact k
noncomputable def zcp(side:V)(n:Int)(bs:Ai)(hd:V):Option Ap:=if hd=.non then none else if bs.getD (if hd=.int n then 0 else 1) false=true then some [.int 0,.int (if hd=.int n then 0 else 1),side]else none
def XX(K:A0)(C:Addr):Sp:=λvs H Q _=>∃(y dx l1 l2 hl fl:Addr)(n:Int)(turn side:V)(hd:V)(hs:Ap)(bs:Ai),vs=[.ref y,.ref hl,.ref fl,turn,side]/\H y=some (.ins C dx (vf l1 l2 n)) /\
 SqL K H hl (hd::hs)/\(hd=.non\/∃j,hd=.int j)/\SqL K H fl (bs.map V.bl)/\bs.length=2/\∀v H',Same H H'->Told H' v (zcp side n bs hd)->Q v H'
theorem Xs(T:Txt K mg a):MCal P w K mg base a.o "choice" 2 ["self","heads","free","turn","side"] [] (XX K a.o):=T.l5.cal T.iU λF=>by
 refine F.okx Jj ?_ ?_
 .walk_at"i"
 walk_at"k";refine oE8 h λy dx l1 l2 hl fl n turn p6=>oE4 p6 λside hd hs bs p8=>oA7 p8 λpw hy hh hhd hf hb k=>?_;clear p6 p8 h;subst pw;walk_at"T";refine⟨_,(zi (zF (zm jr (zo (pq 1) ze) zC (zr _))  (zd (zl zC))  zp)  (zi (zu 5 Jj.nd (QH ⟨rfl,rfl,rfl⟩ hr (pq 0) (za (zo (pq 1) ze) zb)))  (zi (zF (jp (qz (zo (pq 2) (pq 5)) (λ_=>rfl)))  (zd (zl zC))  zp)  (zd (zl (jq (za ze (za (pq 5) (za (pq 4) zb))))))))),?_⟩;exists zq hh at0 ?_;rcases hhd with rfl|⟨j,rfl⟩
 .left;exact k _ _ (Same.refl _) rfl
 .exists iE7 y a.o dx _ _ _ _ (iA5 rfl hy (zkj (by symm) (by symm) (by symm)) (Wi T) (zq hh at0 (iE6 y dx l1 l2 n j (iA3 rfl hy ?_))));left;let⟨pp,hpp,hp2⟩:∃pp:Nat,(if j=n then(0:Int)else 1)=pp/\pp<2:=by split;exact⟨0,rfl,by decide⟩;exact⟨1,rfl,by decide⟩
  have e1:(if V.int j=V.int n then(0:Nat)else 1)=pp:=by
   by_cases h:j=n
   .rw[ao h]at hpp;rw[ao (by rw[h])];lia
   .rw[ak h]at hpp;rw[ak (λz=>h (by cases z;rfl))];lia
  have e2:(if V.int j=V.int n then(0:Int)else 1)=pp:=by
   by_cases h:j=n
   .rw[ao h]at hpp;rw[ao (by rw[h])];lia
   .rw[ak h]at hpp;rw[ak (λz=>h (by cases z;rfl))];lia
  rw[hpp];have hlt:pp<bs.length:=by lia
  refine zq hf (zt (by rw[am,ac hlt];rfl)) ?_;have eg:bs.getD pp false=bs[pp]:=by simp[hlt]
  unfold zcp at k;rw[ak (by intro z;cases z),e1,e2,eg]at k;left;cases hbb:bs[pp]with
  |true =>
   rw[hbb,ao rfl]at k;left;intro q hq;exact k _ _ (zf hq) ⟨q,rfl,pD⟩
  |false =>
   rw[hbb,ak (by decide)]at k;left;exact k _ _ (Same.refl _) rfl
noncomputable def ziV(n:Nat)(p:Option Nat):Option Ap:=p.map λ(p:Nat)=>[.int p,.int 0,.int ((p+1)%n:Nat)]
noncomputable def there(hs:Ap):List Bool:=hs.map λh=>!decide (h=.non)
def JU(K:A0)(C:Addr):Sp:=λvs H Q _=>∃(y dx l1 l2 hl fl:Addr)(turn:V)(side:Nat)(hs ins:Ap)(b:Bool)(bs:Ap),vs=[.ref y,.ref hl,.ref fl,turn,.int side]/\H y=some (.ins C dx (kf l1 l2))/\H l1=some (.lst ins) /\
 SqL K H hl hs/\SqL K H fl (.bl b::bs)/\hs.length=ins.length/\hs.length<=900/\∀v H',Same H H'->Told H' v (if b=true then ziV hs.length (jU (there hs) side)else none)->Q v H'
theorem Js(T:Txt K mg a):MCal P w K mg base a.p "choice" 2 ["self","heads","free","turn","side"] [] (JU K a.p):=T.lM.cal T.i9 λF=>by
 refine F.okx QD ?_ ?_
 .walk_at"i"
 walk_at"k";refine oE8 h λy dx l1 l2 hl fl turn side p6=>oE4 p6 λhs ins b bs p8=>oA8 p8 λpw hy h1 hh hf hlen hb k=>?_;clear p6 p8 h;subst pw;walk_at"T";refine⟨_,(zi (zF (jp (qz (zo (pq 2) ze) (λ_=>rfl)))  (zd (zl zC))  zp)  (zi (zu 5 QD.nd ‹(jF (vars:=["head"]) (caps:=[]) (N:=["head"]) (ON:=["self","heads","free","turn","side","place"]) (osc:=zg j9) rfl rfl (by right) rfl rfl (qq (pq 1)) (λ_ _ _ _=>(qu 0 (show(["head"]:A8).Nodup from by symm))) (λ_ _ _ _=>qm) (λ_ _ _ _=>(Zg op_notN (pq 0) zC (zr _)))) (za (pq 4) zb)›)  (zi (zF (zm jr (pq 5) zC (zr _))  (zd (zl zC))  zp)  (zd (zl (jq (za (pq 5) (za ze (za (zK js (zK qk (pq 5) ze) (zM zR zP (za (zk (pq 0) rfl) zb))) zb))))))))),?_⟩;exists zq hf at0 ?_;left;cases b with
 |false =>
  rw[ak (by decide)]at k;left;exact k _ _ (Same.refl _) rfl
 |true =>
  rw[ao rfl]at k;exists iE3 _ _ _ ⟨Zz T,?_⟩;walk_at"d";exists⟨hl,rfl,.inl ⟨⟨_,hh⟩,λ_ _ _ _ pv hacc=>?_⟩⟩;refine qM (K:=K) (a:=hl) (xs:=hs) (λi σ H'=>∃(v:Aq),σ=[v]/\Same H H'/\H' pv=some (.lst ((there (hs.take i)).map V.bl))) ⟨_,iA3 rfl (zf hacc) pD⟩ (λi σ H' _ ⟨_,_,s,_⟩=>s.seq hh) ?_ ?_
  .intro i x σ H' hi p9;refine oE1 p9 λv p6=>oA3 p6 λp8 s ha=>?_;ext;exists⟨_,iA3 ha ?_ ⟨_,iA3 rfl ?_ ?_⟩⟩
   .simp only[there,ai,aQ];exact zn (by lia)
   .intro b o hb;rw[pE (pF hb hacc)];exact s b o hb
   .rw[pD,fN,hi];simp[there]
  .intro σ H' p9;refine oE1 p9 λv p6=>oA3 p6 λp8 s ha=>?_;ext;rw[aN]at ha;refine iE3 pv (there hs) side (iA4 rfl (SqL.of ha) (by simp[there];lia) ?_);have hlt:(there hs).length=hs.length:=by simp[there]
   cases hp:jU (there hs) side with
   |none =>
    rw[hp]at k;simp only[Zq];left;exact k _ _ s rfl
   |some p =>
    rw[hp]at k;simp only[Zq];have hlt':=wu hp;exists ra (s _ _ hy) T.i9 T.kb zjH ⟨_,.inl ⟨_,SqL.of (s _ _ h1),rfl⟩,?_⟩;left;rw[<- hlen];refine And.intro (by lia) ?_;left;intro q hq;have e:((p:Int)+1)%(hs.length:Int)=(((p+1)%hs.length:Nat):Int):=by push_cast;rfl
    rw[e];exact k _ _ (s.trans (zf hq)) ⟨q,rfl,pD⟩
def MCal.imp{C:Addr}{m:Str}{ps:A8}{dvs:Ap}{sp sp':Sp}(c:MCal P w K mg base C m k ps dvs sp)(h:∀vs H Q E,sp' vs H Q E->sp vs H Q E):MCal P w K mg base C m k ps dvs sp' :=
 let⟨f,fd,ds,x,y⟩:=c.ex;⟨c.cl,f,fd,ds,x.imp h,y⟩
def zab{k:Str}{ks:A8}(n:fs.map (·.1)=k::ks):∃v gs,fs=(k,v)::gs/\gs.map (·.1)=ks:=by
 cases fs with
 |nil=>cases n
 |cons x gs =>
  let⟨k',v⟩:=x;injection n with n1 n2
  exact⟨v,gs,by rw[<- n1],n2⟩
def zjU(n:fs.map (·.1)=[]):fs=[]:=List.map_eq_nil_iff.mp n
def fs2{k1 k2:Str}{d1 d2:D}(n:fs.map (·.1)=[k1,k2])(g:∀(i:Nat) f g,fs[i]?=some f->[(k1,d1),(k2,d2)][i]?=some g->Rep H p f.2 g.2):∃v1 v2,fs=[(k1,v1),(k2,v2)]/\Rep H p v1 d1/\Rep H p v2 d2:=by
 let⟨v1,f1,rfl,n1⟩:=zab n;let⟨v2,f2,rfl,n2⟩:=zab n1;obtain rfl:=zjU n2;exact⟨v1,v2,rfl,g 0 _ _ rfl rfl,g 1 _ _ rfl rfl⟩
section
variable{H:Hp}{p:A5}{y:Addr}{ins outs kinds:A6}{pace:Int}
def KnP.parter(h:KnP a H p (.ref y) ⟨.parter,ins,outs,pace,kinds⟩):∃dx l1 l2,H y=some (.ins a.m dx (kf l1 l2))/\H l2=some (.lst (iv outs)):=by
 cases h with|ob _ hy n g =>
  let⟨v1,v2,rfl,r1,r2⟩:=fs2 n g;let⟨l1,rfl,_,_⟩:=r1.ints';let⟨l2,rfl,_,h2⟩:=r2.ints';exact⟨_,l1,l2,by rw[Xz];exact hy,h2⟩
end
def fs3{k1 k2 k3:Str}{d1 d2 d3:D}(n:fs.map (·.1)=[k1,k2,k3])(g:∀(i:Nat) f g,fs[i]?=some f->[(k1,d1),(k2,d2),(k3,d3)][i]?=some g->Rep H p f.2 g.2):∃v1 v2 v3,fs=[(k1,v1),(k2,v2),(k3,v3)]/\Rep H p v1 d1/\Rep H p v2 d2/\Rep H p v3 d3:=by
 let⟨v1,f1,rfl,n1⟩:=zab n;let⟨v2,f2,rfl,n2⟩:=zab n1;let⟨v3,f3,rfl,n3⟩:=zab n2;obtain rfl:=zjU n3;exact⟨v1,v2,v3,rfl,g 0 _ _ rfl rfl,g 1 _ _ rfl rfl,g 2 _ _ rfl rfl⟩
def fs4{k1 k2 k3 k4:Str}{d1 d2 d3 d4:D}(n:fs.map (·.1)=[k1,k2,k3,k4])(g:∀(i:Nat) f g,fs[i]?=some f->[(k1,d1),(k2,d2),(k3,d3),(k4,d4)][i]?=some g->Rep H p f.2 g.2):∃v1 v2 v3 v4,fs=[(k1,v1),(k2,v2),(k3,v3),(k4,v4)]/\Rep H p v1 d1/\Rep H p v2 d2/\Rep H p v3 d3/\Rep H p v4 d4:=by
 let⟨v1,f1,rfl,n1⟩:=zab n;let⟨v2,f2,rfl,n2⟩:=zab n1;let⟨v3,f3,rfl,n3⟩:=zab n2;let⟨v4,f4,rfl,n4⟩:=zab n3;obtain rfl:=zjU n4;exact⟨v1,v2,v3,v4,rfl,g 0 _ _ rfl rfl,g 1 _ _ rfl rfl,g 2 _ _ rfl rfl,g 3 _ _ rfl rfl⟩
section
variable{H:Hp}{p:A5}{y:Addr}{ins outs kinds:A6}{pace:Int}
def KnP.source(h:KnP a H p (.ref y) ⟨.source,ins,outs,pace,kinds⟩):∃dx l1 l2 l3,H y=some (.ins a.k dx (sf l1 l2 pace l3)):=by
 cases h with|ob _ hy n g =>
  let⟨v1,v2,v3,v4,rfl,r1,r2,r3,r4⟩:=fs4 n g;let⟨l1,rfl,_,_⟩:=r1.ints';let⟨l2,rfl,_,_⟩:=r2.ints';cases r3;let⟨l4,rfl,_,_⟩:=r4.ints';exact⟨_,l1,l2,l4,by rw[ziN];exact hy⟩
def KnP.drain(h:KnP a H p (.ref y) ⟨.drain,ins,outs,pace,kinds⟩):∃dx l1 l2,H y=some (.ins a.l dx (df l1 l2 pace)):=by
 cases h with|ob _ hy n g =>
  let⟨v1,v2,v3,rfl,r1,r2,r3⟩:=fs3 n g;let⟨l1,rfl,_,_⟩:=r1.ints';let⟨l2,rfl,_,_⟩:=r2.ints';cases r3;exact⟨_,l1,l2,by rw[zg3];exact hy⟩
def KnP.sieve{k:Int}(h:KnP a H p (.ref y) ⟨.sieve,ins,outs,pace,[k]⟩):∃dx l1 l2,H y=some (.ins a.o dx (vf l1 l2 k)):=by
 cases h with|ob _ hy n g =>
  let⟨v1,v2,v3,rfl,r1,r2,r3⟩:=fs3 n g;let⟨l1,rfl,_,_⟩:=r1.ints';let⟨l2,rfl,_,_⟩:=r2.ints';cases r3;exact⟨_,l1,l2,by rw[ziJ];exact hy⟩
def KnP.joiner(h:KnP a H p (.ref y) ⟨.joiner,ins,outs,pace,kinds⟩):∃dx l1 l2,H y=some (.ins a.p dx (kf l1 l2))/\H l1=some (.lst (iv ins)):=by
 cases h with|ob _ hy n g =>
  let⟨v1,v2,rfl,r1,r2⟩:=fs2 n g;let⟨l1,rfl,_,h1⟩:=r1.ints';let⟨l2,rfl,_,_⟩:=r2.ints';exact⟨_,l1,l2,by rw[Xz];exact hy,h1⟩
end
noncomputable def hdV:Option Int->V
 |none=>.non
 |some k=>.int k
noncomputable def qf(r:Row)(hs:List A9)(bs:Ai)(t:Int)(side:Nat):Option Ak:=match r.wd with
 | .source=>if bs.getD 0 false=true/\t%r.pace=0 then some (none,some 0,side)else none
 | .drain=>if r.pace=0\/hs.getD 0 none=none\/t%r.pace≠0 then none else some (some 0,none,side)
 | .parter=>if hs.getD 0 none=none then none else(jU bs side).map λp=>(some 0,some p,(p+1)%bs.length)
 | .first=>if hs.getD 0 none=none then none else(jU bs 0).map λp=>(some 0,some p,side)
 | .sieve=>if hs.getD 0 none=none then none else if bs.getD (if hs.getD 0 none=some (r.kinds.headD 0)then 0 else 1) false=true then some (some 0,some (if hs.getD 0 none=some (r.kinds.headD 0)then 0 else 1),side)else none
 | .joiner=>if bs.getD 0 false=true then(jU (hs.map Option.isSome) side).map λp=>(some p,some 0,(p+1)%hs.length)else none
noncomputable def chV(x:Ak):List V:=[Zq x.1,Zq x.2.1,.int (x.2.2:Nat)]
def zfS(K:A0)(a:Ad)(wd:Wd):Sp:=λvs H Q _=>∃(y hl fl:Addr)(r:Row)(p:A5)(hs:List A9)(bs:Ai)(t:Int)(side:Nat),vs=[.ref y,.ref hl,.ref fl,.int t,.int side]/\KnP a H p (.ref y) r/\r.wd=wd/\r.ok /\
 H hl=some (.lst (hs.map hdV))/\H fl=some (.lst (bs.map V.bl))/\hs.length=r.ins.length/\bs.length=r.outs.length/\∀v H',Same H H'->Told H' v ((qf r hs bs t side).map chV)->Q v H'
def JI{x:A9}:(hdV x=.non)=(x=none):=by
 cases x<;>simp[hdV]
def zfF(hs:List A9):there (hs.map hdV)=hs.map Option.isSome:=by
 simp only[there,e6]
 congr 1
 funext x
 cases x<;>simp[hdV]
def zgz(T:Txt K mg a)(wd:Wd):MCal P w K mg base (ww a wd) "choice" 3 ["self","heads","free","turn","side"] [] (zfS K a wd):=by
 cases wd with
 |source =>
  refine MCal.imp (Jo T).mono λvs H Q E h=>?_;let⟨y,hl,fl,⟨wd,ins,outs,pace,kinds⟩,p,hs,bs,t,side,rfl,hK,hw,ok,hh,hf,l1,l2,k⟩:=h;simp only at hw;subst hw;let⟨dx,m1,m2,m3,hy⟩:=hK.source;let⟨_,⟨o,eo⟩,p1,_⟩:=ok;simp only at eo p1 l2;subst eo
  match bs,l2 with
  |[b],_ =>
   refine⟨y,dx,m1,m2,m3,fl,pace,t,_,_,b,[],rfl,hy,p1,SqL.of hf,λv H' s ht=>k v H' s ?_⟩;unfold VC at ht;simp only[qf];by_cases hc:b=true/\t%pace=0
   .rw[ao hc]at ht;rw[ao (by simpa using hc)];exact ht
   .rw[ak hc]at ht;rw[ak (by simpa using hc)];exact ht
 |drain =>
  refine MCal.imp (Xv T).mono λvs H Q E h=>?_;let⟨y,hl,fl,⟨wd,ins,outs,pace,kinds⟩,p,hs,bs,t,side,rfl,hK,hw,ok,hh,hf,l1,l2,k⟩:=h;simp only at hw;subst hw;let⟨dx,m1,m2,hy⟩:=hK.drain;let⟨⟨o,eo⟩,_,p1,p4⟩:=ok;simp only at eo p1 p4 l1;subst eo
  match hs,l1 with
  |[hd],_ =>
   refine⟨y,dx,m1,m2,hl,pace,t,_,_,hdV hd,[],rfl,hy,p1,p4,SqL.of hh,λv H' s ht=>k v H' s ?_⟩;unfold zdc at ht;simp only[JI]at ht;simp only[qf];by_cases hc:pace=0\/hd=none\/t%pace≠0
   .rw[ao hc]at ht;rw[ao (by simpa using hc)];exact ht
   .rw[ak hc]at ht;rw[ak (by simpa using hc)];exact ht
 |parter =>
  refine MCal.imp (Jq T).mono λvs H Q E h=>?_;let⟨y,hl,fl,⟨wd,ins,outs,pace,kinds⟩,p,hs,bs,t,side,rfl,hK,hw,ok,hh,hf,l1,l2,k⟩:=h;simp only at hw;subst hw;let⟨dx,m1,m2,hy,h2⟩:=hK.parter;let⟨⟨o,eo⟩,q1,q2⟩:=ok;simp only at eo l1 l2 q1 q2;subst eo
  match hs,l1 with
  |[hd],_ =>
   refine⟨y,dx,m1,m2,hl,fl,_,side,hdV hd,[],iv outs,bs,rfl,hy,h2,SqL.of hh,SqL.of hf,by rw[zL];exact l2,by lia,λv H' s ht=>k v H' s ?_⟩;simp only[JI]at ht;simp only[qf];by_cases hc:hd=none
   .rw[ao hc]at ht;rw[ao (by simpa using hc)];exact ht
   .rw[ak hc]at ht;rw[ak (by simpa using hc)];unfold ziR at ht;rw[fJ];exact ht
 |first =>
  refine MCal.imp (vQ T).mono λvs H Q E h=>?_;let⟨y,hl,fl,⟨wd,ins,outs,pace,kinds⟩,p,hs,bs,t,side,rfl,hK,hw,ok,hh,hf,l1,l2,k⟩:=h;simp only at hw;subst hw;let⟨⟨o,eo⟩,q1,q2⟩:=ok;simp only at eo l1 l2 q1 q2;subst eo
  match hs,l1 with
  |[hd],_ =>
   refine⟨y,hl,fl,_,_,hdV hd,[],bs,rfl,SqL.of hh,SqL.of hf,by lia,λv H' s ht=>k v H' s ?_⟩;simp only[JI]at ht;simp only[qf];by_cases hc:hd=none
   .rw[ao hc]at ht;rw[ao (by simpa using hc)];exact ht
   .rw[ak hc]at ht;rw[ak (by simpa using hc)];unfold zg0 at ht;rw[fJ];exact ht
 |sieve =>
  refine MCal.imp (Xs T).mono λvs H Q E h=>?_;let⟨y,hl,fl,⟨wd,ins,outs,pace,kinds⟩,p,hs,bs,t,side,rfl,hK,hw,ok,hh,hf,l1,l2,k⟩:=h;simp only at hw;subst hw;let⟨⟨o,eo⟩,q1,kk,q2,_⟩:=ok;simp only at eo l1 l2 q1 q2;subst eo q2;let⟨dx,m1,m2,hy⟩:=hK.sieve
  match hs,l1 with
  |[hd],_ =>
   refine⟨y,dx,m1,m2,hl,fl,kk,_,_,hdV hd,[],bs,rfl,hy,SqL.of hh,by cases hd;exact .inl rfl;exact .inr ⟨_,rfl⟩,SqL.of hf,by lia,λv H' s ht=>k v H' s ?_⟩;unfold zcp at ht;simp only[JI]at ht;simp only[qf];by_cases hc:hd=none
   .rw[ao hc]at ht;rw[ao (by simpa using hc)];exact ht
   .rw[ak hc]at ht;rw[ak (by simpa using hc)];have e:(hdV hd=.int kk)=([hd].getD 0 none=some (List.headD [kk] 0)):=by
     cases hd with
     |none=>exact absurd rfl hc
     |some x=>simp[hdV]
    have e1:(if hdV hd=V.int kk then(0:Nat)else 1)=(if [hd].getD 0 none=some (List.headD [kk] 0)then 0 else 1):=by simp only[e]
    have e2:(if hdV hd=V.int kk then(0:Int)else 1)=((if [hd].getD 0 none=some (List.headD [kk] 0)then 0 else 1:Nat):Int):=by simp only[e];split<;>rfl
    rw[e1,e2]at ht;generalize (if [hd].getD 0 none=some (List.headD [kk] 0)then 0 else 1)=q at ht ⊢;by_cases hb:bs.getD q false=true
    .rw[ao hb]at ht ⊢;exact ht
    .rw[ak hb]at ht ⊢;exact ht
 |joiner =>
  refine MCal.imp (Js T).mono λvs H Q E h=>?_;let⟨y,hl,fl,⟨wd,ins,outs,pace,kinds⟩,p,hs,bs,t,side,rfl,hK,hw,ok,hh,hf,l1,l2,k⟩:=h;simp only at hw;subst hw;let⟨⟨o,eo⟩,q1,q2⟩:=ok;simp only at eo l1 l2 q1 q2;subst eo;let⟨dx,m1,m2,hy,h1⟩:=hK.joiner
  match bs,l2 with
  |[b],_ =>
   refine⟨y,dx,m1,m2,hl,fl,_,side,hs.map hdV,iv ins,b,[],rfl,hy,h1,SqL.of hh,SqL.of hf,by rw[ai,zL];exact l1,by rw[ai];lia,λv H' s ht=>k v H' s ?_⟩;rw[zfF,ai]at ht;simp only[qf];by_cases hc:b=true
   .rw[ao hc]at ht;rw[ao (by simpa using hc)];unfold ziV at ht;rw[fJ];exact ht
   .rw[ak hc]at ht;rw[ak (by simpa using hc)];exact ht
abbrev zy:=Option (Int×Int)
abbrev Av:=List zy
abbrev Au:=List Av
noncomputable def qg:zy->D
 |none=>.non
 |some (s,n)=>.tup [.int s,.int n]
def ze6(x:zy):Hard (qg x):=by
 cases x with
 |none=>exact .non
 |some x =>
  refine .tup λi d h=>?_;have:d∈[D.int x.1,D.int x.2]:=ah h;simp at this;rcases this with rfl|rfl<;>exact .int
structure PSt where
 turn:Int
 cells:List Av
 sides:List Int
 gone:List A6
noncomputable abbrev zZ(cs:Au):List (List D):=cs.map λc=>c.map qg
noncomputable abbrev qw(gs:List A6):List (List D):=gs.map λg=>g.map D.int
noncomputable def stF(st:PSt):List (Str×D):=[("turn",.int st.turn),("cells",.lst ((zZ st.cells).map D.lst)),("sides",.ints st.sides),("gone",.lst ((qw st.gone).map D.lst))]
noncomputable def XM(a:Ad)(st:PSt):D:=.ob a.b (stF st)
def zaG(st:PSt):(stF st).lookup ("turn":Str)=some (.int st.turn):=jg
def Wz(st:PSt):(stF st).lookup ("cells":Str)=some (.lst ((zZ st.cells).map D.lst)):=(z7 (by symm)).trans jg
def Wy(st:PSt):(stF st).lookup ("sides":Str)=some (.ints st.sides):=(z7 (by symm)).trans ((z7 (by symm)).trans jg)
def zaH(st:PSt):(stF st).lookup ("gone":Str)=some (.lst ((qw st.gone).map D.lst)):=(z7 (by symm)).trans ((z7 (by symm)).trans ((z7 (by symm)).trans jg))
noncomputable def sff(t:Int)(lc ls lg:Addr):List (Str×V):=[(("turn":Str),V.int t),(("cells":Str),V.ref lc),(("sides":Str),V.ref ls),(("gone":Str),V.ref lg)]
theorem zk6{t:Int}:zX "turn" (.int t) []=([(("turn":Str),V.int t)]:Ar):=rfl
def zk5{t:Int}{lc:Addr}:zX "cells" (.ref lc) [(("turn":Str),V.int t)]=([(("turn":Str),V.int t),(("cells":Str),V.ref lc)]:Ar):=by
 simp only[zX];rw[ak (by symm)]
def zk4{t:Int}{lc ls:Addr}:zX "sides" (.ref ls) [(("turn":Str),V.int t),(("cells":Str),V.ref lc)]=([(("turn":Str),V.int t),(("cells":Str),V.ref lc),(("sides":Str),V.ref ls)]:Ar):=by
 simp only[zX];rw[ak (by symm),ak (by symm)]
def zk3{t:Int}{lc ls lg:Addr}:zX "gone" (.ref lg) [(("turn":Str),V.int t),(("cells":Str),V.ref lc),(("sides":Str),V.ref ls)]=sff t lc ls lg:=by
 unfold sff;simp only[zX];rw[ak (by symm),ak (by symm),ak (by symm)]
structure SN where
 dx:Addr
 lc:Addr
 ls:Addr
 lg:Addr
 acs:List Addr
 ags:List Addr
noncomputable def SN.all(n:SN):List Addr:=n.ls::n.lc::n.lg::(n.acs++n.ags)
structure StO(a:Ad)(H:Hp)(y:Addr)(n:SN)(st:PSt):Prop where
 hy:H y=some (.ins a.b n.dx (sff st.turn n.lc n.ls n.lg))
 hc:NL H (z6 H) n.lc n.acs (zZ st.cells)
 hs:H n.ls=some (.lst (iv st.sides))
 hg:NL H (z6 H) n.lg n.ags (qw st.gone)
 nd:n.all.Nodup
def StO.rep{y:Addr}{n:SN}{st:PSt}(h:StO a H y n st):Rep H (Off []) (.ref y) (XM a st) :=
 wG (λz=>nomatch z) h.hy rfl (.cons .int (.cons h.hc.rep (.cons (qr (λz=>nomatch z) h.hs) (.cons h.hg.rep .nil))))
def StO.same{H H':Hp}{y:Addr}{n:SN}{st:PSt}(h:StO a H y n st)(s:Same H H'):StO a H' y n st :=
 ⟨s _ _ h.hy,h.hc.keep (λb o _ hb=>s b o hb) (λb ⟨xs,hx⟩ _=>⟨xs,s _ _ hx⟩),s _ _ h.hs,h.hg.keep (λb o _ hb=>s b o hb) (λb ⟨xs,hx⟩ _=>⟨xs,s _ _ hx⟩),h.nd⟩
def vt(a:Ad):Sp:=λvs H Q _=>∃(y dx:Addr)(vc vs' vg:V)(st:PSt)(p:A5),vs=[.ref y,.int st.turn,vc,vs',vg]/\H y=some (.ins a.b dx [])/\(∀b,p b->b≠y) /\
 Rep H p vc (.lst ((zZ st.cells).map D.lst))/\Rep H p vs' (.ints st.sides)/\Rep H p vg (.lst ((qw st.gone).map D.lst))/\st.cells.length<=100/\st.gone.length<=100 /\
 ∀H' n,n.dx=dx->Own H H' y->StO a H' y n st->(∀b∈n.all,H b=none)->Q .non H'
def za7{ds:List D}(h:Reps H p vs ds)(hd:∀d∈ds,Hard d):Reps H (z6 H) vs ds :=
 ⟨h.len,λi v d e1 e2=>(h.g i v d e1 e2).hard (hd d (ah e2)) λb xs _ hb=>⟨xs,hb⟩⟩
def zc3(c:Av):∀d∈c.map qg,Hard d:=λd hd=>by
 let⟨x,_,rfl⟩:=aJ.mp hd;exact ze6 x
def ze7(c:A6):∀d∈c.map D.int,Hard d:=λd hd=>by
 let⟨x,_,rfl⟩:=aJ.mp hd;exact .int
def Wc(T:Txt K mg a)(F:Fun K "__init__" "State.__init__" jK f fd):FnOk P w K mg base (CXr P w) 1 f fd ["self","turn","cells","sides","gone"] (vt a):=by
 refine F.okx X9 ?_ ?_
 .walk_at"i"
 walk_at"j";refine oE7 h λy dx vc vs' vg st p p6=>oA9 p6 λp8 hy hp rc rs rg lc lg k=>?_;clear p6 h;subst p8;refine oE2 rc.lst' λc0 ucs p6=>oA4 p6 λp8 pc0 hc0 rcs=>?_;clear p6;subst p8;refine oE1 rs.ints' λs0 p6=>oA3 p6 λp8 ps0 hs0=>?_;clear p6;subst p8;have hs0:H s0=some (.lst (iv st.sides)):=hs0;refine oE2 rg.lst' λg0 ugs p6=>oA4 p6 λp8 pg0 hg0 rgs=>?_;clear p6;subst p8;have lcs:ucs.length=st.cells.length:=by rw[rcs.len,ai,ai]
 have lgs:ugs.length=st.gone.length:=by rw[rgs.len,ai,ai]
 walk_at"T";refine⟨_,(zh (qY (pq 0) (pq 1) rfl)  (zh (qY (pq 0) (jF (vars:=["belt_cells"]) (caps:=[]) (N:=["belt_cells"]) (ON:=["self","turn","cells","sides","gone"]) (osc:=zg jK) rfl rfl (by right) rfl rfl (qq (pq 2)) (λ_ _ _ _=>(qu 0 (show(["belt_cells"]:A8).Nodup from by symm))) (λ_ _ _ _=>qm) (λ_ _ _ _=>(xL Zn wP (za (pq 0) zb)))) rfl)  (zh (qY (pq 0) (xL Zn wP (za (pq 3) zb)) rfl)  (zd (qY (pq 0) (jF (vars:=["counts"]) (caps:=[]) (N:=["counts"]) (ON:=["self","turn","cells","sides","gone"]) (osc:=zg jK) rfl rfl (by right) rfl rfl (qq (pq 4)) (λ_ _ _ _=>(qu 0 (show(["counts"]:A8).Nodup from by symm))) (λ_ _ _ _=>qm) (λ_ _ _ _=>(xL Zn wP (za (pq 0) zb)))) rfl))))),?_⟩;exists iE4 y a.b dx ([]) (iA6 rfl hy T.ad T.iM (by decide) ?_);rw[zk6];have o1:Own H (upd H y (.ins a.b dx [(("turn":Str),V.int st.turn)])) y:=jy;have y1:upd H y (.ins a.b dx [(("turn":Str),V.int st.turn)]) y=some (.ins a.b dx [(("turn":Str),V.int st.turn)]):=pD;generalize upd H y (.ins a.b dx [(("turn":Str),V.int st.turn)])=H1 at o1 y1 ⊢;have kp:∀b,z6 H b->H b≠none->b≠y:=λb ⟨xs,hx⟩ _ z=>by rw[z,hy]at hx;cases hx
 walk_at"d";exists⟨c0,rfl,.inl ⟨⟨_,SqL.of (o1 _ _ (hp _ pc0) hc0)⟩,λ_ _ _ _ pv hacc=>?_⟩⟩;let px:Nat->St->Hp->Prop:=λi σ H'=>∃(v0:Aq)(as:Ab),σ=[v0]/\Same H1 H'/\NL H' (z6 H) pv as (zZ (st.cells.take i))/\∀b∈as,H1 b=none;refine qM (K:=K) (a:=c0) (xs:=ucs) px (iE2 _ ([]) (iA4 rfl (zf hacc) (by rw[bW];exact zcN pD) (by simp))) (λi σ H' _ h=>by let⟨_,_,_,s,_⟩:=h;exact SqL.of (s _ _ (o1 _ _ (hp _ pc0) hc0))) ?_ ?_
 .intro i x σ H2 hi p9;refine oE2 p9 λv0 as p6=>oA4 p6 λp8 s2 nl fr=>?_;ext;let⟨d,hd,rx⟩:=rcs.at hi;rw[am,am]at hd;let⟨c,hc⟩:∃c,st.cells[i]?=some c:=by
   cases e:st.cells[i]? with
   |none=>rw[e]at hd;cases hd
   |some c=>exact⟨c,rfl⟩
  rw[hc]at hd;cases hd;refine oE2 (Rep.lst' rx) λli vi p6=>oA4 p6 λp8 pli hli ri=>?_;clear p6;subst p8;have hil:=(aa.mp hc).1;have hli2:=s2 _ _ (o1 _ _ (hp _ pli) hli);exists iE2 li _ (iA3 rfl (.inl (SqL.of hli2)) (λb hb=>?_));have nb:b∉as:=λz=>by
   let⟨j,hj⟩:=aV z;let⟨vs,h1,_⟩:=nl.g j b _ hj (ac (by rw[<- nl.len];exact(aa.mp hj).1));rw[h1]at hb;cases hb
  have nG:b≠pv:=λz=>by rw[z,nl.out]at hb;cases hb
  have s3:Same H2 (upd H2 b (.lst vi)):=zf hb;have ac3:=pG (o:=.lst vi) nl.out hb;refine⟨_,iA3 ac3 (zn (by rw[ai,nl.len,ai,aQ];lia)) ?_⟩;have ri3:Reps (upd H2 b (.lst vi)) (z6 H) vi (c.map qg):=(za7 ri (zc3 c)).keep λz o pz hz=>⟨pz,s3 _ _ (s2 _ _ (o1 _ _ (kp z pz (by rw[hz];intro q;cases q)) hz))⟩;have nl3:=(nl.same s3).push (b:=b) (vs:=vi) (ys:=c.map qg) pD nb nG (λ⟨xs,hx⟩=>by
   have:=o1 _ _ (kp pv ⟨xs,hx⟩ (by rw[hx];intro q;cases q)) hx;rw[hacc]at this;cases this) ri3
  refine iE2 _ (as++[b]) (iA4 rfl ?_ ?_ ?_)
  .exactλz o hz=>by rw[pE (pF hz hacc)];exact s3 _ _ (s2 _ _ hz)
  .rw[aI,hc];rw[show zZ (st.cells.take i++(some c).toList)=zZ (st.cells.take i)++[c.map qg] by simp[zZ]];exact nl3
  .intro z hz;rcases aG.mp hz with hz|hz
   .exact fr z hz
   .rw[aD.mp hz];exact zw s2 hb
 intro σ H2 p9;refine oE2 p9 λv0 acs p6=>oA4 p6 λp8 s2 nlc frc=>?_;ext;rw[lcs,aN]at nlc;have y2:=s2 _ _ y1;exists iE4 y a.b dx _ (iA6 rfl y2 T.ad T.iK (by simp) ?_);rw[zk5];have nay:pv≠y:=λz=>by rw[z,y1]at hacc;cases hacc
 have hx0:∀{z:Addr},H1 z=none->z≠y/\H z=none:=λ{z} hz=>by
  have n1:z≠y:=λq=>by rw[q,y1]at hz;cases hz
  refine⟨n1,?_⟩;cases e:H z with
  |none=>rfl
  |some o=>rw[o1 z o n1 e]at hz;cases hz
 have o3:Own H (upd H2 y (.ins a.b dx [(("turn":Str),V.int st.turn),(("cells":Str),V.ref pv)])) y:=(o1.trans (Same.own s2)).trans jy;have y3:upd H2 y (.ins a.b dx [(("turn":Str),V.int st.turn),(("cells":Str),V.ref pv)]) y=some (.ins a.b dx [(("turn":Str),V.int st.turn),(("cells":Str),V.ref pv)]):=pD;have nl3:NL (upd H2 y (.ins a.b dx [(("turn":Str),V.int st.turn),(("cells":Str),V.ref pv)])) (z6 H) pv acs (zZ st.cells):=nlc.keep (λz o hz ho=>by
  refine(pE (λq=>?_)).trans ho;rcases hz with h|h|h
  .exact nay (h.symm.trans q)
  .exact(hx0 (frc z h)).1 q
  .obtain⟨xs,hx⟩:=h;rw[q,hy]at hx;cases hx) λ_ hp _=>hp
 generalize upd H2 y (.ins a.b dx [(("turn":Str),V.int st.turn),(("cells":Str),V.ref pv)])=H3 at o3 y3 nl3 ⊢;exists iE2 s0 _ (iA3 rfl (.inl (SqL.of (o3 _ _ (hp _ ps0) hs0))) (λls hls=>?_));left;have y4:=pG (o:=.lst (iv st.sides)) y3 hls;refine iE4 y a.b dx _ (iA6 rfl y4 T.ad T.iQ (by simp) ?_);rw[zk4];have nlsy:ls≠y:=λz=>by rw[z,y3]at hls;cases hls
 have hls0:H ls=none:=by
  cases e:H ls with
  |none=>rfl
  |some o=>rw[o3 ls o nlsy e]at hls;cases hls
 have o5:Own H (upd (upd H3 ls (.lst (iv st.sides))) y (.ins a.b dx [(("turn":Str),V.int st.turn),(("cells":Str),V.ref pv),(("sides":Str),V.ref ls)])) y:=(o3.trans (Same.own (zf hls))).trans jy;have y5:upd (upd H3 ls (.lst (iv st.sides))) y (.ins a.b dx [(("turn":Str),V.int st.turn),(("cells":Str),V.ref pv),(("sides":Str),V.ref ls)]) y=some (.ins a.b dx [(("turn":Str),V.int st.turn),(("cells":Str),V.ref pv),(("sides":Str),V.ref ls)]):=pD;have nl5:NL (upd (upd H3 ls (.lst (iv st.sides))) y (.ins a.b dx [(("turn":Str),V.int st.turn),(("cells":Str),V.ref pv),(("sides":Str),V.ref ls)])) (z6 H) pv acs (zZ st.cells):=nl3.keep (λz o hz ho=>by
  refine(pE (λq=>?_)).trans (pG ho hls);rcases hz with h|h|h
  .exact nay (h.symm.trans q)
  .exact(hx0 (frc z h)).1 q
  .obtain⟨xs,hx⟩:=h;rw[q,hy]at hx;cases hx) λ_ hp _=>hp
 have ls5:upd (upd H3 ls (.lst (iv st.sides))) y (.ins a.b dx [(("turn":Str),V.int st.turn),(("cells":Str),V.ref pv),(("sides":Str),V.ref ls)]) ls=some (.lst (iv st.sides)):=by rw[pE nlsy];exact pD
 have nlsa:ls∉pv::acs:=λz=>by
  rcases av.mp z with h|h
  .rw[h,nl3.out]at hls;cases hls
  .obtain⟨j,hj⟩:=aV h;let⟨vs,h1,_⟩:=nl3.g j ls _ hj (ac (by rw[<- nl3.len];exact(aa.mp hj).1));rw[h1]at hls;cases hls
 generalize upd (upd H3 ls (.lst (iv st.sides))) y (.ins a.b dx [(("turn":Str),V.int st.turn),(("cells":Str),V.ref pv),(("sides":Str),V.ref ls)])=H5 at o5 y5 nl5 ls5 ⊢;clear nl3 o3 y3 hls y4;walk_at"d";exists⟨g0,rfl,.inl ⟨⟨_,SqL.of (o5 _ _ (hp _ pg0) hg0)⟩,λ_ _ _ _ ag hag=>?_⟩⟩;let pB:Nat->St->Hp->Prop:=λi σ H'=>∃(v0:Aq)(as:Ab),σ=[v0]/\Same H5 H'/\NL H' (z6 H) ag as (qw (st.gone.take i))/\∀b∈as,H5 b=none;refine qM (K:=K) (a:=g0) (xs:=ugs) pB (iE2 _ ([]) (iA4 rfl (zf hag) (by rw[bW];exact zcN pD) (by simp))) (λi σ H' _ h=>by let⟨_,_,_,s,_⟩:=h;exact SqL.of (s _ _ (o5 _ _ (hp _ pg0) hg0))) ?_ ?_
 .intro i x σ H2 hi p9;refine oE2 p9 λv0 as p6=>oA4 p6 λp8 s2 nl fr=>?_;ext;let⟨d,hd,rx⟩:=rgs.at hi;rw[am,am]at hd;let⟨c,hc⟩:∃c,st.gone[i]?=some c:=by
   cases e:st.gone[i]? with
   |none=>rw[e]at hd;cases hd
   |some c=>exact⟨c,rfl⟩
  rw[hc]at hd;cases hd;refine oE2 (Rep.lst' rx) λli vi p6=>oA4 p6 λp8 pli hli ri=>?_;clear p6;subst p8;have hil:=(aa.mp hc).1;have hli2:=s2 _ _ (o5 _ _ (hp _ pli) hli);exists iE2 li _ (iA3 rfl (.inl (SqL.of hli2)) (λb hb=>?_));have nb:b∉as:=λz=>by
   let⟨j,hj⟩:=aV z;let⟨vs,h1,_⟩:=nl.g j b _ hj (ac (by rw[<- nl.len];exact(aa.mp hj).1));rw[h1]at hb;cases hb
  have nG:b≠ag:=λz=>by rw[z,nl.out]at hb;cases hb
  have s3:Same H2 (upd H2 b (.lst vi)):=zf hb;have ac3:=pG (o:=.lst vi) nl.out hb;refine⟨_,iA3 ac3 (zn (by rw[ai,nl.len,ai,aQ];lia)) ?_⟩;have ri3:Reps (upd H2 b (.lst vi)) (z6 H) vi (c.map D.int):=(za7 ri (ze7 c)).keep λz o pz hz=>⟨pz,s3 _ _ (s2 _ _ (o5 _ _ (kp z pz (by rw[hz];intro q;cases q)) hz))⟩;have nl3:=(nl.same s3).push (b:=b) (vs:=vi) (ys:=c.map D.int) pD nb nG (λ⟨xs,hx⟩=>by
   have:=o5 _ _ (kp ag ⟨xs,hx⟩ (by rw[hx];intro q;cases q)) hx;rw[hag]at this;cases this) ri3
  refine iE2 _ (as++[b]) (iA4 rfl ?_ ?_ ?_)
  .exactλz o hz=>by rw[pE (pF hz hag)];exact s3 _ _ (s2 _ _ hz)
  .rw[aI,hc];rw[show qw (st.gone.take i++(some c).toList)=qw (st.gone.take i)++[c.map D.int] by simp[qw]];exact nl3
  .intro z hz;rcases aG.mp hz with hz|hz
   .exact fr z hz
   .rw[aD.mp hz];exact zw s2 hb
 intro σ H6 p9;refine oE2 p9 λv0' ags p6=>oA4 p6 λp8 s6 nlg frg=>?_;ext;rw[lgs,aN]at nlg;have y6:=s6 _ _ y5;exists iE4 y a.b dx _ (iA6 rfl y6 T.ad T.iJ (by simp) ?_);rw[zk3];have hx5:∀{z:Addr},H5 z=none->z≠y/\H z=none:=λ{z} hz=>by
  have n1:z≠y:=λq=>by rw[q,y5]at hz;cases hz
  refine⟨n1,?_⟩;cases e:H z with
  |none=>rfl
  |some o=>rw[o5 z o n1 e]at hz;cases hz
 have ngy:=(hx5 hag).1;have o7:Own H (upd H6 y (.ins a.b dx (sff st.turn pv ls ag))) y:=(o5.trans (Same.own s6)).trans jy;have tp:∀b,z6 H b->H b≠none->z6 (upd H6 y (.ins a.b dx (sff st.turn pv ls ag))) b:=λb ⟨xs,hx⟩ hn=>⟨xs,o7 _ _ (kp b ⟨xs,hx⟩ hn) hx⟩;have inA:∀z,z∈pv::acs->∃o,H5 z=some o:=λz hz=>by
  rcases av.mp hz with h|h
  .exact⟨_,h ▸ nl5.out⟩
  .obtain⟨j,hj⟩:=aV h;let⟨vs,h1,_⟩:=nl5.g j z _ hj (ac (by rw[<- nl5.len];exact(aa.mp hj).1));exact⟨_,h1⟩
 refine k _ ⟨dx,pv,ls,ag,acs,ags⟩ rfl o7 ⟨pD,?_,?_,?_,?_⟩ ?_
 .exact(nl5.same s6).keep (λz o hz ho=>by
   refine(pE (λq=>?_)).trans ho;rcases hz with h|h|h
   .exact nay (h.symm.trans q)
   .exact(hx0 (frc z h)).1 q
   .obtain⟨xs,hx⟩:=h;rw[q,hy]at hx;cases hx) λb hb hn=>by
    let⟨xs,hx⟩:=hb;exact tp b ⟨xs,hx⟩ (by rw[hx];intro q;cases q)
 .show upd H6 y _ ls=_
  rw[pE nlsy];exact s6 _ _ ls5
 .exact nlg.keep (λz o hz ho=>by
   refine(pE (λq=>?_)).trans ho;rcases hz with h|h|h
   .exact ngy (h.symm.trans q)
   .exact(hx5 (frg z h)).1 q
   .obtain⟨xs,hx⟩:=h;rw[q,hy]at hx;cases hx) λb hb hn=>by
    let⟨xs,hx⟩:=hb;exact tp b ⟨xs,hx⟩ (by rw[hx];intro q;cases q)
 .show(ls::pv::ag::(acs++ags)).Nodup
  have ls5':∀z,H5 z=none->z≠ls:=λz hz q=>by rw[q,ls5]at hz;cases hz
  rw[cS,cS,cS];refine iA4 (λz=>?_) (λz=>?_) (λz=>?_) ?_
  .rcases av.mp z with h|z
   .exact nlsa (h ▸ aU ..)
   rcases av.mp z with h|z
   .exact ls5' ag hag h.symm
   rcases aG.mp z with z|z
   .exact nlsa (ay _ z)
   .exact ls5' ls (frg ls z) rfl
  .rcases av.mp z with h|z
   .rw[<- h,nl5.out]at hag;cases hag
   rcases aG.mp z with z|z
   .exact nl5.nG z
   .have:=frg pv z;rw[nl5.out]at this;cases this
  .rcases aG.mp z with z|z
   .obtain⟨o,ho⟩:=inA ag (ay _ z);rw[hag]at ho;cases ho
   .exact nlg.nG z
  .rw[fH];refine⟨nl5.nd,nlg.nd,λu hu v hv q=>?_⟩;subst q;let⟨o,ho⟩:=inA u (ay _ hu);rw[frg u hv]at ho;cases ho
 .intro b hb;rcases av.mp hb with rfl|hb
  .exact hls0
  rcases av.mp hb with rfl|hb
  .exact(hx0 hacc).2
  rcases av.mp hb with rfl|hb
  .exact(hx5 hag).2
  rcases aG.mp hb with hb|hb
  .exact(hx0 (frc b hb)).2
  .exact(hx5 (frg b hb)).2
def V7(T:Txt K mg a):KCal P w K mg base "State" a.b 1 ["self","turn","cells","sides","gone"] [] (vt a):=T.mR.cal T.oW (Wc T)
def qO{rs:At}(h:Rep H p v (qG a bs rs)):∃y dx fs l1 l2 bvs ph,v=.ref y/\H y=some (.ins a.r dx fs)/\fs.lookup ("belts":Str)=some (.ref l1)/\fs.lookup ("knots":Str)=some (.ref l2) /\
  H l1=some (.lst bvs)/\H l2=some (.lst ph)/\Bts a H p bvs bs/\Kns a H p ph rs/\∀f:Str,f≠"belts"->f≠"knots"->fs.lookup f=none:=by
 let⟨y,dx,fs,rfl,py,hy,g1,g2⟩:=Rep.ob' h;let⟨u1,e1,r1⟩:=g1 _ _ zau;let⟨u2,e2,r2⟩:=g1 _ _ zfz;let⟨l1,bvs,rfl,_,h1,b1⟩:=r1.lst';let⟨l2,ph,rfl,_,h2,b2⟩:=r2.lst';exact⟨y,dx,fs,l1,l2,bvs,ph,rfl,hy,e1,e2,h1,h2,.of b1,.of b2,λf n1 n2=>g2 f (zkh n1 n2)⟩
noncomputable def wa(ks:A6)(n:Int):Int:=ks.getD (n%(ks.length:Int)).toNat 0
def ze0{ks:A6}(n:Int)(h:0<ks.length):atI (iv ks) (n%(ks.length:Int))=some (.int (wa ks n)):=by
 have h0:=bS n (show(ks.length:Int)≠0 by lia);have h1:=bO n (show(0:Int)<ks.length by lia);unfold wa;generalize n%(ks.length:Int)=m at h0 h1 ⊢;have hlt:m.toNat<ks.length:=by lia
 have e:m=(m.toNat:Int):=by lia
 have:=zt (qV (ac hlt));rw[<- e]at this;rw[this];simp[hlt]
def zaz{s n:Int}(h:Rep H p v (.tup [.int s,.int n])):∃t,v=.ref t/\H t=some (.tup [.int s,.int n]):=xz (b:=(s,n)) h
def wK{ph:Ap}{rs:At}{r:Row}(hK:Kns a H p ph rs)(h:rs[j]?=some r):∃kv,ph[j]?=some kv/\KnP a H p kv r:=by
 have hj:=(aa.mp h).1;have e:ph[j]?=some (ph[j]'(by rw[hK.len];exact hj)):=ac _;exact⟨_,e,hK.g j _ r e h⟩
def zfP(a:Ad):Sp:=λvs H Q _=>∃(v vwr:V)(bs:A1)(rs:At)(p q:A5)(s:Nat)(n:Int)(r:Row),vs=[v,vwr]/\Rep H p v (qG a bs rs)/\Rep H q vwr (.tup [.int s,.int n])/\rs[s]?=some r/\r.wd=.source/\0<r.kinds.length/\Q (.int (wa r.kinds n)) H
def Vj(T:Txt K mg a):Cal P w K mg base "kind_of" 1 ["work","ware"] [] (zfP a):=T.nS.cal λF=>by
 refine F.okx zcr ?_ ?_
 .walk_at"i"
 walk_at"j";refine oE5 h λv vwr bs rs p p6=>oE4 p6 λq sc n r p8=>oA7 p8 λpw hv hw hr' hs hk k=>?_;clear p6 p8 h;subst pw;refine oE7 (qO hv) λy dx fs l1 l2 bvs ph p6=>oA9 p6 λp8 hy e1 e2 h1 h2 hB hK no=>?_;clear p6;subst p8;let⟨t,rfl,ht⟩:=zaz hw;let⟨kv,hkv,hKn⟩:=wK hK hr';refine oE6 hKn.inv λy1 dx1 m1 m2 m3 fs1 p6=>oA9 p6 λp8 _ _ _ _ g0 _ _ pw=>oA5 pw λ_ _ _ g3 _=>?_;clear p6 pw;subst p8;let⟨g3a,g3b⟩:=g3 hs;walk_at"T";refine⟨_,(zi (zu 2 zcr.nd (zk (zo (zk (pq 0) rfl) (zo (pq 1) ze)) rfl))  (zd (zl (zo (pq 2) (zK js (zo (pq 1) ze) (zM zR zP (za (pq 2) zb))))))),?_⟩;exists ra hy T.iL T.iI e2 (pH ht at0 (zq (SqL.of h2) (zt hkv) ?_));refine iE5 y1 (ww a r.wd) dx1 fs1 _ (iA6 rfl g0 (CT T _) (by rw[hs];exact T.iY) g3a ?_);exists pH ht rfl ?_;exists⟨_,.inl ⟨_,SqL.of g3b,rfl⟩,?_⟩;rw[zL];left;exact⟨by lia,zq (SqL.of g3b) (ze0 n hk) k⟩
noncomputable def qH(r:Row):List Int:=List.replicate (max r.ins.length r.outs.length) 0
def zjg{α:Type}(n:Nat)(x:α):(List.replicate n [x]).flatten=List.replicate n x:=by
 induction n with
 |zero=>rfl
 |succ n ih=>rw[dj,eK,ih];rfl
def zgM(n:Nat)(x:Int):List.replicate n (V.int x)=iv (List.replicate n x):=by simp[iv]
def zjA(m n:Nat):(if (n:Int)>(m:Int)then(n:Int)else(m:Int))=((max m n:Nat):Int):=by
 by_cases h:(n:Int)>(m:Int)
 .rw[ao h];lia
 .rw[ak h];lia
def j5{r:Row}(h:r.ok):r.ins.length<=4/\r.outs.length<=4:=by
 let⟨wd,ins,outs,pc,ks⟩:=r;cases wd
 .obtain⟨h1,⟨o,h2⟩,_⟩:=h;simp only at h1 h2;subst h1 h2;simp
 .obtain⟨⟨o,h1⟩,h2,_⟩:=h;simp only at h1 h2;subst h1 h2;simp
 .obtain⟨⟨o,h1⟩,_,h2⟩:=h;simp only at h1 h2;subst h1;exact⟨by simp,h2⟩
 .obtain⟨⟨o,h1⟩,_,h2⟩:=h;simp only at h1 h2;subst h1;exact⟨by simp,h2⟩
 .obtain⟨⟨o,h1⟩,h2,_⟩:=h;simp only at h1 h2;subst h1;exact⟨by simp,by show outs.length<=4;lia⟩
 .obtain⟨⟨o,h1⟩,_,h2⟩:=h;simp only at h1 h2;subst h1;exact⟨h2,by simp⟩
def Qs(a:Ad)(H H':Hp)(v:V)(st:PSt):Prop:=∃y n,v=.ref y/\StO a H' y n st/\H y=none/\H n.dx=none/\∀b∈n.all,H b=none
def Xq(T:Txt K mg a){st:PSt}{vc vs' vg:V}{Q:Addr->Hp->Prop}{E:XK}(rc:Rep H p vc (.lst ((zZ st.cells).map D.lst)))(rs:Rep H p vs' (.ints st.sides))(rg:Rep H p vg (.lst ((qw st.gone).map D.lst)))(lc:st.cells.length<=100)(lg:st.gone.length<=100)(k:∀y H',Same H H'->Qs a H H' (.ref y) st->Q y H'):∀(x dx:Addr),H x=none->H dx=none->dx≠x->vt a [.ref x,.int st.turn,vc,vs',vg] (upd (upd H dx (.own x)) x (.ins a.b dx [])) (λv H2=>v=.non/\Q x H2) E:=by
 intro y dy hy hdy hne;have kp:∀b o,p b->H b=some o->b≠y/\upd (upd H dy (.own y)) y (.ins a.b dy []) b=some o:=λb o _ hb=>⟨pF hb hy,qD hy hdy hb⟩;refine⟨y,dy,vc,vs',vg,st,λb=>b≠y,rfl,pD,λ_ h=>h,rc.keep kp,rs.keep kp,rg.keep kp,lc,lg,λH' n en o so fr=>⟨rfl,?_⟩⟩;exact k _ _ (Own.of_new hy hdy o) ⟨y,n,rfl,so,hy,by rw[en];exact hdy,λb hb=>zU (fr b hb)⟩
def zcj(a:Ad):Sp:=λvs H Q _=>∃(v:V)(r:Row)(p:A5),vs=[v]/\KnP a H p v r/\r.ins.length<=100/\r.outs.length<=100/\∀q H',Same H H'->H q=none->H' q=some (.lst (iv (qH r)))->Q (.ref q) H'
def zb1(T:Txt K mg a):Cal P w K mg base "no_counts" 1 ["knot"] [] (zcj a):=T.mZ.cal λF=>by
 refine F.okx VJ ?_ ?_
 .walk_at"i"
 walk_at"j";let⟨v,r,p,rfl,hKn,l1,l2,k⟩:=h;let⟨y1,dx1,m1,m2,m3,fs1,rfl,_,_,_,_,g0,f1,f2,_,g1,g2,g3,_⟩:=hKn.inv;walk_at"T";refine⟨_,(zd (zl (zK zcK (zO (za ze zb)) (zM (zfl rfl) zj6 (za (zM zR zP (za (zk (pq 0) rfl) zb)) (za (zM zR zP (za (zk (pq 0) rfl) zb)) zb)))))),?_⟩;left;intro q hq;have sq:=zf (o:=.lst [V.int 0]) hq;refine⟨nP,iV,?_⟩;refine ra (sq _ _ g0) (CT T _) (NI T _) f1 ⟨_,.inl ⟨_,SqL.of (sq _ _ g1),rfl⟩,?_⟩;refine⟨iV,?_⟩;refine ra (sq _ _ g0) (CT T _) (NO T _) f2 ⟨_,.inl ⟨_,SqL.of (sq _ _ g2),rfl⟩,?_⟩;rw[zL,zL];refine⟨_,_,rfl,?_⟩;rw[zjA];refine⟨q,_,_,rfl,rfl,pD,by lia,by lia,?_,λq2 hq2=>?_⟩
 .refine jx ?_;simp
  lia
 .rw[zjg,ax,zgM];exact k q2 _ (sq.trans (zf hq2)) (zw sq hq2) pD
noncomputable def z8(bs:A1)(rs:At):PSt:=⟨0,bs.map λb=>List.replicate b.1.toNat none,List.replicate rs.length 0,rs.map qH⟩
def zhC(a:Ad):Sp:=λvs H Q _=>∃(v:V)(bs:A1)(rs:At)(p:A5),vs=[v]/\Rep H p v (qG a bs rs)/\bs.length<=24/\rs.length<=24/\(∀b∈bs,zE b.1 b.2)/\(∀r∈rs,r.ok)/\∀v' H',Same H H'->Qs a H H' v' (z8 bs rs)->Q v' H'
def ZA(T:Txt K mg a):Cal P w K mg base "empty_state" 3 ["work"] [] (zhC a):=T.mr.cal λF=>by
 refine F.okx J1 ?_ ?_
 .walk_at"i"
 walk_at"j";refine oE4 h λv bs rs p p6=>oA7 p6 λp8 hv lb lr bo ro k=>?_;clear p6 h;subst p8;refine oE7 (qO hv) λy dx fs l1 l2 bvs ph p6=>oA9 p6 λp8 hy e1 e2 h1 h2 hB hK no=>?_;clear p6;subst p8;walk_at"T";refine⟨_,(zh (WM (i:=1) J1.nd rfl (Or.inl rfl) (vars:=["belt"]) (caps:=[]) (N:=["belt"]) (ON:=["work","cells","sides"]) (osc:=zg jV) rfl rfl (by right) rfl rfl (qq (zk (pq 0) rfl)) (λ_ _ _ _=>(qu 0 (show(["belt"]:A8).Nodup from by symm))) (λ_ _ _ _=>qm) (λ_ _ _ _=>(zK zcK (zO (za zC zb)) (zk (pq 0) rfl))))  (zh (zu 2 J1.nd (zK zcK (zO (za ze zb)) (zM zR zP (za (zk (pq 0) rfl) zb))))  (zd (zl (qW (x:="State") ⟨rfl,rfl,rfl⟩ hr (za ze (za (pq 1) (za (pq 2) (za (jF (vars:=["knot"]) (caps:=[]) (N:=["knot"]) (ON:=["work","cells","sides"]) (osc:=zg jV) rfl rfl (by right) rfl rfl (qq (zk (pq 0) rfl)) (λ_ _ _ _=>(qu 0 (show(["knot"]:A8).Nodup from by symm))) (λ_ _ _ _=>qm) (λ_ _ _ _=>(vI hr (za (pq 0) zb)))) zb))))))))),?_⟩;left;walk_at"d";exists ra hy T.iL T.iT e1 ⟨l1,rfl,.inl ⟨⟨_,SqL.of h1⟩,λ_ _ _ _ pv hacc=>?_⟩⟩;let px:Nat->St->Hp->Prop:=λi σ H'=>∃(v0:Aq)(us:Ap),σ=[v0]/\Same H H'/\H' pv=some (.lst us)/\Reps H' (Off [pv]) us ((bs.take i).map λb=>D.lst (List.replicate b.1.toNat .non));refine qM (K:=K) (a:=l1) (xs:=bvs) px (iE2 _ ([]) (iA4 rfl (zf hacc) pD (by rw[bW];exact .nil))) (λi σ H' _ h=>by let⟨_,_,_,s,_⟩:=h;exact SqL.of (s _ _ h1)) ?_ ?_
 .intro i x σ H2 hi p9;refine oE2 p9 λv0 us p6=>oA4 p6 λp8 s2 ha ru=>?_;ext;let⟨b,hb',hBt⟩:=hB.at hi;refine oE3 hBt.inv λy1 dx1 fs1 p6=>oA5 p6 λp8 _ g0 f1 f2=>?_;clear p6;subst p8;have hil:=(aa.mp hb').1;have bk:=bo b (ah hb');left;intro q hq;have sq:=zf (o:=.lst [V.non]) hq;refine ra (sq _ _ (s2 _ _ g0)) T.i5 T.kg f1 ?_;have b1:=bk.1;have b2:=bk.2.1;refine iE3 q _ _ (iA7 rfl rfl pD (by lia) (by lia) (jx (by simp;lia)) (λq2 hq2=>?_));rw[zjg];have s3:=sq.trans (zf (o:=.lst (List.replicate b.1.toNat V.non)) hq2);have h3:upd (upd H2 q (.lst [V.non])) q2 (.lst (List.replicate b.1.toNat V.non)) q2=some (.lst (List.replicate b.1.toNat V.non)):=pD;have n2:H2 q2=none:=zw sq hq2;generalize upd (upd H2 q (.lst [V.non])) q2 (.lst (List.replicate b.1.toNat V.non))=H3 at s3 h3 ⊢;have f5:Fr [pv] H3 (upd H3 pv (.lst (us++[.ref q2]))):=qZ (by simp);have nq:=zgt ha n2;refine⟨_,iA3 (s3 _ _ ha) (zn (by rw[ru.len,ai,aQ];lia)) (iE2 _ (us++[.ref q2]) (iA4 rfl (((s2.trans s3).fr.trans f5).same (by intro m hm;rw[aD.mp hm];exact hacc)) pD ?_))⟩;rw[aI,hb',ba];refine((ru.same s3).fr f5).append (.one ?_);refine Reps.mk' ⟨by simp,λj u d a1 a2=>?_⟩ nq (f5 _ _ nq h3);have a1:=ah a1;have a2:=ah a2;rw[(cV.mp a1).2,(cV.mp a2).2];exact .non
 intro σ H2 p9;refine oE2 p9 λv0 us p6=>oA4 p6 λp8 s2 ha ru=>?_;ext;rw[hB.len,aN]at ru;left;intro q hq;have sq:=zf (o:=.lst [V.int 0]) hq;exists ra (sq _ _ (s2 _ _ hy)) T.iL T.iI e2 ⟨_,.inl ⟨_,SqL.of (sq _ _ (s2 _ _ h2)),rfl⟩,?_⟩;rw[hK.len];refine iE3 q _ _ (iA7 rfl rfl pD (by lia) (by lia) (jx (by simp;lia)) (λls hls=>?_));rw[zjg,ax,zgM];have s3:Same H (upd (upd H2 q (.lst [V.int 0])) ls (.lst (iv (List.replicate rs.length 0)))):=(s2.trans sq).trans (zf hls);have ha3:=pG (o:=.lst (iv (List.replicate rs.length 0))) (sq _ _ ha) hls;have ru3:=(ru.same sq).same (zf (o:=.lst (iv (List.replicate rs.length 0))) hls);have h3:upd (upd H2 q (.lst [V.int 0])) ls (.lst (iv (List.replicate rs.length 0))) ls=some (.lst (iv (List.replicate rs.length 0))):=pD;generalize upd (upd H2 q (.lst [V.int 0])) ls (.lst (iv (List.replicate rs.length 0)))=H3 at s3 ha3 ru3 h3 ⊢;exists iE4 a.b _ _ _ ⟨(V7 T).mono,?_⟩;walk_at"d";exists ra (s3 _ _ hy) T.iL T.iI e2 ⟨l2,rfl,.inl ⟨⟨_,SqL.of (s3 _ _ h2)⟩,λ_ _ _ _ ac2 hac2=>?_⟩⟩;let pB:Nat->St->Hp->Prop:=λi σ H'=>∃(v0:Aq)(us:Ap),σ=[v0]/\Same H3 H'/\H' ac2=some (.lst us)/\Reps H' (Off [ac2]) us ((rs.take i).map λr=>D.ints (qH r));refine qM (K:=K) (a:=l2) (xs:=ph) pB (iE2 _ ([]) (iA4 rfl (zf hac2) pD (by rw[bW];exact .nil))) (λi σ H' _ h=>by let⟨_,_,_,s,_⟩:=h;exact SqL.of (s _ _ (s3 _ _ h2))) ?_ ?_
 .intro i x σ H4 hi p9;refine oE2 p9 λv0 us p6=>oA4 p6 λp8 s4 ha4 ru4=>?_;ext;let⟨r,hr',hKn⟩:=hK.at hi;have hil:=(aa.mp hr').1;have rl:=j5 (ro r (ah hr'));exists uc (zb1 T).mono (iE3 x r p (iA5 rfl (hKn.keep (λb o pb hb=>⟨pb,s4 _ _ (s3 _ _ hb)⟩)) (by lia) (by lia) (λq2 H5 s5 n2 h5=>?_)));have f5:Fr [ac2] H5 (upd H5 ac2 (.lst (us++[.ref q2]))):=qZ (by simp);have nq:=zgt ha4 n2;refine⟨_,iA3 (s5 _ _ ha4) (zn (by rw[ru4.len,ai,aQ];lia)) (iE2 _ (us++[.ref q2]) (iA4 rfl (((s4.trans s5).fr.trans f5).same (by intro m hm;rw[aD.mp hm];exact hac2)) pD ?_))⟩;rw[aI,hr',ba];exact((ru4.same s5).fr f5).append (.one (qr nq (f5 _ _ nq h5)))
 intro σ H4 p9;refine oE2 p9 λv0' us4 p6=>oA4 p6 λp8 s4 ha4 ru4=>?_;ext;rw[hK.len,aN]at ru4;have s34:=s3.trans s4;refine Xq T (st:=z8 bs rs) (p:=Off []) ?_ ?_ ?_ (by simp[z8];lia) (by simp[z8];lia) (λv' H5 s5 so=>k _ _ (s34.trans s5) ?_)
 .have:=(ru3.same s4).all;rw[show(bs.map λb=>D.lst (List.replicate b.1.toNat .non))=(zZ (z8 bs rs).cells).map D.lst by simp[z8,zZ,qg,dP]]at this;exact this.mk' (λz=>nomatch z) (s4 _ _ ha3)
 .exact qr (λz=>nomatch z) (s4 _ _ h3)
 .have:=ru4.all;rw[show(rs.map λr=>D.ints (qH r))=(qw (z8 bs rs).gone).map D.lst by simp[z8,qw,dP]]at this;exact this.mk' (λz=>nomatch z) ha4
 .refine oE2 so λy5 n5 p6=>oA5 p6 λe5 o5 f1 f2 f3=>?_;clear p6 so;exact iE2 y5 n5 (iA5 e5 o5 (zw s34 f1) (zw s34 f2) (λb hb=>zw s34 (f3 b hb)))
def zbW{r:Row}(h:r.ok)(hw:r.wd=.joiner):qH r=List.replicate r.ins.length 0:=by
 let⟨wd,ins,outs,pc,ks⟩:=r;simp only at hw;subst hw;let⟨⟨o,h1⟩,h2,_⟩:=h;simp only at h1 h2;subst h1;unfold qH;rw[Nat.max_eq_left (by simp;lia)]
def XO{r:Row}(h:r.ok)(hw:r.wd≠.joiner):qH r=List.replicate (max 1 r.outs.length) 0:=by
 let⟨wd,ins,outs,pc,ks⟩:=r;unfold qH;cases wd
 .obtain⟨h1,⟨o,h2⟩,_⟩:=h;simp only at h1 h2;subst h1 h2;rfl
 .obtain⟨⟨o,h1⟩,h2,_⟩:=h;simp only at h1 h2;subst h1 h2;rfl
 .obtain⟨⟨o,h1⟩,h2,_⟩:=h;simp only at h1 h2;subst h1;rfl
 .obtain⟨⟨o,h1⟩,h2,_⟩:=h;simp only at h1 h2;subst h1;rfl
 .obtain⟨⟨o,h1⟩,h2,_⟩:=h;simp only at h1 h2;subst h1;rfl
 .exact absurd rfl hw
def xD{r:Row}(h:r.ok):1<=(qH r).length/\(qH r).length<=4:=by
 have:=j5 h;by_cases hw:r.wd=.joiner
 .rw[zbW h hw,bg];let⟨wd,ins,outs,pc,ks⟩:=r;simp only at hw;subst hw;have:=h.2.1;simp only at this;constructor
  .show 1<=ins.length;lia
  .exact h.2.2
 .rw[XO h hw,bg]
  lia
def vn(rs:At)(x:zy):Prop:=∀s n,x=some (s,n)->∃(j:Nat)(r:Row),s=j/\rs[j]?=some r/\r.wd=.source/\0<=n
def zc4(rs:At)(gss:List A6):Prop:=gss.length=rs.length/\∀(i:Nat) r g,rs[i]?=some r->gss[i]?=some g->g.length=(qH r).length/\∀n∈g,0<=n
def xl(bs:A1)(rs:At)(css:Au):Prop:=css.length=bs.length/\∀(i:Nat) b c,bs[i]?=some b->css[i]?=some c->c.length=b.1.toNat/\∀x∈c,vn rs x
def zgS{rs:At}{gss:List A6}(h:zc4 rs gss){g g':A6}(e:gss[j]?=some g)(l:g'.length=g.length)(n:∀x∈g',0<=x):zc4 rs (gss.set j g'):=by
 refine⟨by rw[b6];exact h.1,λi r x h1 h2=>?_⟩;by_cases hj:i=j
 .subst hj;rw[a7 (aa.mp e).1]at h2;cases h2;exact⟨by rw[l];exact(h.2 i r g h1 e).1,n⟩
 .rw[bh (bb hj)]at h2;exact h.2 i r x h1 h2
def xT(r:Row)(s:Int):Prop:=0<=s/\(r.wd=.parter->s<r.outs.length)/\(r.wd=.joiner->s<r.ins.length)/\(r.wd≠.parter->r.wd≠.joiner->s=0)
def VE(rs:At)(sds:A6):Prop:=sds.length=rs.length/\∀(i:Nat) r s,rs[i]?=some r->sds[i]?=some s->xT r s
noncomputable def zJ(cs:Au)(b:Int):List zy:=cs.getD b.toNat []
noncomputable def xC(c:Av):zy:=c.getLastD none
noncomputable def Wo(c:Av):zy:=c.headD none
noncomputable def jP(rs:At):zy->Option Int:=Option.map λx=>wa ((rs[x.1.toNat]?.map Row.kinds).getD []) x.2
noncomputable def qo(rs:At)(cs:Au)(r:Row):List A9:=r.ins.map λb=>jP rs (xC (zJ cs b))
noncomputable def qS(cs:Au)(r:Row):List Bool:=r.outs.map λb=>decide (Wo (zJ cs b)=none)
def zdK{α:Type}{xs:List α}{d:α}(h:xs≠[]):atI xs (-1)=some (xs.getLastD d):=by
 have hl:0<xs.length:=cM.mpr h;unfold atI ixN;rw[ak (by decide),ao (by lia)];have e:((-1:Int)+xs.length).toNat=xs.length-1:=by lia
 simp only[Option.bind_some,e];rw[ac (by lia),bH,dI,ac (by lia)]
 rfl
def zbx{c:Av}:(c.map qg).getLastD .non=qg (xC c):=by
 unfold xC;rw[bH,bH,List.getLast?_map];cases c.getLast? <;> rfl
structure stWf(bs:A1)(rs:At)(st:PSt):Prop where
 co:xl bs rs st.cells
 so:VE rs st.sides
 go:zc4 rs st.gone
def xn{rs:At}{cs:Au}(h:xl bs rs cs)(bo:∀b∈bs,zE b.1 b.2){b:Int}(hb:b∈rgI bs.length):∃(i:Nat),b=i/\i<cs.length/\cs[i]?=some (zJ cs b)/\zJ cs b≠[]/\∀x∈zJ cs b,vn rs x:=by
 let⟨h0,h1⟩:=Qe hb;let⟨i,rfl⟩:∃i:Nat,b=i:=⟨b.toNat,by lia⟩;have hi:i<cs.length:=by rw[h.1];lia
 have e:cs[i]?=some (zJ cs i):=by
  unfold zJ;rw[ax,ac hi];simp[hi]
 have hib:i<bs.length:=by lia
 let⟨q1,q2⟩:=h.2 i bs[i] _ (ac hib) e;refine⟨i,rfl,hi,e,?_,q2⟩;intro z;rw[z]at q1;have:=(bo _ (cf hib)).1;simp at q1
 lia
def Zl{rs:At}{r:Row}{b:Int}(w:zN bs rs)(h:rs[k]?=some r)(hb:b∈r.ins):b∈rgI bs.length :=
 w.2.2.mem_iff.mp (bY.mpr ⟨r,ah h,hb⟩)
def vJ{rs:At}{r:Row}{b:Int}(w:zN bs rs)(h:rs[k]?=some r)(hb:b∈r.outs):b∈rgI bs.length :=
 w.2.1.mem_iff.mp (bY.mpr ⟨r,ah h,hb⟩)
def zdX{c:Av}(h:c≠[]):xC c∈c:=by
 unfold xC;rw[bH,List.getLast?_eq_some_getLast h];exact List.getLast_mem h
def zel{st:PSt}(h:Rep H p v (XM a st)):∃y dx fs lc ls lg ucs ugs,v=.ref y/\H y=some (.ins a.b dx fs)/\fs.lookup ("turn":Str)=some (.int st.turn)/\fs.lookup ("cells":Str)=some (.ref lc)/\fs.lookup ("sides":Str)=some (.ref ls)/\fs.lookup ("gone":Str)=some (.ref lg) /\
  H lc=some (.lst ucs)/\Reps H p ucs ((zZ st.cells).map D.lst)/\H ls=some (.lst (iv st.sides))/\H lg=some (.lst ugs)/\Reps H p ugs ((qw st.gone).map D.lst):=by
 let⟨y,dx,fs,rfl,py,hy,g1,g2⟩:=Rep.ob' h;let⟨u1,e1,r1⟩:=g1 _ _ (zaG st);let⟨u2,e2,r2⟩:=g1 _ _ (Wz st);let⟨u3,e3,r3⟩:=g1 _ _ (Wy st);let⟨u4,e4,r4⟩:=g1 _ _ (zaH st);cases r1;let⟨lc,ucs,rfl,_,hc,rc⟩:=r2.lst';let⟨ls,rfl,_,hs⟩:=r3.ints';let⟨lg,ugs,rfl,_,hg,rg⟩:=r4.lst';exact⟨y,dx,fs,lc,ls,lg,ucs,ugs,rfl,hy,e1,e2,e3,e4,hc,rc,hs,hg,rg⟩
def zgQ{us:Ap}{dss:List (List D)}(h:Reps H p us (dss.map D.lst)){ds:List D}(e:dss[i]?=some ds):∃l vs,us[i]?=some (.ref l)/\H l=some (.lst vs)/\Reps H p vs ds:=by
 let⟨v,h1,h2⟩:=h.of (i:=i) (d:=.lst ds) (by rw[am,e];rfl);let⟨l,vs,rfl,_,h3,h4⟩:=h2.lst';exact⟨l,vs,h1,h3,h4⟩
inductive spHeads(a:Ad)(vs:Ap)(H:Hp)(Q:VK)(E:XK):Prop
 |i (vw vs' vk:V) (bs:A1) (rs:At) (st:PSt) (k:Nat) (r:Row) (p q:A5):vs=[vw,vs',vk]->Rep H p vw (qG a bs rs)->Rep H q vs' (XM a st)->KnP a H p vk r->rs[k]?=some r->zN bs rs->(∀b∈bs,zE b.1 b.2)->(∀r∈rs,r.ok)->xl bs rs st.cells->(∀l H',Same H H'->H l=none->H' l=some (.lst ((qo rs st.cells r).map hdV))->Q (.ref l) H')->spHeads a vs H Q E
theorem zdi(T:Txt K mg a):Cal P w K mg base "heads_of" 2 ["work","state","knot"] [] (spHeads a):=T.nI.cal λF=>by
 refine F.okx zaV ?_ ?_
 .walk_at"i"
 walk_at"j";rcases h with⟨vw,vs',vk,bs,rs,st,kn,r,p,q,rfl,hw,hs,hk,hr',pj,bo,ro,co,k⟩;refine oE8 (zel hs) λy dx fs lc ls lg ucs ugs p6=>oA9 p6 λp8 hy e1 e2 e3 e4 hc rc pw=>oA3 pw λhsd hg rg=>?_;clear p6 pw;subst p8;refine oE6 hk.inv λy1 dx1 m1 m2 m3 fs1 p6=>oA9 p6 λp8 _ _ _ _ g0 f1 f2 pw=>oA5 pw λ_ g1 g2 _ _=>?_;clear p6 pw;subst p8;have rl:=j5 (ro r (ah hr'));walk_at"T";refine⟨_,(zh (WM (i:=3) zaV.nd rfl (Or.inl rfl) (vars:=["belt"]) (caps:=[1]) (N:=["belt","state"]) (ON:=["work","state","knot","ends"]) (osc:=zg wD) rfl rfl (by right) rfl rfl (qq (zk (pq 2) rfl)) (λ_ _ _ _=>(qu 0 (show(["belt","state"]:A8).Nodup from by symm))) (λ_ _ _ _=>qm) (λ_ _ _ _=>(zo (zo (zk (pq 1) rfl) (pq 0)) (Xg ZB ze))))  (zd (zl (jF (vars:=["ware"]) (caps:=[0]) (N:=["ware","work"]) (ON:=["work","state","knot","ends"]) (osc:=zg wD) rfl rfl (by right) rfl rfl (qq (pq 3)) (λ_ _ _ _=>(qu 0 (show(["ware","work"]:A8).Nodup from by symm))) (λ_ _ _ _=>qm) (λ_ _ _ _=>(wq (zm jr (pq 0) zC (zr _)) zC (vI hr (za (pq 1) (za (pq 0) zb))))))))),?_⟩;left;walk_at"d";exists ra g0 (CT T _) (NI T _) f1 ⟨m1,rfl,.inl ⟨⟨_,SqL.of g1⟩,λ_ _ _ _ pv hacc=>?_⟩⟩;let px:Nat->St->Hp->Prop:=λi σ H'=>∃(v0:Aq)(us:Ap),σ=[v0,some (.ref y)]/\Same H H'/\H' pv=some (.lst us)/\Reps H q us ((r.ins.take i).map λb=>qg (xC (zJ st.cells b)));refine qM (K:=K) (a:=m1) (xs:=iv r.ins) px (iE2 _ ([]) (iA4 rfl (zf hacc) pD (by rw[bW];exact .nil))) (λi σ H' _ h=>by let⟨_,_,_,s,_⟩:=h;exact SqL.of (s _ _ g1)) ?_ ?_
 .intro i x σ H2 hi p9;refine oE2 p9 λv0 us p6=>oA4 p6 λp8 s2 ha ru=>?_;ext;let⟨b,hb,rfl⟩:=Zw hi;have hil:=(aa.mp hb).1;refine oE1 (xn co bo (Zl pj hr' (ah hb))) λj p6=>oA5 p6 λp8 hj ej nej _=>?_;clear p6;subst p8;let⟨li,vi,hu,hli,ri⟩:=zgQ rc (i:=j) (ds:=(zJ st.cells j).map qg) (by rw[zZ,am,ej];rfl);let⟨ve,he,re⟩:=zi0 ri (zdK (d:=.non) (by simpa using nej));rw[zbx]at re;exists ra (s2 _ _ hy) T.ad T.iK e2 (zq (SqL.of (s2 _ _ hc)) (zt hu) ?_);exists zq (SqL.of (s2 _ _ hli)) he ?_;refine⟨_,iA3 ha (zn (by rw[ru.len,ai,aQ];lia)) (iE2 _ (us++[ve]) (iA4 rfl (λb o hb=>by rw[pE (pF hb hacc)];exact s2 b o hb) pD ?_))⟩;rw[aI,hb,ba];exact ru.append (.one re)
 intro σ H2 p9;refine oE2 p9 λv0 us p6=>oA4 p6 λp8 s2 ha ru=>?_;ext;rw[zL,aN]at ru;have lu:us.length=r.ins.length:=by rw[ru.len,ai]
 left;walk_at"d";exists⟨pv,rfl,.inl ⟨⟨_,SqL.of ha⟩,λ_ _ _ _ ac2 hac2=>?_⟩⟩;let pB:Nat->St->Hp->Prop:=λi σ H'=>∃(v0:Aq),σ=[v0,some vw]/\Same H2 H'/\H' ac2=some (.lst ((((qo rs st.cells r).take i).map hdV)));refine qM (K:=K) (a:=pv) (xs:=us) pB ⟨_,iA3 rfl (zf hac2) (by rw[bW];exact pD)⟩ (λi σ H' _ h=>by let⟨_,_,s,_⟩:=h;exact SqL.of (s _ _ ha)) ?_ ?_
 .intro i x σ H3 hi p9;refine oE1 p9 λv0 p6=>oA3 p6 λp8 s3 ha3=>?_;ext;let⟨d,hd,rx⟩:=ru.at hi;rw[am,aq]at hd;let⟨b,hb,rfl⟩:=hd;have hil:=(aa.mp hb).1;refine oE1 (xn co bo (Zl pj hr' (ah hb))) λj p6=>oA5 p6 λp8 hj ej nej wk=>?_;clear p6;subst p8;have hwk:=wk _ (zdX nej);have hh:(qo rs st.cells r)[i]?=some (jP rs (xC (zJ st.cells j))):=by rw[qo,am,hb];rfl
  have s23:=s2.trans s3;have fin:∀u:V,u=hdV (jP rs (xC (zJ st.cells j)))->∃ys,H3 ac2=some (.lst ys)/\ys.length<sizeLine/\∃(v0:Aq),([some x,some vw]:St)=[v0,some vw]/\Same H2 (upd H3 ac2 (.lst (ys++[u])))/\upd H3 ac2 (.lst (ys++[u])) ac2=some (.lst ((((qo rs st.cells r).take (i+1)).map hdV))):=by
   rintro u rfl;refine⟨_,iA3 ha3 (zn (by rw[ai,aQ];lia)) ⟨_,iA3 rfl (λb o hb=>by rw[pE (pF hb hac2)];exact s3 b o hb) ?_⟩⟩;rw[pD,aI,hh,ba]
   rfl
  left;cases hE:xC (zJ st.cells j)with
  |none =>
   rw[hE]at rx fin;cases rx;rw[ao rfl];exact fin _ rfl
  |some wr =>
   let⟨sr,nr⟩:=wr;rw[hE]at rx fin hwk;refine oE2 (hwk _ _ rfl) λj0 r0 p6=>oA4 p6 λp8 hr0 hw0 _=>?_;clear p6;subst p8;have ok0:=ro r0 (ah hr0);have kp:0<r0.kinds.length:=by
    let⟨wd,ins,outs,pc,ks⟩:=r0;simp only at hw0;subst hw0;exact ok0.2.2.2.2.1
   let⟨tw,rfl,htw⟩:=zaz rx;rw[ak (by intro z;cases z)];refine uc (Vj T).mono (iE5 vw _ bs rs p (iE4 q j0 nr r0 (iA7 rfl (ju hw s23) (ju rx s23) hr0 hw0 kp ?_)));exact fin _ (by simp[jP,hr0,hdV])
 .intro σ H3 p9;refine oE1 p9 λv0 p6=>oA3 p6 λp8 s3 ha3=>?_;ext;rw[lu,cc (by simp[qo])]at ha3;left;exact k _ _ (s2.trans s3) (zw s2 hac2) ha3
def zfT(K:A0):Sp:=λvs H Q _=>∃(l:Addr)(ns:A6)(o:Option Nat),vs=[.ref l,Zq o]/\H l=some (.lst (iv ns))/\(∀j,o=some j->j<ns.length)/\Q (hdV (o.bind λj=>ns[j]?)) H
theorem Vk(T:Txt K mg a):Cal P w K mg base "belt_at" 1 ["belts","place"] [] (zfT K):=T.nT.cal λF=>by
 refine F.okx zcs ?_ ?_
 .walk_at"i"
 walk_at"j";refine oE3 h λl ns o p6=>oA4 p6 λp8 hl ho k=>?_;clear p6 h;subst p8;walk_at"T";refine⟨_,(zd (zl (wq (zm jr (pq 1) zC (zr _)) zC (zo (pq 0) (pq 1))))),?_⟩;left;cases o with
 |none=>exact zT (λ_=>k) (λb=>absurd rfl b)
 |some j =>
  have hj:=ho j rfl;refine zT (λb=>by cases b) (λ_=>?_);refine zq (SqL.of hl) (zt (qV (ac hj))) ?_;have e:hdV ((some j).bind λj=>ns[j]?)=.int ns[j]:=by simp[hj,hdV]
  rw[e]at k;exact k
def zjG(T:Txt K mg a)(wd:Wd):kitOne K (.ref (ww a wd)) (.ref a.p)=some (decide (wd=.joiner)):=by
 cases wd
 .exact T.lA
 .exact T.lP
 .exact T.lB
 .exact T.kB
 .exact T.lQ
 .exact T.lC
noncomputable def jk(r:Row)(ch:Ak):Nat:=if r.wd=.joiner then ch.1.getD 0 else ch.2.1.getD 0
inductive spCounted(a:Ad)(vs:Ap)(H:Hp)(Q:VK)(E:XK):Prop
 |i (vk:V) (t:Addr) (r:Row) (ch:Ak) (p:A5):vs=[vk,.ref t]->KnP a H p vk r->H t=some (.tup (chV ch))->(r.wd=.joiner->∃j,ch.1=some j)->Q (.int (jk r ch)) H->spCounted a vs H Q E
theorem Jx(T:Txt K mg a):Cal P w K mg base "counted_place" 1 ["knot","chosen"] [] (spCounted a):=T.lF.cal λF=>by
 refine F.okx Qw ?_ ?_
 .walk_at"i"
 walk_at"j";rcases h with⟨vk,t,r,ch,p,rfl,hk,ht,hj,k⟩;let⟨y1,dx1,m1,m2,m3,fs1,rfl,_,_,_,_,g0,f1,f2,_,g1,g2,_,_⟩:=hk.inv;walk_at"T";refine⟨_,(zi (zF (qz (zM xE qh (za (pq 0) (za jG zb))) (λ_=>rfl))  (zd (zl (zo (pq 1) ze)))  zp)  (zd (zl (wq (zm jr (zo (pq 1) ze) zC (zr _)) ze (zo (pq 1) ze))))),?_⟩;exists⟨.ref a.p,_,T.kF,rfl,_,_,_,_,rfl,(WT T r.wd).ty (CT T r.wd) g0,.inl ⟨_,rfl,zjG T r.wd⟩,?_⟩;left;unfold jk at k;refine zT (λb=>?_) (λb=>?_)
 .rw[ao b]at k;let⟨j,ej⟩:=hj b;exists pH ht at0 ?_;rw[ej]at k ⊢;exact k
 .rw[ak b]at k;exists pH ht (show atI (chV ch) 1=some (Zq ch.2.1)from rfl) ?_;left;cases e:ch.2.1 with
  |none =>
   rw[e]at k;exact zT (λ_=>k) (λb=>absurd rfl b)
  |some j =>
   rw[e]at k;refine zT (λb=>by cases b) (λ_=>?_);refine pH ht (show atI (chV ch) 1=some (Zq ch.2.1)from rfl) ?_;rw[e];exact k
section
variable{H:Hp}{y:Addr}{n:SN}{st:PSt}
def StO.nds(h:StO a H y n st):n.ls∉n.lc::n.lg::(n.acs++n.ags)/\n.lc∉n.lg::(n.acs++n.ags)/\n.lg∉n.acs++n.ags/\∀x∈n.acs,x∉n.ags:=by
 have nd:=h.nd;unfold SN.all at nd;rw[cS,cS,cS,fH]at nd;exact⟨nd.1,nd.2.1,nd.2.2.1,λx hx hy=>nd.2.2.2.2.2 x hx x hy rfl⟩
def Jz{x:Addr}{us vs:Ap}(hx:H x=some (.lst us))(h:z6 H b):z6 (upd H x (.lst vs)) b:=by
 let⟨xs,hb⟩:=h;exact⟨xs,by rw[pE (λz=>by rw[z,hx]at hb;cases hb)];exact hb⟩
def StO.putC{c':Av}(h:StO a H y n st)(e:n.acs[i]?=some b)(r:Reps H (z6 H) vs (c'.map qg)):StO a (upd H b (.lst vs)) y n {st with cells:=st.cells.set i c'}:=by
 have hb:=ah e;let⟨us,hu⟩:=h.hc.isl (ay _ hb);let⟨n1,n2,n3,n4⟩:=h.nds;have k:∀c o,c≠b->H c=some o->upd H b (.lst vs) c=some o:=λc o nc hc=>by rw[pE nc];exact hc
 have ntb:¬z6 H b:=λ⟨xs,hx⟩=>by rw[hu]at hx;cases hx
 refine⟨k _ _ (λz=>by rw[<- z,h.hy]at hu;cases hu) h.hy,?_,k _ _ (λz=>n1 (by rw[z];simp[hb])) h.hs,h.hg.tup λc o hz hc=>k c o (λz=>?_) hc,h.nd⟩
 .have:=h.hc.put (vs:=vs) (ys:=c'.map qg) e ntb r;rw[show zZ (st.cells.set i c')=(zZ st.cells).set i (c'.map qg) by simp[zZ,eI]];exact this.keep (λ_ _ _ hc=>hc) λc hc _=>Jz hu hc
 .subst z;rcases hz with rfl|hz|hz
  .exact n3 (bA _ hb)
  .exact n4 c hb hz
  .exact ntb hz
def StO.putG{g':A6}(h:StO a H y n st)(e:n.ags[i]?=some b):StO a (upd H b (.lst (iv g'))) y n {st with gone:=st.gone.set i g'}:=by
 have hb:=ah e;let⟨us,hu⟩:=h.hg.isl (ay _ hb);let⟨n1,n2,n3,n4⟩:=h.nds;have k:∀c o,c≠b->H c=some o->upd H b (.lst (iv g')) c=some o:=λc o nc hc=>by rw[pE nc];exact hc
 have ntb:¬z6 H b:=λ⟨xs,hx⟩=>by rw[hu]at hx;cases hx
 refine⟨k _ _ (λz=>by rw[<- z,h.hy]at hu;cases hu) h.hy,h.hc.tup λc o hz hc=>k c o (λz=>?_) hc,k _ _ (λz=>n1 (by rw[z];simp[hb])) h.hs,?_,h.nd⟩
 .subst z;rcases hz with rfl|hz|hz
  .exact n2 (ay _ (a8 _ hb))
  .exact n4 c hz hb
  .exact ntb hz
 .have:=h.hg.put (vs:=iv g') (ys:=g'.map D.int) e ntb reps_ints;rw[show qw (st.gone.set i g')=(qw st.gone).set i (g'.map D.int) by simp[qw,eI]];exact this.keep (λ_ _ _ hc=>hc) λc hc _=>Jz hu hc
def StO.putS{s':A6}(h:StO a H y n st):StO a (upd H n.ls (.lst (iv s'))) y n {st with sides:=s'}:=by
 let⟨n1,n2,n3,n4⟩:=h.nds;have k:∀c o,c≠n.ls->H c=some o->upd H n.ls (.lst (iv s')) c=some o:=λc o nc hc=>by rw[pE nc];exact hc
 have kt:∀c,z6 H c->c≠n.ls:=λc ⟨xs,hx⟩ z=>by rw[z,h.hs]at hx;cases hx
 refine⟨k _ _ (λz=>by have:=h.hy;rw[z,h.hs]at this;cases this) h.hy,h.hc.tup λc o hz hc=>k c o (λz=>?_) hc,pD,h.hg.tup λc o hz hc=>k c o (λz=>?_) hc,h.nd⟩
 .rcases hz with rfl|hz|hz
  .exact n1 (by rw[<- z];simp)
  .exact n1 (by rw[<- z];simp[hz])
  .exact kt c hz z
 .rcases hz with rfl|hz|hz
  .exact n1 (by rw[<- z];simp)
  .exact n1 (by rw[<- z];simp[hz])
  .exact kt c hz z
def StO.cell{c:Av}(h:StO a H y n st)(e:st.cells[i]?=some c):∃b vs,n.acs[i]?=some b/\H b=some (.lst vs)/\Reps H (z6 H) vs (c.map qg):=h.hc.at (by rw[zZ,am,e];rfl)
def StO.goneL{g:A6}(h:StO a H y n st)(e:st.gone[i]?=some g):∃b,n.ags[i]?=some b/\H b=some (.lst (iv g)):=by
 let⟨b,vs,h1,h2,h3⟩:=h.hg.at (i:=i) (xs:=g.map D.int) (by rw[qw,am,e];rfl);rw[JF h3]at h2;exact⟨b,h1,h2⟩
def sff_l{t:Int}{lc ls lg:Addr}:(sff t lc ls lg).lookup ("cells":Str)=some (.ref lc)/\(sff t lc ls lg).lookup ("sides":Str)=some (.ref ls)/\(sff t lc ls lg).lookup ("gone":Str)=some (.ref lg)/\(sff t lc ls lg).lookup ("turn":Str)=some (.int t):=by
 unfold sff;refine⟨(z7 (by symm)).trans jg,(z7 (by symm)).trans ((z7 (by symm)).trans jg),(z7 (by symm)).trans ((z7 (by symm)).trans ((z7 (by symm)).trans jg)),jg⟩
def Qr(e:n.acs[i]?=some b):(n.acs.map V.ref)[i]?=some (.ref b):=by rw[am,e];rfl
def xq(e:n.ags[i]?=some b):(n.ags.map V.ref)[i]?=some (.ref b):=by rw[am,e];rfl
def zas(e:n.acs[i]?=some b):b∈y::n.all:=by simp[SN.all,ah e]
def ziC(e:n.ags[i]?=some b):b∈y::n.all:=by simp[SN.all,ah e]
end
noncomputable def qX(c:Av):List zy:=c.set (c.length-1) none
noncomputable def zQ(st:PSt)(k:Nat):Option Int->zy×PSt
 |none=>(some ((k:Int),(st.gone.getD k []).headD 0),st)
 |some b=>(xC (zJ st.cells b),{st with cells:=st.cells.set b.toNat (qX (zJ st.cells b))})
def Reps.set{ds:List D}{d:D}(h:Reps H p vs ds)(i:Nat)(r:Rep H p v d):Reps H p (vs.set i v) (ds.set i d):=by
 refine⟨by rw[b6,b6,h.len],λj u e h1 h2=>?_⟩;by_cases hj:j=i
 .subst hj;have hl:j<vs.length:=by have:=(aa.mp h1).1;rw[b6]at this;exact this
  rw[a7 hl]at h1;rw[a7 (by rw[<- h.len];exact hl)]at h2;cases h1;cases h2;exact r
 .rw[bh (bb hj)]at h1 h2;exact h.g j u e h1 h2
inductive spTaken(a:Ad)(vs:Ap)(H:Hp)(Q:VK)(E:XK):Prop
 |i (y:Addr) (n:SN) (st:PSt) (k:Nat) (fb:A9) (g0:Int) (gs:A6):vs=[.ref y,.int k,hdV fb]->StO a H y n st->st.gone[k]?=some (g0::gs)->(∀b,fb=some b->∃i:Nat,b=i/\st.cells[i]?=some (zJ st.cells b)/\zJ st.cells b≠[])->(∀v H',Fr (y::n.all) H H'->StO a H' y n (zQ st k fb).2->Rep H' (z6 H') v (qg (zQ st k fb).1)->Q v H')->spTaken a vs H Q E
theorem zal(T:Txt K mg a):Cal P w K mg base "taken_ware" 1 ["state","number","from_belt"] [] (spTaken a):=T.mK.cal λF=>by
 refine F.okx X1 ?_ ?_
 .walk_at"i"
 walk_at"j";rcases h with⟨y,n,st,kn,fb,g0,gs,rfl,so,hg,hf,k⟩;refine oA4 (sff_l (t:=st.turn) (lc:=n.lc) (ls:=n.ls) (lg:=n.lg)) λlk1 lk2 lk3 lk4=>?_;walk_at"T";refine⟨_,(zi (zF (zm jr (pq 2) zC (zr _))  (zd (zl (jq (za (pq 1) (za (zo (zo (zk (pq 0) rfl) (pq 1)) ze) zb)))))  zp)  (zi (zu 3 X1.nd (zo (zo (zk (pq 0) rfl) (pq 2)) (Xg ZB ze)))  (zi (Xc zC (Xf (zo (zk (pq 0) rfl) (pq 2)) (Xg ZB ze) we))  (zd (zl (pq 3)))))),?_⟩;left;cases fb with
 |none =>
  refine zT (λ_=>?_) (λb=>absurd rfl b);let⟨bG,hbG,hgG⟩:=so.goneL hg;exists ra so.hy T.ad T.iJ lk3 (zq (SqL.of so.hg.out) (zt (xq hbG)) (zq (SqL.of hgG) at0 ?_));left;intro t ht;refine k _ _ (zc6 ht) (so.same (zf ht)) ?_;have e:(st.gone.getD kn []).headD 0=g0:=by simp[List.getD,hg]
  show Rep _ _ _ (D.tup [.int kn,.int ((st.gone.getD kn []).headD 0)])
  rw[e];exact Reps.mkT (vs:=[.int kn,.int g0]) (.cons .int (.cons .int .nil)) ⟨_,pD⟩ pD
 |some b =>
  refine oE1 (hf b rfl) λi p6=>oA3 p6 λp8 hc nc=>?_;clear p6;subst p8;refine oE2 (so.cell hc) λbC vs p6=>oA3 p6 λhbC hvC rvC=>?_;clear p6;have lv:vs.length=(zJ st.cells i).length:=by rw[rvC.len,ai]
  have lp:0<vs.length:=by rw[lv];exact cM.mpr nc
  let⟨ve,he,re⟩:=zi0 rvC (zdK (d:=.non) (by simpa using nc));rw[zbx]at re;refine zT (λb=>by cases b) (λ_=>?_);exists ra so.hy T.ad T.iK lk1 (zq (SqL.of so.hc.out) (zt (Qr hbC)) ?_);exists zq (SqL.of hvC) he ?_;exists ra so.hy T.ad T.iK lk1 (zq (SqL.of so.hc.out) (zt (Qr hbC)) ?_);exists Ze (j:=vs.length-1) hvC ?_ ?_
  .unfold ixN;rw[ak (by decide),ao (by lia)]
   congr 1
   lia
  have e2:(qX (zJ st.cells i)).map qg=((zJ st.cells i).map qg).set (vs.length-1) .non:=by
   unfold qX;rw[eI,lv]
   rfl
  have r2:Reps H (z6 H) (vs.set (vs.length-1) .non) ((qX (zJ st.cells i)).map qg):=by rw[e2];exact Reps.set rvC _ .non
  refine k _ _ (qZ (zas hbC)) ?_ ?_
  .have:=so.putC hbC r2;simpa[zQ]using this
  .refine Rep.keep (λc o pc hc=>⟨Jz hvC pc,?_⟩) re;let⟨xs,hx⟩:=pc;rw[pE (λz=>by rw[z,hvC]at hx;cases hx)];exact hc
structure Move where
 k:Nat
 ware:zy
 fr:Option Int
 to:Option Int
noncomputable def zjZ:Option Int->D
 |none=>.non
 |some b=>.int b
def zdx(o:A9):Rep H p (hdV o) (zjZ o):=by
 cases o
 .exact .non
 .exact .int
noncomputable def Vf(m:Move):D:=.tup [.int m.k,qg m.ware,zjZ m.fr,zjZ m.to]
noncomputable def zj0:Option Move->D
 |none=>.non
 |some m=>Vf m
noncomputable def x6(st:PSt)(x:zy):Option Int->PSt
 |none=>st
 |some b=>{st with cells:=st.cells.set b.toNat ((zJ st.cells b).set 0 x)}
noncomputable def wz(g:A6)(j:Nat):List Int:=g.set j (g.getD j 0+1)
noncomputable def qj(r:Row)(ch:Ak):Option Int:=ch.1.bind λj=>r.ins[j]?
noncomputable def jJ(r:Row)(ch:Ak):Option Int:=ch.2.1.bind λj=>r.outs[j]?
noncomputable def movedF(r:Row)(st:PSt)(k:Nat)(ch:Ak):PSt:=x6 (zQ st k (qj r ch)).2 (zQ st k (qj r ch)).1 (jJ r ch)
noncomputable def vW(r:Row)(st:PSt)(k:Nat)(ch:Ak):PSt×Move :=
 ({movedF r st k ch with sides:=(movedF r st k ch).sides.set k ch.2.2,gone:=(movedF r st k ch).gone.set k (wz ((movedF r st k ch).gone.getD k []) (jk r ch))},⟨k,(zQ st k (qj r ch)).1,qj r ch,jJ r ch⟩)
noncomputable def qv(rs:At)(st:PSt)(k:Nat):PSt×Option Move:=match rs[k]? with
 |none=>(st,none)
 | some r=>match qf r (qo rs st.cells r) (qS st.cells r) st.turn (st.sides.getD k 0).toNat with
  |none=>(st,none)
  |some ch=>((vW r st k ch).1,some (vW r st k ch).2)
def QQ{rs:At}{cs:Au}(h:xl bs rs cs){c c':Av}(e:cs[i]?=some c)(l:c'.length=c.length)(k:∀x∈c',vn rs x):xl bs rs (cs.set i c'):=by
 refine⟨by rw[b6];exact h.1,λj b d h1 h2=>?_⟩;by_cases hj:j=i
 .subst hj;rw[a7 (aa.mp e).1]at h2;cases h2;exact⟨by rw[l];exact(h.2 j b c h1 e).1,k⟩
 .rw[bh (bb hj)]at h2;exact h.2 j b d h1 h2
def Qu{rs:At}:vn rs none:=λ_ _ z=>nomatch z
def vN{α:Type}{xs:List α}{x y:α}(h:y∈xs.set i x):y∈xs\/y=x:=List.mem_or_eq_of_mem_set h
theorem xu{r:Row}{hs:List A9}{bs:Ai}{t:Int}{ch:Ak}(ok:r.ok)(hl:hs.length=r.ins.length)(bl:bs.length=r.outs.length)(sd:xT r side)(h:qf r hs bs t side=some ch) :
  (∀j,ch.1=some j->j<r.ins.length)/\(∀j,ch.2.1=some j->j<r.outs.length)/\(r.wd=.joiner->∃j,ch.1=some j)/\(ch.1=none->r.wd=.source)/\xT r ch.2.2/\jk r ch<(qH r).length:=by
 let⟨wd,ins,outs,pace,kinds⟩:=r;have cp:=xD ok;unfold qf at h;cases wd with
 |source =>
  simp only at h;let⟨h1,⟨o,h2⟩,_⟩:=ok;simp only at h1 h2;subst h1 h2
  split at h
  .cases h;exact⟨(λj z=>nomatch z),λj z=>by cases z;simp,(λz=>nomatch z),λ_=>rfl,sd,by simp[jk];lia⟩
  .cases h
 |drain =>
  simp only at h;let⟨⟨o,h1⟩,h2,_⟩:=ok;simp only at h1 h2;subst h1 h2
  split at h
  .cases h
  .cases h;exact⟨λj z=>by cases z;simp,(λj z=>nomatch z),(λz=>nomatch z),(λz=>nomatch z),sd,by simp[jk];lia⟩
 |parter =>
  simp only at h;let⟨⟨o,h1⟩,h2,h3⟩:=ok;simp only at h1 h2 h3 bl;subst h1
  split at h
  .cases h
  .rw[aq]at h;let⟨q,hq,rfl⟩:=h;have hlt:=wu hq;refine⟨λj z=>by cases z;simp,λj z=>by cases z;show q<outs.length;lia,(λz=>nomatch z),(λz=>nomatch z),⟨cW _,λ_=>?_,(λz=>nomatch z),λz=>absurd rfl z⟩,?_⟩
   .have:=cD (q+1) (show 0<bs.length by lia);show(((q+1)%bs.length:Nat):Int)<outs.length
    lia
   .simp only[jk,aO];rw[ak (by decide)];show q<(List.replicate (max 1 outs.length) 0).length
    rw[bg]
    lia
 |first =>
  simp only at h;let⟨⟨o,h1⟩,h2,h3⟩:=ok;simp only at h1 h2 h3 bl;subst h1
  split at h
  .cases h
  .rw[aq]at h;let⟨q,hq,rfl⟩:=h;have hlt:=wu hq;refine⟨λj z=>by cases z;simp,λj z=>by cases z;show q<outs.length;lia,(λz=>nomatch z),(λz=>nomatch z),sd,?_⟩;simp only[jk,aO];rw[ak (by decide)];show q<(List.replicate (max 1 outs.length) 0).length
   rw[bg]
   lia
 |sieve =>
  simp only at h;let⟨⟨o,h1⟩,h2,_⟩:=ok;simp only at h1 h2 bl;subst h1
  split at h
  .cases h
  .generalize (if hs.getD 0 none=some (kinds.headD 0)then 0 else 1)=q at h;have q2:q=q:=rfl
   split at h
   .rename_i hb;cases h;have hlt:q<outs.length:=by
     rcases Nat.lt_or_ge q bs.length with z|z
     .lia
     .rw[ae,cm z]at hb;cases hb
    refine⟨λj z=>by cases z;simp,λj z=>by cases z;exact hlt,(λz=>nomatch z),(λz=>nomatch z),sd,?_⟩;simp only[jk,aO];rw[ak (by decide)];show q<(List.replicate (max 1 outs.length) 0).length
    rw[bg]
    lia
   .cases h
 |joiner =>
  simp only at h;let⟨⟨o,h1⟩,h2,h3⟩:=ok;simp only at h1 h2 h3 hl;subst h1
  split at h
  .rw[aq]at h;let⟨q,hq,rfl⟩:=h;have hlt:=wu hq;rw[ai]at hlt;refine⟨λj z=>by cases z;show q<ins.length;lia,λj z=>by cases z;simp,λ_=>⟨q,rfl⟩,(λz=>nomatch z),⟨cW _,(λz=>nomatch z),λ_=>?_,λ_ z=>absurd rfl z⟩,?_⟩
   .have:=cD (q+1) (show 0<hs.length by lia);show(((q+1)%hs.length:Nat):Int)<ins.length
    lia
   .simp only[jk,aO];rw[ao trivial];show q<(List.replicate (max ins.length 1) 0).length
    rw[bg]
    lia
  .cases h
theorem zaE{rs:At}{st:PSt}{r:Row}{fb:A9}(wf:stWf bs rs st)(pj:zN bs rs)(bo:∀b∈bs,zE b.1 b.2)(ro:∀r∈rs,r.ok)(hr:rs[k]?=some r)(hf:∀b,fb=some b->b∈rgI bs.length)(hn:fb=none->r.wd=.source) :
  stWf bs rs (zQ st k fb).2/\vn rs (zQ st k fb).1:=by
 cases fb with
 |none =>
  refine⟨wf,λs n z=>?_⟩;have z:((k:Int),(st.gone.getD k []).headD 0)=(s,n):=aF z;cases z;refine⟨k,r,rfl,hr,hn rfl,?_⟩;have hk:=(aa.mp hr).1;have hg:st.gone[k]?=some (st.gone.getD k []):=by
   rw[ae,ac (by rw[wf.go.1];exact hk)]
   rfl
  let⟨q1,q2⟩:=wf.go.2 k r _ hr hg;have cp:=xD (ro r (ah hr));cases e:st.gone.getD k []with
  |nil=>rw[e]at q1;simp at q1;lia
  |cons x xs=>exact q2 x (by rw[e];simp)
 |some b =>
  let⟨i,rfl,hi,ei,ne,wk⟩:=xn wf.co bo (hf b rfl);refine⟨⟨?_,wf.so,wf.go⟩,wk _ (zdX ne)⟩;show xl bs rs (st.cells.set _ _)
  rw[ax];refine QQ wf.co ei (by simp[qX]) λx hx=>?_;rcases vN hx with h|h
  .exact wk x h
  .rw[h];exact Qu
def zbf{rs:At}{st:PSt}{x:zy}{tb:A9}(wf:stWf bs rs st)(bo:∀b∈bs,zE b.1 b.2)(hf:∀b,tb=some b->b∈rgI bs.length)(hx:vn rs x):stWf bs rs (x6 st x tb):=by
 cases tb with
 |none=>exact wf
 |some b =>
  let⟨i,rfl,hi,ei,ne,wk⟩:=xn wf.co bo (hf b rfl);refine⟨?_,wf.so,wf.go⟩;show xl bs rs (st.cells.set _ _)
  rw[ax];refine QQ wf.co ei (by simp) λz hz=>?_;rcases vN hz with h|h
  .exact wk z h
  .rw[h];exact hx
def zfU{rs:At}{sds:A6}{r:Row}{s:Int}(h:VE rs sds)(hr:rs[k]?=some r)(hs:xT r s):VE rs (sds.set k s):=by
 refine⟨by rw[b6];exact h.1,λj r2 s2 h1 h2=>?_⟩;by_cases hj:j=k
 .subst hj;rw[a7 (by rw[h.1];exact(aa.mp h1).1)]at h2;cases h2;rw[hr]at h1;cases h1;exact hs
 .rw[bh (bb hj)]at h2;exact h.2 j r2 s2 h1 h2
def ql{α:Type}{xs:List α}{d:α}(h:k<xs.length):xs[k]?=some (xs.getD k d):=by
 rw[ae,ac h];rfl
def zd8{g:A6}(h:∀x∈g,0<=x):(wz g j).length=g.length/\∀x∈wz g j,0<=x:=by
 refine⟨by simp[wz],λx hx=>?_⟩;rcases vN hx with z|z
 .exact h x z
 .rw[z];have:0<=g.getD j 0:=by
   rw[ae];cases e:g[j]? with
   |none=>simp
   |some v=>exact h v (ah e)
  lia
def ziG{rs:At}{st:PSt}(wf:stWf bs rs st)(pj:zN bs rs)(bo:∀b∈bs,zE b.1 b.2)(ro:∀r∈rs,r.ok):stWf bs rs (qv rs st k).1:=by
 unfold qv;cases hr:rs[k]? with
 |none=>exact wf
 |some r =>
  simp only;have hk:=(aa.mp hr).1;have ok:=ro r (ah hr);have hsd:=wf.so.2 k r _ hr (ql (d:=0) (by rw[wf.so.1];exact hk));have hsd':xT r ((st.sides.getD k 0).toNat:Int):=by rw[bU hsd.1];exact hsd
  cases hc:qf r (qo rs st.cells r) (qS st.cells r) st.turn (st.sides.getD k 0).toNat with
  |none=>exact wf
  |some ch =>
   let⟨c1,c2,c3,c4,c5,c6⟩:=xu ok (by simp[qo]) (by simp[qS]) hsd' hc;have hfb:∀b,qj r ch=some b->b∈rgI bs.length:=λb hb=>by
    unfold qj at hb;let⟨j,hj1,hj2⟩:=aR.mp hb;exact Zl pj hr (ah hj2)
   have htb:∀b,jJ r ch=some b->b∈rgI bs.length:=λb hb=>by
    unfold jJ at hb;let⟨j,hj1,hj2⟩:=aR.mp hb;exact vJ pj hr (ah hj2)
   have hfn:qj r ch=none->r.wd=.source:=λhb=>by
    cases e:ch.1 with
    |none=>exact c4 e
    |some j =>
     unfold qj at hb;rw[e]at hb;simp at hb;have:=c1 j e
     lia
   let⟨w1,w2⟩:=zaE wf pj bo ro hr hfb hfn;have w3:=zbf w1 bo htb w2;refine⟨w3.co,zfU w3.so hr c5,?_⟩;have hg:=ql (xs:=(movedF r st k ch).gone) (k:=k) (d:=[]) (by rw[show(movedF r st k ch).gone.length=rs.length from w3.go.1];exact hk);let⟨q1,q2⟩:=w3.go.2 k r _ hr hg;exact zgS w3.go hg (zd8 q2).1 (zd8 q2).2
def KnP.no{y C dx:Addr}{r:Row}{f:Str}(h:KnP a H p (.ref y) r)(hy:H y=some (.ins C dx fs))(h1:f≠"ins")(h2:f≠"outs")(h3:f≠"pace")(h4:f≠"kinds")(h5:f≠"kind"):fs.lookup f=none:=by
 let⟨y',dx',fs',e,_,hy',_,g⟩:=Rep.ob' h;cases e;rw[hy]at hy';cases hy';exact g f (zgG h1 h2 h3 h4 h5)
def StO.offT{y:Addr}{n:SN}{st:PSt}(h:StO a H y n st)(t:z6 H b):b∉y::n.all:=by
 let⟨xs,hx⟩:=t;intro hb;have no:∀us,H b≠some (.lst us):=λus e=>by rw[hx]at e;cases e
 unfold SN.all at hb;rcases av.mp hb with rfl|hb
 .rw[h.hy]at hx;cases hx
 rcases av.mp hb with rfl|hb
 .exact no _ h.hs
 rcases av.mp hb with rfl|hb
 .exact no _ h.hc.out
 rcases av.mp hb with rfl|hb
 .exact no _ h.hg.out
 rcases aG.mp hb with hb|hb
 .obtain⟨us,e⟩:=h.hc.isl (ay _ hb);exact no _ e
 .obtain⟨us,e⟩:=h.hg.isl (ay _ hb);exact no _ e
def StO.repT{H H':Hp}{y:Addr}{n:SN}{st:PSt}(h:StO a H y n st)(s:Fr (y::n.all) H H'){d:D}(r:Rep H (z6 H) v d):Rep H' (z6 H') v d :=
 Rep.keep (λb o hp hb=>⟨by let⟨xs,hx⟩:=hp;exact⟨xs,s _ _ (h.offT ⟨xs,hx⟩) hx⟩,s _ _ (h.offT hp) hb⟩) r
def zgL(ns:A6)(k:Nat)(x:Int):(iv ns).set k (.int x)=iv (ns.set k x):=by simp[iv]
def zeF{H H':Hp}{d:D}(r:Rep H (z6 H) v d)(s:Same H H'):Rep H' (z6 H') v d:=Rep.keep (λb o ⟨xs,hx⟩ hb=>⟨⟨xs,s _ _ hx⟩,s _ _ hb⟩) r
inductive spAct(a:Ad)(vs:Ap)(H:Hp)(Q:VK)(E:XK):Prop
 |i (vw:V) (y:Addr) (n:SN) (st:PSt) (k:Nat) (bs:A1) (rs:At):vs=[vw,.ref y,.int k]->Rep H (Off (y::n.all)) vw (qG a bs rs)->StO a H y n st->stWf bs rs st->zN bs rs->(∀b∈bs,zE b.1 b.2)->(∀r∈rs,r.ok)->k<rs.length->(∀v H',Fr (y::n.all) H H'->StO a H' y n (qv rs st k).1->Rep H' (z6 H') v (zj0 (qv rs st k).2)->Q v H')->spAct a vs H Q E
def zjw(T:Txt K mg a)(F:Fun K "act" "act" zdu f fd):FnOk P w K mg base (CXr P w) 4 f fd ["work","state","number"] (spAct a):=by
 refine F.okx zjf ?_ ?_
 .walk_at"i"
 walk_at"j";rcases h with⟨vw,y,n,st,kn,bs,rs,rfl,hw,so,wf,pj,bo,ro,hk,k⟩;refine oE7 (qO hw) λyw dw fw l1 l2 bvs ph p6=>oA9 p6 λp8 hyw ew1 ew2 hl1 hl2 hB hK no=>?_;clear p6;subst p8;let⟨r,hr'⟩:∃r,rs[kn]?=some r:=⟨rs[kn],ac hk⟩;have ok:=ro r (ah hr');have rl:=j5 ok;let⟨kv,hkv,hKn⟩:=wK hK hr';refine oE6 hKn.inv λy1 dx1 m1 m2 m3 fs1 p6=>oA9 p6 λp8 _ _ _ _ g0 f1 f2 pw=>oA5 pw λ_ g1 g2 _ _=>?_;clear p6 pw;subst p8;have fno:=hKn.no (f:="choice") g0 (by symm) (by symm) (by symm) (by symm) (by symm);have hsd:=wf.so.2 kn r _ hr' (ql (d:=0) (by rw[wf.so.1];exact hk));let⟨side,esd⟩:∃sd:Nat,st.sides.getD kn 0=sd:=⟨(st.sides.getD kn 0).toNat,(bU hsd.1).symm⟩;have hside:st.sides[kn]?=some (side:Int):=by rw[<- esd];exact ql (by rw[wf.so.1];exact hk)
 have hsd':xT r (side:Int):=by rw[<- esd];exact hsd
 have esd':(st.sides.getD kn 0).toNat=side:=by rw[esd];rfl
 refine oA4 (sff_l (t:=st.turn) (lc:=n.lc) (ls:=n.ls) (lg:=n.lg)) λlk1 lk2 lk3 lk4=>?_;have hAct:∀x,qf r (qo rs st.cells r) (qS st.cells r) st.turn side=x->qv rs st kn=match x with|none=>(st,none)|some ch=>((vW r st kn ch).1,some (vW r st kn ch).2):=λx e=>by
  unfold qv;rw[hr'];simp only;rw[esd',e]
  all_goals (cases x<;>rfl)
 walk_at"T";refine⟨_,(zh (zu 3 zjf.nd (zo (zk (pq 0) rfl) (pq 2)))  (zh (WM (i:=4) zjf.nd rfl (Or.inl rfl) (vars:=["belt"]) (caps:=[1]) (N:=["belt","state"]) (ON:=["work","state","number","knot","free","chosen","from_belt","to_belt","ware"]) (osc:=zg zdu) rfl rfl (by right) rfl rfl (qq (zk (pq 3) rfl)) (λ_ _ _ _=>(qu 0 (show(["belt","state"]:A8).Nodup from by symm))) (λ_ _ _ _=>qm) (λ_ _ _ _=>(Zg op_isN (zo (zo (zk (pq 1) rfl) (pq 0)) ze) zC (zr _))))  (zh (zu 5 zjf.nd (QH ⟨rfl,rfl,rfl⟩ hr (pq 3) (za ‹(pq 0) (za (pq 1) (za (pq 3) zb))› (za (pq 4) (za (zk (pq 1) rfl) (za (zo (zk (pq 1) rfl) (pq 2)) zb))))))  (zh (zF (zm jr (pq 5) zC (zr _))  (zd (zl zC))  zp)  (zh (zu 6 zjf.nd ‹(zk (pq 3) rfl) (za (zo (pq 5) ze) zb)›)  (zh (zu 7 zjf.nd ‹(zk (pq 3) rfl) (za (zo (pq 5) ze) zb)›)  (zh (zu 8 zjf.nd ‹(pq 1) (za (pq 2) (za (pq 6) zb))›)  (qF (zF (zm wI (pq 7) zC (zr _))  (zd (Xc (pq 8) (Xf (zo (zk (pq 1) rfl) (pq 7)) ze we)))  zp)  (zh (Xc (zo (pq 5) ze) (Xf (zk (pq 1) rfl) (pq 2) we))  (zh (zhS (zo (zk (pq 1) rfl) (pq 2)) ‹(pq 3) (za (pq 5) zb)› zgW ze zjS we)  (zd (zl (jq (za (pq 2) (za (pq 8) (za (pq 6) (za (pq 7) zb))))))))))))))))),?_⟩;exists ra hyw T.iL T.iI ew2 (zq (SqL.of hl2) (zt hkv) ?_);left;walk_at"d";exists ra g0 (CT T _) (NO T _) f2 ⟨m2,rfl,.inl ⟨⟨_,SqL.of g2⟩,λ_ _ _ _ pv hacc=>?_⟩⟩;refine qM (K:=K) (a:=m2) (xs:=iv r.outs) (λi σ H'=>∃(v0:Aq),σ=[v0,some (.ref y)]/\Same H H'/\H' pv=some (.lst (((qS st.cells r).take i).map V.bl))) ⟨_,iA3 rfl (zf hacc) (by rw[bW];exact pD)⟩ (λi σ H' _ h=>by let⟨_,_,s,_⟩:=h;exact SqL.of (s _ _ g2)) ?_ ?_
 .intro i x σ H2 hi p9;refine oE1 p9 λv0 p6=>oA3 p6 λp8 s2 ha=>?_;ext;let⟨b,hb,rfl⟩:=Zw hi;have hil:=(aa.mp hb).1;refine oE1 (xn wf.co bo (vJ pj hr' (ah hb))) λj p6=>oA5 p6 λp8 hj ej nej _=>?_;clear p6;subst p8;refine oE2 (so.cell ej) λbC vs p6=>oA3 p6 λhbC hvC rvC=>?_;clear p6;let⟨c0,cs,ec⟩:∃c0 cs,zJ st.cells j=c0::cs:=du nej;have hfr:(qS st.cells r)[i]?=some (decide (c0=none)):=by rw[qS,am,hb];simp[ec,Wo]
  rw[ec]at rvC;let⟨v1,hv1,rv1⟩:=rvC.of (i:=0) (d:=qg c0) rfl;exists ra (s2 _ _ so.hy) T.ad T.iK lk1 (zq (SqL.of (s2 _ _ so.hc.out)) (zt (Qr hbC)) (zq (SqL.of (s2 _ _ hvC)) (zt (j:=0) hv1) ?_));left;have ev:decide (v1=V.non)=decide (c0=none):=by
   cases c0 with
   |none=>cases rv1;rfl
   |some x=>let⟨t,us,rfl,_⟩:=Rep.tup' rv1;rfl
  rw[ev];refine⟨_,iA3 ha (zn (by rw[ai,aQ];lia)) ⟨_,iA3 rfl (λb o hb=>by rw[pE (pF hb hacc)];exact s2 b o hb) ?_⟩⟩;rw[pD,aI,hfr,ba]
  rfl
 intro σ H2 p9;refine oE1 p9 λv0 p6=>oA3 p6 λp8 s2 ha=>?_;ext;rw[zL,cc (by simp[qS])]at ha;exists iE7 y1 (ww a r.wd) dx1 fs1 _ _ _ (iA5 rfl (s2 _ _ g0) fno ((zgz T r.wd).mono) ?_);refine uc (zdi T).mono (spHeads.i _ _ _ bs rs st kn r _ _ rfl (ju hw s2) ((so.same s2).rep) (ju hKn s2) hr' pj bo ro wf.co (λhl H3 s3 nhl hhl=>?_));have s23:=s2.trans s3;refine ra (s23 _ _ so.hy) T.ad T.iM lk4 ?_;refine ra (s23 _ _ so.hy) T.ad T.iQ lk2 (zq (SqL.of (s23 _ _ so.hs)) (zt (qV hside)) ?_);refine iE5 y1 hl pv r _ (iE4 (qo rs st.cells r) (qS st.cells r) st.turn side (iA9 rfl (ju hKn s23) rfl ok hhl (s3 _ _ ha) (by simp[qo]) (by simp[qS]) (λvc H4 s4 tc=>?_)));have s24:=s23.trans s4;have so4:=so.same s24;have hKn4:=ju hKn s24;left;cases hc:qf r (qo rs st.cells r) (qS st.cells r) st.turn side with
 |none =>
  rw[hc]at tc;have tc:vc=.non:=tc;subst tc;have e:=hAct _ hc;refine zT (λ_=>?_) (λb=>absurd rfl b);exists k _ _ s24.fr ?_ ?_
  .rw[e];exact so4
  .rw[e];exact .non
 |some ch =>
  rw[hc]at tc;let⟨ct,rfl,hct⟩:=tc;have e:=hAct _ hc;refine oA6 (xu ok (by simp[qo]) (by simp[qS]) hsd' hc) λc1 c2 c3 c4 c5 c6=>?_;have hfb:∀b,qj r ch=some b->b∈rgI bs.length:=λb hb=>by
   unfold qj at hb;let⟨j,hj1,hj2⟩:=aR.mp hb;exact Zl pj hr' (ah hj2)
  have htb:∀b,jJ r ch=some b->b∈rgI bs.length:=λb hb=>by
   unfold jJ at hb;let⟨j,hj1,hj2⟩:=aR.mp hb;exact vJ pj hr' (ah hj2)
  have hfn:qj r ch=none->r.wd=.source:=λhb=>by
   cases e:ch.1 with
   |none=>exact c4 e
   |some j =>
    unfold qj at hb;rw[e]at hb;simp at hb;have:=c1 j e
    lia
  let⟨w1,w2⟩:=zaE wf pj bo ro hr' hfb hfn;have w3:=zbf w1 bo htb w2;have hg0:=ql (xs:=st.gone) (k:=kn) (d:=[]) (by rw[wf.go.1];exact hk);let⟨q1,q2⟩:=wf.go.2 kn r _ hr' hg0;have cp:=xD ok;let⟨g0',gs,eg⟩:∃g0 gs,st.gone.getD kn []=g0::gs:=du λz=>by rw[z]at q1;simp at q1;lia
  rw[eg]at hg0;refine zT (λb=>by cases b) (λ_=>?_);exists uc (Vk T).mono (ra (s24 _ _ g0) (CT T _) (NI T _) f1 (pH hct at0 ?_));refine iE3 m1 r.ins ch.1 (iA4 rfl (s24 _ _ g1) c1 ?_);exists uc (Vk T).mono (ra (s24 _ _ g0) (CT T _) (NO T _) f2 (pH hct (show atI (chV ch) 1=some (Zq ch.2.1)from rfl) ?_));refine iE3 m2 r.outs ch.2.1 (iA4 rfl (s24 _ _ g2) c2 ?_);exists uc (zal T).mono (spTaken.i y n st kn (qj r ch) g0' gs rfl so4 hg0 (λb hb=>?_) (λv5 H5 f5 so5 rv5=>?_))
  .refine oE1 (xn wf.co bo (hfb b hb)) λi p6=>oA5 p6 λe1 _ e2 e3 _=>?_;clear p6;exact⟨i,iA3 e1 e2 e3⟩
  have hct5:=f5 _ _ (so4.offT ⟨_,hct⟩) hct;have hKn5:=hKn4.fr f5;have fr5:=(s24.fr (ms:=y::n.all)).trans f5;rw[show(ch.1.bind λj=>r.ins[j]?)=qj r ch from rfl,show(ch.2.1.bind λj=>r.outs[j]?)=jJ r ch from rfl];exists cut (λσ' H'=>σ'=[some (.ref yw),some (.ref y),some (.int kn),some (.ref y1),some (.ref pv),some (.ref ct),some (hdV (qj r ch)),some (hdV (jJ r ch)),some v5]/\Fr (y::n.all) H5 H'/\StO a H' y n (movedF r st kn ch)) ?_ ?_
  .have w4:=λb (hb:jJ r ch=some b)=>xn w1.co bo (htb b hb);unfold movedF;generalize jJ r ch=tb at w4 ⊢;left;cases tb with
   |none =>
    refine zT (λb=>absurd rfl b) (λ_=>?_);left;exact⟨.refl,so5⟩
   |some b =>
    refine oE1 (w4 b rfl) λi p6=>oA5 p6 λp8 _ e2 e3 _=>?_;clear p6;subst p8;refine oE2 (so5.cell e2) λbC vs p6=>oA3 p6 λhbC hvC rvC=>?_;clear p6;have lv:vs.length=(zJ (zQ st kn (qj r ch)).2.cells i).length:=by rw[rvC.len,ai]
    have lp:0<vs.length:=by rw[lv];exact cM.mpr e3
    refine zT (λ_=>?_) (λb=>absurd (λz=>by cases z) b);exists ra so5.hy T.ad T.iK sff_l.1 (zq (SqL.of so5.hc.out) (zt (Qr hbC)) ?_);exists Ze (j:=0) hvC (XA (by decide) (by simpa using lp)) ?_;refine⟨qZ (zas hbC),?_⟩;have:=so5.putC hbC (c':=(zJ (zQ st kn (qj r ch)).2.cells i).set 0 (zQ st kn (qj r ch)).1) (by rw[eI];exact Reps.set rvC 0 rv5);simpa[x6]using this
  rintro σ H6 ⟨rfl,f6,so6⟩;have hct6:=f6 _ _ (so5.offT ⟨_,hct5⟩) hct5;have hKn6:=hKn5.fr f6;have rv6:=so5.repT f6 rv5;have fr6:=fr5.trans f6;exists pH hct6 (show atI (chV ch) 2=some (.int ch.2.2)from rfl) ?_;exists ra so6.hy T.ad T.iQ sff_l.2.1 (Ze so6.hs (XA (cW _) (by rw[zL,show(movedF r st kn ch).sides.length=rs.length from w3.so.1];exact Int.ofNat_lt.mpr hk)) ?_);rw[ax,zgL];have so7:=so6.putS (s':=(movedF r st kn ch).sides.set kn ch.2.2);have f7:Fr (y::n.all) H6 (upd H6 n.ls (.lst (iv ((movedF r st kn ch).sides.set kn ch.2.2)))):=qZ (by simp[SN.all]);have hct7:=f7 _ _ (so6.offT ⟨_,hct6⟩) hct6;have hKn7:=hKn6.fr f7;have rv7:=so6.repT f7 rv6;have fr7:=fr6.trans f7;generalize upd H6 n.ls (.lst (iv ((movedF r st kn ch).sides.set kn ch.2.2)))=H7 at so7 hct7 hKn7 rv7 fr7 ⊢;have hg7:=ql (xs:=(movedF r st kn ch).gone) (k:=kn) (d:=[]) (by rw[show(movedF r st kn ch).gone.length=rs.length from w3.go.1];exact hk);let⟨p1,p2⟩:=w3.go.2 kn r _ hr' hg7;let⟨bG,hbG,hgG⟩:=so7.goneL hg7;have e0:vW r st kn ch=({movedF r st kn ch with sides:=(movedF r st kn ch).sides.set kn ch.2.2,gone:=(movedF r st kn ch).gone.set kn (wz ((movedF r st kn ch).gone.getD kn []) (jk r ch))},⟨kn,(zQ st kn (qj r ch)).1,qj r ch,jJ r ch⟩):=rfl;have so8:=so7.putG (g':=wz ((movedF r st kn ch).gone.getD kn []) (jk r ch)) hbG;generalize (movedF r st kn ch).gone.getD kn []=g at *;have hcp:jk r ch<g.length:=by rw[p1];exact c6
  left;unfold ziM;exists ra so7.hy T.ad T.iJ sff_l.2.2.1 (zq (SqL.of so7.hg.out) (zt (xq hbG)) ?_);exists uc (Jx T).mono (spCounted.i _ ct r ch _ rfl hKn7 hct7 c3 ?_);refine iE4 bG _ (jk r ch) _ (iA6 rfl rfl (SqL.of hgG) (cW _) (zt (qV (ql (d:=0) hcp))) ?_);exists Ze hgG (XA (cW _) (by rw[zL];exact Int.ofNat_lt.mpr hcp)) ?_;rw[ax,zgL];have f8:Fr (y::n.all) H7 (upd H7 bG (.lst (iv (g.set (jk r ch) (g.getD (jk r ch) 0+1))))):=qZ (ziC hbG);have rv8:=so7.repT f8 rv7;change StO a (upd H7 bG (.lst (iv (g.set (jk r ch) (g.getD (jk r ch) 0+1))))) y n _ at so8;have fr8:=fr7.trans f8;generalize e8:upd H7 bG (.lst (iv (g.set (jk r ch) (g.getD (jk r ch) 0+1))))=H8 at so8 f8 rv8 fr8 ⊢;left;intro t ht;refine k _ _ (fr8.trans (zc6 ht)) ?_ ?_
  .rw[e];simp only;rw[e0];exact so8.same (zf ht)
  .rw[e];simp only;rw[e0];exact Reps.mkT (vs:=[.int kn,v5,hdV (qj r ch),hdV (jJ r ch)]) (.cons .int (.cons (zeF rv8 (zf ht)) (.cons (zdx _) (.cons (zdx _) .nil)))) ⟨_,pD⟩ pD
def zkW(T:Txt K mg a):Cal P w K mg base "act" 4 ["work","state","number"] [] (spAct a):=T.o8.cal (zjw T)
noncomputable def zB(rs:At)(st:PSt):Nat->PSt×List Move
 |0=>(st,[])
 |i+1=>((qv rs (zB rs st i).1 i).1,(zB rs st i).2++(qv rs (zB rs st i).1 i).2.toList)
theorem qT{bs:A1}{rs:At}{st:PSt}(wf:stWf bs rs st)(pj:zN bs rs)(bo:∀b∈bs,zE b.1 b.2)(ro:∀r∈rs,r.ok):∀i,stWf bs rs (zB rs st i).1
 |0=>wf
 |i+1=>ziG (qT wf pj bo ro i) pj bo ro
theorem XV(rs:At)(st:PSt):∀i,(zB rs st i).2.length<=i
 |0=>au _
 |i+1=>by
  have:=XV rs st i;show((zB rs st i).2++(qv rs (zB rs st i).1 i).2.toList).length<=i+1
  rw[aH];cases (qv rs (zB rs st i).1 i).2 with
  |none=>exact Nat.le_succ_of_le this
  |some _=>exact Nat.succ_le_succ this
section
variable{H H':Hp}{y:Addr}{n:SN}{st:PSt}
def StO.offN(h:StO a H y n st)(e:H b=none):b∉y::n.all:=by
 have no:∀o,H b≠some o:=λo z=>by rw[e]at z;cases z
 intro hb;unfold SN.all at hb;rcases av.mp hb with rfl|hb
 .exact no _ h.hy
 rcases av.mp hb with rfl|hb
 .exact no _ h.hs
 rcases av.mp hb with rfl|hb
 .exact no _ h.hc.out
 rcases av.mp hb with rfl|hb
 .exact no _ h.hg.out
 rcases aG.mp hb with hb|hb
 .obtain⟨us,z⟩:=h.hc.isl (ay _ hb);exact no _ z
 .obtain⟨us,z⟩:=h.hg.isl (ay _ hb);exact no _ z
def StO.out{M:Addr}{us vs:Ap}(h:StO a H y n st)(e:H M=some (.lst us))(nM:M∉y::n.all):StO a (upd H M (.lst vs)) y n st:=by
 have k:∀c o,c≠M->H c=some o->upd H M (.lst vs) c=some o:=λc o nc hc=>by rw[pE nc];exact hc
 have kt:∀c,z6 H c->c≠M:=λc ⟨xs,hx⟩ z=>by rw[z,e]at hx;cases hx
 refine⟨k _ _ (λz=>nM (by rw[<- z];simp)) h.hy,h.hc.tup λc o hz hc=>k c o (λz=>?_) hc,k _ _ (λz=>nM (by rw[<- z];simp[SN.all])) h.hs,h.hg.tup λc o hz hc=>k c o (λz=>?_) hc,h.nd⟩
 .rcases hz with rfl|hz|hz
  .exact nM (by rw[<- z];simp[SN.all])
  .exact nM (by rw[<- z];simp[SN.all,hz])
  .exact kt c hz z
 .rcases hz with rfl|hz|hz
  .exact nM (by rw[<- z];simp[SN.all])
  .exact nM (by rw[<- z];simp[SN.all,hz])
  .exact kt c hz z
def StO.repsT(h:StO a H y n st)(s:Fr (y::n.all) H H'){ds:List D}(r:Reps H (z6 H) vs ds):Reps H' (z6 H') vs ds :=
 ⟨r.len,λi v d h1 h2=>h.repT s (r.g i v d h1 h2)⟩
def za8{M:Addr}{us vs:Ap}(e:H M=some (.lst us)){d:D}(r:Rep H (z6 H) v d):Rep (upd H M (.lst vs)) (z6 (upd H M (.lst vs))) v d :=
 Rep.keep (λb o hp hb=>⟨Jz e hp,by let⟨xs,hx⟩:=hp;rw[pE (λz=>by rw[z,e]at hx;cases hx)];exact hb⟩) r
def zeE{M:Addr}{us vs:Ap}(e:H M=some (.lst us)){ws:Ap}{ds:List D}(r:Reps H (z6 H) ws ds):Reps (upd H M (.lst vs)) (z6 (upd H M (.lst vs))) ws ds :=
 ⟨r.len,λi v d h1 h2=>za8 e (r.g i v d h1 h2)⟩
end
inductive spActAll(a:Ad)(vs:Ap)(H:Hp)(Q:VK)(E:XK):Prop
 |i (vw:V) (y:Addr) (n:SN) (st:PSt) (bs:A1) (rs:At):vs=[vw,.ref y]->Rep H (Off (y::n.all)) vw (qG a bs rs)->StO a H y n st->stWf bs rs st->zN bs rs->(∀b∈bs,zE b.1 b.2)->(∀r∈rs,r.ok)->(∀l us H',Fr (y::n.all) H H'->StO a H' y n (zB rs st rs.length).1->H l=none->l∉y::n.all->H' l=some (.lst us)->Reps H' (z6 H') us ((zB rs st rs.length).2.map Vf)->Q (.ref l) H')->spActAll a vs H Q E
theorem zfn(T:Txt K mg a):Cal P w K mg base "act_all" 5 ["work","state"] [] (spActAll a):=T.nU.cal λF=>by
 refine F.okx zct ?_ ?_
 .walk_at"i"
 walk_at"j";rcases h with⟨vw,y,n,st,bs,rs,rfl,hw,so,wf,pj,bo,ro,k⟩;refine oE7 (qO hw) λyw dw fw l1 l2 bvs ph p6=>oA9 p6 λp8 hyw ew1 ew2 hl1 hl2 hB hK no=>?_;clear p6;subst p8;have lk:ph.length=rs.length:=hK.len;have r24:=pj.1.2.2;walk_at"T";refine⟨_,(zi (zu 2 zct.nd (zO zb))  (qF (qy qQ rfl (xb (za (zM zR zP (za (zk (pq 0) rfl) zb)) zb)) (qu 3 zct.nd)  (zi (zu 4 zct.nd ‹(pq 0) (za (pq 1) (za (pq 3) zb))›)  (zd (zF (zm wI (pq 4) zC (zr _))  (zd (zH (qA ar aA az zV (pq 2) (za (pq 4) zb))))  zp))))  (zd (zl (pq 2))))),?_⟩;left;intro M hM;have nM:=so.offN hM;have s1:=zf (o:=.lst []) hM;have hM1:upd H M (.lst []) M=some (.lst []):=pD;generalize upd H M (.lst [])=H1 at s1 hM1 ⊢;exists cut (λσ' H'=>∃(v3 v4:Aq)(us:Ap),σ'=[some (.ref yw),some (.ref y),some (.ref M),v3,v4]/\Fr (y::n.all) H H'/\StO a H' y n (zB rs st rs.length).1/\H' M=some (.lst us)/\Reps H' (z6 H') us ((zB rs st rs.length).2.map Vf)) ?_ ?_
 .walk_at"c";exists ra (s1 _ _ hyw) T.iL T.iI ew2 ?_;refine⟨_,.inl ⟨_,SqL.of (s1 _ _ hl2),rfl⟩,?_⟩;rw[lk];exists⟨by lia,by lia,?_⟩;refine va (n:=(rs.length:Int).toNat) (λi σ H'=>∃(v3 v4:Aq)(us:Ap),σ=[some (.ref yw),some (.ref y),some (.ref M),v3,v4]/\Fr (y::n.all) H H'/\StO a H' y n (zB rs st i).1/\H' M=some (.lst us)/\Reps H' (z6 H') us ((zB rs st i).2.map Vf)) (iE3 _ _ _ (iA5 rfl s1.fr (so.same s1) hM1 (.nil))) ?_ (λσ H' h=>?_)
  .intro i σ H2 hi p9;refine oE3 p9 λv3 v4 us p6=>oA5 p6 λp8 f2 so2 hM2 r2=>?_;ext;have hi:i<rs.length:=by simpa using hi
   have al:=XV rs st i;have lu:us.length=(zB rs st i).2.length:=by rw[r2.len,ai]
   left;simp only[ck];refine uc (zkW T).mono (spAct.i (.ref yw) y n _ i bs rs rfl (hw.fr f2) so2 (qT wf pj bo ro i) pj bo ro hi (λv H3 f3 so3 rv=>?_));have f23:=f2.trans f3;have hM3:=f3 _ _ nM hM2;have r3:=so2.repsT f3 r2;have eA:zB rs st (i+1)=((qv rs (zB rs st i).1 i).1,(zB rs st i).2++(qv rs (zB rs st i).1 i).2.toList):=rfl;left;cases e:(qv rs (zB rs st i).1 i).2 with
   |none =>
    rw[e]at rv eA;cases rv;refine zT (λb=>absurd rfl b) (λ_=>?_);rw[eA];exact iE3 _ _ _ (iA5 rfl f23 so3 hM3 (by rw[show(none:Option Move).toList=[]from rfl,cj];exact r3))
   |some m =>
    rw[e]at rv eA;refine zT (λ_=>?_) (λb=>?_)
    .exists⟨.inl ⟨rfl,_,SqL.of hM3⟩,iE3 M _ _ (iA5 rfl rfl hM3 (zn (by lia)) (iE3 _ _ _ (iA5 rfl (λb o nb hb=>by rw[pE (pF hb hM)];exact f23 b o nb hb) ?_ pD ?_)))⟩
     .rw[eA];exact so3.out hM3 nM
     .rw[eA];show Reps _ _ _ (List.map Vf ((zB rs st i).2++[m]))
      rw[ba];exact(zeE hM3 r3).append (Reps.one (za8 hM3 rv))
    .exfalso;refine b λz=>?_;subst z;cases rv
  .have e:((rs.length:Int)).toNat=rs.length:=by simp
   rw[e]at h;exact h
 intro σ' H2 p9;refine oE3 p9 λv3 v4 us p6=>oA5 p6 λp8 f2 so2 hM2 r2=>?_;ext;left;exact k _ _ _ f2 so2 hM nM hM2 r2
noncomputable def qR(c:Av)(p:Nat):List zy:=if c.getD (p+1) none=none then(c.set (p+1) (c.getD p none)).set p none else c
noncomputable def x9(c:Av):Nat->List zy
 |0=>c
 |k+1=>qR (x9 c k) (c.length-2-k)
noncomputable def WP(c:Av):List zy:=x9 c (c.length-1)
def zcP{c:Av}{p:Nat}:(qR c p).length=c.length:=by
 unfold qR
 split<;>simp
theorem Qd{c:Av}:∀k,(x9 c k).length=c.length
 |0=>rfl
 |k+1=>by rw[x9,zcP,Qd k]
def zcO{c:Av}{p:Nat}{x:zy}(h:x∈qR c p):x∈c\/x=none:=by
 unfold qR at h
 split at h
 .rcases vN h with h|h
  .rcases vN h with h|h
   .exact .inl h
   .rw[ae]at h;cases e:c[p]? with
    |none=>rw[e]at h;exact .inr h
    |some y=>rw[e]at h;exact .inl (by rw[h];exact ah e)
  .exact .inr h
 .exact .inl h
theorem zbq{c:Av}{x:zy}:∀k,x∈x9 c k->x∈c\/x=none
 |0=>λh=>.inl h
 |k+1=>λh=>by
  rcases zcO h with h|h
  .exact zbq k h
  .exact .inr h
def zfA(h:H b=some o):upd H b o=H:=by
 funext x
 by_cases e:x=b
 .rw[e,pD,h]
 .rw[pE e]
def zay{x:zy}(r:Rep H p v (qg x)):v=.non↔x=none:=by
 cases x with
 |none=>cases r;simp
 |some x=>let⟨t,us,rfl,_⟩:=Rep.tup' r;simp
def atD{xs:Av}{p:Nat}(h:p<xs.length):xs[p]?=some (xs.getD p none):=ql h
def zck:Sp:=λvs H Q _=>∃(b:Addr)(us:Ap)(c:Av),vs=[.ref b]/\H b=some (.lst us)/\Reps H (z6 H) us (c.map qg)/\c.length<=100/\∀us',Reps H (z6 H) us' ((WP c).map qg)->Q .non (upd H b (.lst us'))
def zb2(T:Txt K mg a):Cal P w K mg base "move_belt" 1 ["cells"] [] zck:=T.m4.cal λF=>by
 refine F.okx VL ?_ ?_
 .walk_at"i"
 walk_at"j";let⟨b,us,c,rfl,hb,rb,lc,k⟩:=h;have lu:us.length=c.length:=by rw[rb.len,ai]
 walk_at"T";refine⟨_,(zd (qy qQ rfl (zjn (za (zK x8 (zM zR zP (za (pq 0) zb)) ze) (za (Xg ZB ze) (za (Xg ZB ze) zb)))) (qu 1 VL.nd)  (zd (zF (zm jr (zo (pq 0) (zK qk (pq 1) ze)) zC (zr _))  (zi (Xc (zo (pq 0) (pq 1)) (Xf (pq 0) (zK qk (pq 1) ze) we))  (zd (Xc zC (Xf (pq 0) (pq 1) we))))  zp)))),?_⟩;left;walk_at"c";exists⟨_,.inl ⟨_,SqL.of hb,rfl⟩,?_⟩;rw[lu];exists⟨_,_,rfl,⟨by lia,by lia,by lia,by lia⟩,?_⟩;rw[show((c.length:Int)-2 - -1).toNat=c.length-1 by lia];refine zkQ (K:=K) (λi σ H'=>∃(v1:Aq)(us':Ap),σ=[some (.ref b),v1]/\H'=upd H b (.lst us')/\Reps H (z6 H) us' ((x9 c i).map qg)) ⟨_,us,rfl,(zfA hb).symm,rb⟩ ?_ ?_
 .rintro i σ H' hi ⟨v1,us',rfl,rfl,r1⟩;have lm:=Qd (c:=c) i;have l1:us'.length=c.length:=by rw[r1.len,ai,lm]
  let⟨p,hp⟩:∃p,c.length-2-i=p:=⟨_,rfl⟩;have ep:(c.length:Int)-2-i=p:=by lia
  have hp1:p+1<c.length:=by lia
  rw[ep];have eS:x9 c (i+1)=qR (x9 c i) p:=by rw[x9,hp]
  rw[eS];generalize x9 c i=m at r1 lm ⊢;have m0:m[p]?=some (m.getD p none):=atD (by lia);have m1:m[p+1]?=some (m.getD (p+1) none):=atD (by lia);let⟨u0,hu0,ru0⟩:=r1.of (i:=p) (d:=qg (m.getD p none)) (by rw[am,m0];rfl);let⟨u1,hu1,ru1⟩:=r1.of (i:=p+1) (d:=qg (m.getD (p+1) none)) (by rw[am,m1];rfl);have e1:((p:Int)+1)=((p+1:Nat):Int):=by lia
  left;rw[e1];refine zq (SqL.of pD) (zt hu1) ?_;exists zT (λz=>?_) (λz=>?_)
  .have z:=(zay ru1).mp z;exists zq (SqL.of pD) (zt hu0) ?_;exists Ze pD (XA (by lia) (by lia)) ?_;exists Ze pD (XA (by lia) (by simp;lia)) ?_;rw[Zc,Zc];refine⟨_,_,rfl,rfl,?_⟩;unfold qR;rw[ao z,eI,eI,ax,ax];exact Reps.set (Reps.set r1 _ ru0) _ .non
  .have z:m.getD (p+1) none≠none:=λy=>z ((zay ru1).mpr y);exists⟨_,us',rfl,rfl,?_⟩;unfold qR;rw[ak z];exact r1
 .rintro σ H' ⟨v1,us',rfl,rfl,r1⟩;exact k _ r1
noncomputable def qd(bs:A1)(t:Int)(cs:Au):Nat->List Av
 |0=>cs
 |i+1=>if t%(bs.getD i (0,1)).2=0 then(qd bs t cs i).set i (WP ((qd bs t cs i).getD i []))else qd bs t cs i
theorem ZR{bs:A1}{rs:At}{t:Int}{cs:Au}(h:xl bs rs cs):∀i,xl bs rs (qd bs t cs i)
 |0=>h
 |i+1=>by
  have ih:=ZR h i (t:=t);rw[qd]
  split
  .generalize qd bs t cs i=ds at ih ⊢;cases e:ds[i]? with
   |none=>rw[cY (dJ.mp e)];exact ih
   |some c =>
    have ec:ds.getD i []=c:=by rw[ae,e];rfl
    rw[ec];have hi:i<bs.length:=by rw[<- ih.1];exact(aa.mp e).1
    refine QQ ih e (Qd _) λx hx=>?_;rcases zbq _ hx with hx|hx
    .exact(ih.2 i _ c (ac hi) e).2 x hx
    .rw[hx];exact Qu
  .exact ih
noncomputable def passF(bs:A1)(rs:At)(st:PSt):PSt×List Move:=({(zB rs st rs.length).1 with turn:=(zB rs st rs.length).1.turn+1,cells:=qd bs (zB rs st rs.length).1.turn (zB rs st rs.length).1.cells bs.length},(zB rs st rs.length).2)
def zgo{rs:At}{st:PSt}(wf:stWf bs rs st)(pj:zN bs rs)(bo:∀b∈bs,zE b.1 b.2)(ro:∀r∈rs,r.ok):stWf bs rs (passF bs rs st).1:=by
 have w:=qT wf pj bo ro rs.length;exact⟨ZR w.co _,w.so,w.go⟩
def StO.ney{y:Addr}{n:SN}{st:PSt}(h:StO a H y n st):y∉n.all:=λz=>by
 have hy:=h.hy;have c:∀vs,H y≠some (.lst vs):=λvs z=>by rw[hy]at z;cases z
 simp only[SN.all,av,aG]at z;rcases z with z|z|z|z|z
 .exact c _ (by rw[z];exact h.hs)
 .exact c _ (by rw[z];exact h.hc.out)
 .exact c _ (by rw[z];exact h.hg.out)
 .obtain⟨vs,hv⟩:=h.hc.isl (ay _ z);exact c _ hv
 .obtain⟨vs,hv⟩:=h.hg.isl (ay _ z);exact c _ hv
def StO.putT{y:Addr}{n:SN}{st:PSt}{t:Int}(h:StO a H y n st):StO a (upd H y (.ins a.b n.dx (sff t n.lc n.ls n.lg))) y n {st with turn:=t}:=by
 have ny:=h.ney;have tn:∀b,z6 H b->b≠y:=λb ⟨xs,hx⟩ z=>by rw[z,h.hy]at hx;cases hx
 simp only[SN.all,av,aG,not_or]at ny;let⟨n1,n2,n3,n4,n5⟩:=ny;refine⟨pD,h.hc.tup λb o c hb=>?_,?_,h.hg.tup λb o c hb=>?_,h.nd⟩
 .rw[pE ?_]
  .exact hb
  .rcases c with rfl|c|c
   .exact bb n2
   .exactλz=>n4 (by rw[<- z];exact c)
   .exact tn b c
 .rw[pE (bb n1)];exact h.hs
 .rw[pE ?_]
  .exact hb
  .rcases c with rfl|c|c
   .exact bb n3
   .exactλz=>n5 (by rw[<- z];exact c)
   .exact tn b c
def zcc{rs:At}(h:Rep H p v (qG a bs rs)):∃y dx fs l1 bvs,v=.ref y/\p y/\H y=some (.ins a.r dx fs)/\fs.lookup ("belts":Str)=some (.ref l1)/\p l1/\H l1=some (.lst bvs)/\Bts a H p bvs bs:=by
 let⟨y,dx,fs,rfl,py,hy,g1,g2⟩:=Rep.ob' h;let⟨u1,e1,r1⟩:=g1 _ _ zau;let⟨l1,bvs,rfl,pl,h1,b1⟩:=r1.lst';exact⟨y,dx,fs,l1,bvs,rfl,py,hy,e1,pl,h1,.of b1⟩
theorem zkq{t u:Int}{lc ls lg:Addr}:zX "turn" (.int u) (sff t lc ls lg)=sff u lc ls lg:=rfl
def zfL(a:Ad):Sp:=λvs H Q _=>∃(vw:V)(y:Addr)(n:SN)(st:PSt)(bs:A1)(rs:At),vs=[vw,.ref y]/\Rep H (Off (y::n.all)) vw (qG a bs rs)/\StO a H y n st/\stWf bs rs st/\zN bs rs/\(∀b∈bs,zE b.1 b.2)/\(∀r∈rs,r.ok) /\
 ∀l us H',Fr (y::n.all) H H'->StO a H' y n (passF bs rs st).1->H l=none->l∉y::n.all->H' l=some (.lst us)->Reps H' (z6 H') us ((passF bs rs st).2.map Vf)->Q (.ref l) H'
def V1(T:Txt K mg a)(F:Fun K "pass_turn" "pass_turn" vv f fd):FnOk P w K mg base (CXr P w) 6 f fd ["work","state"] (zfL a):=by
 refine F.okx VG ?_ ?_
 .walk_at"i"
 walk_at"j";refine oE6 h λvw y n st bs rs p6=>oA8 p6 λp8 hw so wf pj bo ro k=>?_;clear p6 h;subst p8;have b24:=pj.1.1.2;walk_at"T";refine⟨_,(zh (zu 2 VG.nd ‹(pq 0) (za (pq 1) zb)›)  (qF (qy qQ rfl (qU (za (zk (pq 0) rfl) zb)) (wH (n:=2) rfl (qt (qu 3 VG.nd) (qt (qu 4 VG.nd) xj)))  (zd (zF (zm (qB hr.units1) (zK js (zk (pq 1) rfl) (zk (pq 4) rfl)) ze (zr _))  (zd (zH ‹(zo (zk (pq 1) rfl) (pq 3)) zb›))  zp)))  (zh (zeL (pq 1) ze zjT)  (zd (zl (pq 2)))))),?_⟩;exists uc (zfn T).mono (spActAll.i vw y n st bs rs rfl hw so wf pj bo ro (λl us H1 f1 so1 nl nl' hl rl=>?_));have wA:=qT wf pj bo ro rs.length;have hw1:=hw.fr f1;refine oE5 (zcc hw1) λyw dw fw l1 bvs p6=>oA7 p6 λp8 _ hyw ew1 pl1 hl1 hB=>?_;clear p6;subst p8;have lb:bvs.length=bs.length:=hB.len;generalize hA:zB rs st rs.length=A at so1 rl wA;refine oA4 (sff_l (t:=A.1.turn) (lc:=n.lc) (ls:=n.ls) (lg:=n.lg)) λlk1 lk2 lk3 lk4=>?_;left;let px:St->Hp->Prop:=λσ' H'=>∃(v3 v4:Aq),σ'=[some (.ref yw),some (.ref y),some (.ref l),v3,v4]/\Fr (y::n.all) H1 H'/\StO a H' y n {A.1 with cells:=qd bs A.1.turn A.1.cells bs.length};refine cut px ?_ ?_
 .walk_at"c";exists ra hyw T.iL T.iT ew1 (iE2 l1 _ (iA3 rfl hl1 ?_));let pB:Nat->St->Hp->Prop:=λi σ H'=>∃(v3 v4:Aq),σ=[some (.ref yw),some (.ref y),some (.ref l),v3,v4]/\Fr (y::n.all) H1 H'/\StO a H' y n {A.1 with cells:=qd bs A.1.turn A.1.cells i};refine XH (K:=K) (a:=l1) (xs:=bvs) pB (iE2 _ _ (iA3 rfl Fr.refl so1)) (λi σ H' _ h=>by let⟨_,_,_,f,_⟩:=h;exact SqL.of (f _ _ pl1 hl1)) ?_ ?_
  .intro i x t σ H2 hi ht p9;refine oE2 p9 λv3 v4 p6=>oA3 p6 λp8 f2 so2=>?_;ext;let⟨b,hb',hBt⟩:=hB.at hi;refine oE3 hBt.inv λy1 dx1 fs1 p6=>oA5 p6 λp8 py1 g0 _ e2=>?_;clear p6;subst p8;have g02:=f2 _ _ py1 g0;have hil:=(aa.mp hb').1;have bk:=bo b (ah hb');have f3:=f2.trans (zc6 (ms:=y::n.all) (o:=.tup [.int i,.ref y1]) ht);have so3:=so2.same (zf (o:=.tup [.int i,.ref y1]) ht);have g03:=pG (o:=.tup [.int i,.ref y1]) g02 ht;refine un2 pD ?_;generalize upd H2 t (.tup [.int i,.ref y1])=H3 at f3 so3 g03 ⊢;have eb:bs.getD i (0,1)=b:=by rw[ae,hb'];rfl
   have co:=ZR (t:=A.1.turn) wA.co i;have hc:=ql (xs:=qd bs A.1.turn A.1.cells i) (d:=[]) (show i<_ by rw[co.1];exact hil);refine oE2 (so3.cell hc) λbC vs p6=>oA3 p6 λhbC hvC rvC=>?_;clear p6;have lc:=(co.2 i b _ hb' hc).1;have b1:=bk.1;have b2:=bk.2.1;have b3:=bk.2.2.1;exists ra so3.hy T.ad T.iM lk4 ?_;refine ra g03 T.i5 T.kh e2 ?_;exists zT (λz=>?_) (λz=>?_)
   .exists uc (zb2 T).mono ?_;refine ra so3.hy T.ad T.iK lk1 (zq (SqL.of so3.hc.out) (zt (Qr hbC)) ?_);refine iE3 bC vs _ (iA5 rfl hvC rvC (by lia) (λus' r'=>?_));refine iE2 _ _ (iA3 rfl (f3.trans (qZ (zas hbC))) ?_);have:=so3.putC hbC r';rw[qd,eb,ao z];exact this
   .refine iE2 _ _ (iA3 rfl f3 ?_);rw[qd,eb,ak z];exact so3
  .intro σ H2 p9;refine oE2 p9 λv3 v4 p6=>oA3 p6 λp8 f2 so2=>?_;ext;rw[lb]at so2;exact iE2 _ _ (iA3 rfl f2 so2)
 intro σ' H2 p9;refine oE2 p9 λv3 v4 p6=>oA3 p6 λp8 f2 so2=>?_;ext;exists⟨y,?_⟩;refine iE4 a.b n.dx _ _ (iA6 rfl so2.hy T.ad T.iM lk4 ?_);refine iE2 _ 1 (iA3 rfl rfl (iE2 n.dx _ (iA3 so2.hy (show 4<1000 by decide) ?_)));rw[zkq];have f3:=f2.trans (qZ (x:=y) (o:=.ins a.b n.dx (sff (A.1.turn+1) n.lc n.ls n.lg)) (by simp));exists k l us _ (f1.trans f3) (by rw[passF,hA];exact so2.putT) nl nl' (f3 _ _ nl' hl) (by rw[passF,hA];exact so1.repsT f3 rl)
def vY(T:Txt K mg a):Cal P w K mg base "pass_turn" 6 ["work","state"] [] (zfL a):=T.m5.cal (V1 T)
def zfR(a:Ad):Sp:=λvs H Q _=>∃(v:V)(st:PSt)(p:A5),vs=[v]/\Rep H p v (XM a st)/\st.cells.length<=100/\st.gone.length<=100/\∀v' H',Same H H'->Qs a H H' v' st->Q v' H'
def XQ(T:Txt K mg a):Cal P w K mg base "copied_state" 3 ["state"] [] (zfR a):=T.lW.cal λF=>by
 refine F.okx Jg ?_ ?_
 .walk_at"i"
 walk_at"j";let⟨v,st,p,rfl,hs,lc,lg,k⟩:=h;let⟨y,dx,fs,rfl,py,hy,g1,g2⟩:=Rep.ob' hs;let⟨u1,e1,r1⟩:=g1 _ _ (zaG st);let⟨u2,e2,r2⟩:=g1 _ _ (Wz st);let⟨u3,e3,r3⟩:=g1 _ _ (Wy st);let⟨u4,e4,r4⟩:=g1 _ _ (zaH st);cases r1;walk_at"T";refine⟨_,(zd (zl (qW (x:="State") ⟨rfl,rfl,rfl⟩ hr (za (zk (pq 0) rfl) (za (zk (pq 0) rfl) (za (zk (pq 0) rfl) (za (zk (pq 0) rfl) zb))))))),?_⟩;exists⟨a.b,_,_,_,(V7 T).mono,y,a.b,dx,fs,_,rfl,hy,T.ad,T.iM,e1,?_⟩;refine ra hy T.ad T.iK e2 ?_;refine ra hy T.ad T.iQ e3 ?_;refine ra hy T.ad T.iJ e4 ?_;exact Xq T (st:=st) r2 r3 r4 lc lg λy' H' s' sn=>k _ _ s' sn
def zen(a:Ad):Sp:=λvs H Q _=>∃(vw v:V)(st:PSt)(bs:A1)(rs:At)(p:A5),vs=[vw,v]/\Rep H (Off []) vw (qG a bs rs)/\Rep H p v (XM a st)/\stWf bs rs st/\zN bs rs/\(∀b∈bs,zE b.1 b.2)/\(∀r∈rs,r.ok) /\
 ∀v' H',Same H H'->Qs a H H' v' (passF bs rs st).1->Q v' H'
def zdg(T:Txt K mg a):Cal P w K mg base "one_turn" 7 ["work","state"] [] (zen a):=T.nJ.cal λF=>by
 refine F.okx zaT ?_ ?_
 .walk_at"i"
 walk_at"j";let⟨vw,v,st,bs,rs,p,rfl,hw,hv,wf,pj,bo,ro,k⟩:=h;have b24:=pj.1.1.2;have r24:=pj.1.2.2;walk_at"T";refine⟨_,(zi (zu 2 zaT.nd ‹(pq 1) zb›)  (zi (zH ‹(pq 0) (za (pq 2) zb)›)  (zd (zl (pq 2))))),?_⟩;exists uc (XQ T).mono ⟨v,st,p,rfl,hv,by rw[wf.co.1];lia,by rw[wf.go.1];lia,λv' H1 s1 sn=>?_⟩;let⟨y,n,rfl,so1,ny,nd,nn⟩:=sn;have na:∀b∈y::n.all,H b=none:=λb hb=>by
  rcases av.mp hb with rfl|hb
  .exact ny
  .exact nn b hb
 have hw1:Rep H1 (Off (y::n.all)) vw (qG a bs rs):=ju (hw.more (ns:=y::n.all) λb hb=>.inr (na b hb)) s1;exists uc (vY T).mono ⟨vw,y,n,st,bs,rs,rfl,hw1,so1,wf,pj,bo,ro,λl us H2 f2 so2 _ _ _ _=>?_⟩;left;exact k _ _ (λb o hb=>f2 b o (λz=>by rw[na b z]at hb;cases hb) (s1 b o hb)) ⟨y,n,rfl,so2,ny,nd,nn⟩
noncomputable def zj(bs:A1)(rs:At):Nat->PSt
 |0=>z8 bs rs
 |n+1=>(passF bs rs (zj bs rs n)).1
def zg1{rs:At}(ro:∀r∈rs,r.ok):stWf bs rs (z8 bs rs):=by
 refine⟨⟨by simp[z8],λi b c h1 h2=>?_⟩,⟨by simp[z8],λi r s h1 h2=>?_⟩,⟨by simp[z8],λi r g h1 h2=>?_⟩⟩
 .simp only[z8,am,h1,cr,cA]at h2;subst h2;refine⟨by simp,λx hx=>?_⟩;rw[(cV.mp hx).2];exact Qu
 .have hs:=ah h2;have e:s=0:=(cV.mp hs).2;subst e;have ok:=ro r (ah h1);let⟨wd,ins,outs,pc,ks⟩:=r;refine⟨by decide,λhw=>?_,λhw=>?_,λ_ _=>rfl⟩
  .simp only at hw;subst hw;have:=ok.2.1;simp only at this ⊢
   lia
  .simp only at hw;subst hw;have:=ok.2.1;simp only at this ⊢
   lia
 .simp only[z8,am,h1,cr,cA]at h2;subst h2;refine⟨rfl,λn hn=>?_⟩;rw[(cV.mp hn).2];decide
theorem qa{bs:A1}{rs:At}(pj:zN bs rs)(bo:∀b∈bs,zE b.1 b.2)(ro:∀r∈rs,r.ok):∀n,stWf bs rs (zj bs rs n)
 |0=>zg1 ro
 |n+1=>zgo (qa pj bo ro n) pj bo ro
def zfK(a:Ad):Sp:=λvs H Q _=>∃(vw:V)(n:Nat)(bs:A1)(rs:At),vs=[vw,.int n]/\Rep H (Off []) vw (qG a bs rs)/\zN bs rs/\(∀b∈bs,zE b.1 b.2)/\(∀r∈rs,r.ok)/\n<=1000/\∀v' H',Same H H'->Qs a H H' v' (zj bs rs n)->Q v' H'
def zha(T:Txt K mg a):Cal P w K mg base "played" 7 ["work","turns"] [] (zfK a):=T.ou.cal λF=>by
 refine F.okx zeu ?_ ?_
 .walk_at"i"
 walk_at"j";let⟨vw,m,bs,rs,rfl,hw,pj,bo,ro,hm,k⟩:=h;have b24:=pj.1.1.2;have r24:=pj.1.2.2;walk_at"T";refine⟨_,(zi (zu 2 zeu.nd ‹(pq 0) zb›)  (qF (qy qQ rfl (xb (za (pq 1) zb)) (qu 3 zeu.nd)  (zd (zH ‹(pq 0) (za (pq 2) zb)›)))  (zd (zl (pq 2))))),?_⟩;exists uc (ZA T).mono ⟨vw,bs,rs,_,rfl,hw,b24,r24,bo,ro,λv' H1 s1 sn=>?_⟩;let⟨y,n,rfl,so1,ny,nd,nn⟩:=sn;have na:∀b∈y::n.all,H b=none:=λb hb=>by
  rcases av.mp hb with rfl|hb
  .exact ny
  .exact nn b hb
 have hw1:Rep H1 (Off (y::n.all)) vw (qG a bs rs):=ju (hw.more (ns:=y::n.all) λb hb=>.inr (na b hb)) s1;exists cut (λσ' H'=>∃(v3:Aq),σ'=[some vw,some (.int m),some (.ref y),v3]/\Fr (y::n.all) H1 H'/\StO a H' y n (zj bs rs m)) ?_ ?_
 .walk_at"c";exists⟨by lia,by lia,?_⟩;refine va (n:=(m:Int).toNat) (λi σ H'=>∃(v3:Aq),σ=[some vw,some (.int m),some (.ref y),v3]/\Fr (y::n.all) H1 H'/\StO a H' y n (zj bs rs i)) ⟨_,rfl,Fr.refl,so1⟩ ?_ (λσ H' h=>?_)
  .rintro i σ H2 hi ⟨v3,rfl,f2,so2⟩;exists uc (vY T).mono ⟨vw,y,n,_,bs,rs,rfl,hw1.fr f2,so2,qa pj bo ro i,pj,bo,ro,λl us H3 f3 so3 _ _ _ _=>?_⟩;exact⟨_,rfl,f2.trans f3,so3⟩
  .rw[show((m:Int)).toNat=m by simp]at h;exact h
 rintro σ' H2 ⟨v3,rfl,f2,so2⟩;left;exact k _ _ (λb o hb=>f2 b o (λz=>by rw[na b z]at hb;cases hb) (s1 b o hb)) ⟨y,n,rfl,so2,ny,nd,nn⟩
def zaN:Sp:=λvs H Q _=>∃a b:Int,vs=[.int a,.int b]/\0<=a/\0<=b/\Q (.int (Int.gcd a b:Int)) H
def zeT(F:Fun K "common" "common" Xa f fd):FnOk P w K mg base (CXr P w) 1 f fd ["one","other"] zaN:=by
 refine F.okx zev ?_ ?_
 .walk_at"i"
 walk_at"k";let⟨a,b,rfl,ha,hb,k⟩:=h;refine⟨_,(zi (zu 2 zev.nd (pq 0))  (zi (zu 3 zev.nd (pq 1))  (zi (zba qQ (zm Q5 (pq 3) ze (zr _))  (zi (zu 4 zev.nd (zK js (pq 2) (pq 3)))  (zi (zu 2 zev.nd (pq 3))  (zd (zu 3 zev.nd (pq 4))))))  (zd (zl (pq 2)))))),?_⟩;walk_at"r";refine⟨λm σ H'=>∃p r v,σ=[some (.int a),some (.int b),some (.int p),some (.int r),v]/\H'=H/\0<=p/\0<=r/\Int.gcd p r=Int.gcd a b/\m=r.toNat,⟨_,a,b,none,rfl,rfl,ha,hb,rfl,rfl⟩,?_⟩;rintro m σ H' ⟨p,r,v,rfl,rfl,hp,hr',hg,rfl⟩;walk_at"r";refine zT (λh=>?_) (λh=>?_)
 .refine zkv ?_;have h1:=bS p (show r≠0 by lia);have h2:=bO p h;exact⟨h,_,by lia,r,p%r,_,rfl,rfl,hr',h1,(zgX hp h).trans hg,rfl⟩
 .have e:r=0:=by lia
  subst e;have e2:=zif hp;rw[hg]at e2;rw[<- e2];exact k
def Pac(ns:A6):Prop:=∀n∈ns,0<n/\n<=1000000000000
def Pac.nil:Pac []:=λ_ h=>nomatch h
def Pac.snoc(h:Pac ns)(h1:0<n)(h2:n<=1000000000000):Pac (ns++[n]):=λk hk=>by
 rcases aG.mp hk with z|z
 .exact h k z
 .rw[aD.mp z];exact⟨h1,h2⟩
def Pac.at(h:Pac ns){x:V}(e:(ns.map V.int)[i]?=some x):∃n,x=.int n/\0<n/\n<=1000000000000/\n∈ns/\ns.take (i+1)=ns.take i++[n]:=by
 rw[am,aq]at e;let⟨n,hn,rfl⟩:=e;have hm:=ah hn;refine⟨n,rfl,(h n hm).1,(h n hm).2,hm,?_⟩;rw[fN,hn]
 rfl
def zep(K:A0):Sp:=λvs H Q _=>∃(l:Addr)(ns:A6),vs=[.ref l]/\SqL K H l (ns.map V.int)/\Pac ns/\∀L,IsLcm ns L->Q (.int L) H
def zhb(T:Txt K mg a):Cal P w K mg base "common" 1 ["one","other"] [] zaN:=T.ow.cal zeT
def zfm(T:Txt K mg a):Cal P w K mg base "lasting" 2 ["paces"] [] (zep K):=T.nV.cal λF=>by
 refine F.okx zcq ?_ ?_
 .walk_at"i"
 walk_at"k";let⟨l,ns,rfl,hl,hn,k⟩:=h;refine⟨_,(zi (zu 1 zcq.nd ze)  (zi (qy qQ rfl (qq (pq 0)) (qu 2 zcq.nd)  (zd (zu 1 zcq.nd (zK vK (zK zdF (pq 1) ‹(pq 1) (za (pq 2) zb)›) (pq 2)))))  (zd (zl (pq 1))))),?_⟩;left;walk_at"c";refine⟨l,rfl,.inl ⟨⟨_,hl⟩,?_⟩⟩;refine qM (K:=K) (a:=l) (xs:=ns.map V.int) (λi σ H'=>∃(m:Int)(v:Aq),σ=[some (V.ref l),some (V.int m),v]/\H'=H/\IsLcm (ns.take i) m) ⟨1,none,rfl,rfl,IsLcm.nil⟩ (λi σ H' _ ⟨_,_,_,e,_⟩=>e ▸ hl) ?_ ?_
 .rintro i x σ H1 hi ⟨m,v,rfl,rfl,hm⟩;let⟨p,rfl,p0,p1,_,ht⟩:=hn.at hi;walk_at"r";have g0:(0:Int)<(Int.gcd m p:Int):=by have:=zdT (a:=m) (b:=p) (by lia);lia
  have g1:(Int.gcd m p:Int)<=p:=zaa p0;refine⟨_,_,_,zhb T,m,p,rfl,dD hm.pos,dD p0,?_⟩;walk_at"r";refine⟨fd_ok g0 ?_,mul_okR (by lia) (by lia),?_⟩
  .have:(1000000000000:Nat)<2^8999:=by symm
   lia
  .rw[fdiv_pos g0,ht];exact⟨_,_,rfl,hm.step p0⟩
 .rintro σ H1 ⟨m,v,rfl,rfl,hm⟩;rw[ai,aN]at hm;walk_at"r";exact k m hm
theorem IsLcm.ex:∀{ns:A6},Pac ns->∃L,IsLcm ns L:=λ{ns} h=>by
 have:∀k,k<=ns.length->∃L,IsLcm (ns.take k) L:=λk=>by
  induction k with
  |zero=>exactλ_=>⟨1,IsLcm.nil⟩
  |succ k ih =>
   intro hk;let⟨L,hL⟩:=ih (by lia);have e:ns.take (k+1)=ns.take k++[ns[k]]:=by rw[fN,ac (by lia)];rfl
   rw[e];exact⟨_,hL.step (h _ (cf _)).1⟩
 have:=this ns.length (au _)
 rwa[aN]at this
def zkK(T:Txt K mg a)(wd:Wd):kitOne K (.ref (ww a wd)) (.ref a.l)=some (decide (wd=.drain)):=by
 cases wd
 .exact T.lR
 .exact T.md
 .exact T.lS
 .exact T.kI
 .exact T.me
 .exact T.lT
def zkJ(T:Txt K mg a)(wd:Wd):kitOne K (.ref (ww a wd)) (.ref a.k)=some (decide (wd=.source)):=by
 cases wd
 .exact T.ky
 .exact T.lU
 .exact T.lD
 .exact T.kC
 .exact T.lV
 .exact T.lE
noncomputable def jB(wd:Wd)(rs:At)(n:Nat):List Int:=((List.range n).filter λi=>decide (rs[i]?.map Row.wd=some wd)).map λ(i:Nat)=>(i:Int)
def xM{rs:At}{n:Nat}{r:Row}(h:rs[n]?=some r):jB wd rs (n+1)=jB wd rs n++if r.wd=wd then [(n:Int)]else []:=by
 unfold jB;rw[fA,List.filter_append,ba]
 congr 1
 by_cases e:r.wd=wd<;>simp[h,e]
noncomputable def zY(wd:Wd)(rs:At):List Int:=jB wd rs rs.length
def xA(wd:Wd)(rs:At)(n:Nat):(jB wd rs n).length<=n:=by
 unfold jB;rw[ai];exact bj (List.length_filter_le _ _) (by simp)
def Qf{rs:At}{m:Int}(h:m∈zY wd rs):∃(i:Nat)(r:Row),m=i/\rs[i]?=some r/\r.wd=wd:=by
 unfold zY jB at h;let⟨i,hi,rfl⟩:=aJ.mp h;rw[cu]at hi;have h2:=bQ hi.2;rw[aq]at h2;let⟨r,h3,h4⟩:=h2;exact⟨i,r,rfl,h3,h4⟩
def Xm{rs:At}{r:Row}(h:rs[i]?=some r)(hw:r.wd=wd):(i:Int)∈zY wd rs:=by
 unfold zY jB;refine aJ.mpr ⟨i,cu.mpr ⟨bu.mpr (aa.mp h).1,?_⟩,rfl⟩;rw[h];exact bc (by rw[<- hw];rfl)
def zfO(a:Ad)(wd:Wd):Sp:=λvs H Q _=>∃(v:V)(bs:A1)(rs:At)(p:A5),vs=[v]/\Rep H p v (qG a bs rs)/\rs.length<=100/\∀q H',Same H H'->H q=none->H' q=some (.lst (iv (zY wd rs)))->Q (.ref q) H'
def Wh(T:Txt K mg a):MCal P w K mg base a.r "drains" 1 ["self"] [] (zfO a .drain):=T.mD.cal T.iL λF=>by
 refine F.okx J3 ?_ ?_
 .walk_at"i"
 walk_at"j";refine oE4 h λv bs rs p p6=>oA4 p6 λp8 hv l100 k=>?_;clear p6 h;subst p8;refine oE7 (qO hv) λy dx fs l1 l2 bvs ph p6=>oA9 p6 λp8 hy e1 e2 h1 h2 hB hK no=>?_;clear p6;subst p8;walk_at"T";refine⟨_,(zd (zl (jF (vars:=["number","knot"]) (caps:=[]) (N:=["number","knot"]) (ON:=["self"]) (osc:=zg xV) rfl rfl (by right) rfl rfl (qU (za (zk (pq 0) rfl) zb)) (λ_ _ _ _=>(wH (n:=2) rfl (qt (qu 0 (show(["number","knot"]:A8).Nodup from by symm)) (qt (qu 1 (show(["number","knot"]:A8).Nodup from by symm)) xj)))) (λ_ _ _ _=>(VX (qz (zM xE qh (za (pq 1) (za jG zb))) (λ_=>rfl)))) (λ_ _ _ _=>(pq 0))))),?_⟩;left;walk_at"d";exists ra hy T.iL T.iI e2 (iE2 l2 _ (iA3 rfl h2 (λ_ _ _ _ pv hacc=>?_)));refine XH (K:=K) (a:=l2) (xs:=ph) (λi σ H'=>∃(v0 v1:Aq),σ=[v0,v1]/\Same H H'/\H' pv=some (.lst (iv (jB .drain rs i)))) (iE2 _ _ (iA3 rfl (zf hacc) pD)) (λi σ H' _ h=>by let⟨_,_,_,s,_⟩:=h;exact SqL.of (s _ _ h2)) ?_ ?_
 .intro i x t σ H' hi ht p9;refine oE2 p9 λv0 v1 p6=>oA3 p6 λp8 s7 e1'=>?_;ext;let⟨r,hr',hKn⟩:=hK.at hi;refine oE6 hKn.inv λy1 dx1 m1 m2 m3 fs1 p6=>oA9 p6 λp8 _ _ _ _ g0 f1 f2 pw=>oA5 pw λ_ g1 g2 _ _=>?_;clear p6 pw;subst p8;have hil:=(aa.mp hr').1;have s8:=s7.trans (zf (o:=.tup [.int i,.ref y1]) ht);have e8:=pG (o:=.tup [.int i,.ref y1]) e1' ht;refine un2 pD ?_;generalize upd H' t (.tup [.int i,.ref y1])=H8 at s8 e8 ⊢;exists iE2 (.ref a.l) _ (iA3 T.lX rfl (iE4 _ _ _ _ (iA4 rfl ((WT T r.wd).ty (CT T r.wd) (s8 _ _ g0)) (.inl ⟨_,rfl,zkK T r.wd⟩) ?_)));exists zT (λb=>?_) (λb=>?_)
  .refine⟨_,iA3 e8 (zn (by have:=xA .drain rs i;rw[zL];lia)) (iE2 _ _ (iA3 rfl (λb o hb=>by rw[pE (pF hb hacc)];exact s8 b o hb) ?_))⟩;rw[pD,xM hr',ao b,jo]
  .exact iE2 _ _ (iA3 rfl s8 (by rw[xM hr',ak b,cj];exact e8))
 intro σ H2 p9;refine oE2 p9 λv0 v1 p6=>oA3 p6 λp8 s2 ha=>?_;ext;rw[hK.len]at ha;exact k _ _ s2 hacc ha
def vO(T:Txt K mg a):MCal P w K mg base a.r "sources" 1 ["self"] [] (zfO a .source):=T.l9.cal T.iL λF=>by
 refine F.okx Jh ?_ ?_
 .walk_at"i"
 walk_at"j";let⟨v,bs,rs,p,rfl,hv,l100,k⟩:=h;let⟨y,dx,fs,l1,l2,bvs,ph,rfl,hy,e1,e2,h1,h2,hB,hK,no⟩:=qO hv;walk_at"T";refine⟨_,(zd (zl (jF (vars:=["number","knot"]) (caps:=[]) (N:=["number","knot"]) (ON:=["self"]) (osc:=zg xw) rfl rfl (by right) rfl rfl (qU (za (zk (pq 0) rfl) zb)) (λ_ _ _ _=>(wH (n:=2) rfl (qt (qu 0 (show(["number","knot"]:A8).Nodup from by symm)) (qt (qu 1 (show(["number","knot"]:A8).Nodup from by symm)) xj)))) (λ_ _ _ _=>(VX (qz (zM xE qh (za (pq 1) (za jG zb))) (λ_=>rfl)))) (λ_ _ _ _=>(pq 0))))),?_⟩;left;walk_at"d";exists ra hy T.iL T.iI e2 ⟨l2,_,rfl,h2,λ_ _ _ _ pv hacc=>?_⟩;refine XH (K:=K) (a:=l2) (xs:=ph) (λi σ H'=>∃(v0 v1:Aq),σ=[v0,v1]/\Same H H'/\H' pv=some (.lst (iv (jB .source rs i)))) ⟨_,_,rfl,zf hacc,pD⟩ (λi σ H' _ h=>by let⟨_,_,_,s,_⟩:=h;exact SqL.of (s _ _ h2)) ?_ ?_
 .rintro i x t σ H' hi ht ⟨v0,v1,rfl,s7,e1'⟩;let⟨r,hr',hKn⟩:=hK.at hi;let⟨y1,dx1,m1,m2,m3,fs1,rfl,_,_,_,_,g0,f1,f2,_,g1,g2,_,_⟩:=hKn.inv;have hil:=(aa.mp hr').1;have s8:=s7.trans (zf (o:=.tup [.int i,.ref y1]) ht);have e8:=pG (o:=.tup [.int i,.ref y1]) e1' ht;refine un2 pD ?_;generalize upd H' t (.tup [.int i,.ref y1])=H8 at s8 e8 ⊢;exists⟨.ref a.k,_,T.kD,rfl,_,_,_,_,rfl,(WT T r.wd).ty (CT T r.wd) (s8 _ _ g0),.inl ⟨_,rfl,zkJ T r.wd⟩,?_⟩;exists zT (λb=>?_) (λb=>?_)
  .refine⟨_,e8,zn (by have:=xA .source rs i;rw[zL];lia),_,_,rfl,(λb o hb=>by rw[pE (pF hb hacc)];exact s8 b o hb),?_⟩;rw[pD,xM hr',ao b,jo]
  .exact⟨_,_,rfl,s8,by rw[xM hr',ak b,cj];exact e8⟩
 rintro σ H2 ⟨v0,v1,rfl,s2,ha⟩;rw[hK.len]at ha;exact k _ _ s2 hacc ha
def xS(bs:A1)(rs:At)(n:Int):Prop:=(∃b∈bs,b.2=n)\/∃r∈rs,(r.wd=.source\/r.wd=.drain)/\r.pace=n/\0<n
def za4{r:Row}(h:r.ok)(hw:r.wd=.source\/r.wd=.drain):0<=r.pace/\r.pace<=4:=by
 let⟨wd,ins,outs,pc,ks⟩:=r;rcases hw with hw|hw
 .simp only at hw;subst hw;have h1:=h.2.2.1;have h2:=h.2.2.2.1;simp only at h1 h2;exact⟨by show 0<=pc;lia,h2⟩
 .simp only at hw;subst hw;exact⟨h.2.2.1,h.2.2.2⟩
def zjc(a:Ad):Sp:=λvs H Q _=>∃(v:V)(bs:A1)(rs:At)(p:A5),vs=[v]/\Rep H p v (qG a bs rs)/\bs.length<=100/\rs.length<=100/\(∀b∈bs,zE b.1 b.2)/\(∀r∈rs,r.ok) /\
 ∀L ns H',IsLcm ns L->(∀n,n∈ns↔xS bs rs n)->Same H H'->Q (.int L) H'
def zbz(T:Txt K mg a):MCal P w K mg base a.r "beat" 3 ["self"] [] (zjc a):=T.nB.cal T.iL λF=>by
 refine F.okx VO ?_ ?_
 .walk_at"i"
 walk_at"j";refine oE4 h λv bs rs p p6=>oA7 p6 λp8 hv lb lr bo ro k=>?_;clear p6 h;subst p8;have hv0:=hv;refine oE7 (qO hv) λy dx fs l1 l2 bvs ph p6=>oA9 p6 λp8 hy e1 e2 h1 h2 hB hK no=>?_;clear p6;subst p8;walk_at"T";refine⟨_,(zi (WM (i:=1) VO.nd rfl (Or.inl rfl) (vars:=["belt"]) (caps:=[]) (N:=["belt"]) (ON:=["self","paces","number","pace"]) (osc:=zg vz) rfl rfl (by right) rfl rfl (qq (zk (pq 0) rfl)) (λ_ _ _ _=>(qu 0 (show(["belt"]:A8).Nodup from by symm))) (λ_ _ _ _=>qm) (λ_ _ _ _=>(zk (pq 0) rfl)))  (zi (qy qQ rfl (qq (zK qk (JD ⟨rfl,rfl,rfl⟩ hr (pq 0)) (JD ⟨rfl,rfl,rfl⟩ hr (pq 0)))) (qu 2 VO.nd)  (zi (zu 3 VO.nd (zk (zo (zk (pq 0) rfl) (pq 2)) rfl))  (zd (zF (zm Q5 (pq 3) ze (zr _))  (zd (zH (qA ar aA az zV (pq 1) (za (pq 3) zb))))  zp))))  (zd (zl ‹(pq 1) zb›)))),?_⟩;left;walk_at"d";exists ra hy T.iL T.iT e1 ⟨l1,rfl,.inl ⟨⟨_,SqL.of h1⟩,λ_ _ _ _ pv hacc=>?_⟩⟩;let px:Nat->St->Hp->Prop:=λi σ H'=>∃(v0:Aq),σ=[v0]/\Same H H'/\H' pv=some (.lst (iv ((bs.take i).map (·.2))));refine qM (K:=K) (a:=l1) (xs:=bvs) px ⟨_,iA3 rfl (zf hacc) (by rw[bW];exact pD)⟩ (λi σ H' _ h=>by let⟨_,_,s,_⟩:=h;exact SqL.of (s _ _ h1)) ?_ ?_
 .intro i x σ H' hi p9;refine oE1 p9 λv0 p6=>oA3 p6 λp8 s7 e7=>?_;ext;let⟨b,hr',hBt⟩:=hB.at hi;refine oE3 hBt.inv λy1 dx1 fs1 p6=>oA5 p6 λp8 _ g0 f1 f2=>?_;clear p6;subst p8;have hil:=(aa.mp hr').1;exists ra (s7 _ _ g0) T.i5 T.kh f2 ?_;refine⟨_,iA3 e7 (zn (by rw[zL,ai,aQ];lia)) ⟨_,iA3 rfl (λb o hb=>by rw[pE (pF hb hacc)];exact s7 b o hb) ?_⟩⟩;rw[pD,aI,hr',ba,jo]
  rfl
 intro σ H2 p9;refine oE1 p9 λv0 p6=>oA3 p6 λp8 s2 ha=>?_;ext;rw[hB.len,aN]at ha;left;walk_at"c";exists iE7 y a.r dx fs _ _ _ (iA5 rfl (s2 _ _ hy) (no _ (by symm) (by symm)) ((vO T).mono) ?_);refine iE4 _ bs rs p (iA4 rfl (hv0.keep λb o pb hb=>⟨pb,s2 _ _ hb⟩) lr (λq1 H3 s3 n1 hq1=>?_));refine iE7 y a.r dx fs _ _ _ (iA5 rfl (s3 _ _ (s2 _ _ hy)) (no _ (by symm) (by symm)) ((Wh T).mono) ?_);refine iE4 _ bs rs p (iA4 rfl (hv0.keep λb o pb hb=>⟨pb,s3 _ _ (s2 _ _ hb)⟩) lr (λq2 H4 s4 n2 hq2=>?_));have l3:=xA .source rs rs.length;have l4:=xA .drain rs rs.length;refine jW (SqL.of (s4 _ _ hq1)) (SqL.of hq2) (jx (by rw[zL,zL];show(jB _ _ _).length+(jB _ _ _).length<=_;lia)) λq3 hq3=>?_;rw[zcW];have s5:Same H (upd H4 q3 (.lst (iv (zY .source rs++zY .drain rs)))):=((s2.trans s3).trans s4).trans (zf hq3);have ha5:upd H4 q3 (.lst (iv (zY .source rs++zY .drain rs))) pv=some (.lst (iv (bs.map (·.2)))):=pG (s4 _ _ (s3 _ _ ha)) hq3;have hq5:upd H4 q3 (.lst (iv (zY .source rs++zY .drain rs))) q3=some (.lst (iv (zY .source rs++zY .drain rs))):=pD;have nq:q3≠pv:=(pF (s4 _ _ (s3 _ _ ha)) hq3).symm;have hq0:H q3=none:=zw ((s2.trans s3).trans s4) hq3;generalize upd H4 q3 (.lst (iv (zY .source rs++zY .drain rs)))=H5 at s5 ha5 hq5 ⊢;refine⟨q3,rfl,.inl ⟨⟨_,SqL.of hq5⟩,?_⟩⟩;let pB:Nat->St->Hp->Prop:=λi σ H'=>∃(v2 v3:Aq)(ns:A6),σ=[some (.ref y),some (.ref pv),v2,v3]/\Same H H'/\H' q3=some (.lst (iv (zY .source rs++zY .drain rs)))/\H' pv=some (.lst (iv ns))/\Pac ns/\ns.length<=bs.length+i/\∀n,n∈ns↔n∈bs.map (·.2)\/∃(m:Nat)(r:Row),(m:Int)∈(zY .source rs++zY .drain rs).take i/\rs[m]?=some r/\r.pace=n/\0<n;refine qM (K:=K) (a:=q3) (xs:=iv (zY .source rs++zY .drain rs)) pB
  ⟨_,_,bs.map (·.2),rfl,s5,hq5,ha5,?_,by simp,?_⟩ (λi σ H' _ h=>by let⟨_,_,_,_,_,h,_⟩:=h;exact SqL.of h) ?_ ?_
 .intro n hn;let⟨b,hb,rfl⟩:=aJ.mp hn;have:=bo b hb;exact⟨by have:=this.2.2.1;lia,by have:=this.2.2.2;lia⟩
 .intro n;simp
 .intro i x σ H6 hi p9;refine oE3 p9 λv2 v3 ns p6=>oA7 p6 λp8 s6 hq6 ha6 pn ln mem=>?_;ext;let⟨m,hm,rfl⟩:=Zw hi;have hmm:=ah hm;have hil:=(aa.mp hm).1;have hlen:(zY .source rs++zY .drain rs).length<=200:=by
   rw[aH];show(jB _ _ _).length+(jB _ _ _).length<=_
   lia
  let⟨j,r,rfl,hr',hw⟩:∃(j:Nat)(r:Row),m=j/\rs[j]?=some r/\(r.wd=.source\/r.wd=.drain):=by
   rcases aG.mp hmm with z|z
   .obtain⟨j,r,q1,q2,q3⟩:=Qf z;exact⟨j,r,q1,q2,.inl q3⟩
   .obtain⟨j,r,q1,q2,q3⟩:=Qf z;exact⟨j,r,q1,q2,.inr q3⟩
  have hp:=za4 (ro r (ah hr')) hw;let⟨kv,hkv,hKn⟩:∃kv,ph[j]?=some kv/\KnP a H p kv r:=by
   have hj:=(aa.mp hr').1;have e:ph[j]?=some (ph[j]'(by rw[hK.len];exact hj)):=ac _;exact⟨_,e,hK.g j _ r e hr'⟩
  refine oE6 hKn.inv λy1 dx1 m1 m2 m3 fs1 p6=>oA9 p6 λp8 _ _ _ _ g0 _ _ pw=>oA5 pw λ_ _ _ _ fp=>?_;clear p6 pw;subst p8;exists ra (s6 _ _ hy) T.iL T.iI e2 (zq (SqL.of (s6 _ _ h2)) (zt hkv) ?_);have NP:NoAttr K (ww a r.wd) "pace":=by
   rcases hw with z|z
   .rw[z];exact T.i6
   .rw[z];exact T.iW
  refine iE5 y1 (ww a r.wd) dx1 fs1 _ (iA6 rfl (s6 _ _ g0) (CT T _) NP (fp hw) ?_);left;have tk:(zY .source rs++zY .drain rs).take (i+1)=(zY .source rs++zY .drain rs).take i++[(j:Int)]:=by rw[aI,hm];rfl
  refine zT (λb=>?_) (λb=>?_)
  .exists⟨.inl ⟨rfl,_,SqL.of ha6⟩,iE3 pv _ _ (iA5 rfl rfl ha6 (zn (by rw[zL];lia)) ?_)⟩;rw[jo];refine iE3 _ _ (ns++[r.pace]) (iA7 rfl (λb o hb=>by rw[pE (pF hb hacc)];exact s6 b o hb) (by rw[pE nq];exact hq6) pD (pn.snoc b (by lia)) (by simp;lia) (λn=>?_));rw[aG,mem n,aD,tk];constructor
   .rintro((h|⟨m',r',h1,h2,h3,h4⟩)|h)
    .exact .inl h
    .exact .inr (iE2 m' r' (iA4 (bA _ h1) h2 h3 h4))
    .subst h;exact .inr (iE2 j r (iA4 (a8 _ (aD.mpr rfl)) hr' rfl b))
   .rintro(h|⟨m',r',h1,h2,h3,h4⟩)
    .exact .inl (.inl h)
    .rcases aG.mp h1 with h1|h1
     .exact .inl (.inr (iE2 m' r' (iA4 h1 h2 h3 h4)))
     .have e:m'=j:=by have:=aD.mp h1;lia
      subst e;rw[hr']at h2;cases h2;exact .inr h3.symm
  .refine iE3 _ _ ns (iA7 rfl s6 hq6 ha6 pn (by lia) (λn=>?_));rw[mem n,tk];constructor
   .rintro(h|⟨m',r',h1,h2,h3,h4⟩)
    .exact .inl h
    .exact .inr (iE2 m' r' (iA4 (bA _ h1) h2 h3 h4))
   .rintro(h|⟨m',r',h1,h2,h3,h4⟩)
    .exact .inl h
    .rcases aG.mp h1 with h1|h1
     .exact .inr (iE2 m' r' (iA4 h1 h2 h3 h4))
     .have e:m'=j:=by have:=aD.mp h1;lia
      subst e;rw[hr']at h2;cases h2
      lia
 .intro σ H6 p9;refine oE3 p9 λv2 v3 ns p6=>oA7 p6 λp8 s6 hq6 ha6 pn ln mem=>?_;ext;rw[zL,aN]at mem;exists uc (zfm T).mono (iE2 pv ns (iA4 rfl (SqL.of ha6) pn (λL hL=>k L ns _ hL (λn=>?_) s6)));rw[mem n];unfold xS;constructor
  .rintro(h|⟨m',r',h1,h2,h3,h4⟩)
   .obtain⟨b,hb,e⟩:=aJ.mp h;exact .inl ⟨b,hb,e⟩
   .refine .inr ⟨r',iA4 (ah h2) ?_ h3 h4⟩;rcases aG.mp h1 with z|z
    .refine oE2 (Qf z) λj r p6=>oA3 p6 λq1 q2 q3=>?_;clear p6;have e:m'=j:=by lia
     subst e;rw[h2]at q2;cases q2;exact .inl q3
    .refine oE2 (Qf z) λj r p6=>oA3 p6 λq1 q2 q3=>?_;clear p6;have e:m'=j:=by lia
     subst e;rw[h2]at q2;cases q2;exact .inr q3
  .rintro(⟨b,hb,e⟩|⟨r,hr',hw,h3,h4⟩)
   .exact .inl (aJ.mpr ⟨b,hb,e⟩)
   .obtain⟨m',hm'⟩:=aV hr';refine .inr (iE2 m' r (iA4 ?_ hm' h3 h4));rcases hw with hw|hw
    .exact bA _ (Xm hm' hw)
    .exact a8 _ (Xm hm' hw)
def xf{G:Addr}{ags:Ab}{gss:List A6}{g:A6}(h:NL H p G ags (qw gss))(e:gss[i]?=some g):∃b,ags[i]?=some b/\H b=some (.lst (iv g)):=by
 let⟨b,vs,h1,h2,h3⟩:=h.at (i:=i) (xs:=g.map D.int) (by rw[qw,am,e];rfl);rw[JF h3]at h2;exact⟨b,h1,h2⟩
noncomputable def kdW(rs:At)(x:Int×Int):Int:=wa ((rs[x.1.toNat]?.map Row.kinds).getD []) x.2
noncomputable def zD(rs:At)(c:Av):List A9:=c.map λwr=>wr.map (kdW rs)
def zeq(a:Ad):Sp:=λvs H Q _=>∃(vw:V)(cb:Addr)(us:Ap)(bs:A1)(rs:At)(c:Av)(p q:A5),vs=[vw,.ref cb]/\Rep H p vw (qG a bs rs)/\H cb=some (.lst us)/\Reps H q us (c.map qg)/\(∀wr∈c,vn rs wr)/\(∀r∈rs,r.ok)/\c.length<=6/\∀t H',Same H H'->H t=none->H' t=some (.tup ((zD rs c).map oiV))->Q (.ref t) H'
theorem zdh(T:Txt K mg a):Cal P w K mg base "kinds_in" 2 ["work","cells"] [] (zeq a):=T.nK.cal λF=>by
 refine F.okx zaU ?_ ?_
 .walk_at"i"
 walk_at"j";refine oE8 h λvw cb us bs rs c p q p6=>oA8 p6 λp8 hw hcb rus wk ro c6 k=>?_;clear p6 h;subst p8;have lu:us.length=c.length:=by rw[rus.len,ai]
 walk_at"T";refine⟨_,(zd (zl (xL Qq Za (za (jF (vars:=["ware"]) (caps:=[0]) (N:=["ware","work"]) (ON:=["work","cells"]) (osc:=zg ZI) rfl rfl (by right) rfl rfl (qq (pq 1)) (λ_ _ _ _=>(qu 0 (show(["ware","work"]:A8).Nodup from by symm))) (λ_ _ _ _=>qm) (λ_ _ _ _=>(wq (zm jr (pq 0) zC (zr _)) zC (vI hr (za (pq 1) (za (pq 0) zb)))))) zb)))),?_⟩;walk_at"d";exists⟨cb,rfl,.inl ⟨⟨_,SqL.of hcb⟩,λ_ _ _ _ pv hacc=>?_⟩⟩;let px:Nat->St->Hp->Prop:=λj σ H'=>∃(v0:Aq),σ=[v0,some vw]/\Same H H'/\H' pv=some (.lst ((zD rs (c.take j)).map oiV));refine qM (K:=K) (a:=cb) (xs:=us) px ⟨_,iA3 rfl (zf hacc) pD⟩ (λi σ H' _ h=>by let⟨_,_,s,_⟩:=h;exact SqL.of (s _ _ hcb)) ?_ ?_
 .intro j v σ H1 hj p9;refine oE1 p9 λv0 p6=>oA3 p6 λp8 s1 ha=>?_;ext;let⟨d,hd,rv⟩:=rus.at hj;rw[am,aq]at hd;let⟨wr,hwr,rfl⟩:=hd;have hjl:=(aa.mp hwr).1;have e:(zD rs (c.take (j+1))).map oiV=(zD rs (c.take j)).map oiV++[oiV (wr.map (kdW rs))]:=by
   rw[aI,hwr];simp[zD]
  have lk:((zD rs (c.take j)).map oiV).length<=6:=by simp[zD];lia
  have sn:∀(x:V),Same H (upd H1 pv (.lst ((zD rs (c.take j)).map oiV++[x]))):=λx b o hb=>by rw[pE (pF hb hacc)];exact s1 b o hb
  cases wr with
  |none =>
   have rv:Rep H q v .non:=rv;cases rv;left;exact⟨_,iA3 ha (zn (by lia)) ⟨_,iA3 rfl (sn _) (by rw[pD,e];rfl)⟩⟩
  |some x =>
   let⟨tx,rfl,htx⟩:=xz (b:=x) rv;refine oE2 (wk _ (ah hwr) x.1 x.2 rfl) λjj r p6=>oA4 p6 λe1 hr' hs _=>?_;clear p6;have kp:0<r.kinds.length:=by
    have ok:=ro r (ah hr');unfold Row.ok at ok;rw[hs]at ok;have:=ok.2.2.2.2.1
    lia
   have hw1:Rep H1 p vw (qG a bs rs):=hw.keep λb o hb ho=>⟨hb,s1 _ _ ho⟩;have rx:Rep H1 q (.ref tx) (.tup [.int jj,.int x.2]):=by
    have:=rv.keep (H':=H1) (q:=q) λb o hb ho=>⟨hb,s1 _ _ ho⟩;have e2:qg (some x)=.tup [.int x.1,.int x.2]:=rfl;rw[e2,e1]at this;exact this
   exists uc (Vj T).mono (iE5 vw (.ref tx) bs rs p (iE4 q jj x.2 r (iA7 rfl hw1 rx hr' hs kp ?_)));refine⟨_,iA3 ha (zn (by lia)) ⟨_,iA3 rfl (sn _) ?_⟩⟩;rw[pD,e];show _=some (HO.lst (_++[V.int (kdW rs x)]))
   unfold kdW;rw[e1,ax,hr']
   rfl
 intro σ H1 p9;refine oE1 p9 λv0 p6=>oA3 p6 λp8 s1 ha=>?_;ext;rw[lu,aN]at ha;refine iE2 pv _ ⟨rfl,.inl ⟨SqL.of ha,λt ht=>?_⟩⟩;exact k t _ (s1.trans (zf ht)) (zw s1 ht) pD
def QR(bs:A1)(rs:At)(L:Int):Prop:=∃ns,IsLcm ns L/\∀n,n∈ns↔xS bs rs n
def zhl{rs:At}{L L':Int}(h:QR bs rs L)(h':QR bs rs L'):L=L':=by
 let⟨ns,i,m⟩:=h;let⟨ns',i',m'⟩:=h';have d:L∣L':=i.least _ λn hn=>i'.dv n ((m' n).mpr ((m n).mp hn));have d':L'∣L:=i'.least _ λn hn=>i.dv n ((m n).mpr ((m' n).mp hn));exact Int.dvd_antisymm (dD i.pos) (dD i'.pos) d d'
open Classical in
noncomputable def Zb(bs:A1)(rs:At):Int:=if h:∃L,QR bs rs L then Classical.choose h else 1
def zb6{rs:At}(h:QR bs rs L):L=Zb bs rs:=by
 unfold Zb;rw[dif_pos ⟨L,h⟩];exact zhl h (Classical.choose_spec (⟨L,h⟩:∃L,QR bs rs L))
noncomputable def xa(rs:At)(st:PSt)(j:Int):Int:=match rs[j.toNat]? with
 |some r=>(st.gone.getD j.toNat []).headD 0%(r.kinds.length:Int)
 |none=>0
noncomputable def JW(bs:A1)(rs:At)(st:PSt):ShK:=(some (st.turn%Zb bs rs),st.cells.map (zD rs),st.sides.map some,(zY .source rs).map λj=>some (xa rs st j))
def zaL(a:Ad):Sp:=λvs H Q _=>∃(vw:V)(y:Addr)(n:SN)(j:Nat)(bs:A1)(rs:At)(st:PSt)(r:Row)(p:A5),vs=[vw,.ref y,.int j]/\Rep H p vw (qG a bs rs)/\StO a H y n st/\rs[j]?=some r/\r.wd=.source/\r.ok/\stWf bs rs st/\Q (.int (xa rs st j)) H
def zao(T:Txt K mg a):Cal P w K mg base "kind_place" 1 ["work","state","number"] [] (zaL a):=T.mL.cal λF=>by
 refine F.okx X4 ?_ ?_
 .walk_at"i"
 walk_at"j";refine oE5 h λvw y n j bs p6=>oE4 p6 λrs st r p p8=>oA8 p8 λpw hv so hr' hs ok wf k=>?_;clear p6 p8 h;subst pw;refine oE7 (qO hv) λyw dx fs l1 l2 bvs ph p6=>oA9 p6 λp8 hy e1 e2 h1 h2 hB hK no=>?_;clear p6;subst p8;let⟨kv,hkv,hKn⟩:=wK hK hr';refine oE6 hKn.inv λy1 dx1 m1 m2 m3 fs1 p6=>oA9 p6 λp8 _ _ _ _ g0 _ _ pw=>oA5 pw λ_ _ _ g3 _=>?_;clear p6 pw;subst p8;let⟨g3a,g3b⟩:=g3 hs;have kp:0<r.kinds.length:=by
  unfold Row.ok at ok;rw[hs]at ok;have:=ok.2.2.2.2.1
  lia
 have hj:=(aa.mp hr').1;let⟨g,hg⟩:∃g,st.gone[j]?=some g:=⟨_,ac (by rw[wf.go.1];exact hj)⟩;have q1:=(wf.go.2 j r g hr' hg).1;have cp:=xD ok;let⟨gh,gs,rfl⟩:=du (fQ (by lia:0<g.length));let⟨bG,hbG,hgG⟩:=xf so.hg hg;have hmap:(n.ags.map V.ref)[j]?=some (.ref bG):=by rw[am,hbG];rfl
 have ek:xa rs st j=gh%(r.kinds.length:Int):=by
  unfold xa;rw[ax,hr',ae,hg]
  rfl
 rw[ek]at k;walk_at"T";refine⟨_,(zd (zl (zK js (zo (zo (zk (pq 1) rfl) (pq 2)) ze) (zM zR zP (za (zk (zo (zk (pq 0) rfl) (pq 2)) rfl) zb))))),?_⟩;exists ra so.hy T.ad T.iJ rfl (zq (SqL.of so.hg.out) (zt hmap) (zq (SqL.of hgG) at0 ?_));exists ra hy T.iL T.iI e2 (zq (SqL.of h2) (zt hkv) ?_);refine iE5 y1 (ww a r.wd) dx1 fs1 _ (iA6 rfl g0 (CT T _) (by rw[hs];exact T.iY) g3a ?_);refine⟨_,.inl ⟨_,SqL.of g3b,rfl⟩,?_⟩;rw[zL];left;exact⟨by lia,k⟩
theorem VU{H:Hp}{p:A5}:∀c:List A9,Reps H p (c.map oiV) (c.map oiD)
 |[]=>.nil
 |none::c=>.cons .non (VU c)
 |some n::c=>.cons .int (VU c)
def zcE{t:Addr}{c:List A9}(h:H t=some (.tup (c.map oiV))):Rep H (z6 H) (.ref t) (.tup (c.map oiD)):=(VU c).mkT ⟨_,h⟩ h
def JN{H H':Hp}{d:D}(r:Rep H (z6 H) v d)(s:Same H H'):Rep H' (z6 H') v d:=r.keep λb o ⟨xs,hx⟩ hb=>⟨⟨xs,s _ _ hx⟩,s _ _ hb⟩
def Wu{H H':Hp}{ds:List D}(r:Reps H (z6 H) vs ds)(s:Same H H'):Reps H' (z6 H') vs ds:=r.keep λb o ⟨xs,hx⟩ hb=>⟨⟨xs,s _ _ hx⟩,s _ _ hb⟩
def zgu{rs:At}{m:Int}(h:m∈zY wd rs):∃(j:Nat)(r:Row),m=j/\rs[j]?=some r/\r.wd=wd:=by
 unfold zY jB at h;let⟨j,hj,rfl⟩:=aJ.mp h;let⟨h1,h2⟩:=cu.mp hj;have h2:=bQ h2;let⟨r,hr,e⟩:=aq.mp h2;exact⟨j,r,rfl,hr,e⟩
def zhw(a:Ad):Sp:=λvs H Q _=>∃(vw:V)(y:Addr)(n:SN)(bs:A1)(rs:At)(st:PSt)(p:A5),vs=[vw,.ref y]/\Rep H p vw (qG a bs rs)/\StO a H y n st/\stWf bs rs st/\bs.length<=24/\rs.length<=24/\(∀b∈bs,zE b.1 b.2)/\(∀r∈rs,r.ok)/\∀t H',Same H H'->Rep H' (z6 H') (.ref t) (shD (JW bs rs st))->Q (.ref t) H'
def zdf(T:Txt K mg a):Cal P w K mg base "shape_of" 4 ["work","state"] [] (zhw a):=T.nN.cal λF=>by
 refine F.okx zaS ?_ ?_
 .walk_at"i"
 walk_at"j";refine oE7 h λvw y n bs rs st p p6=>oA9 p6 λp8 hv so wf b24 r24 bo ro k=>?_;clear p6 h;subst p8;refine oE7 (qO hv) λyw dx fs l1 l2 bvs ph p6=>oA9 p6 λp8 hy e1 e2 h1 h2 hB hK no=>?_;clear p6;subst p8;walk_at"T";refine⟨_,(zh (zu 2 zaS.nd (zK js (zk (pq 1) rfl) (JD ⟨rfl,rfl,rfl⟩ hr (pq 0))))  (zh (zu 3 zaS.nd (xL Qq Za (za (jF (vars:=["cells"]) (caps:=[0]) (N:=["cells","work"]) (ON:=["work","state","beat_place","kinds","places"]) (osc:=zg wB) rfl rfl (by right) rfl rfl (qq (zk (pq 1) rfl)) (λ_ _ _ _=>(qu 0 (show(["cells","work"]:A8).Nodup from by symm))) (λ_ _ _ _=>qm) (λ_ _ _ _=>(vI hr (za (pq 1) (za (pq 0) zb))))) zb)))  (zh (zu 4 zaS.nd (xL Qq Za (za (jF (vars:=["number"]) (caps:=[0,1]) (N:=["number","work","state"]) (ON:=["work","state","beat_place","kinds","places"]) (osc:=zg wB) rfl rfl (by right) rfl rfl (qq (JD ⟨rfl,rfl,rfl⟩ hr (pq 0))) (λ_ _ _ _=>(qu 0 (show(["number","work","state"]:A8).Nodup from by symm))) (λ_ _ _ _=>qm) (λ_ _ _ _=>(vI hr (za (pq 1) (za (pq 2) (za (pq 0) zb)))))) zb)))  (zd (zl (jq (za (pq 2) (za (pq 3) (za (xL Qq Za (za (zk (pq 1) rfl) zb)) (za (pq 4) zb)))))))))),?_⟩;exists ra so.hy T.ad T.iM rfl ?_;refine iE7 yw a.r dx fs _ _ _ (iA5 rfl hy (no _ (by symm) (by symm)) ((zbz T).mono) ?_);refine iE4 (.ref yw) bs rs p (iA7 rfl hv (by lia) (by lia) bo ro (λL ns H1 il im s1=>?_));have lp:=il.pos;have eL:=zb6 ⟨ns,il,im⟩;left;rw[eL];clear il im lp eL;have so1:=so.same s1;have hv1:Rep H1 p (.ref yw) (qG a bs rs):=hv.keep λb o hb ho=>⟨hb,s1 _ _ ho⟩;have lc:n.acs.length=st.cells.length:=by rw[so.hc.len,zZ,ai]
 have lcb:st.cells.length=bs.length:=wf.co.1;walk_at"d";exists ra so1.hy T.ad T.iK rfl ⟨n.lc,rfl,.inl ⟨⟨_,SqL.of so1.hc.out⟩,λ_ _ _ _ pv hacc=>?_⟩⟩;let px:Nat->St->Hp->Prop:=λi σ H'=>∃(v0:Aq)(us:Ap),σ=[v0,some (.ref yw)]/\Same H1 H'/\H' pv=some (.lst us)/\us.length=i/\Reps H' (z6 H') us ((st.cells.take i).map λc=>.tup ((zD rs c).map oiD));refine qM (K:=K) (a:=n.lc) (xs:=n.acs.map V.ref) px (iE2 _ ([]) (iA5 rfl (zf hacc) pD rfl (.nil))) (λi σ H' _ h=>by let⟨_,_,_,s,_⟩:=h;exact SqL.of (s _ _ so1.hc.out)) ?_ ?_
 .intro i x σ H2 hi p9;refine oE2 p9 λv0 us p6=>oA5 p6 λp8 s2 ha lu ru=>?_;ext;rw[am,aq]at hi;let⟨cb,hcb,rfl⟩:=hi;have hil:i<st.cells.length:=by rw[<- lc];exact(aa.mp hcb).1
  let⟨c,ec⟩:∃c,st.cells[i]?=some c:=⟨_,ac hil⟩;let⟨vs,hvs,rvs⟩:=so1.hc.g i cb _ hcb (show(zZ st.cells)[i]?=some (c.map qg) by rw[zZ,am,ec];rfl);let⟨b,hb⟩:∃b,bs[i]?=some b:=⟨_,ac (by rw[<- wf.co.1];exact hil)⟩;let⟨lc6,wk⟩:=wf.co.2 i b c hb ec;have bk:=(bo b (ah hb)).2.1;exists uc (zdh T).mono (iE8 (.ref yw) cb vs bs rs c p _ (iA8 rfl (hv1.keep (λb o hb ho=>⟨hb,s2 _ _ ho⟩)) (s2 _ _ hvs) (rvs.keep (λb o hb ho=>⟨hb,s2 _ _ ho⟩)) wk ro (by lia) (λt H3 s3 nt ht=>?_)));have nta:∀b,z6 H3 b->b≠pv:=λb ⟨xs,hx⟩ z=>by rw[z,s3 _ _ ha]at hx;cases hx
  refine⟨_,iA3 (s3 _ _ ha) (zn (by lia)) (iE2 _ (us++[.ref t]) (iA5 rfl (λb o hb=>by rw[pE (pF hb hacc)];exact s3 _ _ (s2 b o hb)) pD (by simp[lu]) ?_))⟩;rw[aI,ec,ba];refine((Wu ru s3).append (.one (zcE ht))).keep λb o tb hb=>?_;have ne:=nta b tb;let⟨xs,hx⟩:=tb;exact⟨⟨xs,by rw[pE ne];exact hx⟩,by rw[pE ne];exact hb⟩
 intro σ H2 p9;refine oE2 p9 λv0 us p6=>oA5 p6 λp8 s2 ha lu ru=>?_;ext;rw[ai,lc,aN]at ru;refine iE2 pv _ ⟨rfl,.inl ⟨SqL.of ha,λt1 ht1=>?_⟩⟩;have s3:=zf (o:=.tup us) ht1;have ru3:=Wu ru s3;have hT1:upd H2 t1 (.tup us) t1=some (.tup us):=pD;have s13:=s2.trans s3;generalize upd H2 t1 (.tup us)=H3 at s3 ru3 hT1 s13 ⊢;have r1:Rep H3 (z6 H3) (.ref t1) (.tup ((st.cells.map (zD rs)).map λr=>.tup (r.map oiD))):=by
  rw[e6];exact ru3.mkT ⟨_,hT1⟩ hT1
 clear ru ru3 ha hT1 s2 s3;have so3:=so1.same s13;have hv3:Rep H3 p (.ref yw) (qG a bs rs):=hv1.keep λb o hb ho=>⟨hb,s13 _ _ ho⟩;exists iE7 yw a.r dx fs _ _ _ (iA5 rfl (s13 _ _ (s1 _ _ hy)) (no _ (by symm) (by symm)) ((vO T).mono) ?_);refine iE4 (.ref yw) bs rs p (iA4 rfl hv3 (by lia) (λq H4 s4 nq hq=>?_));have ln:=xA .source rs rs.length;have so4:=so3.same s4;have hv4:Rep H4 p (.ref yw) (qG a bs rs):=hv3.keep λb o hb ho=>⟨hb,s4 _ _ ho⟩;refine⟨q,rfl,.inl ⟨⟨_,SqL.of hq⟩,λ_ _ _ _ ac2 hac2=>?_⟩⟩;let pB:Nat->St->Hp->Prop:=λi σ H'=>∃(v0:Aq),σ=[v0,some (.ref yw),some (.ref y)]/\Same H4 H'/\H' ac2=some (.lst ((((zY .source rs).take i).map λj=>some (xa rs st j)).map oiV));refine qM (K:=K) (a:=q) (xs:=iv (zY .source rs)) pB ⟨_,iA3 rfl (zf hac2) pD⟩ (λi σ H' _ h=>by let⟨_,_,s,_⟩:=h;exact SqL.of (s _ _ hq)) ?_ ?_
 .intro i x σ H5 hi p9;refine oE1 p9 λv0 p6=>oA3 p6 λp8 s5 ha=>?_;ext;let⟨m,hm,rfl⟩:=Zw hi;have hil:=(aa.mp hm).1;refine oE2 (zgu (ah hm)) λjj r p6=>oA3 p6 λp8 hr' hs=>?_;clear p6;subst p8;have ln:(zY .source rs).length<=rs.length:=ln;exists uc (zao T).mono (iE5 (.ref yw) y n jj bs (iE4 rs st r p (iA8 rfl (hv4.keep (λb o hb ho=>⟨hb,s5 _ _ ho⟩)) (so4.same s5) hr' hs (ro r (ah hr')) wf ?_)));refine⟨_,iA3 ha (zn (by rw[ai,ai,aQ];lia)) ⟨_,iA3 rfl (λb o hb=>by rw[pE (pF hb hac2)];exact s5 b o hb) ?_⟩⟩;rw[pD,aI,hm];simp[oiV]
 intro σ H5 p9;refine oE1 p9 λv0 p6=>oA3 p6 λp8 s5 ha=>?_;ext;rw[zL,aN]at ha;refine iE2 ac2 _ ⟨rfl,.inl ⟨SqL.of ha,λt2 ht2=>?_⟩⟩;have s6:=zf (o:=.tup (((zY .source rs).map λj=>some (xa rs st j)).map oiV)) ht2;have hT2:upd H5 t2 (.tup (((zY .source rs).map λj=>some (xa rs st j)).map oiV)) t2=some (.tup (((zY .source rs).map λj=>some (xa rs st j)).map oiV)):=pD;have s36:=(s4.trans s5).trans s6;generalize upd H5 t2 (.tup (((zY .source rs).map λj=>some (xa rs st j)).map oiV))=H6 at s36 hT2 ⊢;have so6:=so3.same s36;exists ra so6.hy T.ad T.iQ rfl (iE2 n.ls _ ⟨rfl,.inl ⟨SqL.of so6.hs,λt3 ht3=>?_⟩⟩);intro t4 ht4;have s7:=zf (o:=.tup (iv st.sides)) ht3;have hT3:upd H6 t3 (.tup (iv st.sides)) t3=some (.tup ((st.sides.map some).map oiV)):=by rw[pD,e6];rfl
 generalize upd H6 t3 (.tup (iv st.sides))=H7 at s7 hT3 ht4 ⊢;have s8:=zf (o:=.tup [.int (st.turn%Zb bs rs),.ref t1,.ref t3,.ref t2]) ht4;have hT4:upd H7 t4 (.tup [.int (st.turn%Zb bs rs),.ref t1,.ref t3,.ref t2]) t4=some (.tup [.int (st.turn%Zb bs rs),.ref t1,.ref t3,.ref t2]):=pD;generalize upd H7 t4 (.tup [.int (st.turn%Zb bs rs),.ref t1,.ref t3,.ref t2])=H8 at s8 hT4 ⊢;refine k t4 H8 ((s1.trans s13).trans (s36.trans (s7.trans s8))) ?_;exact Reps.mkT (vs:=[.int (st.turn%Zb bs rs),.ref t1,.ref t3,.ref t2]) (.cons .int (.cons (JN r1 (s36.trans (s7.trans s8))) (.cons (JN (zcE hT3) s8) (.cons (JN (zcE hT2) (s7.trans s8)) .nil)))) ⟨_,hT4⟩ hT4
noncomputable abbrev qP(bs:A1)(rs:At)(i:Nat):ShK:=JW bs rs (zj bs rs i)
structure RoundAt(bs:A1)(rs:At)(lim i j:Nat):Prop where
 lt:i<j
 le:j<=lim
 eq:qP bs rs i=qP bs rs j
 fst:∀x y,x<y->y<j->qP bs rs x≠qP bs rs y
def Qt(bs:A1)(rs:At)(lim:Nat):Prop:=∀x y,x<y->y<=lim->qP bs rs x≠qP bs rs y
def RoundAt.one{rs:At}{lim lim' i j i' j':Nat}(h:RoundAt bs rs lim i j)(h':RoundAt bs rs lim' i' j'):i=i'/\j=j':=by
 have ej:j=j':=by
  rcases ff j j' with z|z|z
  .exact absurd h.eq (h'.fst i j h.lt z)
  .exact z
  .exact absurd h'.eq (h.fst i' j' h'.lt z)
 subst ej;refine⟨?_,rfl⟩;rcases ff i i' with z|z|z
 .exact absurd (h.eq.trans h'.eq.symm) (h.fst i i' z h'.lt)
 .exact z
 .exact absurd (h'.eq.trans h.eq.symm) (h.fst i' i z h.lt)
def RoundAt.no{rs:At}{lim i j:Nat}(h:RoundAt bs rs lim i j):¬Qt bs rs lim:=λz=>z i j h.lt h.le h.eq
def Nxt(H H':Hp):Prop:=∀b u,H b=some u->(∀φ,u≠.ext φ)->H' b=some u
def Same.nxt{H H':Hp}(s:Same H H'):Nxt H H':=λb u hb _=>s b u hb
def Nxt.trans{H H' H2:Hp}(a:Nxt H H')(b:Nxt H' H2):Nxt H H2:=λc u hc n=>b c u (a c u hc n) n
def zh5{D:Addr}{φ:Heap->Prop}(h:H D=some (.ext φ)):Nxt H (upd H D o):=λb u hb n=>by
 rw[pE (λz=>by rw[z,h]at hb;cases hb;exact n φ rfl)];exact hb
def zgx{H H':Hp}{G:Addr}{as:Ab}{xss:List (List D)}(h:NL H (z6 H) G as xss)(s:Nxt H H'):NL H' (z6 H') G as xss:=by
 refine h.tup λb o c hb=>s b o hb λφ z=>?_;subst z;rcases c with c|c|⟨xs,c⟩
 .rw[c,h.out]at hb;cases hb
 .obtain⟨vs,hv⟩:=h.isl (ay _ c);rw[hv]at hb;cases hb
 .rw[c]at hb;cases hb
def StO.nxt{H H':Hp}{y:Addr}{n:SN}{st:PSt}(h:StO a H y n st)(s:Nxt H H'):StO a H' y n st:=⟨s _ _ h.hy (λφ z=>by cases z),zgx h.hc s,s _ _ h.hs (λφ z=>by cases z),zgx h.hg s,h.nd⟩
def zht{H H':Hp}{d:D}(r:Rep H (z6 H) v d)(s:Nxt H H'):Rep H' (z6 H') v d:=r.keep λb o ⟨xs,hx⟩ hb=>by
 have e:=s b _ hx (λφ z=>by cases z);rw[hx]at hb;cases hb;exact⟨⟨xs,e⟩,e⟩
structure SD(a:Ad)(H:Hp)(bs:A1)(rs:At)(xs:List (ShK×Addr×Addr))(t:Nat):Prop where
 len:xs.length=t
 at':∀(i:Nat) x,xs[i]?=some x->x.1=qP bs rs i/\Rep H (z6 H) (.ref x.2.1) (shD x.1)/\∃n,StO a H x.2.2 n (zj bs rs i)
 fst:∀x y,x<y->y<t->qP bs rs x≠qP bs rs y
def SD.nxt{H H':Hp}{rs:At}{xs:List (ShK×Addr×Addr)}{t:Nat}(h:SD a H bs rs xs t)(s:Nxt H H'):SD a H' bs rs xs t:=⟨h.len,λi x e=>by
 let⟨e1,r,n,so⟩:=h.at' i x e;exact⟨e1,zht r s,n,so.nxt s⟩,h.fst⟩
def SD.keys{rs:At}{xs:List (ShK×Addr×Addr)}{t:Nat}(h:SD a H bs rs xs t):keysOk H xs:=λx hx=>by
 let⟨i,hi⟩:=aV hx;exact⟨_,(h.at' i x hi).2.1⟩
def SD.look{rs:At}{xs:List (ShK×Addr×Addr)}{t:Nat}{k:ShK}{y:Addr}(h:SD a H bs rs xs t)(e:xO xs k=some y):∃i n,i<t/\qP bs rs i=k/\StO a H y n (zj bs rs i):=by
 unfold xO at e;let⟨x,hx,rfl⟩:=aq.mp e;have hk:x.1=k:=by
  have:=find?_some hx;simpa using this
 let⟨i,hi⟩:=aV (List.mem_of_find?_eq_some hx);let⟨e1,_,n,so⟩:=h.at' i x hi;exact⟨i,n,by rw[<- h.len];exact(aa.mp hi).1,e1.symm.trans hk,so⟩
def SD.new{rs:At}{xs:List (ShK×Addr×Addr)}{t:Nat}{k:ShK}(h:SD a H bs rs xs t)(e:xO xs k=none):∀i,i<t->qP bs rs i≠k:=λi hi z=>by
 let⟨x,hx⟩:∃x,xs[i]?=some x:=⟨_,ac (by rw[h.len];exact hi)⟩;unfold xO at e;rw[Option.map_eq_none_iff,iG]at e;exact e x (ah hx) (bc ((h.at' i x hx).1.trans z))
def SD.add{rs:At}{xs:List (ShK×Addr×Addr)}{t:Nat}{b y:Addr}{n:SN}(h:SD a H bs rs xs t)(e:xO xs (qP bs rs t)=none)(r:Rep H (z6 H) (.ref b) (shD (qP bs rs t)))(so:StO a H y n (zj bs rs t)):SD a H bs rs (xs++[(qP bs rs t,b,y)]) (t+1):=by
 refine⟨by simp[h.len],λi x hx=>?_,λu v huv hv=>?_⟩
 .by_cases hi:i<xs.length
  .rw[aY hi]at hx;exact h.at' i x hx
  .rw[aS (by lia)]at hx;have hz:=(aa.mp hx).1;have:i=t:=by simp at hz;have:=h.len;lia
   subst this;rw[h.len,gD]at hx;cases hx;exact⟨rfl,r,n,so⟩
 .rcases Nat.lt_or_ge v t with z|z
  .exact h.fst u v huv z
  .have:v=t:=by lia
   subst this;exact h.new e u huv
def zaJ(a:Ad):Sp:=λvs H Q E=>∃(vw:V)(lim:Nat)(bs:A1)(rs:At),vs=[vw,.int lim]/\Rep H (Off []) vw (qG a bs rs)/\zN bs rs/\(∀b∈bs,zE b.1 b.2)/\(∀r∈rs,r.ok)/\lim<=1000 /\
 (∀i j t y0 y1 n0 n1 H',RoundAt bs rs lim i j->Same H H'->H' t=some (.tup [.ref y0,.ref y1])->StO a H' y0 n0 (zj bs rs i)->StO a H' y1 n1 (zj bs rs j)->Q (.ref t) H') /\
 (Qt bs rs lim->∀H',Same H H'->E (.ref a.h) none H')
theorem zam(T:Txt K mg a):Cal P w K mg base "round_ends" 8 ["work","limit"] [] (zaJ a):=T.mM.cal λF=>by
 refine F.okx X2 ?_ ?_
 .walk_at"i"
 walk_at"j";refine oE4 h λvw lim bs rs p6=>oA8 p6 λp8 hv pj bo ro l1000 kQ kE=>?_;clear p6 h;subst p8;have b24:=pj.1.1.2;have r24:=pj.1.2.2;walk_at"T";refine⟨_,(zh (zu 2 X2.nd ‹(pq 0) zb›)  (zh (zu 3 X2.nd zhT)  (qF (qy qQ rfl (xb (za (zK qk (pq 1) ze) zb)) (qu 4 X2.nd)  (zh (zu 5 X2.nd ‹(pq 0) (za (pq 2) zb)›)  (zh (zF (zga (zjr hr.units1 (pq 5) (pq 3)) (by with_unfolding_all rfl))  (zd (zl (jq (za (zhU hr.units1 (pq 3) (pq 5) (λ_ _=>rfl)) (za (pq 2) zb)))))  zp)  (zh (zhQ hr.units1 (pq 3) (pq 5) (pq 2) rfl)  (zd (zu 2 X2.nd ‹(pq 0) (za (pq 2) zb)›))))))  (zd (je ⟨rfl,rfl,rfl⟩ rfl (za zS zb)))))),?_⟩;exists uc (ZA T).mono (iE4 vw bs rs _ (iA7 rfl hv b24 r24 bo ro (λv' H1 s1 sn=>?_)));refine oE2 sn λy nn p6=>oA5 p6 λp8 so _ _ _=>?_;clear p6 sn;subst p8;left;intro D hD;have sD:=zf (o:=sdO P w D []) hD;have nD:H D=none:=zw s1 hD;have s2:=s1.trans sD;have so2:=so.same sD;have hD2:upd H1 D (sdO P w D []) D=some (sdO P w D []):=pD;generalize upd H1 D (sdO P w D [])=H2 at s2 so2 hD2 ⊢;clear so s1 sD hD;left;let px:St->Hp->Prop:=λσ' H'=>∃(v2 v4 v5:Aq),σ'=[some vw,some (.int lim),v2,some (.ref D),v4,v5]/\Same H H'/\Qt bs rs lim;refine cut px ?_ ?_
 .walk_at"c";exists⟨by lia,by lia,?_⟩;refine va (n:=((lim:Int)+1).toNat) (λt σ H'=>∃(v4 v5:Aq)(y:Addr)(n:SN)(xs:List (ShK×Addr×Addr)),σ=[some vw,some (.int lim),some (.ref y),some (.ref D),v4,v5]/\Same H H'/\H' D=some (sdO P w D xs)/\StO a H' y n (zj bs rs t)/\SD a H' bs rs xs t) (iE5 _ _ y nn ([]) (iA5 rfl s2 hD2 so2 ⟨rfl,λi x e=>by simp at e,λx y _ z=>absurd z (Nat.not_lt_zero _)⟩)) ?_ ?_
  .clear so2 hD2 s2;intro t σ H3 ht p9;refine oE5 p9 λv4 v5 y n xs p6=>oA5 p6 λp8 s3 hD3 so3 sd3=>?_;ext;have ht':t<=lim:=by lia
   have lx:=sd3.len;exists uc (zdf T).mono (iE7 vw y n bs rs (zj bs rs t) _ (iA9 rfl (hv.same s3) so3 (qa pj bo ro t) b24 r24 bo ro (λb H4 s4 r4=>?_)));have hD4:=s4 _ _ hD3;have so4:=so3.same s4;have sd4:=sd3.nxt (Same.nxt s4);have s04:=s3.trans s4;clear hD3 so3 sd3 s3 s4;exists iE5 D b xs _ _ (iA6 rfl rfl hD4 sd4.keys r4 ?_);cases el:xO xs (qP bs rs t)with
   |some y0 =>
    refine oE2 (sd4.look el) λi n0 p6=>oA3 p6 λhi ei so0=>?_;clear p6;exists iE6 D b xs _ _ y0 (iA7 rfl rfl hD4 sd4.keys r4 el (λq hq=>?_));have sq:=zf (o:=.tup [.ref y0,.ref y]) hq;exact kQ i t q y0 y n0 n _ ⟨hi,ht',ei,sd4.fst⟩ (s04.trans sq) pD (so0.same sq) (so4.same sq)
   |none =>
    exists iE6 D b xs _ _ y (iA9 rfl rfl rfl hD4 sd4.keys r4 el (zn (by lia)) ?_);have nx:Nxt H4 (upd H4 D (sdO P w D (xs++[(qP bs rs t,b,y)]))):=zh5 hD4;have so5:=so4.nxt nx;have sd5:=(sd4.add el r4 so4).nxt nx;have hD5:upd H4 D (sdO P w D (xs++[(qP bs rs t,b,y)])) D=some (sdO P w D (xs++[(qP bs rs t,b,y)])):=pD;have s5:Same H (upd H4 D (sdO P w D (xs++[(qP bs rs t,b,y)]))):=λc u hc=>by rw[pE (pF hc nD)];exact s04 c u hc
    generalize upd H4 D (sdO P w D (xs++[(qP bs rs t,b,y)]))=H5 at so5 sd5 hD5 s5 ⊢;exists uc (zdg T).mono (iE6 vw (.ref y) (zj bs rs t) bs rs _ (iA8 rfl (hv.same s5) so5.rep (qa pj bo ro t) pj bo ro (λv' H6 s6 sn=>?_)));refine oE2 sn λy2 n2 p6=>oA3 p6 λp8 so6 _=>?_;clear p6 sn;subst p8;exact iE5 _ _ y2 n2 _ (iA5 rfl (s5.trans s6) (s6 _ _ hD5) so6 (sd5.nxt (Same.nxt s6)))
  .intro σ H3 p9;refine oE5 p9 λv4 v5 y n xs p6=>oA5 p6 λp8 s3 hD3 so3 sd3=>?_;ext;exact iE3 _ _ _ (iA3 rfl s3 (λx y hxy hy=>sd3.fst x y hxy (by lia)))
 intro σ' H3 p9;refine oE3 p9 λv2 v4 v5 p6=>oA3 p6 λp8 s3 nr=>?_;ext;left;exact⟨a.h,iA3 T.mn T.om (kE nr H3 s3)⟩
noncomputable def w9(old new:A6):List Int:=(List.range old.length).map λp=>new.getD p 0-old.getD p 0
noncomputable def xg(gs0 gs1:List A6):List A6:=List.zipWith w9 gs0 gs1
def ze9{gs0 gs1:List A6}{g0 g1:A6}(h0:gs0[i]?=some g0)(h1:gs1[i]?=some g1):xg (gs0.take (i+1)) (gs1.take (i+1))=xg (gs0.take i) (gs1.take i)++[w9 g0 g1]:=by
 unfold xg;rw[aI,aI,h0,h1];have l0:=(aa.mp h0).1;have l1:=(aa.mp h1).1;rw[List.zipWith_append (by rw[aQ,aQ];lia)]
 rfl
def zfQ(a:Ad):Sp:=λvs H Q _=>∃(y0 y1:Addr)(n0 n1:SN)(s0 s1:PSt),vs=[.ref y0,.ref y1]/\StO a H y0 n0 s0/\StO a H y1 n1 s1/\s0.gone.length=s1.gone.length/\s0.gone.length<=24/\(∀(i:Nat) g0 g1,s0.gone[i]?=some g0->s1.gone[i]?=some g1->g0.length=g1.length/\g0.length<=4) /\
 ∀l as H',Same H H'->NL H' (z6 H') l as (qw (xg s0.gone s1.gone))->(∀b∈l::as,H b=none)->Q (.ref l) H'
def zb3(T:Txt K mg a):Cal P w K mg base "growth_of" 1 ["before","after"] [] (zfQ a):=T.m8.cal λF=>by
 refine F.okx VM ?_ ?_
 .walk_at"i"
 walk_at"j";refine oE6 h λy0 y1 n0 n1 s0 s1 p6=>oA7 p6 λp8 so0 so1 le l24 lg k=>?_;clear p6 h;subst p8;have la0:n0.ags.length=s0.gone.length:=by rw[so0.hg.len,qw,ai]
 have la1:n1.ags.length=s0.gone.length:=by rw[so1.hg.len,qw,ai,le]
 walk_at"T";refine⟨_,(zi (zu 2 VM.nd (zO zb))  (zi (qy qQ rfl (zgf (za (zk (pq 0) rfl) (za (zk (pq 1) rfl) zb))) (wH (n:=2) rfl (qt (Zf (i:=3) VM.nd rfl (Or.inr rfl)) (qt (Zf (i:=4) VM.nd rfl (Or.inr rfl)) xj)))  (zd (zH (qA ar aA az zV (pq 2) (za (jF (vars:=["place"]) (caps:=[4,3]) (N:=["place","new","old"]) (ON:=["before","after","growth","old","new"]) (osc:=zg vx) rfl rfl (by right) rfl rfl (xb (za (zM zR zP (za (pq 3) zb)) zb)) (λ_ _ _ _=>(qu 0 (show(["place","new","old"]:A8).Nodup from by symm))) (λ_ _ _ _=>qm) (λ_ _ _ _=>(zK x8 (zo (pq 1) (pq 0)) (zo (pq 2) (pq 0))))) zb)))))  (zd (zl (pq 2))))),?_⟩;left;intro l hl;have sl:=zf (o:=.lst []) hl;have nl0:NL (upd H l (.lst [])) (z6 (upd H l (.lst []))) l [] (qw (xg (s0.gone.take 0) (s1.gone.take 0))):=zcN pD;generalize upd H l (.lst [])=H1 at sl nl0 ⊢;have so10:=so0.same sl;have so11:=so1.same sl;walk_at"c";exists ra so10.hy T.ad T.iJ rfl (ra so11.hy T.ad T.iJ rfl (iE6 true true n0.lg n1.lg _ _ (iA4 rfl (SqL.of so10.hg.out) (SqL.of so11.hg.out) ?_)));let px:Nat->St->Hp->Prop:=λi σ H'=>∃(v3 v4:Aq)(as:Ab),σ=[some (.ref y0),some (.ref y1),some (.ref l),v3,v4]/\Same H H'/\NL H' (z6 H') l as (qw (xg (s0.gone.take i) (s1.gone.take i)))/\∀b∈as,H b=none;refine ziW (K:=K) (xs:=n0.ags.map V.ref) (ys:=n1.ags.map V.ref) px (iE3 _ _ ([]) (iA4 rfl sl nl0 (by simp))) (λi σ H' _ h=>by let⟨_,_,_,_,s,_⟩:=h;exact⟨SqL.of (s _ _ so0.hg.out),SqL.of (s _ _ so1.hg.out)⟩) ?_ ?_
 .intro i x z t σ H2 hi hj ht p9;refine oE3 p9 λv3 v4 as p6=>oA4 p6 λp8 s2 nl2 fa=>?_;ext;rw[am,aq]at hi hj;let⟨b0,hb0,rfl⟩:=hi;let⟨b1,hb1,rfl⟩:=hj;have hil:i<s0.gone.length:=by rw[<- la0];exact(aa.mp hb0).1
  let⟨g0,e0⟩:∃g,s0.gone[i]?=some g:=⟨_,ac hil⟩;let⟨g1,e1⟩:∃g,s1.gone[i]?=some g:=⟨_,ac (by rw[<- le];exact hil)⟩;let⟨lg1,lg4⟩:=lg i g0 g1 e0 e1;let⟨c0,q0,h0⟩:=xf so0.hg e0;let⟨c1,q1,h1⟩:=xf so1.hg e1;rw[hb0]at q0;cases q0;rw[hb1]at q1;cases q1;have st:=zf (o:=.tup [.ref b0,.ref b1]) ht;have s3:=s2.trans st;have nl3:=nl2.tup (H':=upd H2 t (.tup [.ref b0,.ref b1])) λb o _ hb=>st b o hb;refine un2 pD ?_;generalize upd H2 t (.tup [.ref b0,.ref b1])=H3 at s3 nl3 ⊢;have las:as.length<=24:=by rw[nl3.len,qw,ai,xg,iw,aQ,aQ];lia
  exists⟨.inl ⟨rfl,_,SqL.of nl3.out⟩,?_⟩;walk_at"d";exists⟨_,.inl ⟨_,SqL.of (s3 _ _ h0),rfl⟩,?_⟩;rw[zL];exists⟨by lia,by lia,λ_ _ _ _ pv hacc=>?_⟩;let pB:Nat->St->Hp->Prop:=λj σ H'=>∃(v0:Aq),σ=[v0,some (.ref b1),some (.ref b0)]/\Same H3 H'/\H' pv=some (.lst (iv ((List.range j).map λp=>g1.getD p 0-g0.getD p 0)));refine va (n:=((g0.length:Int)).toNat) pB ⟨_,iA3 rfl (zf hacc) pD⟩ ?_ ?_
  .intro j σ H4 hj p9;refine oE1 p9 λv0 p6=>oA3 p6 λp8 s4 ha=>?_;ext;have hjl:j<g0.length:=by lia
   left;simp only[ck];refine zq (SqL.of (s4 _ _ (s3 _ _ h1))) (zt (qV (ql (d:=0) (by lia:j<g1.length)))) (zq (SqL.of (s4 _ _ (s3 _ _ h0))) (zt (qV (ql (d:=0) hjl))) ?_);exists⟨_,iA3 ha (zn (by rw[zL,ai,eJ];lia)) ⟨_,iA3 rfl (λb o hb=>by rw[pE (pF hb hacc)];exact s4 b o hb) ?_⟩⟩;rw[pD,jo,fA,ba]
   rfl
  intro σ H4 p9;refine oE1 p9 λv0 p6=>oA3 p6 λp8 s4 ha=>?_;ext;rw[show((g0.length:Int)).toNat=g0.length by lia]at ha;have nl4:=nl3.tup (H':=H4) λb o _ hb=>s4 b o hb;have nb:pv∉as:=λz=>by
   let⟨vs,h⟩:=nl3.isl (ay _ z);rw[hacc]at h;cases h
  have nG:pv≠l:=λz=>by rw[z,nl3.out]at hacc;cases hacc
  have ntG:¬z6 H4 l:=λ⟨xs,hx⟩=>by rw[nl4.out]at hx;cases hx
  refine iE3 l _ _ (iA5 rfl rfl nl4.out (zn (by rw[ai];lia)) ?_);have np:=nl4.push (b:=pv) (vs:=iv (w9 g0 g1)) (ys:=(w9 g0 g1).map D.int) ha nb nG ntG reps_ints;refine iE3 _ _ (as++[pv]) (iA4 rfl (λb o hb=>by rw[pE (pF hb hl)];exact s4 _ _ (s3 _ _ hb)) ?_ (λb hb=>?_))
  .rw[ze9 e0 e1,show qw (xg (s0.gone.take i) (s1.gone.take i)++[w9 g0 g1])=qw (xg (s0.gone.take i) (s1.gone.take i))++[(w9 g0 g1).map D.int] by simp[qw]];refine np.keep (λ_ _ _ hc=>hc) λc hc _=>?_;let⟨xs,hx⟩:=hc;exact⟨xs,by rw[pE (λz=>by rw[z,nl4.out]at hx;cases hx)];exact hx⟩
  .rcases aG.mp hb with hb|hb
   .exact fa b hb
   .rw[aD.mp hb];exact zw s3 hacc
 .intro σ H2 p9;refine oE3 p9 λv3 v4 as p6=>oA4 p6 λp8 s2 nl2 fa=>?_;ext;rw[ai,ai,la0,la1,gF,aN,show List.take s0.gone.length s1.gone=s1.gone by rw[le];exact aN]at nl2;exists k l as _ s2 nl2 λb hb=>?_;rcases av.mp hb with rfl|hb
  .exact hl
  .exact fa b hb
def zaF{st:PSt}{fb:A9}:(zQ st k fb).2.turn=st.turn/\(zQ st k fb).2.sides=st.sides/\(zQ st k fb).2.gone=st.gone:=by
 cases fb<;>exact⟨rfl,rfl,rfl⟩
def zbg{st:PSt}{x:zy}{tb:A9}:(x6 st x tb).turn=st.turn/\(x6 st x tb).sides=st.sides/\(x6 st x tb).gone=st.gone:=by
 cases tb<;>exact⟨rfl,rfl,rfl⟩
def movedF_keep{r:Row}{st:PSt}{ch:Ak}:(movedF r st k ch).turn=st.turn/\(movedF r st k ch).sides=st.sides/\(movedF r st k ch).gone=st.gone:=by
 let⟨a1,a2,a3⟩:=zaF (st:=st) (k:=k) (fb:=qj r ch);let⟨b1,b2,b3⟩:=zbg (st:=(zQ st k (qj r ch)).2) (x:=(zQ st k (qj r ch)).1) (tb:=jJ r ch);exact⟨b1.trans a1,b2.trans a2,b3.trans a3⟩
def jH{α:Type}{xs:List α}{k j:Nat}{x d:α}(h:k≠j):(xs.set k x).getD j d=xs.getD j d:=by
 rw[ae,ae,bh h]
def zfu(rs:At)(st:PSt)(k:Nat):(qv rs st k).1.turn=st.turn/\∀j,k<j->(qv rs st k).1.sides.getD j 0=st.sides.getD j 0/\(qv rs st k).1.gone.getD j []=st.gone.getD j []:=by
 unfold qv;cases rs[k]? with
 |none=>exact⟨rfl,λ_ _=>⟨rfl,rfl⟩⟩
 |some r =>
  simp only;cases qf r (qo rs st.cells r) (qS st.cells r) st.turn (st.sides.getD k 0).toNat with
  |none=>exact⟨rfl,λ_ _=>⟨rfl,rfl⟩⟩
  |some ch =>
   let⟨c1,c2,c3⟩:=movedF_keep (r:=r) (st:=st) (k:=k) (ch:=ch);refine⟨c1,λj hj=>⟨?_,?_⟩⟩
   .show((movedF r st k ch).sides.set k _).getD j 0=_
    rw[jH (by lia),c2]
   .show((movedF r st k ch).gone.set k _).getD j []=_
    rw[jH (by lia),c3]
theorem Jf(rs:At)(st:PSt):∀i,(zB rs st i).1.turn=st.turn/\∀j,i<=j->(zB rs st i).1.sides.getD j 0=st.sides.getD j 0/\(zB rs st i).1.gone.getD j []=st.gone.getD j []
 |0=>⟨rfl,λ_ _=>⟨rfl,rfl⟩⟩
 |i+1=>by
  let⟨h1,h2⟩:=Jf rs st i;let⟨g1,g2⟩:=zfu rs (zB rs st i).1 i;refine⟨g1.trans h1,λj hj=>?_⟩;let⟨a1,a2⟩:=h2 j (by lia);let⟨b1,b2⟩:=g2 j (by lia);exact⟨b1.trans a1,b2.trans a2⟩
theorem jE(bs:A1)(rs:At):∀n,(zj bs rs n).turn=n
 |0=>rfl
 |n+1=>by
  show(zB rs (zj bs rs n) rs.length).1.turn+1=_
  rw[(Jf rs (zj bs rs n) rs.length).1,jE bs rs n]
  rfl
def zis(g:A6)(j p:Nat):g.getD p 0<=(wz g j).getD p 0:=by
 unfold wz;by_cases e:j=p
 .subst e;by_cases h:j<g.length
  .rw[ae (l:=g.set _ _),a7 h];show _<=g.getD j 0+1
   lia
  .rw[cY (by lia)];exact b9 _
 .rw[jH e];exact b9 _
def XU(rs:At)(st:PSt)(k i p:Nat):(st.gone.getD i []).getD p 0<=((qv rs st k).1.gone.getD i []).getD p 0:=by
 unfold qv;cases rs[k]? with
 |none=>exact b9 _
 |some r =>
  simp only;cases qf r (qo rs st.cells r) (qS st.cells r) st.turn (st.sides.getD k 0).toNat with
  |none=>exact b9 _
  |some ch =>
   let⟨c1,c2,c3⟩:=movedF_keep (r:=r) (st:=st) (k:=k) (ch:=ch);show _<=(((movedF r st k ch).gone.set k _).getD i []).getD p 0
   rw[c3];by_cases e:k=i
   .subst e;by_cases h:k<st.gone.length
    .rw[ae (l:=st.gone.set _ _),a7 h];exact zis _ _ _
    .rw[cY (by lia)];exact b9 _
   .rw[jH e];exact b9 _
theorem Vs(rs:At)(st:PSt)(i p:Nat):∀m,(st.gone.getD i []).getD p 0<=((zB rs st m).1.gone.getD i []).getD p 0
 |0=>b9 _
 |m+1=>fj (Vs rs st i p m) (XU rs _ m i p)
theorem QG(bs:A1)(rs:At)(n i p:Nat):∀m,((zj bs rs n).gone.getD i []).getD p 0<=((zj bs rs (n+m)).gone.getD i []).getD p 0
 |0=>b9 _
 |m+1=>fj (QG bs rs n i p m) (Vs rs (zj bs rs (n+m)) i p rs.length)
def zfa{rs:At}{s0 s1:PSt}(ro:∀r∈rs,r.ok)(w0:stWf bs rs s0)(w1:stWf bs rs s1):s0.gone.length=s1.gone.length/\∀(i:Nat) g0 g1,s0.gone[i]?=some g0->s1.gone[i]?=some g1->g0.length=g1.length/\g0.length<=4:=by
 refine⟨by rw[w0.go.1,w1.go.1],λi g0 g1 e0 e1=>?_⟩;have hi:=(aa.mp e0).1;let⟨r,hr⟩:∃r,rs[i]?=some r:=⟨_,ac (by rw[<- w0.go.1];exact hi)⟩;have q0:=(w0.go.2 i r g0 hr e0).1;have q1:=(w1.go.2 i r g1 hr e1).1;have rl:=j5 (ro r (ah hr));refine⟨by lia,?_⟩;rw[q0];have:=bg (n:=max r.ins.length r.outs.length) (a:=(0:Int));show(qH r).length<=4
 unfold qH;rw[bg]
 lia
section
variable{bs:A1}{rs:At}
def zb5(bo:∀b∈bs,zE b.1 b.2)(ro:∀r∈rs,r.ok)(h:xS bs rs n):0<n/\n<=4:=by
 rcases h with⟨b,hb,rfl⟩|⟨r,hr,hw,rfl,hp⟩
 .have h:=bo b hb;exact⟨by have:=h.2.2.1;lia,h.2.2.2⟩
 .exact⟨hp,(za4 (ro r hr) hw).2⟩
def zix(bo:∀b∈bs,zE b.1 b.2)(ro:∀r∈rs,r.ok):∃L,QR bs rs L:=by
 have hm:∀n,n∈(bs.map (·.2)++(rs.filter λr=>decide ((r.wd=.source\/r.wd=.drain)/\0<r.pace)).map Row.pace)↔xS bs rs n:=λn=>by
  simp only[aG,aJ,cu,bR,xS];constructor
  .rintro(⟨b,hb,e⟩|⟨r,⟨hr,hw,hp⟩,e⟩)
   .exact .inl ⟨b,hb,e⟩
   .exact .inr ⟨r,hr,hw,e,by rw[<- e];exact hp⟩
  .rintro(⟨b,hb,e⟩|⟨r,hr,hw,e,hp⟩)
   .exact .inl ⟨b,hb,e⟩
   .exact .inr ⟨r,⟨hr,hw,by rw[e];exact hp⟩,e⟩
 let⟨L,hL⟩:=IsLcm.ex (ns:=bs.map (·.2)++(rs.filter λr=>decide ((r.wd=.source\/r.wd=.drain)/\0<r.pace)).map Row.pace) λn hn=>by
  have b4:=zb5 bo ro ((hm n).mp hn)
  lia
 exact⟨L,_,hL,hm⟩
def ziy(bo:∀b∈bs,zE b.1 b.2)(ro:∀r∈rs,r.ok)(h:xS bs rs n):n∣Zb bs rs:=by
 let⟨L,hL⟩:=zix bo ro;rw[<- zb6 hL];let⟨ns,il,im⟩:=hL;exact il.dv n ((im n).mpr h)
end
structure Alk(bs:A1)(rs:At)(s s':PSt):Prop where
 ce:s.cells.map (zD rs)=s'.cells.map (zD rs)
 si:s.sides=s'.sides
 so:∀(j:Nat) r,rs[j]?=some r->r.wd=.source->(s.gone.getD j []).headD 0%(r.kinds.length:Int)=(s'.gone.getD j []).headD 0%(r.kinds.length:Int)
 tu:∀n,xS bs rs n->s.turn%n=s'.turn%n
noncomputable def gAt(gs:List A6)(i j:Nat):Int:=(gs.getD i []).getD j 0
section
variable{bs:A1}{rs:At}
theorem Qh:∀{xs ys:A6},xs.map some=ys.map some->xs=ys
 |[],[],_=>rfl
 |[],_::_,h=>by cases h
 |_::_,[],h=>by cases h
 |x::xs,y::ys,h=>by
  simp only[bF,fF,cA]at h;rw[h.1,Qh h.2]
def zka{s s':PSt}(bo:∀b∈bs,zE b.1 b.2)(ro:∀r∈rs,r.ok)(h:JW bs rs s=JW bs rs s'):Alk bs rs s s':=by
 unfold JW at h;let⟨h1,h2,h3,h4⟩:some (s.turn%Zb bs rs)=some (s'.turn%Zb bs rs)/\s.cells.map (zD rs)=s'.cells.map (zD rs)/\s.sides.map some=s'.sides.map some/\(zY .source rs).map (λj=>some (xa rs s j))=(zY .source rs).map (λj=>some (xa rs s' j)):=by
  simpa only[Prod.mk.injEq]using h
 refine⟨h2,Qh h3,λj r hr hs=>?_,λn hn=>?_⟩
 .have hm:=Xm hr hs;have:=List.map_inj_left.mp h4 _ hm;simp only[cA]at this;unfold xa at this;rw[ax,hr]at this;exact this
 .have d:=ziy bo ro hn;have h1:=aF h1;rw[<- ic s.turn d,h1,ic s'.turn d]
def Jd{cs cs':Au}(h:cs.map (zD rs)=cs'.map (zD rs))(b:Nat):zD rs (cs.getD b [])=zD rs (cs'.getD b []):=by
 have:=bn (λl=>l.getD b (zD rs [])) h;simpa only[ae,am,Option.getD_map]using this
def JE(c:Av):jP rs (xC c)=(zD rs c).getLastD none:=by
 unfold xC zD;rw[bH,bH,List.getLast?_map];cases c.getLast? <;> rfl
def zdP(c:Av):jP rs (Wo c)=(zD rs c).headD none:=by cases c<;>rfl
def Va(c:Av)(p:Nat):jP rs (c.getD p none)=(zD rs c).getD p none:=by
 unfold zD;rw[ae,ae,am];cases c[p]? <;> rfl
def Zi(x:zy):jP rs x=none↔x=none:=by cases x<;>simp[jP]
def vT(c:Av)(i:Nat)(x:zy):zD rs (c.set i x)=(zD rs c).set i (jP rs x):=by
 unfold zD;rw[eI]
 rfl
def V8{c c':Av}(h:zD rs c=zD rs c'):c.length=c'.length:=by
 have:=bn List.length h;simpa[zD]using this
def zdj{cs cs':Au}(h:cs.map (zD rs)=cs'.map (zD rs))(i:Nat){c c':Av}(hc:zD rs c=zD rs c'):(cs.set i c).map (zD rs)=(cs'.set i c').map (zD rs):=by
 rw[eI,eI,h,hc]
def zbP{cs cs':Au}(h:cs.map (zD rs)=cs'.map (zD rs))(r:Row):qo rs cs r=qo rs cs' r:=by
 unfold qo zJ;refine iu λb _=>?_;rw[JE,JE,Jd h]
def zdU{cs cs':Au}(h:cs.map (zD rs)=cs'.map (zD rs))(r:Row):qS cs r=qS cs' r:=by
 unfold qS zJ;refine iu λb _=>?_;rw[decide_eq_decide,<- Zi (rs:=rs),<- Zi (rs:=rs) (Wo (cs'.getD _ _)),zdP,zdP,Jd h]
def Vi{r:Row}{hs:List A9}{fs:Ai}{t t':Int}(ok:r.ok)(h:(r.wd=.source\/r.wd=.drain)->0<r.pace->t%r.pace=t'%r.pace):qf r hs fs t side=qf r hs fs t' side:=by
 let⟨wd,ins,outs,pc,ks⟩:=r;cases wd
 .have p1:1<=pc:=ok.2.2.1;have e:t%pc=t'%pc:=h (.inl rfl) (show 0<pc by lia);unfold qf;simp only[e]
 .have p0:0<=pc:=ok.2.2.1;unfold qf;by_cases z:pc=0
  .simp[z]
  .have e:t%pc=t'%pc:=h (.inr rfl) (show 0<pc by lia);simp only[e]
 all_goals rfl
def zfH{s s':PSt}{r:Row}{fb:A9}(h:Alk bs rs s s')(hr:rs[k]?=some r)(hs:fb=none->r.wd=.source):jP rs (zQ s k fb).1=jP rs (zQ s' k fb).1/\(zQ s k fb).2.cells.map (zD rs)=(zQ s' k fb).2.cells.map (zD rs):=by
 cases fb with
 |none =>
  refine⟨?_,h.ce⟩;show some (wa _ _)=some (wa _ _)
  rw[ax,hr];show some (wa r.kinds _)=some (wa r.kinds _)
  unfold wa;rw[h.so k r hr (hs rfl)]
 |some b =>
  have e:=Jd h.ce b.toNat;refine⟨?_,zdj h.ce _ ?_⟩
  .show jP rs (xC (s.cells.getD b.toNat []))=jP rs (xC (s'.cells.getD b.toNat []))
   rw[JE,JE,e]
  .unfold qX zJ;rw[vT,vT,e,V8 e]
def zge{s s':PSt}{x x':zy}{tb:A9}(h:s.cells.map (zD rs)=s'.cells.map (zD rs))(hx:jP rs x=jP rs x'):(x6 s x tb).cells.map (zD rs)=(x6 s' x' tb).cells.map (zD rs):=by
 cases tb with
 |none=>exact h
 |some b =>
  refine zdj h _ ?_;rw[vT,vT,hx];unfold zJ;rw[Jd h]
def wt{gs:List A6}{k p i j:Nat}(hk:k<gs.length)(hp:p<(gs.getD k []).length):gAt (gs.set k (wz (gs.getD k []) p)) i j=gAt gs i j+if i=k/\j=p then 1 else 0:=by
 unfold gAt;by_cases e:k=i
 .subst e;rw[ae (l:=gs.set _ _),a7 hk,aO];unfold wz;by_cases z:p=j
  .subst z;rw[ae (l:=List.set _ _ _),a7 hp,ao ⟨rfl,rfl⟩]
   rfl
  .rw[jH z,ak (λq=>z q.2.symm)]
   lia
 .rw[jH e,ak (λq=>e q.1.symm)]
  lia
def xB{gs:List A6}:(gs.getD j []).headD 0=gAt gs j 0:=by
 unfold gAt;cases gs.getD j []<;>rfl
def zhn{s s':PSt}(h:Alk bs rs s s')(w:stWf bs rs s)(w':stWf bs rs s')(ro:∀r∈rs,r.ok)(k:Nat):Alk bs rs (qv rs s k).1 (qv rs s' k).1/\∀i j,gAt (qv rs s k).1.gone i j-gAt s.gone i j=gAt (qv rs s' k).1.gone i j-gAt s'.gone i j:=by
 unfold qv;cases hr:rs[k]? with
 |none=>exact⟨h,λi j=>by show gAt s.gone i j-_=gAt s'.gone i j-_;rw[fh,fh]⟩
 |some r =>
  have ok:=ro r (ah hr);have hk:=(aa.mp hr).1;simp only;rw[<- zbP h.ce,<- zdU h.ce,<- h.si,<- Vi (t:=s.turn) (t':=s'.turn) ok λhw hp=>h.tu _ (.inr ⟨r,ah hr,hw,rfl,hp⟩)];cases hc:qf r (qo rs s.cells r) (qS s.cells r) s.turn (s.sides.getD k 0).toNat with
  |none=>exact⟨h,λi j=>by show gAt s.gone i j-_=gAt s'.gone i j-_;rw[fh,fh]⟩
  |some ch =>
   have hsd:=ql (xs:=s.sides) (k:=k) (d:=0) (by rw[w.so.1];exact hk);have sd:=w.so.2 k r _ hr hsd;have sd:xT r (((s.sides.getD k 0).toNat:Nat):Int):=by rw[bU sd.1];exact sd
   let⟨c1,c2,c3,c4,c5,c6⟩:=xu ok (by simp[qo]) (by simp[qS]) sd hc;have fs:qj r ch=none->r.wd=.source:=λz=>by
    cases e:ch.1 with
    |none=>exact c4 e
    |some j =>
     unfold qj at z;rw[e]at z;have:r.ins[j]?=none:=z;rw[ac (c1 j e)]at this;cases this
   let⟨t1,t2⟩:=zfH h hr fs;let⟨k1,k2,k3⟩:=movedF_keep (r:=r) (st:=s) (k:=k) (ch:=ch);let⟨k1',k2',k3'⟩:=movedF_keep (r:=r) (st:=s') (k:=k) (ch:=ch);have hg0:=ql (xs:=s.gone) (k:=k) (d:=[]) (by rw[w.go.1];exact hk);have hg0':=ql (xs:=s'.gone) (k:=k) (d:=[]) (by rw[w'.go.1];exact hk);have q:=(w.go.2 k r _ hr hg0).1;have q':=(w'.go.2 k r _ hr hg0').1;have G:∀i j,gAt (vW r s k ch).1.gone i j=gAt s.gone i j+if i=k/\j=jk r ch then 1 else 0:=λi j=>by
    show gAt ((movedF r s k ch).gone.set k (wz ((movedF r s k ch).gone.getD k []) (jk r ch))) i j=_
    rw[k3];exact wt (by rw[w.go.1];exact hk) (by rw[q];exact c6)
   have G':∀i j,gAt (vW r s' k ch).1.gone i j=gAt s'.gone i j+if i=k/\j=jk r ch then 1 else 0:=λi j=>by
    show gAt ((movedF r s' k ch).gone.set k (wz ((movedF r s' k ch).gone.getD k []) (jk r ch))) i j=_
    rw[k3'];exact wt (by rw[w'.go.1];exact hk) (by rw[q'];exact c6)
   refine⟨⟨zge t2 t1,?_,λj r2 h2 hs=>?_,λn hn=>?_⟩,λi j=>by rw[G,G'];lia⟩
   .show(movedF r s k ch).sides.set k _=(movedF r s' k ch).sides.set k _
    rw[k2,k2',h.si]
   .have e:=h.so j r2 h2 hs;rw[xB,xB]at e ⊢;rw[G,G',fo,e,<- fo]
   .show(movedF r s k ch).turn%n=(movedF r s' k ch).turn%n
    rw[k1,k1'];exact h.tu n hn
theorem zec{s s':PSt}(h:Alk bs rs s s')(w:stWf bs rs s)(w':stWf bs rs s')(pj:zN bs rs)(bo:∀b∈bs,zE b.1 b.2)(ro:∀r∈rs,r.ok):∀m,Alk bs rs (zB rs s m).1 (zB rs s' m).1/\∀i j,gAt (zB rs s m).1.gone i j-gAt s.gone i j=gAt (zB rs s' m).1.gone i j-gAt s'.gone i j
 |0=>⟨h,λi j=>by show gAt s.gone i j-_=gAt s'.gone i j-_;lia⟩
 |m+1=>by
  let⟨a1,a2⟩:=zec h w w' pj bo ro m;let⟨b1,b2⟩:=zhn a1 (qT w pj bo ro m) (qT w' pj bo ro m) ro m;refine⟨b1,λi j=>?_⟩;have x:=a2 i j;have y:=b2 i j;show gAt (qv rs (zB rs s m).1 m).1.gone i j-_=gAt (qv rs (zB rs s' m).1 m).1.gone i j-_
  lia
def zeV{c c':Av}(h:zD rs c=zD rs c')(p:Nat):zD rs (qR c p)=zD rs (qR c' p):=by
 unfold qR;have e:c.getD (p+1) none=none↔c'.getD (p+1) none=none:=by rw[<- Zi (rs:=rs),<- Zi (rs:=rs) (c'.getD _ _),Va,Va,h]
 by_cases z:c.getD (p+1) none=none
 .rw[ao z,ao (e.mp z),vT,vT,vT,vT,Va,Va,h]
 .rw[ak z,ak (λq=>z (e.mpr q)),h]
theorem zdH{c c':Av}(h:zD rs c=zD rs c'):∀m,zD rs (x9 c m)=zD rs (x9 c' m)
 |0=>h
 |m+1=>by
  show zD rs (qR (x9 c m) (c.length-2-m))=zD rs (qR (x9 c' m) (c'.length-2-m))
  rw[V8 h];exact zeV (zdH h m) _
theorem zb4{cs cs':Au}{t t':Int}(h:cs.map (zD rs)=cs'.map (zD rs))(ht:∀b∈bs,t%b.2=t'%b.2):∀i,i<=bs.length->(qd bs t cs i).map (zD rs)=(qd bs t' cs' i).map (zD rs)
 |0,_=>h
 |i+1,hi=>by
  have ih:=zb4 h ht i (by lia);have e:t%(bs.getD i (0,1)).2=t'%(bs.getD i (0,1)).2:=ht _ (by rw[ae,ac (by lia)];exact cf _);unfold qd;rw[<- e];by_cases z:t%(bs.getD i (0,1)).2=0
  .rw[ao z,ao z];refine zdj ih i ?_;unfold WP;rw[V8 (Jd ih i)];exact zdH (Jd ih i) _
  .rw[ak z,ak z];exact ih
def zdB{s s':PSt}(h:Alk bs rs s s')(w:stWf bs rs s)(w':stWf bs rs s')(pj:zN bs rs)(bo:∀b∈bs,zE b.1 b.2)(ro:∀r∈rs,r.ok):Alk bs rs (passF bs rs s).1 (passF bs rs s').1/\∀i j,gAt (passF bs rs s).1.gone i j-gAt s.gone i j=gAt (passF bs rs s').1.gone i j-gAt s'.gone i j:=by
 let⟨a1,a2⟩:=zec h w w' pj bo ro rs.length;refine⟨⟨zb4 a1.ce (λb hb=>a1.tu _ (.inl ⟨b,hb,rfl⟩)) bs.length (au _),a1.si,a1.so,λn hn=>?_⟩,a2⟩;show((zB rs s rs.length).1.turn+1)%n=((zB rs s' rs.length).1.turn+1)%n
 rw[fo,a1.tu n hn,<- fo]
theorem zdz{p q:Nat}(h:Alk bs rs (zj bs rs p) (zj bs rs q))(pj:zN bs rs)(bo:∀b∈bs,zE b.1 b.2)(ro:∀r∈rs,r.ok):∀m,Alk bs rs (zj bs rs (p+m)) (zj bs rs (q+m))/\∀i j,gAt (zj bs rs (p+m)).gone i j-gAt (zj bs rs p).gone i j=gAt (zj bs rs (q+m)).gone i j-gAt (zj bs rs q).gone i j
 |0=>⟨h,λi j=>by show gAt (zj bs rs p).gone i j-_=gAt (zj bs rs q).gone i j-_;lia⟩
 |m+1=>by
  let⟨a1,a2⟩:=zdz h pj bo ro m;let⟨b1,b2⟩:=zdB a1 (qa pj bo ro _) (qa pj bo ro _) pj bo ro;refine⟨b1,λi j=>?_⟩;have x:=a2 i j;have y:=b2 i j;show gAt (passF bs rs (zj bs rs (p+m))).1.gone i j-_=gAt (passF bs rs (zj bs rs (q+m))).1.gone i j-_
  lia
end
def xK(c:Av):List (Int×Int):=c.reverse.filterMap id
def atC(cs:Au)(b p:Nat):zy:=(cs.getD b []).getD p none
def qE{α:Type}{l:List α}{i j:Nat}{x d:α}:(l.set i x).getD j d=if i=j/\i<l.length then x else l.getD j d:=by
 rw[ae,ae];by_cases e:i=j
 .subst e;by_cases h:i<l.length
  .rw[a7 h,ao ⟨rfl,h⟩];rfl
  .rw[ak (λz=>h z.2),cY (by lia)]
 .rw[bh e,ak (λz=>e z.1)]
def XL(c:Av):xC c=c.getD (c.length-1) none:=by
 unfold xC;rw[bH,dI,ae]
def Uq(cs:Au):Prop:=∀b p b' p' x,atC cs b p=some x->atC cs b' p'=some x->b=b'/\p=p'
def GvL(cs:Au)(gs:List A6):Prop:=∀b p x,atC cs b p=some x->x.2<gAt gs x.1.toNat 0
def RowM(c c':Av):Prop:=∃φ:Nat->Nat,(∀q y,c'.getD q none=some y->c.getD (φ q) none=some y)/\∀q q' y y',c'.getD q none=some y->c'.getD q' none=some y'->φ q=φ q'->q=q'
section
variable{cs:Au}{gs:List A6}{c c' d:Av}
def RowM.refl:RowM c c:=⟨id,λ_ _ h=>h,λ_ _ _ _ _ _ h=>h⟩
def RowM.trans(h:RowM c c')(h':RowM c' d):RowM c d:=by
 let⟨f,f1,f2⟩:=h;let⟨g,g1,g2⟩:=h';exact⟨λq=>f (g q),λq y e=>f1 _ _ (g1 q y e),λq q' y y' e e' z=>g2 q q' y y' e e' (f2 _ _ y y' (g1 q y e) (g1 q' y' e') z)⟩
def RowM.take(p:Nat):RowM c (c.set p none):=⟨id,λq y e=>by
 rw[qE]at e
 split at e
 .cases e
 .exact e,λ_ _ _ _ _ _ h=>h⟩
def RowM.mvS(p:Nat):RowM c (qR c p):=by
 unfold qR
 split
 .have key:∀q y,((c.set (p+1) (c.getD p none)).set p none).getD q none=some y->q≠p/\c.getD (if q=p+1 then p else q) none=some y:=λq y e=>by
   rw[qE]at e
   split at e
   .cases e
   .rename_i h1;rw[qE]at e
    split at e
    .rename_i h2;rw[ao h2.1.symm];exact⟨by lia,e⟩
    .rename_i h2;by_cases e1:q=p+1
     .refine absurd e ?_;rw[ae,cm (by have:¬p+1<c.length:=λz=>h2 ⟨e1.symm,z⟩;lia)];exactλz=>nomatch z
     .rw[ak e1];refine⟨λe2=>h1 ⟨e2.symm,?_⟩,e⟩;rw[b6];refine b5 λz=>?_;rw[ae,cm (by lia)]at e;cases e
  exact⟨λq=>if q=p+1 then p else q,λq y e=>(key q y e).2,λq q' y y' e e' z=>by
   have n1:=(key q y e).1;have n2:=(key q' y' e').1;have z:(if q=p+1 then p else q)=if q'=p+1 then p else q':=z
   split at z<;>split at z<;>lia⟩
 .exact .refl
theorem RowM.mvG:∀k,RowM c (x9 c k)
 |0=>.refl
 |k+1=>(RowM.mvG k).trans (.mvS _)
def wQ{b b' p:Nat}:atC (cs.set b c) b' p=if b=b'/\b<cs.length then c.getD p none else atC cs b' p:=by
 unfold atC;rw[qE]
 split<;>rfl
def Uq.row(h:Uq cs){b:Nat}(m:RowM (cs.getD b []) c'):Uq (cs.set b c'):=by
 let⟨f,f1,f2⟩:=m;intro b1 p1 b2 p2 x e1 e2;rw[wQ]at e1 e2
 split at e1<;>split at e2
 .rename_i h1 h2;let⟨rfl,_⟩:=h1;let⟨rfl,_⟩:=h2;exact⟨rfl,f2 _ _ x x e1 e2 (h b _ b _ x (f1 _ _ e1) (f1 _ _ e2)).2⟩
 .rename_i h1 h2;let⟨rfl,l⟩:=h1;let⟨e3,_⟩:=h b _ b2 p2 x (f1 _ _ e1) e2;exact absurd ⟨e3,l⟩ h2
 .rename_i h1 h2;let⟨rfl,l⟩:=h2;let⟨e3,_⟩:=h b1 p1 b _ x e1 (f1 _ _ e2);exact absurd ⟨e3.symm,l⟩ h1
 .exact h _ _ _ _ x e1 e2
def GvL.row(h:GvL cs gs){b:Nat}(m:RowM (cs.getD b []) c'):GvL (cs.set b c') gs:=by
 let⟨f,f1,_⟩:=m;intro b1 p1 x e1;rw[wQ]at e1
 split at e1
 .exact h b _ x (f1 _ _ e1)
 .exact h _ _ x e1
def Uq.put(h:Uq cs){x:Int×Int}(no:∀b p,atC cs b p≠some x)(b:Nat):Uq (cs.set b ((cs.getD b []).set 0 (some x))):=by
 have key:∀b1 p1 y,atC (cs.set b ((cs.getD b []).set 0 (some x))) b1 p1=some y->(y=x/\b1=b/\p1=0)\/atC cs b1 p1=some y:=λb1 p1 y e=>by
  rw[wQ]at e
  split at e
  .rename_i h1;let⟨rfl,_⟩:=h1;rw[qE]at e
   split at e
   .rename_i h2;exact .inl ⟨(aF e).symm,rfl,h2.1.symm⟩
   .exact .inr e
  .exact .inr e
 intro b1 p1 b2 p2 y e1 e2;rcases key _ _ _ e1 with⟨z1,z2,z3⟩|e1<;>rcases key _ _ _ e2 with⟨y1,y2,y3⟩|e2
 .exact⟨by lia,by lia⟩
 .exact absurd (z1 ▸ e2) (no _ _)
 .exact absurd (y1 ▸ e1) (no _ _)
 .exact h _ _ _ _ y e1 e2
theorem ziS{bs:A1}{t:Int}(h:Uq cs)(g:GvL cs gs):∀i,Uq (qd bs t cs i)/\GvL (qd bs t cs i) gs
 |0=>⟨h,g⟩
 |i+1=>by
  let⟨h1,h2⟩:=ziS (bs:=bs) (t:=t) h g i;rw[qd]
  split
  .exact⟨h1.row (RowM.mvG _),h2.row (RowM.mvG _)⟩
  .exact⟨h1,h2⟩
end
section
variable{bs:A1}{rs:At}{s:PSt}
def zkb(w:stWf bs rs s)(ro:∀r∈rs,r.ok)(h:Uq s.cells)(g:GvL s.cells s.gone)(k:Nat):Uq (qv rs s k).1.cells/\GvL (qv rs s k).1.cells (qv rs s k).1.gone:=by
 have mono:=XU rs s k;unfold qv at mono ⊢;cases hr:rs[k]? with
 |none=>exact⟨h,g⟩
 |some r =>
  rw[hr]at mono;have ok:=ro r (ah hr);have hk:=(aa.mp hr).1;simp only at mono ⊢;cases hc:qf r (qo rs s.cells r) (qS s.cells r) s.turn (s.sides.getD k 0).toNat with
  |none=>exact⟨h,g⟩
  |some ch =>
   rw[hc]at mono;simp only at mono ⊢;have sd:=w.so.2 k r _ hr (ql (d:=0) (by rw[w.so.1];exact hk));have sd':xT r ((s.sides.getD k 0).toNat:Int):=by rw[bU sd.1];exact sd
   let⟨c1,_,_,c4,_,c6⟩:=xu ok (by simp[qo]) (by simp[qS]) sd' hc;have hgk:k<s.gone.length:=by rw[w.go.1];exact hk
   have gl:=(w.go.2 k r _ hr (ql (xs:=s.gone) (d:=[]) hgk)).1;have gN:(vW r s k ch).1.gone=s.gone.set k (wz (s.gone.getD k []) (jk r ch)):=by
    show(movedF r s k ch).gone.set k (wz ((movedF r s k ch).gone.getD k []) (jk r ch))=_
    rw[movedF_keep.2.2]
   have tk:Uq (zQ s k (qj r ch)).2.cells/\(∀b p x,atC (zQ s k (qj r ch)).2.cells b p=some x->atC s.cells b p=some x)/\∀x,(zQ s k (qj r ch)).1=some x->(∀b p,atC (zQ s k (qj r ch)).2.cells b p≠some x)/\x.2<gAt (vW r s k ch).1.gone x.1.toNat 0:=by
    cases e:qj r ch with
    |none =>
     have hs:r.wd=.source:=by
      cases e1:ch.1 with
      |none=>exact c4 e1
      |some j =>
       unfold qj at e;rw[e1]at e;simp at e;have:=c1 j e1
       lia
     refine⟨h,λ_ _ _ z=>z,λx ex=>?_⟩;have ex:((k:Int),(s.gone.getD k []).headD 0)=x:=aF ex;subst ex;refine⟨λb p z=>?_,?_⟩
     .have:=g b p _ z;rw[xB]at this;simp only[ax]at this
      lia
     .rw[gN,xB];simp only[ax];have cp:jk r ch=0:=by
       have:(qH r).length=1:=by
        have l:=j5 ok;unfold Row.ok at ok;rw[hs]at ok;unfold qH;rw[bg,ok.1];let⟨o,ho⟩:=ok.2.1;rw[ho]
        rfl
       lia
      rw[cp,wt hgk (by rw[gl];lia),ao ⟨rfl,rfl⟩]
      lia
    |some b =>
     have inn:∀b1 p1 x,atC (s.cells.set b.toNat (qX (zJ s.cells b))) b1 p1=some x->atC s.cells b1 p1=some x:=λb1 p1 x z=>by
      rw[wQ]at z
      split at z
      .rename_i h1;let⟨rfl,_⟩:=h1;unfold qX at z;rw[qE]at z
       split at z
       .cases z
       .exact z
      .exact z
     refine⟨h.row (RowM.take _),inn,λx ex=>?_⟩;have ex:xC (zJ s.cells b)=some x:=ex;rw[XL]at ex;have at0:atC s.cells b.toNat ((zJ s.cells b).length-1)=some x:=ex;refine⟨λb1 p1 z=>?_,dF (g _ _ x at0) (mono _ _)⟩;let⟨e1,e2⟩:=h _ _ _ _ x (inn _ _ _ z) at0;subst e1 e2;have hb:b.toNat<s.cells.length:=b5 λy=>by
      unfold atC at at0;rw[ae (l:=s.cells),cm (by lia)]at at0;simp at at0
     have hl:(zJ s.cells b).length-1<(zJ s.cells b).length:=b5 λy=>by
      have:(zJ s.cells b).length=0:=by lia
      rw[ae,cm (by lia)]at ex;cases ex
     have z:atC (s.cells.set b.toNat (qX (zJ s.cells b))) b.toNat ((zJ s.cells b).length-1)=some x:=z;rw[wQ,ao ⟨rfl,hb⟩]at z;unfold qX at z;rw[qE,ao ⟨rfl,hl⟩]at z;cases z
   let⟨u1,u2,u3⟩:=tk;have up:∀b p x,atC s.cells b p=some x->x.2<gAt (vW r s k ch).1.gone x.1.toNat 0:=λb p x z=>dF (g b p x z) (mono _ _);show Uq (movedF r s k ch).cells/\GvL (movedF r s k ch).cells (vW r s k ch).1.gone
   unfold movedF;cases jJ r ch with
   |none=>exact⟨u1,λb p x z=>up b p x (u2 b p x z)⟩
   |some b =>
    cases ex:(zQ s k (qj r ch)).1 with
    |none=>exact⟨u1.row (RowM.take 0),λb1 p1 x z=>by
      change atC ((zQ s k (qj r ch)).2.cells.set b.toNat ((zJ (zQ s k (qj r ch)).2.cells b).set 0 none)) b1 p1=some x at z;rw[wQ]at z
      split at z
      .rw[qE]at z
       split at z
       .cases z
       .exact up _ _ x (u2 _ _ x z)
      .exact up _ _ x (u2 _ _ x z)⟩
    |some x =>
     let⟨no,lx⟩:=u3 x ex;refine⟨u1.put no b.toNat,λb1 p1 y z=>?_⟩;change atC ((zQ s k (qj r ch)).2.cells.set b.toNat ((zJ (zQ s k (qj r ch)).2.cells b).set 0 (some x))) b1 p1=some y at z;rw[wQ]at z
     split at z
     .rw[qE]at z
      split at z
      .cases z;exact lx
      .exact up _ _ y (u2 _ _ y z)
     .exact up _ _ y (u2 _ _ y z)
theorem zd9(w:stWf bs rs s)(pj:zN bs rs)(bo:∀b∈bs,zE b.1 b.2)(ro:∀r∈rs,r.ok)(h:Uq s.cells)(g:GvL s.cells s.gone):∀m,Uq (zB rs s m).1.cells/\GvL (zB rs s m).1.cells (zB rs s m).1.gone
 |0=>⟨h,g⟩
 |m+1=>by
  let⟨h1,g1⟩:=zd9 w pj bo ro h g m;exact zkb (qT w pj bo ro m) ro h1 g1 m
theorem VV(pj:zN bs rs)(bo:∀b∈bs,zE b.1 b.2)(ro:∀r∈rs,r.ok):∀n,Uq (zj bs rs n).cells/\GvL (zj bs rs n).cells (zj bs rs n).gone
 |0=>by
  have no:∀b p,atC (zj bs rs 0).cells b p=none:=λb p=>by
   show((bs.map λb=>List.replicate b.1.toNat (none:zy)).getD b []).getD p none=none
   rw[ae,ae,am];cases bs[b]? with
   |none=>rfl
   |some y =>
    show((List.replicate y.1.toNat (none:zy))[p]?).getD none=none
    rw[cz]
    split<;>rfl
  exact⟨λb p _ _ x e=>absurd ((no b p).symm.trans e) (λz=>nomatch z),λb p x e=>absurd ((no b p).symm.trans e) (λz=>nomatch z)⟩
 |n+1=>by
  let⟨h,g⟩:=VV pj bo ro n;let⟨h1,g1⟩:=zd9 (qa pj bo ro n) pj bo ro h g rs.length;exact ziS h1 g1 _
end
def zhi{n:Nat}(h:n<=30000):n<sizeLine:=cU h (by decide)
def kW(x:Int×Int):List Key:=[.inl x.1,.inl x.2]
def zjN{x y:Int×Int}(h:kW x=kW y):x=y:=by
 let⟨a,b⟩:=x;let⟨c,d⟩:=y;simp only[kW,fF,Sum.inl.injEq,and_true]at h;rw[h.1,h.2]
def queue_mem{c:Av}{x:Int×Int}:x∈xK c↔some x∈c:=by
 unfold xK;rw[bN];constructor
 .rintro⟨y,h1,h2⟩;have h2:y=some x:=h2;rw[<- h2];exact List.mem_reverse.mp h1
 .exactλh=>⟨some x,List.mem_reverse.mpr h,rfl⟩
def flat_mem{cs:Au}{x:Int×Int}:x∈(cs.map xK).flatten↔∃c∈cs,some x∈c:=by
 rw[List.mem_flatten];constructor
 .rintro⟨l,h1,h2⟩;let⟨c,h3,rfl⟩:=aJ.mp h1;exact⟨c,h3,queue_mem.mp h2⟩
 .rintro⟨c,h1,h2⟩;exact⟨xK c,aJ.mpr ⟨c,h1,rfl⟩,queue_mem.mpr h2⟩
def zeK(ph:As)(k:List Key)(v:V):(vj ph k v).length<=ph.length+1:=by
 unfold vj
 split<;>simp
structure LayD(H:Hp)(ph:As)(seen:Int×Int->Prop)(full:Au):Prop where
 n:∀x,j8 ph (kW x)=none->¬seen x
 s:∀x v,j8 ph (kW x)=some v->∃(t:Addr)(b p:Nat)(c:Av),v=.ref t/\H t=some (.tup [.int b,.int p])/\full[b]?=some c/\c[p]?=some (some x)
section
variable{H H':Hp}{ph:As}{seen seen':Int×Int->Prop}{full:Au}
def LayD.same(h:LayD H ph seen full)(s:Same H H'):LayD H' ph seen full:=⟨h.n,λx v e=>by
 let⟨t,b,p,c,e1,e2,e3⟩:=h.s x v e;exact⟨t,b,p,c,e1,s _ _ e2,e3⟩⟩
def LayD.less(h:LayD H ph seen full)(s:∀x,seen' x->seen x):LayD H ph seen' full:=⟨λx e z=>h.n x e (s x z),h.s⟩
def LayD.put(h:LayD H ph seen full){D t:Addr}{b p:Nat}{c:Av}{x:Int×Int}(hD:H D=some (.dT ph))(ht:H t=some (.tup [.int b,.int p]))(hc:full[b]?=some c)(hx:c[p]?=some (some x)):LayD (upd H D (.dT (vj ph (kW x) (.ref t)))) (vj ph (kW x) (.ref t)) (λy=>seen y\/y=x) full:=by
 have ne:∀u xs,H u=some (.tup xs)->u≠D:=λu xs hu z=>by rw[z,hD]at hu;cases hu
 refine⟨λy e z=>?_,λy v e=>?_⟩
 .rw[zaA]at e
  split at e
  .cases e
  .rename_i hn;rcases z with z|z
   .exact h.n y e z
   .exact hn (by rw[z])
 .rw[zaA]at e
  split at e
  .rename_i hn;cases e;rw[zjN hn];exact⟨t,b,p,c,rfl,by rw[pE (ne t _ ht)];exact ht,hc,hx⟩
  .obtain⟨t',b',p',c',e1,e2,e3⟩:=h.s y v e;exact⟨t',b',p',c',e1,by rw[pE (ne t' _ e2)];exact e2,e3⟩
end
def JY(cs:Au)(i j:Nat)(x:Int×Int):Prop:=x∈((cs.take i).map xK).flatten\/∃c,cs[i]?=some c/\some x∈c.take j
def zes{cs:Au}{c:Av}{x:Int×Int}(h:cs[i]?=some c)(z:x∈((cs.take (i+1)).map xK).flatten):JY cs i c.length x:=by
 rw[aI,h,ba,List.flatten_append]at z;rcases aG.mp z with z|z
 .exact .inl z
 .refine .inr ⟨c,h,?_⟩;rw[aN];have z:x∈(xK c++[]):=z;rw[cj]at z;exact queue_mem.mp z
def zko(a:Ad):Sp:=λvs H Q _=>∃(y:Addr)(n:SN)(st:PSt),vs=[.ref y]/\StO a H y n st/\st.cells.length<=24/\(∀c∈st.cells,c.length<=6)/\∀D ph H',Same H H'->H D=none->H' D=some (.dT ph)->LayD H' ph (λx=>x∈(st.cells.map xK).flatten) st.cells->Q (.ref D) H'
theorem Jy(T:Txt K mg a):Cal P w K mg base "cells_by_ware" 1 ["state"] [] (zko a):=T.lG.cal λF=>by
 refine F.okx Qx ?_ ?_
 .walk_at"i"
 walk_at"j";refine oE3 h λy n st p6=>oA5 p6 λp8 so l24 l6 k=>?_;clear p6 h;subst p8;have hc:=so.hc;have lc:n.acs.length=st.cells.length:=by rw[hc.len,zZ,ai]
 walk_at"T";refine⟨_,(zi (zu 1 Qx.nd zgj)  (qF (qy qQ rfl (qU (za (zk (pq 0) rfl) zb)) (wH (n:=2) rfl (qt (qu 2 Qx.nd) (qt (qu 3 Qx.nd) xj)))  (zd (qy qQ rfl (qU (za (pq 3) zb)) (wH (n:=2) rfl (qt (qu 4 Qx.nd) (qt (qu 5 Qx.nd) xj)))  (zd (zF (zm wI (pq 5) zC (zr _))  (zd (zhR (zdS hr) (pq 1) (pq 5) (jq (za (pq 2) (za (pq 4) zb))) rfl))  zp)))))  (zd (zl (pq 1))))),?_⟩;left;intro D hD;have s1:=zf (o:=.dT []) hD;have hD1:upd H D (.dT []) D=some (.dT []):=pD;generalize upd H D (.dT [])=H1 at s1 hD1 ⊢;have ld0:LayD H1 [] (JY st.cells 0 0) st.cells:=⟨λx _ z=>by
  rcases z with z|⟨c,_,z⟩
  .simp at z
  .simp at z,λx v e=>by simp[j8]at e⟩
 have keep:∀{H':Hp}{ph:As}{o:HO},Same H H'->Same H (upd H' D o):=λs b u hb=>by
  rw[pE (pF hb hD)];exact s b u hb
 refine cut (λσ' H'=>∃(v2 v3 v4 v5:Aq)(ph:As),σ'=[some (.ref y),some (.ref D),v2,v3,v4,v5]/\Same H H'/\H' D=some (.dT ph)/\LayD H' ph (λx=>x∈(st.cells.map xK).flatten) st.cells) ?_ ?_
 .walk_at"c";exists ra (s1 _ _ so.hy) T.ad T.iK rfl ?_;refine iE2 n.lc _ (iA3 rfl (s1 _ _ hc.out) ?_);refine XH (K:=K) (a:=n.lc) (xs:=n.acs.map V.ref) (λi σ H'=>∃(v2 v3 v4 v5:Aq)(ph:As),σ=[some (.ref y),some (.ref D),v2,v3,v4,v5]/\Same H H'/\H' D=some (.dT ph)/\LayD H' ph (λx=>x∈((st.cells.take i).map xK).flatten) st.cells/\ph.length<=6*i) (iE5 _ _ _ _ ([]) (iA5 rfl s1 hD1 (ld0.less λx z=>by simp at z) (au _))) (λi σ H' _ h=>by let⟨_,_,_,_,_,_,s,_⟩:=h;exact SqL.of (s _ _ hc.out)) ?_ ?_
  .intro i x t σ H2 hi ht p9;refine oE5 p9 λv2 v3 v4 v5 ph p6=>oA5 p6 λp8 s2 hD2 ld2 lk2=>?_;ext;rw[am,aq]at hi;let⟨cb,hcb,rfl⟩:=hi;have hil:i<st.cells.length:=by rw[<- lc];exact(aa.mp hcb).1
   let⟨c,ec⟩:∃c,st.cells[i]?=some c:=⟨_,ac hil⟩;let⟨vs,hvs,rvs⟩:=hc.g i cb _ hcb (show(zZ st.cells)[i]?=some (c.map qg) by rw[zZ,am,ec];rfl);have lv:vs.length=c.length:=by rw[rvs.len,ai]
   have c6:=l6 c (ah ec);have st2:=zf (o:=.tup [.int i,.ref cb]) ht;refine un2 pD ?_;have s3:=s2.trans st2;have hD3:=st2 _ _ hD2;have ld3:=ld2.same st2;generalize upd H2 t (.tup [.int i,.ref cb])=H3 at s3 hD3 ld3 ⊢;clear ld2 hD2 s2 st2 ht;walk_at"c";exists iE2 cb _ (iA3 rfl (s3 _ _ hvs) ?_);refine XH (K:=K) (a:=cb) (xs:=vs) (λj σ H'=>∃(v4 v5:Aq)(ph:As),σ=[some (.ref y),some (.ref D),some (.int i),some (.ref cb),v4,v5]/\Same H H'/\H' D=some (.dT ph)/\LayD H' ph (JY st.cells i j) st.cells/\ph.length<=6*i+j) ⟨_,_,ph,rfl,s3,hD3,ld3.less λx z=>by
    rcases z with z|⟨_,_,z⟩
    .exact z
    .simp at z,lk2⟩ (λi σ H' _ h=>by let⟨_,_,_,_,s,_⟩:=h;exact SqL.of (s _ _ hvs)) ?_ ?_
   .clear ld3 hD3 s3 lk2;intro j v t σ H4 hj ht p9;refine oE3 p9 λv4 v5 ph p6=>oA5 p6 λp8 s4 hD4 ld4 lk4=>?_;ext;let⟨d,hd,rv⟩:=rvs.at hj;rw[am,aq]at hd;let⟨wr,hwr,rfl⟩:=hd;have hjl:j<c.length:=(aa.mp hwr).1;have sn:∀x,JY st.cells i (j+1) x->JY st.cells i j x\/wr=some x:=λx z=>by
     rcases z with z|⟨c',e,z⟩
     .exact .inl (.inl z)
     .rw[ec]at e;cases e;rw[aI,hwr]at z;rcases aG.mp z with z|z
      .exact .inl (.inr ⟨c,ec,z⟩)
      .exact .inr (aD.mp z).symm
    have st4:=zf (o:=.tup [.int j,v]) ht;refine un2 pD ?_;have s5:=s4.trans st4;have hD5:=st4 _ _ hD4;have ld5:=ld4.same st4;generalize upd H4 t (.tup [.int j,v])=H5 at s5 hD5 ld5 ⊢;clear ld4 hD4 s4 st4 ht;cases wr with
    |none =>
     have rv:Rep H (z6 H) v .non:=rv;cases rv;left;exact iE3 _ _ ph (iA5 rfl s5 hD5 (ld5.less λx z=>(sn x z).elim id (λz=>nomatch z)) (by lia))
    |some x =>
     let⟨tx,rfl,htx⟩:=xz (b:=x) rv;left;intro t6 ht6;have st6:=zf (o:=.tup [.int i,.int j]) ht6;have s6:=s5.trans st6;have hD6:=st6 _ _ hD5;have ld6:=ld5.same st6;have ht6':upd H5 t6 (.tup [.int i,.int j]) t6=some (.tup [.int i,.int j]):=pD;generalize upd H5 t6 (.tup [.int i,.int j])=H6 at s6 hD6 ld6 ht6' ⊢;refine iE2 D _ (iA3 rfl (DPut.t (k:=kW x) hD6 (s6 _ _ htx) (zhi (by lia))) ?_);have pl:=zeK ph (kW x) (.ref t6);refine iE3 _ _ _ (iA5 rfl (keep (ph:=ph) s6) pD ((ld6.put hD6 ht6' ec hwr).less λz hz=>(sn z hz).imp id (λe=>by cases e;rfl)) (by lia))
   .intro σ H4 p9;refine oE3 p9 λv4 v5 ph p6=>oA5 p6 λp8 s4 hD4 ld4 lk4=>?_;ext;rw[lv]at ld4 lk4;exact iE5 _ _ _ _ ph (iA5 rfl s4 hD4 (ld4.less λx z=>zes ec z) (by lia))
  .intro σ H2 p9;refine oE5 p9 λv2 v3 v4 v5 ph p6=>oA5 p6 λp8 s2 hD2 ld2 lk2=>?_;ext;rw[ai,lc,aN]at ld2;exact iE5 _ _ _ _ ph (iA4 rfl s2 hD2 ld2)
 intro σ' H2 p9;refine oE5 p9 λv2 v3 v4 v5 ph p6=>oA4 p6 λp8 s2 hD2 ld2=>?_;ext;left;exact k D ph _ s2 hD hD2 ld2
inductive Org|no|kept(b p:Nat)|new (k:Nat) (m:Int)
def zcJ:Org->D
 | .no=>.non
 | .kept b p=>.tup [.str "kept",.int b,.int p]
 | .new k m=>.tup [.str "new",.int k,.int m]
def Vt(s0:PSt):zy->Org->Prop
 |none,.no=>True
 |some x,.kept b p=>∃c,s0.cells[b]?=some c/\c[p]?=some (some x)
 |some x,.new k m=>x.1=k/\x∉(s0.cells.map xK).flatten/\m=x.2-(s0.gone.getD k []).headD 0/\∃g0 gs,s0.gone[k]?=some (g0::gs)
 |_,_=>False
def zg6(s0:PSt)(wr:zy):Prop:=∀x,wr=some x->∃(k:Nat)(g0:Int)(gs:A6),x.1=k/\s0.gone[k]?=some (g0::gs)
def zfN(a:Ad):Sp:=λvs H Q _=>∃(vw:V)(D y:Addr)(n:SN)(s0:PSt)(wr:zy)(ph:As)(p:A5),vs=[vw,.ref D,.ref y]/\Rep H p vw (qg wr)/\H D=some (.dT ph)/\LayD H ph (λx=>x∈(s0.cells.map xK).flatten) s0.cells/\StO a H y n s0/\zg6 s0 wr/\∀v H' o,Same H H'->Rep H' (New H) v (zcJ o)->Vt s0 wr o->Q v H'
theorem zb0(T:Txt K mg a):Cal P w K mg base "origin_of" 1 ["ware","lay","before"] [] (zfN a):=T.nh.cal λF=>by
 refine F.okx VI ?_ ?_
 .walk_at"i"
 walk_at"j";refine oE8 h λvw D y n s0 wr ph p p6=>oA7 p6 λp8 rv hD ld so ca k=>?_;clear p6 h;subst p8;walk_at"T";refine⟨_,(zh (zF (zm jr (pq 0) zC (zr _))  (zd (zl zC))  zp)  (zh (zF (zga (zjs (zdS hr) (pq 0) (pq 1)) (by with_unfolding_all rfl))  (zd (zl (jq (za zS (za (zo (zdA (zdS hr) (pq 1) (pq 0) (λ_ _=>rfl)) ze) (za (zo (zdA (zdS hr) (pq 1) (pq 0) (λ_ _=>rfl)) ze) zb))))))  zp)  (zd (zl (jq (za zS (za (zo (pq 0) ze) (za (zK x8 (zo (pq 0) ze) (zo (zo (zk (pq 2) rfl) (zo (pq 0) ze)) ze)) zb)))))))),?_⟩;left;cases wr with
 |none =>
  have rv:Rep H p vw .non:=rv;cases rv;left;exact k _ _ .no (Same.refl _) .non trivial
 |some x =>
  let⟨tx,rfl,htx⟩:=xz (b:=x) rv;exists iE2 D _ (iA3 rfl (DGet.t (k:=kW x) hD htx) ?_);cases ev:j8 ph (kW x)with
  |some v =>
   refine oE4 (ld.s x v ev) λt b q c p6=>oA4 p6 λp8 ht e1 e2=>?_;clear p6;subst p8;exists iE2 D (.ref t) (iA3 rfl (by rw[<- ev];exact DGet.t (k:=kW x) hD htx) (pH ht at0 ?_));refine iE2 D (.ref t) (iA3 rfl (by rw[<- ev];exact DGet.t (k:=kW x) hD htx) (pH ht (show atI _ 1=some (.int q)from rfl) ?_));intro t2 ht2;exact k _ _ (.kept b q) (zf ht2) (Reps.mkT (vs:=[.str "kept",.int b,.int q]) (.cons .str (.cons .int (.cons .int .nil))) ht2 pD) ⟨c,e1,e2⟩
  |none =>
   refine oE3 (ca x rfl) λkk g0 gs p6=>oA2 p6 λek eg=>?_;clear p6;let⟨bG,hbG,hgG⟩:=xf so.hg eg;have hmap:(n.ags.map V.ref)[kk]?=some (.ref bG):=by rw[am,hbG];rfl
   exists pH htx at0 (pH htx (show atI _ 1=some (.int x.2)from rfl) ?_);refine ra so.hy T.ad T.iJ rfl ?_;refine pH htx at0 ?_;rw[ek];refine zq (SqL.of so.hg.out) (zt hmap) (zq (SqL.of hgG) at0 ?_);left;intro t2 ht2;refine k _ _ (.new kk (x.2-g0)) (zf ht2) (Reps.mkT (vs:=[.str "new",.int kk,.int (x.2-g0)]) (.cons .str (.cons .int (.cons .int .nil))) ht2 pD) (iA4 ek (ld.n x ev) ?_ (iE2 g0 gs eg));rw[ae,eg]
   rfl
def zat(s0 s1:PSt)(oss:List (List Org)):Prop:=oss.length=s1.cells.length/\∀(i:Nat) os c,oss[i]?=some os->s1.cells[i]?=some c->os.length=c.length/\∀(j:Nat) o wr,os[j]?=some o->c[j]?=some wr->Vt s0 wr o
def zdE(oss:List (List Org)):D:=.lst (oss.map λos=>.lst (os.map zcJ))
def zem(a:Ad):Sp:=λvs H Q _=>∃(y0 y1:Addr)(n0 n1:SN)(s0 s1:PSt),vs=[.ref y0,.ref y1]/\StO a H y0 n0 s0/\StO a H y1 n1 s1/\s0.cells.length<=24/\(∀c∈s0.cells,c.length<=6)/\s1.cells.length<=24/\(∀c∈s1.cells,c.length<=6/\∀wr∈c,zg6 s0 wr)/\∀l H' oss,Same H H'->Rep H' (New H) (.ref l) (zdE oss)->zat s0 s1 oss->Q (.ref l) H'
def zan(T:Txt K mg a):Cal P w K mg base "origins_of" 2 ["before","after"] [] (zem a):=T.mO.cal λF=>by
 refine F.okx X3 ?_ ?_
 .walk_at"i"
 walk_at"j";refine oE6 h λy0 y1 n0 n1 s0 s1 p6=>oA8 p6 λp8 so0 so1 l24 l6 m24 m6 k=>?_;clear p6 h;subst p8;walk_at"T";refine⟨_,(zi (zgb (i:=2) X3.nd rfl (Or.inr rfl) ‹(pq 0) zb›)  (zi (zu 3 X3.nd (zO zb))  (qF (qy qQ rfl (qq (zk (pq 1) rfl)) (qu 4 X3.nd)  (zd (zH (qA ar aA az zV (pq 3) (za (jF (vars:=["ware"]) (caps:=[2,0]) (N:=["ware","lay","before"]) (ON:=["before","after","lay","origins","cells"]) (osc:=zg wC) rfl rfl (by right) rfl rfl (qq (pq 4)) (λ_ _ _ _=>(qu 0 (show(["ware","lay","before"]:A8).Nodup from by symm))) (λ_ _ _ _=>qm) (λ_ _ _ _=>(vI hr (za (pq 0) (za (pq 1) (za (pq 2) zb)))))) zb)))))  (zd (zl (pq 3)))))),?_⟩;exists uc (Jy T).mono (iE3 y0 n0 s0 (iA5 rfl so0 l24 l6 (λD ph H1 s1' nD hD ld=>?_)));left;intro l hl;have sl:=zf (o:=.lst []) hl;have s2:=s1'.trans sl;have nl0:=zw s1' hl;have hD2:=sl _ _ hD;have ld2:=ld.same sl;have hl2:upd H1 l (.lst []) l=some (.lst []):=pD;generalize upd H1 l (.lst [])=H2 at s2 hD2 ld2 hl2 ⊢;have hc:=so1.hc;have lc:n1.acs.length=s1.cells.length:=by rw[hc.len,zZ,ai]
 clear ld hD s1' sl;exists cut (λσ' H'=>∃(v4:Aq)(us:Ap)(oss:List (List Org)),σ'=[some (.ref y0),some (.ref y1),some (.ref D),some (.ref l),v4]/\Same H H'/\H' l=some (.lst us)/\Reps H' (λb=>H b=none/\b≠l) us (oss.map λos=>.lst (os.map zcJ))/\zat s0 s1 oss) ?_ ?_
 .walk_at"c";exists ra (s2 _ _ so1.hy) T.ad T.iK rfl ?_;refine⟨n1.lc,rfl,.inl ⟨⟨_,SqL.of (s2 _ _ hc.out)⟩,?_⟩⟩;refine qM (K:=K) (a:=n1.lc) (xs:=n1.acs.map V.ref) (λi σ H'=>∃(v4:Aq)(us:Ap)(oss:List (List Org)),σ=[some (.ref y0),some (.ref y1),some (.ref D),some (.ref l),v4]/\Same H H'/\H' D=some (.dT ph)/\LayD H' ph (λx=>x∈(s0.cells.map xK).flatten) s0.cells/\H' l=some (.lst us)/\Reps H' (λb=>H b=none/\b≠l) us (oss.map λos=>.lst (os.map zcJ))/\oss.length=i/\∀(i':Nat) os c,oss[i']?=some os->s1.cells[i']?=some c->os.length=c.length/\∀(j:Nat) o wr,os[j]?=some o->c[j]?=some wr->Vt s0 wr o)
   ⟨_,[],[],rfl,s2,hD2,ld2,hl2,.nil,rfl,λi' os c e=>by simp at e⟩ (λi σ H' _ h=>by let⟨_,_,_,_,s,_⟩:=h;exact SqL.of (s _ _ hc.out)) ?_ ?_
  .intro i x σ H3 hi p9;refine oE3 p9 λv4 us oss p6=>oA8 p6 λp8 s3 hD3 ld3 hl3 r3 lo ok3=>?_;ext;rw[am,aq]at hi;let⟨cb,hcb,rfl⟩:=hi;have hil:i<s1.cells.length:=by rw[<- lc];exact(aa.mp hcb).1
   let⟨c,ec⟩:∃c,s1.cells[i]?=some c:=⟨_,ac hil⟩;let⟨vs,hvs,rvs⟩:=hc.g i cb _ hcb (show(zZ s1.cells)[i]?=some (c.map qg) by rw[zZ,am,ec];rfl);have lv:vs.length=c.length:=by rw[rvs.len,ai]
   let⟨c6,cw⟩:=m6 c (ah ec);have lu:us.length=i:=by rw[r3.len,ai,lo]
   exists⟨.inl ⟨rfl,_,SqL.of hl3⟩,?_⟩;walk_at"d";exists⟨cb,rfl,.inl ⟨⟨_,SqL.of (s3 _ _ hvs)⟩,λ_ _ _ _ pv hacc=>?_⟩⟩;refine qM (K:=K) (a:=cb) (xs:=vs) (λj σ H'=>∃(v0:Aq)(ws:Ap)(os:List Org),σ=[v0,some (.ref D),some (.ref y0)]/\Same H3 H'/\H' pv=some (.lst ws)/\Reps H' (λb=>H3 b=none/\b≠pv) ws (os.map zcJ)/\os.length=j/\∀(j':Nat) o wr,os[j']?=some o->c[j']?=some wr->Vt s0 wr o) (iE3 _ ([]) ([]) (iA6 rfl (zf hacc) pD (.nil) rfl (λj' o wr e=>by simp at e))) (λi σ H' _ h=>by let⟨_,_,_,_,s,_⟩:=h;exact SqL.of (s _ _ (s3 _ _ hvs))) ?_ ?_
   .intro j v σ H4 hj p9;refine oE3 p9 λv0 ws os p6=>oA6 p6 λp8 s4 ha4 r4 lo4 ok4=>?_;ext;let⟨d,hd,rv⟩:=rvs.at hj;rw[am,aq]at hd;let⟨wr,hwr,rfl⟩:=hd;have hjl:j<c.length:=(aa.mp hwr).1;have s04:=s3.trans s4;have lw:ws.length=j:=by rw[r4.len,ai,lo4]
    exists uc (zb0 T).mono (iE8 v D y0 n0 s0 wr ph _ (iA7 rfl (rv.keep (λb o hb ho=>⟨hb,s04 _ _ ho⟩)) (s4 _ _ hD3) (ld3.same s4) (so0.same s04) (cw wr (ah hwr)) (λv' H5 o s5 r5 ok5=>?_)));have f6:Fr [pv] H5 (upd H5 pv (.lst (ws++[v']))):=qZ (by simp);refine⟨_,iA3 (s5 _ _ ha4) (zn (by lia)) (iE3 _ (ws++[v']) (os++[o]) (iA6 rfl (((s4.trans s5).fr.trans f6).same (by intro m hm;rw[aD.mp hm];exact hacc)) pD ?_ (by simp[lo4]) (λj' o' wr' e1 e2=>?_)))⟩
    .rw[ba];refine(r4.keep λb u hb ho=>⟨hb,f6 _ _ (λz=>hb.2 (aD.mp z)) (s5 _ _ ho)⟩).append (.one (r5.keep λb u hb ho=>?_));have hb:H4 b=none:=hb;have nb:b≠pv:=λz=>by rw[z,ha4]at hb;cases hb
     exact⟨⟨zw s4 hb,nb⟩,f6 _ _ (λz=>nb (aD.mp z)) ho⟩
    .by_cases hj':j'<os.length
     .rw[aY hj']at e1;exact ok4 j' o' wr' e1 e2
     .rw[aS (by lia)]at e1;have hz:=(aa.mp e1).1;have:j'=j:=by simp at hz;lia
      subst this;rw[lo4,gD]at e1;cases e1;rw[hwr]at e2;cases e2;exact ok5
   .intro σ H4 p9;refine oE3 p9 λv0 ws os p6=>oA6 p6 λp8 s4 ha4 r4 lo4 ok4=>?_;ext;rw[lv]at lo4;have s04:=s3.trans s4;have f6:Fr [l] H4 (upd H4 l (.lst (us++[.ref pv]))):=qZ (by simp);have nacl:pv≠l:=λz=>by rw[z,hl3]at hacc;cases hacc
    have nac0:H pv=none:=zw s3 hacc;refine iE3 l _ _ (iA5 rfl rfl (s4 _ _ hl3) (zn (by lia)) ?_);have nDl:D≠l:=λz=>by rw[z,hl3]at hD3;cases hD3
    have ld6:LayD (upd H4 l (.lst (us++[.ref pv]))) ph (λx=>x∈(s0.cells.map xK).flatten) s0.cells:=⟨ld3.n,λx v e=>by
     refine oE4 (ld3.s x v e) λt b p c p6=>oA3 p6 λe1 e2 e3=>?_;clear p6;have nt:t≠l:=λz=>by rw[z,hl3]at e2;cases e2
     exact(iE4 t b p c (iA3 e1 (by rw[pE nt];exact s4 _ _ e2) e3))⟩
    refine iE3 _ (us++[.ref pv]) (oss++[os]) (iA8 rfl ((s04.fr.trans f6).same (by intro m hm;rw[aD.mp hm];exact nl0)) (by rw[pE nDl];exact s4 _ _ hD3) ld6 pD ?_ (by simp[lo]) (λi' os' c' e1 e2=>?_))
    .rw[ba];refine(r3.keep λb u hb ho=>⟨hb,f6 _ _ (λz=>hb.2 (aD.mp z)) (s4 _ _ ho)⟩).append (.one ?_);have r6:Reps (upd H4 l (.lst (us++[.ref pv]))) (λb=>H b=none/\b≠l) ws (os.map zcJ):=r4.keep λb u hb ho=>by
      have nb:b≠l:=λz=>by rw[z,hl3]at hb;cases hb.1
      exact⟨⟨zw s3 hb.1,nb⟩,f6 _ _ (λz=>nb (aD.mp z)) ho⟩
     exact r6.mk' ⟨nac0,nacl⟩ (by rw[pE nacl];exact ha4)
    .by_cases hi':i'<oss.length
     .rw[aY hi']at e1;exact ok3 i' os' c' e1 e2
     .rw[aS (by lia)]at e1;have hz:=(aa.mp e1).1;have:i'=i:=by simp at hz;lia
      subst this;rw[lo,gD]at e1;cases e1;rw[ec]at e2;cases e2;exact⟨lo4,ok4⟩
  .intro σ H3 p9;refine oE3 p9 λv4 us oss p6=>oA8 p6 λp8 s3 hD3 ld3 hl3 r3 lo ok3=>?_;ext;rw[ai,lc]at lo;exact iE3 _ us oss (iA6 rfl s3 hl3 r3 lo ok3)
 intro σ' H3 p9;refine oE3 p9 λv4 us oss p6=>oA5 p6 λp8 s3 hl3 r3 ok3=>?_;ext;left;exact k l _ oss s3 (Reps.mk' (r3.keep λb u hb ho=>⟨hb.1,ho⟩) nl0 hl3) ok3
def OR(ρ:Ah):zy->zy->Prop
 |none,none=>True
 |some x,some y=>ρ x y
 |_,_=>False
def OR.none_iff{ρ:Ah}{x y:zy}(h:OR ρ x y):x=none↔y=none:=by
 cases x<;>cases y<;>simp[OR]at h ⊢
def RowR(ρ:Ah)(c c':Av):Prop:=c.length=c'.length/\∀p,OR ρ (c.getD p none) (c'.getD p none)
def RelC(ρ:Ah)(cs cs':Au):Prop:=cs.length=cs'.length/\∀b,RowR ρ (cs.getD b []) (cs'.getD b [])
section
variable{ρ:Ah}{c c':Av}{cs cs':Au}
def RowR.set(h:RowR ρ c c')(p:Nat){x x':zy}(hx:OR ρ x x'):RowR ρ (c.set p x) (c'.set p x'):=by
 refine⟨by rw[b6,b6];exact h.1,λq=>?_⟩;rw[qE,qE,h.1]
 split
 .exact hx
 .exact h.2 q
def RowR.fin(h:RowR ρ c c'):OR ρ (xC c) (xC c'):=by
 rw[XL,XL,h.1];exact h.2 _
def RelC.set(h:RelC ρ cs cs')(b:Nat)(hc:RowR ρ c c'):RelC ρ (cs.set b c) (cs'.set b c'):=by
 refine⟨by rw[b6,b6];exact h.1,λq=>?_⟩;rw[qE,qE,h.1]
 split
 .exact hc
 .exact h.2 q
def RelC.cell(h:RelC ρ cs cs')(b:Int):RowR ρ (zJ cs b) (zJ cs' b):=h.2 _
def RowR.mvS(h:RowR ρ c c')(p:Nat):RowR ρ (qR c p) (qR c' p):=by
 unfold qR;by_cases e:c.getD (p+1) none=none
 .rw[ao e,ao ((h.2 (p+1)).none_iff.mp e)];exact(h.set (p+1) (h.2 p)).set p trivial
 .rw[ak e,ak (λz=>e ((h.2 (p+1)).none_iff.mpr z))];exact h
theorem RowR.mvG(h:RowR ρ c c'):∀k,RowR ρ (x9 c k) (x9 c' k)
 |0=>h
 |k+1=>by rw[x9,x9,h.1];exact(RowR.mvG h k).mvS _
theorem RelC.on{bs:A1}{t t':Int}(h:RelC ρ cs cs')(ht:∀b∈bs,t%b.2=t'%b.2):∀i,RelC ρ (qd bs t cs i) (qd bs t' cs' i)
 |0=>h
 |i+1=>by
  have e:t%(bs.getD i (0,1)).2=t'%(bs.getD i (0,1)).2:=by
   rw[ae];cases z:bs[i]? with
   |none=>show t%1=t'%1;lia
   |some b=>exact ht b (ah z)
  have ih:=RelC.on h ht i;rw[qd,qd,e]
  split
  .refine ih.set i ?_;unfold WP;rw[(ih.2 i).1];exact(ih.2 i).mvG _
  .exact ih
end
structure Sim(bs:A1)(rs:At)(ρ:Ah)(s s':PSt):Prop where
 al:Alk bs rs s s'
 ce:RelC ρ s.cells s'.cells
 nw:∀(k:Nat) r (d:Nat),rs[k]?=some r->r.wd=.source->ρ ((k:Int),gAt s.gone k 0+d) ((k:Int),gAt s'.gone k 0+d)
section
variable{bs:A1}{rs:At}{ρ:Ah}{s s':PSt}
def ziF(h:Sim bs rs ρ s s')(w:stWf bs rs s)(w':stWf bs rs s')(ro:∀r∈rs,r.ok)(k:Nat):Sim bs rs ρ (qv rs s k).1 (qv rs s' k).1:=by
 let⟨a1,a2⟩:=zhn h.al w w' ro k;refine⟨a1,?_,λj r d hr hs=>?_⟩
 .unfold qv;cases hr:rs[k]? with
  |none=>exact h.ce
  |some r =>
   have ok:=ro r (ah hr);have hk:=(aa.mp hr).1;simp only;rw[<- zbP h.al.ce,<- zdU h.al.ce,<- h.al.si,<- Vi (t:=s.turn) ok (λz p=>h.al.tu _ (.inr ⟨r,ah hr,z,rfl,p⟩))];cases hc:qf r (qo rs s.cells r) (qS s.cells r) s.turn (s.sides.getD k 0).toNat with
   |none=>exact h.ce
   |some ch =>
    have sd:=w.so.2 k r _ hr (ql (d:=0) (by rw[w.so.1];exact hk));have sd':xT r ((s.sides.getD k 0).toNat:Int):=by rw[bU sd.1];exact sd
    let⟨c1,_,_,c4,_⟩:=xu ok (by simp[qo]) (by simp[qS]) sd' hc;have tk:OR ρ (zQ s k (qj r ch)).1 (zQ s' k (qj r ch)).1/\RelC ρ (zQ s k (qj r ch)).2.cells (zQ s' k (qj r ch)).2.cells:=by
     cases e:qj r ch with
     |none =>
      refine⟨?_,h.ce⟩;have hs:r.wd=.source:=by
       cases e1:ch.1 with
       |none=>exact c4 e1
       |some j =>
        unfold qj at e;rw[e1]at e;simp at e;have:=c1 j e1
        lia
      show ρ ((k:Int),(s.gone.getD k []).headD 0) ((k:Int),(s'.gone.getD k []).headD 0)
      have:=h.nw k r 0 hr hs;rw[xB,xB];simpa using this
     |some b =>
      refine⟨(h.ce.cell b).fin,?_⟩;refine h.ce.set b.toNat ?_;unfold qX;rw[(h.ce.cell b).1];exact(h.ce.cell b).set _ trivial
    show RelC ρ (movedF r s k ch).cells (movedF r s' k ch).cells
    unfold movedF;cases jJ r ch with
    |none=>exact tk.2
    |some b=>exact tk.2.set b.toNat ((tk.2.cell b).set 0 tk.1)
 .have m:=XU rs s k j 0;have e:=a2 j 0;have m:gAt s.gone j 0<=gAt (qv rs s k).1.gone j 0:=m;have:=h.nw j r ((gAt (qv rs s k).1.gone j 0-gAt s.gone j 0).toNat+d) hr hs;rw[show gAt s.gone j 0+(((gAt (qv rs s k).1.gone j 0-gAt s.gone j 0).toNat+d:Nat):Int)=gAt (qv rs s k).1.gone j 0+d by lia,show gAt s'.gone j 0+(((gAt (qv rs s k).1.gone j 0-gAt s.gone j 0).toNat+d:Nat):Int)=gAt (qv rs s' k).1.gone j 0+d by lia]at this;exact this
theorem zb9(h:Sim bs rs ρ s s')(w:stWf bs rs s)(w':stWf bs rs s')(pj:zN bs rs)(bo:∀b∈bs,zE b.1 b.2)(ro:∀r∈rs,r.ok):∀m,Sim bs rs ρ (zB rs s m).1 (zB rs s' m).1
 |0=>h
 |m+1=>ziF (zb9 h w w' pj bo ro m) (qT w pj bo ro m) (qT w' pj bo ro m) ro m
def zgn(h:Sim bs rs ρ s s')(w:stWf bs rs s)(w':stWf bs rs s')(pj:zN bs rs)(bo:∀b∈bs,zE b.1 b.2)(ro:∀r∈rs,r.ok):Sim bs rs ρ (passF bs rs s).1 (passF bs rs s').1:=by
 have i:=zb9 h w w' pj bo ro rs.length;exact⟨(zdB h.al w w' pj bo ro).1,i.ce.on (λb hb=>i.al.tu _ (.inl ⟨b,hb,rfl⟩)) _,i.nw⟩
theorem zbe(pj:zN bs rs)(bo:∀b∈bs,zE b.1 b.2)(ro:∀r∈rs,r.ok){p q:Nat}(h:Sim bs rs ρ (zj bs rs p) (zj bs rs q)):∀m,Sim bs rs ρ (zj bs rs (p+m)) (zj bs rs (q+m))
 |0=>h
 |m+1=>zgn (zbe pj bo ro h m) (qa pj bo ro _) (qa pj bo ro _) pj bo ro
end
def zku(rs:At)(s t:PSt)(x y:Int×Int):Prop:=(∃b p,atC s.cells b p=some x/\atC t.cells b p=some y)\/∃(k:Nat)(r:Row)(d:Nat),rs[k]?=some r/\r.wd=.source/\x=((k:Int),gAt s.gone k 0+d)/\y=((k:Int),gAt t.gone k 0+d)
noncomputable def zkD(s0 s1 t:PSt)(n:Nat):Org->zy
 | .no=>none
 | .kept b p=>atC t.cells b p
 | .new k m=>some ((k:Int),gAt s0.gone k 0+n*(gAt s1.gone k 0-gAt s0.gone k 0)+m)
section
variable{bs:A1}{rs:At}
def zjd{s t:PSt}(h:Alk bs rs s t):Sim bs rs (zku rs s t) s t:=by
 refine⟨h,⟨by have:=bn List.length h.ce;rw[ai,ai]at this;exact this,λb=>⟨V8 (Jd h.ce b),λp=>?_⟩⟩,λk r d hr hs=>.inr ⟨k,r,d,hr,hs,rfl,rfl⟩⟩;have e:jP rs ((s.cells.getD b []).getD p none)=jP rs ((t.cells.getD b []).getD p none):=by rw[Va,Va,Jd h.ce b]
 cases e1:(s.cells.getD b []).getD p none with
 |none =>
  rw[e1]at e;rw[(Zi _).mp e.symm]
  trivial
 |some x =>
  cases e2:(t.cells.getD b []).getD p none with
  |none=>rw[e1,e2]at e;exact absurd ((Zi _).mp e) (λz=>nomatch z)
  |some y=>exact .inl ⟨b,p,e1,e2⟩
def Alk.refl(s:PSt):Alk bs rs s s:=⟨rfl,rfl,λ_ _ _ _=>rfl,λ_ _=>rfl⟩
def Alk.trans{s t u:PSt}(h:Alk bs rs s t)(h':Alk bs rs t u):Alk bs rs s u:=⟨h.ce.trans h'.ce,h.si.trans h'.si,λj r a b=>(h.so j r a b).trans (h'.so j r a b),λn a=>(h.tu n a).trans (h'.tu n a)⟩
variable(pj:zN bs rs)(bo:∀b∈bs,zE b.1 b.2)(ro:∀r∈rs,r.ok){lim i j:Nat}
include pj bo ro
theorem ziU(lt:i<j)(al:Alk bs rs (zj bs rs i) (zj bs rs j)):∀n,Alk bs rs (zj bs rs i) (zj bs rs (i+n*(j-i)))/\∀k p,gAt (zj bs rs (i+n*(j-i))).gone k p=gAt (zj bs rs i).gone k p+n*(gAt (zj bs rs j).gone k p-gAt (zj bs rs i).gone k p)
 |0=>by
  rw[Nat.zero_mul,gG];exact⟨.refl _,λk p=>by rw[show((0:Nat):Int)=0 from rfl,Int.zero_mul,d5]⟩
 |n+1=>by
  let⟨h1,h2⟩:=ziU lt al n;let⟨g1,g2⟩:=zdz h1 pj bo ro (j-i);rw[show i+(j-i)=j by lia]at g1 g2;rw[show i+(n+1)*(j-i)=i+n*(j-i)+(j-i) by rw[fe];lia];refine⟨al.trans g1,λk p=>?_⟩;have:=g2 k p;have e:=h2 k p;rw[show((n+1:Nat):Int)=(n:Int)+1 by lia,Int.add_mul,Int.one_mul];generalize (n:Int)*(gAt (zj bs rs j).gone k p-gAt (zj bs rs i).gone k p)=z at e ⊢
  lia
variable(rd:RoundAt bs rs lim i j)
include rd
theorem zjD:∀n,Alk bs rs (zj bs rs i) (zj bs rs (i+n*(j-i)))/\∀k p,gAt (zj bs rs (i+n*(j-i))).gone k p=gAt (zj bs rs i).gone k p+n*(gAt (zj bs rs j).gone k p-gAt (zj bs rs i).gone k p):=ziU pj bo ro rd.lt (zka bo ro rd.eq)
theorem zbD(n b p:Nat){o:Org}(h:Vt (zj bs rs i) (atC (zj bs rs j).cells b p) o):atC (zj bs rs (i+(n+1)*(j-i))).cells b p=zkD (zj bs rs i) (zj bs rs j) (zj bs rs (i+n*(j-i))) n o:=by
 let⟨h1,h2⟩:=zjD pj bo ro rd n;have lt:=rd.lt;have sm:=zbe pj bo ro (zjd h1) (j-i);rw[show i+(j-i)=j by lia]at sm;rw[show i+(n+1)*(j-i)=i+n*(j-i)+(j-i) by rw[fe];lia];have orr:OR (zku rs (zj bs rs i) (zj bs rs (i+n*(j-i)))) (atC (zj bs rs j).cells b p) (atC (zj bs rs (i+n*(j-i)+(j-i))).cells b p):=(sm.ce.2 b).2 p;generalize atC (zj bs rs (i+n*(j-i)+(j-i))).cells b p=w at orr ⊢;let⟨uq,gv⟩:=VV pj bo ro i;have inq:∀{b p:Nat}{x:Int×Int},atC (zj bs rs i).cells b p=some x->∃c,(zj bs rs i).cells[b]?=some c/\c[p]?=some (some x):=λ{b p x} e=>by
  unfold atC at e;rw[ae,ae]at e;cases e1:(zj bs rs i).cells[b]? with
  |none=>rw[e1]at e;simp at e
  |some c =>
   rw[e1]at e;cases e2:c[p]? with
   |none=>rw[aO,e2]at e;cases e
   |some y=>rw[aO,e2]at e;cases e;exact⟨c,rfl,e2⟩
 have old:∀{b p:Nat}{x:Int×Int}{d:Nat}{k:Nat},atC (zj bs rs i).cells b p=some x->x≠((k:Int),gAt (zj bs rs i).gone k 0+d):=λ{b p x d k} e z=>by
  have:=gv b p x e;rw[z,ax]at this;simp only at this
  lia
 cases o with
 |no =>
  cases e:atC (zj bs rs j).cells b p with
  |none=>rw[e]at orr;exact orr.none_iff.mp rfl
  |some x=>rw[e]at h;exact h.elim
 |kept b' p' =>
  cases e:atC (zj bs rs j).cells b p with
  |none=>rw[e]at h;exact h.elim
  |some x =>
   rw[e]at h orr;let⟨c,g1,g2⟩:=h;have at1:atC (zj bs rs i).cells b' p'=some x:=by
    unfold atC;rw[ae,ae,g1,aO,g2]
    rfl
   cases w with
   |none=>exact orr.elim
   |some y =>
    rcases orr with⟨b2,p2,q1,q2⟩|⟨k,r,d,_,_,q,_⟩
    .obtain⟨rfl,rfl⟩:=uq _ _ _ _ x at1 q1;exact q2.symm
    .exact absurd q (old at1)
 |new k m =>
  cases e:atC (zj bs rs j).cells b p with
  |none=>rw[e]at h;exact h.elim
  |some x =>
   rw[e]at h orr;let⟨g1,g2,g3,_⟩:=h;cases w with
   |none=>exact orr.elim
   |some y =>
    rcases orr with⟨b2,p2,q1,_⟩|⟨k',r,d,hr,hs,rfl,rfl⟩
    .obtain⟨c,q3,q4⟩:=inq q1;exact absurd (flat_mem.mpr ⟨c,ah q3,ah q4⟩) g2
    .have ek:k'=k:=by simp only at g1;lia
     subst ek;rw[xB]at g3;simp only at g3;show some ((k':Int),gAt (zj bs rs (i+n*(j-i))).gone k' 0+(d:Int))=some ((k':Int),_)
     rw[h2 k' 0,show m=(d:Int) by lia]
end
noncomputable def lf(y0 lo lg:Addr)(L:Int):List (Str×V):=zX "growth" (.ref lg) (zX "origins" (.ref lo) (zX "length" (.int L) (zX "before" (.ref y0) [])))
def WR{y0 lo lg:Addr}:(lf y0 lo lg L).lookup ("growth":Str)=some (.ref lg):=by unfold lf;rw[zG,ao rfl]
def zcU{y0 lo lg:Addr}:(lf y0 lo lg L).lookup ("origins":Str)=some (.ref lo):=by unfold lf;rw[zG,ak (by symm),zG,ao rfl]
def QL{y0 lo lg:Addr}:(lf y0 lo lg L).lookup ("length":Str)=some (.int L):=by unfold lf;rw[zG,ak (by symm),zG,ak (by symm),zG,ao rfl]
def xt{y0 lo lg:Addr}:(lf y0 lo lg L).lookup ("before":Str)=some (.ref y0):=by unfold lf;rw[zG,ak (by symm),zG,ak (by symm),zG,ak (by symm),zG,ao rfl]
def WA(a:Ad):Sp:=λvs H Q _=>∃(z dx y0 y1:Addr)(n0 n1:SN)(s0 s1:PSt)(H0:Hp),vs=[.ref z,.ref y0,.ref y1]/\H z=some (.ins a.q dx [])/\Same H0 H/\H0 z=none/\StO a H0 y0 n0 s0/\StO a H0 y1 n1 s1/\s0.cells.length<=24/\(∀c∈s0.cells,c.length<=6)/\s1.cells.length<=24/\(∀c∈s1.cells,c.length<=6/\∀wr∈c,zg6 s0 wr)/\s0.gone.length=s1.gone.length/\s0.gone.length<=24/\(∀(i:Nat) g0 g1,s0.gone[i]?=some g0->s1.gone[i]?=some g1->g0.length=g1.length/\g0.length<=4) /\
 ∀lo lg gs oss H',Same H0 H'->H' z=some (.ins a.q dx (lf y0 lo lg (s1.turn-s0.turn)))->Rep H' (Off [z]) (.ref lo) (zdE oss)->zat s0 s1 oss->NL H' (z6 H') lg gs (qw (xg s0.gone s1.gone))->Q .non H'
def zbi(T:Txt K mg a)(F:Fun K "__init__" "Lap.__init__" ZJ f fd):FnOk P w K mg base (CXr P w) 3 f fd ["self","before","after"] (WA a):=by
 refine F.okx zaW ?_ ?_
 .walk_at"i"
 walk_at"j";refine oE5 h λz dx y0 y1 n0 p6=>oE4 p6 λn1 s0 s1 H0 p8=>oA9 p8 λpw hz sH z0 so0 so1 l0 c0 pA=>oA6 pA λl1 c1 gl g24 gr k=>?_;clear p6 p8 pA h;subst pw;walk_at"T";refine⟨_,(zi (qY (pq 0) (pq 1) rfl)  (zi (qY (pq 0) (zK x8 (zk (pq 2) rfl) (zk (pq 1) rfl)) rfl)  (zi (qY (pq 0) ‹(pq 1) (za (pq 2) zb)› rfl)  (zd (qY (pq 0) ‹(pq 1) (za (pq 2) zb)› rfl))))),?_⟩;left;have sz:∀{H':Hp}{o:HO},Same H0 H'->Same H0 (upd H' z o):=λs b o hb=>by rw[pE (pF hb z0)];exact s b o hb
 refine iE4 z a.q dx ([]) (iA6 rfl hz T.iN T.iP (by decide) ?_);have s1':=sz (o:=.ins a.q dx (zX "before" (.ref y0) [])) sH;exists ra ((so1.same s1').hy) T.ad T.iM rfl (ra ((so0.same s1').hy) T.ad T.iM rfl ?_);exists iE4 z a.q dx _ (iA6 rfl pD T.iN T.ke (by show 1<1000;decide) ?_);rw[Zc];have s2:=sz (o:=.ins a.q dx (zX "length" (.int (s1.turn-s0.turn)) (zX "before" (.ref y0) []))) sH;have hz2:upd H z (.ins a.q dx (zX "length" (.int (s1.turn-s0.turn)) (zX "before" (.ref y0) []))) z=some (.ins a.q dx (zX "length" (.int (s1.turn-s0.turn)) (zX "before" (.ref y0) []))):=pD;generalize upd H z (.ins a.q dx (zX "length" (.int (s1.turn-s0.turn)) (zX "before" (.ref y0) [])))=H2 at s2 hz2 ⊢;exists uc (zan T).mono (iE6 y0 y1 n0 n1 s0 s1 (iA8 rfl (so0.same s2) (so1.same s2) l0 c0 l1 c1 (λlo H3 oss s3 ro3 ok3=>?_)));have s03:=s2.trans s3;have hz3:=s3 _ _ hz2;refine iE4 z a.q dx _ (iA6 rfl hz3 T.iN T.kJ (by show 2<1000;decide) ?_);have s4:=sz (o:=.ins a.q dx (zX "origins" (.ref lo) (zX "length" (.int (s1.turn-s0.turn)) (zX "before" (.ref y0) [])))) s03;have r4:Rep (upd H3 z (.ins a.q dx (zX "origins" (.ref lo) (zX "length" (.int (s1.turn-s0.turn)) (zX "before" (.ref y0) []))))) (Off [z]) (.ref lo) (zdE oss):=ro3.keep λb o hb ho=>by
  have nb:b≠z:=λe=>by have hb:H2 b=none:=hb;rw[e,hz2]at hb;cases hb
  exact⟨by simp[Off,nb],by rw[pE nb];exact ho⟩
 have hz4:upd H3 z (.ins a.q dx (zX "origins" (.ref lo) (zX "length" (.int (s1.turn-s0.turn)) (zX "before" (.ref y0) [])))) z=some (.ins a.q dx (zX "origins" (.ref lo) (zX "length" (.int (s1.turn-s0.turn)) (zX "before" (.ref y0) [])))):=pD;generalize upd H3 z (.ins a.q dx (zX "origins" (.ref lo) (zX "length" (.int (s1.turn-s0.turn)) (zX "before" (.ref y0) []))))=H4 at s4 r4 hz4 ⊢;refine uc (zb3 T).mono (iE6 y0 y1 n0 n1 s0 s1 (iA7 rfl (so0.same s4) (so1.same s4) gl g24 gr (λlg gs H5 s5 ng fr=>?_)));have hz5:=s5 _ _ hz4;refine iE4 z a.q dx _ (iA6 rfl hz5 T.iN T.kx (by show 3<1000;decide) ?_);refine k lo lg gs oss _ (sz (s4.trans s5)) pD (r4.keep λb o hb ho=>?_) ok3 (ng.tup λb o hb ho=>?_)
 .have nb:b≠z:=λe=>hb (by rw[e];simp);exact⟨hb,by rw[pE nb];exact s5 _ _ ho⟩
 .have nb:b≠z:=λe=>by
   subst e;rcases hb with hb|hb|⟨xs,hb⟩
   .have:=fr lg (aU ..);rw[<- hb,hz4]at this;cases this
   .have:=fr b (ay _ hb);rw[hz4]at this;cases this
   .rw[hz5]at hb;cases hb
  rw[pE nb];exact ho
def zkM(T:Txt K mg a):KCal P w K mg base "Lap" a.q 3 ["self","before","after"] [] (WA a):=T.nQ.cal T.pd (zbi T)
structure LapO(a:Ad)(H:Hp)(z y0:Addr)(n0:SN)(s0 s1:PSt)(oss:List (List Org)):Prop where
 ex:∃dx lo lg gs,H z=some (.ins a.q dx (lf y0 lo lg (s1.turn-s0.turn)))/\Rep H (λ_=>True) (.ref lo) (zdE oss)/\NL H (z6 H) lg gs (qw (xg s0.gone s1.gone))
 so:StO a H y0 n0 s0
 ok:zat s0 s1 oss
def LapO.same{H H':Hp}{z y0:Addr}{n0:SN}{s0 s1:PSt}{oss:List (List Org)}(h:LapO a H z y0 n0 s0 s1 oss)(s:Same H H'):LapO a H' z y0 n0 s0 s1 oss:=by
 let⟨dx,lo,lg,gs,h1,h2,h3⟩:=h.ex;exact⟨⟨dx,lo,lg,gs,s _ _ h1,ju h2 s,h3.tup λb o _ hb=>s b o hb⟩,h.so.same s,h.ok⟩
def zeo(a:Ad):Sp:=λvs H Q _=>∃(z y0 t:Addr)(n0:SN)(s0 s1:PSt)(oss:List (List Org))(k:Nat)(m:Int)(n:Nat)(x:Int)(xs:A6),vs=[.ref z,.ref t,.int n]/\LapO a H z y0 n0 s0 s1 oss/\H t=some (.tup [.str "new",.int k,.int m])/\s0.gone[k]?=some (x::xs)/\s0.gone.length=s1.gone.length/\0<=gAt s1.gone k 0-x/\gAt s1.gone k 0-x<=1000/\∀t' H',Same H H'->H' t'=some (.tup [.int k,.int (x+n*(gAt s1.gone k 0-x)+m)])->Q (.ref t') H'
def Xt(T:Txt K mg a):MCal P w K mg base a.q "new_ware" 1 ["self","origin","rounds"] [] (zeo a):=T.l8.cal T.iN λF=>by
 refine F.okx Jk ?_ ?_
 .walk_at"i"
 walk_at"j";refine oE8 h λz y0 t n0 s0 s1 oss kk p6=>oE4 p6 λm n x xs p8=>oA8 p8 λpw lo ht hg le d0 d1 k=>?_;clear p6 p8 h;subst pw;refine oE4 lo.ex λdx l1 lg gs p6=>oA3 p6 λhz _ ng=>?_;clear p6;have hk:=(aa.mp hg).1;let⟨g1,e1⟩:∃g,s1.gone[kk]?=some g:=⟨_,ac (by rw[<- le];exact hk)⟩;have eg:(xg s0.gone s1.gone)[kk]?=some (w9 (x::xs) g1):=by unfold xg;rw[g6,hg,e1]
 have eG:gAt s1.gone kk 0=g1.getD 0 0:=by unfold gAt;rw[ae (l:=s1.gone),e1];rfl
 let⟨b0,hb0,h0⟩:=xf lo.so.hg hg;let⟨b1,hb1,h1⟩:=xf ng eg;have eF:(w9 (x::xs) g1)[0]?=some (g1.getD 0 0-x):=by unfold w9;rw[am,iy (by simp)];rfl
 rw[eG]at d0 d1 k;walk_at"T";refine⟨_,(zi (zu 3 Jk.nd (zo (pq 1) ze))  (zi (zu 4 Jk.nd (zK qk (zo (zo (zk (zk (pq 0) rfl) rfl) (pq 3)) ze) (zK vK (pq 2) (zo (zo (zk (pq 0) rfl) (pq 3)) ze))))  (zd (zl (jq (za (pq 3) (za (zK qk (pq 4) (zo (pq 1) ze)) zb))))))),?_⟩;exists pH ht (show atI _ 1=some (.int kk)from rfl) ?_;exists ra hz T.iN T.iP xt (ra lo.so.hy T.ad T.iJ rfl (zq (SqL.of lo.so.hg.out) (zt (by rw[am,hb0];rfl)) (zq (SqL.of h0) at0 ?_)));refine ra hz T.iN T.kx WR (zq (SqL.of ng.out) (zt (by rw[am,hb1];rfl)) (zq (SqL.of h1) (show atI _ ((0:Nat):Int)=some (.int (g1.getD 0 0-x))from zt (qV eF)) ?_));refine⟨mul_okR (by lia) (by lia),?_⟩;exists pH ht (show atI _ 2=some (.int m)from rfl) ?_;left;exactλp hp=>k p _ (zf hp) pD
noncomputable def zbI(O:Nat×Nat->Org)(q:Nat×Nat):Option (Nat×Nat):=match O q with
 | .kept b p=>some (b,p)
 |_=>none
noncomputable def chn(O:Nat×Nat->Org)(q0:Nat×Nat):Nat->Option (Nat×Nat)
 |0=>some q0
 |t+1=>(chn O q0 t).bind (zbI O)
def ziH(C:Nat->Nat×Nat->zy)(O:Nat×Nat->Org)(q0:Nat×Nat)(N left:Nat)(q:Nat×Nat):Prop:=∃t,chn O q0 t=some q/\C N q0=C left q/\((t+left=N/\∀u,0<u->u<=t->chn O q0 u≠some q0)\/∃d,t+left<d/\∀u,0<u->u<d->chn O q0 u≠some q0)
section
variable{C:Nat->Nat×Nat->zy}{O:Nat×Nat->Org}{ok:Nat×Nat->Prop}(hC:∀n q b p,ok q->O q=.kept b p->C (n+1) q=C n (b,p))(hk:∀q b p,ok q->O q=.kept b p->ok (b,p)){q0:Nat×Nat}(h0:ok q0)
include hC hk h0
theorem zg7:∀t q,chn O q0 t=some q->ok q/\∀m,C (m+t) q0=C m q
 |0,q,h=>by cases h;exact⟨h0,λ_=>rfl⟩
 |t+1,q,h=>by
  let⟨q1,h1,h2⟩:=aR.mp h;let⟨o1,c1⟩:=zg7 t q1 h1;unfold zbI at h2
  split at h2
  .rename_i b p e;cases h2;exact⟨hk q1 b p o1 e,λm=>by rw[show m+(t+1)=m+1+t by lia,c1 (m+1),hC m q1 b p o1 e]⟩
  .cases h2
theorem zim{d:Nat}(hd:chn O q0 d=some q0)(d0:0<d)(m:Nat):C m q0=C (m%d) q0:=by
 have:=(zg7 hC hk h0 d q0 hd).2
 induction m using Nat.strongRecOn with
 |_ m ih =>
  by_cases h:m<d
  .rw[cH h]
  .rw[iE (by lia),<- ih (m-d) (by lia),<- this (m-d),show m-d+d=m by lia]
theorem zft{N l:Nat}{q:Nat×Nat}(h:ziH C O q0 N (l+1) q){b p:Nat}(e:O q=.kept b p):((b,p)≠q0->ziH C O q0 N l (b,p))/\((b,p)=q0->0<N-l/\ziH C O q0 N (l%(N-l)) q0):=by
 let⟨t,h1,h2,h3⟩:=h;have nx:chn O q0 (t+1)=some (b,p):=by
  show(chn O q0 t).bind (zbI O)=_
  rw[h1];show zbI O q=_
  unfold zbI;rw[e]
 have cq:C N q0=C l (b,p):=by rw[h2,hC l q b p (zg7 hC hk h0 t q h1).1 e]
 refine⟨λne=>⟨t+1,nx,cq,?_⟩,λeq=>?_⟩
 .rcases h3 with⟨a1,a2⟩|⟨d,a1,a2⟩
  .refine .inl ⟨by lia,λu u0 ul=>?_⟩;by_cases z:u=t+1
   .rw[z,nx];exactλy=>ne (aF y)
   .exact a2 u u0 (by lia)
  .exact .inr ⟨d,by lia,a2⟩
 .rcases h3 with⟨a1,a2⟩|⟨d,a1,a2⟩
  .refine⟨by lia,0,rfl,?_,.inr ⟨t+1,?_,λu u0 ul=>a2 u u0 (by lia)⟩⟩
   .rw[cq,eq,show N-l=t+1 by lia];exact zim hC hk h0 (by rw[nx,eq]) (by lia) l
   .rw[show N-l=t+1 by lia,gC];exact cD _ (by lia)
  .exact absurd (nx.trans (by rw[eq])) (a2 (t+1) (by lia) (by lia))
end
def zbA{y0 lo lg:Addr}{x:Str}(h1:x≠"before")(h2:x≠"length")(h3:x≠"origins")(h4:x≠"growth"):(lf y0 lo lg L).lookup x=none:=by
 unfold lf;rw[zG,ak h4,zG,ak h3,zG,ak h2,zG,ak h1]
 rfl
def LapO.org{z y0:Addr}{n0:SN}{s0 s1:PSt}{oss:List (List Org)}(h:LapO a H z y0 n0 s0 s1 oss){b p:Nat}{os:List Org}{o:Org}(e1:oss[b]?=some os)(e2:os[p]?=some o):∃dx lo lg us bl vs v,H z=some (.ins a.q dx (lf y0 lo lg (s1.turn-s0.turn)))/\H lo=some (.lst us)/\us[b]?=some (.ref bl)/\H bl=some (.lst vs)/\vs[p]?=some v/\Rep H (λ_=>True) v (zcJ o):=by
 let⟨dx,lo,lg,gs,hz,r,_⟩:=h.ex;let⟨l0,us,e,_,hl,ru⟩:=Rep.lst' r;cases e;have hb:b<us.length:=by rw[ru.len,ai];exact(aa.mp e1).1
 let⟨d,hd,rb⟩:=ru.at (ac hb);rw[am,e1]at hd;cases hd;let⟨bl,vs,e,_,hbl,rv⟩:=Rep.lst' rb;have hp:p<vs.length:=by rw[rv.len,ai];exact(aa.mp e2).1
 let⟨d,hd,rp⟩:=rv.at (ac hp);rw[am,e2]at hd;cases hd;exact⟨dx,lo,lg,us,bl,vs,vs[p],hz,hl,by rw[<- e];exact ac hb,hbl,ac hp,rp⟩
def zkk{x:Str}{m:Int}(h:Rep H p v (.tup [.str x,.int k,.int m])):∃t,v=.ref t/\H t=some (.tup [.str x,.int k,.int m]):=by
 let⟨t,us,rfl,_,ht,rr⟩:=Rep.tup' h;have g:=rr.g;let⟨x0,_,rfl,h1⟩:=zai rr.len;let⟨x1,x2,rfl⟩:=two_of h1;have a0:=g 0 x0 _ rfl rfl;have a1:=g 1 x1 _ rfl rfl;have a2:=g 2 x2 _ rfl rfl;cases a0;cases a1;cases a2;exact⟨t,rfl,ht⟩
def zkd(rs:At)(st:PSt)(k i p:Nat):gAt (qv rs st k).1.gone i p<=gAt st.gone i p+if i=k then 1 else 0:=by
 unfold qv;have z:gAt st.gone i p<=gAt st.gone i p+if i=k then 1 else 0:=by split<;>lia
 cases rs[k]? with
 |none=>exact z
 |some r =>
  simp only;cases qf r (qo rs st.cells r) (qS st.cells r) st.turn (st.sides.getD k 0).toNat with
  |none=>exact z
  |some ch =>
   let⟨_,_,c3⟩:=movedF_keep (r:=r) (st:=st) (k:=k) (ch:=ch);show gAt ((movedF r st k ch).gone.set k _) i p<=_
   rw[c3];unfold gAt;rw[qE]
   split
   .rename_i h;let⟨rfl,_⟩:=h;rw[ao rfl];unfold wz;rw[qE]
    split
    .rename_i h;rw[h.1];exact b9 _
    .lia
   .exact z
theorem zeb(rs:At)(st:PSt)(i p:Nat):∀m,gAt (zB rs st m).1.gone i p<=gAt st.gone i p+if i<m then 1 else 0
 |0=>by rw[ak (Nat.not_lt_zero _)];exact Int.le_of_eq (d5 _).symm
 |m+1=>by
  have h1:=zeb rs st i p m;have h2:=zkd rs (zB rs st m).1 m i p;show gAt (qv rs (zB rs st m).1 m).1.gone i p<=_
  by_cases e:i=m
  .rw[ao e]at h2;rw[ak (by lia)]at h1;rw[ao (by lia)]
   lia
  .rw[ak e]at h2;by_cases h:i<m
   .rw[ao h]at h1;rw[ao (by lia)]
    lia
   .rw[ak h]at h1;rw[ak (by lia)]
    lia
theorem VW(bs:A1)(rs:At)(k p:Nat):∀n:Nat,gAt (zj bs rs n).gone k p<=n
 |0=>by
  show gAt (rs.map qH) k p<=0
  unfold gAt;rw[ae,ae,am];cases rs[k]? with
  |none=>exact b9 _
  |some r =>
   show((qH r)[p]?).getD 0<=0
   unfold qH;rw[cz]
   split<;>exact b9 _
 |n+1=>by
  have h1:=VW bs rs k p n;have h2:=zeb rs (zj bs rs n) k p rs.length;show gAt (zB rs (zj bs rs n) rs.length).1.gone k p<=_
  split at h2<;>lia
def zaI(a:Ad):Sp:=λvs H Q _=>∃(z y0 t:Addr)(n0:SN)(oss:List (List Org))(bs:A1)(rs:At)(lim i j N b p:Nat)(c:Av),vs=[.ref z,.ref t,.int N]/\LapO a H z y0 n0 (zj bs rs i) (zj bs rs j) oss/\zN bs rs/\(∀b∈bs,zE b.1 b.2)/\(∀r∈rs,r.ok)/\RoundAt bs rs lim i j/\lim<=1000/\H t=some (.tup [.int b,.int p])/\(zj bs rs i).cells[b]?=some c/\p<c.length/\∀v H',Same H H'->Rep H' (z6 H') v (qg (atC (zj bs rs (i+N*(j-i))).cells b p))->Q v H'
theorem QJ(T:Txt K mg a):MCal P w K mg base a.q "ware_after" 2 ["self","first","rounds"] [] (zaI a):=T.ly.cal T.iN λF=>by
 refine F.okx Z1 ?_ ?_
 .walk_at"i"
 walk_at"j";refine oE8 h λz y0 t n0 oss bs rs lim p6=>oE6 p6 λi j N b p c p8=>oA9 p8 λpw lo pj bo ro rd l1000 ht pA=>oA3 pA λhc hp k=>?_;clear p6 p8 pA h;subst pw;have w0:=qa pj bo ro i;have w1:=qa pj bo ro j;let C:Nat->Nat×Nat->zy:=λn q=>atC (zj bs rs (i+n*(j-i))).cells q.1 q.2;let O:Nat×Nat->Org:=λq=>(oss.getD q.1 []).getD q.2 .no;let ok:Nat×Nat->Prop:=λq=>∃c,(zj bs rs i).cells[q.1]?=some c/\q.2<c.length;have hO:∀q,ok q->∃os,oss[q.1]?=some os/\os[q.2]?=some (O q)/\Vt (zj bs rs i) (atC (zj bs rs j).cells q.1 q.2) (O q):=λq ⟨c,h1,h2⟩=>by
  have hq:=(aa.mp h1).1;have eb:=ac (l:=bs) (i:=q.1) (by rw[<- w0.co.1];exact hq);let⟨c1,e1⟩:∃c1,(zj bs rs j).cells[q.1]?=some c1:=⟨_,ac (by rw[w1.co.1,<- w0.co.1];exact hq)⟩;have l1:c1.length=c.length:=by rw[(w1.co.2 q.1 _ c1 eb e1).1,(w0.co.2 q.1 _ c eb h1).1]
  let⟨os,e2⟩:∃os,oss[q.1]?=some os:=⟨_,ac (by rw[lo.ok.1];exact(aa.mp e1).1)⟩;let⟨l2,g⟩:=lo.ok.2 q.1 os c1 e2 e1;let⟨o,e3⟩:∃o,os[q.2]?=some o:=⟨_,ac (by lia)⟩;let⟨wr,e4⟩:∃wr,c1[q.2]?=some wr:=⟨_,ac (by lia)⟩;have eO:O q=o:=by
   show(oss.getD q.1 []).getD q.2 .no=o
   rw[ae,ae,e2,aO,e3]
   rfl
  have eW:atC (zj bs rs j).cells q.1 q.2=wr:=by
   unfold atC;rw[ae,ae,e1,aO,e4]
   rfl
  rw[eO,eW];exact⟨os,iA3 e2 e3 (g q.2 o wr e3 e4)⟩
 have hC:∀n q b p,ok q->O q=.kept b p->C (n+1) q=C n (b,p):=λn q b p hq e=>by
  refine oE1 (hO q hq) λ_ p6=>oA3 p6 λ_ _ g=>?_;clear p6;rw[e]at g;exact zbD pj bo ro rd n q.1 q.2 g
 have hk:∀q b p,ok q->O q=.kept b p->ok (b,p):=λq b p hq e=>by
  refine oE1 (hO q hq) λ_ p6=>oA3 p6 λ_ _ g=>?_;clear p6;rw[e]at g;cases e1:atC (zj bs rs j).cells q.1 q.2 with
  |none=>rw[e1]at g;exact g.elim
  |some x =>
   rw[e1]at g;let⟨c,g1,g2⟩:=g;exact⟨c,g1,(aa.mp g2).1⟩
 walk_at"T";refine⟨_,(zi (zu 3 Z1.nd (pq 1))  (zi (zu 4 Z1.nd (pq 2))  (zi (zba qQ (zm Q5 (pq 4) ze (zr _))  (zi (zu 5 Z1.nd (zo (zo (zk (pq 0) rfl) (zo (pq 3) ze)) (zo (pq 3) ze)))  (zi (zF (zm jr (pq 5) zC (zr _))  (zd (zl zC))  zp)  (zi (zjl (i:=4) Z1.nd rfl (Or.inl rfl) ze zjR)  (zi (zF (zm (qB hr.units1) (zo (pq 5) ze) zS (zr _))  (zd (zl (QH ⟨rfl,rfl,rfl⟩ hr (pq 0) (za (pq 5) (za (pq 4) zb)))))  zp)  (zi (zu 3 Z1.nd (jq (za (zo (pq 5) ze) (za (zo (pq 5) ze) zb))))  (zd (zF (zm (qB hr.units1) (pq 3) (pq 1) (zr _))  (zd (zu 4 Z1.nd (zK js (pq 4) (zK x8 (pq 2) (pq 4)))))  zp))))))))  (zd (zl (zo (zo (zk (zk (pq 0) rfl) rfl) (zo (pq 3) ze)) (zo (pq 3) ze))))))),?_⟩;left;have ok0:ok (b,p):=⟨c,hc,hp⟩;have k:∀v H',Same H H'->Rep H' (z6 H') v (qg (C N (b,p)))->Q v H':=k;refine⟨λl σ H'=>∃(tc:Addr)(q:Nat×Nat)(v5:Aq),σ=[some (.ref z),some (.ref t),some (.int N),some (.ref tc),some (.int l),v5]/\Same H H'/\H' tc=some (.tup [.int q.1,.int q.2])/\ziH C O (b,p) N l q/\ok q,(iE4 N t (b,p) none (iA5 rfl (Same.refl _) ht ⟨0,iA3 rfl rfl (.inl ⟨by lia,λu u0 ul=>absurd u0 (by lia)⟩)⟩ ok0)),?_⟩;intro l σ H1 p9;refine oE3 p9 λtc q v5 p6=>oA5 p6 λp8 s1 htc bk okq=>?_;ext;have lo1:=lo.same s1;have ceq:C N (b,p)=C l q:=bk.choose_spec.2.1;exists zT (λhl=>?_) (λhl=>?_)
 .obtain⟨l,rfl⟩:∃l',l=l'+1:=⟨l-1,by lia⟩;refine zkv ?_;refine oE1 (hO q okq) λos p6=>oA3 p6 λe1 e2 og=>?_;clear p6;refine oE7 (lo1.org e1 e2) λdx lo' lg us bl vs v p6=>oA6 p6 λhz hlo hus hbl hvs rv=>?_;clear p6;have lc:=zbD pj bo ro rd l q.1 q.2 og;exists ra hz T.iN T.kJ zcU (pH htc at0 (zq (SqL.of hlo) (zt hus) (pH htc (show atI _ 1=some (.int q.2)from rfl) (zq (SqL.of hbl) (zt hvs) ?_))));cases eo:O q with
  |no =>
   rw[eo]at rv lc;have rv:Rep H1 (λ_=>True) v .non:=rv;cases rv;left;exact k _ H1 s1 (by rw[ceq];show Rep H1 _ _ (qg (atC _ _ _));rw[lc];exact .non)
  |new kk m =>
   rw[eo]at rv lc;let⟨to,rfl,hto⟩:=zkk rv;rw[eo]at og;let⟨x,xs,hg⟩:∃x xs,(zj bs rs i).gone[kk]?=some (x::xs):=by
    cases e3:atC (zj bs rs j).cells q.1 q.2 with
    |none=>rw[e3]at og;exact og.elim
    |some w2=>rw[e3]at og;let⟨_,_,_,g0,gs,h⟩:=og;exact⟨g0,gs,h⟩
   have ex:gAt (zj bs rs i).gone kk 0=x:=by unfold gAt;rw[ae (l:=(zj bs rs i).gone),hg];rfl
   have mo:gAt (zj bs rs i).gone kk 0<=gAt (zj bs rs j).gone kk 0:=by
    have:=QG bs rs i kk 0 (j-i);have lt:=rd.lt;rw[show i+(j-i)=j by lia]at this;exact this
   have up:=VW bs rs kk 0 j;have x0:0<=gAt (zj bs rs i).gone kk 0:=by
    have hkk:=(aa.mp hg).1;have er:=ac (l:=rs) (i:=kk) (by rw[<- w0.go.1];exact hkk);rw[ex];exact(w0.go.2 kk _ _ er hg).2 x (aU ..)
   have jl:=rd.le;change _=some ((kk:Int),gAt (zj bs rs i).gone kk 0+(l:Int)*(gAt (zj bs rs j).gone kk 0-gAt (zj bs rs i).gone kk 0)+m)at lc;rw[ex]at mo x0 lc;exists pH hto at0 ?_;left;rw[show((l+1:Nat):Int)-1=(l:Int) by lia];refine iE7 z a.q dx _ _ _ _ (iA5 rfl hz (zbA (by symm) (by symm) (by symm) (by symm)) ((Xt T).mono) ⟨z,y0,to,n0,_,_,oss,kk,m,l,x,xs,rfl,lo1,hto,hg,by rw[w0.go.1,w1.go.1],by lia,by lia,λt' H' s' ht'=>k _ _ (s1.trans s') ?_⟩);rw[ceq];show Rep H' _ _ (qg (atC _ _ _))
   rw[lc];exact Reps.mkT (vs:=[.int kk,.int (x+l*(gAt (zj bs rs j).gone kk 0-x)+m)]) (.cons .int (.cons .int .nil)) ⟨_,ht'⟩ ht'
  |kept b' p' =>
   rw[eo]at rv lc;let⟨to,rfl,hto⟩:=zkk (m:=(p':Int)) rv;let⟨n1,n2⟩:=zft hC hk ok0 bk eo;have okn:=hk q b' p' okq eo;exists pH hto at0 ?_;exists zT (λz=>absurd z (by symm)) λ_=>pH hto (show atI _ 1=some (.int b')from rfl) (pH hto (show atI _ 2=some (.int p')from rfl) λp1 hp1=>?_);have s2:=zf (o:=.tup [.int b',.int p']) hp1;have h2:upd H1 p1 (.tup [.int b',.int p']) p1=some (.tup (iv [(b':Int),(p':Int)])):=pD;have ht2:upd H1 p1 (.tup [.int b',.int p']) t=some (.tup (iv [(b:Int),(p:Int)])):=s2 _ _ (s1 _ _ ht);refine .inr (.inl (iE4 p1 t _ _ (iA6 rfl rfl (.inr ⟨SqT.of h2,SqT.of ht2⟩) rfl rfl ?_)));rw[show((l+1:Nat):Int)-1=(l:Int) by lia,ZD];by_cases e3:(b',p')=(b,p)
   .obtain⟨d0,bk2⟩:=n2 e3;rw[bc (by cases e3;rfl)];refine⟨by lia,⟨l%(N-l),⟨?_,iE3 p1 (b,p) (some (.ref to)) (iA5 ?_ (s1.trans s2) ?_ bk2 ok0)⟩⟩⟩
    .exact Nat.lt_succ_of_le (Nat.mod_le _ _)
    .rw[show(l:Int)%((N:Int)-l)=((l%(N-l):Nat):Int) by rw[fu,Int.natCast_sub (by lia)]]
    .cases e3;exact pD
   .rw[aT (λz=>e3 (by simp at z;exact Prod.ext (by show b'=b;lia) (by show p'=p;lia)))];exact⟨l,⟨by lia,iE3 p1 (b',p') _ (iA5 rfl (s1.trans s2) pD (n1 e3) okn)⟩⟩
 .have l0:l=0:=by lia
  subst l0;let⟨c1,g1,g2⟩:=okq;refine oE4 lo1.ex λdx lo' lg gs p6=>oA3 p6 λhz _ _=>?_;clear p6;let⟨bq,us,hb,hu,ru⟩:=lo1.so.hc.at (i:=q.1) (xs:=c1.map qg) (by rw[zZ,am,g1];rfl);have lu:us.length=c1.length:=by rw[ru.len,ai]
  let⟨v,hv⟩:∃v,us[q.2]?=some v:=⟨_,ac (by lia)⟩;let⟨d,hd,rv⟩:=ru.at hv;rw[am,aq]at hd;let⟨wr,hwr,rfl⟩:=hd;exists ra hz T.iN T.iP xt (ra lo1.so.hy T.ad T.iK rfl (pH htc at0 (zq (SqL.of lo1.so.hc.out) (zt (by rw[am,hb];rfl)) (pH htc (show atI _ 1=some (.int q.2)from rfl) (zq (SqL.of hu) (zt hv) (k _ H1 s1 ?_))))));have e0:C 0 q=wr:=by
   show atC (zj bs rs (i+0*(j-i))).cells q.1 q.2=wr
   rw[Nat.zero_mul,gG];unfold atC;rw[ae,ae,g1,aO,hwr]
   rfl
  rw[ceq,e0];exact rv
def VB(a:Ad):Sp:=λvs H Q _=>∃(z y0:Addr)(n0:SN)(oss:List (List Org))(bs:A1)(rs:At)(lim i j N:Nat),vs=[.ref z,.int N]/\LapO a H z y0 n0 (zj bs rs i) (zj bs rs j) oss/\zN bs rs/\(∀b∈bs,zE b.1 b.2)/\(∀r∈rs,r.ok)/\RoundAt bs rs lim i j/\lim<=1000/\∀l H',Same H H'->Rep H' (Off []) (.ref l) (.lst ((zZ (zj bs rs (i+N*(j-i))).cells).map D.lst))->Q (.ref l) H'
def Qj(T:Txt K mg a):MCal P w K mg base a.q "cells_after" 3 ["self","rounds"] [] (VB a):=T.kX.cal T.iN λF=>by
 refine F.okx ZH ?_ ?_
 .walk_at"i"
 walk_at"j";refine oE8 h λz y0 n0 oss bs rs lim i p6=>oE2 p6 λj N p8=>oA8 p8 λpw lo pj bo ro rd l1000 k=>?_;clear p6 p8 h;subst pw;have w0:=qa pj bo ro i;have wN:=qa pj bo ro (i+N*(j-i));have lc:n0.acs.length=bs.length:=by rw[lo.so.hc.len,zZ,ai,w0.co.1]
 have b24:=pj.1.1.2;walk_at"T";refine⟨_,(zi (zu 2 ZH.nd (zO zb))  (zi (qy qQ rfl (qU (za (zk (zk (pq 0) rfl) rfl) zb)) (wH (n:=2) rfl (qt (Zf (i:=3) ZH.nd rfl (Or.inr rfl)) (qt (qu 4 ZH.nd) xj)))  (zd (zH (qA ar aA az zV (pq 2) (za (jF (vars:=["place"]) (caps:=[1,0,3]) (N:=["place","rounds","self","belt"]) (ON:=["self","rounds","cells","belt","old"]) (osc:=zg jL) rfl rfl (by right) rfl rfl (xb (za (zM zR zP (za (pq 4) zb)) zb)) (λ_ _ _ _=>(qu 0 (show(["place","rounds","self","belt"]:A8).Nodup from by symm))) (λ_ _ _ _=>qm) (λ_ _ _ _=>(zhV hr (pq 2) (za (jq (za (pq 3) (za (pq 0) zb))) (za (pq 1) zb))))) zb)))))  (zd (zl (pq 2))))),?_⟩;left;intro C hC;have sC:=zf (o:=.lst []) hC;have hC1:upd H C (.lst []) C=some (.lst []):=pD;generalize upd H C (.lst [])=H1 at sC hC1 ⊢;refine oE4 lo.ex λdx lo' lg gs p6=>oA3 p6 λhz _ _=>?_;clear p6;walk_at"c";exists ra (sC _ _ hz) T.iN T.iP xt (ra ((lo.so.same sC).hy) T.ad T.iK rfl (iE2 n0.lc _ (iA3 rfl (sC _ _ lo.so.hc.out) ?_)));refine XH (K:=K) (a:=n0.lc) (xs:=n0.acs.map V.ref) (λb σ H'=>∃(v3 v4:Aq)(us:Ap),σ=[some (.ref z),some (.int N),some (.ref C),v3,v4]/\Same H H'/\H' C=some (.lst us)/\Reps H' (Off [C]) us ((zZ ((zj bs rs (i+N*(j-i))).cells.take b)).map D.lst)) (iE3 _ _ ([]) (iA4 rfl sC hC1 (by rw[bW];exact .nil))) (λb σ H' _ h=>by let⟨_,_,_,_,s,_⟩:=h;exact SqL.of (s _ _ lo.so.hc.out)) ?_ ?_
 .intro b x t σ H2 hb ht p9;refine oE3 p9 λv3 v4 us p6=>oA4 p6 λp8 s2 hC2 ru=>?_;ext;rw[am,aq]at hb;let⟨cb,hcb,rfl⟩:=hb;have hbl:b<bs.length:=by rw[<- lc];exact(aa.mp hcb).1
  have eb:=ac hbl;let⟨c,ec⟩:∃c,(zj bs rs i).cells[b]?=some c:=⟨_,ac (by rw[w0.co.1];exact hbl)⟩;let⟨cN,eN⟩:∃c,(zj bs rs (i+N*(j-i))).cells[b]?=some c:=⟨_,ac (by rw[wN.co.1];exact hbl)⟩;have l1:=(w0.co.2 b _ c eb ec).1;have l2:=(wN.co.2 b _ cN eb eN).1;have bk:=(bo _ (ah eb)).2.1;let⟨vs,hvs,rvs⟩:=lo.so.hc.g b cb _ hcb (show(zZ (zj bs rs i).cells)[b]?=some (c.map qg) by rw[zZ,am,ec];rfl);have lv:vs.length=c.length:=by rw[rvs.len,ai]
  have lus:us.length<=b:=by rw[ru.len,ai,ai,aQ];exact fE _ _
  have st:=zf (o:=.tup [.int b,.ref cb]) ht;have s3:=s2.trans st;have hC3:=st _ _ hC2;have ru3:=ru.same st;refine un2 pD ?_;generalize upd H2 t (.tup [.int b,.ref cb])=H3 at s3 hC3 ru3 ⊢;left;walk_at"d";exists iA4 (.inl ⟨rfl,_,SqL.of hC3⟩) kS iV ⟨_,⟨.inl ⟨_,SqL.of (s3 _ _ hvs),rfl⟩,?_⟩⟩;rw[lv];refine⟨by lia,by lia,λ_ _ _ _ Z hZ=>?_⟩;have nZC:Z≠C:=(pF hC3 hZ).symm;refine va (n:=((c.length:Nat):Int).toNat) (λq σ H'=>∃(v0:Aq)(ws:Ap),σ=[v0,some (.int N),some (.ref z),some (.int b)]/\Same H3 H'/\H' Z=some (.lst ws)/\Reps H' (Off [C,Z]) ws ((cN.take q).map qg)) (iE2 _ ([]) (iA4 rfl (zf hZ) pD (by rw[bW];exact .nil))) ?_ ?_
  .intro q σ H4 hq p9;refine oE2 p9 λv0 ws p6=>oA4 p6 λp8 s4 hZ4 rw4=>?_;ext;rw[ax]at hq;have s34:=s3.trans s4;have lo4:=lo.same s34;let⟨wr,hwr⟩:∃wr,cN[q]?=some wr:=⟨_,ac (by rw[l2,<- l1];exact hq)⟩;have lw:ws.length<=q:=by rw[rw4.len,ai,aQ];exact fE _ _
   left;simp only[ck];refine iE7 z a.q dx _ _ _ _ (iA5 rfl (s34 _ _ hz) (zbA (by symm) (by symm) (by symm) (by symm)) ((QJ T).mono) (λt2 ht2=>?_));have s5:=zf (o:=.tup [.int b,.int q]) ht2;refine iE8 z y0 t2 n0 oss bs rs lim (iE6 i j N b q c (iA9 rfl (lo4.same s5) pj bo ro rd l1000 pD (iA3 ec hq (λv H6 s6 rv=>?_))));have atN:atC (zj bs rs (i+N*(j-i))).cells b q=wr:=by
    unfold atC;rw[ae,ae,eN,aO,hwr]
    rfl
   rw[atN]at rv;have s46:=s5.trans s6;have hZ6:=s46 _ _ hZ4;have hC6:=s46 _ _ (s4 _ _ hC3);have fm:Fr [C,Z] H6 (upd H6 Z (.lst (ws++[v]))):=qZ (by simp);refine⟨_,iA3 hZ6 (zn (by lia)) (iE2 _ (ws++[v]) (iA4 rfl (λb o hb=>by rw[pE (pF hb hZ)];exact s46 _ _ (s4 b o hb)) pD ?_))⟩;rw[aI,hwr,ba];refine((rw4.same s46).fr fm).append (.one (Rep.fr (rv.keep λb o hb ho=>⟨λe=>?_,ho⟩) fm));let⟨xs,hx⟩:=hb;simp only[av,bL,cn]at e;rcases e with rfl|rfl
   .rw[hC6]at hx;cases hx
   .rw[hZ6]at hx;cases hx
  intro σ H4 p9;refine oE2 p9 λv0 ws p6=>oA4 p6 λp8 s4 hZ4 rw4=>?_;ext;rw[ax,show c.length=cN.length from l1.trans l2.symm,aN]at rw4;have fm:Fr [C] H4 (upd H4 C (.lst (us++[.ref Z]))):=qZ (by simp);have lo':∀b∈[C],b∈[C,Z]\/H4 b=none:=λb hb=>.inl (by simp[aD.mp hb]);refine iE3 C _ _ (iA5 rfl rfl (s4 _ _ hC3) (zn (by lia)) ?_);refine iE3 _ _ (us++[.ref Z]) (iA4 rfl (λb o hb=>by rw[pE (pF hb hC)];exact s4 _ _ (s3 b o hb)) pD ?_);rw[aI,eN,eY,show(zZ ((zj bs rs (i+N*(j-i))).cells.take b++[cN])).map D.lst=(zZ ((zj bs rs (i+N*(j-i))).cells.take b)).map D.lst++[.lst (cN.map qg)] by simp[zZ]];exact((ru3.same s4).append (.one ((rw4.more lo').mk' (by simp[Off,nZC]) hZ4))).fr fm
 .intro σ H2 p9;refine oE3 p9 λv3 v4 us p6=>oA4 p6 λp8 s2 hC2 ru=>?_;ext;rw[ai,lc,<- wN.co.1,aN]at ru;left;exact k C H2 s2 (ru.all.mk' (λz=>nomatch z) hC2)
def zaM(a:Ad):Sp:=λvs H Q _=>∃(z y0:Addr)(n0:SN)(oss:List (List Org))(bs:A1)(rs:At)(lim i j N:Nat),vs=[.ref z,.int N]/\LapO a H z y0 n0 (zj bs rs i) (zj bs rs j) oss/\zN bs rs/\(∀b∈bs,zE b.1 b.2)/\(∀r∈rs,r.ok)/\RoundAt bs rs lim i j/\lim<=1000/\∀l H',Same H H'->Rep H' (Off []) (.ref l) (.lst ((qw (zj bs rs (i+N*(j-i))).gone).map D.lst))->Q (.ref l) H'
def QK(T:Txt K mg a):MCal P w K mg base a.q "gone_after" 1 ["self","rounds"] [] (zaM a):=T.lz.cal T.iN λF=>by
 refine F.okx Z2 ?_ ?_
 .walk_at"i"
 walk_at"j";refine oE8 h λz y0 n0 oss bs rs lim i p6=>oE2 p6 λj N p8=>oA8 p8 λpw lo pj bo ro rd l1000 k=>?_;clear p6 p8 h;subst pw;have w0:=qa pj bo ro i;have w1:=qa pj bo ro j;have wN:=qa pj bo ro (i+N*(j-i));refine oE4 lo.ex λdx lo' lg gs p6=>oA3 p6 λhz _ ng=>?_;clear p6;have la:n0.ags.length=rs.length:=by rw[lo.so.hg.len,qw,ai,w0.go.1]
 have lb:gs.length=rs.length:=by rw[ng.len,qw,ai,xg,iw,w0.go.1,w1.go.1,gF]
 have r24:=pj.1.2.2;walk_at"T";refine⟨_,(zi (zu 2 Z2.nd (zO zb))  (zi (qy qQ rfl (zgf (za (zk (zk (pq 0) rfl) rfl) (za (zk (pq 0) rfl) zb))) (wH (n:=2) rfl (qt (Zf (i:=3) Z2.nd rfl (Or.inr rfl)) (qt (Zf (i:=4) Z2.nd rfl (Or.inr rfl)) xj)))  (zd (zH (qA ar aA az zV (pq 2) (za (jF (vars:=["place"]) (caps:=[3,1,4]) (N:=["place","old","rounds","more"]) (ON:=["self","rounds","gone","old","more"]) (osc:=zg jT) rfl rfl (by right) rfl rfl (xb (za (zM zR zP (za (pq 3) zb)) zb)) (λ_ _ _ _=>(qu 0 (show(["place","old","rounds","more"]:A8).Nodup from by symm))) (λ_ _ _ _=>qm) (λ_ _ _ _=>(zK qk (zo (pq 1) (pq 0)) (zK vK (pq 2) (zo (pq 3) (pq 0)))))) zb)))))  (zd (zl (pq 2))))),?_⟩;left;intro C hC;have sC:=zf (o:=.lst []) hC;have hC1:upd H C (.lst []) C=some (.lst []):=pD;generalize upd H C (.lst [])=H1 at sC hC1 ⊢;walk_at"c";exists ra (sC _ _ hz) T.iN T.iP xt (ra ((lo.so.same sC).hy) T.ad T.iJ rfl (ra (sC _ _ hz) T.iN T.kx WR (iE6 true true n0.lg lg _ _ (iA4 rfl (SqL.of (sC _ _ lo.so.hg.out)) (SqL.of (sC _ _ ng.out)) ?_))));refine ziW (K:=K) (xs:=n0.ags.map V.ref) (ys:=gs.map V.ref) (λq σ H'=>∃(v3 v4:Aq)(us:Ap),σ=[some (.ref z),some (.int N),some (.ref C),v3,v4]/\Same H H'/\H' C=some (.lst us)/\Reps H' (Off [C]) us ((qw ((zj bs rs (i+N*(j-i))).gone.take q)).map D.lst)) (iE3 _ _ ([]) (iA4 rfl sC hC1 (by rw[bW];exact .nil))) (λq σ H' _ h=>by let⟨_,_,_,_,s,_⟩:=h;exact⟨SqL.of (s _ _ lo.so.hg.out),SqL.of (s _ _ ng.out)⟩) ?_ ?_
 .intro q x x' t σ H2 hq hq' ht p9;refine oE3 p9 λv3 v4 us p6=>oA4 p6 λp8 s2 hC2 ru=>?_;ext;rw[am,aq]at hq hq';let⟨b0,hb0,rfl⟩:=hq;let⟨b1,hb1,rfl⟩:=hq';have hql:q<rs.length:=by rw[<- la];exact(aa.mp hb0).1
  have er:=ac hql;let⟨g0,e0⟩:∃g,(zj bs rs i).gone[q]?=some g:=⟨_,ac (by rw[w0.go.1];exact hql)⟩;let⟨g1,e1⟩:∃g,(zj bs rs j).gone[q]?=some g:=⟨_,ac (by rw[w1.go.1];exact hql)⟩;let⟨gN,eN⟩:∃g,(zj bs rs (i+N*(j-i))).gone[q]?=some g:=⟨_,ac (by rw[wN.go.1];exact hql)⟩;have l0:=(w0.go.2 q _ g0 er e0).1;have l1:=(w1.go.2 q _ g1 er e1).1;have lN:=(wN.go.2 q _ gN er eN).1;have cp:=xD (ro _ (ah er));have eg:(xg (zj bs rs i).gone (zj bs rs j).gone)[q]?=some (w9 g0 g1):=by unfold xg;rw[g6,e0,e1]
  let⟨c0,q0,h0⟩:=xf lo.so.hg e0;let⟨c1,q1,h1⟩:=xf ng eg;rw[hb0]at q0;cases q0;rw[hb1]at q1;cases q1;have lus:us.length<=q:=by rw[ru.len,ai,ai,aQ];exact fE _ _
  have st:=zf (o:=.tup [.ref b0,.ref b1]) ht;have s3:=s2.trans st;have hC3:=st _ _ hC2;have ru3:=ru.same st;refine un2 pD ?_;generalize upd H2 t (.tup [.ref b0,.ref b1])=H3 at s3 hC3 ru3 ⊢;left;walk_at"d";exists iA4 (.inl ⟨rfl,_,SqL.of hC3⟩) kS iV ⟨_,⟨.inl ⟨_,SqL.of (s3 _ _ h0),rfl⟩,?_⟩⟩;rw[zL];refine⟨by lia,by lia,λ_ _ _ _ Z hZ=>?_⟩;have nZC:Z≠C:=(pF hC3 hZ).symm;refine va (n:=((g0.length:Nat):Int).toNat) (λp σ H'=>∃(v0:Aq),σ=[v0,some (.ref b0),some (.int N),some (.ref b1)]/\Same H3 H'/\H' Z=some (.lst (iv (gN.take p)))) ⟨_,iA3 rfl (zf hZ) pD⟩ ?_ ?_
  .intro p σ H4 hp p9;refine oE1 p9 λv0 p6=>oA3 p6 λp8 s4 hZ4=>?_;ext;rw[ax]at hp;have s34:=s3.trans s4;have lp:=(zjD pj bo ro rd N).2 q p;have m0:=QG bs rs i q p (j-i);have up:=VW bs rs q p j;have lt:=rd.lt;have le:=rd.le;rw[Nat.add_sub_of_le (b8 lt)]at m0;have m0:gAt (zj bs rs i).gone q p<=gAt (zj bs rs j).gone q p:=m0;have x0:g0[p]?=some (gAt (zj bs rs i).gone q p):=by
    unfold gAt;rw[ae (l:=(zj bs rs i).gone),e0,aO];exact ql hp
   have x1:(w9 g0 g1)[p]?=some (gAt (zj bs rs j).gone q p-gAt (zj bs rs i).gone q p):=by
    unfold w9 gAt;rw[am,iy hp,ae (l:=(zj bs rs i).gone),ae (l:=(zj bs rs j).gone),e0,e1]
    rfl
   have xN:gN[p]?=some (gAt (zj bs rs (i+N*(j-i))).gone q p):=by
    unfold gAt;rw[ae (l:=(zj bs rs (i+N*(j-i))).gone),eN,aO];exact ql (by lia)
   have p0:0<=gAt (zj bs rs i).gone q p:=(w0.go.2 q _ g0 er e0).2 _ (ah x0);left;simp only[ck];refine zq (SqL.of (s34 _ _ h0)) (zt (qV x0)) (zq (SqL.of (s34 _ _ h1)) (zt (qV x1)) ?_);exists⟨mul_okR (by lia) (by lia),?_⟩;exists⟨_,iA3 hZ4 (zn (by rw[zL,aQ];lia)) ⟨_,iA3 rfl (λb o hb=>by rw[pE (pF hb hZ)];exact s4 b o hb) ?_⟩⟩;rw[pD,jo,aI,xN,lp]
   rfl
  intro σ H4 p9;refine oE1 p9 λv0 p6=>oA3 p6 λp8 s4 hZ4=>?_;ext;rw[show((g0.length:Nat):Int).toNat=gN.length by lia,aN]at hZ4;have fm:Fr [C] H4 (upd H4 C (.lst (us++[.ref Z]))):=qZ (by simp);refine iE3 C _ _ (iA5 rfl rfl (s4 _ _ hC3) (zn (by lia)) ?_);refine iE3 _ _ (us++[.ref Z]) (iA4 rfl (λb o hb=>by rw[pE (pF hb hC)];exact s4 _ _ (s3 b o hb)) pD ?_);rw[aI,eN,eY,show(qw ((zj bs rs (i+N*(j-i))).gone.take q++[gN])).map D.lst=(qw ((zj bs rs (i+N*(j-i))).gone.take q)).map D.lst++[.ints gN] by simp[qw]];exact((ru3.same s4).append (.one (qr (by simp[Off,nZC]) hZ4))).fr fm
 .intro σ H2 p9;refine oE3 p9 λv3 v4 us p6=>oA4 p6 λp8 s2 hC2 ru=>?_;ext;rw[ai,ai,la,lb,gF,<- wN.go.1,aN]at ru;left;exact k C H2 s2 (ru.all.mk' (λz=>nomatch z) hC2)
def Vz(a:Ad):Sp:=λvs H Q _=>∃(z y0:Addr)(n0:SN)(oss:List (List Org))(bs:A1)(rs:At)(lim i j N:Nat),vs=[.ref z,.int N]/\LapO a H z y0 n0 (zj bs rs i) (zj bs rs j) oss/\zN bs rs/\(∀b∈bs,zE b.1 b.2)/\(∀r∈rs,r.ok)/\RoundAt bs rs lim i j/\lim<=1000/\∀v H',Same H H'->Qs a H H' v (zj bs rs (i+N*(j-i)))->Q v H'
def Qi(T:Txt K mg a):MCal P w K mg base a.q "state_after" 4 ["self","rounds"] [] (Vz a):=T.kY.cal T.iN λF=>by
 refine F.okx ZG ?_ ?_
 .walk_at"i"
 walk_at"j";refine oE8 h λz y0 n0 oss bs rs lim i p6=>oE2 p6 λj N p8=>oA8 p8 λpw lo pj bo ro rd l1000 k=>?_;clear p6 p8 h;subst pw;refine oE4 lo.ex λdx lo' lg gs p6=>oA3 p6 λhz _ _=>?_;clear p6;have lt:=rd.lt;have le:=rd.le;have wN:=qa pj bo ro (i+N*(j-i));have b24:=pj.1.1.2;have r24:=pj.1.2.2;walk_at"T";refine⟨_,(zi (zu 2 ZG.nd (zK qk (zk (zk (pq 0) rfl) rfl) (zK vK (pq 1) (zk (pq 0) rfl))))  (zd (zl (qW (x:="State") ⟨rfl,rfl,rfl⟩ hr (za (pq 2) (za (QH ⟨rfl,rfl,rfl⟩ hr (pq 0) (za (pq 1) zb)) (za (zk (zk (pq 0) rfl) rfl) (za (QH ⟨rfl,rfl,rfl⟩ hr (pq 0) (za (pq 1) zb)) zb)))))))),?_⟩;exists ra hz T.iN T.iP xt (ra lo.so.hy T.ad T.iM rfl (ra hz T.iN T.ke QL ?_));left;rw[jE,jE];refine⟨mul_okR (by lia) (by lia),?_⟩;left;have et:(i:Int)+(N:Int)*((j:Int)-i)=(zj bs rs (i+N*(j-i))).turn:=by
  rw[jE,Int.natCast_add,Int.natCast_mul,Int.natCast_sub (by lia)]
 rw[et];refine iE4 a.b _ _ _ ⟨(V7 T).mono,iE7 z a.q dx _ _ _ _ (iA5 rfl hz (zbA (by symm) (by symm) (by symm) (by symm)) ((Qj T).mono) ⟨z,y0,n0,oss,bs,rs,lim,i,j,N,rfl,lo,pj,bo,ro,rd,l1000,λlc H1 s1 rc=>?_⟩)⟩;have lo1:=lo.same s1;refine ra (s1 _ _ hz) T.iN T.iP xt (ra lo1.so.hy T.ad T.iQ rfl (iE7 z a.q dx _ _ _ _ (iA5 rfl (s1 _ _ hz) (zbA (by symm) (by symm) (by symm) (by symm)) ((QK T).mono) ⟨z,y0,n0,oss,bs,rs,lim,i,j,N,rfl,lo1,pj,bo,ro,rd,l1000,λlg2 H2 s2 rg=>?_⟩)));have lo2:=lo1.same s2;have hs:=lo2.so.hs;rw[(zjD pj bo ro rd N).1.si]at hs;refine Xq T (st:=zj bs rs (i+N*(j-i))) (rc.same s2) (qr (p:=Off []) (λz=>nomatch z) hs) rg (by rw[wN.co.1];lia) (by rw[wN.go.1];lia) λy H3 s3 sn=>?_;refine oE2 sn λy' n p6=>oA5 p6 λe so ny nd nn=>?_;clear p6 sn;have s12:=s1.trans s2;exact k _ H3 (s12.trans s3) (iE2 y' n (iA5 e so (zw s12 ny) (zw s12 nd) (λb hb=>zw s12 (nn b hb))))
def zds(a:Ad):Sp:=λvs H Q E=>∃(vw:V)(n lim:Nat)(bs:A1)(rs:At),vs=[vw,.int n,.int lim]/\Rep H (Off []) vw (qG a bs rs)/\zN bs rs/\(∀b∈bs,zE b.1 b.2)/\(∀r∈rs,r.ok)/\lim<=1000 /\
 (∀i j v H',RoundAt bs rs lim i j->Same H H'->Qs a H H' v (zj bs rs n)->Q v H')/\(Qt bs rs lim->∀H',Same H H'->E (.ref a.h) none H')
def zgr(T:Txt K mg a)(F:FunD K "leapt" "leapt" VR f fd):FnOk P w K mg base (CXr P w) 9 f fd ["work","turns","limit"] (zds a):=by
 refine F.okx zfV ?_ ?_
 .walk_at"i"
 walk_at"j";refine oE5 h λvw n lim bs rs p6=>oA8 p6 λp8 hv pj bo ro l1000 kQ kE=>?_;clear p6 h;subst p8;walk_at"T";refine⟨_,(zi (zu 3 zfV.nd ‹(pq 0) (za (pq 2) zb)›)  (zi (zu 4 zfV.nd (qW (x:="Lap") ⟨rfl,rfl,rfl⟩ hr (za (zo (pq 3) ze) (za (zo (pq 3) ze) zb))))  (zi (zu 5 zfV.nd (zk (zo (pq 3) ze) rfl))  (zi (zF (zm zdD (pq 1) (pq 5) (zr _))  (zd (zl ‹(pq 0) (za (pq 1) zb)›))  zp)  (zi (zu 6 zfV.nd (QH ⟨rfl,rfl,rfl⟩ hr (pq 4) (za (zK zdF (zK x8 (pq 1) (pq 5)) (zk (pq 4) rfl)) zb)))  (zi (qy qQ rfl (xb (za (zK js (zK x8 (pq 1) (pq 5)) (zk (pq 4) rfl)) zb)) (qu 7 zfV.nd)  (zd (zH ‹(pq 0) (za (pq 6) zb)›)))  (zd (zl (pq 6))))))))),?_⟩;exists uc (zam T).mono (iE4 vw lim bs rs (iA8 rfl hv pj bo ro l1000 (λi j t y0 y1 n0 n1 H1 rd s1 ht so0 so1=>?_) kE));have w0:=qa pj bo ro i;have w1:=qa pj bo ro j;have b24:=pj.1.1.2;have r24:=pj.1.2.2;exists iE4 a.q _ _ _ ⟨(zkM T).mono,pH ht at0 (pH ht (show atI _ 1=some (.ref y1)from rfl) ?_)⟩;intro z dz hz hdz hne;have sN:Same H1 (upd (upd H1 dz (.own z)) z (.ins a.q dz [])):=(zf hdz).trans (zf (by rw[pE (bb hne)];exact hz));let⟨gl,gr⟩:=zfa ro w0 w1;have c6:∀{s:PSt},stWf bs rs s->∀c∈s.cells,c.length<=6/\∀wr∈c,vn rs wr:=λw c hc=>by
  let⟨q,hq⟩:=aV hc;have eb:=ac (l:=bs) (i:=q) (by rw[<- w.co.1];exact(aa.mp hq).1);let⟨l,wk⟩:=w.co.2 q _ c eb hq;have:=(bo _ (ah eb)).2.1;exact⟨by lia,wk⟩
 refine iE5 z dz y0 y1 n0 (iE4 n1 _ _ H1 (iA9 rfl pD sN hz so0 so1 (by rw[w0.co.1];exact b24) (λc hc=>(c6 w0 c hc).1) (iA6 (by rw[w1.co.1];exact b24) (λc hc=>⟨(c6 w1 c hc).1,λwr hw x ex=>?_⟩) gl (by rw[w0.go.1];exact r24) gr (λlo lg gs oss H2 s2 hz2 ro2 ok2 ng2=>⟨rfl,?_⟩))))
 .refine oE2 ((c6 w1 c hc).2 wr hw x.1 x.2 (by rw[ex])) λq r p6=>oA3 p6 λe1 hr' _=>?_;clear p6;let⟨g,eg⟩:∃g,(zj bs rs i).gone[q]?=some g:=⟨_,ac (by rw[w0.go.1];exact(aa.mp hr').1)⟩;have:=(w0.go.2 q r g hr' eg).1;have:=xD (ro r (ah hr'));cases g with
  |nil=>simp at *;lia
  |cons g0 gs=>exact⟨q,g0,gs,e1,eg⟩
 have lo2:LapO a H2 z y0 n0 (zj bs rs i) (zj bs rs j) oss:=⟨⟨dz,lo,lg,gs,hz2,ro2.keep λb o _ ho=>⟨trivial,ho⟩,ng2⟩,so0.same s2,ok2⟩;have s02:=s1.trans s2;have lt:=rd.lt;have le:=rd.le;have kQ:∀v H3 H',Same H H3->Same H3 H'->Qs a H3 H' v (zj bs rs n)->Q v H':=λv H3 H' sA sB sn=>by
  refine oE2 sn λy' n' p6=>oA5 p6 λe so ny nd nn=>?_;clear p6 sn;exact kQ i j v H' rd (sA.trans sB) (iE2 y' n' (iA5 e so (zw sA ny) (zw sA nd) (λb hb=>zw sA (nn b hb))))
 refine pH (s2 _ _ ht) at0 (ra lo2.so.hy T.ad T.iM rfl ?_);rw[jE];exists zT (λhn=>?_) (λhn=>?_)
 .exact uc (zha T).mono (iE4 vw n bs rs (iA7 rfl (hv.same s02) pj bo ro (by lia) (λv' H' s' sn=>kQ v' H2 H' s02 s' sn)))
 left;have tl:(zj bs rs j).turn-(zj bs rs i).turn=((j-i:Nat):Int):=by rw[jE,jE];lia
 have d0:(0:Int)<((j-i:Nat):Int):=by lia
 refine iE7 z a.q dz _ _ _ _ (iA5 rfl hz2 (zbA (by symm) (by symm) (by symm) (by symm)) ((Qi T).mono) (iE5 z a.q dz _ _ (iA6 rfl hz2 T.iN T.ke QL ?_)));rw[tl];exists⟨fd_small d0 (by lia),?_⟩;have ed:(n:Int)-i=((n-i:Nat):Int):=by lia
 rw[fdiv_pos d0,ed,<- Int.natCast_ediv];refine iE8 z y0 n0 oss bs rs lim i (iE2 j ((n-i)/(j-i)) (iA8 rfl lo2 pj bo ro rd l1000 (λv H3 s3 sn=>?_)));refine oE2 sn λy ny p6=>oA5 p6 λp8 so3 fy fd' fn=>?_;clear p6 sn;subst p8;have s03:=s02.trans s3;have na:∀b∈y::ny.all,H2 b=none:=λb hb=>by
  rcases av.mp hb with rfl|hb
  .exact fy
  .exact fn b hb
 have na0:∀b∈y::ny.all,H b=none:=λb hb=>zw s02 (na b hb);have hw3:Rep H3 (Off (y::ny.all)) vw (qG a bs rs):=ju (hv.more (ns:=y::ny.all) λb hb=>.inr (na0 b hb)) s03;have hz3:=s3 _ _ hz2;walk_at"c";exists ra hz3 T.iN T.ke QL ?_;rw[tl];left;rw[ed,<- fu];have rl:(n-i)%(j-i)<j-i:=cD _ (by lia);refine⟨by lia,by lia,?_⟩;refine va (n:=(((n-i)%(j-i):Nat):Int).toNat) (λq σ H'=>∃(v7:Aq),σ=[some vw,some (.int n),some (.int lim),some (.ref t),some (.ref z),some (.int i),some (.ref y),v7]/\Fr (y::ny.all) H3 H'/\StO a H' y ny (zj bs rs (i+(n-i)/(j-i)*(j-i)+q))) ⟨_,iA3 rfl Fr.refl so3⟩ ?_ ?_
 .intro q σ H4 hq p9;refine oE1 p9 λv7 p6=>oA3 p6 λp8 f4 so4=>?_;ext;exists uc (vY T).mono (iE6 vw y ny _ bs rs (iA8 rfl (hw3.fr f4) so4 (qa pj bo ro _) pj bo ro (λl us H5 f5 so5 _ _ _ _=>?_)));exact⟨_,iA3 rfl (f4.trans f5) so5⟩
 .intro σ H4 p9;refine oE1 p9 λv7 p6=>oA3 p6 λp8 f4 so4=>?_;ext;have en:i+(n-i)/(j-i)*(j-i)+(n-i)%(j-i)=n:=by
   have:=Nat.div_add_mod (n-i) (j-i);rw[dZ]at this
   lia
  rw[ax,en]at so4;left;exact kQ _ H2 H4 s02 (λb o hb=>f4 b o (λz=>by rw[na b z]at hb;cases hb) (s3 b o hb)) (iE2 y ny (iA5 rfl so4 fy fd' fn))
def zin(T:Txt K mg a):Cal P w K mg base "leapt" 9 ["work","turns","limit"] [] (zds a):=T.oQ.cal (zgr T)
theorem Zm{bs:Ai}{side:Nat}:∀(n i:Nat){p:Nat},Ju bs side n i=some p->bs.getD p false=true
 |0,_,_,h=>by simp[Ju]at h
 |n+1,i,p,h=>by
  unfold Ju at h
  split at h
  .rename_i hb;cases h;exact hb
  .exact Zm n (i+1) h
noncomputable def fl(c:Av):Int:=(c.countP Option.isSome:Nat)
def zac{c:Av}{x:zy}(h:i<c.length):fl (c.set i x)=fl c+(if x=none then 0 else 1)-(if c.getD i none=none then 0 else 1):=by
 unfold fl;have hc:c.getD i none=c[i]:=by rw[ae,ac h];rfl
 have hp:c[i].isSome=true->0<c.countP Option.isSome:=λz=>List.countP_pos_iff.mpr ⟨c[i],cf h,z⟩;rw[List.countP_set h,hc];generalize c.countP Option.isSome=n at hp ⊢;cases e:c[i]<;>cases x<;>rw[e]at hp<;>simp at hp ⊢ <;> lia
def zjV{c:Av}(h:c≠[])(e:xC c≠none):fl (qX c)=fl c-1:=by
 have hl:0<c.length:=cM.mpr h;have he:c.getD (c.length-1) none=xC c:=by
  unfold xC;rw[ae,bH,dI]
 unfold qX;rw[zac (by lia),he,ao rfl,ak e]
 lia
def zjW{c:Av}{x:zy}(h:c≠[])(e:Wo c=none)(hx:x≠none):fl (c.set 0 x)=fl c+1:=by
 have hl:0<c.length:=cM.mpr h;have he:c.getD 0 none=Wo c:=by cases c<;>rfl
 rw[zac hl,he,ak hx,ao e]
 lia
def zig{c:Av}{p:Nat}(hp:p+1<c.length):fl (qR c p)=fl c:=by
 unfold qR
 split
 .rename_i h;have e:(c.set (p+1) (c.getD p none)).getD p none=c.getD p none:=by
   rw[ae,bh (by lia),<- ae]
  rw[zac (by simp;lia),zac hp,e,h];simp
 .rfl
theorem ziX{c:Av}:∀k,k+1<=c.length->fl (x9 c k)=fl c
 |0,_=>rfl
 |k+1,h=>by
  rw[x9,zig (by rw[Qd];lia),ziX k (by lia)]
def zih(c:Av):fl (WP c)=fl c:=by
 unfold WP;cases c with
 |nil=>rfl
 |cons x xs=>exact ziX _ (by simp)
noncomputable def flB(cs:Au)(b:Nat):Int:=fl (cs.getD b [])
def zae{cs:Au}{c:Av}(h:i<cs.length)(b:Nat):flB (cs.set i c) b=if b=i then fl c else flB cs b:=by
 unfold flB;by_cases e:b=i
 .subst e;rw[ae,a7 h,ao rfl]
  rfl
 .rw[ak e,ae,bh (bb e),<- ae]
theorem zc7{bs:A1}{t:Int}{cs:Au}(b:Nat):∀i,flB (qd bs t cs i) b=flB cs b
 |0=>rfl
 |i+1=>by
  have ih:=zc7 (bs:=bs) (t:=t) (cs:=cs) b i;rw[qd]
  split
  .rw[<- ih];generalize qd bs t cs i=ds;by_cases h:i<ds.length
   .rw[zae h]
    split
    .rename_i e;subst e;exact zih _
    .rfl
   .rw[cY (by lia)]
  .exact ih
theorem zfk{r:Row}{hs:List A9}{fs:Ai}{t:Int}{ch:Ak}(h:qf r hs fs t side=some ch) :
  (ch.1=none↔r.wd=.source)/\(ch.2.1=none↔r.wd=.drain)/\(∀j,ch.1=some j->hs.getD j none≠none/\(r.wd≠.joiner->j=0))/\(∀j,ch.2.1=some j->fs.getD j false=true/\(r.wd=.joiner\/r.wd=.source->j=0)):=by
 let⟨wd,ins,outs,pace,kinds⟩:=r;unfold qf at h;cases wd<;>simp only at h
 .split at h
  .rename_i z;cases h;exact⟨by simp,by simp,by simp,λj e=>by cases e;exact⟨z.1,λ_=>rfl⟩⟩
  .cases h
 .split at h
  .cases h
  .rename_i z;cases h;exact⟨by simp,by simp,λj e=>by cases e;exact⟨λq=>z (.inr (.inl q)),λ_=>rfl⟩,by simp⟩
 .split at h
  .cases h
  .rename_i z;rw[aq]at h;let⟨q,hq,rfl⟩:=h;exact⟨by simp,by simp,λj e=>by cases e;exact⟨z,λ_=>rfl⟩,λj e=>by cases e;exact⟨Zm _ _ hq,by simp⟩⟩
 .split at h
  .cases h
  .rename_i z;rw[aq]at h;let⟨q,hq,rfl⟩:=h;exact⟨by simp,by simp,λj e=>by cases e;exact⟨z,λ_=>rfl⟩,λj e=>by cases e;exact⟨Zm _ _ hq,by simp⟩⟩
 .split at h
  .cases h
  .rename_i z;generalize (if hs.getD 0 none=some (kinds.headD 0)then 0 else 1)=q at h
   split at h
   .rename_i hb;cases h;exact⟨by simp,by simp,λj e=>by cases e;exact⟨z,λ_=>rfl⟩,λj e=>by cases e;exact⟨hb,by simp⟩⟩
   .cases h
 .split at h
  .rename_i hb;rw[aq]at h;let⟨q,hq,rfl⟩:=h;refine⟨by simp,by simp,λj e=>?_,λj e=>by cases e;exact⟨hb,λ_=>rfl⟩⟩;cases e;have:=Zm _ _ hq;refine⟨λz=>?_,λz=>absurd rfl z⟩;rw[ae]at z this;rw[am]at this;cases e2:hs[q]? with
   |none=>rw[e2]at this;simp at this
   |some x=>rw[e2]at z this;simp at z this;rw[z]at this;simp at this
  .cases h
theorem zhm{rs:At}{s:PSt}(w:stWf bs rs s)(pj:zN bs rs)(bo:∀b∈bs,zE b.1 b.2)(ro:∀r∈rs,r.ok)(k:Nat):(qv rs s k).1=s \/
  ∃r ch,rs[k]?=some r/\(ch.1=none↔r.wd=.source)/\(ch.2.1=none↔r.wd=.drain)/\(∀j,ch.1=some j->j<r.ins.length/\(r.wd≠.joiner->j=0))/\(∀j,ch.2.1=some j->j<r.outs.length/\(r.wd=.joiner\/r.wd=.source->j=0)) /\
   (qv rs s k).1.gone=s.gone.set k (wz (s.gone.getD k []) (jk r ch))/\k<s.gone.length/\jk r ch<(s.gone.getD k []).length /\
   ∀b:Nat,flB (qv rs s k).1.cells b=flB s.cells b+(if jJ r ch=some (b:Int)then 1 else 0)-(if qj r ch=some (b:Int)then 1 else 0):=by
 unfold qv;cases hr:rs[k]? with
 |none=>exact .inl rfl
 |some r =>
  simp only;cases hc:qf r (qo rs s.cells r) (qS s.cells r) s.turn (s.sides.getD k 0).toNat with
  |none=>exact .inl rfl
  |some ch =>
   have ok:=ro r (ah hr);have hk:=(aa.mp hr).1;have sd:=w.so.2 k r _ hr (ql (d:=0) (by rw[w.so.1];exact hk));have sd':xT r ((s.sides.getD k 0).toNat:Int):=by rw[bU sd.1];exact sd
   let⟨c1,c2,c3,c4,c5,c6⟩:=xu ok (by simp[qo]) (by simp[qS]) sd' hc;let⟨d1,d2,d3,d4⟩:=zfk hc;have hg:=w.go.2 k r _ hr (ql (xs:=s.gone) (d:=[]) (by rw[w.go.1];exact hk));have gm:∀fb tb x,(x6 (zQ s k fb).2 x tb).gone=s.gone:=λfb tb x=>by cases fb<;>cases tb<;>rfl
   refine .inr ⟨r,ch,rfl,d1,d2,λj e=>⟨c1 j e,(d3 j e).2⟩,λj e=>⟨c2 j e,(d4 j e).2⟩,?_,by rw[w.go.1];exact hk,by rw[hg.1];exact c6,λb=>?_⟩
   .show((movedF r s k ch).gone.set k _)=_
    unfold movedF;rw[gm]
   .show flB (movedF r s k ch).cells b=_
    unfold movedF;have hfb:∀x,qj r ch=some x->x∈rgI bs.length/\xC (zJ s.cells x)≠none:=λx e=>by
     unfold qj at e;let⟨j,hj,ej⟩:=aR.mp e;refine⟨Zl pj hr (ah ej),λz=>(d3 j hj).1 ?_⟩;rw[qo,ae,am,ej];simp[z,jP]
    have htb:∀x,jJ r ch=some x->x∈rgI bs.length/\Wo (zJ s.cells x)=none:=λx e=>by
     unfold jJ at e;let⟨j,hj,ej⟩:=aR.mp e;refine⟨vJ pj hr (ah ej),?_⟩;have:=(d4 j hj).1;rw[qS,ae,am,ej]at this;simpa using this
    have hwn:(zQ s k (qj r ch)).1≠none:=by
     cases e:qj r ch with
     |none=>exactλz=>nomatch z
     |some x=>exact(hfb x e).2
    have step1:(∀b:Nat,flB (zQ s k (qj r ch)).2.cells b=flB s.cells b-(if qj r ch=some (b:Int)then 1 else 0))/\(zQ s k (qj r ch)).2.cells.length=s.cells.length/\∀y:Nat,zJ s.cells y≠[]->Wo (zJ s.cells y)=none->zJ (zQ s k (qj r ch)).2.cells y≠[]/\Wo (zJ (zQ s k (qj r ch)).2.cells y)=none:=by
     cases e:qj r ch with
     |none=>exact⟨λb=>by simp[zQ],rfl,λ_ h h2=>⟨h,h2⟩⟩
     |some z =>
      let⟨m1,m2⟩:=hfb z e;let⟨i,rfl,hi,ei,ne,_⟩:=xn w.co bo m1;refine⟨λb=>?_,by simp[zQ],λy h0 h=>?_⟩
      .show flB (s.cells.set (i:Int).toNat (qX (zJ s.cells i))) b=_
       rw[ax,zae hi,zjV ne m2];by_cases q:b=i
       .subst q;rw[ao rfl,ao rfl]
        rfl
       .rw[ak q,ak (λz=>q (by have:=aF z;lia))]
        lia
      .show(s.cells.set (i:Int).toNat (qX (zJ s.cells i))).getD (y:Int).toNat []≠[]/\Wo ((s.cells.set (i:Int).toNat (qX (zJ s.cells i))).getD (y:Int).toNat [])=none
       rw[ax,ax];by_cases q:i=y
       .subst q;rw[ae,a7 hi,aO];refine⟨by simpa[qX]using h0,?_⟩;unfold qX;cases ec:zJ s.cells (i:Int)with
        |nil=>rfl
        |cons a as =>
         rw[ec]at h;cases as with
         |nil=>rfl
         |cons=>exact h
       .rw[ae,bh q,<- ae];exact⟨h0,h⟩
    let⟨s1,s2,s3⟩:=step1;generalize (zQ s k (qj r ch)).1=x at hwn ⊢;generalize (zQ s k (qj r ch)).2=st1 at s1 s2 s3 ⊢;cases e:jJ r ch with
    |none=>rw[show(x6 st1 x none)=st1 from rfl,s1];simp
    |some z =>
     let⟨m1,m2⟩:=htb z e;let⟨i,rfl,hi,ei,ne,_⟩:=xn w.co bo m1;let⟨ne1,m3⟩:=s3 i ne m2;show flB (st1.cells.set (i:Int).toNat ((zJ st1.cells i).set 0 x)) b=_
     rw[ax,zae (by rw[s2];exact hi),zjW ne1 m3 hwn];by_cases q:b=i
     .subst q;rw[ao rfl,ao rfl,<- show flB st1.cells b=fl (zJ st1.cells b)from rfl,s1]
      lia
     .rw[ak q,ak (λz=>q (by have:=aF z;lia)),s1]
      lia
noncomputable def onG(gs:List A6)(r:Row)(k j:Nat):Int:=if r.wd=.joiner then(gs.getD k []).sum else gAt gs k j
noncomputable def vL(gs:List A6)(r:Row)(k j:Nat):Int:=if r.wd=.joiner then gAt gs k j else(gs.getD k []).sum
def zfI{g:A6}{p:Nat}(h:p<g.length):(wz g p).sum=g.sum+1:=by
 unfold wz;rw[ae,ac h]
 induction g generalizing p with
 |nil=>simp at h
 |cons x xs ih =>
  cases p with
  |zero=>simp;lia
  |succ p =>
   have:=ih (p:=p) (by simpa using h);simp at this ⊢
   lia
def Ww{gs:List A6}{k p i:Nat}(hk:k<gs.length)(hp:p<(gs.getD k []).length):((gs.set k (wz (gs.getD k []) p)).getD i []).sum=(gs.getD i []).sum+if i=k then 1 else 0:=by
 by_cases e:i=k
 .subst e;rw[ae (l:=gs.set _ _),a7 hk,aO,zfI hp,ao rfl]
 .rw[ae (l:=gs.set _ _),bh (bb e),<- ae,ak e]
  lia
theorem j6{f:Row->List Int}:∀{rs:At}{k k' j j':Nat}{r r':Row}{b:Int},(rs.flatMap f).Nodup->rs[k]?=some r->rs[k']?=some r'->(f r)[j]?=some b->(f r')[j']?=some b->k=k'/\j=j'
 |[],_,_,_,_,_,_,_,_,h,_,_,_=>by simp at h
 |x::xs,k,k',j,j',r,r',b,nd,h,h',e,e'=>by
  rw[List.flatMap_cons,fH]at nd;let⟨n1,n2,n3⟩:=nd;have far:∀(m:Nat)(q:Row),xs[m]?=some q->b∈f q->b∈xs.flatMap f:=λm q hq hb=>bY.mpr ⟨q,ah hq,hb⟩;cases k with
  |zero =>
   simp at h;subst h;cases k' with
   |zero =>
    simp at h';subst h';refine⟨rfl,?_⟩;exact(List.getElem?_inj (aa.mp e).1 n1).mp (e.trans e'.symm)
   |succ m=>exact absurd rfl (n3 b (ah e) b (far m r' (by simpa using h') (ah e')))
  |succ m =>
   cases k' with
   |zero =>
    simp at h';subst h';exact absurd rfl (n3 b (ah e') b (far m r (by simpa using h) (ah e)))
   |succ m' =>
    let⟨a1,a2⟩:=j6 n2 (by simpa using h) (by simpa using h') e e';exact⟨by lia,a2⟩
def zc8{rs:At}(w:zN bs rs):(rs.flatMap Row.outs).Nodup/\(rs.flatMap Row.ins).Nodup:=by
 have nr:(rgI bs.length).Nodup:=List.Pairwise.map _ (λa b h z=>h (Int.ofNat.inj z)) fT;exact⟨w.2.1.nodup_iff.mpr nr,w.2.2.nodup_iff.mpr nr⟩
def V0{r:Row}(ok:r.ok):(r.wd=.joiner->∃o,r.outs=[o])/\(r.wd=.drain->r.outs=[])/\(r.wd≠.joiner->r.wd≠.source->∃o,r.ins=[o])/\(r.wd=.source->r.ins=[]):=by
 let⟨wd,ins,outs,pace,kinds⟩:=r;cases wd
 .exact iA4 (λz=>nomatch z) (λz=>nomatch z) (λ_ z=>absurd rfl z) (λ_=>ok.1)
 .exact iA4 (λz=>nomatch z) (λ_=>ok.2.1) (λ_ _=>ok.1) (λz=>nomatch z)
 .exact iA4 (λz=>nomatch z) (λz=>nomatch z) (λ_ _=>ok.1) (λz=>nomatch z)
 .exact iA4 (λz=>nomatch z) (λz=>nomatch z) (λ_ _=>ok.1) (λz=>nomatch z)
 .exact iA4 (λz=>nomatch z) (λz=>nomatch z) (λ_ _=>ok.1) (λz=>nomatch z)
 .exact iA4 (λ_=>ok.1) (λz=>nomatch z) (λz=>absurd rfl z) (λz=>nomatch z)
theorem zkc{rs:At}{s:PSt}(w:stWf bs rs s)(pj:zN bs rs)(bo:∀b∈bs,zE b.1 b.2)(ro:∀r∈rs,r.ok)(k:Nat){kf jf kt jt b:Nat}{rf rt:Row}(hf:rs[kf]?=some rf)(ef:rf.outs[jf]?=some (b:Int))(ht:rs[kt]?=some rt)(et:rt.ins[jt]?=some (b:Int)) :
  onG (qv rs s k).1.gone rf kf jf-vL (qv rs s k).1.gone rt kt jt-flB (qv rs s k).1.cells b=onG s.gone rf kf jf-vL s.gone rt kt jt-flB s.cells b/\onG (qv rs s k).1.gone rf kf jf<=onG s.gone rf kf jf+(if k=kf then 1 else 0):=by
 rcases zhm w pj bo ro k with e|⟨r,ch,hr,c1,c2,c3,c4,hg,hk,hp,hfl⟩
 .rw[e];refine⟨rfl,?_⟩
  split<;>lia
 .obtain⟨nd1,nd2⟩:=zc8 pj;have on1:onG (qv rs s k).1.gone rf kf jf=onG s.gone rf kf jf+(if jJ r ch=some (b:Int)then 1 else 0):=by
   rw[hg];unfold onG;by_cases hj:rf.wd=.joiner
   .rw[ao hj,ao hj,Ww hk hp];by_cases e:kf=k
    .subst e;rw[hf]at hr;cases hr;let⟨o,ho⟩:=(V0 (ro rf (ah hf))).1 hj;cases e2:ch.2.1 with
     |none=>rw[c2.mp e2]at hj;cases hj
     |some j =>
      have hz:=(c4 j e2).2 (.inl hj);have:jf=0:=by
       have:=(aa.mp ef).1;rw[ho]at this;simpa using this
      subst hz this;rw[ao rfl,ao (by rw[jJ,e2];exact ef)]
    .rw[ak e,ak (λz=>e ?_)];unfold jJ at z;let⟨j,_,ej⟩:=aR.mp z;exact(j6 nd1 hr hf ej ef).1.symm
   .rw[ak hj,ak hj,wt hk hp];by_cases z:jJ r ch=some (b:Int)
    .rw[ao z,ao];unfold jJ at z;let⟨j,hj2,ej⟩:=aR.mp z;let⟨q1,q2⟩:=j6 nd1 hr hf ej ef;subst q1 q2;rw[hf]at hr;cases hr;exact⟨rfl,by rw[jk,ak hj,hj2];rfl⟩
    .rw[ak z,ak];rintro⟨q1,q2⟩;subst q1;rw[hf]at hr;cases hr;rw[jk,ak hj]at q2;cases e2:ch.2.1 with
     |none =>
      rw[(V0 (ro rf (ah hf))).2.1 (c2.mp e2)]at ef;simp at ef
     |some j =>
      rw[e2]at q2;have q2:jf=j:=q2;subst q2;exact z (by rw[jJ,e2];exact ef)
  have off1:vL (qv rs s k).1.gone rt kt jt=vL s.gone rt kt jt+(if qj r ch=some (b:Int)then 1 else 0):=by
   rw[hg];unfold vL;by_cases hj:rt.wd=.joiner
   .rw[ao hj,ao hj,wt hk hp];by_cases z:qj r ch=some (b:Int)
    .rw[ao z,ao];unfold qj at z;let⟨j,hj2,ej⟩:=aR.mp z;let⟨q1,q2⟩:=j6 nd2 hr ht ej et;subst q1 q2;rw[ht]at hr;cases hr;exact⟨rfl,by rw[jk,ao hj,hj2];rfl⟩
    .rw[ak z,ak];rintro⟨q1,q2⟩;subst q1;rw[ht]at hr;cases hr;rw[jk,ao hj]at q2;cases e2:ch.1 with
     |none=>rw[c1.mp e2]at hj;cases hj
     |some j =>
      rw[e2]at q2;have q2:jt=j:=q2;subst q2;exact z (by rw[qj,e2];exact et)
   .rw[ak hj,ak hj,Ww hk hp];by_cases e:kt=k
    .subst e;rw[ht]at hr;cases hr;have W:=V0 (ro rt (ah ht));have ns:rt.wd≠.source:=λz=>by
      rw[W.2.2.2 z]at et;simp at et
     let⟨o,ho⟩:=W.2.2.1 hj ns;cases e2:ch.1 with
     |none=>exact absurd (c1.mp e2) ns
     |some j =>
      have hz:=(c3 j e2).2 hj;have:jt=0:=by
       have:=(aa.mp et).1;rw[ho]at this;simpa using this
      subst hz this;rw[ao rfl,ao (by rw[qj,e2];exact et)]
    .rw[ak e,ak (λz=>e ?_)];unfold qj at z;let⟨j,_,ej⟩:=aR.mp z;exact(j6 nd2 hr ht ej et).1.symm
  refine⟨by rw[on1,off1,hfl];lia,?_⟩;rw[on1];by_cases z:jJ r ch=some (b:Int)
  .have:k=kf:=by
    unfold jJ at z;let⟨j,hj,ej⟩:=aR.mp z;exact(j6 nd1 hr hf ej ef).1
   rw[ao z,ao this]
   lia
  .rw[ak z]
   split<;>lia
section
variable{bs:A1}{rs:At}(pj:zN bs rs)(bo:∀b∈bs,zE b.1 b.2)(ro:∀r∈rs,r.ok){kf jf kt jt b:Nat}{rf rt:Row}(hf:rs[kf]?=some rf)(ef:rf.outs[jf]?=some (b:Int))(ht:rs[kt]?=some rt)(et:rt.ins[jt]?=some (b:Int))
include pj bo ro hf ef ht et
theorem zea{s:PSt}(w:stWf bs rs s):∀m,onG (zB rs s m).1.gone rf kf jf-vL (zB rs s m).1.gone rt kt jt-flB (zB rs s m).1.cells b=onG s.gone rf kf jf-vL s.gone rt kt jt-flB s.cells b/\onG (zB rs s m).1.gone rf kf jf<=onG s.gone rf kf jf+(if kf<m then 1 else 0)
 |0=>⟨rfl,by simp[zB]⟩
 |m+1=>by
  let⟨h1,h2⟩:=zea w m;let⟨g1,g2⟩:=zkc (qT w pj bo ro m) pj bo ro m hf ef ht et;refine⟨g1.trans h1,fj g2 ?_⟩;by_cases e:m=kf
  .subst e;rw[ao rfl,ao (cI _)];rw[ak (cx _)]at h2
   lia
  .rw[ak e];by_cases q:kf<m
   .rw[ao q]at h2;rw[ao (by lia)]
    lia
   .rw[ak q]at h2;rw[ak (by lia)]
    lia
theorem zhW{s:PSt}(w:stWf bs rs s):onG (passF bs rs s).1.gone rf kf jf-vL (passF bs rs s).1.gone rt kt jt-flB (passF bs rs s).1.cells b=onG s.gone rf kf jf-vL s.gone rt kt jt-flB s.cells b/\onG (passF bs rs s).1.gone rf kf jf<=onG s.gone rf kf jf+1:=by
 let⟨h1,h2⟩:=zea pj bo ro hf ef ht et w rs.length;refine⟨?_,fj h2 (by split<;>lia)⟩;show onG (zB rs s rs.length).1.gone rf kf jf-vL (zB rs s rs.length).1.gone rt kt jt-flB (qd bs _ _ _) b=_
 rw[zc7];exact h1
theorem zdy:∀n,onG (zj bs rs n).gone rf kf jf-vL (zj bs rs n).gone rt kt jt=flB (zj bs rs n).cells b
 |0=>by
  have z:∀k,((z8 bs rs).gone.getD k []).sum=0/\∀j,gAt (z8 bs rs).gone k j=0:=λk=>by
   unfold gAt z8;simp only[ae,am];cases rs[k]? with
   |none=>simp
   |some r=>simp[qH,cz];intro j;split<;>rfl
  have c:flB (z8 bs rs).cells b=0:=by
   unfold flB z8;simp only[ae,am];cases bs[b]? with
   |none=>rfl
   |some x=>simp[fl,hJ]
  show onG (z8 bs rs).gone rf kf jf-vL (z8 bs rs).gone rt kt jt=_
  rw[show zj bs rs 0=z8 bs rs from rfl,c];unfold onG vL;rw[(z kf).1,(z kf).2,(z kt).1,(z kt).2];simp
 |n+1=>by
  have ih:=zdy n;have:=(zhW pj bo ro hf ef ht et (qa pj bo ro n)).1;show onG (passF bs rs (zj bs rs n)).1.gone rf kf jf-vL (passF bs rs (zj bs rs n)).1.gone rt kt jt=flB (passF bs rs (zj bs rs n)).1.cells b
  lia
end
noncomputable def jI(rs:At)(gs:List A6)(wd:Wd):Nat->Int
 |0=>0
 |n+1=>jI rs gs wd n+if rs[n]?.map Row.wd=some wd then gAt gs n 0 else 0
noncomputable def wb(cs:Au):Nat->Int
 |0=>0
 |n+1=>wb cs n+flB cs n
noncomputable def QP(o:A9):Nat->Int
 |0=>0
 |n+1=>QP o n+if o=some (n:Int)then 1 else 0
theorem Vh:∀n,QP none n=0
 |0=>rfl
 |n+1=>by rw[QP,Vh n];simp
theorem Vg(x:Nat):∀n,QP (some (x:Int)) n=if x<n then 1 else 0
 |0=>by simp[QP]
 |n+1=>by
  rw[QP,Vg x n];by_cases h:x=n
  .subst h;simp
  .rw[show(if some (x:Int)=some (n:Int)then(1:Int)else 0)=0 from ak (λz=>h (by have:=aF z;lia))];by_cases q:x<n
   .rw[ao q,ao (by lia)];rfl
   .rw[ak q,ak (by lia)];rfl
theorem Qv{rs:At}{gs:List A6}{wd:Wd}{k p:Nat}(hk:k<gs.length)(hp:p<(gs.getD k []).length):∀n,jI rs (gs.set k (wz (gs.getD k []) p)) wd n=jI rs gs wd n+if k<n/\p=0/\rs[k]?.map Row.wd=some wd then 1 else 0
 |0=>by simp[jI]
 |n+1=>by
  rw[jI,jI,Qv hk hp n,wt hk hp];by_cases e:n=k
  .subst e;by_cases h:rs[n]?.map Row.wd=some wd
   .by_cases q:p=0
    .subst q;simp[h];lia
    .simp[h,q,bb q]
   .simp[h]
  .rw[show(if n=k/\0=p then(1:Int)else 0)=0 from ak (λz=>e z.1)];have:(if k<n+1/\p=0/\rs[k]?.map Row.wd=some wd then(1:Int)else 0)=if k<n/\p=0/\rs[k]?.map Row.wd=some wd then 1 else 0:=by
    by_cases q:k<n
    .simp[q,fg q]
    .simp[q,show ¬k<n+1 by lia]
   rw[this]
   split<;>split<;>lia
theorem zaD{cs cs':Au}{tb fb:A9}(h:∀b:Nat,flB cs' b=flB cs b+(if tb=some (b:Int)then 1 else 0)-(if fb=some (b:Int)then 1 else 0)):∀n,wb cs' n=wb cs n+QP tb n-QP fb n
 |0=>by simp[wb,QP]
 |n+1=>by rw[wb,wb,QP,QP,zaD h n,h n];lia
theorem zdm{cs cs':Au}(h:∀b,flB cs' b=flB cs b):∀n,wb cs' n=wb cs n
 |0=>rfl
 |n+1=>by rw[wb,wb,zdm h n,h n]
theorem ziE{rs:At}{s:PSt}(w:stWf bs rs s)(pj:zN bs rs)(bo:∀b∈bs,zE b.1 b.2)(ro:∀r∈rs,r.ok)(k:Nat) :
  jI rs (qv rs s k).1.gone .source rs.length-jI rs (qv rs s k).1.gone .drain rs.length-wb (qv rs s k).1.cells bs.length=jI rs s.gone .source rs.length-jI rs s.gone .drain rs.length-wb s.cells bs.length:=by
 rcases zhm w pj bo ro k with e|⟨r,ch,hr,c1,c2,c3,c4,hg,hk,hp,hfl⟩
 .rw[e]
 .have hkl:=(aa.mp hr).1;have one:∀(o:A9),(∀x,o=some x->x∈rgI bs.length)->QP o bs.length=if o=none then 0 else 1:=λo ho=>by
   cases o with
   |none=>rw[Vh,ao rfl]
   |some x =>
    let⟨i,hi,rfl⟩:=aJ.mp (ho x rfl);have:=bu.mp hi;show QP (some ((i:Nat):Int)) bs.length=_
    rw[Vg,ao this,ak (λz=>nomatch z)]
  have tb1:jJ r ch=none↔r.wd=.drain:=by
   rw[<- c2,jJ];cases e:ch.2.1 with
   |none=>simp
   |some j=>simp[(c4 j e).1]
  have fb1:qj r ch=none↔r.wd=.source:=by
   rw[<- c1,qj];cases e:ch.1 with
   |none=>simp
   |some j=>simp[(c3 j e).1]
  rw[hg,Qv hk hp,Qv hk hp,zaD hfl,one _ (λx e=>by let⟨j,_,ej⟩:=aR.mp e;exact vJ pj hr (ah ej)),one _ (λx e=>by let⟨j,_,ej⟩:=aR.mp e;exact Zl pj hr (ah ej))];have cp0:r.wd=.source\/r.wd=.drain->jk r ch=0:=λh=>by
   have nj:r.wd≠.joiner:=λz=>by rcases h with h|h<;>rw[h]at z<;>cases z
   rw[jk,ak nj];cases e:ch.2.1 with
   |none=>rfl
   |some j =>
    rcases h with h|h
    .exact(c4 j e).2 (.inr h)
    .rw[c2.mpr h]at e;cases e
  have hw:rs[k]?.map Row.wd=some r.wd:=by rw[hr];rfl
  rw[hw];by_cases hs:r.wd=.source
  .have:r.wd≠.drain:=λz=>by rw[hs]at z;cases z
   rw[ao ⟨hkl,cp0 (.inl hs),by rw[hs]⟩,ak (λz=>this (aF z.2.2)),ak (λz=>this (tb1.mp z)),ao (fb1.mpr hs)]
   lia
  .by_cases hd:r.wd=.drain
   .rw[ak (λz=>hs (aF z.2.2)),ao ⟨hkl,cp0 (.inr hd),by rw[hd]⟩,ao (tb1.mpr hd),ak (λz=>hs (fb1.mp z))]
    lia
   .rw[ak (λz=>hs (aF z.2.2)),ak (λz=>hd (aF z.2.2)),ak (λz=>hd (tb1.mp z)),ak (λz=>hs (fb1.mp z))]
    lia
def zfd{rs:At}(k j:Nat):gAt (z8 bs rs).gone k j=0:=by
 unfold gAt z8;simp only[ae,am];cases rs[k]? with
 |none=>simp
 |some r=>simp[qH,cz];split<;>rfl
def zfe{rs:At}(b:Nat):flB (z8 bs rs).cells b=0:=by
 unfold flB z8;simp only[ae,am];cases bs[b]? with
 |none=>rfl
 |some x=>simp[fl,hJ]
section
variable{bs:A1}{rs:At}(pj:zN bs rs)(bo:∀b∈bs,zE b.1 b.2)(ro:∀r∈rs,r.ok)
include pj bo ro
theorem zbd:∀n,jI rs (zj bs rs n).gone .source rs.length-jI rs (zj bs rs n).gone .drain rs.length=wb (zj bs rs n).cells bs.length
 |0=>by
  have z:∀wd n,jI rs (z8 bs rs).gone wd n=0:=λwd n=>by
   induction n with
   |zero=>rfl
   |succ n ih=>rw[jI,ih,zfd];simp
  have y:∀n,wb (z8 bs rs).cells n=0:=λn=>by
   induction n with
   |zero=>rfl
   |succ n ih=>rw[wb,ih,zfe];rfl
  rw[show zj bs rs 0=z8 bs rs from rfl,z,z,y]
  rfl
 |n+1=>by
  have w:=qa pj bo ro n;have acts:∀m,jI rs (zB rs (zj bs rs n) m).1.gone .source rs.length-jI rs (zB rs (zj bs rs n) m).1.gone .drain rs.length-wb (zB rs (zj bs rs n) m).1.cells bs.length=jI rs (zj bs rs n).gone .source rs.length-jI rs (zj bs rs n).gone .drain rs.length-wb (zj bs rs n).cells bs.length:=λm=>by
   induction m with
   |zero=>rfl
   |succ m ih=>exact(ziE (qT w pj bo ro m) pj bo ro m).trans ih
  have h:=acts rs.length;have ih:=zbd n;show jI rs (zB rs (zj bs rs n) rs.length).1.gone .source rs.length-jI rs (zB rs (zj bs rs n) rs.length).1.gone .drain rs.length=wb (qd bs _ _ _) bs.length
  rw[zdm (λb=>zc7 b _)]
  lia
end
def zi8(a:Ad):Sp:=λvs H Q _=>∃(cb:Addr)(xs:Ap)(c:Av),vs=[.ref cb]/\H cb=some (.lst xs)/\Reps H (z6 H) xs (c.map qg)/\c.length<=6/\∀(l:Addr)(us:Ap) H',Same H H'->H l=none->H' l=some (.lst us)->Reps H' (z6 H') us ((c.filterMap id).map Ja)->Q (.ref l) H'
theorem zfo(T:Txt K mg a):Cal P w K mg base "_law_wares" 1 ["_law_row_here"] [] (zi8 a):=T.nZ.cal λF=>by
 refine F.okx zcu ?_ ?_
 .walk_at"i"
 walk_at"j";refine oE3 h λcb xs c p6=>oA5 p6 λp8 hcb rvs c6 k=>?_;clear p6 h;subst p8;have lv:xs.length=c.length:=by rw[rvs.len,ai]
 walk_at"T";refine⟨_,(zd (zl (jF (vars:=["_law_ware_here"]) (caps:=[]) (N:=["_law_ware_here"]) (ON:=["_law_row_here"]) (osc:=zg QE) rfl rfl (by right) rfl rfl (qq (pq 0)) (λ_ _ _ _=>(qu 0 (show(["_law_ware_here"]:A8).Nodup from by symm))) (λ_ _ _ _=>(VX (zm wI (pq 0) zC (zr _)))) (λ_ _ _ _=>(pq 0))))),?_⟩;walk_at"d";exists⟨cb,rfl,.inl ⟨⟨_,SqL.of hcb⟩,λ_ _ _ _ pv hacc=>?_⟩⟩;refine qM (K:=K) (a:=cb) (xs:=xs) (λj σ H'=>∃(v0:Aq)(us:Ap),σ=[v0]/\Same H H'/\H' pv=some (.lst us)/\us.length<=j/\Reps H' (z6 H') us (((c.take j).filterMap id).map Ja)) (iE2 _ ([]) (iA5 rfl (zf hacc) pD (bz _) (.nil))) (λi σ H' _ h=>by let⟨_,_,_,s,_⟩:=h;exact SqL.of (s _ _ hcb)) ?_ ?_
 .intro j v σ H1 hj p9;refine oE2 p9 λv0 us p6=>oA5 p6 λp8 s1 ha lu ru=>?_;ext;let⟨d,hd,rv⟩:=rvs.at hj;rw[am,aq]at hd;let⟨wr,hwr,rfl⟩:=hd;have hjl:j<c.length:=(aa.mp hwr).1;cases wr with
  |none =>
   have rv:Rep H (z6 H) v .non:=rv;cases rv;exists iE2 _ us (iA5 rfl s1 ha (by lia) ?_);rw[aI,hwr];simpa using ru
  |some x =>
   have rv:Rep H (z6 H) v (Ja x):=rv;let⟨tx,rfl,htx⟩:=xz (b:=x) rv;exists⟨_,iA3 ha (zn (by lia)) (iE2 _ (us++[.ref tx]) (iA5 rfl (λb o hb=>by rw[pE (pF hb hacc)];exact s1 b o hb) pD (by simp;lia) ?_))⟩;rw[aI,hwr,show(c.take j++(some (some x)).toList).filterMap id=(c.take j).filterMap id++[x] by simp,ba];have rx:=rv.keep (q:=z6 H1) λb o ⟨xs,hx⟩ hb=>⟨⟨xs,s1 _ _ hx⟩,s1 _ _ hb⟩;refine(ru.append (.one rx)).keep λb o ⟨xs,hx⟩ hb=>?_;have ne:b≠pv:=λz=>by rw[z,ha]at hx;cases hx
   exact⟨⟨xs,by rw[pE ne];exact hx⟩,by rw[pE ne];exact hb⟩
 .intro σ H1 p9;refine oE2 p9 λv0 us p6=>oA5 p6 λp8 s1 ha lu ru=>?_;ext;rw[lv,aN]at ru;exact k pv us H1 s1 hacc ha ru
def zbO{Q:VK}{l:Addr}{b:Int}(h:H l=some (.lst (iv ns)))(l1:ns.length<1000)(nd:ns.Nodup)(e:ns[j]?=some b)(q:Q (.int j) H):zf7 (.ref l) [.int b] H Q:=by
 refine⟨l,.int b,iv ns,j,rfl,rfl,h,by rw[zL];exact l1,rfl,by simp[iv,jQ],⟨.int b,qV e,by simp[eqV]⟩,λm z hm hz=>?_,q⟩;let⟨x,hx,rfl⟩:=Zw hz;have:x≠b:=λy=>by
  let⟨h1,e1⟩:=aa.mp hx;let⟨h2,e2⟩:=aa.mp e;exact cK.mp nd m j h1 h2 hm (by rw[e1,e2,y])
 simp[eqV,this]
theorem zc2(b:Int):∀ns:List Int,inV (.int b) (iv ns)=decide (b∈ns)
 |[]=>by simp[inV,iv]
 |n::ns=>by
  show(eqV (.int n) (.int b)||inV (.int b) (iv ns))=_
  rw[zc2 b ns];by_cases e:n=b
  .simp[eqV,e]
  .simp[eqV,e,bb e]
def zkn(a:Ad):Sp:=λvs H Q _=>∃(vw:V)(y:Addr)(sn:SN)(st:PSt)(bs:A1)(rs:At)(p:A5)(b kf jf:Nat)(rf:Row),vs=[vw,.ref y,.int b]/\Rep H p vw (qG a bs rs)/\StO a H y sn st/\stWf bs rs st/\zN bs rs/\(∀r∈rs,r.ok)/\rs[kf]?=some rf/\rf.outs[jf]?=some (b:Int)/\Q (.int (onG st.gone rf kf jf)) H
def zio(T:Txt K mg a):Cal P w K mg base "_law_put" 1 ["_law_work","_law_state_here","_law_belt_here"] [] (zkn a):=T.oU.cal λF=>by
 refine F.okx zfX ?_ ?_
 .walk_at"i"
 walk_at"j";refine oE8 h λvw y sn st bs rs p b p6=>oE3 p6 λkf jf rf p8=>oA9 p8 λpw hw so wf pj ro hf ef k=>?_;clear p6 p8 h;subst pw;have r24:=pj.1.2.2;let⟨nf,_⟩:=zc8 pj;have kl:=(aa.mp hf).1;refine oE7 (qO hw) λyw dw fws l1' l2 bvs ph p6=>oA9 p6 λp8 hyw ew1 ew2 hl1 hl2 hB hK no=>?_;clear p6;subst p8;walk_at"T";refine⟨_,(zh (qy qQ rfl (xb (za (zM zR zP (za (zk (pq 0) rfl) zb)) zb)) (qu 3 zfX.nd)  (zh (zu 4 zfX.nd (zo (zk (pq 0) rfl) (pq 3)))  (zh (zF (PW.pt (pw_and (zm zbl (pq 2) (zk (pq 4) rfl) (by with_unfolding_all rfl)) (pw_and1 (qz (zM xE qh (za (pq 4) (za jG zb))) (λ_=>rfl)))))  (zd (zl (zM (zhj rfl) zhg (za (zo (zk (pq 1) rfl) (pq 3)) zb))))  zp)  (zd (zF (zm zbl (pq 2) (zk (pq 4) rfl) (by with_unfolding_all rfl))  (zd (zl (zo (zo (zk (pq 1) rfl) (pq 3)) (qA ar dS gj zbs (zk (pq 4) rfl) (za (pq 2) zb)))))  zp)))))  (zd (zl (Xg ZB ze)))),?_⟩;walk_at"c";exists ra hyw T.iL T.iI ew2 ⟨_,.inl ⟨_,SqL.of hl2,rfl⟩,?_⟩;rw[hK.len];refine⟨by lia,by lia,?_⟩;refine va (n:=(rs.length:Int).toNat) (λm σ H'=>∃(v3 v4:Aq),σ=[some (.ref yw),some (.ref y),some (.int b),v3,v4]/\H'=H/\m<=kf) (iE2 _ _ (iA3 rfl rfl (bz _))) ?_ (λσ H' h=>by let⟨_,_,_,_,z⟩:=h;lia);intro m σ H' hm p9;refine oE2 p9 λv3 v4 p6=>oA3 p6 λp8 pw mk=>?_;clear p6 p9;subst p8 pw;rw[ax]at hm;simp only[ck];let⟨r,hr'⟩:∃r,rs[m]?=some r:=⟨_,ac hm⟩;let⟨kv,hkv,hKn⟩:=wK hK hr';refine oE6 hKn.inv λz1 dx1 m1 m2 m3 fs1 p6=>oA9 p6 λp8 _ _ _ _ g0 f1 f2 pw=>oA5 pw λ_ g1 g2 _ _=>?_;clear p6 pw;subst p8;let⟨gg,eg⟩:∃g,st.gone[m]?=some g:=⟨_,ac (by rw[wf.go.1];exact hm)⟩;let⟨gb,qb,hb⟩:=xf so.hg eg;have eG:st.gone.getD m []=gg:=by rw[ae,eg];rfl
 have rl:=j5 (ro r (ah hr'));exists ra hyw T.iL T.iI ew2 (zq (SqL.of hl2) (zt hkv) ?_);left;have inR:∀{H2:Hp}{Q2:VK},H2 m2=some (.lst (iv r.outs))->Q2 (.bl (decide ((b:Int)∈r.outs))) H2->rIn K false (.int b) (.ref m2) H2 Q2:=λ{H2 Q2} h q=>⟨m2,iv r.outs,rfl,.inl (SqL.of h),rfl,Qn _,by rw[ak (by decide),zc2];exact q⟩;refine ra g0 (CT T _) (NO T _) f2 (inR g2 ?_);by_cases hm2:(b:Int)∈r.outs
 .obtain⟨j,hj⟩:=aV hm2;let⟨rfl,rfl⟩:=j6 nf hr' hf hj ef;cases hf.symm.trans hr';rw[bc hm2];exists iE2 (.ref a.p) _ (iA3 T.kF rfl (iE4 _ _ _ _ (iA4 rfl ((WT T rf.wd).ty (CT T rf.wd) g0) (.inl ⟨_,rfl,zjG T rf.wd⟩) ?_)));left;unfold onG at k;rw[eG]at k;refine zT (λz=>?_) (λz=>?_)
  .rw[ao z]at k;exists ra so.hy T.ad T.iJ rfl (zq (SqL.of so.hg.out) (zt (xq qb)) ?_);exact iE2 gb gg (iA3 rfl (SqL.of hb) k)
  .rw[ak z]at k;exists ra g0 (CT T _) (NO T _) f2 (inR g2 ?_);rw[bc hm2];exists ra so.hy T.ad T.iJ rfl (zq (SqL.of so.hg.out) (zt (xq qb)) ?_);refine ra g0 (CT T _) (NO T _) f2 ⟨.inl ⟨rfl,_,SqL.of g2⟩,zbO g2 (by lia) ?_ ef (zq (SqL.of hb) (zt (qV ?_)) k)⟩
   .exact(ee.mp nf).1 rf (ah hf)
   .have lg:=(wf.go.2 m rf gg hf eg).1;have jl:=(aa.mp ef).1;rw[XO (ro rf (ah hf)) z,bg]at lg;unfold gAt;rw[eG];exact ql (by lia)
 .rw[aT hm2];exists ra g0 (CT T _) (NO T _) f2 (inR g2 ?_);rw[aT hm2];left;exact iE2 _ _ ⟨rfl,iF mk λz=>hm2 (by subst z;cases hf.symm.trans hr';exact ah ef)⟩
def zi6(a:Ad):Sp:=λvs H Q _=>∃(vw:V)(y:Addr)(sn:SN)(st:PSt)(bs:A1)(rs:At)(p:A5)(b kf jf:Nat)(rf:Row),vs=[vw,.ref y,.int b]/\Rep H p vw (qG a bs rs)/\StO a H y sn st/\stWf bs rs st/\zN bs rs/\(∀r∈rs,r.ok)/\rs[kf]?=some rf/\rf.ins[jf]?=some (b:Int)/\Q (.int (vL st.gone rf kf jf)) H
def zhd(T:Txt K mg a):Cal P w K mg base "_law_took" 1 ["_law_work","_law_state_here","_law_belt_here"] [] (zi6 a):=T.oC.cal λF=>by
 refine F.okx zex ?_ ?_
 .walk_at"i"
 walk_at"j";refine oE8 h λvw y sn st bs rs p b p6=>oE3 p6 λkf jf rf p8=>oA9 p8 λpw hw so wf pj ro hf ef k=>?_;clear p6 p8 h;subst pw;have r24:=pj.1.2.2;let⟨_,nf⟩:=zc8 pj;have kl:=(aa.mp hf).1;refine oE7 (qO hw) λyw dw fws l1' l2 bvs ph p6=>oA9 p6 λp8 hyw ew1 ew2 hl1 hl2 hB hK no=>?_;clear p6;subst p8;walk_at"T";refine⟨_,(zh (qy qQ rfl (xb (za (zM zR zP (za (zk (pq 0) rfl) zb)) zb)) (qu 3 zex.nd)  (zh (zu 4 zex.nd (zo (zk (pq 0) rfl) (pq 3)))  (zh (zF (PW.pt (pw_and (zm zbl (pq 2) (zk (pq 4) rfl) (by with_unfolding_all rfl)) (pw_and1 (qz (zM xE qh (za (pq 4) (za jG zb))) (λ_=>rfl)))))  (zd (zl (zo (zo (zk (pq 1) rfl) (pq 3)) (qA ar dS gj zbs (zk (pq 4) rfl) (za (pq 2) zb)))))  zp)  (zd (zF (zm zbl (pq 2) (zk (pq 4) rfl) (by with_unfolding_all rfl))  (zd (zl (zM (zhj rfl) zhg (za (zo (zk (pq 1) rfl) (pq 3)) zb))))  zp)))))  (zd (zl (Xg ZB ze)))),?_⟩;walk_at"c";exists ra hyw T.iL T.iI ew2 ⟨_,.inl ⟨_,SqL.of hl2,rfl⟩,?_⟩;rw[hK.len];refine⟨by lia,by lia,?_⟩;refine va (n:=(rs.length:Int).toNat) (λm σ H'=>∃(v3 v4:Aq),σ=[some (.ref yw),some (.ref y),some (.int b),v3,v4]/\H'=H/\m<=kf) (iE2 _ _ (iA3 rfl rfl (bz _))) ?_ (λσ H' h=>by let⟨_,_,_,_,z⟩:=h;lia);intro m σ H' hm p9;refine oE2 p9 λv3 v4 p6=>oA3 p6 λp8 pw mk=>?_;clear p6 p9;subst p8 pw;rw[ax]at hm;simp only[ck];let⟨r,hr'⟩:∃r,rs[m]?=some r:=⟨_,ac hm⟩;let⟨kv,hkv,hKn⟩:=wK hK hr';refine oE6 hKn.inv λz1 dx1 m1 m2 m3 fs1 p6=>oA9 p6 λp8 _ _ _ _ g0 f1 f2 pw=>oA5 pw λ_ g1 g2 _ _=>?_;clear p6 pw;subst p8;let⟨gg,eg⟩:∃g,st.gone[m]?=some g:=⟨_,ac (by rw[wf.go.1];exact hm)⟩;let⟨gb,qb,hb⟩:=xf so.hg eg;have eG:st.gone.getD m []=gg:=by rw[ae,eg];rfl
 have rl:=j5 (ro r (ah hr'));exists ra hyw T.iL T.iI ew2 (zq (SqL.of hl2) (zt hkv) ?_);left;have inR:∀{H2:Hp}{Q2:VK},H2 m1=some (.lst (iv r.ins))->Q2 (.bl (decide ((b:Int)∈r.ins))) H2->rIn K false (.int b) (.ref m1) H2 Q2:=λ{H2 Q2} h q=>⟨m1,iv r.ins,rfl,.inl (SqL.of h),rfl,Qn _,by rw[ak (by decide),zc2];exact q⟩;refine ra g0 (CT T _) (NI T _) f1 (inR g1 ?_);by_cases hm2:(b:Int)∈r.ins
 .obtain⟨j,hj⟩:=aV hm2;let⟨rfl,rfl⟩:=j6 nf hr' hf hj ef;cases hf.symm.trans hr';rw[bc hm2];exists iE2 (.ref a.p) _ (iA3 T.kF rfl (iE4 _ _ _ _ (iA4 rfl ((WT T rf.wd).ty (CT T rf.wd) g0) (.inl ⟨_,rfl,zjG T rf.wd⟩) ?_)));left;unfold vL at k;rw[eG]at k;refine zT (λz=>?_) (λz=>?_)
  .rw[ao z]at k;exists ra so.hy T.ad T.iJ rfl (zq (SqL.of so.hg.out) (zt (xq qb)) ?_);refine ra g0 (CT T _) (NI T _) f1 ⟨.inl ⟨rfl,_,SqL.of g1⟩,zbO g1 (by lia) ?_ ef (zq (SqL.of hb) (zt (qV ?_)) k)⟩
   .exact(ee.mp nf).1 rf (ah hf)
   .have lg:=(wf.go.2 m rf gg hf eg).1;have jl:=(aa.mp ef).1;unfold qH at lg;rw[bg]at lg;unfold gAt;rw[eG];exact ql (by lia)
  .rw[ak z]at k;exists ra g0 (CT T _) (NI T _) f1 (inR g1 ?_);rw[bc hm2];exists ra so.hy T.ad T.iJ rfl (zq (SqL.of so.hg.out) (zt (xq qb)) ?_);exact iE2 gb gg (iA3 rfl (SqL.of hb) k)
 .rw[aT hm2];exists ra g0 (CT T _) (NI T _) f1 (inR g1 ?_);rw[aT hm2];left;exact iE2 _ _ ⟨rfl,iF mk λz=>hm2 (by subst z;cases hf.symm.trans hr';exact ah ef)⟩
def zgT{rs:At}{st:PSt}(wf:stWf bs rs st)(ro:∀r∈rs,r.ok){r:Row}(h:rs[j]?=some r):∃g,st.gone[j]?=some g/\g[0]?=some (gAt st.gone j 0):=by
 have hj:j<st.gone.length:=by rw[wf.go.1];exact(aa.mp h).1
 have e:st.gone[j]?=some (st.gone[j]'hj):=ac hj;have l:=(wf.go.2 j r _ h e).1;have c1:=(xD (ro r (ah h))).1;refine⟨_,e,?_⟩;unfold gAt;rw[ae (l:=st.gone),e,aO];exact ql (by lia)
def zhu(a:Ad):Sp:=λvs H Q _=>∃(vw:V)(y:Addr)(sn:SN)(st:PSt)(bs:A1)(rs:At)(p:A5)(tx:Addr)(j:Nat)(m:Int)(r:Row),vs=[vw,.ref y,.ref tx]/\Rep H p vw (qG a bs rs)/\StO a H y sn st/\stWf bs rs st/\(∀r∈rs,r.ok)/\H tx=some (.tup [.int j,.int m])/\rs[j]?=some r/\r.wd=.source/\0<=m/\m<gAt st.gone j 0/\Q (.bl true) H
def zhc(T:Txt K mg a):Cal P w K mg base "_law_ware" 1 ["_law_work","_law_state_here","_law_ware_here"] [] (zhu a):=T.oE.cal λF=>by
 refine F.okx zew ?_ ?_
 .walk_at"i"
 walk_at"j";refine oE8 h λvw y sn st bs rs p tx p6=>oE3 p6 λj m r p8=>oA9 p8 λpw hw so wf ro htx hj hs pA=>oA3 pA λm0 m1 k=>?_;clear p6 p8 pA h;subst pw;let⟨g,hg,hg0⟩:=zgT wf ro hj;let⟨gb,qb,hb⟩:=xf so.hg hg;have jl:=(aa.mp hj).1;refine oE7 (qO hw) λyw dw fws l1' l2 bvs ph p6=>oA9 p6 λp8 hyw ew1 ew2 hl1 hl2 hB hK no=>?_;clear p6;subst p8;let⟨kv,hkv,hKn⟩:=wK hK hj;refine oE6 hKn.inv λz1 dx1 m1' m2 m3 fs1 p6=>oA9 p6 λp8 _ _ _ _ g0 _ _ pw=>oA5 pw λ_ _ _ _ _=>?_;clear p6 pw;subst p8;walk_at"T";refine⟨_,(zh (zF (PW.pt (pw_or (jp (qz (zM xE qh (za (pq 2) (za (zkB Za) zb))) (λ_=>rfl))) (pw_or1 (zm (Q4 hr.units1) (zM zR zP (za (pq 2) zb)) ze (zr _)))))  (zd (zl zbh))  zp)  (zh (zF (PW.pt (pw_or (jp (jv jR zdD ze (zo (pq 2) ze) (zM zR zP (za (zk (pq 0) rfl) zb)))) (pw_or1 (jp (qz (zM xE qh (za (zo (zk (pq 0) rfl) (zo (pq 2) ze)) (za jG zb))) (λ_=>rfl))))))  (zd (zl zbh))  zp)  (zd (zl (zgk op_le zkH ze (zo (pq 2) ze) (zo (zo (zk (pq 1) rfl) (zo (pq 2) ze)) ze)))))),?_⟩;exists zid htx ?_;exists⟨2,.inr ⟨_,SqT.of htx,rfl⟩,?_⟩;exists pH htx at0 ?_;exists ra hyw T.iL T.iI ew2 ⟨_,.inl ⟨_,SqL.of hl2,rfl⟩,?_⟩;rw[hK.len];refine zT (λ_=>?_) (λz=>absurd (by lia) z);exists ra hyw T.iL T.iI ew2 (pH htx at0 (zq (SqL.of hl2) (zt hkv) ?_));refine iE2 (.ref a.k) _ (iA3 T.kD rfl (iE4 _ _ _ _ (iA4 rfl ((WT T _).ty (CT T _) g0) (.inl ⟨_,rfl,by rw[hs];exact T.ky⟩) ?_)));exists pH htx (show atI _ 1=some (.int m)from rfl) ?_;exists zT (λ_=>?_) (λz=>absurd m0 z);refine ra so.hy T.ad T.iJ rfl (pH htx at0 (zq (SqL.of so.hg.out) (zt (xq qb)) (zq (SqL.of hb) (zt (qV hg0)) ?_)));rw[<- bc m1]at k;exact k
noncomputable def ja(cs:Au):List (Int×Int):=cs.flatMap λc=>c.filterMap id
def JK{cs:Au}{c:Av}(h:cs[i]?=some c):ja (cs.take (i+1))=ja (cs.take i)++c.filterMap id:=by
 rw[aI,h];simp[ja]
def zb7{cs:Au}{b p:Nat}{c:Av}{x:zy}(h:cs[b]?=some c)(h':c[p]?=some x):atC cs b p=x:=by
 unfold atC;rw[ae,ae,h,aO,h',aO]
def zeg{cs:Au}{x:Int×Int}(h:x∈ja cs):∃b p,atC cs b p=some x:=by
 let⟨c,hc,hx⟩:=bY.mp h;let⟨y,hy,e⟩:=bN.mp hx;let⟨b,hb⟩:=aV hc;let⟨p,hp⟩:=aV hy;exact⟨b,p,(zb7 hb hp).trans e⟩
def zaw{cs:Au}(u:Uq cs):(ja cs).Nodup:=by
 unfold ja List.Nodup;rw[ee];refine⟨λc hc=>?_,?_⟩
 .rw[List.pairwise_filterMap];let⟨b,hb⟩:=aV hc;rw[cK];intro i j hi hj lt x hx y hy e;subst e;have:=(u b i b j x ((zb7 hb (ac hi)).trans hx) ((zb7 hb (ac hj)).trans hy)).2
  lia
 .rw[cK];intro i j hi hj lt x hx y hy e;subst e;let⟨z,hz,e⟩:=bN.mp hx;let⟨z',hz',e'⟩:=bN.mp hy;let⟨p,hp⟩:=aV hz;let⟨p',hp'⟩:=aV hz';have:=(u i p j p' x ((zb7 (ac hi) hp).trans e) ((zb7 (ac hj) hp').trans e')).1
  lia
theorem zax:∀{cs:Au},cs.length<=24->(∀c∈cs,c.length<=6)->(ja cs).length<=6*cs.length
 |[],_,_=>au _
 |c::cs,h,k=>by
  have e:=zax (cs:=cs) (Nat.le_of_succ_le h) λx hx=>k x (ay _ hx);have l:=f9 id c;have c6:=k c (aU ..);show(c.filterMap id++ja cs).length<=_
  rw[aH,aX]
  lia
noncomputable def ze1(x:Int×Int):List A9:=[some x.1,some x.2]
def zgJ{x y:Int×Int}(h:ze1 x=ze1 y):x=y:=by
 unfold ze1 at h;simp only[fF,cA,and_true]at h;exact Prod.ext h.1 h.2
theorem zdL{H:Hp}{p:A5}:∀{ws:A1}{us:Ap},Reps H p us (ws.map Ja)->∃xs:List (List A9×Addr),us=xs.map (λx=>V.ref x.2)/\xs.map (·.1)=ws.map ze1/\∀x∈xs,Rep H p (.ref x.2) (.tup (x.1.map oiD))
 |[],us,h=>by
  have:=h.len;rw[gx,cO,c7]at this;exact⟨[],this,rfl,λx hx=>by cases hx⟩
 |w::ws,[],h=>by have:=h.len;simp at this
 |w::ws,u::us,h=>by
  have hu:=h.g 0 u (Ja w) rfl rfl;let⟨t,rfl,_⟩:=xz hu;let⟨xs,e1,e2,e3⟩:=zdL (ws:=ws) (us:=us) ⟨by have:=h.len;simpa using this,λi v d hv hd=>h.g (i+1) v d hv hd⟩;refine⟨(ze1 w,t)::xs,by rw[e1];rfl,by rw[bF,bF,e2],λx hx=>?_⟩;rcases av.mp hx with rfl|hx
  .exact hu
  .exact e3 x hx
theorem zad:∀c:List zy,fl c=((c.filterMap id).length:Int)
 |[]=>rfl
 |none::c=>by
  have:=zad c;unfold fl at this ⊢;simpa using this
 |some x::c=>by
  have:=zad c;unfold fl at this ⊢;simp at this ⊢
  lia
def zf2{f:Row->List Int}{rs:At}{b:Int}(h:b∈rs.flatMap f):∃(k j:Nat)(r:Row),rs[k]?=some r/\(f r)[j]?=some b:=by
 let⟨r,hr,hb⟩:=bY.mp h;let⟨k,hk⟩:=aV hr;let⟨j,hj⟩:=aV hb;exact⟨k,j,r,hk,hj⟩
def ziw{rs:At}(pj:zN bs rs)(bo:∀b∈bs,zE b.1 b.2)(ro:∀r∈rs,r.ok)(t:Nat)(hi:i<bs.length):∃(kf jf kt jt:Nat)(rf rt:Row),rs[kf]?=some rf/\rf.outs[jf]?=some (i:Int)/\rs[kt]?=some rt/\rt.ins[jt]?=some (i:Int)/\onG (zj bs rs t).gone rf kf jf-vL (zj bs rs t).gone rt kt jt=((((zj bs rs t).cells.getD i []).filterMap id).length:Int):=by
 have hm:(i:Int)∈rgI bs.length:=aJ.mpr ⟨i,bu.mpr hi,rfl⟩;let⟨kf,jf,rf,hf,ef⟩:=zf2 (pj.2.1.mem_iff.mpr hm);let⟨kt,jt,rt,ht,et⟩:=zf2 (pj.2.2.mem_iff.mpr hm);exact⟨kf,jf,kt,jt,rf,rt,hf,ef,ht,et,(zdy pj bo ro hf ef ht et t).trans (zad _)⟩
theorem zdl{cs:Au}:∀n,n<=cs.length->wb cs n=((ja (cs.take n)).length:Int)
 |0,_=>rfl
 |n+1,h=>by
  have e:cs[n]?=some (cs[n]'h):=ac h;rw[wb,zdl n (by lia),JK e,aH,flB,ae,e,aO,zad]
  lia
inductive spAll(a:Ad)(vs:Ap)(H:Hp)(Q:VK)(E:XK):Prop
 |i (vw:V) (y:Addr) (sn:SN) (t:Nat) (bs:A1) (rs:At) (p:A5):vs=[vw,.ref y]->Rep H p vw (qG a bs rs)->StO a H y sn (zj bs rs t)->zN bs rs->(∀b∈bs,zE b.1 b.2)->(∀r∈rs,r.ok)->(∀H',Same H H'->Q (.bl true) H')->spAll a vs H Q E
def zir(T:Txt K mg a):Cal P w K mg base "_law_all" 2 ["_law_work","_law_state_here"] [] (spAll a):=T.oV.cal λF=>by
 refine F.okx zfZ ?_ ?_
 .walk_at"i"
 walk_at"j";rcases h with⟨vw,y,sn,t,bs,rs,p,rfl,hw,so,pj,bo,ro,k⟩;have wf:=qa pj bo ro t;have uq:=VV pj bo ro t;have tot:=zbd pj bo ro t;have on:=λi hi=>ziw pj bo ro t (i:=i) hi;have b24:=pj.1.1.2;have r24:=pj.1.2.2;generalize zj bs rs t=st at so wf uq on tot;have lc:sn.acs.length=st.cells.length:=by rw[so.hc.len,zZ,ai]
 refine oE7 (qO hw) λyw dw fws l1' l2 bvs ph p6=>oA9 p6 λp8 hyw ew1 ew2 hl1 hl2 hB hK no=>?_;clear p6;subst p8;walk_at"T";refine⟨_,(zh (zu 2 zfZ.nd (zO zb))  (qF (qy qQ rfl (xb (za (zM zR zP (za (zk (pq 0) rfl) zb)) zb)) (qu 3 zfZ.nd)  (zh (zu 4 zfZ.nd (zo (zk (pq 1) rfl) (pq 3)))  (zh (zu 5 zfZ.nd ‹(pq 4) zb›)  (zh (zF (zm (Q4 hr.units1) (zM zR zP (za (pq 4) zb)) (zk (zo (zk (pq 0) rfl) (pq 3)) rfl) (zr _))  (zd (zl zbh))  zp)  (zh (zF (zm (Q4 hr.units1) (zK x8 ‹(pq 0) (za (pq 1) (za (pq 3) zb))› ‹(pq 0) (za (pq 1) (za (pq 3) zb))›) (zM zR zP (za (pq 5) zb)) (zr _))  (zd (zl zbh))  zp)  (zd (zu 2 zfZ.nd (zK qk (pq 2) (pq 5)))))))))  (zh (zF (zm (Q4 hr.units1) (zM ziv zP (za (xL (zit zkI (by decide) rfl hr.units1 (by decide)) zj5 (za (pq 2) zb)) zb)) (zM zR zP (za (pq 2) zb)) (zr _))  (zd (zl zbh))  zp)  (zh (zu 6 zfZ.nd (zM zR zP (za (pq 2) zb)))  (qF (qy qQ rfl (xb (za (zM zR zP (za (zk (pq 0) rfl) zb)) zb)) (qu 7 zfZ.nd)  (qF (zF (qz (zM xE qh (za (zo (zk (pq 0) rfl) (pq 7)) (za jG zb))) (λ_=>rfl))  (zd (zu 6 zfZ.nd (zK x8 (pq 6) (zo (zo (zk (pq 1) rfl) (pq 7)) ze))))  zp)  (zd (zF (qz (zM xE qh (za (zo (zk (pq 0) rfl) (pq 7)) (za jG zb))) (λ_=>rfl))  (zd (zu 6 zfZ.nd (zK qk (pq 6) (zo (zo (zk (pq 1) rfl) (pq 7)) ze))))  zp))))  (zd (zl (zgm (Zg (zgs hr.units1) (pq 6) ze (zr _)) (zgh (zM (zhk rfl) zhh (za (jF (vars:=["_law_ware_here"]) (caps:=[0,1]) (N:=["_law_ware_here","_law_work","_law_state_here"]) (ON:=["_law_work","_law_state_here","_law_wares_here","_law_belt_here","_law_row_here","_law_lying","_law_rest","_law_k"]) (osc:=zg VT) rfl rfl (by right) rfl rfl (qq (pq 2)) (λ_ _ _ _=>(qu 0 (show(["_law_ware_here","_law_work","_law_state_here"]:A8).Nodup from by symm))) (λ_ _ _ _=>qm) (λ_ _ _ _=>(vI hr (za (pq 1) (za (pq 2) (za (pq 0) zb)))))) zb))))))))))),?_⟩;left;intro W0 hW0;left;let px:St->Hp->Prop:=λσ' H'=>∃(v3 v4 v5:Aq)(wl:Addr)(us:Ap),σ'=[some (.ref yw),some (.ref y),some (.ref wl),v3,v4,v5,none,none]/\Same H H'/\H' wl=some (.lst us)/\Reps H' (z6 H') us ((ja st.cells).map Ja);refine cut px ?_ ?_
 .walk_at"c";left;have s1:=zf (o:=.lst []) hW0;have hW1:upd H W0 (.lst []) W0=some (.lst []):=pD;generalize upd H W0 (.lst [])=H1 at s1 hW1 ⊢;refine ra (s1 _ _ hyw) T.iL T.iT ew1 ⟨_,.inl ⟨_,SqL.of (s1 _ _ hl1),rfl⟩,?_⟩;rw[hB.len];refine⟨by lia,by lia,?_⟩;let pB:Nat->St->Hp->Prop:=λm σ H'=>∃(v3 v4 v5:Aq)(wl:Addr)(us:Ap),σ=[some (.ref yw),some (.ref y),some (.ref wl),v3,v4,v5,none,none]/\Same H H'/\H' wl=some (.lst us)/\Reps H' (z6 H') us ((ja (st.cells.take m)).map Ja)/\us.length<=6*m;refine va (n:=(bs.length:Int).toNat) pB (iE5 _ _ _ W0 ([]) (iA5 rfl s1 hW1 (.nil) (bz _))) ?_ ?_
  .intro m σ H2 hm p9;refine oE5 p9 λv3 v4 v5 wl us p6=>oA5 p6 λp8 s2 hW ru lu=>?_;ext;rw[ax]at hm;simp only[ck];let⟨c,ec⟩:∃c,st.cells[m]?=some c:=⟨_,ac (by rw[wf.co.1];exact hm)⟩;let⟨cb,xs,qc,hcb,rxs⟩:=so.hc.at (i:=m) (xs:=c.map qg) (by rw[zZ,am,ec];rfl);refine oE6 (on m hm) λkf jf kt jt rf rt p6=>oA5 p6 λhf ef ht et eo=>?_;clear p6;rw[show st.cells.getD m []=c by rw[ae,ec];rfl]at eo;let⟨bt,hbt⟩:∃bt,bs[m]?=some bt:=⟨_,ac hm⟩;have cl:=(wf.co.2 m bt c hbt ec).1;have bk:=bo bt (ah hbt);have c6:c.length<=6:=by have:=bk.2.1;lia
   have so2:=so.same s2;exists ra so2.hy T.ad T.iK rfl (zq (SqL.of so2.hc.out) (zt (by rw[am,qc];rfl)) ?_);exists uc (zfo T).mono (iE3 cb xs c (iA5 rfl (s2 _ _ hcb) (rxs.keep λb o ⟨ys,hy⟩ hb=>⟨⟨ys,s2 _ _ hy⟩,s2 _ _ hb⟩) c6 (λl2' us2 H3 s3 nl2 hl3 ru2=>?_)));have s23:=s2.trans s3;let⟨bv,hbv⟩:∃v,bvs[m]?=some v:=⟨_,ac (by rw[hB.len];exact hm)⟩;refine oE3 ((hB.g m bv bt hbv hbt).inv) λyb db fb p6=>oA5 p6 λp8 _ gyb gr _=>?_;clear p6;subst p8;have hw3:=hw.keep (q:=p) λb o hb ho=>⟨hb,s23 _ _ ho⟩;have so3:=so.same s23;have lx:xs.length=c.length:=by rw[rxs.len,ai]
   have ll:us2.length=(c.filterMap id).length:=by rw[ru2.len,ai]
   exists⟨_,⟨.inl ⟨_,SqL.of (s23 _ _ hcb),rfl⟩,iE5 yw a.r dw fws _ (iA6 rfl (s23 _ _ hyw) T.iL T.iT ew1 (zq (SqL.of (s23 _ _ hl1)) (zt hbv) ?_))⟩⟩;refine ra (s23 _ _ gyb) T.i5 T.kg gr ?_;exists zT (λz=>absurd (by have:=bk.1;lia) z) (λ_=>?_);exists uc (zio T).mono (iE8 (.ref yw) y sn st bs rs p m (iE3 kf jf rf (iA9 rfl hw3 so3 wf pj ro hf ef ?_)));refine uc (zhd T).mono (iE8 (.ref yw) y sn st bs rs p m (iE3 kt jt rt (iA9 rfl hw3 so3 wf pj ro ht et ?_)));exists⟨_,.inl ⟨_,SqL.of hl3,rfl⟩,?_⟩;rw[ll];refine zT (λz=>absurd eo z) (λ_=>?_);left;have f6:=f9 id c;refine jW (SqL.of (s3 _ _ hW)) (SqL.of hl3) (b8 (zn (by lia))) λwl2 hw2=>?_;left;have sW:=zf (o:=.lst (us++us2)) hw2;refine iE5 _ _ _ wl2 (us++us2) (iA5 rfl (s23.trans sW) pD ?_ (by rw[aH];lia));rw[JK ec,ba];exact((ru.keep (q:=z6 H3) λb o ⟨ys,hy⟩ hb=>⟨⟨ys,s3 _ _ hy⟩,s3 _ _ hb⟩).append ru2).keep λb o ⟨ys,hy⟩ hb=>⟨⟨ys,sW _ _ hy⟩,sW _ _ hb⟩
  .intro σ H2 p9;refine oE5 p9 λv3 v4 v5 wl us p6=>oA5 p6 λp8 s2 hW ru lu=>?_;ext;rw[ax,<- wf.co.1,aN]at ru;exact iE5 _ _ _ wl us (iA4 rfl s2 hW ru)
 intro σ' H2 p9;refine oE5 p9 λv3 v4 v5 wl us p6=>oA4 p6 λp8 s2 hW ru=>?_;ext;refine oE1 (zdL ru) λxs p6=>oA3 p6 λp8 hxs hxr=>?_;clear p6;subst p8;left;have ll:xs.length=(ja st.cells).length:=by
  have:=bn List.length hxs
  rwa[ai,ai]at this
 have c24:st.cells.length<=24:=by rw[wf.co.1];exact b24
 have w6:∀c∈st.cells,c.length<=6:=λc hc=>by
  let⟨i,hi⟩:=aV hc;have il:i<bs.length:=by rw[<- wf.co.1];exact(aa.mp hi).1
  have cl:=(wf.co.2 i _ c (ac il) hi).1;have:=(bo _ (cf il)).2.1
  lia
 have w144:=zax c24 w6;refine iE2 wl xs (iA6 rfl (SqL.of hW) ?_ (by lia) (λh ok x hx=>ZV ok (λx v u r e=>vU r e) (hxr x hx) rfl) (λl2' h2=>(iE2 l2' _ (iA4 rfl pD iV ⟨_,⟨.inl ⟨_,SqL.of (pG hW h2),rfl⟩,?_⟩⟩))))
 .rw[hxs];exact List.Pairwise.map ze1 (λx y ne e=>ne (zgJ e)) (zaw uq.1)
 rw[ai];refine zT (λz=>absurd rfl z) (λ_=>?_);have s23:=zf (o:=tsO l2' xs.length) h2;have s3:=s2.trans s23;have hW:=pG (o:=tsO l2' xs.length) hW h2;generalize upd H2 l2' (tsO l2' xs.length)=H3 at s23 s3 hW ⊢;exists⟨_,.inl ⟨_,SqL.of hW,rfl⟩,?_⟩;rw[ai,ll];left;have so3:=so.same s3;rw[<- wf.co.1,zdl _ (au _),aN]at tot;have wk:∀x∈ja st.cells,∃(j:Nat)(r:Row),x.1=j/\rs[j]?=some r/\r.wd=.source/\0<=x.2/\x.2<gAt st.gone j 0:=λx hx=>by
  let⟨c,hc,hx'⟩:=bY.mp hx;let⟨z,hz,e⟩:=bN.mp hx';let⟨i,hi⟩:=aV hc;have il:i<bs.length:=by rw[<- wf.co.1];exact(aa.mp hi).1
  refine oE2 ((wf.co.2 i _ c (ac il) hi).2 z hz x.1 x.2 e) λj r p6=>oA4 p6 λej hj hs h0=>?_;clear p6;let⟨b,q,hb⟩:=zeg hx;have g:=uq.2 b q x hb;rw[ej]at g;exact iE2 j r (iA5 ej hj hs h0 g)
 generalize (ja st.cells).length=W at tot ll w144;left;let pC:St->Hp->Prop:=λσ' H'=>∃v7:Option V,σ'=[some (.ref yw),some (.ref y),some (.ref wl),v3,v4,v5,some (.int 0),v7]/\H'=H3;refine cut pC ?_ ?_
 .walk_at"c";exists ra (s3 _ _ hyw) T.iL T.iI ew2 ⟨_,.inl ⟨_,SqL.of (s3 _ _ hl2),rfl⟩,?_⟩;rw[hK.len];refine⟨by lia,by lia,?_⟩;let M4_:Nat->St->Hp->Prop:=λm σ H'=>∃(v7:Aq),σ=[some (.ref yw),some (.ref y),some (.ref wl),v3,v4,v5,some (.int (W-jI rs st.gone .source m+jI rs st.gone .drain m)),v7]/\H'=H3;refine va (n:=(rs.length:Int).toNat) M4_ ⟨none,by simp only[jI,Int.sub_zero,d5],rfl⟩ ?_ ?_
  .rintro m σ H' hm ⟨v7,rfl,rfl⟩;rw[ax]at hm;simp only[ck];let⟨r,hr'⟩:∃r,rs[m]?=some r:=⟨_,ac hm⟩;let⟨kv,hkv,hKn⟩:=wK hK hr';refine oE6 hKn.inv λz1 dx1 m1 m2 m3 fs1 p6=>oA7 p6 λp8 _ _ _ _ g0 _=>?_;clear p6;subst p8;let⟨g,hg,hg0⟩:=zgT wf ro hr';let⟨gb,qb,hb⟩:=xf so3.hg hg;have eS:∀wd,jI rs st.gone wd (m+1)=jI rs st.gone wd m+if r.wd=wd then gAt st.gone m 0 else 0:=λwd=>by rw[jI,hr'];simp only[cr,cA]
   left;let M5_:St->Hp->Prop:=λσ' H2=>σ'=[some (.ref yw),some (.ref y),some (.ref wl),v3,v4,v5,some (.int (W-jI rs st.gone .source (m+1)+jI rs st.gone .drain m)),some (.int m)]/\H2=H';refine cut M5_ ?_ ?_
   .exists ra (s3 _ _ hyw) T.iL T.iI ew2 (zq (SqL.of (s3 _ _ hl2)) (zt hkv) ?_);refine iE2 (.ref a.k) _ (iA3 T.kD rfl (iE4 _ _ _ _ (iA4 rfl ((WT T r.wd).ty (CT T r.wd) (s3 _ _ g0)) (.inl ⟨_,rfl,zkJ T r.wd⟩) ?_)));by_cases z:r.wd=.source
    .rw[bc z];exists ra so3.hy T.ad T.iJ rfl (zq (SqL.of so3.hg.out) (zt (xq qb)) (zq (SqL.of hb) (zt (qV hg0)) ?_));exact⟨by rw[eS,ao z,show ∀W x y z:Int,W-x+z-y=W-(x+y)+z by lia],rfl⟩
    .rw[aT z];left;exact⟨by rw[eS,ak z,d5],rfl⟩
   rintro σ' H8 ⟨rfl,rfl⟩;exists ra (s3 _ _ hyw) T.iL T.iI ew2 (zq (SqL.of (s3 _ _ hl2)) (zt hkv) ?_);refine iE2 (.ref a.l) _ (iA3 T.lX rfl (iE4 _ _ _ _ (iA4 rfl ((WT T r.wd).ty (CT T r.wd) (s3 _ _ g0)) (.inl ⟨_,rfl,zkK T r.wd⟩) ?_)));by_cases z:r.wd=.drain
   .rw[bc z];exists ra so3.hy T.ad T.iJ rfl (zq (SqL.of so3.hg.out) (zt (xq qb)) (zq (SqL.of hb) (zt (qV hg0)) ?_));left;exact⟨_,by rw[eS .drain,ao z,Int.add_assoc],rfl⟩
   .rw[aT z];left;exact⟨_,by rw[eS .drain,ak z,d5],rfl⟩
  .rintro σ H' ⟨v7,rfl,rfl⟩;have e0:(W:Int)-jI rs st.gone .source rs.length+jI rs st.gone .drain rs.length=0:=by lia
   exact⟨_,by rw[ax,e0],rfl⟩
 rintro σ' H4 ⟨v7,rfl,rfl⟩;left;walk_at"d";exists⟨wl,rfl,.inl ⟨⟨_,SqL.of hW⟩,λ_ _ _ _ ac2 hac2=>?_⟩⟩;have ru4:=ru.keep (q:=z6 H2) (H':=H4) λb o hb ho=>⟨hb,s23 _ _ ho⟩;let M6_:Nat->St->Hp->Prop:=λi σ H'=>∃(v0:Aq),σ=[v0,some (.ref yw),some (.ref y)]/\Same H4 H'/\∃bl:List Bool,H' ac2=some (.lst (bl.map V.bl))/\bl.length=i/\∀b∈bl,b=true;refine qM (K:=K) (a:=wl) (xs:=xs.map λx=>V.ref x.2) M6_ ⟨_,iA3 rfl (zf hac2) ⟨[],iA3 pD rfl (λb hb=>by cases hb)⟩⟩ (λi σ H' _ h=>by let⟨_,_,s,_⟩:=h;exact SqL.of (s _ _ hW)) ?_ ?_
 .intro i x σ H5 hi p9;refine oE1 p9 λv0 p6=>oA3 p6 λp8 s5 pw=>oE1 pw λbl pA=>oA3 pA λhA lb tb=>?_;clear p6 pw pA p9;subst p8;let⟨d,hd,rx⟩:=ru4.at hi;have hil:=(aa.mp hi).1;rw[am,aq]at hd;let⟨⟨w1,w2⟩,hd,rfl⟩:=hd;refine oE2 (wk _ (ah hd)) λj r p6=>oA5 p6 λx1 hj hs x2 x3=>?_;clear p6;simp only at x1 x2 x3;subst x1;let⟨tx,rfl,htx⟩:=xz rx;have s05:=s3.trans s5;left;have il:i<1000:=by rw[ai]at hil;lia
  refine uc (zhc T).mono (iE8 (.ref yw) y sn st bs rs p tx (iE3 j w2 r (iA9 rfl (hw.keep (λb o hb ho=>⟨hb,s05 _ _ ho⟩)) (so.same s05) wf ro (s5 _ _ htx) hj hs (iA3 x2 x3 ⟨_,iA3 hA (by rw[ai];exact zn (by lia)) ⟨_,iA3 rfl (λb o hb=>by rw[pE (pF hb hac2)];exact s5 b o hb) ⟨bl++[true],iA3 ?_ (by simp[lb]) (λb hb=>?_)⟩⟩⟩))))
  .rw[pD,ba]
   rfl
  .rcases aG.mp hb with hb|hb
   .exact tb b hb
   .exact aD.mp hb
 intro σ H5 p9;refine oE1 p9 λv0 p6=>oA3 p6 λp8 s5 pw=>oE1 pw λbl pA=>oA3 pA λhA lb tb=>?_;clear p6 pw pA p9;subst p8;have at':bl.all id=true:=cJ.mpr tb;refine iE2 ac2 bl (iA3 rfl hA ?_);rw[at'];exact k _ (s3.trans s5)
inductive spFar(K:A0)(vs:Ap)(H:Hp)(Q:VK)(E:XK):Prop
 |i (l:Addr) (ns:A6):vs=[.ref l]->SqL K H l (iv ns)->(∀n:Nat,Q (.int n) H)->spFar K vs H Q E
def ziq(T:Txt K mg a):Cal P w K mg base "_law_far" 2 ["_law_cells"] [] (spFar K):=T.oS.cal λF=>by
 refine F.okx zfY ?_ ?_
 .walk_at"i"
 walk_at"j";rcases h with⟨l,ns,rfl,hl,k⟩;walk_at"T";refine⟨_,(zi (zu 1 zfY.nd ze)  (zi (qy qQ rfl (qq (pq 0)) (qu 2 zfY.nd)  (zd (zu 1 zfY.nd (Xh (zK qk (zK vK (pq 1) ze) (pq 2))))))  (zi (zF (zm (qB hr.units1) (zcI ‹(pq 0) (za ze zb)›) ze (zr _))  (zd (zl (zcI (pq 1))))  zp)  (zd (zl (pq 1)))))),?_⟩;left;walk_at"c";refine⟨l,rfl,.inl ⟨⟨_,hl⟩,?_⟩⟩;refine qM (K:=K) (a:=l) (xs:=iv ns) (λi σ H'=>∃(n:Nat)(v2:Aq),σ=[some (.ref l),some (.int n),v2]/\H'=H) (iE2 0 _ ⟨rfl,rfl⟩) (λi σ H' _ h=>by let⟨_,_,_,rfl⟩:=h;exact hl) ?_ ?_
 .intro i x σ H1 hi p9;refine oE2 p9 λn v2 p6=>oA2 p6 λp8 pw=>?_;clear p6 p9;subst p8 pw;let⟨c,hc,rfl⟩:=Zw hi;exists⟨mul_okR (by decide) (by decide),?_⟩;have m0:=bS ((n:Int)*1000003+c) (show(1000000000000000000000000000000000000000000000000000000000000:Int)≠0 by decide);generalize ((n:Int)*1000003+c)%1000000000000000000000000000000000000000000000000000000000000=z at m0 ⊢;let⟨z',rfl⟩:∃z':Nat,z=z':=⟨z.toNat,by lia⟩;exact⟨z',_,rfl⟩
 .intro σ H1 p9;refine oE2 p9 λn v2 p6=>oA2 p6 λp8 pw=>?_;clear p6 p9;subst p8 pw;exists uc (vZ T).mono (iE3 l ns 2 (iA3 rfl hl ?_));exists zT (λ_=>?_) (λ_=>k n);exact k (n%100)
inductive spState(a:Ad)(vs:Ap)(H:Hp)(Q:VK)(E:XK):Prop
 |i (vw:V) (n lim:Nat) (bs:A1) (rs:At):vs=[vw,.int n,.int lim]->Rep H (Off []) vw (qG a bs rs)->zN bs rs->(∀b∈bs,zE b.1 b.2)->(∀r∈rs,r.ok)->lim<=1000->(∀i j v H',RoundAt bs rs lim i j->Same H H'->Qs a H H' v (zj bs rs n)->Q v H')->(∀H',Qt bs rs lim->Same H H'->Q .non H')->spState a vs H Q E
def Vl(T:Txt K mg a):Cal P w K mg base "_law_state" 10 ["_law_work","_law_far_here","_law_limit"] [] (spState a):=T.nY.cal λF=>by
 refine F.okx zcv ?_ ?_
 .walk_at"i"
 walk_at"j";rcases h with⟨vw,n,lim,bs,rs,rfl,hv,pj,bo,ro,l1000,kQ,kN⟩;walk_at"T";refine⟨_,(zi (zu 3 zcv.nd zC)  (zi (zjk ⟨rfl,rfl,rfl⟩ rfl (λpn G=>(zd (zu 3 zcv.nd ‹(pq 0) (za (pq 1) (za (pq 2) zb))›))) (λpn a=>(zd (zu 3 zcv.nd zC))))  (zd (zl (pq 3))))),?_⟩;exists⟨a.h,iA3 T.mn T.ot (λpn=>?_)⟩;exact uc (zin T).mono (iE5 vw n lim bs rs (iA8 rfl hv pj bo ro l1000 kQ (λnr H1 s1=>⟨a.h,iA3 rfl T.kZ (λ_ _=>kN _ nr s1)⟩)))
def zaK(K:A0):Sp:=λvs H Q _=>∃(l:Addr)(ns:A6),vs=[.ref l]/\SqL K H l (ns.map V.int)/\ns.length<=63/\∀H',Q (.bl true) H'
def zjv(T:Txt K mg a)(F:Fun K "law" "law" Q3 f fd):FnOk P w K mg base (CXr P w) 11 f fd ["_law_script"] (zaK K):=by
 refine F.okx zje ?_ ?_
 .walk_at"i"
 walk_at"j";refine oE2 h λl ns p6=>oA4 p6 λp8 hl hn k=>?_;clear p6 h;subst p8;walk_at"T";refine⟨_,(zh (WM (i:=1) zje.nd rfl (Or.inl rfl) (vars:=["_law_cell_here"]) (caps:=[]) (N:=["_law_cell_here"]) (ON:=["_law_script","_law_cells","_law_work","_law_limit","_law_far_here","_law_state_here"]) (osc:=zg Q3) rfl rfl (by right) rfl rfl (qq (pq 0)) (λ_ _ _ _=>(qu 0 (show(["_law_cell_here"]:A8).Nodup from by symm))) (λ_ _ _ _=>qm) (λ_ _ _ _=>(Xh (pq 0))))  (zh (zu 2 zje.nd ‹‹(pq 1) (za ze zb)› zb›)  (zh (zu 3 zje.nd (zK qk ze ‹‹(pq 1) (za ze zb)› (za ze (za ze zb))›))  (zh (zu 4 zje.nd ‹(pq 1) zb›)  (zh (zu 5 zje.nd ‹(pq 2) (za (pq 4) (za (pq 3) zb))›)  (zh (zF (zm jr (pq 5) zC (zr _))  (zd (zl (Zg op_isN ‹(pq 2) (za ze (za (pq 3) zb))› zC (zr _))))  zp)  (zd (zl (zgm (Zg (zgs hr.units1) (zk (pq 5) rfl) (pq 4) (zr _)) (zgh ‹(pq 2) (za (pq 5) zb)›)))))))))),?_⟩;left;walk_at"d";exists⟨l,rfl,.inl ⟨⟨_,hl⟩,λ_ _ _ _ pv hacc=>?_⟩⟩;refine qM (K:=K) (a:=l) (xs:=iv ns) (λq σ H'=>∃(v0:Aq)(cs:A6),σ=[v0]/\Same H H'/\H' pv=some (.lst (iv cs))/\cs.length=q) (iE2 _ ([]) (iA4 rfl (zf hacc) pD rfl)) (λq σ H' _ h=>by let⟨_,_,_,s,_⟩:=h;exact vp s hl) ?_ ?_
 .intro q x σ H1 hq p9;refine oE2 p9 λv0 cs p6=>oA4 p6 λp8 s1 ha lc=>?_;ext;let⟨c,hc,rfl⟩:=Zw hq;have hql:=(aa.mp hc).1;left;exact⟨_,iA3 ha (zn (by rw[zL];lia)) (iE2 _ (cs++[_]) (iA4 rfl (λb o hb=>by rw[pE (pF hb hacc)];exact s1 b o hb) (by rw[pD,jo]) (by simp[lc])))⟩
 intro σ H1 p9;refine oE2 p9 λv0 cs p6=>oA4 p6 λp8 s1 ha _=>?_;ext;clear s1 hl hacc;exists uc (zbZ T).mono (uc (zhe T).mono (spText.i pv cs rfl (SqL.of ha) (λH2 bs rs s2 pj bo ro=>(iE2 bs rs (iA4 rfl pj (zdn pj bo ro) (λvw H3 s3 hw=>?_))))));have ha3:=s3 _ _ (s2 _ _ ha);have b24:=pj.1.1.2;have r24:=pj.1.2.2;clear s2 s3 ha;exists uc (qL T).mono (uc (vZ T).mono (iE3 pv cs 1 (iA3 rfl (SqL.of ha3) (iE3 _ 10103 40 (iA4 rfl (by decide) (by decide) (λr r0 r1=>?_))))));let⟨m,rfl⟩:∃m:Nat,r=m:=⟨r.toNat,by lia⟩;have eL:(20:Int)+m=((20+m:Nat):Int):=by lia
 have l60:20+m<=60:=by lia
 rw[rd_addI];rw[eL];clear eL r0 r1;generalize 20+m=lim at l60;exists uc (ziq T).mono (spFar.i pv cs rfl (SqL.of ha3) (λn=>?_));exists uc (Vl T).mono (spState.i vw n lim bs rs rfl hw pj bo ro (by lia) (λi j v H4 rd s4 sn=>?_) (λH4 nr s4=>?_))
 rotate_left
 .left;exact uc (Vl T).mono (spState.i vw 0 lim bs rs rfl (hw.same s4) pj bo ro (by lia) (λi j v H5 rd s5 sn=>absurd nr rd.no) (λH5 nr s5=>k _))
 have pt:=jE bs rs n;refine oE2 sn λy ny p6=>oA3 p6 λp8 so _=>?_;clear p6 sn;subst p8;exists ra so.hy T.ad T.iM rfl ?_;rw[pt];left;exact uc (zir T).mono (spAll.i vw y ny n bs rs _ rfl (hw.same s4) so pj bo ro (λH5 s5=>k _))
theorem top_ok(T:Txt K mg a)(F:Fun K "law" "law" Q3 f fd):FnOk P w K mg base (CXr P w) 11 f fd ["_law_script"] (zaK K):=zjv T F
end
def ziA:Nat->(List Value->Prop)->Prop
 |0,P=>P []
 |n+1,P=>∀x,ziA n λl=>P (x::l)
def allV_of{n:Nat}:∀{P:List Value->Prop},ziA n P->∀us:List Value,us.length=n->P us:=by
 induction n with
 |zero =>
  intro P h us e;cases us with
  |nil=>exact h
  |cons=>cases e
 |succ n ih =>
  intro P h us e;cases us with
  |nil=>cases e
  |cons x r=>exact ih (h x) r (Nat.succ.inj e)
def fd_z{K:A0}{mg:A4}{h:Heap}{x:Str}{st:Stmt}{ps:A8}{d:Int}{t:Tok}{f dT:Addr}{oc toc:Am}{od an tod:Aa}{osl tsl:Ae}{tn:Nat}{kV doc pm cdv ct:Am}(X:K.In h)(G:h.Ns mainGlobals mg)(a:nsIn K mainGlobals x=some (some (.ref f)))(l:K.lookup f=some ⟨oc,od,.func (fnOf x x (qx st) (qp st) (zg st) (.ref dT) kV doc pm an cdv ct),osl⟩)(c:codeIn K cdv x=true)(k:keepIn K (.ref f)=true)(lt:K.lookup dT=some ⟨toc,tod,.seq #[.int d t] tn,tsl⟩)(hb:∀(s:An),K.In s.heap->K.lookup dT=some ⟨toc,tod,.seq #[.int d t] tn,tsl⟩->ziA ps.length λz=>BindsTo s (fnOf x x (qx st) (qp st) (zg st) (.ref dT) kV doc pm an cdv ct) ⟨z,[]⟩ (ps.zip z))(hd:∀(s:An),K.In s.heap->K.lookup dT=some ⟨toc,tod,.seq #[.int d t] tn,tsl⟩->ziA (ps.length-1) λz=>BindsTo s (fnOf x x (qx st) (qp st) (zg st) (.ref dT) kV doc pm an cdv ct) ⟨z,[]⟩ (ps.zip (z++[.int d t]))):FD K mg x st ps [.int d] :=
 zkR X G a l c k lt (.cons ⟨_,rfl⟩ .nil) (λs us hK hl=>allV_of (hb s hK lt) us hl) λs us hK hl=>allV_of (hd s hK lt) us (by simp at hl;lia)
def all_ok{l:PySem.W.OpenLaw}{w:World}{K:A0}{h:Heap}{mg:A4}{fa fL ya yc yd ye yf yg yh yi yj yl yn yo yp yq yr yt yu:Addr}{od an:Aa}{sl:Ae}{oc kV dc pm cd ct:Am}(X:K.In h)(G:h.Ns mainGlobals mg)(hfa:mg "law"=some (.ref fa))(aL:nsIn K mainGlobals "law"=some (some (.ref fL)))(lL:K.lookup fL=some ⟨oc,od,.func (fnOf "law" "law" (qx Q3) (qp Q3) (zg Q3) .none kV dc pm an cd ct),sl⟩)(cL:codeIn K cd "law"=true)(kL:keepIn K (.ref fL)=true)(T:Txt K mg ⟨ya,yc,yd,ye,yf,yg,yh,yi,yj,yl,yn,yo,yp,yq,yr,yt,yu⟩)
  : ∃fd:FuncData,(∀(s:An)(v:Am),BindsTo s fd ⟨[v],[]⟩ [("_law_script",v)])/\∀base:Heap,K.In base->base.Ns mainGlobals mg->FnOk l.prog w K mg base (CXr l.prog w) 11 fa fd ["_law_script"] (zaK K):=by
 have e:=hfa.symm.trans (mg_of X G aL);cases e;exact⟨_,λs v=>.of_eq rfl,λbase _ _=>top_ok T (wM (st:=Q3) lL cL kL)⟩
def walk{l:PySem.W.OpenLaw}{q:Af}{loose:A8}{XP:(Str->Option Value)->Heap->Prop}{YP:World->Heap->Prop}{d:DefRec}{K:Params->PySem.W.Frag}(hn:l.most=some 63)(hdf:d.params.defaults=[])(hY:∀(w:World)(h:Heap),YP w h->(K w.params).In h)(F:∀(w:World)(mg:A4)(fa:Addr)(h:Heap),(K w.params).In h->h.Ns mainGlobals mg->mg d.name=some (.ref fa) ->
   ∃fd:FuncData,(∀(s:An)(u:Am),BindsTo s fd ⟨[u],[]⟩ [("_law_script",u)])/\∀base:Heap,(K w.params).In base->base.Ns mainGlobals mg->FnOk l.prog w (K w.params) mg base (CXr l.prog w) 11 fa fd ["_law_script"] (zaK (K w.params))) :
  PySem.W.WalkO q loose XP YP l.row.toRowW d [] (λf vs=>PySem.call f vs) :=
 L2.walk_of (n:=63) (k:=11) (x:="_law_script") (CX:=λw=>CXr l.prog w) (sp:=λw=>zaK (K w.params)) hn (by decide) hdf ⟨rfl,by decide,by decide⟩ hY F (λ_ _ a ns hl _ hS=>⟨a,ns,rfl,hS,hl,λ_=>rfl⟩) λ_ _ _ _ _ z=>zfh z
end K46
set_option Elab.async false
structure PySem.W.Fast:Prop where(tw10607422557965937797 tw15993889441499466734 tw14727811556392609555 tw10005734892012511908 tw9737445760281121616 tw9988201294752662858 tw5006142699351935540 tw8818118219512673472 tw11273108279378819736 tw5965745000833354947 tw5900183670355346812 tw930867534434054793 tw17605842961403264062 tw2249258481605465683 tw3880945166700515584 tw5985444125366708512 tw12582929422470699148 tw5073992905393173996 tw13677440953462330563 tw7127406715327305731 tw4194987766584766420 tw799365346470674215 tw16299099394010971547 tw9557837206772009230 tw18177601316199949387 tw2542020280445459107 tw16962610172198340660 tw18391470945152793676 tw16629451549873569297 tw17427003153389963847 tw4112440859531552468 tw5379380706316191658 tw7231833080304107170 tw13607817894841539115 tw17082199143426781888 tw8080457697070216175 tw8692952329914125528 tw9038910314279926231 tw6606482302959324644 tw16438195167770666501 tw13813401640103303754 tw2370052565863580454 tw69823234316103411 tw11210313331377530085 tw6704751436625672524 tw12270182896326954553 tw15071079475616079658 tw7560229800127589017 tw983708686749836460 tw6235985167375001205 tw6996600023207904923 tw629249431188994750 tw8444442214351299633 tw9303930218119958139 tw10003351156073957095 tw747688494828023781 tw8840667594306396259 tw8086585009789934393 tw15781915032401107836 tw43067343120535915 tw2998510017833450360 tw11246940296956142238 tw9280607545165182560 tw15774787158823020319 tw13195515952484884370 tw3087247613903427708 tw612927544324066343 tw6148652255720653047 tw5137907866664535355 tw968520814253583363 tw16613841733896197406 tw10809591044739261869 tw3147630925497093306 tw3727154588360191900 tw10089817514685448704 tw12071999897329321006 tw4394814293403023030 tw11033101940861470995 tw7454606617778517446 tw12760559386498868358 tw3244150791945080934 tw16058237056886954756 tw4776831702800455243 tw17267629232077102323 tw12665028424998026673 tw8897412481919295830 tw15963097653709915075 tw11046493107762934222 tw724705252747327265 tw15548673256563813270 tw14552394635038668158 tw9208446607409197180 tw16977989917905477228 tw14882467238707374219 tw9976453211262352879 tw6630123505831199617 tw9804299768473012382 tw17443139965622798145 tw6131576789055606719 tw5210519276338299508 tw11325639386525455925 tw3901740078087426608 tw621312901959765778 tw4901955820558623385 tw13377454606130388943 tw11286107271336147932 tw3776566731913887402 tw14574818487866571397 tw1875220534337787850 tw8006948930922843516 tw1652326796773274215 tw13948834219094253509 tw504096243391060400 tw6707939030535917251 tw2430128237550004360 tw5420807142534700588 tw12674565375881063818 tw237298704859600141 tw16535204199017229676 tw14752197812918036317 tw506914982319873813 tw14016034189592268682 tw16070884205841566959 tw10803827003995777488 tw8987522841069181298 tw15077095613139334272 tw16930347979828134825 tw123104086911426807 tw16216283447508133277 tw2755746002530505959 tw17119696939350807928 tw6413724898463129264 tw5432184197893570386 tw8442218305137391549 tw6039510729421858015 tw5456056523007823251 tw13404573596494543399 tw12565291231464314838 tw15560836752425684504 tw7254183671008797889 tw6304898416151949464 tw6568921242701431786 tw17096776080404783 tw17905241624199353700 tw957485134002827647 tw530823930814251985 tw8276014333592934 tw4104330096355988112 tw9724891000680576813 tw17261682632541731015 tw2124568653533306326 tw1713476316479347447 tw7021166883553873615 tw12370091214779492915 tw15782919996576171193 tw10384701862350462857 tw7544349657829731566 tw4083361011845746713 tw10983767808210396038 tw10993727356880914670 tw3423786629412064833 tw10418455240540921964 tw12393802156881464637 tw15605217889720957364 tw1607584562692604253 tw15385033683649433027 tw6623448398223476367 tw4440078743109070312 tw11103406085036804765 tw15854275066278245598 tw15778160302763189830 tw7640873105058995910 tw1167810183626259157 tw10078707307248120511 tw8282188088330323568 tw10217602587593658729 tw10530273391824063515 tw11925178265348566035 tw2683923703650387480 tw11481133662623684345 tw12968795596303467785 tw3978118417453170105 tw722697823590207654 tw16348232159982373258 tw16578909563223214784 tw18445473731758625371 tw14863095367115569849 tw11251270820100617427 tw9751930899157794012 tw5365169390354150776 tw16726021219042496385 tw10157568896014695556 tw17412682873603642111 tw3704446008095171669 tw13696805325399030929 tw14648160700710623088 tw13181479749215059254 tw3014399118305591333 tw17018582378445319306 tw13318357380075136325 tw12530272692469782174 tw12661408448669766279 tw11870805053922535876 tw7652247960976466553 tw7271911021297827709 tw14068407242478664984 tw418538932761241561 tw2105825546138589297 tw10902105155130752254 tw7631290875884537100 tw17109913513753933084 tw6271289688814909248 tw14486676986709686644 tw14965528400970776100 tw17143122163529033238 tw18079983797078871216 tw9899298414112938513 tw15406868705140960108 tw18137462513958661151 tw1957642431222506329 tw17211401663602375435 tw4432151791880314544 tw13446489320481560153 tw6049013574637508036 tw11726659571769423497 tw11528147018592152326 tw14755685021455324119 tw1418067049394014188 tw620663935320605136 tw15462836886007569872 tw16292769342672344904 tw6290384785457269680 tw12314579750121334513 tw5405752804661750150 tw9166279838523023724 tw3459871409986992557 tw1538203300439348361 tw8606267721125268830 tw16046646946259922255 tw5708245071933737942 tw7657072782240443045 tw14243317981797169787 tw10244019018419883710 tw14661965754275135152 tw12887628833517871167 tw14744569543933673472 tw10722993207616483971 tw9431516205382049381 tw5298714308692378351 tw5003012592829031225 tw11942647697326211030 tw9625366164222527353 tw12132455636645397793 tw4805126933586880512 tw5991036288069129154 tw237464797996836741 tw10746849208792910921 tw5326718571628700883 tw5608458628069002942 tw444997866033518393 tw11464679923457173790 tw13537368836309926801 tw10086484655978888772 tw18194551400868883393 tw17124105682096950095 tw1396993382605071834 tw6888035810708288090 tw16990756985552478435 tw7239497691457926541 tw16298484415741054241 tw6065573437072846924 tw15079323228507764249 tw12200036747051798057 tw8838265908327079704 tw475295423695997727 tw4019244620894147439 tw1716836128332280711 tw10082362122090366136 tw17250525596448302672 tw18362019427246111235 tw14322693842003576436 tw15245438792192992805 tw16838230808945116480 tw4855406020892136972 tw13846140343229064475 tw16811990510169650932 tw16296653289039033381 tw11081811741863015112 tw8384964247840839390 tw5289124938143738448 tw17373679618705670285 tw12013559239584278181 tw4793827270906445999 tw2732142208116040467 tw16721784265263509196 tw9790996520078090836 tw1110929405311065254 tw1747804701573062081 tw15189562767281106848 tw1090935664680122652 tw641654698357881544 tw2073583584877509169 tw14771810722379894007 tw7467383880640678143 tw14046164403131692457 tw16287897035546710101 tw16839992402726873501 tw2163873657653431128 tw13362165562029870836 tw6231084563411998438 tw690311299622367315 tw15117285669109288258 tw8206693910294636927 tw13343022207322012984 tw15048934895780729278 tw10892347744380902983 tw10840540890722640657 tw9108349321512683345 tw15480508597924032055 tw1142633394524948364 tw7486421785326584203 tw1025897889564903658 tw13073603120151912555 tw5161787558328343887 tw6727578723847679670 tw11465245835902614293 tw14962170097490992739 tw14410679277399940497 tw688607675026800319 tw1508559315214116156 tw14611674643185792146 tw9018391601636480929 tw9364800965173756757 tw16092256044191929686 tw1500710456177354159 tw3812208637488547112 tw7106833917951196631 tw6187154649594659772 tw13774632277034201412 tw1974915126052114875:True)
open PySem PySem.W PyProof.Rows
set_option maxRecDepth 100000 in
set_option maxHeartbeats 0 in
theorem PySem.Challenge.cw_beltshares_k46_whole_nothing_lost_for_ev_holds : PySem.Challenge.rw_beltshares_k46_whole_nothing_lost_for_ev.Holds := by
 w_on;o_law;k_head;(case hw=>w_witness2)
 k_fill
 refine K46.walk (l:=PySem.Challenge.rw_beltshares_k46_whole_nothing_lost_for_ev) rfl rfl (λ w h Y=>PySem.W.kIn_of Y) ?F
 case F =>
  intro w mg fa h KX G hmg;refine' K46.all_ok KX G hmg ?a ?l ?c ?k (K46.Txt.mk ..)
  all_goals try dsimp only
  all_goals try first|k_is|((first|refine' L2.fa_mk KX G .. | refine' L2.fm_mk .. | refine' L2.fk_mk .. | refine' L2.fb_mk (mg_of KX G ?_) .. | refine' K46.fd_z KX G ..);all_goals try first|k_is|exact λ _ _ _ _ _ _=>K46.allV_of (by (repeat intro _);rfl)|exact λ _ hK lt=>by repeat first|exact PySem.W.binds_K hK rfl lt rfl rfl rfl|intro _)|((first|refine' PySem.W.mg_none_of KX G ?_|refine' mg_of KX G ?_|show findIn _ _ _=_|refine' L2.kitCls_of .. | (apply Exists.intro;refine' mg_of KX G ?_));all_goals try k_is)|(show kitOne _ _ _=_;kit_is)|((first|refine ⟨?_,?_,?_,?_,?_,?_,?_,?_⟩|refine ⟨?_,?_,?_,?_⟩|refine ⟨?_,?_,?_⟩|refine ⟨?_⟩);all_goals first|k_is|k_exc)
  all_goals exact fa
