import PyProof.Rows.All
import Wide.All
import OpenK.AllK
import Wide.FinOn
import Lean
import PyProof.EqAt
import PyProof.EqKinds
import PyProof.TupleCall
import PyProof.NeKinds
import PyProof.SumWalkG
import PyProof.Rows.CallKwBuiltin
import PyProof.Rows.FStr
import PyProof.ListRange
import PyProof.ZipIter
import PyProof.CompFree
import KE.KIntText
import PyProof.StrWalks
import PyProof.Rows.StrMul
import PyProof.ConsumeWalk
import Wide.Txt
import PySem.Challenge.RW_beltshares_k16_bad_rows
open PySem.W (instObj methodObj lookIn InstAt plainGet hasDictIn findIn handedIn plainGet_of isFn takerIn any_some looks_clsIn makesIn typeIn emptyDict looks_findIn keepIn specialIn takesIn mroIn fnOf codeIn callWith_K kitOne kitCls subIn looks_subIn nsIn mg_of findObj clsIn kitAny methodCall_KW readsIn findCls Looks)
set_option Elab.async false
set_option linter.all false
set_option maxRecDepth 100000
set_option compiler.extract_closed false
set_option bootstrap.genMatcherCode false
set_option hygiene false
local macro_rules | `(tactic| walk_at "p") => `(tactic| first|exact Or.inl rfl|exact Or.inr rfl|assumption)
local macro_rules | `(tactic| walk_at "q") => `(tactic| first|exact L2.nobehind _ (by decide) (by decide)|rfl)
set_option hygiene true
open List (getElem?_append_right getElem?_append_left getElem?_eq_getElem length_eq_zero_iff getElem?_set_self mem_append_right length_replicate length_singleton take_append_drop perm_append_comm mem_cons_of_mem mem_append_left getElem?_set_ne mem_of_getElem? length_dropLast mem_of_mem_take mem_of_mem_drop filterMap_cons replicate_succ length_reverse flatMap_append mem_cons_self length_append size_toArray getElem?_map flatten_cons append_assoc take_add_one foldl_append length_cons length_take length_drop lookup_cons getElem_mem cons_append take_length not_mem_nil flatMap_map drop_length length_map append_nil of_mem_zip length_set foldl_cons nil_append length_nil map_append find?_cons range_succ mem_append take_zero drop_zero map_cons all_cons any_cons mem_cons map_drop map_take map_nil map_map map_set)
namespace L2
open PySem PySem.Spec PyProof.Rows
abbrev Key := Sum Int Str
def QI : Key -> Value -> Bool
 | .inl k, v => Value.isInt k v
 | .inr x, v => Value.isStrOf x v
def zd2 (w : World) : Key -> Int
 | .inl k => hashInt k
 | .inr x => hashStr w x
theorem qj : ∀ {k : Key} {v : Value}, QI k v = true -> (∃ i t, k = Sum.inl i /\ v = Value.int i t) \/ (∃ x t, k = Sum.inr x /\ v = Value.str x t)
 | .inl i, v, h => by
  obtain ⟨t, e⟩ := Value.isInt_shape (k := i) (v := v) h;exact .inl ⟨i, t, rfl, e⟩
 | .inr x, v, h => by
  obtain ⟨t, e⟩ := Value.isStrOf_shape (x := x) (v := v) h;exact .inr ⟨x, t, rfl, e⟩
theorem V8 (i : Int) (t : Tok) : QI (.inl i) (.int i t) = true := by simp [QI, Value.isInt]
theorem V7 (x : Str) (t : Tok) : QI (.inr x) (.str x t) = true := by simp [QI, Value.isStrOf]
theorem zdc (a b : Int) : decide ((Sum.inl a : Key) = Sum.inl b) = (a == b) := by
 by_cases e : a = b
 ·subst e;simp
 ·have h : ¬ (Sum.inl a : Key) = Sum.inl b := λ q => e (Sum.inl.inj q);rw [decide_eq_false h];exact (beq_eq_false_iff_ne.mpr e).symm
theorem zc9 (a b : Str) : decide ((Sum.inr a : Key) = Sum.inr b) = decide (a = b) := by
 by_cases e : a = b
 ·subst e;simp
 ·have h : ¬ (Sum.inr a : Key) = Sum.inr b := λ q => e (Sum.inr.inj q);rw [decide_eq_false h, decide_eq_false e]
theorem zdb (a : Int) (b : Str) : decide ((Sum.inl a : Key) = Sum.inr b) = false := decide_eq_false (λ q => nomatch q)
theorem zda (a : Str) (b : Int) : decide ((Sum.inr a : Key) = Sum.inl b) = false := decide_eq_false (λ q => nomatch q)
def qA (prog : Program) (w : World) : PySem.KeyKind prog w Key where
 is := QI
 hash := zd2 w
 inj := λ v a b ha hb => by
  rcases qj ha with ⟨i, t, rfl, rfl⟩|⟨x, t, rfl, rfl⟩
  ·rcases qj hb with ⟨j, u, rfl, e⟩|⟨y, u, rfl, e⟩
   ·injection e with e1 _;rw [e1]
   ·exact nomatch e
  ·rcases qj hb with ⟨j, u, rfl, e⟩|⟨y, u, rfl, e⟩
   ·exact nomatch e
   ·injection e with e1 _;rw [e1]
 byValue := λ k v h => by
  rcases qj h with ⟨i, t, rfl, rfl⟩|⟨x, t, rfl, rfl⟩ <;> rfl
 pyHash := λ hv h => by
  rcases qj hv with ⟨i, t, rfl, rfl⟩|⟨x, t, rfl, rfl⟩
  ·exact wpAny_pyHash_int h
  ·exact wpAny_pyHash_str h
 eqBool := λ hu hv h => by
  rcases qj hu with ⟨i, t, rfl, rfl⟩|⟨x, t, rfl, rfl⟩
  ·rcases qj hv with ⟨j, u, rfl, rfl⟩|⟨y, u, rfl, rfl⟩
   ·rw [zdc] at h;exact wpAny_eqBool_int h
   ·rw [zdb] at h;exact SeqAt.EqAt.int_str i t y u _ _ _ _ h
  ·rcases qj hv with ⟨j, u, rfl, rfl⟩|⟨y, u, rfl, rfl⟩
   ·rw [zda] at h;exact SeqAt.EqAt.str_int x t j u _ _ _ _ h
   ·rw [zc9] at h;exact wpAny_eqBool_str h
 «strs» := λ k x t v h => by
  rcases qj h with ⟨i, u, rfl, e⟩|⟨y, u, rfl, e⟩
  ·exact nomatch e
  ·injection e with e1 _
   subst e1;cases v <;> rfl
theorem Xf (prog : Program) (w : World) (i : Int) (t : Tok) : (qA prog w).is (.inl i) (.int i t) = true := V8 i t
theorem Xe (prog : Program) (w : World) (x : Str) (t : Tok) : (qA prog w).is (.inr x) (.str x t) = true := V7 x t
end L2
namespace L2
open PySem PySem.Spec PyProof.Rows
inductive V where
 | non|bl (b : Bool)|int (i : Int)|str (x : Str)|byt (b : Array UInt8)|flt (b : UInt64)|ref (a : Addr)|ty (n : String)
 deriving DecidableEq
def RelV : V -> Value -> Prop
 | .non, u => u = Value.none
 | .bl b, u => u = Value.bool b
 | .int i, u => ∃ t, u = Value.int i t
 | .str x, u => ∃ t, u = Value.str x t
 | .byt b, u => ∃ t, u = Value.bytes b t
 | .flt b, u => ∃ t, u = Value.float b t
 | .ref a, u => u = Value.ref a
 | .ty n, u => u = Value.type n
abbrev Vals : List V -> List Value -> Prop := Paired RelV
theorem Vals.length {xs : List V} {us : List Value} (r : Vals xs us) : xs.length = us.length := Paired.length r
theorem Vals.get : ∀ {xs : List V} {us : List Value} {i : Nat} {x : V}, Vals xs us -> xs[i]? = some x -> ∃ u, us[i]? = some u /\ RelV x u
 | _, _, _, _, .nil, e => by simp at e
 | _, _, 0, _, .cons r _, e => by simp at e;subst e;exact ⟨_, rfl, r⟩
 | _, _, i + 1, x, .cons _ t, e => by
  obtain ⟨u, h1, h2⟩ := Vals.get (i := i) (x := x) t (by simpa using e);exact ⟨u, by simpa using h1, h2⟩
theorem Vals.set {x : V} {u : Value} (r : RelV x u) : ∀ {xs : List V} {us : List Value} (i : Nat), Vals xs us -> Vals (xs.set i x) (us.set i u)
 | _, _, _, .nil => .nil
 | _, _, 0, .cons _ t => .cons r t
 | _, _, i + 1, .cons q t => .cons q (Vals.set r i t)
theorem Vals.append : ∀ {xs ys : List V} {us ws : List Value}, Vals xs us -> Vals ys ws -> Vals (xs ++ ys) (us ++ ws)
 | _, _, _, _, .nil, s => s
 | _, _, _, _, .cons r t, s => .cons r (Vals.append t s)
theorem Vals.take : ∀ {xs : List V} {us : List Value} (n : Nat), Vals xs us -> Vals (xs.take n) (us.take n)
 | _, _, 0, _ => .nil
 | _, _, _ + 1, .nil => .nil
 | _, _, n + 1, .cons r t => .cons r (Vals.take n t)
theorem Vals.drop : ∀ {xs : List V} {us : List Value} (n : Nat), Vals xs us -> Vals (xs.drop n) (us.drop n)
 | _, _, 0, r => r
 | _, _, _ + 1, .nil => .nil
 | _, _, n + 1, .cons _ t => Vals.drop n t
theorem Vals.none_of : ∀ {xs : List V} {us : List Value} {i : Nat}, Vals xs us -> xs[i]? = none -> us[i]? = none := λ {xs us i} r e => by
 have h1 := r.length;have h2 : xs.length <= i := List.getElem?_eq_none_iff.mp e;exact List.getElem?_eq_none_iff.mpr (by lia)
def RelO : Option V -> Option Value -> Prop
 | some v, some u => RelV v u
 | none, none => True
 | _, _ => False
def KV {κ : Type} : List (κ × V) -> List (κ × Value) -> Prop := Paired λ (p : κ × V) (q : κ × Value) => p.1 = q.1 /\ RelV p.2 q.2
def kV : Key -> V
 | .inl i => .int i
 | .inr x => .str x
inductive HO where
 | lst (xs : List V)
 | tup (xs : List V)
 | dK (kvs : List (Key × V))|dT (kvs : List (List Key × V))
 | set (S : Int -> Bool) (n : Nat)
 | ins (C dx : Addr) (fs : List (Str × V))
 | own (x : Addr)
 | xd (fs : List (Str × V))
 | met (f x : Addr)
 | rng (lo hi : Int)
 | frz (o : Obj) (u : HO)
 | tbl (ps : Array Value)
 | ext (φ : Heap -> Prop)
abbrev Hp := Addr -> Option HO
def upd (H : Hp) (a : Addr) (o : HO) : Hp := λ b => if b = a then some o else H b
theorem upd_same {H : Hp} {a : Addr} {o : HO} : upd H a o a = some o := by unfold upd;rw [if_pos rfl]
theorem upd_ne {H : Hp} {a b : Addr} {o : HO} (h : b ≠ a) : upd H a o b = H b := by unfold upd;rw [if_neg h]
theorem QY {H : Hp} {a : Addr} {o u : HO} : upd (upd H a o) a u = upd H a u := by
 funext b;unfold upd;split <;> rfl
theorem vF {H : Hp} {a b : Addr} {o u : HO} (h : H a = some o) (h' : H b = some u) (d : o ≠ u) : a ≠ b := by
 intro e;subst e;rw [h] at h';exact d (Option.some.inj h')
theorem ne_of_none {H : Hp} {a b : Addr} {o : HO} (h : H a = some o) (h' : H b = none) : a ≠ b := by
 intro e;subst e;rw [h] at h';cases h'
section
variable (P : Program) (w : World)
def ObjOk (H : Hp) (h : Heap) (a : Addr) : HO -> Prop
 | .lst xs => xs.length <= sizeLine /\ ∃ (its : List Value) (n : Nat), Vals xs its /\ h.get? a = some { cls := .type "list", data := .seq its.toArray n }
 | .tup xs => xs.length <= sizeLine /\ ∃ its : List Value, Vals xs its /\ IsTup h a its.toArray
 | .dK kvs => kvs.length <= sizeLine /\ (a == sysModules) = false /\ ∃ vs, KV kvs vs /\ h.DictOf (qA P w) a vs
 | .dT kvs => kvs.length <= sizeLine /\ (a == sysModules) = false /\ ∃ xs : List (List Key × Addr × Value),
   Paired (λ (p : List Key × V) (q : List Key × Addr × Value) => p.1 = q.1 /\ H q.2.1 = some (.tup (p.1.map kV)) /\ RelV p.2 q.2.2) kvs xs /\
   ∃ o es ep, h.get? a = some o /\ o.ExactDict /\ o.data = .dict es ep /\ es.toList = xs.map (entryOfKey (tupleKind (qA P w))) /\ (xs.map (·.1)).Nodup
 | .set S n => h.SetOf (intKind P w) a S n
 | .ins C dx fs => H dx = some (.own a) /\ fs.length <= 1000 /\ dx ≠ a /\ h.get? a = some (instObj C dx) /\
   ∃ mA, h.Ns1 dx mA /\ (∀ f, RelO (fs.lookup f) (mA f)) /\ PySem.Within mA (fs.map (·.1))
 | .own _ => ∃ o, h.get? a = some o
 | .xd fs => ∃ mA, h.Ns1 a mA /\ ∀ f, RelO (fs.lookup f) (mA f)
 | .rng lo hi => ∃ t u v, h.get? a = some { cls := .type "range", data := .fields #[.int lo t, .int hi u, .int 1 v] }
 | .frz o u => h.get? a = some o /\ ObjOk H h a u
 | .tbl ps => h.get? a = some { cls := .none, data := .fields ps }
 | .met f x => h.get? a = some (methodObj (.ref f) (.ref x))
 | .ext φ => φ h /\ (∃ o, h.get? a = some o) /\ ∀ h1 h2 : Heap, φ h1 -> (∀ o, h1.get? a = some o -> h2.get? a = some o) -> φ h2
def HOk (H : Hp) (h : Heap) : Prop := ∀ a o, H a = some o -> ObjOk P w H h a o
end
section
variable {P : Program} {w : World} {H H' : Hp} {h h' : Heap} {a : Addr} {o : HO}
theorem ObjOk.lt (x : ObjOk P w H h a o) : a < h.objs.size := by
 cases o with
 | lst xs => obtain ⟨_, _, _, _, e⟩ := x;exact Heap.lt_size e
 | tup xs => obtain ⟨_, _, _, p⟩ := x;exact p.lt
 | dK kvs => obtain ⟨_, _, _, _, o, _, _, e, _⟩ := x;exact Heap.lt_size e
 | dT kvs => obtain ⟨_, _, _, _, o, _, _, e, _⟩ := x;exact Heap.lt_size e
 | set S n => obtain ⟨o, _, _, _, e, _⟩ := x;exact Heap.lt_size e
 | ins C dx fs => obtain ⟨_, _, _, e, _⟩ := x;exact Heap.lt_size e
 | own y => obtain ⟨_, e⟩ := x;exact Heap.lt_size e
 | xd fs => obtain ⟨_, ⟨_, _, _, e, _⟩, _⟩ := x;exact Heap.lt_size e
 | rng lo hi => obtain ⟨_, _, _, e⟩ := x;exact Heap.lt_size e
 | frz ob u => obtain ⟨e, _⟩ := x;exact Heap.lt_size e
 | tbl ps => exact Heap.lt_size (show h.get? a = some _ from x)
 | met f y => exact Heap.lt_size (show h.get? a = some _ from x)
 | ext φ => obtain ⟨_, ⟨_, e⟩, _⟩ := x;exact Heap.lt_size e
theorem Paired.mapP {α β : Type} {F G : α -> β -> Prop} : ∀ {l₁ : List α} {l₂ : List β}, Paired F l₁ l₂ -> (∀ a b, F a b -> G a b) -> Paired G l₁ l₂
 | _, _, .nil, _ => .nil
 | _, _, .cons r t, f => .cons (f _ _ r) (Paired.mapP t f)
theorem ObjOk.stay (x : ObjOk P w H h a o) (k : ∀ b u, (b = a \/ H b = some (.own a)) -> h.get? b = some u -> h'.get? b = some u)
  (ho : ∀ b, H b = some (.own a) -> H' b = some (.own a)) (ht : ∀ b xs, H b = some (.tup xs) -> H' b = some (.tup xs)) : ObjOk P w H' h' a o := by
 induction o with
 | lst xs => obtain ⟨z, its, n, r, e⟩ := x;exact ⟨z, its, n, r, k _ _ (.inl rfl) e⟩
 | tup xs => obtain ⟨z, its, r, ob, e, c⟩ := x;exact ⟨z, its, r, ob, k _ _ (.inl rfl) e, c⟩
 | dK kvs => obtain ⟨z, y, vs, r, ob, es, ep, e, c⟩ := x;exact ⟨z, y, vs, r, ob, es, ep, k _ _ (.inl rfl) e, c⟩
 | dT kvs =>
  obtain ⟨z, y, xs, r, ob, es, ep, e, c⟩ := x;exact ⟨z, y, xs, Paired.mapP r λ p q z => ⟨z.1, ht _ _ z.2.1, z.2.2⟩, ob, es, ep, k _ _ (.inl rfl) e, c⟩
 | set S n => obtain ⟨ob, es, ep, t, e, c⟩ := x;exact ⟨ob, es, ep, t, k _ _ (.inl rfl) e, c⟩
 | ins C dx fs =>
  obtain ⟨d, z, ne, e, mA, ⟨od, es, ep, e2, c⟩, r⟩ := x;exact ⟨ho _ d, z, ne, k _ _ (.inl rfl) e, mA, ⟨od, es, ep, k _ _ (.inr d) e2, c⟩, r⟩
 | own y => obtain ⟨ob, e⟩ := x;exact ⟨ob, k _ _ (.inl rfl) e⟩
 | xd fs => obtain ⟨mA, ⟨od, es, ep, e, c⟩, r⟩ := x;exact ⟨mA, ⟨od, es, ep, k _ _ (.inl rfl) e, c⟩, r⟩
 | rng lo hi => obtain ⟨t, u, v, e⟩ := x;exact ⟨t, u, v, k _ _ (.inl rfl) e⟩
 | frz ob u ih => obtain ⟨e, q⟩ := x;exact ⟨k _ _ (.inl rfl) e, ih q⟩
 | tbl ps =>
  have e : h.get? a = some { cls := .none, data := .fields ps } := x;show h'.get? a = some { cls := .none, data := .fields ps }
  exact k a _ (.inl rfl) e
 | met f y =>
  have e : h.get? a = some (methodObj (.ref f) (.ref y)) := x;show h'.get? a = some (methodObj (.ref f) (.ref y))
  exact k a _ (.inl rfl) e
 | ext φ => obtain ⟨p, ⟨o, e⟩, st⟩ := x;exact ⟨st _ _ p λ o q => k _ _ (.inl rfl) q, ⟨o, k _ _ (.inl rfl) e⟩, st⟩
theorem HOk.lt (x : HOk P w H h) (e : H a = some o) : a < h.objs.size := (x a o e).lt
theorem HOk.fresh (x : HOk P w H h) (e : h.objs.size <= a) : H a = none := by
 cases q : H a with
 | none => rfl
 | some u => exact absurd (Nat.lt_of_lt_of_le (x.lt q) e) (Nat.lt_irrefl _)
theorem HOk.kept (x : HOk P w H h) (k : ∀ b u, h.get? b = some u -> h'.get? b = some u) : HOk P w H h' := λ a o e =>
 (x a o e).stay (λ b u _ q => k b u q) (λ _ q => q) λ _ _ q => q
theorem HOk.laid (x : HOk P w H h) (k : ∀ b u, h.get? b = some u -> h'.get? b = some u) (hp : h.objs.size <= a) (new : ObjOk P w (upd H a o) h' a o) : HOk P w (upd H a o) h' := λ b u e => by
 have hn := x.fresh hp;by_cases hb : b = a
 ·subst hb;rw [upd_same] at e;cases e;exact new
 ·rw [upd_ne hb] at e;exact (x b u e).stay (λ c v _ q => k c v q) (λ c q => by rw [upd_ne (ne_of_none q hn)];exact q) λ c xs q => by rw [upd_ne (ne_of_none q hn)];exact q
end
def Rd (H : Hp) (a : Addr) (u : HO) : Prop := H a = some u \/ ∃ o, H a = some (.frz o u)
theorem Rd.of {H : Hp} {a : Addr} {u : HO} (h : H a = some u) : Rd H a u := .inl h
theorem Rd.ok {P : Program} {w : World} {H : Hp} {h : Heap} {a : Addr} {u : HO} (r : Rd H a u) (x : HOk P w H h) : ObjOk P w H h a u := by
 rcases r with r|⟨o, r⟩
 ·exact x a u r
 ·obtain ⟨_, q⟩ := x a _ r;exact q
def Mut : Option HO -> Prop
 | some (.lst _) => True
 | some (.dK _) => True
 | some (.dT _) => True
 | some (.set _ _) => True
 | some (.ins _ _ _) => True
 | some (.ext _) => True
 | _ => False
section
variable {P : Program} {w : World} {H : Hp} {h h' : Heap} {x e : Addr} {o' : HO}
theorem HOk.write (ok : HOk P w H h) (mu : Mut (H x)) (he : e = x \/ H e = some (.own x)) (k : ∀ b u, b ≠ e -> h.get? b = some u -> h'.get? b = some u) (heo : ∃ u, h'.get? e = some u)
  (new : ObjOk P w (upd H x o') h' x o') : HOk P w (upd H x o') h' := λ b u q => by
 have nown : ∀ c y, H c = some (.own y) -> c ≠ x := λ c y r z => by subst z;rw [r] at mu;exact mu
 have ntup : ∀ c xs, H c = some (.tup xs) -> c ≠ x := λ c xs r z => by subst z;rw [r] at mu;exact mu
 by_cases hb : b = x
 ·subst hb;rw [upd_same] at q;cases q;exact new
 ·rw [upd_ne hb] at q;by_cases hbe : b = e
  ·have q' : H b = some (.own x) := by
    rcases he with z|z
    ·exact absurd (hbe.trans z) hb
    ·rw [hbe];exact z
   rw [q] at q';cases q';obtain ⟨v, hv⟩ := heo;exact ⟨v, by rw [hbe];exact hv⟩
  ·refine (ok b u q).stay (λ c v hc r => k c v ?_ r) (λ c r => by rw [upd_ne (nown c b r)];exact r) λ c xs r => by rw [upd_ne (ntup c xs r)];exact r
   rcases hc with rfl|hc
   ·exact hbe
   ·rintro rfl;rcases he with z|z
    ·exact nown c b hc z
    ·rw [hc] at z;cases z;exact hb rfl
end
structure Un (fs ex : List Addr) (H H' : Hp) (h h' : Heap) : Prop where
 keep : ∀ b o, h.get? b = some o -> H b = none -> b ∉ fs -> b ∉ ex -> h'.get? b = some o
 slot : ∀ b o, h.get? b = some o -> H b = none -> b ∈ fs -> b ∉ ex -> ∃ sl, h'.get? b = some { o with slots := sl }
 free : ∀ b o, h.get? b = some o -> H b = none -> b ∉ ex -> H' b = none
 there : ∀ b o, h.get? b = some o -> b ∉ ex -> ∃ o', h'.get? b = some o'
 tups : ∀ b xs, H b = some (.tup xs) -> H' b = some (.tup xs)
 frzs : ∀ b o u, H b = some (.frz o u) -> H' b = some (.frz o u)
 tbls : ∀ b ps, H b = some (.tbl ps) -> ∃ more, H' b = some (.tbl (ps ++ more))
section
variable {fs fs' ex ex' : List Addr} {H H1 H2 : Hp} {h h1 h2 h' : Heap} {a x e : Addr} {o : HO}
theorem Un.any (u : Un fs ex H H1 h h1) {b : Addr} {ob : Obj} (q : h.get? b = some ob) (n : H b = none) (hx : b ∉ ex) : ∃ sl, h1.get? b = some { ob with slots := sl } := by
 by_cases hb : b ∈ fs
 ·exact u.slot b ob q n hb hx
 ·exact ⟨ob.slots, u.keep b ob q n hb hx⟩
theorem Un.trans (a : Un fs ex H H1 h h1) (b : Un fs ex H1 H2 h1 h2) : Un fs ex H H2 h h2 where
 keep := λ c ob q n hc hx => b.keep c ob (a.keep c ob q n hc hx) (a.free c ob q n hx) hc hx
 slot := λ c ob q n hc hx => by
  obtain ⟨sl, e1⟩ := a.slot c ob q n hc hx;obtain ⟨sl', e2⟩ := b.slot c _ e1 (a.free c ob q n hx) hc hx;exact ⟨sl', e2⟩
 free := λ c ob q n hx => by
  obtain ⟨o', e1⟩ := a.there c ob q hx;exact b.free c o' e1 (a.free c ob q n hx) hx
 there := λ c ob q hx => by
  obtain ⟨o', e1⟩ := a.there c ob q hx;exact b.there c o' e1 hx
 tups := λ c xs q => b.tups c xs (a.tups c xs q)
 frzs := λ c ob xs q => b.frzs c ob xs (a.frzs c ob xs q)
 tbls := λ c ps q => by
  obtain ⟨m1, e1⟩ := a.tbls c ps q;obtain ⟨m2, e2⟩ := b.tbls c _ e1;exact ⟨m1 ++ m2, by rw [e2, Array.append_assoc]⟩
theorem Un.kept (k : ∀ b u, h.get? b = some u -> h'.get? b = some u) : Un fs ex H H h h' :=
 ⟨λ b ob q _ _ _ => k b ob q, λ b ob q _ _ _ => ⟨ob.slots, k b ob q⟩, λ _ _ _ n _ => n, λ b ob q _ => ⟨ob, k b ob q⟩, λ _ _ q => q, λ _ _ _ q => q, λ _ ps q => ⟨#[], by rw [q];simp⟩⟩
theorem Un.refl : Un fs ex H H h h := Un.kept λ _ _ q => q
theorem Un.laid (k : ∀ b u, h.get? b = some u -> h'.get? b = some u) (hp : h.objs.size <= a) (hn : H a = none) : Un fs ex H (upd H a o) h h' where
 keep := λ b u q _ _ _ => k b u q
 slot := λ b u q _ _ _ => ⟨u.slots, k b u q⟩
 free := λ b u q n _ => by rw [upd_ne (Nat.ne_of_lt (Nat.lt_of_lt_of_le (Heap.lt_size q) hp))];exact n
 there := λ b u q _ => ⟨u, k b u q⟩
 tups := λ b xs q => by rw [upd_ne (ne_of_none q hn)];exact q
 frzs := λ b u xs q => by rw [upd_ne (ne_of_none q hn)];exact q
 tbls := λ b ps q => ⟨#[], by rw [upd_ne (ne_of_none q hn), q];simp⟩
theorem Un.write (mu : Mut (H x)) (he : e = x \/ H e = some (.own x)) (k : ∀ b u, b ≠ e -> h.get? b = some u -> h'.get? b = some u) (heo : ∃ u, h'.get? e = some u) : Un fs ex H (upd H x o) h h' := by
 have hx : ∀ b, H b = none -> b ≠ x := λ b n z => by subst z;rw [n] at mu;exact mu
 have hb : ∀ b, H b = none -> b ≠ e := λ b n z => by
  subst z;rcases he with r|r
  ·exact hx b n r
  ·rw [n] at r;cases r
 have hm : ∀ b u, H b = some u -> ¬ Mut (some u) -> b ≠ x := λ b u q nm z => by subst z;rw [q] at mu;exact nm mu
 refine ⟨λ b u q n _ _ => k b u (hb b n) q, λ b u q n _ _ => ⟨u.slots, k b u (hb b n) q⟩, λ b u q n _ => by rw [upd_ne (hx b n)];exact n, λ b u q _ => ?_,
  λ b xs q => by rw [upd_ne (hm b _ q λ z => z)];exact q, λ b u xs q => by rw [upd_ne (hm b _ q λ z => z)];exact q, λ b ps q => ⟨#[], by rw [upd_ne (hm b _ q λ z => z), q];simp⟩⟩
 by_cases hbe : b = e
 ·subst hbe;exact heo
 ·exact ⟨u, k b u hbe q⟩
theorem Un.mono (u : Un fs ex H H1 h h1) (hs : ∀ b ∈ fs, b ∈ fs') (hx : ∀ b ∈ ex, b ∈ ex') : Un fs' ex' H H1 h h1 :=
 ⟨λ b ob q n hb he => u.keep b ob q n (λ z => hb (hs b z)) λ z => he (hx b z), λ _ _ q n _ he => u.any q n λ z => he (hx _ z), λ b ob q n he => u.free b ob q n λ z => he (hx b z), λ b ob q he => u.there b ob q λ z => he (hx b z), u.tups, u.frzs, u.tbls⟩
end
def trk (h : Heap) (H : Hp) : List Addr := (List.range h.objs.size).filter λ a => (H a).isSome
def Ju (h : Heap) (H : Hp) : Heap := PySem.W.hideAll h (trk h H)
theorem zaa (h : Heap) (H : Hp) : (Ju h H).objs.size = h.objs.size := PySem.W.hideAll_size _ _
theorem zbl {h : Heap} {H : Hp} {b : Addr} {o : Obj} (e : h.get? b = some o) (n : H b = none) : (Ju h H).get? b = some o :=
 PySem.W.hideAll_get _ e λ hm => by
  have q : (H b).isSome = true := (List.mem_filter.mp hm).2;rw [n] at q;simp at q
theorem zb2 {h : Heap} {H : Hp} {b : Addr} {o : Obj} (e : (Ju h H).get? b = some o) : h.get? b = some o /\ H b = none := by
 have e' : h.get? b = some o := PySem.W.of_hideAll (trk h H) e;refine ⟨e', ?_⟩;cases q : H b with
 | none => rfl
 | some x =>
  have hm : b ∈ trk h H := List.mem_filter.mpr ⟨List.mem_range.mpr (Heap.lt_size e'), by simp [q]⟩;have z : (Ju h H).get? b = none := PySem.W.hideAll_none (trk h H) hm;rw [z] at e;cases e
def zcm (g h : Heap) (L : Addr) : List (Addr × Obj) := (List.range h.objs.size).filterMap λ a => if a = L \/ (g.get? a).isSome = true then none else (h.get? a).map λ o => (a, o)
def rest (g h : Heap) (L d : Addr) : List (Addr × Obj) := (zcm g h L).filter λ p => decide (p.1 ≠ d)
end L2
namespace L2
open PySem PySem.Spec PyProof.Rows
structure Mod (K : PySem.W.Frag) (mg : Str -> Option Value) (base : Heap) : Prop where
 kin : K.In base
 glob : base.Ns mainGlobals mg
 blt : ∃ mb, base.Ns builtinsNs mb /\ ∀ x : Str, x ≠ "__name__" -> mb x = bootBuiltins x
 nolimit : base.NoLimit
structure Cx where
 prog : Program
 w : World
 K : PySem.W.Frag
 mg : Str -> Option Value
 base : Heap
 A : Around
 N : List Str
 s₀ : Shared
 H₀ : Hp
 env : Env
 outer : List Env
 stack : List Env
 ex : List Addr
 fn : Str -> Bool
 calm : Bool
 pn : List (Addr × Obj)
 xe : Value -> Shared -> Prop
def frs (l : List Env) : List Addr := l.filterMap (·.frame)
abbrev Cx.fs (X : Cx) : List Addr := frs X.outer
def Vis (sc : Scope) (x : Str) : Prop := sc.names.lookup x = some .local \/ sc.names.lookup x = some .cell \/ sc.names.lookup x = some .free
def Loc (sc : Scope) (x : Str) : Prop := sc.names.lookup x = some .local \/ sc.names.lookup x = some .cell
def zd7 (env : Env) (h : Heap) (m : Str -> Option Value) (x : Str) (u : Value) : Prop :=
 (env.kindOf x = some .local /\ m x = some u) \/ ((env.kindOf x = some .cell \/ env.kindOf x = some .free) /\ ∃ c, env.cells.lookup x = some c /\ h.IsCell c (some u))
structure Cx.Ok (X : Cx) : Prop where
 mod : Mod X.K X.mg X.base
 kind : X.env.scope.kind = .function
 glob : X.env.globals = mainGlobals
 blt : X.env.builtins = builtinsNs
 above : X.s₀.heap.objs.size <= X.env.locals
 inj : ∀ x y c, X.env.cells.lookup x = some c -> X.env.cells.lookup y = some c -> x = y
 has : ∀ x, (X.env.kindOf x = some .cell \/ X.env.kindOf x = some .free) -> ∃ c, X.env.cells.lookup x = some c
 cab : ∀ x c, X.fn x = true -> X.env.cells.lookup x = some c -> X.s₀.heap.objs.size <= c
 hd : X.calm = true -> X.A.handled = none
 frames : X.A.frames = some X.stack
 stk : X.stack = X.outer \/ (X.stack = X.env :: X.outer /\ X.env.frame = some X.env.locals)
 exf : ∀ b ∈ X.ex, b ≠ X.env.locals /\ ∀ x c, X.env.cells.lookup x = some c -> c ≠ b
 bs : ∀ b o, X.base.get? b = some o -> X.s₀.heap.get? b = some o /\ X.H₀ b = none
 bsz : X.base.objs.size <= X.s₀.heap.objs.size
 noex : ∀ b o, X.base.get? b = some o -> b ∉ X.ex
 exfs : ∀ b ∈ X.ex, b ∉ X.fs
 funs : X.s₀.heap.FunFrames X.base X.outer
 frf : ∀ b ∈ X.fs, X.H₀ b = none
structure Inv (X : Cx) (pins : List (Addr × Obj)) (σ : List (Option V)) (H : Hp) (s : Shared) : Prop where
 ok : X.Ok
 os : s.os = X.s₀.os
 bare : AllBare s.gens
 base : Un X.fs X.ex X.H₀ H X.s₀.heap s.heap
 loc : ∃ m, s.heap.Ns X.env.locals m /\ ∀ (i : Nat) (x : Str) (v : V), X.N[i]? = some x -> σ[i]? = some (some v) -> Vis X.env.scope x -> ∃ u, RelV v u /\ zd7 X.env s.heap m x u
 cell : ∀ x c, X.env.cells.lookup x = some c -> ∃ v, s.heap.IsCell c v
 free : H X.env.locals = none
 freeC : ∀ x c, X.env.cells.lookup x = some c -> H c = none
 pin : ∀ p ∈ X.pn ++ pins, s.heap.get? p.1 = some p.2 /\ H p.1 = none /\ p.1 ≠ X.env.locals /\ p.1 ∉ X.fs /\ ∀ v, p.2.data ≠ .cell v
 hok : HOk X.prog X.w H s.heap
 len : σ.length = X.N.length
section
variable {X : Cx} {pins : List (Addr × Obj)} {σ : List (Option V)} {H H' : Hp} {s : Shared} {h' : Heap}
theorem Cx.Ok.nofr (ok : X.Ok) {b : Addr} {o : Obj} (e : X.base.get? b = some o) : b ∉ X.fs := λ hb => by
 have := (ok.funs.mem hb).1;rw [e] at this;cases this
theorem Inv.bs (I : Inv X pins σ H s) : ∀ b o, X.base.get? b = some o -> s.heap.get? b = some o /\ H b = none := λ b o e =>
 ⟨I.base.keep b o (I.ok.bs b o e).1 (I.ok.bs b o e).2 (I.ok.nofr e) (I.ok.noex b o e), I.base.free b o (I.ok.bs b o e).1 (I.ok.bs b o e).2 (I.ok.noex b o e)⟩
theorem Inv.bk (I : Inv X pins σ H s) : ∀ b o, X.base.get? b = some o -> s.heap.get? b = some o := λ b o e => (I.bs b o e).1
theorem Inv.mod (I : Inv X pins σ H s) : Mod X.K X.mg X.base := I.ok.mod
theorem Inv.kIn (I : Inv X pins σ H s) : X.K.In s.heap := I.ok.mod.kin.keeps I.bk
theorem Inv.nolimit (I : Inv X pins σ H s) : s.heap.NoLimit := I.ok.mod.nolimit.keeps I.bk
theorem Inv.fr (I : Inv X pins σ H s) : ∃ m, Fr X.base X.env.locals s.heap m :=
 let ⟨m, hn, _⟩ := I.loc
 ⟨m, hn, I.bk, Nat.le_trans I.ok.bsz I.ok.above⟩
theorem Inv.lt (I : Inv X pins σ H s) : X.env.locals < s.heap.objs.size := by
 obtain ⟨_, hn, _⟩ := I.loc;exact hn.lt
theorem Inv.sz (I : Inv X pins σ H s) : X.s₀.heap.objs.size <= s.heap.objs.size := Nat.le_trans I.ok.above (Nat.le_of_lt I.lt)
theorem Inv.nofs (I : Inv X pins σ H s) {a : Addr} (h : s.heap.objs.size <= a) : a ∉ X.fs := λ hb => by
 obtain ⟨_, o, ho, _⟩ := I.ok.funs.mem hb;exact absurd (Nat.lt_of_lt_of_le (Heap.lt_size ho) (Nat.le_trans I.sz h)) (Nat.lt_irrefl _)
theorem Inv.cne (I : Inv X pins σ H s) : ∀ x c, X.env.cells.lookup x = some c -> c ≠ X.env.locals := λ x c e z => by
 obtain ⟨v, o, ho, hd⟩ := I.cell x c e;obtain ⟨m, ⟨o', es, ep, ho', hd', _⟩, _⟩ := I.loc;rw [z, ho'] at ho;cases ho;rw [hd'] at hd;cases hd
theorem Inv.funs (I : Inv X pins σ H s) : s.heap.FunFrames X.base X.outer := by
 have all : ∀ (l : List Env), (∀ b ∈ frs l, b ∈ X.fs) -> X.s₀.heap.FunFrames X.base l -> s.heap.FunFrames X.base l := by
  intro l
  induction l with
  | nil => intro _ _;trivial
  | cons env r ih =>
   intro hs hl;obtain ⟨hk, ⟨L, o, hf, hn, ho, hd⟩, hr⟩ := hl;have hL : L ∈ X.fs := hs L (by unfold frs;rw [filterMap_cons, hf];exact mem_cons_self);obtain ⟨sl, e⟩ := I.base.slot L o ho (I.ok.frf L hL) hL λ z => I.ok.exfs L z hL;exact ⟨hk, ⟨L, _, hf, hn, e, hd⟩, ih (λ b hb => hs b (by unfold frs;rw [filterMap_cons, hf];exact mem_cons_of_mem _ hb)) hr⟩
 exact all X.outer (λ _ hb => hb) I.ok.funs
theorem Inv.stack (I : Inv X pins σ H s) : s.heap.FunFrames X.base X.stack := by
 rcases I.ok.stk with e|⟨e, hf⟩
 ·rw [e];exact I.funs
 ·rw [e];obtain ⟨m, hn, _⟩ := I.loc;refine .cons (by rw [I.ok.kind];decide) hf hn ?_ I.funs;exact Heap.get?_none_of_le (Nat.le_trans I.ok.bsz I.ok.above)
theorem Inv.stkSub (I : Inv X pins σ H s) : ∀ b ∈ frs X.stack, b ∈ X.env.locals :: X.fs := λ b hb => by
 rcases I.ok.stk with e|⟨e, hf⟩
 ·rw [e] at hb;exact mem_cons_of_mem _ hb
 ·rw [e] at hb;unfold frs at hb;rw [filterMap_cons, hf] at hb;exact hb
theorem Inv.stkFree (I : Inv X pins σ H s) : ∀ b ∈ frs X.stack, H b = none := λ b hb => by
 rcases List.mem_cons.mp (I.stkSub b hb) with e|hb
 ·rw [e];exact I.free
 ·obtain ⟨_, o, ho, _⟩ := I.ok.funs.mem hb;exact I.base.free b o ho (I.ok.frf b hb) λ z => I.ok.exfs b z hb
theorem Inv.step {g' : Array GenState} {t' : Nat} {d' : Drawn} {ch : List Addr} (I : Inv X pins σ H s)
  (hch : ∀ b ∈ ch, (b ∈ X.ex \/ X.s₀.heap.objs.size <= b) /\ b ≠ X.env.locals /\ (∀ x c, X.env.cells.lookup x = some c -> c ≠ b) /\ ∀ p ∈ X.pn ++ pins, p.1 ≠ b)
  (keep : ∀ b o, b ≠ X.env.locals -> b ∉ X.fs -> b ∉ ch -> s.heap.get? b = some o -> H b = none -> h'.get? b = some o)
  (slot : ∀ b o, b ≠ X.env.locals -> b ∈ X.fs -> b ∉ ch -> s.heap.get? b = some o -> H b = none -> ∃ sl, h'.get? b = some { o with slots := sl }) (free : ∀ b o, b ∉ ch -> s.heap.get? b = some o -> H b = none -> H' b = none)
  (there : ∀ b o, b ∉ ch -> s.heap.get? b = some o -> ∃ o', h'.get? b = some o')
  (tups : ∀ b xs, H b = some (.tup xs) -> H' b = some (.tup xs)) (frzs : ∀ b o u, H b = some (.frz o u) -> H' b = some (.frz o u)) (tbls : ∀ b ps, H b = some (.tbl ps) -> ∃ more, H' b = some (.tbl (ps ++ more)))
  (ns : ∀ m, s.heap.Ns X.env.locals m -> h'.Ns X.env.locals m) (hok : HOk X.prog X.w H' h') (hg : AllBare g') :
  Inv X pins σ H' { s with heap := h', gens := g', drawn := d', toks := t' } := by
 have neL : ∀ b o, X.s₀.heap.get? b = some o -> b ≠ X.env.locals := λ b o e => Nat.ne_of_lt (Nat.lt_of_lt_of_le (Heap.lt_size e) I.ok.above);have neC : ∀ b o, X.s₀.heap.get? b = some o -> b ∉ X.ex -> b ∉ ch := λ b o e hx hb => by
  rcases (hch b hb).1 with z|z
  ·exact hx z
  ·exact absurd (Nat.lt_of_lt_of_le (Heap.lt_size e) z) (Nat.lt_irrefl _)
 have cellK : ∀ x c, X.env.cells.lookup x = some c -> ∀ v, s.heap.IsCell c v -> h'.IsCell c v := λ x c e v ⟨o, ho, hd⟩ => by
  have nch : c ∉ ch := λ z => (hch c z).2.2.1 x c e rfl;by_cases hc : c ∈ X.fs
  ·obtain ⟨sl, q⟩ := slot c o (I.cne x c e) hc nch ho (I.freeC x c e);exact ⟨_, q, hd⟩
  ·exact ⟨o, keep c o (I.cne x c e) hc nch ho (I.freeC x c e), hd⟩
 refine ⟨I.ok, I.os, hg, ⟨λ b o e n hb hx => ?_, λ b o e n hb hx => ?_, λ b o e n hx => ?_, λ b o e hx => ?_, λ b xs e => tups b xs (I.base.tups b xs e), λ b o xs e => frzs b o xs (I.base.frzs b o xs e), λ b ps e => ?_⟩, ?_, λ x c e => ?_, ?_, λ x c e => ?_, λ p hp => ?_, hok, I.len⟩
 ·exact keep b o (neL b o e) hb (neC b o e hx) (I.base.keep b o e n hb hx) (I.base.free b o e n hx)
 ·obtain ⟨sl, e1⟩ := I.base.slot b o e n hb hx;obtain ⟨sl', e2⟩ := slot b _ (neL b o e) hb (neC b o e hx) e1 (I.base.free b o e n hx);exact ⟨sl', e2⟩
 ·obtain ⟨o', e1⟩ := I.base.there b o e hx;exact free b o' (neC b o e hx) e1 (I.base.free b o e n hx)
 ·obtain ⟨o', e1⟩ := I.base.there b o e hx;exact there b o' (neC b o e hx) e1
 ·obtain ⟨m1, e1⟩ := I.base.tbls b ps e;obtain ⟨m2, e2⟩ := tbls b _ e1;exact ⟨m1 ++ m2, by rw [e2, Array.append_assoc]⟩
 ·obtain ⟨m, hn, hl⟩ := I.loc;refine ⟨m, ns m hn, λ i x v e1 e2 e3 => ?_⟩;obtain ⟨u, r, l⟩ := hl i x v e1 e2 e3;refine ⟨u, r, ?_⟩;rcases l with l|⟨k, c, e, z⟩
  ·exact .inl l
  ·exact .inr ⟨k, c, e, cellK x c e _ z⟩
 ·obtain ⟨v, z⟩ := I.cell x c e;exact ⟨v, cellK x c e v z⟩
 ·obtain ⟨m, ⟨o, _, _, ho, _⟩, _⟩ := I.loc;exact free _ o (λ z => (hch _ z).2.1 rfl) ho I.free
 ·obtain ⟨v, o, ho, hd⟩ := I.cell x c e;exact free c o (λ z => (hch c z).2.2.1 x c e rfl) ho (I.freeC x c e)
 ·obtain ⟨e, n, ne, nf, d⟩ := I.pin p hp;have nch : p.1 ∉ ch := λ z => (hch p.1 z).2.2.2 p hp rfl;exact ⟨keep p.1 p.2 ne nf nch e n, free p.1 p.2 nch e n, ne, nf, d⟩
theorem Inv.un {t' : Nat} (I : Inv X pins σ H s) (u : Un X.fs [] H H' s.heap h') (hok : HOk X.prog X.w H' h') : Inv X pins σ H' { s with heap := h', toks := t' } := by
 obtain ⟨m, ⟨o, es, ep, ho, r⟩, _⟩ := id I.loc;obtain ⟨sl, hL⟩ := u.any ho I.free (by simp);exact I.step (g' := s.gens) (d' := s.drawn) (ch := []) (λ _ z => nomatch z) (λ b o _ hb _ e n => u.keep b o e n hb (by simp)) (λ b o _ hb _ e n => u.slot b o e n hb (by simp)) (λ b o _ e n => u.free b o e n (by simp)) (λ b o _ e => u.there b o e (by simp)) u.tups u.frzs u.tbls (λ m' hm => by
  obtain ⟨o', es', ep', ho', r'⟩ := hm;rw [ho] at ho';cases ho';exact ⟨_, es', ep', hL, r'⟩) hok I.bare
theorem Inv.call {g' : Array GenState} {t' : Nat} {d' : Drawn} {ch : List Addr} (I : Inv X pins σ H s) (u : Un (frs X.stack) ch H H' s.heap h') (hok : HOk X.prog X.w H' h') (hg : AllBare g')
  (hch : ∀ b ∈ ch, (b ∈ X.ex \/ X.s₀.heap.objs.size <= b) /\ b ≠ X.env.locals /\ (∀ x c, X.env.cells.lookup x = some c -> c ≠ b) /\ ∀ p ∈ X.pn ++ pins, p.1 ≠ b) :
  Inv X pins σ H' { s with heap := h', gens := g', drawn := d', toks := t' } := by
 obtain ⟨m, ⟨o, es, ep, ho, r⟩, _⟩ := id I.loc;obtain ⟨sl, hL⟩ := u.any ho I.free λ z => (hch _ z).2.1 rfl;exact I.step (ch := ch) hch (λ b o hL hb hc e n => u.keep b o e n (λ z => (List.mem_cons.mp (I.stkSub b z)).elim hL hb) hc) (λ b o _ _ hc e n => u.any e n hc) (λ b o hc e n => u.free b o e n hc) (λ b o hc e => u.there b o e hc) u.tups u.frzs u.tbls (λ m' hm => by
  obtain ⟨o', es', ep', ho', r'⟩ := hm;rw [ho] at ho';cases ho';exact ⟨_, es', ep', hL, r'⟩) hok hg
theorem Inv.turned {t' : Nat} {it : Addr} (I : Inv X pins σ H s) (k : ∀ b o, b ≠ it -> s.heap.get? b = some o -> h'.get? b = some o) (hn : H it = none) (hL : it ≠ X.env.locals)
  (h1 : it ∈ X.ex \/ X.s₀.heap.objs.size <= it) (h2 : ∀ x c, X.env.cells.lookup x = some c -> c ≠ it) (h3 : ∀ p ∈ X.pn ++ pins, p.1 ≠ it) : Inv X pins σ H { s with heap := h', toks := t' } := by
 have nit : ∀ b u, H b = some u -> b ≠ it := λ b u e z => by rw [z, hn] at e;cases e
 refine I.step (g' := s.gens) (d' := s.drawn) (ch := [it]) (λ b hb => ?_) (λ b o _ _ hc e _ => k b o (λ z => hc (by simp [z])) e) (λ b o _ _ hc e _ => ⟨o.slots, k b o (λ z => hc (by simp [z])) e⟩) (λ _ _ _ _ n => n)
  (λ b o hc e => ⟨o, k b o (λ z => hc (by simp [z])) e⟩) (λ _ _ e => e) (λ _ _ _ e => e) (λ b ps e => ⟨#[], by rw [e];simp⟩) (λ m hm => ?_) (λ b u e => ?_) I.bare
 ·have e : b = it := by simpa using hb
  subst e;exact ⟨h1, hL, h2, h3⟩
 ·obtain ⟨o, es, ep, ho, r⟩ := hm;exact ⟨o, es, ep, k _ o (Ne.symm hL) ho, r⟩
 ·refine (I.hok b u e).stay (λ c v hc q => k c v ?_ q) (λ _ q => q) λ _ _ q => q;rcases hc with z|z
  ·rw [z];exact nit b u e
  ·exact nit c _ z
theorem Inv.tok (I : Inv X pins σ H s) (t : Nat) : Inv X pins σ H { s with toks := t } := I.un (h' := s.heap) (t' := t) Un.refl I.hok
theorem Inv.kept {t' : Nat} (I : Inv X pins σ H s) (k : ∀ b u, s.heap.get? b = some u -> h'.get? b = some u) : Inv X pins σ H { s with heap := h', toks := t' } := I.un (Un.kept k) (I.hok.kept k)
theorem Inv.laid {a : Addr} {o : HO} {t' : Nat} (I : Inv X pins σ H s) (k : ∀ b u, s.heap.get? b = some u -> h'.get? b = some u) (hp : s.heap.objs.size <= a) (new : ObjOk X.prog X.w (upd H a o) h' a o) :
  Inv X pins σ (upd H a o) { s with heap := h', toks := t' } := I.un (Un.laid k hp (I.hok.fresh hp)) (I.hok.laid k hp new)
theorem Inv.write {x e : Addr} {o : HO} {t' : Nat} (I : Inv X pins σ H s) (mu : Mut (H x)) (he : e = x \/ H e = some (.own x)) (k : ∀ b u, b ≠ e -> s.heap.get? b = some u -> h'.get? b = some u) (heo : ∃ u, h'.get? e = some u)
  (new : ObjOk X.prog X.w (upd H x o) h' x o) : Inv X pins σ (upd H x o) { s with heap := h', toks := t' } := I.un (Un.write mu he k heo) (I.hok.write mu he k heo new)
theorem Inv.pins_of {pins' : List (Addr × Obj)} (I : Inv X pins σ H s) (h : ∀ p ∈ pins', s.heap.get? p.1 = some p.2 /\ H p.1 = none /\ p.1 ≠ X.env.locals /\ p.1 ∉ X.fs /\ ∀ v, p.2.data ≠ .cell v) : Inv X pins' σ H s :=
 ⟨I.ok, I.os, I.bare, I.base, I.loc, I.cell, I.free, I.freeC, λ p hp => (List.mem_append.mp hp).elim (λ z => I.pin p (mem_append_left _ z)) (h p), I.hok, I.len⟩
theorem ZJ {N : List Str} (hN : N.Nodup) {i j : Nat} {x : Str} (a : N[i]? = some x) (b : N[j]? = some x) : i = j := by
 obtain ⟨h1, e1⟩ := List.getElem?_eq_some_iff.mp a;obtain ⟨h2, e2⟩ := List.getElem?_eq_some_iff.mp b;exact (List.getElem_inj hN).mp (e1.trans e2.symm)
theorem Qs {M : Model} {A : Around} {E : Value -> Shared -> Prop} {i : Nat} {x : Str} {v : V} {u : Value} {Q : Unit -> Shared -> Prop} (I : Inv X pins σ H s) (hN : X.N.Nodup) (hi : X.N[i]? = some x) (hx : Loc X.env.scope x) (r : RelV v u)
  (h : ∀ s', Inv X pins (σ.set i (some v)) H s' -> (∃ a, Heap.SameBut a s.heap s'.heap /\ (a = X.env.locals \/ X.env.cells.lookup x = some a)) -> Q () s') (hf : X.fn x = true \/ X.env.scope.names.lookup x = some .local := by walk_at "p") : wpAny M A (storeName X.env x u) Q E s := by
 obtain ⟨m, hn, hl⟩ := id I.loc;have hcls : (X.env.scope.kind == .class || (X.env.scope.kind == .module && X.env.locals != X.env.globals)) = false := by rw [I.ok.kind];rfl
 have hiσ : i < σ.length := by rw [I.len];exact (List.getElem?_eq_some_iff.mp hi).1
 have cne := I.cne;have tracked : ∀ {a : Addr} {h' : Heap}, (∃ o, s.heap.get? a = some o /\ H a = none) -> Heap.SameBut a s.heap h' -> HOk X.prog X.w H h' := λ {a h'} ha hs b ob e => by
  obtain ⟨_, _, hfree⟩ := ha;refine (I.hok b ob e).stay (λ c w' hc q => (hs.2 c ?_).trans q) (λ _ q => q) λ _ _ q => q;rintro rfl;rcases hc with rfl|hc
  ·rw [hfree] at e;cases e
  ·rw [hfree] at hc;cases hc
 rcases hx with hk|hk
 ·refine wpAny_storeName_local hk hn (λ h' hn' hs => ?_) hcls;obtain ⟨oL, _, _, hoL, _⟩ := id hn;refine h _ ⟨I.ok, I.os, I.bare, ⟨λ b o e n hb hx => ?_, λ b o e n hb hx => ?_, I.base.free, λ b o e hx => ?_, I.base.tups, I.base.frzs, I.base.tbls⟩, ⟨_, hn', λ j y v' e1 e2 e3 => ?_⟩, λ y c e => ?_, I.free, I.freeC, λ p hp => ?_, tracked ⟨oL, hoL, I.free⟩ hs, by simpa using I.len⟩ ⟨_, hs, .inl rfl⟩
  ·exact (hs.2 b (Nat.ne_of_lt (Nat.lt_of_lt_of_le (Heap.lt_size e) I.ok.above))).trans (I.base.keep b o e n hb hx)
  ·obtain ⟨sl, e1⟩ := I.base.slot b o e n hb hx;exact ⟨sl, (hs.2 b (Nat.ne_of_lt (Nat.lt_of_lt_of_le (Heap.lt_size e) I.ok.above))).trans e1⟩
  ·obtain ⟨o', e1⟩ := I.base.there b o e hx;exact ⟨o', (hs.2 b (Nat.ne_of_lt (Nat.lt_of_lt_of_le (Heap.lt_size e) I.ok.above))).trans e1⟩
  ·by_cases hj : j = i
   ·subst hj;rw [hi] at e1;cases e1;rw [getElem?_set_self hiσ] at e2;cases e2;exact ⟨u, r, .inl ⟨hk, by simp⟩⟩
   ·rw [getElem?_set_ne (Ne.symm hj)] at e2;obtain ⟨u', r', q⟩ := hl j y v' e1 e2 e3;refine ⟨u', r', ?_⟩;rcases q with ⟨k, e⟩|⟨k, c, e, z⟩
    ·refine .inl ⟨k, ?_⟩;have : y ≠ x := λ e => hj (ZJ hN e1 (e ▸ hi));simp [this, e]
    ·exact .inr ⟨k, c, e, z.sameBut hs (cne y c e)⟩
  ·obtain ⟨w', z⟩ := I.cell y c e;exact ⟨w', z.sameBut hs (cne y c e)⟩
  ·obtain ⟨e, n, ne, nf, d⟩ := I.pin p hp;exact ⟨(hs.2 p.1 ne).trans e, n, ne, nf, d⟩
 ·have hfn : X.fn x = true := by
   rcases hf with z|z
   ·exact z
   ·rw [z] at hk;cases hk
  obtain ⟨c, hc⟩ := I.ok.has x (.inl hk);obtain ⟨w', z⟩ := I.cell x c hc;refine wpAny_storeName_cell I.ok.kind hk hc z (λ h' hc' hs => ?_);obtain ⟨oc, hoc, hocd⟩ := id z;refine h { s with heap := h' } ⟨I.ok, I.os, I.bare, ⟨λ b o e n hb hx => ?_, λ b o e n hb hx => ?_, I.base.free, λ b o e hx => ?_, I.base.tups, I.base.frzs, I.base.tbls⟩, ⟨m, hn.sameBut hs (Ne.symm (cne x c hc)), λ j y v' e1 e2 e3 => ?_⟩, λ y c' e => ?_, I.free, I.freeC, λ p hp => ?_, tracked ⟨oc, hoc, I.freeC x c hc⟩ hs, by simpa using I.len⟩ ⟨c, hs, .inr hc⟩
  ·exact (hs.2 b (Nat.ne_of_lt (Nat.lt_of_lt_of_le (Heap.lt_size e) (I.ok.cab x c hfn hc)))).trans (I.base.keep b o e n hb hx)
  ·obtain ⟨sl, e1⟩ := I.base.slot b o e n hb hx;exact ⟨sl, (hs.2 b (Nat.ne_of_lt (Nat.lt_of_lt_of_le (Heap.lt_size e) (I.ok.cab x c hfn hc)))).trans e1⟩
  ·obtain ⟨o', e1⟩ := I.base.there b o e hx;exact ⟨o', (hs.2 b (Nat.ne_of_lt (Nat.lt_of_lt_of_le (Heap.lt_size e) (I.ok.cab x c hfn hc)))).trans e1⟩
  ·by_cases hj : j = i
   ·subst hj;rw [hi] at e1;cases e1;rw [getElem?_set_self hiσ] at e2;cases e2;exact ⟨u, r, .inr ⟨.inl hk, c, hc, hc'⟩⟩
   ·rw [getElem?_set_ne (Ne.symm hj)] at e2;obtain ⟨u', r', q⟩ := hl j y v' e1 e2 e3;refine ⟨u', r', ?_⟩;rcases q with q|⟨k, c', e, z'⟩
    ·exact .inl q
    ·refine .inr ⟨k, c', e, z'.sameBut hs ?_⟩;rintro rfl;exact hj (ZJ hN e1 (I.ok.inj _ _ _ e hc ▸ hi))
  ·by_cases hcc : c' = c
   ·subst hcc;exact ⟨_, hc'⟩
   ·obtain ⟨w2, z2⟩ := I.cell y c' e;exact ⟨w2, z2.sameBut hs hcc⟩
  ·obtain ⟨e, n, ne, nf, d⟩ := I.pin p hp;refine ⟨(hs.2 p.1 ?_).trans e, n, ne, nf, d⟩;intro q;rw [q, hoc] at e;have q' : oc = p.2 := Option.some.inj e;exact d w' (by rw [<- q'];exact hocd)
theorem Zi {M : Model} {A : Around} {E : Value -> Shared -> Prop} {i : Nat} {x : Str} {v : V} {u : Value} {Q : Unit -> Shared -> Prop} (I : Inv X pins σ H s) (hN : X.N.Nodup) (hi : X.N[i]? = some x) (hx : Loc X.env.scope x) (r : RelV v u)
  (h : ∀ s', Inv X pins (σ.set i (some v)) H s' -> Q () s') (hf : X.fn x = true \/ X.env.scope.names.lookup x = some .local := by walk_at "p") : wpAny M A (storeName X.env x u) Q E s :=
 Qs I hN hi hx r (λ s' I' _ => h s' I') hf
theorem Inv.call' {s' : Shared} {ch : List Addr} (I : Inv X pins σ H s) (ho : s'.os = s.os) (u : Un (frs X.stack) ch H H' s.heap s'.heap) (hok : HOk X.prog X.w H' s'.heap) (hg : AllBare s'.gens)
  (hch : ∀ b ∈ ch, (b ∈ X.ex \/ X.s₀.heap.objs.size <= b) /\ b ≠ X.env.locals /\ (∀ x c, X.env.cells.lookup x = some c -> c ≠ b) /\ ∀ p ∈ X.pn ++ pins, p.1 ≠ b) : Inv X pins σ H' s' := by
 obtain ⟨h', g', d', t', o'⟩ := s';have e : o' = s.os := ho;subst e;exact I.call (g' := g') (t' := t') (d' := d') u hok hg hch
end
abbrev XK := Value -> Option Addr -> Hp -> Prop
abbrev St := List (Option V)
abbrev VK := V -> Hp -> Prop
abbrev TE := St -> Hp -> VK -> Prop
abbrev TT := St -> Hp -> (Bool -> Hp -> Prop) -> Prop
abbrev TA := St -> Hp -> (List V -> Hp -> Prop) -> Prop
structure Ends where
 nx : St -> Hp -> Prop
 rt : VK
 bk : St -> Hp -> Prop := λ _ _ => False
 ct : St -> Hp -> Prop := λ _ _ => False
abbrev TS := Ends -> St -> Hp -> Prop
def EP (X : Cx) (pins : List (Addr × Obj)) (σ : St) (Q : VK) (u : Value) (s' : Shared) : Prop := ∃ v H', Inv X pins σ H' s' /\ RelV v u /\ Q v H'
def TP (X : Cx) (pins : List (Addr × Obj)) (σ : St) (Q : Bool -> Hp -> Prop) (b : Bool) (s' : Shared) : Prop := ∃ H', Inv X pins σ H' s' /\ Q b H'
def AP (X : Cx) (pins : List (Addr × Obj)) (σ : St) (Q : List V -> Hp -> Prop) (us : List Value) (s' : Shared) : Prop := ∃ vs H', Inv X pins σ H' s' /\ Vals vs us /\ Q vs H'
def SP (X : Cx) (pins : List (Addr × Obj)) (D : Ends) (f : Flow) (s' : Shared) : Prop :=
 match f with
 | .next => ∃ σ' H', Inv X pins σ' H' s' /\ D.nx σ' H'
 | .brk => ∃ σ' H', Inv X pins σ' H' s' /\ D.bk σ' H'
 | .cont => ∃ σ' H', Inv X pins σ' H' s' /\ D.ct σ' H'
 | .ret u => ∃ v σ' H', Inv X pins σ' H' s' /\ RelV v u /\ D.rt v H'
def PE (X : Cx) (e : Expr) (t : TE) : Prop :=
 ∀ (pins : List (Addr × Obj)) (s : Shared) (σ : St) (H : Hp) (Q : VK), Inv X pins σ H s -> t σ H Q -> wpAny (model X.prog X.w) X.A (eval e X.env) (EP X pins σ Q) X.xe s
def PT (X : Cx) (e : Expr) (t : TT) : Prop :=
 ∀ (pins : List (Addr × Obj)) (s : Shared) (σ : St) (H : Hp) (Q : Bool -> Hp -> Prop), Inv X pins σ H s -> t σ H Q -> wpAny (model X.prog X.w) X.A (isTrue e X.env (eval e X.env)) (TP X pins σ Q) X.xe s
def PW (X : Cx) (e : Expr) (t : TT) : Prop :=
 ∀ (whole : Sem Value) (pins : List (Addr × Obj)) (s : Shared) (σ : St) (H : Hp) (Q : Bool -> Hp -> Prop), Inv X pins σ H s -> t σ H Q -> wpAny (model X.prog X.w) X.A (isTrue e X.env whole) (TP X pins σ Q) X.xe s
theorem PW.pt {X : Cx} {e : Expr} {t : TT} (h : PW X e t) : PT X e t := h _
def PA (X : Cx) (es : List Expr) (t : TA) : Prop :=
 ∀ (pos : Pos) (pins : List (Addr × Obj)) (s : Shared) (σ : St) (H : Hp) (Q : List V -> Hp -> Prop), Inv X pins σ H s -> t σ H Q -> wpAny (model X.prog X.w) X.A (spliced (backTo pos (starEach es X.env))) (AP X pins σ Q) X.xe s
def PS (X : Cx) (st : Stmt) (t : TS) : Prop :=
 ∀ (pins : List (Addr × Obj)) (s : Shared) (σ : St) (H : Hp) (D : Ends), Inv X pins σ H s -> t D σ H -> wpAny (model X.prog X.w) X.A (exec st X.env) (SP X pins D) X.xe s
def PSs (X : Cx) (st : List Stmt) (t : TS) : Prop :=
 ∀ (pins : List (Addr × Obj)) (s : Shared) (σ : St) (H : Hp) (D : Ends), Inv X pins σ H s -> t D σ H -> wpAny (model X.prog X.w) X.A (execs st X.env) (SP X pins D) X.xe s
theorem thn {α : Type} {t : Sem α} {Q Q' : α -> Shared -> Prop} {M : Model} {A : Around} {E : Value -> Shared -> Prop} {s : Shared} (h : wpAny M A t Q E s) (hQ : ∀ a s, Q a s -> Q' a s) : wpAny M A t Q' E s := wpAny_mono h hQ λ _ _ x => x
theorem qQ {X : Cx} {pins : List (Addr × Obj)} {σ : St} {Q : VK} {t : Sem Value} {Q' : Value -> Shared -> Prop} {M : Model} {A : Around} {E : Value -> Shared -> Prop} {s : Shared} (h : wpAny M A t (EP X pins σ Q) E s) (k : ∀ u s1 x H1, Inv X pins σ H1 s1 -> RelV x u -> Q x H1 -> Q' u s1) : wpAny M A t Q' E s := thn h λ u s1 e => by
 obtain ⟨x, H1, I1, r, q⟩ := e;exact k u s1 x H1 I1 r q
theorem wr {X : Cx} {pins : List (Addr × Obj)} {σ : St} {Q : List V -> Hp -> Prop} {t : Sem (List Value)} {Q' : List Value -> Shared -> Prop} {M : Model} {A : Around} {E : Value -> Shared -> Prop} {s : Shared} (h : wpAny M A t (AP X pins σ Q) E s) (k : ∀ us s1 vs H1, Inv X pins σ H1 s1 -> Vals vs us -> Q vs H1 -> Q' us s1) : wpAny M A t Q' E s := thn h λ u s1 e => by
 obtain ⟨x, H1, I1, r, q⟩ := e;exact k u s1 x H1 I1 r q
end L2
namespace L2
open PySem PySem.Spec PyProof.Rows
section
variable {X : Cx}
def bq : V -> (Bool -> Prop) -> Prop
 | .bl k, P => P k
 | _, _ => False
theorem QS {x : V} {P : Bool -> Prop} (h : bq x P) : ∃ k, x = .bl k /\ P k := by
 cases x <;> first|exact ⟨_, rfl, h⟩|exact False.elim h
def iq : V -> (Int -> Prop) -> Prop
 | .int i, P => P i
 | _, _ => False
theorem wO {x : V} {P : Int -> Prop} (h : iq x P) : ∃ i, x = .int i /\ P i := by
 cases x <;> first|exact ⟨_, rfl, h⟩|exact False.elim h
theorem Jt {x y : V} {P : Int -> Int -> Prop} (h : iq x λ i => iq y λ j => P i j) : ∃ i j, x = .int i /\ y = .int j /\ P i j := by
 obtain ⟨i, e, h⟩ := wO h;obtain ⟨j, e2, h⟩ := wO h;exact ⟨i, j, e, e2, h⟩
def nq : V -> Prop -> Prop
 | .non, P => P
 | _, _ => False
theorem zcv {x : V} {P : Prop} (h : nq x P) : x = .non /\ P := by
 cases x <;> first|exact ⟨rfl, h⟩|exact False.elim h
def lq : List V -> (V -> Prop) -> Prop
 | [v], P => P v
 | _, _ => False
theorem za5 : ∀ {xs : List V} {P : V -> Prop}, lq xs P -> ∃ v, xs = [v] /\ P v
 | [_], _, h => ⟨_, rfl, h⟩
 | [], _, h => h.elim
 | _ :: _ :: _, _, h => h.elim
def vq : Option (Option V) -> (V -> Prop) -> Prop
 | some (some v), P => P v
 | _, _ => False
theorem zdw : ∀ {o : Option (Option V)} {P : V -> Prop}, vq o P -> ∃ v, o = some (some v) /\ P v
 | some (some v), _, h => ⟨v, rfl, h⟩
 | some none, _, h => h.elim
 | none, _, h => h.elim
def szl (xs : List V) (P : Prop) : Prop := cond (Nat.ble xs.length 12) P False
theorem Q2 {xs : List V} {P : Prop} (h : szl xs P) : xs.length <= sizeLine /\ P := by
 unfold szl at h;cases e : Nat.ble xs.length 12 with
 | true => rw [e] at h;exact ⟨Nat.le_trans (Nat.le_of_ble_eq_true e) (by decide), h⟩
 | false => rw [e] at h;exact h.elim
def tVar (i : Nat) : TE := λ σ H Q => vq σ[i]? λ v => Q v H
def tC (v : V) : TE := λ _ H Q => Q v H
theorem zcW {i : Nat} {x : Str} {pos : Pos} (hN : X.N[i]? = some x) (hv : Vis X.env.scope x) (hd : (x == ("__debug__" : Str)) = false := by decide) (hcd : (x == ("__classdict__" : Str)) = false := by decide) : PE X (.Name x pos) (tVar i) := by
 intro pins s σ H Q I h;obtain ⟨v, e, h⟩ := zdw h;obtain ⟨m, hn, hl⟩ := I.loc;obtain ⟨u, r, l⟩ := hl i x v hN e hv;have fin : EP X pins σ Q u s := ⟨v, H, I, r, h⟩;rcases l with ⟨hk, hm⟩|⟨hk, c, hc, hcell⟩
 ·exact wpAny_Name (wpAny_loadName_local I.ok.kind hk hn hm fin) hd
 ·rcases hk with hk|hk
  ·exact wpAny_Name (wpAny_loadName_cell I.ok.kind hk hc hcell fin) hd
  ·exact wpAny_Name (wpAny_loadName_free I.ok.kind hk hc hcell fin hcd) hd
theorem zg {i j pos} : PE X (.Constant (.int i) j pos) (tC (.int i)) := λ _ _ _ H _ I h => wpAny_Constant_int ⟨.int i, H, I.tok _, ⟨_, rfl⟩, h⟩
theorem J0 {b j pos} : PE X (.Constant (.bool b) j pos) (tC (.bl b)) := λ _ _ _ H _ I h => Constant_bool ⟨.bl b, H, I, rfl, h⟩
theorem jv {j pos} : PE X (.Constant .none j pos) (tC .non) := λ _ _ _ H _ I h => Constant_none ⟨.non, H, I, rfl, h⟩
theorem zl {x j pos} : PE X (.Constant (.str x) j pos) (tC (.str x)) := λ _ _ _ H _ I h => Calls.Constant_str ⟨.str x, H, I.tok _, ⟨_, rfl⟩, h⟩
def Gl (X : Cx) (x : Str) : Prop := X.env.kindOf x = some .globalImplicit
theorem qJ {E : Value -> Shared -> Prop} {pins : List (Addr × Obj)} {s : Shared} {σ : St} {H : Hp} {x : Str} {u : Value} {pos : Pos} {Q : Value -> Shared -> Prop} (I : Inv X pins σ H s) (hg : Gl X x) (hm : X.mg x = some u) (h : Q u s)
  (hd : (x == ("__debug__" : Str)) = false := by decide) : wpAny (model X.prog X.w) X.A (eval (.Name x pos) X.env) Q E s :=
 Calls.Name_function_global I.ok.kind hg (Calls.loadGlobal_global (by rw [I.ok.glob];exact I.mod.glob.keeps I.bk) hm h) hd
theorem vk {E : Value -> Shared -> Prop} {pins : List (Addr × Obj)} {s : Shared} {σ : St} {H : Hp} {x : Str} {u : Value} {pos : Pos} {Q : Value -> Shared -> Prop} (I : Inv X pins σ H s) (hg : Gl X x) (hm : X.mg x = none) (hv : bootBuiltins x = some u) (h : Q u s)
  (hn : x ≠ "__name__" := by decide) (hd : (x == ("__debug__" : Str)) = false := by decide) : wpAny (model X.prog X.w) X.A (eval (.Name x pos) X.env) Q E s := by
 obtain ⟨mb, h1, h2⟩ := I.mod.blt;exact Calls.Name_function_global I.ok.kind hg (Calls.loadGlobal_builtin (by rw [I.ok.glob];exact I.mod.glob.keeps I.bk) hm (by rw [I.ok.blt];exact h1.keeps I.bk) ((h2 x hn).trans hv) h) hd
variable {a b : Expr} {ta tb : TE} {pos : Pos}
def PC (X : Cx) (op : CmpOp) (a b : Expr) (t : TE) : Prop :=
 ∀ (pins : List (Addr × Obj)) (s : Shared) (σ : St) (H : Hp) (Q : VK), Inv X pins σ H s -> t σ H Q ->
  wpAny (model X.prog X.w) X.A (eval a X.env) (λ v s₁ => wpAny (model X.prog X.w) X.A (eval b X.env) (λ u s₂ => wpAny (model X.prog X.w) X.A (compareOp op v u) (EP X pins σ Q) X.xe s₂) X.xe s₁) X.xe s
theorem nobehind (b : Expr) {op : CmpOp} (h : op ≠ .In) (h2 : op ≠ .NotIn) : behindInMarks op b = false := by
 have e1 : (op == CmpOp.In) = false := by cases op <;> first|rfl|exact absurd rfl h
 have e2 : (op == CmpOp.NotIn) = false := by cases op <;> first|rfl|exact absurd rfl h2
 cases b <;> simp [behindInMarks, e1, e2]
variable {tA tB' : TT} {rest : List Expr}
def tAnd (t u : TT) : TT := λ σ H Q => t σ H λ c H1 => if c = true then u σ H1 Q else Q false H1
def tOr (t u : TT) : TT := λ σ H Q => t σ H λ c H1 => if c = true then Q true H1 else u σ H1 Q
def tNot (t : TT) : TT := λ σ H Q => t σ H λ c H1 => Q (!c) H1
theorem pw_and1 (ha : PT X a tA) : PW X (.BoolOp .And [a] pos) tA := by
 intro wh pins s σ H Q I h;refine isTrue_and (thn (ha pins s σ H Q I h) λ c s1 e => ?_);cases c with
 | true => exact isTrue_and_nil e
 | false => exact e
theorem pw_or1 (ha : PT X a tA) : PW X (.BoolOp .Or [a] pos) tA := by
 intro wh pins s σ H Q I h;refine isTrue_or (thn (ha pins s σ H Q I h) λ c s1 e => ?_);cases c with
 | false => exact isTrue_or_nil e
 | true => exact e
theorem pw_and (ha : PT X a tA) (hb : PW X (.BoolOp .And (b :: rest) pos) tB') : PW X (.BoolOp .And (a :: b :: rest) pos) (tAnd tA tB') := by
 intro wh pins s σ H Q I h;refine isTrue_and (thn (ha pins s σ H _ I h) λ c s1 ⟨H1, I1, q1⟩ => ?_);cases c with
 | true => exact hb wh pins s1 σ H1 Q I1 q1
 | false => exact ⟨H1, I1, q1⟩
theorem pw_or (ha : PT X a tA) (hb : PW X (.BoolOp .Or (b :: rest) pos) tB') : PW X (.BoolOp .Or (a :: b :: rest) pos) (tOr tA tB') := by
 intro wh pins s σ H Q I h;refine isTrue_or (thn (ha pins s σ H _ I h) λ c s1 ⟨H1, I1, q1⟩ => ?_);cases c with
 | true => exact ⟨H1, I1, q1⟩
 | false => exact hb wh pins s1 σ H1 Q I1 q1
theorem qN (ha : PT X a tA) : PT X (.UnaryOp .Not a pos) (tNot tA) := by
 intro pins s σ H Q I h;exact isTrue_not (ha pins s σ H (λ c H1 => Q (!c) H1) I h)
def tAndV (ta tb : TE) : TE := λ σ H Q => ta σ H λ x H1 => bq x λ c => if c = true then tb σ H1 Q else Q (.bl false) H1
def tNotV (ta : TE) : TE := λ σ H Q => ta σ H λ x H1 => bq x λ c => Q (.bl (!c)) H1
theorem zaK {op} {t : TE} (h : PE X a t) : PE X (.BoolOp op [a] pos) t := λ pins s σ H Q I hw => BoolOp_one (h pins s σ H Q I hw)
theorem X9 (ha : PE X a ta) (hb : PE X (.BoolOp .And (b :: rest) pos) tb) : PE X (.BoolOp .And (a :: b :: rest) pos) (tAndV ta tb) := by
 intro pins s σ H Q I h;refine BoolOp_and (qQ (ha pins s σ H _ I h) λ v s1 x H1 I1 r1 q1 => ?_);obtain ⟨c, rfl, q1⟩ := QS q1;cases r1;refine wpAny_truthy_bool ?_;cases c with
 | true => exact hb pins s1 σ H1 Q I1 q1
 | false => exact ⟨.bl false, H1, I1, rfl, q1⟩
theorem zaL (ha : PE X a ta) : PE X (.UnaryOp .Not a pos) (tNotV ta) := by
 intro pins s σ H Q I h;refine UnaryOp_ (qQ (ha pins s σ H _ I h) λ v s1 x H1 I1 r1 q1 => ?_);obtain ⟨c, rfl, q1⟩ := QS q1;cases r1;exact not_of (wpAny_truthy_bool ⟨.bl (!c), H1, I1, rfl, q1⟩)
end
end L2
namespace L2
open PySem PySem.Spec PyProof.Rows
def SqL (K : PySem.W.Frag) (H : Hp) (a : Addr) (xs : List V) : Prop :=
 Rd H a (.lst xs) \/
  ∃ (o : Obj) (its : Array Value) (n : Nat), K.lookup a = some o /\ o.cls = .type "list" /\ o.dict = none /\ o.data = .seq its n /\ its.size <= sizeLine /\ Vals xs its.toList
def SqT (K : PySem.W.Frag) (H : Hp) (a : Addr) (xs : List V) : Prop :=
 Rd H a (.tup xs) \/
  ∃ (o : Obj) (its : Array Value) (n : Nat), K.lookup a = some o /\ o.cls = .type "tuple" /\ o.data = .seq its n /\ its.size <= sizeLine /\ Vals xs its.toList
def zd4 : Value -> Option V
 | .none => some .non
 | .bool b => some (.bl b)
 | .int i _ => some (.int i)
 | .str x _ => some (.str x)
 | .bytes b _ => some (.byt b)
 | .float b _ => some (.flt b)
 | .ref a => some (.ref a)
 | .type n => some (.ty n)
 | _ => none
theorem RelV.abs {x : V} {u : Value} (r : RelV x u) : zd4 u = some x := by
 cases x with
 | non => cases r;rfl
 | bl _ => cases r;rfl
 | int _ => obtain ⟨t, rfl⟩ := r;rfl
 | str _ => obtain ⟨t, rfl⟩ := r;rfl
 | byt _ => obtain ⟨t, rfl⟩ := r;rfl
 | flt _ => obtain ⟨t, rfl⟩ := r;rfl
 | ref _ => cases r;rfl
 | ty _ => cases r;rfl
theorem RelV.inj {x y : V} {u : Value} (r : RelV x u) (q : RelV y u) : x = y := Option.some.inj (r.abs.symm.trans q.abs)
theorem Vals.inj : ∀ {xs ys : List V} {us : List Value}, Vals xs us -> Vals ys us -> xs = ys
 | _, _, _, .nil, .nil => rfl
 | _, _, _, .cons r t, .cons r' t' => by rw [r.inj r', Vals.inj t t']
section
variable {X : Cx} {pins : List (Addr × Obj)} {σ : St} {H : Hp} {s : Shared} {a : Addr} {xs ys : List V}
theorem SqL.of {K : PySem.W.Frag} (h : H a = some (.lst xs)) : SqL K H a xs := .inl (.inl h)
theorem SqT.of {K : PySem.W.Frag} (h : H a = some (.tup xs)) : SqT K H a xs := .inl (.inl h)
theorem Inv.list (I : Inv X pins σ H s) (h : SqL X.K H a xs) : ∃ its : List Value, Vals xs its /\ PlainL s.heap a its.toArray /\ xs.length <= sizeLine := by
 rcases h with h|⟨o, its, n, hk, hc, hd, hs, hz, r⟩
 ·obtain ⟨z, its, n, r, e⟩ := h.ok I.hok;exact ⟨its, r, ⟨_, n, e, rfl, rfl, rfl⟩, z⟩
 ·refine ⟨its.toList, r, ⟨o, n, I.kIn a o hk, hc, hd, by simpa using hs⟩, ?_⟩;have e := r.length;simp only [Array.length_toList] at e
  lia
theorem Inv.tuple (I : Inv X pins σ H s) (h : SqT X.K H a xs) : ∃ its : List Value, Vals xs its /\ IsTup s.heap a its.toArray /\ xs.length <= sizeLine := by
 rcases h with h|⟨o, its, n, hk, hc, hs, hz, r⟩
 ·obtain ⟨z, its, r, p⟩ := h.ok I.hok;exact ⟨its, r, p, z⟩
 ·refine ⟨its.toList, r, ⟨o, I.kIn a o hk, hc, n, by simpa using hs⟩, ?_⟩;have e := r.length;simp only [Array.length_toList] at e
  lia
theorem Inv.list_inj (I : Inv X pins σ H s) (h : SqL X.K H a xs) (h' : SqL X.K H a ys) : xs = ys := by
 obtain ⟨its, r, ⟨o, n, e, _, _, d⟩, _⟩ := I.list h;obtain ⟨its', r', ⟨o', n', e', _, _, d'⟩, _⟩ := I.list h';rw [e] at e';cases e';rw [d] at d';injection d' with d1 _
 have : its = its' := by simpa using congrArg Array.toList d1
 subst this;exact r.inj r'
theorem Inv.tuple_inj (I : Inv X pins σ H s) (h : SqT X.K H a xs) (h' : SqT X.K H a ys) : xs = ys := by
 obtain ⟨its, r, ⟨o, e, _, n, d⟩, _⟩ := I.tuple h;obtain ⟨its', r', ⟨o', e', _, n', d'⟩, _⟩ := I.tuple h';rw [e] at e';cases e';rw [d] at d';injection d' with d1 _
 have : its = its' := by simpa using congrArg Array.toList d1
 subst this;exact r.inj r'
end
abbrev Cx.wish (X : Cx) (E : Value -> Shared -> Prop) : Cx := { X with xe := E }
abbrev Cx.nox (X : Cx) : Cx := X.wish λ _ _ => False
theorem Cx.Ok.wish {X : Cx} (ok : X.Ok) (E : Value -> Shared -> Prop) : (X.wish E).Ok :=
 ⟨ok.mod, ok.kind, ok.glob, ok.blt, ok.above, ok.inj, ok.has, ok.cab, ok.hd, ok.frames, ok.stk, ok.exf, ok.bs, ok.bsz, ok.noex, ok.exfs, ok.funs, ok.frf⟩
theorem Cx.Ok.unwish {X : Cx} {E : Value -> Shared -> Prop} (ok : (X.wish E).Ok) : X.Ok :=
 ⟨ok.mod, ok.kind, ok.glob, ok.blt, ok.above, ok.inj, ok.has, ok.cab, ok.hd, ok.frames, ok.stk, ok.exf, ok.bs, ok.bsz, ok.noex, ok.exfs, ok.funs, ok.frf⟩
section
variable {X : Cx} {pins : List (Addr × Obj)} {σ : St} {H : Hp} {s : Shared} {E : Value -> Shared -> Prop}
theorem Inv.wish (I : Inv X pins σ H s) (E : Value -> Shared -> Prop) : Inv (X.wish E) pins σ H s := ⟨I.ok.wish E, I.os, I.bare, I.base, I.loc, I.cell, I.free, I.freeC, I.pin, I.hok, I.len⟩
theorem Inv.unwish (I : Inv (X.wish E) pins σ H s) : Inv X pins σ H s := ⟨I.ok.unwish, I.os, I.bare, I.base, I.loc, I.cell, I.free, I.freeC, I.pin, I.hok, I.len⟩
theorem SP.unwish {D : Ends} {f : Flow} {s' : Shared} (h : SP (X.wish E) pins D f s') : SP X pins D f s' := by
 cases f with
 | next => obtain ⟨σ', H', I, q⟩ := h;exact ⟨σ', H', I.unwish, q⟩
 | brk => obtain ⟨σ', H', I, q⟩ := h;exact ⟨σ', H', I.unwish, q⟩
 | cont => obtain ⟨σ', H', I, q⟩ := h;exact ⟨σ', H', I.unwish, q⟩
 | ret u => obtain ⟨v, σ', H', I, r, q⟩ := h;exact ⟨v, σ', H', I.unwish, r, q⟩
theorem PE.nox {e : Expr} {t : TE} (h : PE X.nox e t) : PE X e t := λ pins s σ H Q I hw =>
 wpAny_mono (h pins s σ H Q (I.wish _) hw) (λ _ _ ⟨v, H', I', r, q⟩ => ⟨v, H', I'.unwish, r, q⟩) λ _ _ z => False.elim z
theorem PT.nox {e : Expr} {t : TT} (h : PT X.nox e t) : PT X e t := λ pins s σ H Q I hw =>
 wpAny_mono (h pins s σ H Q (I.wish _) hw) (λ _ _ ⟨H', I', q⟩ => ⟨H', I'.unwish, q⟩) λ _ _ z => False.elim z
theorem PSs.nox {st : List Stmt} {t : TS} (h : PSs X.nox st t) : PSs X st t := λ pins s σ H D I hw =>
 wpAny_mono (h pins s σ H D (I.wish _) hw) (λ _ _ q => q.unwish) λ _ _ z => False.elim z
end
section
variable {X : Cx} {st : Stmt} {rest : List Stmt} {t u : TS} {e : Expr} {te : TE} {pos : Pos}
def tNext : TS := λ D σ H => D.nx σ H
def tSeq (t u : TS) : TS := λ D σ H => t { D with nx := u D } σ H
theorem zp : PSs X [] tNext := λ _ _ σ H _ I h => wpAny_execs_nil ⟨σ, H, I, h⟩
theorem zH (h1 : PS X st t) (h2 : PSs X rest u) : PSs X (st :: rest) (tSeq t u) := by
 intro pins s σ H D I h;refine wpAny_execs_cons (thn (h1 pins s σ H { D with nx := u D } I h) λ f s1 q => ?_);cases f with
 | next =>
  obtain ⟨σ', H', I', q⟩ := q;exact h2 pins s1 σ' H' D I' q
 | ret v => exact q
 | brk => exact q
 | cont => exact q
theorem zh (h1 : PS X st t) : PSs X [st] t := by
 intro pins s σ H D I h;refine wpAny_execs_cons (thn (h1 pins s σ H D I h) λ f s1 q => ?_);cases f with
 | next => exact wpAny_execs_nil q
 | ret v => exact q
 | brk => exact q
 | cont => exact q
theorem Inv.quiet {pins : List (Addr × Obj)} {σ : St} {H : Hp} {s : Shared} (I : Inv X pins σ H s) : interactive X.env = false := by simp [interactive, I.ok.kind]
def tDrop (te : TE) : TS := λ D σ H => te σ H λ _ H1 => D.nx σ H1
theorem zw (he : PE X e te) (hs : swapsWith e none pos.line X.env = pure false := by rfl) : PS X (.Expr e pos) (tDrop te) := by
 intro pins s σ H D I h;exact wpAny_Expr_any (qQ (he pins s σ H _ I h) λ v s1 x H1 I1 r1 q1 => ⟨σ, H1, I1, q1⟩) I.quiet hs
def tRet (te : TE) : TS := λ D σ H => te σ H D.rt
theorem zu (he : PE X e te) : PS X (.Return (some e) pos) (tRet te) := by
 intro pins s σ H D I h;exact wpAny_Return_some (qQ (he pins s σ H _ I h) λ v s1 x H1 I1 r1 q1 => ⟨x, σ, H1, I1, r1, q1⟩)
def tIfS (c : TT) (t u : TS) : TS := λ D σ H => c σ H λ b H1 => if b = true then t D σ H1 else u D σ H1
theorem zC {c : Expr} {a b : List Stmt} {tc : TT} (hc : PT X c tc) (ha : PSs X a t) (hb : PSs X b u) : PS X (.If c a b pos) (tIfS tc t u) := by
 intro pins s σ H D I h;refine wpAny_If (thn (hc pins s σ H _ I h) λ d s1 ⟨H1, I1, q1⟩ => ?_);cases d with
 | true => exact ha pins s1 σ H1 D I1 q1
 | false => exact hb pins s1 σ H1 D I1 q1
end
abbrev TG := V -> St -> Hp -> (St -> Hp -> Prop) -> Prop
abbrev TGs := List V -> St -> Hp -> (St -> Hp -> Prop) -> Prop
def PG (X : Cx) (target : Expr) (t : TG) : Prop :=
 ∀ (pins : List (Addr × Obj)) (s : Shared) (σ : St) (H : Hp) (v : V) (u : Value) (Q : St -> Hp -> Prop), Inv X pins σ H s -> RelV v u -> t v σ H Q ->
  wpAny (model X.prog X.w) X.A (assign target X.env u) (λ _ s' => ∃ σ' H', Inv X pins σ' H' s' /\ Q σ' H') X.xe s
def PGs (X : Cx) (ts : List Expr) (t : TGs) : Prop :=
 ∀ (pins : List (Addr × Obj)) (s : Shared) (σ : St) (H : Hp) (vs : List V) (us : List Value) (Q : St -> Hp -> Prop), Inv X pins σ H s -> Vals vs us -> t vs σ H Q ->
  wpAny (model X.prog X.w) X.A (assignInOrder ((assignEach ts X.env).map (·.2)) us) (λ _ s' => ∃ σ' H', Inv X pins σ' H' s' /\ Q σ' H') X.xe s
abbrev zds := V -> V -> V -> Hp -> (Hp -> Prop) -> Prop
def zdV (X : Cx) (t : zds) : Prop :=
 ∀ (pins : List (Addr × Obj)) (s : Shared) (σ : St) (H : Hp) (o i v : V) (ov iv u : Value) (Q : Hp -> Prop), Inv X pins σ H s -> RelV o ov -> RelV i iv -> RelV v u -> t o i v H Q ->
  wpAny (model X.prog X.w) X.A (setItem ov iv u) (λ _ s' => ∃ H', Inv X pins σ H' s' /\ Q H') X.xe s
section
variable {X : Cx} {pos : Pos}
def gName (i : Nat) : TG := λ v σ H Q => Q (σ.set i (some v)) H
theorem zbX {i : Nat} {x : Str} (hN : X.N.Nodup) (hi : X.N[i]? = some x) (hx : Loc X.env.scope x) (hf : X.fn x = true \/ X.env.scope.names.lookup x = some .local := by walk_at "p") : PG X (.Name x pos) (gName i) := by
 intro pins s σ H v u Q I r h;exact wpAny_assign_Name (Zi I hN hi hx r (λ s' I' => ⟨_, H, I', h⟩) hf)
def gNil : TGs := λ vs σ H Q => vs = [] /\ Q σ H
def gCons (t : TG) (u : TGs) : TGs := λ vs σ H Q => ∃ v r, vs = v :: r /\ t v σ H λ σ' H' => u r σ' H' Q
theorem xL : PGs X [] gNil := by
 intro pins s σ H vs us Q I r h;obtain ⟨e, h⟩ := h;subst e;cases r;exact assignInOrder_nil ⟨σ, H, I, h⟩
theorem z8 {e : Expr} {es : List Expr} {t : TG} {u : TGs} (h1 : PG X e t) (h2 : PGs X es u)
  (hs : (assignEach (e :: es) X.env).map (·.2) = assign e X.env :: (assignEach es X.env).map (·.2) := by rfl) : PGs X (e :: es) (gCons t u) := by
 intro pins s σ H vs us Q I r h;obtain ⟨v, vr, e1, h⟩ := h;subst e1;cases r with
 | cons r rr =>
  rw [hs];refine assignInOrder_cons (thn (h1 pins s σ H _ _ _ I r h) λ _ s1 ⟨σ1, H1, I1, q1⟩ => ?_);exact h2 pins s1 σ1 H1 _ _ Q I1 rr q1
def gTup (K : PySem.W.Frag) (n : Nat) (t : TGs) : TG := λ v σ H Q => ∃ a xs, v = .ref a /\ SqT K H a xs /\ xs.length = n /\ t xs σ H Q
theorem ve {es : List Expr} {k : Nat} {t : TGs} {n : Nat} (hc : X.calm = true) (h : PGs X es t)
  (hn : (assignEach es X.env).length = n := by rfl) (hst : (assignEach es X.env).findIdx? (·.1) = none := by rfl) : PG X (.Tuple es k pos) (gTup X.K n t) := by
 intro pins s σ H v u Q I r hw;obtain ⟨a, xs, e1, hq, hl, hw⟩ := hw;subst e1;cases r;obtain ⟨its, rv, ht, hz⟩ := I.tuple hq;refine assign_Tuple_tuple (I.ok.hd hc) ht (by simp [hn, <- hl, rv.length]) hst λ h' hx => ?_;have I1 : Inv X pins σ H { s with heap := h' } := I.kept (t' := s.toks) λ b o e => hx b o (Nat.ne_of_lt (Heap.lt_size e)) e;exact h pins _ σ H xs _ Q I1 (by simpa using rv) hw
def gSub (to ti : TE) (t : zds) : TG := λ v σ H Q => to σ H λ o H1 => ti σ H1 λ i H2 => t o i v H2 λ H3 => Q σ H3
theorem Jl {o i : Expr} {to ti : TE} {t : zds} (ho : PE X o to) (hi : PE X i ti) (hs : zdV X t)
  (ha : ∀ v, assign (.Subscript o i pos) X.env v = (do
   let ov <- holding [v] (eval o X.env)
   let iv <- holding [v, ov] (eval i X.env)
   standAt pos
   holding [v, ov, iv] (setItem ov iv v)
   release [v, ov, iv] []) := by intro _;rfl) : PG X (.Subscript o i pos) (gSub to ti t) := by
 intro pins s σ H v u Q I r h;rw [ha];refine wpAny_bind (wpAny_holding (qQ (ho pins s σ H _ I h) λ ov s1 x H1 I1 r1 q1 => ?_));refine wpAny_bind (wpAny_holding (qQ (hi pins s1 σ H1 _ I1 q1) λ iv s2 y H2 I2 r2 q2 => ?_));refine wpAny_bind (wpAny_standAt (wpAny_bind (wpAny_holding (thn (hs pins s2 σ H2 x y v ov iv u _ I2 r1 r2 r q2) λ _ s3 ⟨H3, I3, q3⟩ => ?_))));exact wpAny_release ⟨σ, H3, I3, q3⟩
def tAsg (te : TE) (g : TG) : TS := λ D σ H => te σ H λ x H1 => g x σ H1 D.nx
theorem vd {tg e : Expr} {te : TE} {g : TG} (he : PE X e te) (hg : PG X tg g) (hs : swapsWithSole [tg] e pos.line X.env = pure false := by rfl) (hw : swappedStores [tg] e X.env = pure none := by rfl)
  (h1 : (assignEach [tg] X.env).map (·.2) = [assign tg X.env] := by rfl) : PS X (.Assign [tg] e pos) (tAsg te g) := by
 intro pins s σ H D I h;refine wpAny_Assign_stores (qQ (he pins s σ H _ I h) λ v s1 x H1 I1 r1 q1 => ?_) hs hw;rw [h1];exact thn (hg pins s1 σ H1 x v _ I1 r1 q1) λ _ s2 q => q
theorem X6 {i : Nat} {x : Str} {e : Expr} {te : TE} {pos' : Pos} (hN : X.N.Nodup) (hi : X.N[i]? = some x) (hx : Loc X.env.scope x) (he : PE X e te) (hs : swapsWith e (some (.Name x pos')) pos.line X.env = pure false := by rfl) (hf : X.fn x = true \/ X.env.scope.names.lookup x = some .local := by walk_at "p") :
  PS X (.Assign [.Name x pos'] e pos) (tAsg te (gName i)) := by
 intro pins s σ H D I h;refine wpAny_Assign_Name (qQ (he pins s σ H _ I h) λ v s1 y H1 I1 r1 q1 => ?_) hs;exact Zi I1 hN hi hx r1 (λ s2 I2 => ⟨_, H1, I2, q1⟩) hf
end
section
variable {X : Cx} {pos : Pos}
end
structure It where
 go : Nat -> Hp -> Prop
 yld : Nat -> Hp -> V -> Hp -> Prop
 stop : Nat -> Hp -> Prop
def vp (X : Cx) (pins : List (Addr × Obj)) (H : Hp) (b : Addr) : Prop :=
 H b = none /\ b ≠ X.env.locals /\ b ∉ X.fs /\ (b ∈ X.ex \/ X.s₀.heap.objs.size <= b) /\ (∀ x c, X.env.cells.lookup x = some c -> c ≠ b) /\ ∀ p ∈ X.pn ++ pins, p.1 ≠ b
theorem Inv.fpOk {X : Cx} {pins : List (Addr × Obj)} {σ : St} {H H' : Hp} {s : Shared} {b : Addr} (I : Inv X pins σ H s) (hb : s.heap.objs.size <= b) (hn : H' b = none) : vp X pins H' b := by
 refine ⟨hn, Nat.ne_of_gt (Nat.lt_of_lt_of_le I.lt hb), I.nofs hb, .inr (Nat.le_trans I.sz hb), λ x c e z => ?_, λ p hp z => ?_⟩
 ·obtain ⟨v, q⟩ := I.cell x c e;exact absurd (Nat.lt_of_lt_of_le q.lt (by rw [z];exact hb)) (Nat.lt_irrefl _)
 ·exact absurd (Nat.lt_of_lt_of_le (Heap.lt_size (I.pin p hp).1) (by rw [z];exact hb)) (Nat.lt_irrefl _)
structure Turn (P : Program) (w : World) (K : PySem.W.Frag) (tg : Expr) (J : It) (fp : List Addr) (it : Addr) (tn : Nat -> Heap -> Prop) : Prop where
 mem : it ∈ fp
 obj : ∀ i h, tn i h -> ∀ b ∈ fp, ∃ o, h.get? b = some o /\ ∀ v, o.data ≠ .cell v
 keep : ∀ i h h', tn i h -> (∀ b ∈ fp, ∀ o, h.get? b = some o -> h'.get? b = some o) -> tn i h'
 item : ∀ (X : Cx), X.prog = P -> X.w = w -> X.K = K -> X.calm = true -> ∀ (i : Nat) (pins : List (Addr × Obj)) (s : Shared) (σ : St) (H : Hp) (E : Value -> Shared -> Prop), Inv X pins σ H s -> (∀ b ∈ fp, vp X pins H b) -> tn i s.heap -> J.go i H ->
  wpAny (model P w) X.A (pyNext (.ref it)) (λ r s1 => ∃ u, r = some u /\
   wpAny (model P w) X.A (letOwnedTupleGo tg (.ref it) u) (λ _ s2 => ∃ x H', Inv X pins σ H' s2 /\ RelV x u /\ J.yld i H x H' /\ tn (i + 1) s2.heap /\ ∀ b ∈ fp, H' b = none) E s1) E s
 done : ∀ (X : Cx), X.prog = P -> X.w = w -> X.K = K -> X.calm = true -> ∀ (i : Nat) (pins : List (Addr × Obj)) (s : Shared) (σ : St) (H : Hp) (E : Value -> Shared -> Prop), Inv X pins σ H s -> (∀ b ∈ fp, vp X pins H b) -> tn i s.heap -> J.stop i H ->
  wpAny (model P w) X.A (pyNext (.ref it)) (λ r s1 => r = none /\ Inv X pins σ H s1) E s
 self : ∀ (A : Around) (i : Nat) (s : Shared) (Q : Value -> Shared -> Prop) (E : Value -> Shared -> Prop), tn i s.heap -> Q (.ref it) s -> wpAny (model P w) A (pyIter (.ref it)) Q E s
abbrev TI := St -> Hp -> (It -> Hp -> Prop) -> Prop
def PIE (X : Cx) (pins : List (Addr × Obj)) (σ : St) (tg : Expr) (R : It -> Hp -> Prop) (itv : Value) (s2 : Shared) : Prop :=
 ∃ (it : Addr) (fp : List Addr) (tn : Nat -> Heap -> Prop) (J : It) (H' : Hp), itv = .ref it /\ Inv X pins σ H' s2 /\ Turn X.prog X.w X.K tg J fp it tn /\ tn 0 s2.heap /\ (∀ b ∈ fp, vp X pins H' b) /\ R J H'
def PI (X : Cx) (tg iter : Expr) (wi : TI) : Prop :=
 ∀ (pins : List (Addr × Obj)) (s : Shared) (σ : St) (H : Hp) (R : It -> Hp -> Prop), Inv X pins σ H s -> wi σ H R ->
  wpAny (model X.prog X.w) X.A (eval iter X.env) (λ v s1 => wpAny (model X.prog X.w) X.A (pyIter v) (PIE X pins σ tg R) X.xe s1) X.xe s
theorem Vl {M : Model} {A : Around} {E : Value -> Shared -> Prop} {s : Shared} {tg : Expr} {it : Addr} {u : Value} {o : Obj} {n : String} {vs : Array Value} {Q : Unit -> Shared -> Prop} (ho : s.heap.get? it = some o) (hc : o.cls = .type n) (hd : o.data = .fields vs)
  (hn : ["enumerate", "zip", "dict_itemiterator", "dict_reverseitemiterator", "odict_iterator", "itertools.zip_longest", "itertools.pairwise"].contains n = false) (hQ : Q () s) : wpAny M A (letOwnedTupleGo tg (.ref it) u) Q E s := by
 unfold letOwnedTupleGo;cases tg <;> first
  | exact wpAny_pure hQ
  | (cases u <;> first
    | exact wpAny_pure hQ
    | (refine wpAny_bind (wpAny_load ho ?_)
       rw [hc, hd];show wpAny M A (if (["enumerate", "zip", "dict_itemiterator", "dict_reverseitemiterator", "odict_iterator", "itertools.zip_longest", "itertools.pairwise"].contains n && vs[0]? == some (rawInt _)) = true then _ else _) Q E s
       rw [if_neg (by intro h;rw [hn, Bool.false_and] at h;cases h)];exact wpAny_pure hQ))
def Itl (K : PySem.W.Frag) (a : Addr) : It :=
 ⟨λ i H => ∃ xs x, SqL K H a xs /\ xs[i]? = some x, λ i H x H' => H' = H /\ ∀ xs, SqL K H a xs -> xs[i]? = some x, λ i H => ∃ xs, SqL K H a xs /\ xs.length <= i⟩
def Itt (K : PySem.W.Frag) (a : Addr) : It :=
 ⟨λ i H => ∃ xs x, SqT K H a xs /\ xs[i]? = some x, λ i H x H' => H' = H /\ ∀ xs, SqT K H a xs -> xs[i]? = some x, λ i H => ∃ xs, SqT K H a xs /\ xs.length <= i⟩
def Itr (lo : Int) (n : Nat) : It := ⟨λ i _ => i < n, λ i H x H' => H' = H /\ x = .int (lo + i), λ i _ => n <= i⟩
theorem VD {P : Program} {w : World} {K : PySem.W.Frag} {tg : Expr} (a it : Addr) : Turn P w K tg (Itl K a) [it] it (λ i h => h.IsListIter it a i) where
 mem := by simp
 obj := λ i h st b hb => by
  have e : b = it := by simpa using hb
  subst e;obtain ⟨o, e, c, d⟩ := st;exact ⟨o, e, λ v z => by rw [d] at z;cases z⟩
 keep := λ i h h' st k => st.at λ o e => k it (by simp) o e
 item := by
  intro X hP hw hK hc i pins s σ H E I hf st hg;subst hP hw hK;obtain ⟨xs, x, hq, hx⟩ := hg;obtain ⟨its, rv, p, hz⟩ := I.list hq;obtain ⟨u, hu, ru⟩ := rv.get hx;obtain ⟨f0, f1, f2, f3, f4, f5⟩ := hf it (by simp);refine wpAny_pyNext_list_item st p.isList (x := u) (by simpa using hu) λ h' st' sb => ?_;have I1 : Inv X pins σ H { s with heap := h' } := I.turned (t' := s.toks) (λ b o hb e => (sb.2 b hb).trans e) f0 f1 f3 f4 f5;obtain ⟨o, e, c, d⟩ := id st';exact ⟨u, rfl, Vl (s := { s with heap := h' }) e c d (by decide) ⟨x, H, I1, ru, ⟨rfl, λ ys hy => by rw [I.list_inj hy hq];exact hx⟩, st', λ b hb => (hf b hb).1⟩⟩
 done := by
  intro X hP hw hK hc i pins s σ H E I hf st hg;subst hP hw hK;obtain ⟨xs, hq, hx⟩ := hg;obtain ⟨its, rv, p, hz⟩ := I.list hq;obtain ⟨f0, f1, f2, f3, f4, f5⟩ := hf it (by simp);have hl := rv.length;exact wpAny_pyNext_list_end (I.ok.hd hc) st p.isList (by simp;lia) λ h' eb => ⟨rfl, I.turned (t' := s.toks) (λ b o hb e => eb b o hb e) f0 f1 f3 f4 f5⟩
 self := λ _ _ _ _ _ st h => wpAny_pyIter_listiter st h
theorem XU {P : Program} {w : World} {K : PySem.W.Frag} {tg : Expr} (a it : Addr) : Turn P w K tg (Itt K a) [it] it (λ i h => h.IsTupleIter it a i) where
 mem := by simp
 obj := λ i h st b hb => by
  have e : b = it := by simpa using hb
  subst e;obtain ⟨o, e, c, d⟩ := st;exact ⟨o, e, λ v z => by rw [d] at z;cases z⟩
 keep := λ i h h' st k => st.at λ o e => k it (by simp) o e
 item := by
  intro X hP hw hK hc i pins s σ H E I hf st hg;subst hP hw hK;obtain ⟨xs, x, hq, hx⟩ := hg;obtain ⟨its, rv, p, hz⟩ := I.tuple hq;obtain ⟨u, hu, ru⟩ := rv.get hx;obtain ⟨f0, f1, f2, f3, f4, f5⟩ := hf it (by simp);refine wpAny_pyNext_tuple_item st (show s.heap.IsTuple a its.toArray from p) (x := u) (by simpa using hu) λ h' st' sb => ?_;have I1 : Inv X pins σ H { s with heap := h' } := I.turned (t' := s.toks) (λ b o hb e => (sb.2 b hb).trans e) f0 f1 f3 f4 f5;obtain ⟨o, e, c, d⟩ := id st';exact ⟨u, rfl, Vl (s := { s with heap := h' }) e c d (by decide) ⟨x, H, I1, ru, ⟨rfl, λ ys hy => by rw [I.tuple_inj hy hq];exact hx⟩, st', λ b hb => (hf b hb).1⟩⟩
 done := by
  intro X hP hw hK hc i pins s σ H E I hf st hg;subst hP hw hK;obtain ⟨xs, hq, hx⟩ := hg;obtain ⟨its, rv, p, hz⟩ := I.tuple hq;obtain ⟨f0, f1, f2, f3, f4, f5⟩ := hf it (by simp);have hl := rv.length;exact wpAny_pyNext_tuple_end (I.ok.hd hc) st (show s.heap.IsTuple a its.toArray from p) (by simp;lia) λ h' eb => ⟨rfl, I.turned (t' := s.toks) (λ b o hb e => eb b o hb e) f0 f1 f3 f4 f5⟩
 self := λ _ _ _ _ _ st h => wpAny_pyIter_tupleiter st h
theorem XV {P : Program} {w : World} {K : PySem.W.Frag} {tg : Expr} (it : Addr) (lo : Int) (n : Nat) : Turn P w K tg (Itr lo n) [it] it (λ i h => IsRangeIter h it (lo + (i : Nat) * 1) ((n : Int) - (i : Nat)) 1) where
 mem := by simp
 obj := λ i h st b hb => by
  have e : b = it := by simpa using hb
  subst e;exact ⟨_, st, λ v z => by
   have z' : Data.fields _ = Data.cell v := z;cases z'⟩
 keep := λ i h h' st k => k it (by simp) _ st
 item := by
  intro X hP hw hK hc i pins s σ H E I hf st hg;subst hP hw hK;obtain ⟨f0, f1, f2, f3, f4, f5⟩ := hf it (by simp);have W := Walks.range (prog := X.prog) (w := X.w) (I.ok.hd hc) it lo 1 n;refine W.item i s _ _ hg st λ v h' tk hv st' kk => ?_;obtain ⟨t, rfl⟩ := hv;have I1 : Inv X pins σ H { s with heap := h', toks := tk } := I.turned (λ b o hb e => kk b o (by simpa using hb) e) f0 f1 f3 f4 f5;refine ⟨_, rfl, Vl (s := { s with heap := h', toks := tk }) (n := "range_iterator") st' rfl rfl (by decide) ⟨.int (lo + i), H, I1, ⟨t, ?_⟩, ⟨rfl, rfl⟩, st', λ b hb => (hf b hb).1⟩⟩;rw [Int.mul_one]
 done := by
  intro X hP hw hK hc i pins s σ H E I hf st hg;subst hP hw hK;obtain ⟨f0, f1, f2, f3, f4, f5⟩ := hf it (by simp);exact wpAny_pyNext_range_end (I.ok.hd hc) st (by have : n <= i := hg;lia) λ h' eb => ⟨rfl, I.turned (t' := s.toks) (λ b o hb e => eb b o hb e) f0 f1 f3 f4 f5⟩
 self := λ _ _ _ _ _ st h => wpAny_pyIter_rangeiter st h
end L2
namespace L2
open PySem PySem.Spec PyProof.Rows
section
variable {X : Cx} {tg : Expr}
theorem zaF {pins : List (Addr × Obj)} {σ : St} {H : Hp} {s : Shared} {R : It -> Hp -> Prop} {E : Value -> Shared -> Prop} {lo hi : Int} {t u v : Tok} {tk : Nat} (I : Inv X pins σ H s) (h1 : -(2 ^ 62) <= lo) (h2 : lo < 2 ^ 62) (h3 : -(2 ^ 62) <= hi) (h4 : hi < 2 ^ 62)
  (q : R (Itr lo (hi - lo).toNat) H) : wpAny (model X.prog X.w) X.A (pyIter (.ref s.heap.objs.size)) (PIE X pins σ tg R) E { s with heap := s.heap.push { cls := .type "range", data := .fields #[.int lo t, .int hi u, .int 1 v] }, toks := tk } := by
 refine wpAny_pyIter_range (IsRange.new ..) (small_one h1 h2 h3 h4) ?_;have I1 : Inv X pins σ H { s with heap := s.heap.push { cls := .type "range", data := .fields #[.int lo t, .int hi u, .int 1 v] }, toks := tk } := I.kept λ b o e => Heap.get?_push_of_some _ e;refine ⟨(s.heap.push { cls := .type "range", data := .fields #[.int lo t, .int hi u, .int 1 v] }).objs.size, [(s.heap.push { cls := .type "range", data := .fields #[.int lo t, .int hi u, .int 1 v] }).objs.size], _, _, H, rfl,
  I1.kept (t' := tk) λ b o e => Heap.get?_push_of_some _ e, XV _ lo (hi - lo).toNat, ?_, λ b hb => ?_, q⟩
 ·have e1 : lo + ((0 : Nat) : Int) * 1 = lo := by simp
  have e2 : (((hi - lo).toNat : Nat) : Int) - ((0 : Nat) : Int) = Builtin.Range.rangeSize lo hi 1 := by rw [rangeSize_one];split <;> lia
  show IsRangeIter _ _ (lo + ((0 : Nat) : Int) * 1) ((((hi - lo).toNat : Nat) : Int) - ((0 : Nat) : Int)) 1
  rw [e1, e2];exact Heap.get?_push_size _ rfl
 ·have e : b = (s.heap.push { cls := .type "range", data := .fields #[.int lo t, .int hi u, .int 1 v] }).objs.size := by simpa using hb
  subst e;exact I1.fpOk (Nat.le_refl _) (I1.hok.fresh (Nat.le_refl _))
def iRng1 (ta : TA) : TI := λ σ H R => ta σ H λ vs H1 => lq vs λ v => iq v λ j => -(2 ^ 62) <= j /\ j < 2 ^ 62 /\ R (Itr 0 j.toNat) H1
theorem VW {a : Expr} {ta : TA} {p pos : Pos} (hg : Gl X "range") (hm : X.mg "range" = none) (ha : PA X [a] ta) (hs : starEach [a] X.env = [(false, eval a X.env)] := by rfl) : PI X tg (.Call (.Name "range" p) [a] [] pos) (iRng1 ta) := by
 intro pins s σ H R I h;refine Call_ (vk I hg hm boot_range (PyProof.Rows.callWith_type1 (wr (ha pos pins s σ H _ I h) λ us s1 vs H1 I1 r1 q1 => ?_) hs rfl));obtain ⟨v, e, q0⟩ := za5 q1;clear q1;obtain ⟨j, e2, q1, q2, q⟩ := wO q0;subst e2;subst e;cases r1 with
 | cons r rr =>
  cases rr;obtain ⟨t, rfl⟩ := r;exact call_range_1 (zaF I1 (by lia) (by lia) q1 q2 (by simpa using q))
def tFor (wi : TI) (g : TG) (tb : TS) : TS := λ D σ H => wi σ H λ J H1 => ∃ W : Nat -> Nat -> St -> Hp -> Prop, (∃ m, W 0 m σ H1) /\ ∀ i m σ H, W i m σ H ->
 (J.stop i H /\ D.nx σ H) \/ (J.go i H /\ ∃ N : St -> Hp -> Prop, (∀ σ' H', N σ' H' -> ∃ m', m' < m /\ W (i + 1) m' σ' H') /\ ∀ x H', J.yld i H x H' -> g x σ H' λ σ2 H2 => tb { D with nx := N, ct := N, bk := D.nx } σ2 H2)
def Zz (fp : List Addr) (h : Heap) : List (Addr × Obj) := fp.filterMap λ b => (h.get? b).map λ o => (b, o)
theorem j9 {fp : List Addr} {h : Heap} {b : Addr} {o : Obj} (hb : b ∈ fp) (e : h.get? b = some o) : (b, o) ∈ Zz fp h := List.mem_filterMap.mpr ⟨b, hb, by rw [e];rfl⟩
theorem V4 {fp : List Addr} {h : Heap} {p : Addr × Obj} (hp : p ∈ Zz fp h) : p.1 ∈ fp /\ h.get? p.1 = some p.2 := by
 obtain ⟨b, hb, e⟩ := List.mem_filterMap.mp hp;cases q : h.get? b with
 | none => rw [q] at e;cases e
 | some o =>
  rw [q] at e;have e' : (b, o) = p := Option.some.inj e;subst e';exact ⟨hb, q⟩
theorem Inv.pinned {pins : List (Addr × Obj)} {σ : St} {H : Hp} {s : Shared} {fp : List Addr} (I : Inv X pins σ H s) (hf : ∀ b ∈ fp, vp X pins H b) (ho : ∀ b ∈ fp, ∃ o, s.heap.get? b = some o /\ ∀ v, o.data ≠ .cell v) : Inv X (pins ++ Zz fp s.heap) σ H s :=
 I.pins_of λ p hp => (List.mem_append.mp hp).elim (λ z => I.pin p (mem_append_right _ z)) λ z => by
  obtain ⟨hb, e⟩ := V4 z;obtain ⟨f0, f1, f2, _⟩ := hf p.1 hb;obtain ⟨o, e', d⟩ := ho p.1 hb;rw [e] at e';cases e';exact ⟨e, f0, f1, f2, d⟩
theorem Inv.unpinned {pins pl : List (Addr × Obj)} {σ : St} {H : Hp} {s : Shared} (I : Inv X (pins ++ pl) σ H s) : Inv X pins σ H s := I.pins_of λ p hp => I.pin p (mem_append_right _ (mem_append_left _ hp))
theorem jh {iter : Expr} {body : List Stmt} {wi : TI} {g : TG} {tb : TS} {pos : Pos} (hp : PassesOwn (model X.prog X.w) X.A X.env X.xe) (hc : X.calm = true) (hi : PI X tg iter wi) (hg : PG X tg g) (hb : PSs X body tb)
  (hs : ∀ x, foldedSetIterable iter X.env x = pure x := by intro _;rfl) : PS X (.For tg iter body [] pos) (tFor wi g tb) := by
 intro pins s σ H D I h;refine wpAny_For (thn (hi pins s σ H _ I h) λ v s1 h1 => thn h1 λ itv s2 h2 => ?_) hs;obtain ⟨it, fp, tn, J, H2, e, I2, T, st2, f2, W, ⟨m0, w0⟩, turn⟩ := h2;subst e;have stat : ∀ {H' : Hp}, (∀ b ∈ fp, H' b = none) -> ∀ b ∈ fp, vp X pins H' b := λ hn b hb => ⟨hn b hb, (f2 b hb).2⟩;refine codeAny_forLoop_any (λ n s' => ∃ i σ' H', Inv X pins σ' H' s' /\ tn i s'.heap /\ (∀ b ∈ fp, H' b = none) /\ W i n σ' H') ?_ m0 ⟨0, σ, H2, I2, st2, λ b hb => (f2 b hb).1, w0⟩;rintro n s3 ⟨i, σ3, H3, I3, st3, fr3, w3⟩;rcases turn i n σ3 H3 w3 with ⟨stop, qn⟩|⟨go, N, hN, step⟩
 ·refine wpAny_passesOwn hp (thn (T.done X rfl rfl rfl hc i pins s3 σ3 H3 X.xe I3 (stat fr3) st3 stop) λ r s4 ⟨hr, I4⟩ => ?_);subst hr;exact wpAny_execs_nil ⟨σ3, H3, I4, qn⟩
 ·refine wpAny_passesOwn hp (thn (T.item X rfl rfl rfl hc i pins s3 σ3 H3 X.xe I3 (stat fr3) st3 go) λ r s4 ⟨u, hr, h4⟩ => ?_);subst hr;refine wpAny_passesOwn hp (thn h4 λ _ s5 ⟨x, H5, I5, r5, y5, st5, fr5⟩ => ?_);have I5' := I5.pinned (stat fr5) (T.obj _ _ st5);refine wpAny_passesOwn hp (thn (hg _ s5 σ3 H5 x u _ I5' r5 (step x H5 y5)) λ _ s6 ⟨σ6, H6, I6, q6⟩ => ?_);refine wpAny_passesOwn hp (thn (hb _ s6 σ6 H6 _ I6 q6) λ f s7 q7 => ?_);have again : ∀ {σ7 : St} {H7 : Hp}, Inv X (pins ++ Zz fp s5.heap) σ7 H7 s7 -> N σ7 H7 -> ∃ m, m < n /\ ∃ i σ' H', Inv X pins σ' H' s7 /\ tn i s7.heap /\ (∀ b ∈ fp, H' b = none) /\ W i m σ' H' := λ {σ7 H7} I7 n7 => by
   obtain ⟨m', hm, w7⟩ := hN σ7 H7 n7;refine ⟨m', hm, i + 1, σ7, H7, I7.unpinned, T.keep _ _ _ st5 λ b hb o e => (I7.pin (b, o) (mem_append_right _ (mem_append_right _ (j9 hb e)))).1, λ b hb => ?_, w7⟩;obtain ⟨o, e, d⟩ := T.obj _ _ st5 b hb;exact (I7.pin (b, o) (mem_append_right _ (mem_append_right _ (j9 hb e)))).2.1
  cases f with
  | next => obtain ⟨σ7, H7, I7, n7⟩ := q7;exact again I7 n7
  | cont => obtain ⟨σ7, H7, I7, n7⟩ := q7;exact again I7 n7
  | brk => obtain ⟨σ7, H7, I7, q7⟩ := q7;exact ⟨σ7, H7, I7.unpinned, q7⟩
  | ret v => obtain ⟨x7, σ7, H7, I7, r7, q7⟩ := q7;exact ⟨x7, σ7, H7, I7.unpinned, r7, q7⟩
end
end L2
namespace L2
open PySem PySem.Spec PyProof.Rows
abbrev R2 := V -> V -> Hp -> VK -> Prop
def OpR (X : Cx) (f : Value -> Value -> Sem Value) (r : R2) : Prop :=
 ∀ (pins : List (Addr × Obj)) (s : Shared) (σ : St) (H : Hp) (x y : V) (v u : Value) (Q : VK), Inv X pins σ H s -> RelV x v -> RelV y u -> r x y H Q ->
  wpAny (model X.prog X.w) X.A (f v u) (EP X pins σ Q) X.xe s
def UnR (X : Cx) (f : Value -> Sem Value) (r : V -> Hp -> VK -> Prop) : Prop :=
 ∀ (pins : List (Addr × Obj)) (s : Shared) (σ : St) (H : Hp) (x : V) (v : Value) (Q : VK), Inv X pins σ H s -> RelV x v -> r x H Q ->
  wpAny (model X.prog X.w) X.A (f v) (EP X pins σ Q) X.xe s
def CallR (X : Cx) (f : Value) (r : List V -> Hp -> VK -> Prop) : Prop :=
 ∀ (pins : List (Addr × Obj)) (s : Shared) (σ : St) (H : Hp) (xs : List V) (us : List Value) (Q : VK), Inv X pins σ H s -> Vals xs us -> r xs H Q ->
  wpAny (model X.prog X.w) X.A (call f us) (EP X pins σ Q) X.xe s
def zd5 (X : Cx) (r : V -> Hp -> (Bool -> Hp -> Prop) -> Prop) : Prop :=
 ∀ (pins : List (Addr × Obj)) (s : Shared) (σ : St) (H : Hp) (x : V) (v : Value) (Q : Bool -> Hp -> Prop), Inv X pins σ H s -> RelV x v -> r x H Q ->
  wpAny (model X.prog X.w) X.A (truthy v) (TP X pins σ Q) X.xe s
def tOp (r : R2) (ta tb : TE) : TE := λ σ H Q => ta σ H λ x H1 => tb σ H1 λ y H2 => r x y H2 Q
def tUn (r : V -> Hp -> VK -> Prop) (ta : TE) : TE := λ σ H Q => ta σ H λ x H1 => r x H1 Q
def rI (C : Int -> Int -> Prop) (g : Int -> Int -> V) : R2 := λ x y H Q => iq x λ i => iq y λ j => C i j /\ Q (g i j) H
def rI0 (g : Int -> Int -> V) : R2 := λ x y H Q => iq x λ i => iq y λ j => Q (g i j) H
def rU (g : Int -> V) : V -> Hp -> VK -> Prop := λ x H Q => iq x λ i => Q (g i) H
section
variable {X : Cx} {a b c : Expr} {ta tb tc : TE} {pos : Pos}
theorem zdo (ha : PE X a ta) (hb : PE X b tb) {pins : List (Addr × Obj)} {s : Shared} {σ : St} {H : Hp} {R : V -> V -> Hp -> Prop} (I : Inv X pins σ H s)
  (h : ta σ H λ x H1 => tb σ H1 λ y H2 => R x y H2) {Q : Value -> Shared -> Prop} {f : Value -> Value -> Sem Value}
  (hf : ∀ v u s2 x y H2, Inv X pins σ H2 s2 -> RelV x v -> RelV y u -> R x y H2 -> wpAny (model X.prog X.w) X.A (f v u) Q X.xe s2) :
  wpAny (model X.prog X.w) X.A (eval a X.env) (λ v s₁ => wpAny (model X.prog X.w) X.A (eval b X.env) (λ u s₂ => wpAny (model X.prog X.w) X.A (f v u) Q X.xe s₂) X.xe s₁) X.xe s := by
 refine qQ (ha pins s σ H _ I h) λ v s1 x H1 I1 r1 q1 => ?_;refine qQ (hb pins s1 σ H1 _ I1 q1) λ u s2 y H2 I2 r2 q2 => ?_;exact hf v u s2 x y H2 I2 r1 r2 q2
theorem zj {op : Operator} {r : R2} (ho : OpR X (binaryOp op) r) (ha : PE X a ta) (hb : PE X b tb) : PE X (.BinOp a op b pos) (tOp r ta tb) := by
 intro pins s σ H Q I h;exact wpAny_BinOp (zdo ha hb I h λ v u s2 x y H2 I2 rx ry q => ho pins s2 σ H2 x y v u Q I2 rx ry q)
theorem zdG {op : UnaryOp} {r : V -> Hp -> VK -> Prop} (ho : UnR X (unaryOp op) r) (ha : PE X a ta) : PE X (.UnaryOp op a pos) (tUn r ta) := by
 intro pins s σ H Q I h;exact UnaryOp_ (qQ (ha pins s σ H _ I h) λ v s1 x H1 I1 r1 q1 => ho pins s1 σ H1 x v Q I1 r1 q1)
theorem opI {f : Value -> Value -> Sem Value} {C : Int -> Int -> Prop} {g : Int -> Int -> Int}
  (rule : ∀ (i j : Int) (t u : Tok) (s : Shared) (Q : Value -> Shared -> Prop) (E : Value -> Shared -> Prop), C i j -> Q (.int (g i j) s.toks) { s with toks := s.toks + 1 } -> wpAny (model X.prog X.w) X.A (f (.int i t) (.int j u)) Q E s) :
  OpR X f (rI C λ i j => .int (g i j)) := by
 intro pins s σ H x y v u Q I rx ry h;obtain ⟨i, j, rfl, rfl, hc, q⟩ := Jt h;obtain ⟨t, rfl⟩ := rx;obtain ⟨t', rfl⟩ := ry;exact rule i j t t' s _ _ hc ⟨.int (g i j), H, I.tok _, ⟨_, rfl⟩, q⟩
theorem zdK {f : Value -> Value -> Sem Value} {g : Int -> Int -> Int}
  (rule : ∀ (i j : Int) (t u : Tok) (s : Shared) (Q : Value -> Shared -> Prop) (E : Value -> Shared -> Prop), Q (.int (g i j) s.toks) { s with toks := s.toks + 1 } -> wpAny (model X.prog X.w) X.A (f (.int i t) (.int j u)) Q E s) :
  OpR X f (rI0 λ i j => .int (g i j)) := by
 intro pins s σ H x y v u Q I rx ry h;obtain ⟨i, j, rfl, rfl, q⟩ := Jt h;obtain ⟨t, rfl⟩ := rx;obtain ⟨t', rfl⟩ := ry;exact rule i j t t' s _ _ ⟨.int (g i j), H, I.tok _, ⟨_, rfl⟩, q⟩
theorem zb0 {f : Value -> Value -> Sem Value} {g : Int -> Int -> Bool}
  (rule : ∀ (i j : Int) (t u : Tok) (s : Shared) (Q : Value -> Shared -> Prop) (E : Value -> Shared -> Prop), Q (.bool (g i j)) s -> wpAny (model X.prog X.w) X.A (f (.int i t) (.int j u)) Q E s) :
  OpR X f (rI0 λ i j => .bl (g i j)) := by
 intro pins s σ H x y v u Q I rx ry h;obtain ⟨i, j, rfl, rfl, q⟩ := Jt h;obtain ⟨t, rfl⟩ := rx;obtain ⟨t', rfl⟩ := ry;exact rule i j t t' s _ _ ⟨.bl (g i j), H, I, rfl, q⟩
def zd8 (i j : Int) : Prop := 0 < j /\ j < 1073741824
def zdX (i j : Int) : Prop := 0 <= j /\ j <= 1000000 /\ i.natAbs < 2 ^ 64
def CMul (i j : Int) : Prop := (-(2 ^ 64) < i /\ i < 2 ^ 64) \/ (-(2 ^ 64) < j /\ j < 2 ^ 64)
theorem CMul.ok {i j : Int} (h : CMul i j) : IntMulOk i j := by
 rcases h with ⟨h1, h2⟩|⟨h1, h2⟩
 ·exact .of_left (intBits_le_64 h1 h2)
 ·exact .of_right (intBits_le_64 h1 h2)
theorem op_add : OpR X (binaryOp .Add) (rI0 λ i j => .int (i + j)) := zdK λ _ _ _ _ _ _ _ q => add_int q
theorem qz : OpR X (binaryOp .Sub) (rI0 λ i j => .int (i - j)) := zdK λ _ _ _ _ _ _ _ q => sub_int q
theorem zbY : OpR X (binaryOp .FloorDiv) (rI zd8 λ i j => .int (i / j)) := opI λ i j _ _ _ _ _ hc q => by
 have h1 : (0 : Int) < j := hc.1;have h2 : j < 1073741824 := hc.2;exact floordiv_int (by lia) (by rw [Int.fdiv_eq_ediv_of_nonneg i (by lia)];exact q) (.inl (PyProof.noPylong_small (by lia)))
theorem qu : OpR X (binaryOp .Mod) (rI (λ _ j => 0 < j) λ i j => .int (i % j)) := opI λ i j _ _ _ _ _ hc q => by
 have h1 : (0 : Int) < j := hc;exact mod_int' (by lia) (by rw [Int.fmod_eq_emod_of_nonneg i (by lia)];exact q)
theorem zc2 : OpR X (binaryOp .Pow) (rI zdX λ i j => .int (i ^ j.toNat)) := opI λ _ _ _ _ _ _ _ hc q => pow_int_small hc.1 hc.2.1 hc.2.2 q
theorem unI {f : Value -> Sem Value} {g : Int -> Int}
  (rule : ∀ (i : Int) (t : Tok) (s : Shared) (Q : Value -> Shared -> Prop) (E : Value -> Shared -> Prop), Q (.int (g i) s.toks) { s with toks := s.toks + 1 } -> wpAny (model X.prog X.w) X.A (f (.int i t)) Q E s) :
  UnR X f (rU λ i => .int (g i)) := by
 intro pins s σ H x v Q I rx h;obtain ⟨i, rfl, q⟩ := wO h;obtain ⟨t, rfl⟩ := rx;exact rule i t s _ _ ⟨.int (g i), H, I.tok _, ⟨_, rfl⟩, q⟩
theorem zcF : UnR X (unaryOp .USub) (rU λ i => .int (-i)) := unI λ _ _ _ _ _ q => neg_int q
end
def zdA : V -> V -> Bool
 | .non, .non => true | .non, .int _ => true | .int _, .non => true | .non, .bl _ => true | .bl _, .non => true | .non, .str _ => true | .str _, .non => true
 | .int _, .int _ => true | .bl _, .bl _ => true | .str _, .str _ => true | .byt _, .byt _ => true
 | .int _, .str _ => true | .str _, .int _ => true | .bl _, .str _ => true | .str _, .bl _ => true
 | _, _ => false
def rEq : R2 := λ x y H Q => zdA x y = true /\ Q (.bl (decide (x = y))) H
def rNe : R2 := λ x y H Q => zdA x y = true /\ Q (.bl (!decide (x = y))) H
theorem Vt {i j : Int} : decide (V.int i = V.int j) = (i == j) := by
 rw [Bool.eq_iff_iff];simp
theorem zbt {i j : Bool} : decide (V.bl i = V.bl j) = (i == j) := by
 rw [Bool.eq_iff_iff];simp
theorem Vs {i j : Str} : decide (V.str i = V.str j) = (i == j) := by
 rw [Bool.eq_iff_iff];simp
theorem Vu {i j : Array UInt8} : decide (V.byt i = V.byt j) = (i.toList == j.toList) := by
 rw [Bool.eq_iff_iff];cases i;cases j;simp
section
variable {X : Cx} {a b c : Expr} {ta tb tc : TE} {pos : Pos}
theorem zY {pins : List (Addr × Obj)} {σ : St} {H : Hp} {s : Shared} {Q : VK} {k k' : Bool} (I : Inv X pins σ H s) (q : Q (.bl k) H) (e : k = k') : EP X pins σ Q (.bool k') s := by
 subst e;exact ⟨.bl k, H, I, rfl, q⟩
theorem op_eq : OpR X (compareOp .Eq) rEq := by
 intro pins s σ H x y v u Q I rx ry h;obtain ⟨hs, q⟩ := h;cases x with
 | non =>
  cases rx;cases y with
  | non => cases ry;exact PySem.EqNone.eq_none_none (zY I q (by simp))
  | bl j => cases ry;exact PySem.EqNone.eq_none_bool (zY I q (by simp))
  | int j => obtain ⟨t', rfl⟩ := ry;exact PySem.EqNone.eq_none_int (zY I q (by simp))
  | str j => obtain ⟨t', rfl⟩ := ry;exact PySem.EqNone.eq_none_str (zY I q (by simp))
  | _ => exact absurd (show false = true from hs) Bool.false_ne_true
 | bl i =>
  cases rx;cases y with
  | non => cases ry;exact PySem.EqNone.eq_bool_none (zY I q (by simp))
  | bl j => cases ry;exact eq_bool (zY I q zbt)
  | str j => obtain ⟨t', rfl⟩ := ry;exact PySem.EqMixed.eq_bool_str (zY I q (by simp))
  | _ => exact absurd (show false = true from hs) Bool.false_ne_true
 | int i =>
  obtain ⟨t, rfl⟩ := rx;cases y with
  | non => cases ry;exact PySem.EqNone.eq_int_none (zY I q (by simp))
  | int j => obtain ⟨t', rfl⟩ := ry;exact eq_int (zY I q Vt)
  | str j => obtain ⟨t', rfl⟩ := ry;exact PySem.EqMixed.eq_int_str (zY I q (by simp))
  | _ => exact absurd (show false = true from hs) Bool.false_ne_true
 | str i =>
  obtain ⟨t, rfl⟩ := rx;cases y with
  | non => cases ry;exact PySem.EqNone.eq_str_none (zY I q (by simp))
  | bl j => cases ry;exact PySem.EqMixed.eq_str_bool (zY I q (by simp))
  | int j => obtain ⟨t', rfl⟩ := ry;exact PySem.EqMixed.eq_str_int (zY I q (by simp))
  | str j => obtain ⟨t', rfl⟩ := ry;exact eq_str (zY I q Vs)
  | _ => exact absurd (show false = true from hs) Bool.false_ne_true
 | byt i =>
  obtain ⟨t, rfl⟩ := rx;cases y with
  | byt j => obtain ⟨t', rfl⟩ := ry;exact PySem.W.eq_bytes (zY I q Vu)
  | _ => exact absurd (show false = true from hs) Bool.false_ne_true
 | _ => cases y <;> exact absurd (show false = true from hs) Bool.false_ne_true
theorem op_ne : OpR X (compareOp .NotEq) rNe := by
 intro pins s σ H x y v u Q I rx ry h;obtain ⟨hs, q⟩ := h;cases x with
 | non =>
  cases rx;cases y with
  | non => cases ry;exact PySem.EqNone.ne_none_none (zY I q (by simp))
  | bl j => cases ry;exact PySem.EqNone.ne_none_bool (zY I q (by simp))
  | int j => obtain ⟨t', rfl⟩ := ry;exact PySem.EqNone.ne_none_int (zY I q (by simp))
  | str j => obtain ⟨t', rfl⟩ := ry;exact PySem.EqNone.ne_none_str (zY I q (by simp))
  | _ => exact absurd (show false = true from hs) Bool.false_ne_true
 | bl i =>
  cases rx;cases y with
  | non => cases ry;exact PySem.EqNone.ne_bool_none (zY I q (by simp))
  | bl j => cases ry;exact ne_bool (zY I q (congrArg not zbt))
  | str j => obtain ⟨t', rfl⟩ := ry;exact PySem.EqMixed.ne_bool_str (zY I q (by simp))
  | _ => exact absurd (show false = true from hs) Bool.false_ne_true
 | int i =>
  obtain ⟨t, rfl⟩ := rx;cases y with
  | non => cases ry;exact PySem.EqNone.ne_int_none (zY I q (by simp))
  | int j => obtain ⟨t', rfl⟩ := ry;exact ne_int (zY I q (congrArg not Vt))
  | str j => obtain ⟨t', rfl⟩ := ry;exact PySem.EqMixed.ne_int_str (zY I q (by simp))
  | _ => exact absurd (show false = true from hs) Bool.false_ne_true
 | str i =>
  obtain ⟨t, rfl⟩ := rx;cases y with
  | non => cases ry;exact PySem.EqNone.ne_str_none (zY I q (by simp))
  | bl j => cases ry;exact PySem.EqMixed.ne_str_bool (zY I q (by simp))
  | int j => obtain ⟨t', rfl⟩ := ry;exact PySem.EqMixed.ne_str_int (zY I q (by simp))
  | str j => obtain ⟨t', rfl⟩ := ry;exact ne_str (zY I q (congrArg not Vs))
  | _ => exact absurd (show false = true from hs) Bool.false_ne_true
 | byt i =>
  obtain ⟨t, rfl⟩ := rx;cases y with
  | byt j => obtain ⟨t', rfl⟩ := ry;exact PySem.W.ne_bytes (zY I q (congrArg not Vu))
  | _ => exact absurd (show false = true from hs) Bool.false_ne_true
 | _ => cases y <;> exact absurd (show false = true from hs) Bool.false_ne_true
theorem op_lt : OpR X (compareOp .Lt) (rI0 λ i j => .bl (decide (i < j))) := zb0 λ _ _ _ _ _ _ _ q => lt_int q
theorem op_le : OpR X (compareOp .LtE) (rI0 λ i j => .bl (decide (i <= j))) := zb0 λ _ _ _ _ _ _ _ q => le_int q
theorem op_gt : OpR X (compareOp .Gt) (rI0 λ i j => .bl (decide (j < i))) := zb0 λ _ _ _ _ _ _ _ q => gt_int q
theorem op_ge : OpR X (compareOp .GtE) (rI0 λ i j => .bl (decide (j <= i))) := zb0 λ _ _ _ _ _ _ _ q => ge_int q
theorem V1 : OpR X (compareOp .In) (λ x y H Q => ∃ i j, x = .str i /\ y = .str j /\ Q (.bl (!(Builtin.Str.occurrences j i 0 j.length 1).isEmpty)) H) := by
 intro pins s σ H x y v u Q I rx ry h;obtain ⟨i, j, rfl, rfl, q⟩ := h;obtain ⟨t, rfl⟩ := rx;obtain ⟨t', rfl⟩ := ry;exact in_str (zY I q rfl)
theorem op_isN : OpR X (compareOp .Is) (λ x y H Q => nq y (Q (.bl (decide (x = .non))) H)) := by
 intro pins s σ H x y v u Q I rx ry h;obtain ⟨rfl, q⟩ := zcv h;cases ry;refine is_none_gen (zY I q ?_);cases x <;> first
  | (cases rx;rfl)
  | (obtain ⟨t, rfl⟩ := rx;rfl)
theorem OpR.or {f : Value -> Value -> Sem Value} {r r' : R2} (h : OpR X f r) (h' : OpR X f r') : OpR X f (λ x y H Q => r x y H Q \/ r' x y H Q) := by
 intro pins s σ H x y v u Q I rx ry q;rcases q with q|q
 ·exact h pins s σ H x y v u Q I rx ry q
 ·exact h' pins s σ H x y v u Q I rx ry q
theorem zq (b : Expr) {op : CmpOp} (h : op ≠ .In := by decide) (h2 : op ≠ .NotIn := by decide) : behindInMarks op b = false := by
 have e1 : (op == CmpOp.In) = false := by cases op <;> first|rfl|exact absurd rfl h
 have e2 : (op == CmpOp.NotIn) = false := by cases op <;> first|rfl|exact absurd rfl h2
 cases b <;> simp [behindInMarks, e1, e2]
theorem W9 {op : CmpOp} {r : R2} (ho : OpR X (compareOp op) r) (ha : PE X a ta) (hb : PE X b tb) (hm : behindInMarks op b = false) : PE X (.Compare a [op] [b] pos) (tOp r ta tb) := by
 intro pins s σ H Q I h;exact wpAny_Compare1 (zdo ha hb I h λ v u s2 x y H2 I2 rx ry q => ho pins s2 σ H2 x y v u Q I2 rx ry q) hm
def tTest (t : TE) : TT := λ σ H Q => t σ H λ x H' => bq x λ k => Q k H'
theorem zm {op : CmpOp} {r : R2} (ho : OpR X (compareOp op) r) (ha : PE X a ta) (hb : PE X b tb) (hm : behindInMarks op b = false) : PT X (.Compare a [op] [b] pos) (tTest (tOp r ta tb)) := by
 intro pins s σ H Q I h;refine wpAny_isTrue_Compare1 (qQ (ha pins s σ H _ I h) λ v s1 x H1 I1 r1 q1 => qQ (hb pins s1 σ H1 _ I1 q1) λ u s2 y H2 I2 r2 q2 =>
  thn (ho pins s2 σ H2 x y v u _ I2 r1 r2 q2) λ c s3 ⟨z, H3, I3, r3, q3⟩ => ?_) hm
 obtain ⟨k, e, q3⟩ := QS q3;subst e;cases r3;exact wpAny_truthy_bool ⟨H3, I3, q3⟩
def tChain (r r' : R2) (ta tb tc : TE) : TE := λ σ H Q => ta σ H λ x H1 => tb σ H1 λ y H2 => r x y H2 λ z H3 => bq z λ k =>
 (if k = true then tc σ H3 λ w' H4 => r' y w' H4 Q else Q (.bl false) H3)
theorem qS {op op' : CmpOp} {r r' : R2} (ho : OpR X (compareOp op) r) (ho' : OpR X (compareOp op') r') (ha : PE X a ta) (hb : PE X b tb) (hc : PE X c tc)
  (hm : lastMarks [op, op'] [b, c] = false := by with_unfolding_all rfl) : PT X (.Compare a [op, op'] [b, c] pos) (tTest (tChain r r' ta tb tc)) := by
 intro pins s σ H Q I h;refine isTrue_chain (qQ (ha pins s σ H _ I h) λ v s1 x H1 I1 r1 q1 => test_link (qQ (hb pins s1 σ H1 _ I1 q1) λ u s2 y H2 I2 r2 q2 =>
  thn (ho pins s2 σ H2 x y v u _ I2 r1 r2 q2) λ d s3 ⟨z, H3, I3, r3, q3⟩ => ?_)) hm
 obtain ⟨k, e, q3⟩ := QS q3;subst e;cases r3;refine wpAny_truthy_bool ?_;cases k with
 | false =>
  obtain ⟨k', e', q'⟩ := QS q3;cases e';exact ite_ff ⟨H3, I3, q'⟩
 | true =>
  refine ite_tt (test_last (thn (hc pins s3 σ H3 _ I3 q3) λ w' s4 ⟨z', H4, I4, r4, q4⟩ => thn (ho' pins s4 σ H4 y z' u w' _ I4 r2 r4 q4) λ d' s5 ⟨z2, H5, I5, r5, q5⟩ => ?_));obtain ⟨k2, e2, q5⟩ := QS q5;subst e2;cases r5;exact wpAny_truthy_bool ⟨H5, I5, q5⟩
def zam (K : PySem.W.Frag) (x : V) (H : Hp) (k : Bool) : Prop :=
 match x with
 | .non => k = false
 | .bl b => k = b
 | .int i => k = (i != 0)
 | .str y => y.length <= sizeLine /\ k = ((y.length : Int) != 0)
 | .byt y => y.size <= sizeLine /\ k = ((y.size : Int) != 0)
 | .ref p => (∃ xs, SqL K H p xs /\ k = !xs.isEmpty) \/ (∃ xs, SqT K H p xs /\ k = !xs.isEmpty) \/ ∃ kvs, H p = some (.dK kvs) /\ k = !kvs.isEmpty
 | _ => False
theorem Wq {κ : Type} {kvs : List (κ × V)} {vs : List (κ × Value)} (r : KV kvs vs) : (!vs.isEmpty) = !kvs.isEmpty := by
 cases r <;> rfl
theorem ZU {xs : List V} {its : List Value} (r : Vals xs its) : (!its.toArray.isEmpty) = !xs.isEmpty := by
 cases r <;> simp
theorem vi : (sizeLine : Nat) < 2 ^ 63 := by rw [sizeLine_eq];decide
theorem zcG : zd5 X (λ x H Q => ∃ k, zam X.K x H k /\ Q k H) := by
 intro pins s σ H x v Q I rx h;obtain ⟨k, e, q⟩ := h;have hl := vi;have hs : sizeLine = 16777216 := sizeLine_eq;cases x with
 | non =>
  cases rx;have e' : k = false := e;subst e';exact truthy_none ⟨H, I, q⟩
 | bl b =>
  cases rx;have e' : k = b := e;subst e';exact wpAny_truthy_bool ⟨H, I, q⟩
 | int i =>
  obtain ⟨t, rfl⟩ := rx;have e' : k = (i != 0) := e;subst e';exact PySem.P.truthy_int ⟨H, I, q⟩
 | str y =>
  obtain ⟨t, rfl⟩ := rx;obtain ⟨hy, e'⟩ : y.length <= sizeLine /\ k = ((y.length : Int) != 0) := e;subst e';exact PySem.P.truthy_str (by lia) ⟨H, I.tok _, q⟩
 | byt y =>
  obtain ⟨t, rfl⟩ := rx;obtain ⟨hy, e'⟩ : y.size <= sizeLine /\ k = ((y.size : Int) != 0) := e;subst e';exact PySem.W.truthy_bytes (by lia) ⟨H, I.tok _, q⟩
 | ref p =>
  cases rx;have e' : (∃ xs, SqL X.K H p xs /\ k = !xs.isEmpty) \/ (∃ xs, SqT X.K H p xs /\ k = !xs.isEmpty) \/ ∃ kvs, H p = some (.dK kvs) /\ k = !kvs.isEmpty := e;rcases e' with ⟨xs, hx, e'⟩|⟨xs, hx, e'⟩|⟨kvs, hx, e'⟩
  ·subst e';obtain ⟨its, r, pl, hz⟩ := I.list hx;have hlen := r.length;exact wpAny_truthy_list pl.isList (by simp only [size_toArray];lia) ⟨H, I.tok _, by rw [ZU r];exact q⟩
  ·subst e';obtain ⟨its, r, pl, hz⟩ := I.tuple hx;have hlen := r.length;exact truthy_tuple pl (by simp only [size_toArray];lia) ⟨H, I.tok _, by rw [ZU r];exact q⟩
  ·subst e';obtain ⟨hz, hS, vs, r, m⟩ : kvs.length <= sizeLine /\ (p == sysModules) = false /\ ∃ vs, KV kvs vs /\ s.heap.DictOf (qA X.prog X.w) p vs := I.hok p _ hx;have hlen : kvs.length = vs.length := Paired.length r;exact wpAny_truthy_dict hS m (by lia) ⟨H, I.tok _, by rw [Wq r];exact q⟩
 | _ => exact (show False from e).elim
def trq (K : PySem.W.Frag) (x : V) (H : Hp) (Q : Bool -> Hp -> Prop) : Prop :=
 match x with
 | .bl b => Q b H
 | x => ∃ k, zam K x H k /\ Q k H
theorem zcH {K : PySem.W.Frag} {x : V} {H : Hp} {Q : Bool -> Hp -> Prop} (h : trq K x H Q) : ∃ k, zam K x H k /\ Q k H := by
 cases x <;> first|exact ⟨_, rfl, h⟩|exact h
def tTru (K : PySem.W.Frag) (ta : TE) : TT := λ σ H Q => ta σ H λ x H' => trq K x H' Q
theorem qK (ha : PE X a ta) (he : ∀ whole, isTrue a X.env whole = (do let v <- whole;standAt a.pos;holding [v] (truthy v))) :
  PT X a (tTru X.K ta) := by
 intro pins s σ H Q I h;exact isTrue_plain (qQ (ha pins s σ H _ I h) λ v s1 x H1 I1 r1 q1 => zcG pins s1 σ H1 x v Q I1 r1 (zcH q1)) (he _)
theorem op_add_str : OpR X (binaryOp .Add) (λ x y H Q => ∃ i j, x = .str i /\ y = .str j /\ i.length + j.length <= sizeLine /\ Q (.str (i ++ j)) H) := by
 intro pins s σ H x y v u Q I rx ry h;obtain ⟨i, j, rfl, rfl, hz, q⟩ := h;obtain ⟨t, rfl⟩ := rx;obtain ⟨t', rfl⟩ := ry;exact add_str (λ t' tk => ⟨.str (i ++ j), H, I.tok _, ⟨_, rfl⟩, q⟩) hz
theorem vv {x : V} {us : List Value} (r : Vals [x] us) : ∃ u, us = [u] /\ RelV x u := by
 cases r with
 | cons r1 r2 => cases r2;exact ⟨_, rfl, r1⟩
theorem Jz : CallR X (.type "str") (λ xs H Q => ∃ i, xs = [.int i] /\ i.natAbs.log2 < 1920 /\ Q (.str (toString i)) H) := by
 intro pins s σ H xs us Q I r h;obtain ⟨i, rfl, hz, q⟩ := h;obtain ⟨u, rfl, t, rfl⟩ := vv r;exact PySem.P.str_of_int hz ⟨.str _, H, I.tok _, ⟨_, rfl⟩, q⟩
def zdu (K : PySem.W.Frag) (x : V) (H : Hp) (n : Nat) : Prop :=
 match x with
 | .str y => y.length <= sizeLine /\ n = y.length
 | .byt y => y.size <= sizeLine /\ n = y.size
 | .ref p => (∃ xs, SqL K H p xs /\ n = xs.length) \/ ∃ xs, SqT K H p xs /\ n = xs.length
 | _ => False
theorem zbw : CallR X (.builtin "len") (λ xs H Q => ∃ x n, xs = [x] /\ zdu X.K x H n /\ Q (.int n) H) := by
 intro pins s σ H xs us Q I r h;obtain ⟨x, n, rfl, e, q⟩ := h;obtain ⟨u, rfl, rx⟩ := vv r;have hl := vi;have hs : sizeLine = 16777216 := sizeLine_eq;cases x with
 | str y =>
  obtain ⟨t, rfl⟩ := rx;obtain ⟨hy, e'⟩ : y.length <= sizeLine /\ n = y.length := e;subst e';exact len_str (by lia) ⟨.int _, H, I.tok _, ⟨_, rfl⟩, q⟩
 | byt y =>
  obtain ⟨t, rfl⟩ := rx;obtain ⟨hy, e'⟩ : y.size <= sizeLine /\ n = y.size := e;subst e';exact PySem.W.len_bytes (by lia) ⟨.int _, H, I.tok _, ⟨_, rfl⟩, q⟩
 | ref p =>
  cases rx;have e' : (∃ xs, SqL X.K H p xs /\ n = xs.length) \/ ∃ xs, SqT X.K H p xs /\ n = xs.length := e;rcases e' with ⟨xs, hx, e'⟩|⟨xs, hx, e'⟩
  ·subst e';obtain ⟨its, r', pl, hz⟩ := I.list hx;have hlen := r'.length;exact Calls.call_len_list pl.isList (by simp only [size_toArray];lia) ⟨.int xs.length, H, I.tok _, ⟨_, by simp only [size_toArray];rw [hlen]⟩, q⟩
  ·subst e';obtain ⟨its, r', pl, hz⟩ := I.tuple hx;have hlen := r'.length;exact len_tuple pl (by simp only [size_toArray];lia) ⟨.int xs.length, H, I.tok _, ⟨_, by simp only [size_toArray];rw [hlen]⟩, q⟩
 | _ => exact (show False from e).elim
end
end L2
namespace L2
open PySem PySem.Spec PyProof.Rows
structure ObjM (h : Heap) (x dx C : Addr) (mA : Str -> Option Value) : Prop where
 obj : h.get? x = some (instObj C dx)
 ns : h.Ns1 dx mA
 ne : dx ≠ x
theorem QC {h : Heap} {dx : Addr} {mA : Str -> Option Value} (n : h.Ns1 dx mA) : ∃ od, h.get? dx = some od /\ ∀ name, lookIn name od = some (mA name) := by
 obtain ⟨o, es, ep, ho, hd, hk, _, hm⟩ := n;refine ⟨o, ho, λ name => ?_⟩;have e := hm name;unfold nsFind findBy at e;rw [<- Array.find?_toList] at e;unfold lookIn;rw [hd];dsimp only
 split
 ·rename_i y q;rw [q] at e;exact congrArg some e
 ·rename_i q;rw [q] at e;have a : es.toList.any (·.refKey) = false := by
   rw [List.any_eq_false];intro y hy;obtain ⟨z, t, hkey⟩ := hk y (Array.mem_toList_iff.mp hy);simp [DictEntry.refKey, hkey]
  have a' : ¬ es.toList.any (·.refKey) = true := by rw [a];exact Bool.false_ne_true
  rw [if_neg a'];exact congrArg some e
theorem ObjM.look {h : Heap} {x dx C : Addr} {mA : Str -> Option Value} (I : ObjM h x dx C mA) : ∃ od, InstAt h x (instObj C dx) C (some od) /\ ∀ name, lookIn name od = some (mA name) :=
 let ⟨od, ho, hl⟩ := QC I.ns
 ⟨od, ⟨I.obj, rfl, rfl, ho⟩, hl⟩
section
variable {prog : Program} {w : World} {A : Around} {E : Value -> Shared -> Prop} {s : Shared} {K : PySem.W.Frag} {x dx C f : Addr} {mA : Str -> Option Value} {name : Str} {v : Value}
theorem zca {expr : Bool} {Q : Value -> Shared -> Prop} (X : K.In s.heap) (I : ObjM s.heap x dx C mA) (hg : plainGet K C name = true) (hh : hasDictIn K C = true)
  (ha : findIn K (.ref C) name = some none) (hv : mA name = some v) (hv' : handedIn v = true) (h : Q v { s with toks := s.toks + 1 }) :
  wpAny (model prog w) A (getAttr (.ref x) name expr) Q E s := by
 obtain ⟨od, J, hl⟩ := I.look;exact PySem.W.get_value X J (plainGet_of hg).1 (PySem.W.findObj_own hh ha rfl (by rw [hl, hv])) hv' h
theorem zbm {pl : Sem Bool} {Q : Value × List Value -> Shared -> Prop} (X : K.In s.heap) (I : ObjM s.heap x dx C mA) (hg : plainGet K C name = true)
  (hf : findIn K (.ref C) name = some (some (.ref f))) (ht : isFn K (.ref f) = true) (hv : mA name = none) (h : Q (.ref f, [.ref x]) s) :
  wpAny (model prog w) A (getMethod (.ref x) name pl) Q E s := by
 obtain ⟨od, J, hl⟩ := I.look;exact PySem.W.method_fn X J (plainGet_of hg).1 (plainGet_of hg).2 hf (beq_iff_eq.mp ht) (by show (lookIn name od).map (·.isSome) = some false;rw [hl, hv];rfl) h
theorem zbK {ns : List Str} {Q : Unit -> Shared -> Prop} (X : K.In s.heap) (I : ObjM s.heap x dx C mA)
  (hs : findIn K (.ref C) "__setattr__" = some (some (.builtin "object.__setattr__"))) (hp : PySem.W.plainOver K C = true) (ht : takerIn K C name = some none) (hh : hasDictIn K C = true)
  (hw : PySem.Within mA ns) (hsz : ns.length <= sizeLine)
  (h : ∀ h', ObjM h' x dx C (λ y => if y = name then some v else mA y) -> Heap.SameBut dx s.heap h' -> Q () { s with heap := h', toks := s.toks + 2 }) :
  wpAny (model prog w) A (setAttr (.ref x) name v) Q E s := by
 obtain ⟨od, J, hl⟩ := I.look;refine PySem.W.set_plain X J hs (PySem.W.osa_open (s := { s with toks := s.toks + 1 }) (r := none) X J hp ht λ b => ?_);obtain ⟨cd, hc, hd'⟩ := any_some hh;have hx : s.heap.get? x = some ⟨.ref C, some dx, .plain, #[]⟩ := I.obj;refine wpAny_bind (wpAny_pure (wpAny_bind (wpAny_bind (wpAny_loadPart hx (wpAny_bind (PySem.W.Looks.here (s := { s with toks := s.toks + 1 }) (looks_clsIn X hc) ?_))))));rw [hd'];refine wpAny_pure (a := some dx) (wpAny_bind (wpAny_pure (wpAny_bind ?_)));refine wpAny_nsSet1 (s := { s with toks := s.toks + 1 }) I.ns λ h' hn2 hs2 => ?_;obtain ⟨oD, esD, epD, hoD, hdD, hcD⟩ := hn2.count (PySem.Within.cons name v hw);refine wpAny_bind (wpAny_lookBehind hoD (by rw [hdD];exact pastItsLine_dict (Nat.le_trans hcD (by rw [length_cons];lia))) ?_);exact wpAny_pure (h _ ⟨(hs2.2 _ (Ne.symm I.ne)).trans I.obj, hn2, I.ne⟩ hs2)
theorem Xg {R : Result -> Shared -> Prop} {vs : List Value} {kw : List (Str × Value)} (X : K.In s.heap) (hm : makesIn K C = true)
  (hi : findIn K (.ref C) "__init__" = some (some (.ref f))) (hf : typeIn K (.ref f) = some (.type "function"))
  (h : codeAny (model prog w) (A.under (.builtin "type.__call__" ⟨.ref C :: vs, kw⟩)) (.call (.ref f) ⟨.ref (s.heap.objs.size + 1) :: vs, kw⟩) (PySem.W.InitBack (s.heap.objs.size + 1) R)
   { s with heap := (s.heap.push emptyDict).push (instObj C s.heap.objs.size) }) :
  codeAny (model prog w) A (.call (.ref C) ⟨vs, kw⟩) R s := by
 obtain ⟨hh, g, d, t, os⟩ := s;exact PySem.W.make_core (PySem.W.makes_of X hm) (looks_findIn X hi) (λ self => PySem.W.bind_fn X self hf) (.inl rfl) h
end
def qm (f : Str) (v : V) : List (Str × V) -> List (Str × V)
 | [] => [(f, v)]
 | (g, x) :: r => if g = f then (g, v) :: r else (g, x) :: qm f v r
theorem vG (f g : Str) (v : V) : ∀ fs : List (Str × V), (qm f v fs).lookup g = if g = f then some v else fs.lookup g
 | [] => by
  show List.lookup g [(f, v)] = _
  by_cases h : g = f
  ·have hb : (g == f) = true := beq_iff_eq.mpr h;simp only [List.lookup, hb, if_pos h]
  ·have hb : (g == f) = false := beq_eq_false_iff_ne.mpr h;simp only [List.lookup, hb, if_neg h]
 | (k, x) :: r => by
  have ih := vG f g v r;rw [show qm f v ((k, x) :: r) = (if k = f then (k, v) :: r else (k, x) :: qm f v r) from rfl];by_cases hk : k = f
  ·rw [if_pos hk];by_cases h : g = k
   ·have hb : (g == k) = true := beq_iff_eq.mpr h;simp only [List.lookup, hb, if_pos (h.trans hk)]
   ·have hb : (g == k) = false := beq_eq_false_iff_ne.mpr h;simp only [List.lookup, hb, if_neg (λ e : g = f => h (e.trans hk.symm))]
  ·rw [if_neg hk];by_cases h : g = k
   ·have hb : (g == k) = true := beq_iff_eq.mpr h;simp only [List.lookup, hb, if_neg (λ e : g = f => hk (h.symm.trans e))]
   ·have hb : (g == k) = false := beq_eq_false_iff_ne.mpr h;simp only [List.lookup, hb];exact ih
theorem vm (f : Str) (v : V) : ∀ fs : List (Str × V), f ∈ (qm f v fs).map (·.1) /\ ∀ g, g ∈ fs.map (·.1) -> g ∈ (qm f v fs).map (·.1)
 | [] => ⟨by simp [qm], λ g h => by simp at h⟩
 | (k, x) :: r => by
  obtain ⟨i1, i2⟩ := vm f v r;rw [show qm f v ((k, x) :: r) = (if k = f then (k, v) :: r else (k, x) :: qm f v r) from rfl];by_cases hk : k = f
  ·rw [if_pos hk];subst hk;exact ⟨by simp, λ g h => by simpa using h⟩
  ·rw [if_neg hk];refine ⟨?_, λ g h => ?_⟩
   ·rw [map_cons];exact mem_cons_of_mem _ i1
   ·rw [map_cons] at h ⊢;rcases List.mem_cons.mp h with e|e
    ·exact List.mem_cons.mpr (.inl e)
    ·exact mem_cons_of_mem _ (i2 g e)
theorem jI (f : Str) (v : V) : ∀ fs : List (Str × V), (qm f v fs).length <= fs.length + 1
 | [] => by simp [qm]
 | (k, x) :: r => by
  have ih := jI f v r;rw [show qm f v ((k, x) :: r) = (if k = f then (k, v) :: r else (k, x) :: qm f v r) from rfl];by_cases hk : k = f
  ·rw [if_pos hk, length_cons, length_cons];lia
  ·rw [if_neg hk, length_cons, length_cons];lia
theorem RelO.some_of {v : V} {o : Option Value} (r : RelO (some v) o) : ∃ u, o = some u /\ RelV v u := by
 cases o with
 | none => exact (show False from r).elim
 | some u => exact ⟨u, rfl, r⟩
theorem RelO.none_of {o : Option Value} (r : RelO none o) : o = none := by
 cases o with
 | none => rfl
 | some u => exact (show False from r).elim
theorem QM {v : V} {u : Value} (r : RelV v u) : handedIn u = true := by
 cases v with
 | non => cases (show u = Value.none from r);rfl
 | bl b => cases (show u = Value.bool b from r);rfl
 | int i => obtain ⟨t, e⟩ := (show ∃ t, u = Value.int i t from r);cases e;rfl
 | str x => obtain ⟨t, e⟩ := (show ∃ t, u = Value.str x t from r);cases e;rfl
 | byt b => obtain ⟨t, e⟩ := (show ∃ t, u = Value.bytes b t from r);cases e;rfl
 | flt b => obtain ⟨t, e⟩ := (show ∃ t, u = Value.float b t from r);cases e;rfl
 | ref a => cases (show u = Value.ref a from r);rfl
 | ty n => cases (show u = Value.type n from r);rfl
section
variable {P : Program} {w : World} {H H' : Hp} {h h' : Heap} {a C dx : Addr} {fs fs' : List (Str × V)}
theorem vZ (hok : HOk P w H h) (e : H a = some (.ins C dx fs)) : ∃ mA, ObjM h a dx C mA /\ (∀ f, RelO (fs.lookup f) (mA f)) /\ PySem.Within mA (fs.map (·.1)) /\ fs.length <= 1000 /\ H dx = some (.own a) := by
 obtain ⟨d, z, ne, ob, mA, n, r, q⟩ := (show ObjOk P w H h a (.ins C dx fs) from hok a _ e);exact ⟨mA, ⟨ob, n, ne⟩, r, q, z, d⟩
end
structure Cls (K : PySem.W.Frag) (C : Addr) : Prop where
 pg : plainGet K C Str.empty = true
 hd : hasDictIn K C = true
 po : PySem.W.plainOver K C = true
 sa : findIn K (.ref C) "__setattr__" = some (some (.builtin "object.__setattr__"))
theorem Cls.get {K : PySem.W.Frag} {C : Addr} (c : Cls K C) (f : Str) : plainGet K C f = true := c.pg
def NoAttr (K : PySem.W.Frag) (C : Addr) (f : Str) : Prop := findIn K (.ref C) f = some none
theorem NoAttr.taker {K : PySem.W.Frag} {C : Addr} {f : Str} (n : NoAttr K C f) : takerIn K C f = some none := by
 unfold takerIn;rw [show findIn K (.ref C) f = some none from n]
 rfl
structure Meth (K : PySem.W.Frag) (C : Addr) (m : Str) (f : Addr) : Prop where
 at_ : findIn K (.ref C) m = some (some (.ref f))
 fn : isFn K (.ref f) = true
 kp : keepIn K (.ref f) = true
section
variable {X : Cx} {pins : List (Addr × Obj)} {σ : St} {H : Hp} {s : Shared} {a C dx : Addr} {fs : List (Str × V)} {f : Str} {v : V} {A : Around} {E : Value -> Shared -> Prop}
theorem Ww {b : Bool} {Q : Value -> Shared -> Prop} (I : Inv X pins σ H s) (e : H a = some (.ins C dx fs)) (c : Cls X.K C) (n : NoAttr X.K C f) (l : fs.lookup f = some v)
  (h : ∀ u s', Inv X pins σ H s' -> RelV v u -> Q u s') : wpAny (model X.prog X.w) A (getAttr (.ref a) f b) Q E s := by
 obtain ⟨mA, O, r, _, _, _⟩ := vZ I.hok e;obtain ⟨u, hu, ru⟩ := RelO.some_of (v := v) (o := mA f) (by rw [<- l];exact r f);exact zca I.kIn O (c.get f) c.hd n hu (QM ru) (h u _ (I.tok _) ru)
theorem Wv {m : Str} {g : Addr} {pl : Sem Bool} {Q : Value × List Value -> Shared -> Prop} (I : Inv X pins σ H s) (e : H a = some (.ins C dx fs)) (c : Cls X.K C) (k : Meth X.K C m g) (l : fs.lookup m = none)
  (h : Q (.ref g, [.ref a]) s) : wpAny (model X.prog X.w) A (getMethod (.ref a) m pl) Q E s := by
 obtain ⟨mA, O, r, _, _, _⟩ := vZ I.hok e;have hn : mA m = none := RelO.none_of (by rw [<- l];exact r m);exact zbm I.kIn O (c.get m) k.at_ k.fn hn h
theorem XY {y : V} {u : Value} {Q : Unit -> Shared -> Prop} (I : Inv X pins σ H s) (e : H a = some (.ins C dx fs)) (c : Cls X.K C) (n : NoAttr X.K C f) (hl : fs.length < 1000) (ry : RelV y u)
  (h : ∀ s', Inv X pins σ (upd H a (.ins C dx (qm f y fs))) s' -> Q () s') : wpAny (model X.prog X.w) A (setAttr (.ref a) f u) Q E s := by
 obtain ⟨mA, O, r, wi, _, ho⟩ := vZ I.hok e;have hz : (fs.map (·.1)).length <= sizeLine := by rw [length_map, sizeLine_eq];lia
 refine zbK I.kIn O c.sa c.po n.taker c.hd wi hz λ h' O' sb => h _ ?_;have hd : ∃ o, h'.get? dx = some o := let ⟨o, _, _, e', _⟩ := O'.ns;⟨o, e'⟩
 refine I.write (x := a) (e := dx) (by rw [e];exact True.intro) (.inr ho) (λ b q hb z => (sb.2 b hb).trans z) hd ?_;refine ⟨by rw [upd_ne O.ne];exact ho, ?_, O.ne, O'.obj, _, O'.ns, λ g => ?_, λ g hg => ?_⟩
 ·have := jI f y fs;lia
 ·show RelO ((qm f y fs).lookup g) (if g = f then some u else mA g)
  rw [vG];by_cases q : g = f
  ·rw [if_pos q, if_pos q];exact ry
  ·rw [if_neg q, if_neg q];exact r g
 ·by_cases q : g = f
  ·rw [q];exact (vm f y fs).1
  ·refine (vm f y fs).2 g (wi g λ z => hg ?_);show (if g = f then some u else mA g) = none
   rw [if_neg q];exact z
theorem Inv.made (I : Inv X pins σ H s) : Inv X pins σ (upd (upd H s.heap.objs.size (.own (s.heap.objs.size + 1))) (s.heap.objs.size + 1) (.ins C s.heap.objs.size []))
  { s with heap := (s.heap.push emptyDict).push (instObj C s.heap.objs.size) } := by
 have e1 : (s.heap.push emptyDict).get? s.heap.objs.size = some emptyDict := Heap.get?_push_size s.heap rfl;have e2 : ((s.heap.push emptyDict).push (instObj C s.heap.objs.size)).get? (s.heap.objs.size + 1) = some (instObj C s.heap.objs.size) := by
  have := Heap.get?_push_size (s.heap.push emptyDict) (o := instObj C s.heap.objs.size) rfl
  rwa [Heap.size_push] at this
 have e3 : (s.heap.push emptyDict).Ns s.heap.objs.size (λ _ => none) := ⟨emptyDict, #[], _, e1, rfl, (λ e he => absurd he (by simp)), λ _ => rfl⟩;have I1 := I.laid (a := s.heap.objs.size) (o := .own (s.heap.objs.size + 1)) (h' := s.heap.push emptyDict) (t' := s.toks) (λ b u q => Heap.get?_push_of_some _ q) (Nat.le_refl _) ⟨_, e1⟩;refine I1.laid (a := s.heap.objs.size + 1) (o := .ins C s.heap.objs.size []) (t' := s.toks) (λ b u q => Heap.get?_push_of_some _ q) (Nat.le_of_eq (Heap.size_push _ _)) ?_;have ne : s.heap.objs.size ≠ s.heap.objs.size + 1 := Nat.ne_of_lt (Nat.lt_succ_self _);refine ⟨by rw [upd_ne ne, upd_same], Nat.zero_le _, ne, e2, λ _ => none, (Heap.Ns1.of_empty e3).at λ o q => Heap.get?_push_of_some _ q, λ _ => True.intro, λ y hy => absurd rfl hy⟩
theorem VB {prog : Program} {w : World} {env : Env} {e : Expr} {f : Str} {pos : Pos} {s : Shared} {Q : Value -> Shared -> Prop} (hb : attributeBase e f env (eval e env) = eval e env)
  (h : wpAny (model prog w) A (eval e env) (λ o s₁ => wpAny (model prog w) A (getAttr o f true) Q E s₁) E s) : wpAny (model prog w) A (eval (.Attribute e f pos) env) Q E s :=
 Attribute_any_ h (by rw [arm_eval_Attribute, hb])
end
def tFld (K : PySem.W.Frag) (ta : TE) (f : Str) : TE := λ σ H Q => ta σ H λ x H1 => ∃ a C dx fs v, x = .ref a /\ H1 a = some (.ins C dx fs) /\ Cls K C /\ NoAttr K C f /\ fs.lookup f = some v /\ Q v H1
def sFld (K : PySem.W.Frag) (ta tv : TE) (f : Str) : TS := λ D σ H => tv σ H λ y H1 => ta σ H1 λ x H2 => ∃ a C dx fs, x = .ref a /\ H2 a = some (.ins C dx fs) /\ Cls K C /\ NoAttr K C f /\ fs.length < 1000 /\
 D.nx σ (upd H2 a (.ins C dx (qm f y fs)))
section
variable {X : Cx} {o e value : Expr} {f : Str} {pos pos' tpos : Pos} {ta tv : TE}
theorem qy (he : PE X e ta) (hb : attributeBase e f X.env (eval e X.env) = eval e X.env) : PE X (.Attribute e f pos) (tFld X.K ta f) := by
 intro pins s σ H Q I h;refine VB hb (qQ (he pins s σ H _ I h) λ u s1 x H1 I1 rx qq_ => ?_);obtain ⟨a, C, dx, fs, v, ex, ea, c, n, l, q⟩ := qq_;subst ex;obtain rfl : u = Value.ref a := rx;exact Ww I1 ea c n l λ u' s2 I2 ru => ⟨v, H1, I2, ru, q⟩
theorem jU (ha : PE X o ta) (hv : PE X value tv) (hs : swapsWith value (some (.Attribute o f pos')) pos.line X.env = pure false) : PS X (.Assign [.Attribute o f pos'] value pos) (sFld X.K ta tv f) := by
 intro pins s σ H D I h;refine plainObj_wpAny_Assign_Attribute (qQ (hv pins s σ H _ I h) λ u s1 y H1 I1 ry q => qQ (ha pins s1 σ H1 _ I1 q) λ ov s2 x H2 I2 rx qq_ => ?_) hs;obtain ⟨a, C, dx, fs, ex, ea, c, n, l, q2⟩ := qq_;subst ex;obtain rfl : ov = Value.ref a := rx;exact XY I2 ea c n l ry λ s3 I3 => ⟨σ, _, I3, q2⟩
end
section
variable {X : Cx} {pins : List (Addr × Obj)} {σ : St} {H : Hp} {s : Shared} {A : Around} {E : Value -> Shared -> Prop} {Q : Value -> Shared -> Prop} {c : Value} {b : Bool}
inductive TyOf (K : PySem.W.Frag) (H : Hp) : V -> Value -> Prop where
 | non : TyOf K H .non (.type "NoneType")
 | bl (x : Bool) : TyOf K H (.bl x) (.type "bool")
 | int (i : Int) : TyOf K H (.int i) (.type "int")
 | str (x : Str) : TyOf K H (.str x) (.type "str")
 | flt (x : UInt64) : TyOf K H (.flt x) (.type "float")
 | lst {a : Addr} {xs : List V} (e : H a = some (.lst xs)) : TyOf K H (.ref a) (.type "list")
 | frz {a : Addr} {o : Obj} {xs : List V} (e : H a = some (.frz o (.lst xs))) : TyOf K H (.ref a) (.type "list")
 | tup {a : Addr} {xs : List V} (e : H a = some (.tup xs)) : TyOf K H (.ref a) (.type "tuple")
 | dK {a : Addr} {kvs : List (Key × V)} (e : H a = some (.dK kvs)) : TyOf K H (.ref a) (.type "dict")
 | dT {a : Addr} {kvs : List (List Key × V)} (e : H a = some (.dT kvs)) : TyOf K H (.ref a) (.type "dict")
 | ins {a C dx : Addr} {fs : List (Str × V)} (e : H a = some (.ins C dx fs)) (cl : Cls K C) (ha : findIn K (.ref C) "__class__" = some (some (.builtin "object.__class__")))
   (hn : specialIn K (.builtin "object.__class__") "__get__" = some (some (.builtin "getset_descriptor.__get__"))) (htk : takesIn K (.builtin "object.__class__") = some true)
   (hm : mroIn K C (.type "object") = some true) : TyOf K H (.ref a) (.ref C)
end
end L2
namespace L2
open PySem PySem.Spec PyProof.Rows
structure Room (k : Nat) (A : Around) : Prop where
 hd : A.handled = none
 dp : A.depth + 3 * k + 5 < recursionLimit
 un : A.units + 16 * k + 200 < cLine
theorem Room.mono {j k : Nat} {A : Around} (r : Room k A) (h : j <= k) : Room j A := ⟨r.hd, by have := r.dp;lia, by have := r.un;lia⟩
theorem Room.deeper {k : Nat} {A : Around} (r : Room (k + 1) A) (env : Env) : Room k (A.deeper env) :=
 ⟨r.hd, by have := r.dp;show A.depth + 1 + 3 * k + 5 < _;lia, by have := r.un;show A.units + 3 + 16 * k + 200 < _;lia⟩
theorem Room.in1 {k : Nat} {A : Around} (r : Room (k + 1) A) : Room k A.in1 :=
 ⟨r.hd, by have := r.dp;show A.depth + 3 * k + 5 < _;lia, by have := r.un;show A.units + 1 + 16 * k + 200 < _;lia⟩
theorem Wj {A : Around} {C : Addr} {us : List Value} {kw : List (Str × Value)} : (A.under (.builtin "type.__call__" ⟨.ref C :: us, kw⟩)).depth = A.depth + 1 := by
 first|rfl|simp [Around.under, Code.weight, Code.isCreation, Code.isGuard, Code.isCaller, Code.frames, Code.isFrame, guardIds]
theorem Wi {A : Around} {C : Addr} {us : List Value} {kw : List (Str × Value)} : (A.under (.builtin "type.__call__" ⟨.ref C :: us, kw⟩)).units = A.units + 1 := by
 first|rfl|simp [Around.under, Code.cUnits, Code.frames, Code.isFrame]
theorem Room.make {k : Nat} {A : Around} (r : Room (k + 1) A) (C : Addr) (us : List Value) (kw : List (Str × Value)) : Room k (A.under (.builtin "type.__call__" ⟨.ref C :: us, kw⟩)) :=
 ⟨r.hd, by have := r.dp;rw [Wj];lia, by have := r.un;rw [Wi];lia⟩
theorem Room.depth {k : Nat} {A : Around} (r : Room k A) : A.depth < recursionLimit := by have := r.dp;lia
theorem Room.units {k : Nat} {A : Around} (r : Room k A) : A.units + 64 < cLine := by have := r.un;lia
def tNil : TA := λ _ H Q => Q [] H
def tCons (ta : TE) (tr : TA) : TA := λ σ H Q => ta σ H λ x H1 => tr σ H1 λ xs H2 => Q (x :: xs) H2
section
variable {X : Cx} {e : Expr} {es : List Expr} {te : TE} {t : TA} {pos : Pos}
theorem ze : PA X [] tNil := λ _ _ _ _ H Q I h => Calls.spliced_nil ⟨[], H, I, .nil, h⟩
theorem za (ha : PE X e te) (hr : PA X es t) (hs : starEach (e :: es) X.env = (false, eval e X.env) :: starEach es X.env := by rfl) : PA X (e :: es) (tCons te t) := by
 intro pos pins s σ H Q I h;rw [hs];show wpAny _ _ (spliced ((false, eval e X.env) :: backTo pos (starEach es X.env))) _ _ s
 refine Calls.spliced_cons (qQ (ha pins s σ H _ I h) λ u s1 x H1 I1 r1 q1 => ?_);exact wr (hr pos pins s1 σ H1 _ I1 q1) λ us s2 xs H2 I2 r2 q2 => ⟨x :: xs, H2, I2, .cons r1 r2, q2⟩
def tTup (t : TA) : TE := λ σ H Q => t σ H λ xs H1 => szl xs (∀ p, H1 p = none -> Q (.ref p) (upd H1 p (.tup xs)))
def tLst (t : TA) : TE := λ σ H Q => t σ H λ xs H1 => szl xs (∀ p, H1 p = none -> Q (.ref p) (upd H1 p (.lst xs)))
theorem qt {x1} (h : PA X es t) : PE X (.Tuple es x1 pos) (tTup t) := by
 intro pins s σ H Q I hq;refine wpAny_Tuple_spliced (wr (h pos pins s σ H _ I hq) λ us s1 xs H1 I1 r q => let ⟨z, q⟩ := Q2 q;⟨by rw [<- r.length];exact z, ?_⟩);have hf : H1 s1.heap.objs.size = none := I1.hok.fresh (Nat.le_refl _);refine ⟨.ref s1.heap.objs.size, upd H1 s1.heap.objs.size (.tup xs), I1.laid (t' := s1.toks) (λ b u e => Heap.get?_push_of_some _ e) (Nat.le_refl _) ?_, rfl, q _ hf⟩;exact ⟨z, us, r, ⟨_, Heap.get?_push_size _ rfl, rfl, _, rfl⟩⟩
theorem zv (h : PA X es t) : PE X (.List es pos) (tLst t) := by
 intro pins s σ H Q I hq;refine wpAny_List_spliced (wr (h pos pins s σ H _ I hq) λ us s1 xs H1 I1 r q => let ⟨z, q⟩ := Q2 q;⟨by rw [<- r.length];exact z, ?_⟩);have hf : H1 s1.heap.objs.size = none := I1.hok.fresh (Nat.le_refl _);refine ⟨.ref s1.heap.objs.size, upd H1 s1.heap.objs.size (.lst xs), I1.laid (t' := s1.toks) (λ b u e => Heap.get?_push_of_some _ e) (Nat.le_refl _) ?_, rfl, q _ hf⟩;exact ⟨z, us, 0, r, Heap.get?_push_size _ rfl⟩
end
abbrev Sp := List V -> Hp -> VK -> XK -> Prop
abbrev CXT := List Env -> Hp -> Shared -> XK -> Value -> Shared -> Prop
structure Env0 (P : Program) (w : World) (K : PySem.W.Frag) (mg : Str -> Option Value) (base : Heap) (A : Around) (outer : List Env) (s : Shared) (H : Hp) : Prop where
 frames : A.frames = some outer
 mod : Mod K mg base
 bs : ∀ b o, base.get? b = some o -> s.heap.get? b = some o /\ H b = none
 bsz : base.objs.size <= s.heap.objs.size
 funs : s.heap.FunFrames base outer
 frf : ∀ b ∈ frs outer, H b = none
 hok : HOk P w H s.heap
 bare : AllBare s.gens
def CE (outer : List Env) (P : Program) (w : World) (H : Hp) (s : Shared) (Q : VK) (u : Value) (s' : Shared) : Prop :=
 ∃ v H', s'.os = s.os /\ AllBare s'.gens /\ Un (frs outer) [] H H' s.heap s'.heap /\ HOk P w H' s'.heap /\ RelV v u /\ Q v H'
def CR (CX : CXT) (outer : List Env) (P : Program) (w : World) (H : Hp) (s : Shared) (Q : VK) (E : XK) (r : Result) (s' : Shared) : Prop :=
 match r with
 | .ok (.ret u) => CE outer P w H s Q u s'
 | .ok _ => False
 | .error e => CX outer H s E e s'
structure FnOk (P : Program) (w : World) (K : PySem.W.Frag) (mg : Str -> Option Value) (base : Heap) (CX : CXT) (k : Nat) (f : Addr) (fd : FuncData) (ps : List Str) (sp : Sp) : Prop where
 len : ∀ vs H Q E, sp vs H Q E -> vs.length = ps.length
 run : ∀ (A : Around) (outer : List Env) (s : Shared) (H : Hp) (args : Args) (us : List Value) (vs : List V) (Q : VK) (E : XK), Room k A -> Env0 P w K mg base A outer s H -> BindsTo s fd args (ps.zip us) -> Vals vs us -> sp vs H Q E ->
  codeAny (model P w) A (.call (.ref f) args) (CR CX outer P w H s Q E) s
theorem FnOk.mono {P : Program} {w : World} {K : PySem.W.Frag} {mg : Str -> Option Value} {base : Heap} {CX : CXT} {j k : Nat} {f : Addr} {fd : FuncData} {ps : List Str} {sp : Sp} (F : FnOk P w K mg base CX j f fd ps sp) (h : j <= k) :
  FnOk P w K mg base CX k f fd ps sp := ⟨F.len, λ A outer s H args us vs Q E hr => F.run A outer s H args us vs Q E (hr.mono h)⟩
theorem FnOk.imp {P : Program} {w : World} {K : PySem.W.Frag} {mg : Str -> Option Value} {base : Heap} {CX : CXT} {k : Nat} {f : Addr} {fd : FuncData} {ps : List Str} {sp sp' : Sp} (F : FnOk P w K mg base CX k f fd ps sp)
  (h : ∀ vs H Q E, sp' vs H Q E -> sp vs H Q E) : FnOk P w K mg base CX k f fd ps sp' :=
 ⟨λ vs H Q E q => F.len vs H Q E (h _ _ _ _ q), λ A outer s H args us vs Q E hr he hb hv hs => F.run A outer s H args us vs Q E hr he hb hv (h _ _ _ _ hs)⟩
theorem Env0.make {P : Program} {w : World} {K : PySem.W.Frag} {mg : Str -> Option Value} {base : Heap} {A : Around} {outer : List Env} {s : Shared} {H : Hp} (e : Env0 P w K mg base A outer s H) (C : Addr) (us : List Value) (kw : List (Str × Value)) :
  Env0 P w K mg base (A.under (.builtin "type.__call__" ⟨.ref C :: us, kw⟩)) outer s H := ⟨by first|exact e.frames|(simpa [Around.under, Code.envs, Code.isFrame, pushEnvs] using e.frames), e.mod, e.bs, e.bsz, e.funs, e.frf, e.hok, e.bare⟩
theorem Env0.in1 {P : Program} {w : World} {K : PySem.W.Frag} {mg : Str -> Option Value} {base : Heap} {A : Around} {outer : List Env} {s : Shared} {H : Hp} (e : Env0 P w K mg base A outer s H) :
  Env0 P w K mg base A.in1 outer s H := ⟨e.frames, e.mod, e.bs, e.bsz, e.funs, e.frf, e.hok, e.bare⟩
section
variable {X : Cx} {pins : List (Addr × Obj)} {σ : St} {H : Hp} {s s' : Shared}
theorem Inv.env0 (I : Inv X pins σ H s) : Env0 X.prog X.w X.K X.mg X.base X.A X.stack s H :=
 ⟨I.ok.frames, I.ok.mod, I.bs, Nat.le_trans I.ok.bsz I.sz, I.stack, I.stkFree, I.hok, I.bare⟩
theorem Inv.after {Q : VK} {u : Value} (I : Inv X pins σ H s) (h : CE X.stack X.prog X.w H s Q u s') : EP X pins σ Q u s' := by
 obtain ⟨v, H', os, bare, un, hok, r, q⟩ := h;obtain ⟨hh, g, d, t, os'⟩ := s';obtain rfl : os' = s.os := os;exact ⟨v, H', I.call (h' := hh) (g' := g) (d' := d) (t' := t) (ch := []) un hok bare (λ b z => absurd z (by simp)), r, q⟩
end
def Binds (K : PySem.W.Frag) (fd : FuncData) (ps : List Str) (ds : List Value) : Prop :=
 ∀ (s : Shared) (us : List Value), K.In s.heap -> (us ++ ds).length = ps.length -> BindsTo s fd ⟨us, []⟩ (ps.zip (us ++ ds))
theorem Binds.all {K : PySem.W.Frag} {fd : FuncData} {ps : List Str} (h : ∀ us : List Value, us.length = ps.length -> bindArgs fd ⟨us, []⟩ = pure (ps.zip us)) : Binds K fd ps [] := λ s us _ hl => by
 rw [append_nil] at hl ⊢;exact .of_eq (h us hl)
def WJ (CX : CXT) (X : Cx) (E : XK) : Prop := ∀ (pins : List (Addr × Obj)) (σ : St) (H : Hp) (s : Shared) (e : Value) (s' : Shared), Inv X pins σ H s -> CX X.stack H s E e s' -> X.xe e s'
section
variable {X : Cx} {CX : CXT} {k : Nat} {f C : Addr} {fd : FuncData} {ps : List Str} {sp : Sp} {dvs : List V} {ds : List Value} {E : XK} {x m : Str} {p pos apos : Pos} {e o : Expr} {es : List Expr} {ta : TE} {t : TA}
theorem zaA {pins : List (Addr × Obj)} {σ : St} {H : Hp} {s : Shared} {Q : VK} {us : List Value} {vs : List V} (F : FnOk X.prog X.w X.K X.mg X.base CX k f fd ps sp) (hr : Room k X.A) (hb : Binds X.K fd ps ds) (hd : Vals dvs ds) (hx : WJ CX X E)
  (I : Inv X pins σ H s) (r : Vals vs us) (h : sp (vs ++ dvs) H Q E) : wpAny (model X.prog X.w) X.A (call (.ref f) us) (EP X pins σ Q) X.xe s := by
 have r2 : Vals (vs ++ dvs) (us ++ ds) := r.append hd;have hl : (us ++ ds).length = ps.length := by rw [<- r2.length];exact F.len _ _ _ _ h
 refine wpAny_call (codeAny_mono (F.run X.A X.stack s H ⟨us, []⟩ (us ++ ds) (vs ++ dvs) Q E hr I.env0 (hb s us I.kIn hl) r2 h) λ r s' hq => ?_);cases r with
 | error e => exact hx pins σ H s e s' I hq
 | ok fl =>
  cases fl with
  | ret u => exact I.after hq
  | next => exact False.elim hq
  | brk => exact False.elim hq
  | cont => exact False.elim hq
structure Mk (K : PySem.W.Frag) (C f : Addr) : Prop where
 makes : makesIn K C = true
 init : findIn K (.ref C) "__init__" = some (some (.ref f))
 fn : isFn K (.ref f) = true
 kp : keepIn K (.ref C) = true
theorem zaz {pins : List (Addr × Obj)} {σ : St} {H : Hp} {s : Shared} {Q : VK} {us : List Value} {vs : List V} (M : Mk X.K C f) (F : FnOk X.prog X.w X.K X.mg X.base CX k f fd ps sp) (hr : Room (k + 1) X.A) (hb : Binds X.K fd ps ds) (hd : Vals dvs ds)
  (hx : WJ CX X E) (I : Inv X pins σ H s) (r : Vals vs us)
  (h : ∀ x dx, H x = none -> H dx = none -> dx ≠ x -> sp (.ref x :: (vs ++ dvs)) (upd (upd H dx (.own x)) x (.ins C dx [])) (λ v H2 => v = .non /\ Q (.ref x) H2) E) :
  wpAny (model X.prog X.w) X.A (call (.ref C) us) (EP X pins σ Q) X.xe s := by
 have hq := h (s.heap.objs.size + 1) s.heap.objs.size (I.hok.fresh (Nat.le_succ _)) (I.hok.fresh (Nat.le_refl _)) (Nat.ne_of_lt (Nat.lt_succ_self _));have I2 := Inv.made (C := C) I;have r2 : Vals (V.ref (s.heap.objs.size + 1) :: (vs ++ dvs)) (Value.ref (s.heap.objs.size + 1) :: (us ++ ds)) := .cons rfl (r.append hd);have hl : (Value.ref (s.heap.objs.size + 1) :: us ++ ds).length = ps.length := by
  have e := r2.length;rw [F.len _ _ _ _ hq] at e;exact e.symm
 refine wpAny_call (Xg (f := f) I.kIn M.makes M.init (beq_iff_eq.mp M.fn) (codeAny_mono (F.run _ X.stack _ _ ⟨Value.ref (s.heap.objs.size + 1) :: us, []⟩ (Value.ref (s.heap.objs.size + 1) :: (us ++ ds)) _ _ E (hr.make C us [])
  (I2.env0.make C us []) (hb _ (Value.ref (s.heap.objs.size + 1) :: us) I2.kIn hl) r2 hq) λ r s' hq' => ?_))
 cases r with
 | error e => exact hx pins σ _ _ e s' I2 hq'
 | ok fl =>
  cases fl with
  | ret u =>
   obtain ⟨v, H', I3, rv, ev, q3⟩ := I2.after hq';subst ev;exact ⟨rv, ⟨V.ref (s.heap.objs.size + 1), H', I3, rfl, q3⟩⟩
  | next => exact False.elim hq'
  | brk => exact False.elim hq'
  | cont => exact False.elim hq'
end
def PK (X : Cx) (kws : List Keyword) (t : TA) : Prop :=
 ∀ (pos : Pos) (pins : List (Addr × Obj)) (s : Shared) (σ : St) (H : Hp) (Q : List V -> Hp -> Prop), Inv X pins σ H s -> t σ H Q -> wpAny (model X.prog X.w) X.A (evalAll ((backToKw pos (keywordEach kws X.env)).map (·.2))) (AP X pins σ Q) X.xe s
section
variable {X : Cx} {CX : CXT} {k : Nat} {f C : Addr} {fd : FuncData} {ps ks : List Str} {sp : Sp} {E : XK} {x m : Str} {p pos apos kpos : Pos} {e o : Expr} {es : List Expr} {kws : List Keyword} {te ta : TE} {t tk : TA} {nm : Option Str}
variable {g : List Value -> List Value -> List Value} {gV : List V -> List V -> List V}
end
structure FnScope (N P : List Str) (sc : Scope) : Prop where
 kind : sc.kind = .function
 co : sc.isCoroutine = false
 gen : sc.isGenerator = false
 nd : N.Nodup
 pre : N.take P.length = P
 par : ∀ x ∈ P, sc.names.lookup x = some .local \/ sc.names.lookup x = some .cell
 nofree : ∀ y ∈ sc.names, y.2 ≠ .free
theorem QT {kindOf : Str -> Option NameKind} {x : Str} : ∀ {binds : List (Str × Value)} {m : Str -> Option Value}, (∀ v, (x, v) ∉ binds) -> bindL kindOf binds m x = m x
 | [], _, _ => rfl
 | (n, v) :: r, m, h => by
  unfold bindL;rw [QT λ w hw => h w (mem_cons_of_mem _ hw)]
  split
  ·have : x ≠ n := by rintro rfl;exact h v mem_cons_self
   simp [this]
  ·rfl
theorem QV {kindOf : Str -> Option NameKind} {x : Str} : ∀ {binds : List (Str × Value)} {m : Str -> Option Value}, (∀ v, (x, v) ∉ binds) -> bindC kindOf binds m x = m x
 | [], _, _ => rfl
 | (n, v) :: r, m, h => by
  unfold bindC;rw [QV λ w hw => h w (mem_cons_of_mem _ hw)]
  split
  ·rfl
  ·have : x ≠ n := by rintro rfl;exact h v mem_cons_self
   simp [this]
theorem QU {kindOf : Str -> Option NameKind} {x : Str} {v : Value} : ∀ {P : List Str} {vs : List Value} {i : Nat} {m : Str -> Option Value}, P.Nodup -> P[i]? = some x -> vs[i]? = some v -> kindOf x = some .local ->
  bindL kindOf (P.zip vs) m x = some v
 | [], _, _, _, _, h, _, _ => by simp at h
 | _ :: _, [], _, _, _, _, h, _ => by simp at h
 | p :: P, w :: vs, 0, m, nd, h1, h2, hk => by
  simp at h1 h2;subst h1;subst h2;show bindL kindOf ((p, w) :: P.zip vs) m p = _
  unfold bindL;rw [QT λ v hv => (List.nodup_cons.mp nd).1 (of_mem_zip hv).1, if_pos hk];simp
 | p :: P, w :: vs, i + 1, m, nd, h1, h2, hk => by
  show bindL kindOf ((p, w) :: P.zip vs) m x = _
  unfold bindL;exact QU (i := i) (List.nodup_cons.mp nd).2 (by simpa using h1) (by simpa using h2) hk
theorem QW {kindOf : Str -> Option NameKind} {x : Str} {v : Value} : ∀ {P : List Str} {vs : List Value} {i : Nat} {m : Str -> Option Value}, P.Nodup -> P[i]? = some x -> vs[i]? = some v -> kindOf x ≠ some .local ->
  bindC kindOf (P.zip vs) m x = some v
 | [], _, _, _, _, h, _, _ => by simp at h
 | _ :: _, [], _, _, _, _, h, _ => by simp at h
 | p :: P, w :: vs, 0, m, nd, h1, h2, hk => by
  simp at h1 h2;subst h1;subst h2;show bindC kindOf ((p, w) :: P.zip vs) m p = _
  unfold bindC;rw [QV λ v hv => (List.nodup_cons.mp nd).1 (of_mem_zip hv).1, if_neg hk];simp
 | p :: P, w :: vs, i + 1, m, nd, h1, h2, hk => by
  show bindC kindOf ((p, w) :: P.zip vs) m x = _
  unfold bindC;exact QW (i := i) (List.nodup_cons.mp nd).2 (by simpa using h1) (by simpa using h2) hk
def start (N : List Str) (vs : List V) : St := vs.map some ++ List.replicate (N.length - vs.length) none
def vS (CX : CXT) (P : Program) (w : World) (K : PySem.W.Frag) (mg : Str -> Option Value) (base : Heap) (N : List Str) (qual : Str) (scope : Scope) (f : Addr) (cd : Value) (A : Around) (outer : List Env) (s : Shared) (H : Hp) (E : XK) : Cx where
 prog := P
 w := w
 K := K
 mg := mg
 base := base
 A := A.deeper (envOfC qual scope s.heap.objs.size f cd)
 N := N
 s₀ := s
 H₀ := H
 env := envOfC qual scope s.heap.objs.size f cd
 outer := outer
 stack := envOfC qual scope s.heap.objs.size f cd :: outer
 ex := []
 calm := true
 fn := λ _ => true
 pn := []
 xe := λ e s' => wpAny (model P w) (A.deeper (envOfC qual scope s.heap.objs.size f cd)) (leaving (envOfC qual scope s.heap.objs.size f cd) e) (λ _ s'' => CX outer H s E e s'') (λ e' s'' => CX outer H s E e' s'') s'
theorem XG {sc : Scope} {n : Nat} {x : Str} (h : sc.names.lookup x = some .cell) : ∃ c, (cellsFrom n sc.names []).lookup x = some c := by
 have q := PySem.W.cellsFrom_some sc.names n [] (.inl h);exact Option.isSome_iff_exists.mp q
theorem V9 {CX : CXT} {P : Program} {w : World} {K : PySem.W.Frag} {mg : Str -> Option Value} {base : Heap} {N ps : List Str} {qual : Str} {scope : Scope} {f : Addr} {cd : Value} {A : Around} {outer : List Env} {s s1 : Shared} {H : Hp} {E : XK} {us : List Value} {vs : List V}
  (S : FnScope N ps scope) (hd : A.handled = none) (e0 : Env0 P w K mg base A outer s H) (hl : vs.length = ps.length) (r : Vals vs us)
  (x : InCallC s s.heap.objs.size (bindL (envOfC qual scope s.heap.objs.size f cd).kindOf (ps.zip us) λ _ => none) (cellsFrom (s.heap.objs.size + 1) scope.names []) (bindC (envOfC qual scope s.heap.objs.size f cd).kindOf (ps.zip us) λ _ => none) s1) :
  Inv (vS CX P w K mg base N qual scope f cd A outer s H E) [] (start N vs) H s1 := by
 have hpl : ps.length <= N.length := by have := congrArg List.length S.pre;rw [length_take] at this;lia
 obtain ⟨h1, tk, rfl, hk⟩ := x.done;have noA : ∀ b : Addr, b ∉ (vS CX P w K mg base N qual scope f cd A outer s H E).ex := λ b z => absurd (show b ∈ ([] : List Addr) from z) (by simp);refine ⟨⟨e0.mod, S.kind, rfl, rfl, Nat.le_refl _, λ y z c h1 h2 => ?_, λ y hy => ?_, λ y c _ h => ?_, λ _ => hd, Around.frames_deeper e0.frames, .inr ⟨rfl, rfl⟩, λ b z => absurd z (noA b), e0.bs, e0.bsz, λ b _ _ => noA b, λ b z => absurd z (noA b), e0.funs, e0.frf⟩,
  rfl, e0.bare, Un.kept hk, ⟨_, x.toInCall.ns, λ i y v h1 h2 h3 => ?_⟩, λ y c h => ⟨_, x.cell y c h⟩, e0.hok.fresh (Nat.le_refl _), λ y c h => ?_, λ p hp => absurd (show p ∈ ([] : List (Addr × Obj)) from hp) (by simp), e0.hok.kept hk, ?_⟩
 ·exact name_of_addr x.apart (PySem.mem_of_lookup h1) (PySem.mem_of_lookup h2)
 ·have hy : scope.names.lookup y = some .cell \/ scope.names.lookup y = some .free := hy;rcases hy with hy|hy
  ·exact XG hy
  ·exact absurd rfl (S.nofree _ (PySem.mem_of_lookup hy))
 ·exact Nat.le_of_lt (x.above y c (PySem.mem_of_lookup h))
 ·have hi : i < vs.length := by
   unfold start at h2;by_cases hi : i < vs.length
   ·exact hi
   ·rw [getElem?_append_right (by simpa using hi)] at h2;rw [List.getElem?_replicate] at h2
    split at h2 <;> cases h2
  have ha : vs[i]? = some v := by
   unfold start at h2;rw [getElem?_append_left (by simpa using hi), getElem?_map] at h2;cases e : vs[i]? with
   | none => rw [e] at h2;cases h2
   | some a => rw [e] at h2;cases h2;rfl
  obtain ⟨u, hu, rv⟩ := r.get ha;have hp : ps[i]? = some y := by
   rw [<- S.pre, List.getElem?_take_of_lt (by lia)];exact h1
  have ndP : ps.Nodup := by rw [<- S.pre];exact S.nd.sublist (List.take_sublist _ _)
  refine ⟨u, rv, ?_⟩;rcases S.par y (mem_of_getElem? hp) with k|k
  ·exact .inl ⟨k, QU ndP hp hu k⟩
  ·obtain ⟨c, e⟩ := XG (n := s.heap.objs.size + 1) k;refine .inr ⟨.inl k, c, e, ?_⟩;have q := x.cell y c e;rw [QW ndP hp hu (by show scope.names.lookup y ≠ _;rw [k];decide)] at q;exact q
 ·exact e0.hok.fresh (Nat.le_of_lt (x.above y c (PySem.mem_of_lookup h)))
 ·unfold start;show _ = N.length
  rw [length_append, length_map, length_replicate]
  lia
theorem zbn {CX : CXT} {P : Program} {w : World} {K : PySem.W.Frag} {mg : Str -> Option Value} {base : Heap} {k : Nat} {f : Addr} {name qual : Str} {params : Arguments} {body : List Stmt} {scope : Scope} {dV kV doc pm cdv ct oc : Value} {an od : Option Addr}
  {osl : Array (Option Value)} {N ps : List Str} {sp : Sp} (lk : K.lookup f = some ⟨oc, od, .func (fnOf name qual params body scope dV kV doc pm an cdv ct), osl⟩) (hcd : codeIn K cdv qual = true) (S : FnScope N ps scope)
  (len : ∀ vs H Q E, sp vs H Q E -> vs.length = ps.length)
  (hbody : ∀ (A : Around) (outer : List Env) (s : Shared) (H : Hp) (vs : List V) (Q : VK) (E : XK), Room k (A.deeper (envOfC qual scope s.heap.objs.size f cdv)) -> sp vs H Q E ->
   ∃ t, PSs (vS CX P w K mg base N qual scope f cdv A outer s H E) body t /\ t { nx := λ _ H' => Q .non H', rt := Q } (start N vs) H) :
  FnOk P w K mg base CX (k + 1) f (fnOf name qual params body scope dV kV doc pm an cdv ct) ps sp := by
 refine ⟨len, λ A outer s H args us vs Q E hr e0 hb r hsp => ?_⟩;have hl := len _ _ _ _ hsp;have KX : K.In s.heap := e0.mod.kin.keeps λ b o e => (e0.bs b o e).1;have lim : s.heap.NoLimit := e0.mod.nolimit.keeps λ b o e => (e0.bs b o e).1;have hkind : ∀ y ∈ ps.zip us, scope.names.lookup y.1 = some .local \/ (scope.names.lookup y.1 = some .cell /\ ((cellsFrom (s.heap.objs.size + 1) scope.names []).lookup y.1).isSome = true) := λ ⟨n, v⟩ hy => by
  rcases S.par n (of_mem_zip hy).1 with q|q
  ·exact .inl q
  ·exact .inr ⟨q, PySem.W.cellsFrom_some _ _ _ (.inl q)⟩
 refine codeAny_call_function hr.depth (KX _ _ lk) rfl S.co S.gen rfl (PySem.W.codeRec_of KX hcd) (hb _ _ _ _ ?_);refine wpAny_newFunctionEnv_cells S.kind hkind λ env he s1 x => ?_;subst he;refine ⟨lim.keeps x.toInCall.keep, codeAny_func ?_⟩;obtain ⟨t, ht, hq⟩ := hbody A outer s H vs Q E (hr.deeper _) hsp;have I : Inv (vS CX P w K mg base N qual scope f cdv A outer s H E) [] (start N vs) H s1 := V9 S hr.hd e0 hl r x;refine wpAny_mono (ht [] s1 (start N vs) H _ I hq) (λ fl s' hs => ?_) λ e s' hs => hs;have fin : ∀ {σ' : St} {H' : Hp} {v : V} {u : Value}, Inv (vS CX P w K mg base N qual scope f cdv A outer s H E) [] σ' H' s' -> RelV v u -> Q v H' -> CE outer P w H s Q u s' :=
  λ {σ' H' v u} J rv q => ⟨v, H', J.os, J.bare, J.base, J.hok, rv, q⟩
 cases fl with
 | ret u =>
  obtain ⟨v, σ', H', J, rv, q⟩ := hs;exact fin J rv q
 | next =>
  obtain ⟨σ', H', J, q⟩ := hs;exact fin (v := V.non) (u := Value.none) J rfl q
 | brk =>
  obtain ⟨_, _, _, q⟩ := hs;exact False.elim q
 | cont =>
  obtain ⟨_, _, _, q⟩ := hs;exact False.elim q
end L2
namespace L2
open PySem PySem.Spec PyProof.Rows
section
variable {X : Cx} {x : Str} {p pos : Pos} {e : Expr} {es : List Expr} {t : TA} {id T : String} {r : List V -> Hp -> VK -> Prop}
def tCB (r : List V -> Hp -> VK -> Prop) (t : TA) : TE := λ σ H Q => t σ H λ vs H1 => r vs H1 Q
theorem zaN (hc : CallR X (.builtin id) r) (hg : Gl X x) (hm : X.mg x = none) (hv : bootBuiltins x = some (.builtin id)) (ha : PA X (e :: es) t) (hn : x ≠ "__name__" := by decide) (hdb : (x == ("__debug__" : Str)) = false := by decide)
  (he : starEach (e :: es) X.env = (false, eval e X.env) :: starEach es X.env := by rfl) (hpl : (backTo pos (starEach es X.env)).any (·.1) = false := by rfl) : PE X (.Call (.Name x p) (e :: es) [] pos) (tCB r t) := by
 intro pins s σ H Q I h;refine wpAny_Call_Name_kw (vk I hg hm hv ?_ hn hdb);exact PyProof.Rows.callWith_builtin1 (wr (ha pos pins s σ H _ I h) λ us s1 vs H1 I1 r1 q1 => hc pins s1 σ H1 vs us Q I1 r1 q1) he hpl
theorem VX (hc : CallR X (.type T) r) (hg : Gl X x) (hm : X.mg x = none) (hv : bootBuiltins x = some (.type T)) (ha : PA X (e :: es) t) (hn : x ≠ "__name__" := by decide) (hdb : (x == ("__debug__" : Str)) = false := by decide)
  (he : starEach (e :: es) X.env = (false, eval e X.env) :: starEach es X.env := by rfl) (hpl : (backTo pos (starEach es X.env)).any (·.1) = false := by rfl) : PE X (.Call (.Name x p) (e :: es) [] pos) (tCB r t) := by
 intro pins s σ H Q I h;refine wpAny_Call_Name_kw (vk I hg hm hv ?_ hn hdb);exact PyProof.Rows.callWith_type1 (wr (ha pos pins s σ H _ I h) λ us s1 vs H1 I1 r1 q1 => hc pins s1 σ H1 vs us Q I1 r1 q1) he hpl
end
end L2
namespace HT
open PySem PyProof.Rows
section
open PySem.SeqAt
open PySem.AutoSeq1 (wpAny_loadPart')
open PySem.MeetsSeq PySem.MeetsSeq2 PySem.MeetsSeq3
end
section
variable {prog : Program} {w : World} {A : Around} {E : Value -> Shared -> Prop} {s : Shared}
def sIx (n d : Nat) : Option Int -> Nat
 | none => d
 | some v => if v < 0 then (v + (n : Int)).toNat else min v.toNat n
theorem sIx_none (n d : Nat) : sIx n d none = d := rfl
theorem sIx_nat (n d k : Nat) : sIx n d (some (k : Int)) = min k n := by
 show (if (k : Int) < 0 then ((k : Int) + (n : Int)).toNat else min (k : Int).toNat n) = min k n
 rw [if_neg (by lia), Int.toNat_natCast]
end
end HT
namespace L2
open PySem PySem.Spec PyProof.Rows
abbrev TO := St -> Hp -> (Option Int -> Hp -> Prop) -> Prop
def PO (X : Cx) (e : Option Expr) (t : TO) : Prop :=
 ∀ (pins : List (Addr × Obj)) (s : Shared) (σ : St) (H : Hp) (Q : Option Int -> Hp -> Prop), Inv X pins σ H s -> t σ H Q ->
  wpAny (model X.prog X.w) X.A (evalPart e X.env) (λ u s' => ∃ o H', Inv X pins σ H' s' /\ IsPart u o /\ Q o H') X.xe s
def tNoPart : TO := λ _ H Q => Q none H
def tPart (t : TE) : TO := λ σ H Q => t σ H λ x H1 => iq x λ i => Q (some i) H1
theorem Ws {ns : List Int} : ∀ {us : List Value}, Vals (ns.map V.int) us -> IntsAre us ns := by
 induction ns with
 | nil => intro us r;rw [map_nil] at r;cases r;exact .nil
 | cons n ns ih =>
  intro us r;rw [map_cons] at r;cases r with
  | cons r1 r2 =>
   obtain ⟨t, e⟩ := r1;subst e;exact .cons n t (ih r2)
section
variable {X : Cx} {e : Expr} {te : TE} {lo hi : Option Expr} {tl th : TO} {pos p2 : Pos}
theorem zV : PO X none tNoPart := by
 intro pins s σ H Q I h;rw [evalPart_none];exact wpAny_pure ⟨none, H, I, .none, h⟩
theorem zQ (h : PE X e te) : PO X (some e) (tPart te) := by
 intro pins s σ H Q I hw;rw [evalPart_some];refine qQ (h pins s σ H _ I hw) λ u s1 x H1 I1 r1 q1 => ?_;obtain ⟨i, rfl, q⟩ := wO q1;obtain ⟨t, rfl⟩ := r1;exact ⟨some i, H1, I1, .int i t, q⟩
def SlR (X : Cx) (r : V -> Option Int -> Option Int -> Hp -> VK -> Prop) : Prop :=
 ∀ (pins : List (Addr × Obj)) (s : Shared) (σ : St) (H : Hp) (x : V) (v vl vu : Value) (lo hi : Option Int) (sl : Addr) (Q : VK), Inv X pins σ H s -> RelV x v -> s.heap.IsSliceOf sl vl vu .none -> IsPart vl lo -> IsPart vu hi -> r x lo hi H Q ->
  ∃ T id, typeLookup (.type T) "__getitem__" = pure (some (.builtin id)) /\ s.TypeIs v T /\ wpAny (model X.prog X.w) X.A (getItem v (.ref sl)) (EP X pins σ Q) X.xe s
theorem SlR.or {r r' : V -> Option Int -> Option Int -> Hp -> VK -> Prop} (h : SlR X r) (h' : SlR X r') : SlR X (λ x lo hi H Q => r x lo hi H Q \/ r' x lo hi H Q) := by
 intro pins s σ H x v vl vu lo hi sl Q I rx hs pl pu q;rcases q with q|q
 ·exact h pins s σ H x v vl vu lo hi sl Q I rx hs pl pu q
 ·exact h' pins s σ H x v vl vu lo hi sl Q I rx hs pl pu q
def tSl (r : V -> Option Int -> Option Int -> Hp -> VK -> Prop) (te : TE) (tl th : TO) : TE := λ σ H Q => te σ H λ x H1 => tl σ H1 λ l H2 => th σ H2 λ u H3 => r x l u H3 Q
theorem zK {r : V -> Option Int -> Option Int -> Hp -> VK -> Prop} (hr : SlR X r) (he : PE X e te) (hl : PO X lo tl) (hu : PO X hi th) : PE X (.Subscript e (.Slice lo hi none p2) pos) (tSl r te tl th) := by
 intro pins s σ H Q I h;refine Subscript_ (qQ (he pins s σ H _ I h) λ v s1 x H1 I1 r1 q1 => ?_);refine wpAny_Slice (thn (hl pins s1 σ H1 _ I1 q1) λ vl s2 ⟨l, H2, I2, pl, q2⟩ => thn (hu pins s2 σ H2 _ I2 q2) λ vu s3 ⟨u, H3, I3, pu, q3⟩ => ?_);rw [evalPart_none];refine wpAny_pure ?_;have I4 : Inv X pins σ H3 { s3 with heap := s3.heap.push { cls := .type "slice", data := .fields #[vl, vu, .none] } } := I3.kept (t' := s3.toks) λ b ob q => Heap.get?_push_of_some _ q;obtain ⟨T, id, hT, ht, hg⟩ := hr pins { s3 with heap := s3.heap.push { cls := .type "slice", data := .fields #[vl, vu, .none] } } σ H3 x v vl vu l u s3.heap.objs.size Q I4 r1 (Heap.IsSliceOf.new ..) pl pu q3;show wpAny (model X.prog X.w) X.A (subscriptTail e (.Slice lo hi none p2) v (.ref s3.heap.objs.size)) (EP X pins σ Q) X.xe { s3 with heap := s3.heap.push { cls := .type "slice", data := .fields #[vl, vu, .none] } }
 exact tail_any (ops := [.ref s3.heap.objs.size, v]) ht hT hg (by with_unfolding_all rfl)
def jz (xs : List V) (lo hi : Option Int) : List V := (xs.drop (HT.sIx xs.length 0 lo)).take (HT.sIx xs.length xs.length hi - HT.sIx xs.length 0 lo)
theorem XD (xs : List V) (lo hi : Option Int) : (jz xs lo hi).length <= xs.length := by
 unfold jz;rw [length_take, length_drop]
 lia
end
end L2
namespace L2
open PySem PySem.Spec PyProof.Rows
def ixN (n : Nat) (i : Int) : Option Nat := if 0 <= i then (if i < n then some i.toNat else none) else if -(n : Int) <= i then some (i + n).toNat else none
def atI {α : Type} (xs : List α) (i : Int) : Option α := (ixN xs.length i).bind λ j => xs[j]?
theorem Vj {n : Nat} {i : Int} {j : Nat} (h : ixN n i = some j) : seqIndex? i n = some j /\ j < n /\ -(n : Int) <= i /\ i < n := by
 unfold ixN at h;by_cases h0 : 0 <= i
 ·rw [if_pos h0] at h;by_cases h1 : i < n
  ·rw [if_pos h1] at h;have e : i.toNat = j := Option.some.inj h;exact ⟨by rw [seqIndex_of h0 h1, e], by lia, by lia, h1⟩
  ·rw [if_neg h1] at h;cases h
 ·rw [if_neg h0] at h;by_cases h1 : -(n : Int) <= i
  ·rw [if_pos h1] at h;have e : (i + n).toNat = j := Option.some.inj h;exact ⟨by rw [seqIndex_neg (by lia) h1, e], by lia, h1, by lia⟩
  ·rw [if_neg h1] at h;cases h
theorem JH {α : Type} {xs : List α} {i : Int} {v : α} (h : atI xs i = some v) : ∃ j, seqIndex? i xs.length = some j /\ xs[j]? = some v /\ j < xs.length /\ -(xs.length : Int) <= i /\ i < xs.length := by
 unfold atI at h;cases e : ixN xs.length i with
 | none => rw [e] at h;cases h
 | some j =>
  rw [e] at h;obtain ⟨h1, h2, h3, h4⟩ := Vj e;exact ⟨j, h1, h, h2, h3, h4⟩
theorem qg {α : Type} {xs : List α} {j : Nat} {v : α} (h : xs[j]? = some v) : atI xs (j : Int) = some v := by
 have hj : j < xs.length := (List.getElem?_eq_some_iff.mp h).1;have e : ixN xs.length (j : Int) = some j := by
  unfold ixN;rw [if_pos (by lia), if_pos (by lia)];simp
 unfold atI;rw [e];exact h
def VC (b : Expr) : Prop := ∀ o i, subscripted b false o i = operate [o, i] (getItem o i)
def IxR (X : Cx) (r : R2) : Prop :=
 ∀ (value slice : Expr) (pins : List (Addr × Obj)) (s : Shared) (σ : St) (H : Hp) (x y : V) (v u : Value) (Q : VK), Inv X pins σ H s -> RelV x v -> RelV y u -> r x y H Q ->
  subscripted slice false v u = operate [v, u] (getItem v u) -> wpAny (model X.prog X.w) X.A (subscriptTail value slice v u) (EP X pins σ Q) X.xe s
def MtR (X : Cx) (id : String) (r : V -> List V -> Hp -> VK -> Prop) : Prop :=
 ∀ (pins : List (Addr × Obj)) (s : Shared) (σ : St) (H : Hp) (x : V) (xs : List V) (v : Value) (us : List Value) (Q : VK), Inv X pins σ H s -> RelV x v -> Vals xs us -> r x xs H Q ->
  wpAny (model X.prog X.w) X.A (call (.builtin id) (v :: us)) (EP X pins σ Q) X.xe s
section
variable {X : Cx} {a b : Expr} {ta tb : TE} {pos : Pos}
theorem IxR.or {r r' : R2} (h : IxR X r) (h' : IxR X r') : IxR X (λ x y H Q => r x y H Q \/ r' x y H Q) := by
 intro value slice pins s σ H x y v u Q I rx ry q hs;rcases q with q|q
 ·exact h value slice pins s σ H x y v u Q I rx ry q hs
 ·exact h' value slice pins s σ H x y v u Q I rx ry q hs
theorem MtR.or {id : String} {r r' : V -> List V -> Hp -> VK -> Prop} (h : MtR X id r) (h' : MtR X id r') : MtR X id (λ x xs H Q => r x xs H Q \/ r' x xs H Q) := by
 intro pins s σ H x xs v us Q I rx rs q;rcases q with q|q
 ·exact h pins s σ H x xs v us Q I rx rs q
 ·exact h' pins s σ H x xs v us Q I rx rs q
theorem zdH {r : R2} (hr : IxR X r) (ha : PE X a ta) (hb : PE X b tb) (hs : VC b) : PE X (.Subscript a b pos) (tOp r ta tb) := by
 intro pins s σ H Q I h;exact Subscript_ (zdo ha hb I h λ v u s2 x y H2 I2 rx ry q => hr a b pins s2 σ H2 x y v u Q I2 rx ry q (hs _ _))
def zdF (K : PySem.W.Frag) : R2 := λ x y H Q => ∃ p xs i v, x = .ref p /\ y = .int i /\ SqL K H p xs /\ atI xs i = some v /\ Q v H
def zdD (K : PySem.W.Frag) : R2 := λ x y H Q => ∃ p xs i v, x = .ref p /\ y = .int i /\ SqT K H p xs /\ atI xs i = some v /\ Q v H
def zdE : R2 := λ x y H Q => ∃ z i c, x = .str z /\ y = .int i /\ z.length <= sizeLine /\ atI z.cps.toList i = some c /\ Q (.str ⟨#[c]⟩) H
theorem ix_list : IxR X (zdF X.K) := by
 intro value slice pins s σ H x y v u Q I rx ry h hs;obtain ⟨p, xs, i, z, rfl, rfl, hq, he, q⟩ := h;cases rx;obtain ⟨t, rfl⟩ := ry;obtain ⟨its, r, pl, hz⟩ := I.list hq;obtain ⟨j, h1, h2, h3, h4, h5⟩ := JH he;obtain ⟨w, ew, rw'⟩ := r.get h2;have hl := r.length;have hn := vi;have fin : EP X pins σ Q w s := ⟨z, H, I, rw', q⟩;by_cases h0 : 0 <= i
 ·have hj : i.toNat = j := by
   rw [seqIndex_of h0 h5] at h1;exact Option.some.inj h1
  exact item_listR pl.isList h0 (by lia) (by rw [hj];simpa using ew) fin hs
 ·have hj : (i + (its.toArray.size : Int)).toNat = j := by
   rw [seqIndex_neg (by lia) h4] at h1;rw [size_toArray, <- hl];exact Option.some.inj h1
  exact subscriptTail_builtinR (x := w) pl.isList.typeIs slot_list_getitem.lookup
   (wpAny_getItem_list_neg (Q := λ r s' => r = w /\ EP X pins σ Q r s') pl.isList (by lia) (by rw [size_toArray] <;> lia) (by lia) (by rw [hj];simpa using ew) ⟨rfl, fin⟩) hs
theorem ix_tup : IxR X (zdD X.K) := by
 intro value slice pins s σ H x y v u Q I rx ry h hs;obtain ⟨p, xs, i, z, rfl, rfl, hq, he, q⟩ := h;cases rx;obtain ⟨t, rfl⟩ := ry;obtain ⟨its, r, pl, hz⟩ := I.tuple hq;obtain ⟨j, h1, h2, h3, h4, h5⟩ := JH he;obtain ⟨w, ew, rw'⟩ := r.get h2;have hl := r.length;have hn := vi;have fin : EP X pins σ Q w s := ⟨z, H, I, rw', q⟩;exact subscriptTail_builtinR (x := w) pl.typeIs slot_tuple_getitem.lookup
  (getItem_tuple (j := j) (Q := λ r s' => r = w /\ EP X pins σ Q r s') pl (by lia) (by lia) (by rw [size_toArray, <- hl];exact h1) (by simpa using ew) ⟨rfl, fin⟩) hs
theorem zde : IxR X zdE := by
 intro value slice pins s σ H x y v u Q I rx ry h hs;obtain ⟨z, i, c, rfl, rfl, hz, he, q⟩ := h;obtain ⟨t, rfl⟩ := rx;obtain ⟨t', rfl⟩ := ry;obtain ⟨j, h1, h2, h3, h4, h5⟩ := JH he;have hl : z.cps.toList.length = z.length := by simp [Str.length]
 rw [hl] at h1 h4 h5;have hn := vi;exact tail_any (typeIs_str s z t) slot_str_getitem.lookup (getItem_str (c := c) (by
  have e1 : decide (i < -(2 ^ 63 : Int)) = false := decide_eq_false (by lia);have e2 : decide (i ≥ 2 ^ 63) = false := decide_eq_false (by lia);rw [e1, e2, Bool.or_false]) (by rw [h1];simpa using h2) ⟨.str ⟨#[c]⟩, H, I.tok _, ⟨_, rfl⟩, q⟩) hs
def rIx (K : PySem.W.Frag) : R2 := λ x y H Q => zdF K x y H Q \/ zdD K x y H Q \/ zdE x y H Q
theorem zdf : IxR X (rIx X.K) := ix_list.or (ix_tup.or zde)
theorem Wh (its : List Value) (n j : Nat) (u : Value) : Obj.mapSeq (·.setIfInBounds j u) { cls := .type "list", data := .seq its.toArray n } = { cls := .type "list", data := .seq (its.set j u).toArray n } := by
 simp [Obj.mapSeq]
theorem Inv.lst {pins : List (Addr × Obj)} {σ : St} {H : Hp} {s : Shared} {p : Addr} {xs : List V} (I : Inv X pins σ H s) (h : H p = some (.lst xs)) :
  ∃ (its : List Value) (n : Nat), Vals xs its /\ s.heap.get? p = some { cls := .type "list", data := .seq its.toArray n } /\ xs.length <= sizeLine := by
 obtain ⟨z, its, n, r, e⟩ := I.hok p _ h;exact ⟨its, n, r, e, z⟩
theorem Inv.lstUpd {pins : List (Addr × Obj)} {σ : St} {H : Hp} {s : Shared} {p : Addr} {xs ys : List V} {its its' : List Value} {n n' : Nat} {f : Obj -> Obj} (I : Inv X pins σ H s) (h : H p = some (.lst xs))
  (ho : s.heap.get? p = some { cls := .type "list", data := .seq its.toArray n }) (hf : f { cls := .type "list", data := .seq its.toArray n } = { cls := .type "list", data := .seq its'.toArray n' }) (r : Vals ys its') (hz : ys.length <= sizeLine) (t : Nat) :
  Inv X pins σ (upd H p (.lst ys)) { s with heap := s.heap.update p f, toks := t } := by
 have e : (s.heap.update p f).get? p = some { cls := .type "list", data := .seq its'.toArray n' } := by
  rw [Heap.get?_update_self f ho (by rw [hf] <;> rfl), hf]
 refine I.write (x := p) (e := p) (by rw [h];trivial) (.inl rfl) (λ b u hb q => (Heap.get?_update_other _ _ (Ne.symm hb)).trans q) ⟨_, e⟩ ?_;exact ⟨hz, its', n', r, e⟩
def zcr : V -> V -> V -> Hp -> (Hp -> Prop) -> Prop := λ o i v H Q => ∃ p xs k j, o = .ref p /\ i = .int k /\ H p = some (.lst xs) /\ ixN xs.length k = some j /\ Q (upd H p (.lst (xs.set j v)))
theorem wy : zdV X zcr := by
 intro pins s σ H o i v ov iv u Q I ro ri rv h;obtain ⟨p, xs, k, j, rfl, rfl, hp, hj, q⟩ := h;cases ro;obtain ⟨t, rfl⟩ := ri;obtain ⟨its, n, r, ho, hz⟩ := I.lst hp;obtain ⟨h1, h2, h3, h4⟩ := Vj hj;have hl := r.length;have hn := vi;have I' : Inv X pins σ (upd H p (.lst (xs.set j v))) { s with heap := s.heap.update p (Obj.mapSeq (·.setIfInBounds j u)) } :=
  I.lstUpd hp ho (Wh its n j u) (r.set rv j) (by rw [length_set];exact hz) s.toks
 by_cases h0 : 0 <= k
 ·have hk : k.toNat = j := by
   rw [seqIndex_of h0 h4] at h1;exact Option.some.inj h1
  exact PySem.W.ki_setAt ho h0 (by lia) (by rw [size_toArray, <- hl];exact h4) (by rw [hk];exact ⟨_, I', q⟩)
 ·have hk : (k + (its.toArray.size : Int)).toNat = j := by
   rw [seqIndex_neg (by lia) h3] at h1;rw [size_toArray, <- hl];exact Option.some.inj h1
  exact PySem.W.ki_setBack ho (by lia) (by rw [size_toArray, <- hl];exact h3) (by lia) (by rw [hk];exact ⟨_, I', q⟩)
theorem Q3 (lo hi : Option Int) (n : Nat) : (sliceBounds lo hi none n).1 = ((HT.sIx n 0 lo : Nat) : Int) /\ (sliceBounds lo hi none n).2.1 = ((HT.sIx n n hi : Nat) : Int) /\ (sliceBounds lo hi none n).2.2 = 1 := by
 refine ⟨?_, ?_, rfl⟩
 ·cases lo with
  | none => simp [sliceBounds, HT.sIx]
  | some i =>
   simp only [sliceBounds, HT.sIx, Option.getD_none, show (1 : Int) > 0 by decide, if_true];by_cases h : i < 0
   ·simp only [h, if_true] <;> lia
   ·simp only [h, if_false] <;> lia
 ·cases hi with
  | none => simp [sliceBounds, HT.sIx]
  | some i =>
   simp only [sliceBounds, HT.sIx, Option.getD_none, show (1 : Int) > 0 by decide, if_true];by_cases h : i < 0
   ·simp only [h, if_true] <;> lia
   ·simp only [h, if_false] <;> lia
theorem Z7 (its : List Value) (lo hi : Option Int) : slicePick its.toArray lo hi none = ((its.drop (HT.sIx its.length 0 lo)).take (HT.sIx its.length its.length hi - HT.sIx its.length 0 lo)).toArray := by
 obtain ⟨h1, h2, h3⟩ := Q3 lo hi its.toArray.size;unfold slicePick;rw [h1, h2, h3];simp only [sliceRange_one, pick_run, size_toArray] <;> rfl
def zaG (K : PySem.W.Frag) : V -> Option Int -> Option Int -> Hp -> VK -> Prop := λ x lo hi H Q => ∃ a xs, x = .ref a /\ SqL K H a xs /\ ∀ p, H p = none -> Q (.ref p) (upd H p (.lst (jz xs lo hi)))
theorem zbJ : SlR X (zaG X.K) := by
 intro pins s σ H x v vl vu lo hi sl Q I rx hs pl pu h;obtain ⟨a, xs, rfl, hx, q⟩ := h;cases rx;obtain ⟨its, r, ht, hz⟩ := I.list hx;have hlen := r.length;refine ⟨"list", _, slot_list_getitem.lookup, ht.isList.typeIs, ?_⟩;refine wpAny_getItem_list_slice ht.isList hs pl pu .none (by simp) ?_ (by rw [size_toArray] <;> lia);rw [Z7, <- hlen];refine ⟨.ref s.heap.objs.size, _, I.laid (t' := s.toks) (o := .lst (jz xs lo hi)) (λ b ob q => Heap.get?_push_of_some _ q) (Nat.le_refl _) ?_, rfl, q _ (I.hok.fresh (Nat.le_refl _))⟩;exact ⟨Nat.le_trans (XD xs lo hi) hz, _, 0, (r.drop (HT.sIx xs.length 0 lo)).take (HT.sIx xs.length xs.length hi - HT.sIx xs.length 0 lo), Heap.get?_push_size _ rfl⟩
def jk : V -> Bool
 | .non => true
 | .bl _ => true
 | .int _ => true
 | .str _ => true
 | _ => false
def eqV : V -> V -> Bool
 | .non, .non => true
 | .bl a, .bl b => a == b
 | .bl a, .int b => (if a then 1 else 0) == b
 | .int a, .bl b => a == (if b then 1 else 0)
 | .int a, .int b => a == b
 | .str a, .str b => a == b
 | _, _ => false
theorem vn {A : Around} {s : Shared} {y x : V} {u v : Value} (ry : RelV y u) (rx : RelV x v) (fy : jk y = true) (fx : jk x = true) : SeqAt.EqAt A s u v (eqV y x) := by
 cases y with
 | non =>
  cases ry;cases x with
  | non => cases rx;exact SeqAt.EqAt.same _
  | bl b => cases rx;exact SeqAt.EqAt.none_bool b
  | int b => obtain ⟨t, rfl⟩ := rx;exact SeqAt.EqAt.none_int b t
  | str b => obtain ⟨t, rfl⟩ := rx;exact SeqAt.EqAt.none_str b t
  | _ => exact absurd (show false = true from fx) Bool.false_ne_true
 | bl a =>
  cases ry;cases x with
  | non => cases rx;exact SeqAt.EqAt.bool_none a
  | bl b => cases rx;exact SeqAt.EqAt.bool_bool a b
  | int b => obtain ⟨t, rfl⟩ := rx;exact SeqAt.EqAt.bool_int a b t
  | str b => obtain ⟨t, rfl⟩ := rx;exact SeqAt.EqAt.bool_str a b t
  | _ => exact absurd (show false = true from fx) Bool.false_ne_true
 | int a =>
  obtain ⟨t', rfl⟩ := ry;cases x with
  | non => cases rx;exact SeqAt.EqAt.int_none a t'
  | bl b => cases rx;exact SeqAt.EqAt.int_bool a t' b
  | int b => obtain ⟨t, rfl⟩ := rx;exact SeqAt.EqAt.int_int a t' b t
  | str b => obtain ⟨t, rfl⟩ := rx;exact SeqAt.EqAt.int_str a t' b t
  | _ => exact absurd (show false = true from fx) Bool.false_ne_true
 | str a =>
  obtain ⟨t', rfl⟩ := ry;cases x with
  | non => cases rx;exact SeqAt.EqAt.str_none a t'
  | bl b => cases rx;exact SeqAt.EqAt.str_bool a t' b
  | int b => obtain ⟨t, rfl⟩ := rx;exact SeqAt.EqAt.str_int a t' b t
  | str b => obtain ⟨t, rfl⟩ := rx;exact SeqAt.EqAt.str_str a t' b t
  | _ => exact absurd (show false = true from fx) Bool.false_ne_true
 | _ => exact absurd (show false = true from fy) Bool.false_ne_true
def eqU (x : V) (u : Value) : Bool := match u with
 | .none => eqV .non x
 | .bool b => eqV (.bl b) x
 | .int i _ => eqV (.int i) x
 | .str z _ => eqV (.str z) x
 | _ => false
theorem zbp {x y : V} {u : Value} (r : RelV y u) (f : jk y = true) : eqU x u = eqV y x := by
 cases y with
 | non => cases r;rfl
 | bl b => cases r;rfl
 | int i => obtain ⟨t, rfl⟩ := r;rfl
 | str z => obtain ⟨t, rfl⟩ := r;rfl
 | _ => exact absurd (show false = true from f) Bool.false_ne_true
theorem wW {x : V} : ∀ {xs : List V} {us : List Value}, Vals xs us -> xs.all jk = true -> us.any (eqU x) = xs.any λ y => eqV y x
 | _, _, .nil, _ => rfl
 | y :: xs, u :: us, .cons r t, f => by
  rw [all_cons, Bool.and_eq_true] at f;rw [any_cons, any_cons, zbp r f.1, wW t f.2]
theorem xC {A : Around} {s : Shared} {x : V} {v : Value} (rx : RelV x v) (fx : jk x = true) : ∀ {xs : List V} {us : List Value}, Vals xs us -> xs.all jk = true -> ∀ u ∈ us, SeqAt.EqAt A s u v (eqU x u)
 | _, _, .nil, _ => λ u hu => by cases hu
 | y :: xs, u :: us, .cons r t, f => λ u' hu => by
  rw [all_cons, Bool.and_eq_true] at f;rcases List.mem_cons.mp hu with rfl|hu
  ·rw [zbp r f.1];exact vn r rx f.1 fx
  ·exact xC rx fx t f.2 u' hu
def inV (x : V) (xs : List V) : Bool := xs.any λ y => eqV y x
def rIn (K : PySem.W.Frag) (neg : Bool) : R2 := λ x y H Q => ∃ p xs, y = .ref p /\ (SqL K H p xs \/ SqT K H p xs) /\ jk x = true /\ xs.all jk = true /\ Q (.bl (if neg then !inV x xs else inV x xs)) H
theorem V2 : OpR X (compareOp .In) (rIn X.K false) := by
 intro pins s σ H x y v u Q I rx ry h;obtain ⟨p, xs, rfl, hq, fx, fs, q⟩ := h;cases ry;rcases hq with hq|hq
 ·obtain ⟨its, r, pl, hz⟩ := I.list hq;refine SeqAt.in_listAt (eqU x) pl.isList (λ w hw => xC rx fx r fs w (by simpa using hw)) ⟨.bl _, H, I, rfl, ?_⟩;rw [show its.toArray.any (eqU x) = its.any (eqU x) by simp, wW r fs];exact q
 ·obtain ⟨its, r, pl, hz⟩ := I.tuple hq;refine SeqAt.in_tupleAt (eqU x) pl (λ w hw => xC rx fx r fs w (by simpa using hw)) ⟨.bl _, H, I, rfl, ?_⟩;rw [show its.toArray.any (eqU x) = its.any (eqU x) by simp, wW r fs];exact q
theorem Jo : OpR X (compareOp .NotIn) (rIn X.K true) := by
 intro pins s σ H x y v u Q I rx ry h;obtain ⟨p, xs, rfl, hq, fx, fs, q⟩ := h;cases ry;rcases hq with hq|hq
 ·obtain ⟨its, r, pl, hz⟩ := I.list hq;refine SeqAt.notIn_listAt (eqU x) pl.isList (λ w hw => xC rx fx r fs w (by simpa using hw)) ⟨.bl _, H, I, rfl, ?_⟩;rw [show its.toArray.any (eqU x) = its.any (eqU x) by simp, wW r fs];exact q
 ·obtain ⟨its, r, pl, hz⟩ := I.tuple hq;refine SeqAt.notIn_tupleAt (eqU x) pl (λ w hw => xC rx fx r fs w (by simpa using hw)) ⟨.bl _, H, I, rfl, ?_⟩;rw [show its.toArray.any (eqU x) = its.any (eqU x) by simp, wW r fs];exact q
theorem CallR.or {f : Value} {r r' : List V -> Hp -> VK -> Prop} (h : CallR X f r) (h' : CallR X f r') : CallR X f (λ xs H Q => r xs H Q \/ r' xs H Q) := by
 intro pins s σ H xs us Q I rs q;rcases q with q|q
 ·exact h pins s σ H xs us Q I rs q
 ·exact h' pins s σ H xs us Q I rs q
theorem JA : CallR X (.type "list") (λ xs H Q => ∃ p ys, xs = [.ref p] /\ (SqL X.K H p ys \/ SqT X.K H p ys) /\ ∀ l, H l = none -> Q (.ref l) (upd H l (.lst ys))) := by
 intro pins s σ H xs us Q I r h;obtain ⟨p, ys, rfl, hq, q⟩ := h;obtain ⟨u, rfl, rx⟩ := vv r;cases rx;have fin : ∀ (its : List Value), Vals ys its -> ys.length <= sizeLine -> ∀ (h' : Heap) (c' : Nat), (∀ b o', s.heap.get? b = some o' -> h'.get? b = some o') ->
   h'.get? s.heap.objs.size = some { cls := .type "list", dict := none, data := .seq its.toArray c', slots := #[] } -> EP X pins σ Q (.ref s.heap.objs.size) { s with heap := h' } := λ its r' hz h' c' kp e =>
  ⟨.ref s.heap.objs.size, _, I.laid (t' := s.toks) kp (Nat.le_refl _) (show ObjOk X.prog X.w _ h' _ (.lst ys) from ⟨hz, its, c', r', e⟩), rfl, q _ (I.hok.fresh (Nat.le_refl _))⟩
 rcases hq with hq|hq
 ·obtain ⟨its, r', pl, hz⟩ := I.list hq;have hlen := r'.length;obtain ⟨o, ho, hc, n, hd⟩ := pl.isList;exact call_list_seq p (.inl rfl) ho hc hd (λ h' c' kp e => fin its r' hz h' c' kp e) (by simp only [size_toArray] <;> lia)
 ·obtain ⟨its, r', pl, hz⟩ := I.tuple hq;have hlen := r'.length;obtain ⟨o, ho, hc, n, hd⟩ := pl;exact call_list_seq p (.inr rfl) ho hc hd (λ h' c' kp e => fin its r' hz h' c' kp e) (by simp only [size_toArray] <;> lia)
def tyV (K : PySem.W.Frag) (T : String) (x : V) (H : Hp) : Prop := match x with
 | .str _ => T = "str"
 | .int _ => T = "int"
 | .ref p => (T = "list" /\ ∃ xs, SqL K H p xs) \/ (T = "tuple" /\ ∃ o, K.lookup p = some o /\ o.cls = .type "tuple" /\ o.dict = none) \/
   (T = "dict" /\ ((∃ kvs, H p = some (.dK kvs)) \/ ∃ kvs, H p = some (.dT kvs))) \/ (T = "set" /\ ∃ S n, H p = some (.set S n))
 | _ => False
theorem zao {pins : List (Addr × Obj)} {σ : St} {H : Hp} {s : Shared} {T : String} {x : V} {v : Value} (I : Inv X pins σ H s) (r : RelV x v) (ty : tyV X.K T x H) :
  s.TypeIs v T /\ ∀ a, v = .ref a -> ∃ ob, s.heap.get? a = some ob /\ ob.dict = none := by
 cases x with
 | str z =>
  obtain ⟨t, rfl⟩ := r;cases (show T = "str" from ty);exact ⟨typeIs_str s z t, λ _ e => nomatch e⟩
 | int i =>
  obtain ⟨t, rfl⟩ := r;cases (show T = "int" from ty);exact ⟨typeIs_int s i t, λ _ e => nomatch e⟩
 | ref p =>
  cases r;rcases ty with ⟨rfl, xs, hq⟩|⟨rfl, o, hk, hc, hd⟩|⟨rfl, hk⟩|⟨rfl, S, n, hk⟩
  ·obtain ⟨its, _, pl, _⟩ := I.list hq;refine ⟨pl.isList.typeIs, λ a e => ?_⟩;cases e;obtain ⟨o, n, e, c, hd, _⟩ := pl;exact ⟨o, e, hd⟩
  ·refine ⟨⟨o, I.kIn p o hk, hc⟩, λ a e => ?_⟩;cases e;exact ⟨o, I.kIn _ o hk, hd⟩
  ·have z : ∃ o, s.heap.get? p = some o /\ o.ExactDict := by
    rcases hk with ⟨kvs, hk⟩|⟨kvs, hk⟩
    ·obtain ⟨_, _, _, _, o, _, _, e, ex, _⟩ := I.hok p _ hk;exact ⟨o, e, ex⟩
    ·obtain ⟨_, _, _, _, o, _, _, e, ex, _⟩ := I.hok p _ hk;exact ⟨o, e, ex⟩
   obtain ⟨o, e, ex⟩ := z;refine ⟨⟨o, e, ex.1⟩, λ a e2 => ?_⟩;cases e2;exact ⟨o, e, ex.2.1⟩
  ·obtain ⟨o, _, _, _, e, ex, _⟩ := I.hok p _ hk;refine ⟨⟨o, e, ex.1⟩, λ a e2 => ?_⟩;cases e2;exact ⟨o, e, ex.2.1⟩
 | _ => exact False.elim ty
def tBM0 (K : PySem.W.Frag) (T : String) (r : V -> List V -> Hp -> VK -> Prop) (to : TE) : TE := λ σ H Q => to σ H λ x H1 => tyV K T x H1 /\ r x [] H1 Q
def tBM (K : PySem.W.Frag) (T : String) (r : V -> List V -> Hp -> VK -> Prop) (to : TE) (t : TA) : TE := λ σ H Q => to σ H λ x H1 => tyV K T x H1 /\ t σ H1 λ xs H2 => r x xs H2 Q
variable {o e : Expr} {es : List Expr} {to : TE} {t : TA} {name : Str} {apos cpos : Pos} {T id : String} {r : V -> List V -> Hp -> VK -> Prop}
theorem zaO (pa : PlainAttrs T) (slot : Slot T name id) (hty : typeOf (.builtin id) = pure (.type "method_descriptor")) (hm : MtR X id r) (ho : PE X o to)
  (hbase : attributeBase o name X.env (eval o X.env) = eval o X.env := by rfl) (hline : (apos.endLine == cpos.line) = true := by rfl) : PE X (.Call (.Attribute o name apos) [] [] cpos) (tBM0 X.K T r to) := by
 intro pins s σ H Q I h;refine wpAny_Call_method0_late hbase hline (qQ (ho pins s σ H _ I h) λ v s1 x H1 I1 r1 qq_ => ?_);obtain ⟨ty, q1⟩ := qq_;obtain ⟨h1, h2⟩ := zao I1 r1 ty;exact ⟨T, id, pa, slot, hty, h1, h2, Calls.callWith_builtin rfl (PySem.evalArgs_none (hm pins s1 σ H1 x [] v [] Q I1 r1 .nil q1))⟩
theorem z7 (pa : PlainAttrs T) (slot : Slot T name id) (hty : typeOf (.builtin id) = pure (.type "method_descriptor")) (hm : MtR X id r) (ho : PE X o to) (ha : PA X (e :: es) t)
  (hbase : attributeBase o name X.env (eval o X.env) = eval o X.env := by rfl)
  (hfew : ((backTo cpos (starEach (e :: es) X.env)).all (λ x => !x.1) && (backToKw cpos (keywordEach [] X.env)).all (λ x => x.1.isSome)
   && decide ((e :: es).length + ([] : List Keyword).length + (if ([] : List Keyword).isEmpty then 0 else 1) < 30)) = true := by rfl)
  (hline : (apos.endLine == cpos.line) = true := by rfl) (hs : starEach (e :: es) X.env = (false, eval e X.env) :: starEach es X.env := by rfl) (hplain : (backTo cpos (starEach es X.env)).any (·.1) = false := by rfl) :
  PE X (.Call (.Attribute o name apos) (e :: es) [] cpos) (tBM X.K T r to t) := by
 intro pins s σ H Q I h;refine wpAny_Call_method_late hbase hfew hline rfl (qQ (ho pins s σ H _ I h) λ v s1 x H1 I1 r1 qq_ => ?_);obtain ⟨ty, q1⟩ := qq_;obtain ⟨h1, h2⟩ := zao I1 r1 ty;refine ⟨T, id, pa, slot, hty, h1, h2, ?_⟩;have hA := ha cpos pins s1 σ H1 _ I1 q1;rw [hs] at hA ⊢;refine Calls.callWith_builtin (by show (false || (backTo cpos (starEach es X.env)).any (·.1)) = false;rw [hplain] <;> rfl) (Calls.evalArgs_plain ?_);exact thn hA λ us s2 ⟨vs, H2, I2, r2, q2⟩ => hm pins s2 σ H2 x vs v us Q I2 r1 r2 q2
end
end L2
namespace L2
open PySem PySem.Spec PyProof.Rows
def MtM (X : Cx) (id : String) (r : V -> List V -> Hp -> VK -> Prop) : Prop :=
 ∀ (pins : List (Addr × Obj)) (s : Shared) (σ : St) (H : Hp) (x : V) (xs : List V) (v : Value) (us : List Value) (Q : VK), Inv X pins σ H s -> RelV x v -> Vals xs us -> r x xs H Q ->
  wpAny (model X.prog X.w) X.A (call (.builtin id) (v :: us)) (EP X pins σ Q) X.xe s
theorem Vals.one {x : V} {us : List Value} (h : Vals [x] us) : ∃ u, us = [u] /\ RelV x u := by
 cases h with
 | cons r t => cases t;exact ⟨_, rfl, r⟩
theorem Vals.two {x y : V} {us : List Value} (h : Vals [x, y] us) : ∃ u v, us = [u, v] /\ RelV x u /\ RelV y v := by
 cases h with
 | cons r t =>
  obtain ⟨v, rfl, q⟩ := Vals.one t;exact ⟨_, _, rfl, r, q⟩
theorem Vals.zero : ∀ {us : List Value}, Vals [] us -> us = []
 | _, .nil => rfl
theorem Vals.dropLast {xs : List V} {us : List Value} (h : Vals xs us) : Vals xs.dropLast us.dropLast := by
 induction h with
 | nil => exact .nil
 | cons r t ih =>
  cases t with
  | nil => exact .nil
  | cons q t' => exact .cons r ih
theorem Vals.eraseIdx : ∀ {xs : List V} {us : List Value} (i : Nat), Vals xs us -> Vals (xs.eraseIdx i) (us.eraseIdx i)
 | _, _, _, .nil => .nil
 | _, _, 0, .cons _ t => t
 | _, _, i + 1, .cons r t => .cons r (Vals.eraseIdx i t)
theorem Vals.reverse {xs : List V} {us : List Value} (h : Vals xs us) : Vals xs.reverse us.reverse := by
 induction h with
 | nil => exact .nil
 | cons r t ih => rw [List.reverse_cons, List.reverse_cons];exact Vals.append ih (.cons r .nil)
theorem Vals.rep {xs : List V} {us : List Value} (h : Vals xs us) : ∀ k : Nat, Vals (List.replicate k xs).flatten (List.replicate k us).flatten
 | 0 => .nil
 | k + 1 => by
  rw [replicate_succ, replicate_succ, flatten_cons, flatten_cons];exact Vals.append h (Vals.rep h k)
theorem QD {α : Type} : ∀ (l : List α) (i : Nat), (l.eraseIdx i).length <= l.length
 | [], _ => Nat.le_refl _
 | _ :: _, 0 => Nat.le_succ _
 | _ :: r, i + 1 => Nat.succ_le_succ (QD r i)
theorem QN (its : List Value) : ∀ (k : Nat) (acc : List Value),
  List.foldl (λ x1 x2 => x1 ++ x2) acc.toArray (List.replicate k its.toArray) = (acc ++ (List.replicate k its).flatten).toArray
 | 0, acc => by simp
 | k + 1, acc => by
  have e : acc.toArray ++ its.toArray = (acc ++ its).toArray := by simp
  have e2 : (acc ++ its) ++ (List.replicate k its).flatten = acc ++ (List.replicate (k + 1) its).flatten := by
   rw [replicate_succ, flatten_cons, append_assoc]
  rw [<- e2, <- QN its k (acc ++ its), <- e, replicate_succ, foldl_cons]
section
variable {X : Cx} {pins : List (Addr × Obj)} {σ : St} {H : Hp} {s : Shared} {l b : Addr} {xs ys zs : List V}
theorem Inv.lset {its its' : List Value} {n : Nat} {f : Array Value -> Array Value} {t' : Nat} (I : Inv X pins σ H s) (hH : H l = some (.lst xs))
  (e : s.heap.get? l = some { cls := .type "list", data := .seq its.toArray n }) (hf : f its.toArray = its'.toArray) (hv : Vals ys its') (hz : ys.length <= sizeLine) :
  Inv X pins σ (upd H l (.lst ys)) { s with heap := s.heap.update l (Obj.mapSeq f), toks := t' } := by
 have q := PySem.IsL.update e f;rw [hf] at q;refine I.write (x := l) (e := l) (by rw [hH];exact trivial) (.inl rfl) (λ b' u hb hu => (Heap.get?_update_other s.heap (Obj.mapSeq f) (Ne.symm hb)).trans hu) ⟨_, q⟩ ?_;exact ⟨hz, its', _, hv, q⟩
theorem Inv.lnew {its : List Value} {t' : Nat} (I : Inv X pins σ H s) (hv : Vals ys its) (hz : ys.length <= sizeLine) :
  Inv X pins σ (upd H s.heap.objs.size (.lst ys)) { s with heap := s.heap.push { cls := .type "list", data := .seq its.toArray }, toks := t' } :=
 I.laid (λ _ _ q => Heap.get?_push_of_some _ q) (Nat.le_refl _) ⟨hz, its, 0, hv, Heap.get?_push_size _ rfl⟩
theorem Inv.fresh (I : Inv X pins σ H s) : H s.heap.objs.size = none := I.hok.fresh (Nat.le_refl _)
theorem Inv.lstM (I : Inv X pins σ H s) (hH : H l = some (.lst xs)) : xs.length <= sizeLine /\ ∃ (its : List Value) (n : Nat), Vals xs its /\ xs.length = its.length /\ s.heap.get? l = some { cls := .type "list", data := .seq its.toArray n } := by
 obtain ⟨z, its, n, r, e⟩ := I.hok l _ hH;exact ⟨z, its, n, r, r.length, e⟩
theorem Xb {n : Nat} (h : n <= sizeLine) : Builtin.List.listTooLong n = false := by
 unfold Builtin.List.listTooLong;exact decide_eq_false (by lia)
end
section
variable {X : Cx}
def WX : V -> List V -> Hp -> VK -> Prop := λ x vs H Q => ∃ l xs y, x = .ref l /\ vs = [y] /\ H l = some (.lst xs) /\ xs.length < sizeLine /\ Q .non (upd H l (.lst (xs ++ [y])))
theorem zL : MtM X "list.append" WX := by
 intro pins s σ H x vs v us Q I rx rv h;obtain ⟨l, xs, y, rfl, rfl, hH, hz, q⟩ := h;cases rx;obtain ⟨u, rfl, ru⟩ := rv.one;obtain ⟨z, its, n, r, hl, e⟩ := I.lstM hH;refine call_meets F.slot_list_append ⟨_, e, rfl⟩ F.entry_list_append (F.args_list_append_2 _ _) (PySem.list_append l its.toArray n u (by rw [size_toArray];lia)) ⟨e, ?_⟩;refine ⟨.non, _, I.lset (its' := its ++ [u]) hH e (by simp) (r.append (.cons ru .nil)) ?_, rfl, q⟩;rw [length_append, length_singleton]
 lia
def zbS : V -> List V -> Hp -> VK -> Prop := λ x vs H Q => ∃ l b xs zs, x = .ref l /\ vs = [.ref b] /\ H l = some (.lst xs) /\ H b = some (.lst zs) /\ xs.length + zs.length <= sizeLine /\ Q .non (upd H l (.lst (xs ++ zs)))
theorem QB : MtM X "list.extend" zbS := by
 intro pins s σ H x vs v us Q I rx rv h;obtain ⟨l, b, xs, zs, rfl, rfl, hH, hB, hz, q⟩ := h;cases rx;obtain ⟨u, rfl, ru⟩ := rv.one;cases ru;obtain ⟨z, its, n, r, hl, e⟩ := I.lstM hH;obtain ⟨z2, its2, n2, r2, hl2, e2⟩ := I.lstM hB;have hsz : its.toArray.size + its2.toArray.size <= sizeLine := by rw [size_toArray, size_toArray];lia
 have hlong : ¬ (!its.toArray.isEmpty && Builtin.List.listTooLong (its.toArray.size + its2.toArray.size)) = true := by
  rw [Xb hsz, Bool.and_false];exact Bool.false_ne_true
 refine call_meets F.slot_list_extend ⟨_, e, rfl⟩ F.entry_list_extend (F.args_list_extend_2 _ _)
  (AutoSeq1.list_extend_list_list_0 l its.toArray n b its2.toArray n2 hlong (by rw [size_toArray];lia) (by lia)) ⟨e, e2, ?_⟩
 refine ⟨.non, _, I.lset (its' := its ++ its2) hH e (by simp) (r.append r2) ?_, rfl, q⟩;rw [length_append]
 lia
def zcS : V -> List V -> Hp -> VK -> Prop := λ x vs H Q => ∃ l xs i k y, x = .ref l /\ vs = [.int i] /\ H l = some (.lst xs) /\ -(2 ^ 63) <= i /\ i < 2 ^ 63 /\ seqIndex? i xs.length = some k /\ xs[k]? = some y /\ Q y (upd H l (.lst (xs.eraseIdx k)))
theorem xB : MtM X "list.pop" zcS := by
 intro pins s σ H x vs v us Q I rx rv h;obtain ⟨l, xs, i, k, y, rfl, rfl, hH, h1, h2, hk, hy, q⟩ := h;cases rx;obtain ⟨u, rfl, ru⟩ := rv.one;obtain ⟨t, rfl⟩ := ru;obtain ⟨z, its, n, r, hl, e⟩ := I.lstM hH;obtain ⟨w, hw, rw'⟩ := r.get hy;refine call_meets F.slot_list_pop ⟨_, e, rfl⟩ F.entry_list_pop (F.args_list_pop_2 _ _)
  (MeetsSeq.list_pop_at l its.toArray n i t k w (fitsIndex_both h1 h2) (by rw [size_toArray, <- hl];exact hk) (by rw [<- Array.getElem?_toList];exact hw) (by rw [size_toArray];lia)) ⟨e, ?_⟩
 refine ⟨y, _, I.lset (its' := its.eraseIdx k) hH e ?_ (r.eraseIdx k) ?_, rw', q⟩
 ·show its.toArray.eraseIdxIfInBounds k = (its.eraseIdx k).toArray
  rw [List.eraseIdxIfInBounds_toArray]
 ·have := QD xs k
  lia
def zaH : V -> List V -> Hp -> VK -> Prop := λ x vs H Q => ∃ l xs, x = .ref l /\ vs = [] /\ H l = some (.lst xs) /\ Q .non (upd H l (.lst xs.reverse))
theorem ZL : MtM X "list.reverse" zaH := by
 intro pins s σ H x vs v us Q I rx rv h;obtain ⟨l, xs, rfl, rfl, hH, q⟩ := h;cases rx;have hus := rv.zero;subst hus;obtain ⟨z, its, n, r, hl, e⟩ := I.lstM hH;refine call_meets F.slot_list_reverse ⟨_, e, rfl⟩ F.entry_list_reverse (F.args_list_reverse_1 _) (AutoSeq1.list_reverse_list_0 l its.toArray n (by rw [size_toArray];lia)) ⟨e, ?_⟩;refine ⟨.non, _, I.lset (its' := its.reverse) hH e (by simp) r.reverse ?_, rfl, q⟩;rw [length_reverse]
 lia
def zd0 : R2 := λ x y H Q => ∃ l k xs, x = .ref l /\ y = .int k /\ H l = some (.lst xs) /\ -(2 ^ 63) <= k /\ k < 2 ^ 63 /\ xs.length * k.toNat <= sizeLine /\
 ∀ p, H p = none -> Q (.ref p) (upd H p (.lst (List.replicate k.toNat xs).flatten))
theorem zb4 {α : Type} (xs : List α) (k : Nat) : (List.replicate k xs).flatten.length = k * xs.length := by
 induction k with
 | zero => simp
 | succ k ih => rw [replicate_succ, flatten_cons, length_append, ih, Nat.succ_mul, Nat.add_comm]
theorem zc1 : OpR X (binaryOp .Mult) zd0 := by
 intro pins s σ H x y v u Q I rx ry h;obtain ⟨l, k, xs, rfl, rfl, hH, h1, h2, hz, q⟩ := h;cases rx;obtain ⟨t, rfl⟩ := ry;obtain ⟨z, its, n, r, hl, e⟩ := I.lstM hH;have hlen : its.toArray.size * k.toNat <= sizeLine := by rw [size_toArray, <- hl];exact hz
 have hcap : ¬ its.toArray.size * k.toNat > (2 ^ 63 - 1) / 8 := by
  have : (sizeLine : Nat) <= (2 ^ 63 - 1) / 8 := by decide
  lia
 have hfit : ¬ (!Builtin.List.listFitsIndex k) = true := by
  rw [fitsIndex_both h1 h2];exact Bool.false_ne_true
 have hlong : ¬ Builtin.List.listTooLong (its.toArray.size * k.toNat) = true := by
  rw [Xb hlen];exact Bool.false_ne_true
 have hnew : List.foldl (λ x1 x2 => x1 ++ x2) #[] (List.replicate (if its.toArray.isEmpty = true then 0 else k.toNat) its.toArray) = (List.replicate k.toNat its).flatten.toArray := by
  have f0 : ∀ m : Nat, List.foldl (λ x1 x2 => x1 ++ x2) #[] (List.replicate m its.toArray) = (List.replicate m its).flatten.toArray := λ m => by
   have := QN its m [];rw [nil_append] at this;exact this
  rw [f0];cases its with
  | nil => simp
  | cons a r' => rw [if_neg (by simp)]
 refine wpAny_binaryOp_repeat_ref (T := "list") (U := "int") (by decide) ⟨_, e, rfl⟩ (λ s' => typeIs_int s' k t) noFill_list_mul F.fills_int_mul F.slot_int_rmul repeat_list F.slot_int_index.lookup
  (call_meets F.slot_int_rmul (typeIs_int s k t) F.entry_int_rmul (F.args_int_rmul_2 _ _) (int___rmul___int_list k t l its.toArray n)
   ⟨e, rfl, ⟨_, e, rfl⟩, call_meets F.slot_list_mul ⟨_, e, rfl⟩ F.entry_list_mul (F.args_list_mul_2 _ _) (AutoListH.list___mul___list_int_3 l its.toArray n k t hfit hcap hlong) ⟨e, ?_⟩⟩)
 rw [hnew];exact ⟨.ref _, _, I.lnew (t' := s.toks) (r.rep k.toNat) (by rw [zb4, Nat.mul_comm];exact hz), rfl, q _ I.fresh⟩
end
section
variable {prog : Program} {w : World} {A : Around} {E : Value -> Shared -> Prop} {s : Shared}
end
section
variable {X : Cx}
end
end L2
namespace Att
open PySem PySem.W PySem.Calls PyProof.Rows
theorem vR {P : Params} {h : Heap} : ∀ (ns : List Int) (vs : List Value), WellAll P h vs (ns.map WData.int) -> IntsAre vs ns := by
 intro ns
 induction ns with
 | nil =>
  intro vs w;rw [map_nil] at w;cases w;exact .nil
 | cons n ns ih =>
  intro vs w;rw [map_cons] at w;cases w with
  | cons a b =>
   cases a;exact .cons _ _ (ih _ b)
theorem VL {l : OpenLaw} {n : Nat} (hn : l.most = some n) {P : Params} {h : Heap} {args : List WData} {vals : List Value}
  (hpre : l.row.toRowW.claim.pre args = true) (hwl : WellAll P h vals args) :
  ∃ a vs ns, vals = [Value.ref a] /\ args = [WData.list (ns.map WData.int)] /\ h.get? a = some { cls := .type "list", data := .seq vs.toArray } /\ IntsAre vs ns /\ ns.length <= n := by
 have hsh : WShape.hasAll [] args [.list .int] = true := (pre_splitW hpre).1;have hc : l.pre.holds [] { args := args } = true := (pre_splitW hpre).2;obtain ⟨d, r, rfl, h1, h2⟩ := hasAllW_cons hsh;obtain rfl := hasAllW_nil h2;obtain ⟨xs, rfl, h3⟩ := hasW_list h1;obtain ⟨ns, rfl⟩ := items_int h3;have hlen : ns.length <= n := by
  unfold OpenLaw.pre at hc;have h4 : (WTm.not (.lt (.lit (.int (n : Int))) (.len (.arg 0)))).holds [] { args := [.list (ns.map .int)] } = true := by
   have h4 := (holds_andW hc).1;rw [hn] at h4;exact h4
  have h5 := condW_of h4 (w_not (w_lt w_lit (w_len_list (w_arg rfl))));rw [length_map] at h5;refine Nat.le_of_not_lt λ q => ?_;have q' : (n : Int) < ((ns.length : Nat) : Int) := by lia
  first
   | (rw [decide_eq_true q'] at h5;exact absurd h5 (by decide))
   | (simp at h5;lia)
 cases hwl with
 | cons w1 w2 =>
  cases w2;cases w1 with
  | list ho hall => exact ⟨_, _, ns, rfl, rfl, ho, vR ns _ hall, hlen⟩
theorem VU (l : OpenLaw) (args : List WData) : l.row.toRowW.claim.post args (.bool true) args = true :=
 postW_of (r := l.row.toRowW) (X := (true == true))
  (show WShape.has [] (.bool true) .bool = true by first|rfl|decide|simp [WShape.has, WShape.arms, WShape.armsAll])
  (show (WTm.eq .res (.lit (.bool true))).value [] { args := args, res := some (.bool true), after := args } = some (.bool (true == true)) from w_eq_bool (w_res rfl) w_lit) rfl
theorem attach_call {l : OpenLaw} {n : Nat} {q : Program} {loose : List Str} {XP : (Str -> Option Value) -> Heap -> Prop} {YP : World -> Heap -> Prop} {d : DefRec}
  (hn : l.most = some n) (hdf : d.params.defaults = [])
  (call : ∀ (w : World) (s₀ s₁ : Shared) (mg mb : Str -> Option Value) (fa : Addr) (o : Obj) (pm cd doc : Value) (a : Addr) (vs : List Value) (ns : List Int),
   Ground q loose [] XP w s₀ mg mb s₁.heap -> YP w s₁.heap ->
   s₁.heap.get? fa = some o -> o.data = .func (docDef d.name d.params d.body d.scope pm cd doc) -> s₁.heap.CodeRec cd d.name -> mg d.name = some (.ref fa) ->
   s₁.heap.get? a = some { cls := .type "list", data := .seq vs.toArray } -> IntsAre vs ns -> ns.length <= n -> s₁.gens = #[] ->
   codeAny (model l.prog w) callerA (.call (.ref fa) ⟨[.ref a], []⟩) (λ r s' => r = .ok (.ret (.bool true)) /\ OldK s₁.heap s'.heap /\ s'.os = s₁.os /\ AllBare s'.gens) s₁) :
  WalkO q loose XP YP l.row.toRowW d [] (λ f vs => PySem.call f vs) := by
 intro w s₀ s₁ mg mb G Y fa o pm cd doc dV kV ho hd hcd hD hmg hg args vals as hpre hlay hrd hwl hlo;obtain rfl : dV = .none := Dflts.none hD hdf;obtain rfl : kV = .none := Dflts.noKw hD;obtain ⟨a, vs, ns, rfl, rfl, hobj, hints, hlen⟩ := VL hn hpre hwl;refine enter_call (codeAny_mono (call w s₀ s₁ mg mb fa o pm cd doc a vs ns G Y ho (fd_plain hd) hcd hmg hobj hints hlen hg) λ r s' hq => ?_);obtain ⟨rfl, h2, h3, h4⟩ := hq;exact ⟨.inl ⟨.bool true, .bool true, [], rfl, λ _ => rfl, .bool true, VU l _, λ _ => ⟨List.Pairwise.nil, λ _ hm => (nomatch hm)⟩⟩, h2, h3, h4⟩
section
variable {prog : Program} {w : World} {A : Around} {E : Value -> Shared -> Prop} {s : Shared} {K : Frag}
def ledger (h : Heap) (L d : Addr) : List (Addr × Obj) := (List.range h.objs.size).filterMap λ a => if a = L \/ a = d then none else (h.get? a).map λ o => (a, o)
end
end Att
namespace L2
open PySem PySem.Spec PyProof.Rows
theorem Qp : ∀ {vs : List Value} {ns : List Int}, IntsAre vs ns -> Vals (ns.map V.int) vs
 | _, _, .nil => .nil
 | _, _, .cons n t h => .cons ⟨t, rfl⟩ (Qp h)
def zdt (H : Hp) : Prop := ∀ b, H b = none \/ ∃ o xs, H b = some (.frz o (.lst xs))
theorem za6 {P : Program} {w : World} {K : PySem.W.Frag} {mg mb : Str -> Option Value} {CX : CXT} {k : Nat} {fa a : Addr} {fd : FuncData} {x : Str} {sp : Sp} {s₁ : Shared} {vs : List Value} {ns : List Int}
  (KX : K.In s₁.heap) (hns : s₁.heap.Ns mainGlobals mg) (hb : s₁.heap.Ns builtinsNs mb) (hbb : ∀ x : Str, x ≠ "__name__" -> mb x = bootBuiltins x) (hlim : s₁.heap.NoLimit) (hg : s₁.gens = #[])
  (ha : s₁.heap.get? a = some { cls := .type "list", data := .seq vs.toArray }) (hi : IntsAre vs ns) (hl : ns.length <= sizeLine) (hr : Room k callerA)
  (F : ∀ base : Heap, K.In base -> base.Ns mainGlobals mg -> FnOk P w K mg base CX k fa fd [x] sp) (hbind : ∀ (s : Shared) (u : Value), BindsTo s fd ⟨[u], []⟩ [(x, u)])
  (hsp : ∀ H : Hp, zdt H -> SqL K H a (ns.map V.int) -> sp [.ref a] H (λ v _ => v = .bl true) λ _ _ _ => False)
  (hCX : ∀ H e s', CX [] H s₁ (λ _ _ _ => False) e s' -> False) :
  codeAny (model P w) callerA (.call (.ref fa) ⟨[.ref a], []⟩) (λ r s' => r = .ok (.ret (.bool true)) /\ OldK s₁.heap s'.heap /\ s'.os = s₁.os /\ AllBare s'.gens) s₁ := by
 have rv := Qp hi;have lenV := hi.length;have core : ∀ H : Hp, zdt H -> SqL K H a (ns.map V.int) -> HOk P w H s₁.heap -> (∀ b, H b ≠ none -> b = a) -> (H a ≠ none -> K.lookup a = none) ->
   codeAny (model P w) callerA (.call (.ref fa) ⟨[.ref a], []⟩) (λ r s' => r = .ok (.ret (.bool true)) /\ OldK s₁.heap s'.heap /\ s'.os = s₁.os /\ AllBare s'.gens) s₁ := by
  intro H hO hS hok hA hK;have base_of : ∀ {b : Addr} {o : Obj}, s₁.heap.get? b = some o -> H b = none -> (Ju s₁.heap H).get? b = some o := λ e n => zbl e n;have noA : ∀ {b : Addr} {o : Obj} {es : Array DictEntry} {ep : Nat}, s₁.heap.get? b = some o -> o.data = .dict es ep -> H b = none := λ {b o es ep} e d => by
   cases q : H b with
   | none => rfl
   | some u =>
    have e' : b = a := hA b (by rw [q];simp);subst e';rw [ha] at e;cases e;have d' : Data.seq vs.toArray _ = Data.dict es ep := d;cases d'
  have nsK : ∀ {b : Addr} {m : Str -> Option Value}, s₁.heap.Ns b m -> (Ju s₁.heap H).Ns b m := λ {b m} ⟨o, es, ep, e, d, r⟩ => ⟨o, es, ep, base_of e (noA e d), d, r⟩;have hKb : K.In (Ju s₁.heap H) := λ b o e => base_of (KX b o e) (by
   cases q : H b with
   | none => rfl
   | some u =>
    have e' : b = a := hA b (by rw [q];simp);subst e';rw [hK (by rw [q];simp)] at e;cases e)
  have hM : Mod K mg (Ju s₁.heap H) := ⟨hKb, nsK hns, ⟨mb, nsK hb, hbb⟩, let ⟨mc, h1, h2⟩ := hlim;⟨mc, nsK h1, h2⟩⟩;have e0 : Env0 P w K mg (Ju s₁.heap H) callerA [] s₁ H := ⟨rfl, hM, λ b o e => zb2 e, Nat.le_of_eq (zaa _ _), trivial, λ b hb => absurd (show b ∈ ([] : List Addr) from hb) (by simp), hok, .of_eq hg⟩;refine codeAny_mono ((F _ hKb (nsK hns)).run callerA [] s₁ H ⟨[.ref a], []⟩ [.ref a] [.ref a] _ _ hr e0 (hbind s₁ (.ref a)) (.cons rfl .nil) (hsp H hO hS)) λ r s' h => ?_;cases r with
  | error e => exact (hCX H e s' h).elim
  | ok fl =>
   cases fl with
   | next => exact False.elim h
   | brk => exact False.elim h
   | cont => exact False.elim h
   | ret u =>
    obtain ⟨v, H', os, bare, un, hok', r', q⟩ := h;have q' : v = .bl true := q;subst q';obtain rfl : u = Value.bool true := r';refine ⟨rfl, OldK.of_keep λ b o e => ?_, os, bare⟩;cases q : H b with
    | none => exact un.keep b o e q (by intro z;exact absurd (show b ∈ ([] : List Addr) from z) (by simp)) (by simp)
    | some u =>
     rcases hO b with z|⟨ob, xs, z⟩
     ·rw [q] at z;cases z
     ·have z2 := un.frzs b ob _ z;obtain ⟨e1, _⟩ := hok b _ z;obtain ⟨e2, _⟩ := hok' b _ z2;rw [e] at e1;cases e1;exact e2
 cases hk : K.lookup a with
 | some o =>
  have e := KX a o hk;rw [ha] at e;cases e;refine core (λ _ => none) (λ _ => .inl rfl) (.inr ⟨_, vs.toArray, _, hk, rfl, rfl, rfl, by rw [size_toArray, lenV];exact hl, by simpa using rv⟩) (λ b u z => by have z' : (none : Option HO) = some u := z;cases z') (λ b z => absurd rfl z) λ z => absurd rfl z
 | none =>
  refine core (λ b => if b = a then some (.frz { cls := .type "list", data := .seq vs.toArray } (.lst (ns.map V.int))) else none) (λ b => ?_) (.inl (.inr ⟨{ cls := .type "list", data := .seq vs.toArray }, if_pos rfl⟩)) (λ b u z => ?_) (λ b z => ?_) λ _ => hk
  ·by_cases hb : b = a
   ·exact .inr ⟨_, _, if_pos hb⟩
   ·exact .inl (if_neg hb)
  ·by_cases hb : b = a
   ·have z' := (if_pos hb).symm.trans z;cases z';subst hb;exact ⟨ha, by rw [length_map];exact hl, vs, _, rv, ha⟩
   ·have z' := (if_neg hb).symm.trans z;cases z'
  ·by_cases hb : b = a
   ·exact hb
   ·exact absurd (if_neg hb) z
end L2
namespace L2
open PySem PySem.Spec PyProof.Rows
theorem walk_of {l : PySem.W.OpenLaw} {n k : Nat} {q : Program} {loose : List Str} {XP : (Str -> Option Value) -> Heap -> Prop} {YP : World -> Heap -> Prop} {d : DefRec} {K : Params -> PySem.W.Frag} {CX : World -> CXT} {sp : World -> Sp} {x : Str}
  (hn : l.most = some n) (hn2 : n <= sizeLine) (hdf : d.params.defaults = []) (hr : Room k callerA)
  (hY : ∀ (w : World) (h : Heap), YP w h -> (K w.params).In h)
  (F : ∀ (w : World) (mg : Str -> Option Value) (fa : Addr) (h : Heap), (K w.params).In h -> h.Ns mainGlobals mg -> mg d.name = some (.ref fa) ->
   ∃ fd : FuncData, (∀ (s : Shared) (u : Value), BindsTo s fd ⟨[u], []⟩ [(x, u)]) /\
    ∀ base : Heap, (K w.params).In base -> base.Ns mainGlobals mg -> FnOk l.prog w (K w.params) mg base (CX w) k fa fd [x] (sp w))
  (hsp : ∀ (w : World) (H : Hp) (a : Addr) (ns : List Int), ns.length <= n -> zdt H -> SqL (K w.params) H a (ns.map V.int) -> sp w [.ref a] H (λ v _ => v = .bl true) λ _ _ _ => False)
  (hCX : ∀ (w : World) (H : Hp) (s : Shared) (e : Value) (s' : Shared), CX w [] H s (λ _ _ _ => False) e s' -> False) :
  PySem.W.WalkO q loose XP YP l.row.toRowW d [] (λ f vs => PySem.call f vs) := by
 refine Att.attach_call hn hdf λ w s₀ s₁ mg mb fa o pm cd doc a vs ns G Y ho hd hcd hmg hobj hints hlen hg => ?_;have KX := hY w _ Y;obtain ⟨fd, hb, hF⟩ := F w mg fa _ KX G.T.g hmg;exact za6 KX G.T.g G.T.b G.T.builtins G.T.nolimit hg hobj hints (Nat.le_trans hlen hn2) hr hF hb (λ H hO hS => hsp w H a ns hlen hO hS) λ H e s' => hCX w H s₁ e s'
end L2
namespace L2
open PySem PySem.Spec PyProof.Rows
def qp (s : Stmt) (j : Nat) : Stmt := match s with
 | .ClassDef _ _ _ body _ _ _ _ _ _ _ => body.getD j (.Pass ⟨0, 0, 0, 0⟩)
 | _ => .Pass ⟨0, 0, 0, 0⟩
def qr (s : Stmt) : Arguments := match s with
 | .FunctionDef _ a _ _ _ _ _ _ _ _ => a
 | _ => { posonlyargs := [], args := [], vararg := none, kwonlyargs := [], kw_defaults := [], kwarg := none, defaults := [] }
def qe (s : Stmt) : List Stmt := match s with
 | .FunctionDef _ _ b _ _ _ _ _ _ _ => b
 | _ => []
def zk (s : Stmt) : Scope := match s with
 | .FunctionDef _ _ _ _ _ _ sc _ _ _ => sc
 | _ => { kind := .function, names := [], isGenerator := false, isCoroutine := false }
abbrev CX0 : CXT := λ _ _ _ _ _ _ => False
structure Fun (K : PySem.W.Frag) (x qual : Str) (st : Stmt) (f : Addr) (fd : FuncData) : Prop where
 ex : ∃ (oc : Value) (od : Option Addr) (kV doc pm : Value) (an : Option Addr) (cdv ct : Value) (osl : Array (Option Value)),
  fd = fnOf x qual (qr st) (qe st) (zk st) .none kV doc pm an cdv ct /\ K.lookup f = some ⟨oc, od, .func fd, osl⟩ /\ codeIn K cdv qual = true
 kp : keepIn K (.ref f) = true
section
variable {P : Program} {w : World} {K : PySem.W.Frag} {mg : Str -> Option Value} {base : Heap}
theorem Fun.ok {x qual : Str} {st : Stmt} {f : Addr} {fd : FuncData} {N ps : List Str} {k : Nat} {sp : Sp} (F : Fun K x qual st f fd) (S : FnScope N ps (zk st)) (len : ∀ vs H Q E, sp vs H Q E -> vs.length = ps.length)
  (hbody : ∀ (cdv : Value) (A : Around) (outer : List Env) (s : Shared) (H : Hp) (vs : List V) (Q : VK) (E : XK), Room k (A.deeper (envOfC qual (zk st) s.heap.objs.size f cdv)) -> sp vs H Q E ->
   ∃ t, PSs (vS CX0 P w K mg base N qual (zk st) f cdv A outer s H E).nox (qe st) t /\ t { nx := λ _ H' => Q .non H', rt := Q } (start N vs) H) : FnOk P w K mg base CX0 (k + 1) f fd ps sp := by
 obtain ⟨oc, od, kV, doc, pm, an, cdv, ct, osl, rfl, lk, hcd⟩ := F.ex;refine zbn lk hcd S len λ A outer s H vs Q E hr hsp => ?_;obtain ⟨t, h, q⟩ := hbody cdv A outer s H vs Q E hr hsp;exact ⟨t, h.nox, q⟩
theorem Fun.binds {x qual : Str} {st : Stmt} {f : Addr} {fd : FuncData} {ps : List Str} (F : Fun K x qual st f fd)
  (h : ∀ (kV doc pm : Value) (an : Option Addr) (cdv ct : Value) (us : List Value), us.length = ps.length -> bindArgs (fnOf x qual (qr st) (qe st) (zk st) .none kV doc pm an cdv ct) ⟨us, []⟩ = pure (ps.zip us)) : Binds K fd ps [] := by
 obtain ⟨oc, od, kV, doc, pm, an, cdv, ct, osl, rfl, lk, hcd⟩ := F.ex;exact .all (h kV doc pm an cdv ct)
theorem jx {x qual : Str} {st : Stmt} {f : Addr} {oc : Value} {od an : Option Addr} {osl : Array (Option Value)} {kV doc pm cdv ct : Value} (l : K.lookup f = some ⟨oc, od, .func (fnOf x qual (qr st) (qe st) (zk st) .none kV doc pm an cdv ct), osl⟩)
  (c : codeIn K cdv qual = true) (k : keepIn K (.ref f) = true) : Fun K x qual st f (fnOf x qual (qr st) (qe st) (zk st) .none kV doc pm an cdv ct) := ⟨⟨oc, od, kV, doc, pm, an, cdv, ct, osl, rfl, l, c⟩, k⟩
end
theorem zcw {A : Around} {k : Nat} (hr : Room k A) : A.units + 1 < cLine := Nat.lt_of_le_of_lt (Nat.add_le_add_left (by decide : 1 <= 64) _) hr.units
theorem zy {n : Nat} (h : n <= 1000) : n < sizeLine := Nat.lt_of_le_of_lt h (by decide)
section
variable {X : Cx}
end
theorem zN {c A B : Prop} [Decidable c] (h1 : c -> A) (h2 : ¬ c -> B) : if c then A else B := by
 by_cases h : c
 ·rw [if_pos h];exact h1 h
 ·rw [if_neg h];exact h2 h
def Same (H H' : Hp) : Prop := ∀ b o, H b = some o -> H' b = some o
theorem Same.refl (H : Hp) : Same H H := λ _ _ h => h
theorem Same.trans {H H1 H2 : Hp} (a : Same H H1) (b : Same H1 H2) : Same H H2 := λ c o h => b c o (a c o h)
theorem Same.free {H H' : Hp} (e : Same H H') {l : Addr} (h : H' l = Option.none) : H l = Option.none := by
 cases q : H l with
 | none => rfl
 | some o =>
  rw [e l o q] at h;cases h
theorem Same.seq {K : PySem.W.Frag} {H H' : Hp} {a : Addr} {xs : List V} (e : Same H H') (h : SqL K H a xs) : SqL K H' a xs := by
 rcases h with (h|⟨o, h⟩)|h
 ·exact .inl (.inl (e _ _ h))
 ·exact .inl (.inr ⟨o, e _ _ h⟩)
 ·exact .inr h
end L2
set_option maxHeartbeats 4000000
namespace L2
open PySem PySem.Spec PyProof.Rows
abbrev GK := Value -> St -> Hp -> Prop
def QR : Value -> Option Addr
 | .ref C => some C
 | .int _ C => some C
 | _ => none
def ExC (o : Obj) : Value -> Prop
 | .int D C => o.cls = .ref C /\ o.dict = some D.toNat
 | v => o.cls = v /\ o.dict = none
theorem ExC.of {o : Obj} {v : Value} {C : Addr} (h : ExC o v) (e : QR v = some C) : o.cls = .ref C := by
 cases v <;> simp only [QR, Option.some.injEq, reduceCtorEq] at e
 ·subst e;exact h.1
 ·subst e;exact h.1
theorem ExC.map {o : Obj} {v : Value} {f : Array Value -> Array Value} (h : ExC o v) : ExC (o.mapFields f) v := by
 obtain ⟨c, d, dt, sl⟩ := o;cases dt <;> exact h
structure Exc (g h : Heap) (H : Hp) (pn : List (Addr × Obj)) (a : Addr) (cls : Value) : Prop where
 ex : ∃ (oe : Obj) (vs : Array Value) (T : Addr) (oT : Obj) (ts : Array Value), h.get? a = some oe /\ ExC oe cls /\ oe.data = .fields vs /\ vs[1]? = some (.ref T) /\ T ≠ a /\
  h.get? T = some oT /\ oT.data = .fields ts /\ ts[3]? = some .none /\ g.get? T = none /\ H T = none /\ ∀ p ∈ pn, p.1 ≠ T
 ga : g.get? a = none
 Ha : H a = none
 pa : ∀ p ∈ pn, p.1 ≠ a
theorem ObjOk.there {P : Program} {w : World} {H : Hp} {h : Heap} {a : Addr} {o : HO} (x : ObjOk P w H h a o) : ∃ ob, h.get? a = some ob := by
 cases o with
 | lst xs => obtain ⟨_, _, _, _, e⟩ := x;exact ⟨_, e⟩
 | tup xs => obtain ⟨_, _, _, ob, e, _⟩ := x;exact ⟨_, e⟩
 | dK kvs => obtain ⟨_, _, _, _, o, _, _, e, _⟩ := x;exact ⟨_, e⟩
 | dT kvs => obtain ⟨_, _, _, _, o, _, _, e, _⟩ := x;exact ⟨_, e⟩
 | set S n => obtain ⟨o, _, _, _, e, _⟩ := x;exact ⟨_, e⟩
 | ins C dx fs => obtain ⟨_, _, _, e, _⟩ := x;exact ⟨_, e⟩
 | own y => obtain ⟨_, e⟩ := x;exact ⟨_, e⟩
 | xd fs => obtain ⟨_, ⟨_, _, _, e, _⟩, _⟩ := x;exact ⟨_, e⟩
 | rng lo hi => obtain ⟨_, _, _, e⟩ := x;exact ⟨_, e⟩
 | frz ob u => obtain ⟨e, _⟩ := x;exact ⟨_, e⟩
 | tbl ps => exact ⟨_, (show h.get? a = some _ from x)⟩
 | met f y => exact ⟨_, (show h.get? a = some _ from x)⟩
 | ext φ => obtain ⟨_, ⟨_, e⟩, _⟩ := x;exact ⟨_, e⟩
section
variable {M : Model} {A : Around} {E : Value -> Shared -> Prop} {s : Shared}
theorem QP {base : Heap} {env : Env} {outer : List Env} {L e : Addr} {oe : Obj} {vs : Array Value} {head : Value} {hadNext : Bool} {Q : Unit -> Shared -> Prop}
  (hfr : A.frames = some (env :: outer)) (hl : s.heap.FunFrames base (env :: outer)) (hf : env.frame = some L) (he : s.heap.get? e = some oe) (hd : oe.data = .fields vs) (hsz : 1 < vs.size)
  (h : ∀ h' T, (∀ b o, b ∉ (env :: outer).filterMap (·.frame) -> b ≠ e -> s.heap.get? b = some o -> h'.get? b = some o) -> (∀ b o, b ≠ e -> s.heap.get? b = some o -> ∃ sl, h'.get? b = some { o with slots := sl }) ->
   s.heap.get? T = none -> T ≠ e -> h'.get? e = some (oe.mapFields (·.setIfInBounds 1 (.ref T))) -> (∃ oT ts, h'.get? T = some oT /\ oT.data = .fields ts /\ ts[3]? = some .none) -> Q () { s with heap := h' }) :
  wpAny M A (do let a <- frameOf env;let pl <- entryPlaceOf L hadNext;let b <- EntryCells.newEntry head a .none (rawInt L) .none pl;setField (.ref e) 1 b) (λ _ s' => wpAny M A (setFlight (.ref e) none) Q E s') E s := by
 have hene : e ∉ (env :: outer).filterMap (·.frame) := λ hm => by
  obtain ⟨_, o, ho, hnf⟩ := hl.mem hm;rw [he] at ho;injection ho with ho;subst ho;exact hnf vs hd
 refine wpAny_bind (wpAny_frameOf_fun hfr hl hf λ h₁ hs₁ => ?_);refine wpAny_bind (wpAny_entryPlaceOf λ pl hpl => ?_);unfold EntryCells.newEntry newFields;refine wpAny_bind (wpAny_newObj_type ?_ (hpl.sizeOk5 _ _ _ _ _));have he₁ : h₁.get? e = some oe := (hs₁.2.1 e hene).trans he;have he₂ := Heap.get?_push_of_some (h := h₁) { cls := .type "traceback", dict := none, data := .fields ([head, .ref L, .none, rawInt L, .none] ++ (if pl.isEmpty then List.replicate 6 Value.none else pl)).toArray } he₁;refine wpAny_setField he₂ hd hsz ?_;have hTe : h₁.objs.size ≠ e := Nat.ne_of_gt (Heap.lt_size he₁);have hd₃ := Obj.data_mapFields hd (·.setIfInBounds 1 (Value.ref h₁.objs.size));have he₃ := Heap.get?_update_self (Obj.mapFields (·.setIfInBounds 1 (Value.ref h₁.objs.size))) he₂ (Obj.isFreed_of_fields hd₃);have hT₃ := (Heap.get?_update_other (h₁.push { cls := .type "traceback", dict := none, data := .fields ([head, .ref L, .none, rawInt L, .none] ++ (if pl.isEmpty then List.replicate 6 Value.none else pl)).toArray })
  (Obj.mapFields (·.setIfInBounds 1 (Value.ref h₁.objs.size))) (Ne.symm hTe)).trans (Heap.get?_push_size h₁ rfl)
 unfold setFlight;refine wpAny_bind (wpAny_field he₃ hd₃ (x := .ref h₁.objs.size) (by simp [hsz]) ?_);rw [if_pos (show (Value.ref h₁.objs.size != Value.none) = true from by simp)];refine wpAny_setField hT₃ rfl (by simp only [size_toArray, length_append, length_cons, length_nil] <;> lia) ?_;have keep : ∀ b o, b ≠ e -> h₁.get? b = some o ->
   (((h₁.push { cls := .type "traceback", dict := none, data := .fields ([head, .ref L, .none, rawInt L, .none] ++ (if pl.isEmpty then List.replicate 6 Value.none else pl)).toArray }).update e (Obj.mapFields (·.setIfInBounds 1 (Value.ref h₁.objs.size)))).update h₁.objs.size
    (Obj.mapFields (·.setIfInBounds 3 ((none : Option Addr).elim Value.none λ f => rawInt f)))).get? b = some o := λ b o hbe hb => by
  have hbT : h₁.objs.size ≠ b := Nat.ne_of_gt (Heap.lt_size hb);rw [Heap.get?_update_other _ _ hbT, Heap.get?_update_other _ _ (Ne.symm hbe)];exact Heap.get?_push_of_some _ hb
 refine h _ h₁.objs.size (λ b o hb hbe q => keep b o hbe ((hs₁.2.1 b hb).trans q)) (λ b o hbe q => ?_) (Heap.get?_none_of_le (by rw [hs₁.1];exact Nat.le_refl _)) hTe ?_ ?_
 ·obtain ⟨sl, hs⟩ := hs₁.2.2 b o q;exact ⟨sl, keep b _ hbe hs⟩
 ·rw [Heap.get?_update_other _ _ hTe];exact he₃
 ·exact ⟨_, _, Heap.get?_update_self _ hT₃ (Obj.isFreed_of_fields (Obj.data_mapFields rfl _)), Obj.data_mapFields rfl _, by first|(simp;done)|(rcases hpl with rfl|⟨_, _, _, _, _, _, _, rfl⟩ <;> simp)⟩
theorem QE {base : Heap} {env : Env} {outer : List Env} {L e : Addr} {oe : Obj} {vs : Array Value} {ch : List Addr} {Q : Unit -> Shared -> Prop}
  (hfr : A.frames = some (env :: outer)) (hl : s.heap.FunFrames base (env :: outer)) (hf : env.frame = some L) (he : s.heap.get? e = some oe) (hd : oe.data = .fields vs)
  (h1 : (vs[1]? = some .none /\ ch = [e]) \/ ∃ T oT ts, vs[1]? = some (.ref T) /\ T ≠ e /\ s.heap.get? T = some oT /\ oT.data = .fields ts /\ ts[3]? = some .none /\ ch = [e, T])
  (h : ∀ h' T, (∀ b o, b ∉ (env :: outer).filterMap (·.frame) -> b ∉ ch -> s.heap.get? b = some o -> h'.get? b = some o) -> (∀ b o, b ∉ ch -> s.heap.get? b = some o -> ∃ sl, h'.get? b = some { o with slots := sl }) ->
   (∀ b ∈ ch, ∃ o, h'.get? b = some o) -> s.heap.get? T = none -> T ≠ e -> h'.get? e = some (oe.mapFields (·.setIfInBounds 1 (.ref T))) -> (∃ oT ts, h'.get? T = some oT /\ oT.data = .fields ts /\ ts[3]? = some .none) -> Q () { s with heap := h' }) :
  wpAny M A (noteFrame (.ref e) env) (λ _ s' => wpAny M A (setFlight (.ref e) none) Q E s') E s := by
 rcases h1 with ⟨h1, rfl⟩|⟨T, oT, ts, h1, hTe, hT, hdT, h3, rfl⟩
 ·unfold noteFrame;simp only [hf];refine wpAny_bind (wpAny_field he hd h1 ?_);rw [if_neg (by decide)];refine QP hfr hl hf he hd (Array.getElem?_eq_some_iff.mp h1).1 λ h' T k1 k2 k3 k4 k5 k6 => ?_;refine h h' T (λ b o hb hc q => k1 b o hb (λ z => hc (by simp [z])) q) (λ b o hc q => k2 b o (λ z => hc (by simp [z])) q) (λ b hb => ?_) k3 k4 k5 k6;obtain rfl : b = e := by simpa using hb
  exact ⟨_, k5⟩
 ·unfold noteFrame;simp only [hf];refine wpAny_bind (wpAny_field he hd h1 ?_);rw [if_pos (show (Value.ref T != Value.none) = true from by simp)];refine wpAny_bind (wpAny_field hT hdT h3 ?_);rw [if_neg (show ¬ ((Value.none == rawInt L) = true) from by simp [rawInt])];refine wpAny_bind (wpAny_setField hT hdT (Array.getElem?_eq_some_iff.mp h3).1 ?_);have other : ∀ b, b ≠ T -> (s.heap.update T (Obj.mapFields (·.setIfInBounds 3 Value.none))).get? b = s.heap.get? b := λ b hb => Heap.get?_update_other _ _ (Ne.symm hb);have noRecord : ∀ b o, s.heap.get? b = some o -> (∀ vs, o.data ≠ .fields vs) -> b ≠ T := λ b o hb hnf q => by
   rw [q, hT] at hb;injection hb with hb;subst hb;exact hnf ts hdT
  have hT' := Heap.get?_update_self (Obj.mapFields (·.setIfInBounds 3 Value.none)) hT (Obj.isFreed_of_fields (Obj.data_mapFields hdT _));refine QP hfr (hl.of_keeps λ b o hb hnf => ⟨o, (other b (noRecord b o hb hnf)).trans hb, rfl⟩) hf ((other e (Ne.symm hTe)).trans he) hd (Array.getElem?_eq_some_iff.mp h1).1 λ h' T' k1 k2 k3 k4 k5 k6 => ?_;have hTT : T' ≠ T := λ z => by rw [z, hT'] at k3;cases k3
  refine h h' T' (λ b o hb hc q => k1 b o hb (λ z => hc (by simp [z])) ((other b (λ z => hc (by simp [z]))).trans q)) (λ b o hc q => k2 b o (λ z => hc (by simp [z])) ((other b (λ z => hc (by simp [z]))).trans q)) (λ b hb => ?_) ((other T' hTT).symm.trans k3) k4 k5 k6;rcases List.mem_cons.mp hb with rfl|hb
  ·exact ⟨_, k5⟩
  ·obtain rfl : b = T := by simpa using hb
   obtain ⟨sl, q⟩ := k2 b _ hTe hT';exact ⟨_, q⟩
end
section
variable {X : Cx} {pins : List (Addr × Obj)} {σ : List (Option V)} {H : Hp} {s : Shared} {h' : Heap}
theorem Inv.stepx {ch : List Addr} (I : Inv X pins σ H s)
  (hch : ∀ b ∈ ch, X.s₀.heap.get? b = none /\ H b = none /\ ∀ p ∈ X.pn ++ pins, p.1 ≠ b) (hrec : ∀ b ∈ ch, ∃ o vs, s.heap.get? b = some o /\ o.data = .fields vs)
  (keep : ∀ b o, b ∉ frs X.stack -> b ∉ ch -> s.heap.get? b = some o -> h'.get? b = some o)
  (slot : ∀ b o, b ∉ ch -> s.heap.get? b = some o -> ∃ sl, h'.get? b = some { o with slots := sl }) (there : ∀ b ∈ ch, ∃ o, h'.get? b = some o) : Inv X pins σ H { s with heap := h' } := by
 have neL : ∀ b ∈ ch, b ≠ X.env.locals := λ b hb z => by
  obtain ⟨o, vs, ho, hd⟩ := hrec b hb;obtain ⟨m, ⟨o', es, ep, ho', hd', _⟩, _⟩ := I.loc;rw [z, ho'] at ho;cases ho;rw [hd'] at hd;cases hd
 have neC : ∀ b ∈ ch, ∀ x c, X.env.cells.lookup x = some c -> c ≠ b := λ b hb x c e z => by
  obtain ⟨o, vs, ho, hd⟩ := hrec b hb;obtain ⟨v, o', ho', hd'⟩ := I.cell x c e;rw [z, ho] at ho';cases ho';rw [hd] at hd';cases hd'
 have nch : ∀ b o, X.s₀.heap.get? b = some o -> b ∉ ch := λ b o e hb => by rw [(hch b hb).1] at e;cases e
 have trk : ∀ b u, H b = some u -> b ∉ ch /\ b ∉ frs X.stack := λ b u e => ⟨(λ hb => by rw [(hch b hb).2.1] at e;cases e), (λ hb => by rw [I.stkFree b hb] at e;cases e)⟩;have nfs : ∀ b, b ∉ X.fs -> b ≠ X.env.locals -> b ∉ frs X.stack := λ b h1 h2 z => (List.mem_cons.mp (I.stkSub b z)).elim h2 h1;have ltL : ∀ b o, X.s₀.heap.get? b = some o -> b ≠ X.env.locals := λ b o e => Nat.ne_of_lt (Nat.lt_of_lt_of_le (Heap.lt_size e) I.ok.above);have cellK : ∀ x c, X.env.cells.lookup x = some c -> ∀ v, s.heap.IsCell c v -> h'.IsCell c v := λ x c e v ⟨o, ho, hd⟩ => by
  obtain ⟨sl, q⟩ := slot c o (λ z => neC c z x c e rfl) ho;exact ⟨_, q, hd⟩
 have hok : HOk X.prog X.w H h' := λ b u e => (I.hok b u e).stay (λ c v hc q => by
  have hcH : ∃ u', H c = some u' := by
   rcases hc with rfl|z
   ·exact ⟨_, e⟩
   ·exact ⟨_, z⟩
  obtain ⟨u', hu⟩ := hcH;exact keep c v (trk c u' hu).2 (trk c u' hu).1 q) (λ _ q => q) λ _ _ q => q
 refine ⟨I.ok, I.os, I.bare, ⟨λ b o e n hb hx => ?_, λ b o e n hb hx => ?_, I.base.free, λ b o e hx => ?_, I.base.tups, I.base.frzs, I.base.tbls⟩, ?_, λ x c e => ?_, I.free, I.freeC, λ p hp => ?_, hok, I.len⟩
 ·exact keep b o (nfs b hb (ltL b o e)) (nch b o e) (I.base.keep b o e n hb hx)
 ·obtain ⟨sl, e1⟩ := I.base.slot b o e n hb hx;obtain ⟨sl', e2⟩ := slot b _ (nch b o e) e1;exact ⟨sl', e2⟩
 ·obtain ⟨o', e1⟩ := I.base.there b o e hx;obtain ⟨sl', e2⟩ := slot b _ (nch b o e) e1;exact ⟨_, e2⟩
 ·obtain ⟨m, ⟨o, es, ep, ho, r⟩, hl⟩ := I.loc;obtain ⟨sl, q⟩ := slot _ o (λ z => neL _ z rfl) ho;refine ⟨m, ⟨_, es, ep, q, r⟩, λ i x v e1 e2 e3 => ?_⟩;obtain ⟨u, r', l⟩ := hl i x v e1 e2 e3;refine ⟨u, r', ?_⟩;rcases l with l|⟨k, c, e, z⟩
  ·exact .inl l
  ·exact .inr ⟨k, c, e, cellK x c e _ z⟩
 ·obtain ⟨v, z⟩ := I.cell x c e;exact ⟨v, cellK x c e v z⟩
 ·obtain ⟨e, n, ne, nf, d⟩ := I.pin p hp;exact ⟨keep p.1 p.2 (nfs _ nf ne) (λ z => (hch p.1 z).2.2 p hp rfl) e, n, ne, nf, d⟩
theorem vj {a : Addr} {oe : Obj} {v : Value} {vs : Array Value} {E : Value -> Shared -> Prop} {Q : Unit -> Shared -> Prop} (I : Inv X pins σ H s) (hst : X.stack = X.env :: X.outer) (hfr : X.env.frame = some X.env.locals) (hex : X.ex = [])
  (he : s.heap.get? a = some oe) (hdict : ExC oe v) (hd : oe.data = .fields vs) (ga : X.s₀.heap.get? a = none) (Ha : H a = none) (hpa : ∀ p ∈ X.pn ++ pins, p.1 ≠ a)
  (h1 : vs[1]? = some .none \/ ∃ T oT ts, vs[1]? = some (.ref T) /\ T ≠ a /\ s.heap.get? T = some oT /\ oT.data = .fields ts /\ ts[3]? = some .none /\ X.s₀.heap.get? T = none /\ H T = none /\ ∀ p ∈ X.pn ++ pins, p.1 ≠ T)
  (hQ : ∀ s', Inv X pins σ H s' -> Exc X.s₀.heap s'.heap H (X.pn ++ pins) a v -> Q () s') :
  wpAny (model X.prog X.w) X.A (noteFrame (.ref a) X.env) (λ _ s' => wpAny (model X.prog X.w) X.A (setFlight (.ref a) none) Q E s') E s := by
 have hfs := I.ok.frames;have hFF := I.stack;rw [hst] at hfs hFF;have hS : frs X.stack = (X.env :: X.outer).filterMap (·.frame) := by rw [hst];rfl
 have fin : ∀ (ch : List Addr), (∀ b ∈ ch, X.s₀.heap.get? b = none /\ H b = none /\ ∀ p ∈ X.pn ++ pins, p.1 ≠ b) -> (∀ b ∈ ch, ∃ o vs, s.heap.get? b = some o /\ o.data = .fields vs) -> a ∈ ch ->
   ∀ h' T, (∀ b o, b ∉ (X.env :: X.outer).filterMap (·.frame) -> b ∉ ch -> s.heap.get? b = some o -> h'.get? b = some o) -> (∀ b o, b ∉ ch -> s.heap.get? b = some o -> ∃ sl, h'.get? b = some { o with slots := sl }) ->
   (∀ b ∈ ch, ∃ o, h'.get? b = some o) -> s.heap.get? T = none -> T ≠ a -> h'.get? a = some (oe.mapFields (·.setIfInBounds 1 (.ref T))) -> (∃ oT ts, h'.get? T = some oT /\ oT.data = .fields ts /\ ts[3]? = some .none) -> Q () { s with heap := h' } := by
  intro ch hch hrec ha h' T k1 k2 k3 k4 k5 k6 k7;have I' := I.stepx (h' := h') hch hrec (λ b o hb hc q => k1 b o (by rw [<- hS];exact hb) hc q) k2 k3;refine hQ _ I' ⟨?_, ga, Ha, hpa⟩;obtain ⟨oT, ts, q1, q2, q3⟩ := k7;have hsz : 1 < vs.size := by
   rcases h1 with z|⟨_, _, _, z, _⟩ <;> exact (Array.getElem?_eq_some_iff.mp z).1
  refine ⟨_, _, T, oT, ts, k6, hdict.map, Obj.data_mapFields hd _, by simp [hsz], k5, q1, q2, q3, ?_, ?_, λ p hp z => ?_⟩
  ·cases e : X.s₀.heap.get? T with
   | none => rfl
   | some o =>
    obtain ⟨o', e'⟩ := I.base.there T o e (by rw [hex];simp);rw [k4] at e';cases e'
  ·cases e : H T with
   | none => rfl
   | some u =>
    obtain ⟨o', e'⟩ := (I.hok T u e).there;rw [k4] at e';cases e'
  ·have := (I.pin p hp).1;rw [z, k4] at this;cases this
 rcases h1 with h1|⟨T, oT, ts, h1, hTa, hT, hdT, h3, gT, HT, pT⟩
 ·refine QE (ch := [a]) hfs hFF hfr he hd (.inl ⟨h1, rfl⟩) (fin [a] (λ b hb => ?_) (λ b hb => ?_) (by simp))
  ·obtain rfl : b = a := by simpa using hb
   exact ⟨ga, Ha, hpa⟩
  ·obtain rfl : b = a := by simpa using hb
   exact ⟨oe, vs, he, hd⟩
 ·refine QE (ch := [a, T]) hfs hFF hfr he hd (.inr ⟨T, oT, ts, h1, hTa, hT, hdT, h3, rfl⟩) (fin [a, T] (λ b hb => ?_) (λ b hb => ?_) (by simp))
  ·rcases List.mem_cons.mp hb with rfl|hb
   ·exact ⟨ga, Ha, hpa⟩
   ·obtain rfl : b = T := by simpa using hb
    exact ⟨gT, HT, pT⟩
  ·rcases List.mem_cons.mp hb with rfl|hb
   ·exact ⟨oe, vs, he, hd⟩
   ·obtain rfl : b = T := by simpa using hb
    exact ⟨oT, ts, hT, hdT⟩
end
def JG (X : Cx) (G : GK) (e : Value) (s : Shared) : Prop := ∃ a cls σ H, e = Value.ref a /\ Inv X [] σ H s /\ Exc X.s₀.heap s.heap H X.pn a cls /\ G cls σ H
def xeG (X : Cx) (G : GK) (e : Value) (s : Shared) : Prop := wpAny (model X.prog X.w) X.A (noteFrame e X.env) (λ _ s' => wpAny (model X.prog X.w) X.A (setFlight e none) (λ _ s'' => JG X G e s'') (λ _ _ => False) s') (λ _ _ => False) s
abbrev Cx.exg (X : Cx) (G : GK) : Cx := X.wish (xeG X G)
structure Bod (X : Cx) : Prop where
 st : X.stack = X.env :: X.outer
 fr : X.env.frame = some X.env.locals
 ex : X.ex = []
theorem xl {X : Cx} {G : GK} : PassesOwn (model X.prog X.w) X.A X.env (xeG X G) := PassesOwn.looking
theorem Inv.nopins {X : Cx} {pins : List (Addr × Obj)} {σ : St} {H : Hp} {s : Shared} (I : Inv X pins σ H s) : Inv X [] σ H s := I.pins_of λ p hp => absurd hp (by simp)
theorem Exc.less {g h : Heap} {H : Hp} {pn pn' : List (Addr × Obj)} {a : Addr} {cls : Value} (x : Exc g h H pn a cls) (hp : ∀ p ∈ pn', p ∈ pn) : Exc g h H pn' a cls := by
 obtain ⟨⟨oe, vs, T, oT, ts, h1, h2, h4, h5, h6, h7, h8, h9, h10, h11, h12⟩, ga, Ha, pa⟩ := x;exact ⟨⟨oe, vs, T, oT, ts, h1, h2, h4, h5, h6, h7, h8, h9, h10, h11, λ p q => h12 p (hp p q)⟩, ga, Ha, λ p q => pa p (hp p q)⟩
def CXr (P : Program) (w : World) : CXT := λ outer H s E e s' => ∃ a cls H', e = Value.ref a /\ s'.os = s.os /\ AllBare s'.gens /\ Un (frs outer) [] H H' s.heap s'.heap /\ HOk P w H' s'.heap /\
 Exc s.heap s'.heap H' [] a cls /\ E cls none H'
section
variable {X : Cx} {pins : List (Addr × Obj)} {σ : St} {H : Hp} {s : Shared} {G : GK}
theorem vt {e : Value} {s' : Shared} (B : Bod X) (I : Inv X pins σ H s) (h : CXr X.prog X.w X.stack H s (λ cls _ H' => G cls σ H') e s') : xeG X G e s' := by
 obtain ⟨a, cls, H', rfl, os, bare, un, hok, ⟨⟨oe, vs, T, oT, ts, h1, h2, h4, h5, h6, h7, h8, h9, h10, h11, _⟩, ga, Ha, _⟩, hG⟩ := h;have I' : Inv X pins σ H' s' := I.call' os un hok bare (λ b z => absurd z (by simp));have old : ∀ b, s.heap.get? b = none -> X.s₀.heap.get? b = none := λ b hb => by
  cases e : X.s₀.heap.get? b with
  | none => rfl
  | some o =>
   obtain ⟨o', e'⟩ := I.base.there b o e (by rw [B.ex];simp);rw [hb] at e';cases e'
 have pin : ∀ b, s.heap.get? b = none -> ∀ p ∈ X.pn ++ pins, p.1 ≠ b := λ b hb p hp z => by
  have := (I.pin p hp).1;rw [z, hb] at this;cases this
 refine vj I' B.st B.fr B.ex h1 h2 h4 (old a ga) Ha (pin a ga) (.inr ⟨T, oT, ts, h5, h6, h7, h8, h9, old T h10, h11, pin T h10⟩) λ s'' I2 x => ?_;exact ⟨a, cls, σ, H', rfl, I2.nopins, x.less λ p hp => mem_append_left _ hp, hG⟩
theorem XR {a C : Addr} {args : List Value} {h' : Heap} (B : Bod X) (I : Inv X pins σ H s) (hm : Heap.MadeExcOf s.heap h' a (.ref C) args) (hG : G (.ref C) σ H) : xeG X G (.ref a) { s with heap := h' } := by
 obtain ⟨t, h1, h2, h3⟩ := hm.there;have I' : Inv X pins σ H { s with heap := h' } := I.kept (t' := s.toks) hm.keeps;have ga : X.s₀.heap.get? a = none := by
  cases e : X.s₀.heap.get? a with
  | none => rfl
  | some o =>
   obtain ⟨o', e'⟩ := I.base.there a o e (by rw [B.ex];simp);rw [hm.new] at e';cases e'
 have Ha : H a = none := by
  cases e : H a with
  | none => rfl
  | some u =>
   obtain ⟨o', e'⟩ := (I.hok a u e).there;rw [hm.new] at e';cases e'
 refine vj (v := .ref C) (s := { s with heap := h' }) I' B.st B.fr B.ex h1 ⟨rfl, rfl⟩ rfl ga Ha (λ p hp z => ?_) (.inl rfl) λ s'' I2 x => ?_
 ·have := (I.pin p hp).1;rw [z, hm.new] at this;cases this
 ·exact ⟨a, .ref C, σ, H, rfl, I2.nopins, x.less λ p hp => mem_append_left _ hp, hG⟩
end
section
variable {P : Program} {w : World} {K : PySem.W.Frag} {mg : Str -> Option Value} {base : Heap}
abbrev cxR (P : Program) (w : World) (K : PySem.W.Frag) (mg : Str -> Option Value) (base : Heap) (N : List Str) (qual : Str) (scope : Scope) (f : Addr) (cd : Value) (A : Around) (outer : List Env) (s : Shared) (H : Hp) (E : XK) : Cx :=
 vS (CXr P w) P w K mg base N qual scope f cd A outer s H E
theorem Fun.okx {x qual : Str} {st : Stmt} {f : Addr} {fd : FuncData} {N ps : List Str} {k : Nat} {sp : Sp} (F : Fun K x qual st f fd) (S : FnScope N ps (zk st)) (len : ∀ vs H Q E, sp vs H Q E -> vs.length = ps.length)
  (hbody : ∀ (cdv : Value) (A : Around) (outer : List Env) (s : Shared) (H : Hp) (vs : List V) (Q : VK) (E : XK), Room k (A.deeper (envOfC qual (zk st) s.heap.objs.size f cdv)) -> sp vs H Q E ->
   ∃ t, PSs ((cxR P w K mg base N qual (zk st) f cdv A outer s H E).exg λ cls _ H' => E cls none H') (qe st) t /\ t { nx := λ _ H' => Q .non H', rt := Q } (start N vs) H) : FnOk P w K mg base (CXr P w) (k + 1) f fd ps sp := by
 obtain ⟨oc, od, kV, doc, pm, an, cdv, ct, osl, rfl, lk, hcd⟩ := F.ex;refine zbn lk hcd S len λ A outer s H vs Q E hr hsp => ?_;obtain ⟨t, h, q⟩ := hbody cdv A outer s H vs Q E hr hsp;refine ⟨t, λ pins s σ H' D I hw => ?_, q⟩;refine wpAny_mono (h pins s σ H' D (I.wish _) hw) (λ _ _ z => z.unwish) λ e s' z => ?_;refine wpAny_bind (wpAny_mono (show wpAny _ _ _ _ _ _ from z) (λ _ s1 y1 => wpAny_mono y1 (λ _ s'' y => ?_) λ _ _ y => y.elim) λ _ _ y => y.elim);obtain ⟨a, cls, σ2, H2, rfl, J, xx, g⟩ := y;exact ⟨a, cls, H2, rfl, J.os, J.bare, J.base, J.hok, xx.less (λ p hp => absurd hp (by simp)), g⟩
end
end L2
namespace L2
open PySem PySem.Spec PyProof.Rows
structure Cal (P : Program) (w : World) (K : PySem.W.Frag) (mg : Str -> Option Value) (base : Heap) (x : Str) (k : Nat) (ps : List Str) (dvs : List V) (sp : Sp) : Prop where
 ex : ∃ f fd ds, FnOk P w K mg base (CXr P w) k f fd ps sp /\ mg x = some (.ref f) /\ keepIn K (.ref f) = true /\ Binds K fd ps ds /\ Vals dvs ds
structure MCal (P : Program) (w : World) (K : PySem.W.Frag) (mg : Str -> Option Value) (base : Heap) (C : Addr) (m : Str) (k : Nat) (ps : List Str) (dvs : List V) (sp : Sp) : Prop where
 cl : Cls K C
 ex : ∃ f fd ds, FnOk P w K mg base (CXr P w) k f fd ps sp /\ Meth K C m f /\ Binds K fd ps ds /\ Vals dvs ds
structure KCal (P : Program) (w : World) (K : PySem.W.Frag) (mg : Str -> Option Value) (base : Heap) (x : Str) (C : Addr) (k : Nat) (ps : List Str) (dvs : List V) (sp : Sp) : Prop where
 gl : mg x = some (.ref C)
 ex : ∃ f fd ds, FnOk P w K mg base (CXr P w) k f fd ps sp /\ Mk K C f /\ Binds K fd ps ds /\ Vals dvs ds
theorem Cal.mono {P : Program} {w : World} {K : PySem.W.Frag} {mg : Str -> Option Value} {base : Heap} {x : Str} {j k : Nat} {ps : List Str} {dvs : List V} {sp : Sp} (c : Cal P w K mg base x j ps dvs sp) (h : j <= k := by decide) : Cal P w K mg base x k ps dvs sp := by
 obtain ⟨f, fd, ds, a, b⟩ := c.ex;exact ⟨f, fd, ds, a.mono h, b⟩
theorem MCal.mono {P : Program} {w : World} {K : PySem.W.Frag} {mg : Str -> Option Value} {base : Heap} {C : Addr} {m : Str} {j k : Nat} {ps : List Str} {dvs : List V} {sp : Sp} (c : MCal P w K mg base C m j ps dvs sp) (h : j <= k := by decide) : MCal P w K mg base C m k ps dvs sp := by
 obtain ⟨f, fd, ds, a, b⟩ := c.ex;exact ⟨c.cl, f, fd, ds, a.mono h, b⟩
theorem KCal.mono {P : Program} {w : World} {K : PySem.W.Frag} {mg : Str -> Option Value} {base : Heap} {x : Str} {C : Addr} {j k : Nat} {ps : List Str} {dvs : List V} {sp : Sp} (c : KCal P w K mg base x C j ps dvs sp) (h : j <= k := by decide) : KCal P w K mg base x C k ps dvs sp := by
 obtain ⟨f, fd, ds, a, b⟩ := c.ex;exact ⟨c.gl, f, fd, ds, a.mono h, b⟩
section
variable {X : Cx} {G : GK} {k : Nat} {f C : Addr} {fd : FuncData} {ps : List Str} {sp : Sp} {dvs : List V} {ds : List Value} {x m : Str} {p pos apos : Pos} {e o : Expr} {es : List Expr} {ta : TE} {t : TA}
theorem WU {pins : List (Addr × Obj)} {σ : St} {H : Hp} {s : Shared} {Q : VK} {us : List Value} {vs : List V} (B : Bod X) (F : FnOk X.prog X.w X.K X.mg X.base (CXr X.prog X.w) k f fd ps sp) (hr : Room k X.A) (hb : Binds X.K fd ps ds) (hd : Vals dvs ds)
  (I : Inv (X.exg G) pins σ H s) (r : Vals vs us) (h : sp (vs ++ dvs) H Q (λ cls _ H' => G cls σ H')) : wpAny (model X.prog X.w) X.A (call (.ref f) us) (EP (X.exg G) pins σ Q) (xeG X G) s := by
 have r2 : Vals (vs ++ dvs) (us ++ ds) := r.append hd;have hl : (us ++ ds).length = ps.length := by rw [<- r2.length];exact F.len _ _ _ _ h
 refine wpAny_call (codeAny_mono (F.run X.A X.stack s H ⟨us, []⟩ (us ++ ds) (vs ++ dvs) Q _ hr I.unwish.env0 (hb s us I.kIn hl) r2 h) λ r s' hq => ?_);cases r with
 | error e => exact vt B I.unwish hq
 | ok fl =>
  cases fl with
  | ret u => exact I.after hq
  | next => exact False.elim hq
  | brk => exact False.elim hq
  | cont => exact False.elim hq
theorem VO {pins : List (Addr × Obj)} {σ : St} {H : Hp} {s : Shared} {Q : VK} {us : List Value} {vs : List V} (B : Bod X) (M : Mk X.K C f) (F : FnOk X.prog X.w X.K X.mg X.base (CXr X.prog X.w) k f fd ps sp) (hr : Room (k + 1) X.A) (hb : Binds X.K fd ps ds) (hd : Vals dvs ds)
  (I : Inv (X.exg G) pins σ H s) (r : Vals vs us)
  (h : ∀ x dx, H x = none -> H dx = none -> dx ≠ x -> sp (.ref x :: (vs ++ dvs)) (upd (upd H dx (.own x)) x (.ins C dx [])) (λ v H2 => v = .non /\ Q (.ref x) H2) (λ cls _ H' => G cls σ H')) :
  wpAny (model X.prog X.w) X.A (call (.ref C) us) (EP (X.exg G) pins σ Q) (xeG X G) s := by
 have hq := h (s.heap.objs.size + 1) s.heap.objs.size (I.hok.fresh (Nat.le_succ _)) (I.hok.fresh (Nat.le_refl _)) (Nat.ne_of_lt (Nat.lt_succ_self _));have I2 := Inv.made (C := C) I;have r2 : Vals (V.ref (s.heap.objs.size + 1) :: (vs ++ dvs)) (Value.ref (s.heap.objs.size + 1) :: (us ++ ds)) := .cons rfl (r.append hd);have hl : (Value.ref (s.heap.objs.size + 1) :: us ++ ds).length = ps.length := by
  have e := r2.length;rw [F.len _ _ _ _ hq] at e;exact e.symm
 refine wpAny_call (Xg (f := f) I.kIn M.makes M.init (beq_iff_eq.mp M.fn) (codeAny_mono (F.run _ X.stack _ _ ⟨Value.ref (s.heap.objs.size + 1) :: us, []⟩ (Value.ref (s.heap.objs.size + 1) :: (us ++ ds)) _ _ _ (hr.make C us [])
  (I2.unwish.env0.make C us []) (hb _ (Value.ref (s.heap.objs.size + 1) :: us) I2.kIn hl) r2 hq) λ r s' hq' => ?_))
 cases r with
 | error e => exact vt B I2.unwish hq'
 | ok fl =>
  cases fl with
  | ret u =>
   obtain ⟨v, H', I3, rv, ev, q3⟩ := I2.after hq';subst ev;exact ⟨rv, ⟨V.ref (s.heap.objs.size + 1), H', I3, rfl, q3⟩⟩
  | next => exact False.elim hq'
  | brk => exact False.elim hq'
  | cont => exact False.elim hq'
def tCl (X : Cx) (k : Nat) (x : Str) (G : GK) (t : TA) : TE := λ σ H Q => ∃ ps dvs sp, Cal X.prog X.w X.K X.mg X.base x k ps dvs sp /\ t σ H λ vs H1 => sp (vs ++ dvs) H1 Q (λ cls _ H' => G cls σ H')
theorem z6 (B : Bod X) (hr : Room k X.A) (ha : PA (X.exg G) (e :: es) t) (hg : Gl X x := by rfl) (hdb : (x == ("__debug__" : Str)) = false := by decide)
  (he : starEach (e :: es) X.env = (false, eval e X.env) :: starEach es X.env := by rfl) (hpl : (backTo pos (starEach es X.env)).any (·.1) = false := by rfl) :
  PE (X.exg G) (.Call (.Name x p) (e :: es) [] pos) (tCl X k x G t) := by
 intro pins s σ H Q I h;obtain ⟨ps, dvs, sp, ⟨f, fd, ds, F, hm, hk, hb, hd⟩, h⟩ := h;refine wpAny_Call_Name_kw (qJ I hg hm ?_ hdb);refine callWith_K (h₀ := X.base) I.ok.mod.kin hk (wr (ha pos pins s σ H _ I h) λ us s1 vs H1 I1 r q => ⟨I1.kIn, ?_⟩) he hpl;exact WU B F hr hb hd I1 r q
def tMk (X : Cx) (k : Nat) (x : Str) (G : GK) (t : TA) : TE := λ σ H Q => ∃ C ps dvs sp, KCal X.prog X.w X.K X.mg X.base x C k ps dvs sp /\ t σ H λ vs H1 => ∀ y dx, H1 y = none -> H1 dx = none -> dx ≠ y ->
 sp (.ref y :: (vs ++ dvs)) (upd (upd H1 dx (.own y)) y (.ins C dx [])) (λ v H2 => v = .non /\ Q (.ref y) H2) (λ cls _ H' => G cls σ H')
theorem jF (B : Bod X) (hr : Room (k + 1) X.A) (ha : PA (X.exg G) (e :: es) t) (hg : Gl X x := by rfl) (hdb : (x == ("__debug__" : Str)) = false := by decide)
  (he : starEach (e :: es) X.env = (false, eval e X.env) :: starEach es X.env := by rfl) (hpl : (backTo pos (starEach es X.env)).any (·.1) = false := by rfl) :
  PE (X.exg G) (.Call (.Name x p) (e :: es) [] pos) (tMk X k x G t) := by
 intro pins s σ H Q I h;obtain ⟨C, ps, dvs, sp, ⟨hm, f, fd, ds, F, M, hb, hd⟩, h⟩ := h;refine wpAny_Call_Name_kw (qJ I hg hm ?_ hdb);refine callWith_K (h₀ := X.base) I.ok.mod.kin M.kp (wr (ha pos pins s σ H _ I h) λ us s1 vs H1 I1 r q => ⟨I1.kIn, ?_⟩) he hpl;exact VO B M F hr hb hd I1 r q
def tGl (X : Cx) (x : Str) : TE := λ _ H Q => ∃ v u, X.mg x = some u /\ RelV v u /\ Q v H
theorem qC (hg : Gl X x := by rfl) (hd : (x == ("__debug__" : Str)) = false := by decide) : PE X (.Name x pos) (tGl X x) := λ _ _ _ H _ I h => by
 obtain ⟨v, u, hm, r, h⟩ := h;exact qJ I hg hm ⟨v, H, I, r, h⟩ hd
def tBl (X : Cx) (x : Str) (v : V) : TE := λ _ H Q => X.mg x = none /\ Q v H
theorem zaJ {n : String} (hv : bootBuiltins x = some (.type n)) (hg : Gl X x := by rfl) (hn : x ≠ "__name__" := by decide) (hd : (x == ("__debug__" : Str)) = false := by decide) : PE X (.Name x pos) (tBl X x (.ty n)) := λ _ _ _ H _ I h => by
 obtain ⟨hm, h⟩ := h;exact vk I hg hm hv ⟨.ty n, H, I, rfl, h⟩ hn hd
def tBi (X : Cx) (x : Str) (r : List V -> Hp -> VK -> Prop) (t : TA) : TE := λ σ H Q => X.mg x = none /\ t σ H λ vs H1 => r vs H1 Q
theorem zJ {id : String} {r : List V -> Hp -> VK -> Prop} (hc : CallR X (.builtin id) r) (hv : bootBuiltins x = some (.builtin id)) (ha : PA X (e :: es) t) (hg : Gl X x := by rfl) (hn : x ≠ "__name__" := by decide) (hdb : (x == ("__debug__" : Str)) = false := by decide)
  (he : starEach (e :: es) X.env = (false, eval e X.env) :: starEach es X.env := by rfl) (hpl : (backTo pos (starEach es X.env)).any (·.1) = false := by rfl) : PE X (.Call (.Name x p) (e :: es) [] pos) (tBi X x r t) := λ pins s σ H Q I h =>
 zaN hc hg h.1 hv ha hn hdb he hpl pins s σ H Q I h.2
theorem jG {T : String} {r : List V -> Hp -> VK -> Prop} (hc : CallR X (.type T) r) (hv : bootBuiltins x = some (.type T)) (ha : PA X (e :: es) t) (hg : Gl X x := by rfl) (hn : x ≠ "__name__" := by decide) (hdb : (x == ("__debug__" : Str)) = false := by decide)
  (he : starEach (e :: es) X.env = (false, eval e X.env) :: starEach es X.env := by rfl) (hpl : (backTo pos (starEach es X.env)).any (·.1) = false := by rfl) : PE X (.Call (.Name x p) (e :: es) [] pos) (tBi X x r t) := λ pins s σ H Q I h =>
 VX hc hg h.1 hv ha hn hdb he hpl pins s σ H Q I h.2
end
end L2
namespace L2
open PySem PySem.Spec PyProof.Rows
section
variable {X : Cx} {tg : Expr} {a b c e o : Expr} {ta tb tc : TE} {pos : Pos}
def iSeq (K : PySem.W.Frag) (tl : TE) : TI := λ σ H R => tl σ H λ x H1 => ∃ a, x = .ref a /\ (((∃ xs, SqL K H1 a xs) /\ R (Itl K a) H1) \/ ((∃ xs, SqT K H1 a xs) /\ R (Itt K a) H1))
theorem qT {l : Expr} {tl : TE} (hl : PE X l tl) : PI X tg l (iSeq X.K tl) := by
 intro pins s σ H R I h;refine qQ (hl pins s σ H _ I h) λ v s1 x H1 I1 r1 q1 => ?_;obtain ⟨a, e, q⟩ := q1;subst e;cases r1;rcases q with ⟨⟨xs, hq⟩, q⟩|⟨⟨xs, hq⟩, q⟩
 ·obtain ⟨its, rv, p, hz⟩ := I1.list hq;refine wpAny_pyIter_list p.isList ?_;refine ⟨s1.heap.objs.size, [s1.heap.objs.size], _, _, H1, rfl, I1.kept (t' := s1.toks) λ b o e => Heap.get?_push_of_some _ e, VD a _, ⟨_, Heap.get?_push_size _ rfl, rfl, rfl⟩, λ b hb => ?_, q⟩;have e : b = s1.heap.objs.size := by simpa using hb
  subst e;exact I1.fpOk (Nat.le_refl _) (I1.hok.fresh (Nat.le_refl _))
 ·obtain ⟨its, rv, p, hz⟩ := I1.tuple hq;refine wpAny_pyIter_tuple (show s1.heap.IsTuple a its.toArray from p) ?_;refine ⟨s1.heap.objs.size, [s1.heap.objs.size], _, _, H1, rfl, I1.kept (t' := s1.toks) λ b o e => Heap.get?_push_of_some _ e, XU a _, ⟨_, Heap.get?_push_size _ rfl, rfl, rfl⟩, λ b hb => ?_, q⟩;have e : b = s1.heap.objs.size := by simpa using hb
  subst e;exact I1.fpOk (Nat.le_refl _) (I1.hok.fresh (Nat.le_refl _))
theorem Jj {ta : TA} {p pos : Pos} (ha : PA X [a] ta) (hg : Gl X "range" := by rfl) (hs : starEach [a] X.env = [(false, eval a X.env)] := by rfl) : PI X tg (.Call (.Name "range" p) [a] [] pos) (λ σ H R => X.mg "range" = none /\ iRng1 ta σ H R) :=
 λ pins s σ H R I h => VW hg h.1 ha hs pins s σ H R I h.2
def zaI (K : PySem.W.Frag) : R2 := λ x y H Q => ∃ l b xs zs, x = .ref l /\ y = .ref b /\ SqL K H l xs /\ SqL K H b zs /\ xs.length + zs.length <= sizeLine /\ ∀ p, H p = none -> Q (.ref p) (upd H p (.lst (xs ++ zs)))
theorem zbZ : OpR X (binaryOp .Add) (zaI X.K) := by
 intro pins s σ H x y v u Q I rx ry h;obtain ⟨l, b, xs, zs, rfl, rfl, hH, hB, hz, q⟩ := h;cases rx;cases ry;obtain ⟨its, r, p, z⟩ := I.list hH;obtain ⟨its2, r2, p2, z2⟩ := I.list hB;have e1 := r.length;have e2 := r2.length;obtain ⟨⟨cls, dd, data, sl⟩, n, ho, hc, hdd, hd⟩ := p;obtain ⟨⟨cls2, dd2, data2, sl2⟩, n2, ho2, hc2, hdd2, hd2⟩ := p2;simp only at hc hd hc2 hd2;subst hc hd hc2 hd2;have ea : its.toArray ++ its2.toArray = (its ++ its2).toArray := by simp
 refine concat_meets ⟨_, ho, rfl⟩ ⟨_, ho2, rfl⟩ noFill_list_add seq_list_add PySem.F.slot_list_add PySem.F.entry_list_add (PySem.F.args_list_add_2 _ _) (list_addW l b its.toArray its2.toArray n n2 dd dd2 sl sl2 (by simp only [size_toArray];lia)) ⟨ho, ho2, ?_⟩;rw [ea];exact ⟨.ref _, _, I.lnew (t' := s.toks) (r.append r2) (by rw [length_append];lia), rfl, q _ I.fresh⟩
theorem OpR.wk {f : Value -> Value -> Sem Value} {r r' : R2} (h : OpR X f r) (k : ∀ x y H Q, r' x y H Q -> r x y H Q) : OpR X f r' := λ pins s σ H x y v u Q I rx ry q => h pins s σ H x y v u Q I rx ry (k x y H Q q)
def xy (K : PySem.W.Frag) : R2 := λ x y H Q => match x, y with
 | .int i, .int j => Q (.int (i + j)) H
 | .str i, .str j => i.length + j.length <= sizeLine /\ Q (.str (i ++ j)) H
 | x, y => zaI K x y H Q
theorem zn : OpR X (binaryOp .Add) (xy X.K) := (op_add.or (op_add_str.or zbZ)).wk λ x y H Q h => by
 unfold xy at h
 split at h
 ·exact .inl h
 ·exact .inr (.inl ⟨_, _, rfl, rfl, h⟩)
 ·exact .inr (.inr h)
def rT (c : Int -> Int -> Prop) [∀ i j, Decidable (c i j)] : R2 := λ x y H Q => iq x λ i => iq y λ j => if c i j then Q (.bl true) H else Q (.bl false) H
theorem Wp {c : Prop} [Decidable c] {Q : VK} {H : Hp} (h : if c then Q (.bl true) H else Q (.bl false) H) : Q (.bl (decide c)) H := by
 by_cases e : c
 ·rw [if_pos e] at h;rw [decide_eq_true e];exact h
 ·rw [if_neg e] at h;rw [decide_eq_false e];exact h
theorem zb8 {c : Prop} [Decidable c] {Q : VK} {H : Hp} (h : if ¬ c then Q (.bl true) H else Q (.bl false) H) : Q (.bl (!decide c)) H := by
 by_cases e : c
 ·rw [if_neg (λ z => z e)] at h;rw [decide_eq_true e];exact h
 ·rw [if_pos e] at h;rw [decide_eq_false e];exact h
theorem OpR.t {f : Value -> Value -> Sem Value} {c : Int -> Int -> Prop} [∀ i j, Decidable (c i j)] (h : OpR X f (rI0 λ i j => .bl (decide (c i j)))) : OpR X f (rT c) := h.wk λ x y H Q q => by
 obtain ⟨i, j, rfl, rfl, q⟩ := Jt q;exact Wp q
theorem zaW : OpR X (compareOp .Lt) (rT λ i j => i < j) := op_lt.t
theorem jb : OpR X (compareOp .LtE) (rT λ i j => i <= j) := op_le.t
theorem xV : OpR X (compareOp .Gt) (rT λ i j => j < i) := op_gt.t
theorem Qz : OpR X (compareOp .GtE) (rT λ i j => j <= i) := op_ge.t
theorem zc0 : OpR X (compareOp .Is) (λ x y H Q => nq y (if x = .non then Q (.bl true) H else Q (.bl false) H)) := op_isN.wk λ x y H Q q => by
 obtain ⟨rfl, q⟩ := zcv q;exact Wp q
theorem X8 {op : Operator} {b : Expr} {y : V} {r : R2} (ho : OpR X (binaryOp op) r) (hb : PE X b (tC y)) {ta : TE} {r' : V -> Hp -> VK -> Prop} (k : ∀ x H Q, r' x H Q -> r x y H Q) {pos : Pos} (ha : PE X a ta) : PE X (.BinOp a op b pos) (tUn r' ta) := by
 intro pins s σ H Q I h;refine wpAny_BinOp (qQ (ha pins s σ H _ I h) λ v s1 x H1 I1 r1 q1 => thn (hb pins s1 σ H1 (λ z H2 => z = y /\ H2 = H1) I1 ⟨rfl, rfl⟩) λ u s2 ⟨z, H2, I2, r2, e, e2⟩ => ?_);subst e e2;exact ho pins s2 σ H2 x z v u Q I2 r1 r2 (k x H2 Q q1)
theorem zD {k : Int} {j : Nat} {p2 pos : Pos} {ta : TE} (ha : PE X a ta) (h : decide (0 < k) = true := by rfl) : PE X (.BinOp a .Mod (.Constant (.int k) j p2) pos) (tUn (rU λ i => .int (i % k)) ta) :=
 X8 qu zg (λ x H Q q => by obtain ⟨i, rfl, q⟩ := wO q;exact ⟨of_decide_eq_true h, q⟩) ha
theorem zA {k : Int} {j : Nat} {p2 pos : Pos} {ta : TE} (ha : PE X a ta) (h : decide (0 < k /\ k < 1073741824) = true := by rfl) : PE X (.BinOp a .FloorDiv (.Constant (.int k) j p2) pos) (tUn (rU λ i => .int (i / k)) ta) :=
 X8 zbY zg (λ x H Q q => by obtain ⟨i, rfl, q⟩ := wO q;have z := of_decide_eq_true h;exact ⟨z, q⟩) ha
theorem X7 {b k : Int} {j j2 : Nat} {p1 p2 pos : Pos} (h : decide (0 <= k /\ k <= 1000000 /\ b.natAbs < 2 ^ 64) = true := by rfl) : PE X (.BinOp (.Constant (.int b) j p1) .Pow (.Constant (.int k) j2 p2) pos) (tC (.int (b ^ k.toNat))) := by
 intro pins s σ H Q I q;have z := of_decide_eq_true h;exact zj zc2 zg zg pins s σ H Q I ⟨z, q⟩
theorem Jm {b k : Int} {j j2 : Nat} {p1 p2 p3 pos : Pos} {ta : TE} (ha : PE X a ta) (h : decide (0 <= k /\ k <= 1000000 /\ b.natAbs < 2 ^ 64) = true := by rfl) (h0 : decide (0 < b) = true := by rfl) :
  PE X (.BinOp a .Mod (.BinOp (.Constant (.int b) j p1) .Pow (.Constant (.int k) j2 p2) p3) pos) (tUn (rU λ i => .int (i % b ^ k.toNat)) ta) :=
 X8 qu (X7 h) (λ x H Q q => by obtain ⟨i, rfl, q⟩ := wO q;exact ⟨Int.pow_pos (of_decide_eq_true h0), q⟩) ha
structure MulOk (i j : Int) : Prop where
 h : IntMulOk i j
theorem qE : OpR X (binaryOp .Mult) (rI MulOk λ i j => .int (i * j)) := opI λ _ _ _ _ _ _ _ hc q => mul_int q hc.h
structure CFd (_ j : Int) : Prop where
 a : j ≠ 0
 b : j.natAbs.log2 < 9000
theorem vW : OpR X (binaryOp .FloorDiv) (rI CFd λ i j => .int (i.fdiv j)) := opI λ _ _ _ _ _ _ _ hc q => floordiv_int hc.1 q (.inl (PyProof.noPylong_of_log2 hc.2))
theorem mul_okL {i j : Int} (h1 : -(2 ^ 64) < i) (h2 : i < 2 ^ 64) : MulOk i j := ⟨PySem.IntMulOk.of_left (PySem.intBits_le_64 h1 h2)⟩
theorem mul_okR {i j : Int} (h1 : -(2 ^ 64) < j) (h2 : j < 2 ^ 64) : MulOk i j := ⟨PySem.IntMulOk.of_right (PySem.intBits_le_64 h1 h2)⟩
theorem fd_ok {i j : Int} (h1 : 0 < j) (h2 : j.natAbs < 2 ^ 8999) : CFd i j := ⟨by lia, by
 have := (Nat.log2_lt (n := j.natAbs) (k := 8999) (by lia)).mpr h2
 lia⟩
theorem fdiv_pos {i j : Int} (h : 0 < j) : i.fdiv j = i / j := Int.fdiv_eq_ediv_of_nonneg i (Int.le_of_lt h)
def jZ : List V -> List V -> Bool
 | [], [] => true
 | x :: xs, y :: ys => eqV x y && jZ xs ys
 | _, _ => false
theorem jX : ∀ {xs ys : List V}, xs.length ≠ ys.length -> jZ xs ys = false
 | [], [], h => absurd rfl h
 | [], _ :: _, _ => rfl
 | _ :: _, [], _ => rfl
 | x :: xs, y :: ys, h => by
  have := jX (xs := xs) (ys := ys) (λ e => h (by simp [e]));unfold jZ;rw [this, Bool.and_false]
theorem jY : ∀ {xs ys : List V}, xs.length = ys.length -> (List.range xs.length).all (λ j => eqV (xs.getD j .non) (ys.getD j .non)) = jZ xs ys
 | [], [], _ => rfl
 | [], _ :: _, h => by simp at h
 | _ :: _, [], h => by simp at h
 | x :: xs, y :: ys, h => by
  have ih := jY (xs := xs) (ys := ys) (by simpa using h);unfold jZ;rw [<- ih, length_cons, List.range_succ_eq_map, all_cons, List.all_map]
  rfl
theorem Vals.getD : ∀ {xs : List V} {us : List Value} {j : Nat} (h : j < us.length), Vals xs us -> RelV (xs.getD j .non) us[j]
 | _, _, 0, _, .cons r _ => r
 | _, _, j + 1, h, .cons _ t => Vals.getD (j := j) (by simpa using h) t
theorem jf {xs : List V} (f : xs.all jk = true) (j : Nat) : jk (xs.getD j .non) = true := by
 rw [List.getD_eq_getElem?_getD];cases e : xs[j]? with
 | none => rfl
 | some x => exact List.all_eq_true.mp f x (mem_of_getElem? e)
def zbT (K : PySem.W.Frag) (neg : Bool) : R2 := λ x y H Q => ∃ a b xs ys, x = .ref a /\ y = .ref b /\ ((SqL K H a xs /\ SqL K H b ys) \/ (SqT K H a xs /\ SqT K H b ys)) /\ xs.all jk = true /\ ys.all jk = true /\ Q (.bl (if neg then !jZ xs ys else jZ xs ys)) H
theorem V3 (hu : X.A.units < cLine) : OpR X (compareOp .Eq) (zbT X.K false) := by
 intro pins s σ H x y v u Q I rx ry h;obtain ⟨a, b, xs, ys, rfl, rfl, hq, fx, fy, q⟩ := h;cases rx;cases ry;have fin : EP X pins σ Q (.bool (jZ xs ys)) s := ⟨.bl (jZ xs ys), H, I, rfl, q⟩;rcases hq with ⟨h1, h2⟩|⟨h1, h2⟩
 ·obtain ⟨its, r, p, _⟩ := I.list h1;obtain ⟨its2, r2, p2, _⟩ := I.list h2;have e1 := r.length;have e2 := r2.length;by_cases hl : xs.length = ys.length
  ·refine SeqAt.RcAt.lists (e := λ j => eqV (xs.getD j .non) (ys.getD j .non)) p.isList p2.isList (by simp only [size_toArray];lia) hu (λ j h1 h2 => ?_) _ _ _ _ ?_
   ·exact vn (Vals.getD (by simpa using h1) r) (Vals.getD (by simpa using h2) r2) (jf fx j) (jf fy j)
   ·rw [size_toArray, <- e1, jY hl];exact fin
  ·rw [jX hl] at fin;exact SeqAt.RcAt.lists_lengths p.isList p2.isList (by simp only [size_toArray];simp;lia) hu _ _ _ _ fin
 ·obtain ⟨its, r, p, _⟩ := I.tuple h1;obtain ⟨its2, r2, p2, _⟩ := I.tuple h2;have e1 := r.length;have e2 := r2.length;refine SeqAt.RcAt.tuples (e := λ j => eqV (xs.getD j .non) (ys.getD j .non)) p p2 hu (λ j h1 h2 => ?_) _ _ _ _ ?_
  ·exact vn (Vals.getD (by simpa using h1) r) (Vals.getD (by simpa using h2) r2) (jf fx j) (jf fy j)
  ·by_cases hl : xs.length = ys.length
   ·have em : min its.toArray.size its2.toArray.size = xs.length := by simp only [size_toArray];lia
    have es : (its.toArray.size == its2.toArray.size) = true := by simp only [size_toArray];rw [beq_iff_eq];lia
    rw [em, es, jY hl, Bool.and_true];exact fin
   ·have es : (its.toArray.size == its2.toArray.size) = false := by simp only [size_toArray];rw [beq_eq_false_iff_ne];lia
    rw [es, Bool.and_false];rw [jX hl] at fin;exact fin
theorem V0 (hu : X.A.units < cLine) : OpR X (compareOp .NotEq) (zbT X.K true) := by
 intro pins s σ H x y v u Q I rx ry h;obtain ⟨a, b, xs, ys, rfl, rfl, hq, fx, fy, q⟩ := h;cases rx;cases ry;have fin : EP X pins σ Q (.bool (!jZ xs ys)) s := ⟨.bl (!jZ xs ys), H, I, rfl, q⟩;rcases hq with ⟨h1, h2⟩|⟨h1, h2⟩
 ·obtain ⟨its, r, p, _⟩ := I.list h1;obtain ⟨its2, r2, p2, _⟩ := I.list h2;have e1 := r.length;have e2 := r2.length;by_cases hl : xs.length = ys.length
  ·refine SeqAt.RcNeAt.lists (e := λ j => eqV (xs.getD j .non) (ys.getD j .non)) p.isList p2.isList (by simp only [size_toArray];lia) hu (λ j h1 h2 => ?_) _ _ _ _ ?_
   ·exact vn (Vals.getD (by simpa using h1) r) (Vals.getD (by simpa using h2) r2) (jf fx j) (jf fy j)
   ·rw [size_toArray, <- e1, jY hl];exact fin
  ·rw [jX hl] at fin;exact SeqAt.RcNeAt.lists_lengths p.isList p2.isList (by simp only [size_toArray];simp;lia) hu _ _ _ _ fin
 ·obtain ⟨its, r, p, _⟩ := I.tuple h1;obtain ⟨its2, r2, p2, _⟩ := I.tuple h2;have e1 := r.length;have e2 := r2.length;refine SeqAt.RcNeAt.tuples (e := λ j => eqV (xs.getD j .non) (ys.getD j .non)) p p2 hu (λ j h1 h2 => ?_) _ _ _ _ ?_
  ·exact vn (Vals.getD (by simpa using h1) r) (Vals.getD (by simpa using h2) r2) (jf fx j) (jf fy j)
  ·by_cases hl : xs.length = ys.length
   ·have em : min its.toArray.size its2.toArray.size = xs.length := by simp only [size_toArray];lia
    have es : (its.toArray.size == its2.toArray.size) = true := by simp only [size_toArray];rw [beq_iff_eq];lia
    rw [em, es, jY hl, Bool.and_true];exact fin
   ·have es : (its.toArray.size == its2.toArray.size) = false := by simp only [size_toArray];rw [beq_eq_false_iff_ne];lia
    rw [es, Bool.and_false];rw [jX hl] at fin;exact fin
inductive DE (K : PySem.W.Frag) (H : Hp) : Nat -> V -> V -> Bool -> Prop
 | flat {n : Nat} {x y : V} : jk x = true -> jk y = true -> DE K H n x y (eqV x y)
 | same {n : Nat} {p : Addr} : DE K H n (.ref p) (.ref p) true
 | lists {n : Nat} {p q : Addr} {xs ys : List V} {e : Nat -> Bool} : p ≠ q -> SqL K H p xs -> SqL K H q ys -> xs.length = ys.length -> (∀ j x y, xs[j]? = some x -> ys[j]? = some y -> DE K H n x y (e j)) -> DE K H (n + 1) (.ref p) (.ref q) ((List.range xs.length).all e)
 | listsL {n : Nat} {p q : Addr} {xs ys : List V} : p ≠ q -> SqL K H p xs -> SqL K H q ys -> xs.length ≠ ys.length -> DE K H (n + 1) (.ref p) (.ref q) false
 | tuples {n : Nat} {p q : Addr} {xs ys : List V} {e : Nat -> Bool} : p ≠ q -> SqT K H p xs -> SqT K H q ys -> (∀ j x y, xs[j]? = some x -> ys[j]? = some y -> DE K H n x y (e j)) -> DE K H (n + 1) (.ref p) (.ref q) ((List.range (min xs.length ys.length)).all e && xs.length == ys.length)
 | nt {n : Nat} {p : Addr} {xs : List V} : SqT K H p xs -> DE K H n .non (.ref p) false
 | tn {n : Nat} {p : Addr} {xs : List V} : SqT K H p xs -> DE K H n (.ref p) .non false
theorem Vals.at_ {xs : List V} {us : List Value} (r : Vals xs us) {j : Nat} (h : j < us.toArray.size) : ∃ x, xs[j]? = some x /\ RelV x us.toArray[j] := by
 have h' : j < us.length := by simpa using h
 have hl : j < xs.length := by rw [r.length];exact h'
 obtain ⟨u, hu, ru⟩ := r.get (getElem?_eq_getElem hl);have e : us.toArray[j] = u := by
  have := List.getElem?_eq_some_iff.mp hu;obtain ⟨_, e⟩ := this;simpa using e
 exact ⟨xs[j], getElem?_eq_getElem hl, e ▸ ru⟩
theorem Vv {pins : List (Addr × Obj)} {s : Shared} {σ : St} {H : Hp} {n : Nat} {x y : V} {b : Bool} (I : Inv X pins σ H s) (h : DE X.K H n x y b) : ∀ {u v : Value} {A : Around}, RelV x u -> RelV y v -> A.units + n < cLine -> SeqAt.EqAt A s u v b := by
 induction h with
 | flat fx fy => intro u v A rx ry _;exact vn rx ry fx fy
 | same => intro u v A rx ry _;cases rx;cases ry;exact SeqAt.EqAt.same _
 | lists hne h1 h2 hl _ ih =>
  intro u v A rx ry hu;cases rx;cases ry;obtain ⟨its, r, p, _⟩ := I.list h1;obtain ⟨its2, r2, p2, _⟩ := I.list h2;have e1 := r.length;have e2 := r2.length;refine SeqAt.EqAt.of_refs hne ?_;have := SeqAt.RcAt.lists (A := A) (s := s) p.isList p2.isList (by simp only [size_toArray];lia) (by lia) (λ j h1 h2 => by
   obtain ⟨x, hx, rx⟩ := r.at_ h1;obtain ⟨y, hy, ry⟩ := r2.at_ h2;exact ih j x y hx hy rx ry (by show A.units + 1 + _ < _;lia))
  rw [size_toArray, <- e1] at this;exact this
 | listsL hne h1 h2 hl =>
  intro u v A rx ry hu;cases rx;cases ry;obtain ⟨its, r, p, _⟩ := I.list h1;obtain ⟨its2, r2, p2, _⟩ := I.list h2;have e1 := r.length;have e2 := r2.length;exact SeqAt.EqAt.of_refs hne (SeqAt.RcAt.lists_lengths p.isList p2.isList (by simp only [size_toArray];simp;lia) (by lia))
 | tuples hne h1 h2 _ ih =>
  intro u v A rx ry hu;cases rx;cases ry;obtain ⟨its, r, p, _⟩ := I.tuple h1;obtain ⟨its2, r2, p2, _⟩ := I.tuple h2;have e1 := r.length;have e2 := r2.length;refine SeqAt.EqAt.of_refs hne ?_;have := SeqAt.RcAt.tuples (A := A) (s := s) p p2 (by lia) (λ j h1 h2 => by
   obtain ⟨x, hx, rx⟩ := r.at_ h1;obtain ⟨y, hy, ry⟩ := r2.at_ h2;exact ih j x y hx hy rx ry (by show A.units + 1 + _ < _;lia))
  simp only [size_toArray, <- e1, <- e2] at this;exact this
 | nt h1 =>
  intro u v A rx ry hu;cases rx;cases ry;obtain ⟨its, r, p, _⟩ := I.tuple h1;exact SeqAt.EqAt.none_tuple p (by lia)
 | tn h1 =>
  intro u v A rx ry hu;cases rx;cases ry;obtain ⟨its, r, p, _⟩ := I.tuple h1;exact SeqAt.EqAt.tuple_none p (by lia)
def zbU (K : PySem.W.Frag) (neg : Bool) : R2 := λ x y H Q => ∃ p q xs ys n e, x = .ref p /\ y = .ref q /\ n <= 8 /\ (∀ j x y, xs[j]? = some x -> ys[j]? = some y -> DE K H n x y (e j)) /\
 ((SqL K H p xs /\ SqL K H q ys /\ xs.length = ys.length /\ Q (.bl (if neg then !((List.range xs.length).all e) else (List.range xs.length).all e)) H) \/
   (SqT K H p xs /\ SqT K H q ys /\ Q (.bl (if neg then !((List.range (min xs.length ys.length)).all e && xs.length == ys.length) else ((List.range (min xs.length ys.length)).all e && xs.length == ys.length))) H))
theorem Wc (hu : X.A.units + 100 < cLine) : OpR X (compareOp .Eq) (zbU X.K false) := by
 intro pins s σ H x y v u Q I rx ry h;obtain ⟨p, q, xs, ys, n, e, rfl, rfl, hn, hde, h⟩ := h;cases rx;cases ry;rcases h with ⟨h1, h2, hl, q⟩|⟨h1, h2, q⟩
 ·obtain ⟨its, r, p, _⟩ := I.list h1;obtain ⟨its2, r2, p2, _⟩ := I.list h2;have e1 := r.length;have e2 := r2.length;refine SeqAt.RcAt.lists (e := e) p.isList p2.isList (by simp only [size_toArray];lia) (by lia) (λ j h1 h2 => ?_) _ _ _ _ ?_
  ·obtain ⟨x, hx, rx⟩ := r.at_ h1;obtain ⟨y, hy, ry⟩ := r2.at_ h2;exact Vv I (hde j x y hx hy) rx ry (by show X.A.units + 1 + _ < _;lia)
  ·rw [size_toArray, <- e1];exact ⟨.bl _, H, I, rfl, q⟩
 ·obtain ⟨its, r, p, _⟩ := I.tuple h1;obtain ⟨its2, r2, p2, _⟩ := I.tuple h2;have e1 := r.length;have e2 := r2.length;refine SeqAt.RcAt.tuples (e := e) p p2 (by lia) (λ j h1 h2 => ?_) _ _ _ _ ?_
  ·obtain ⟨x, hx, rx⟩ := r.at_ h1;obtain ⟨y, hy, ry⟩ := r2.at_ h2;exact Vv I (hde j x y hx hy) rx ry (by show X.A.units + 1 + _ < _;lia)
  ·simp only [size_toArray, <- e1, <- e2];exact ⟨.bl _, H, I, rfl, q⟩
theorem Wb (hu : X.A.units + 100 < cLine) : OpR X (compareOp .NotEq) (zbU X.K true) := by
 intro pins s σ H x y v u Q I rx ry h;obtain ⟨p, q, xs, ys, n, e, rfl, rfl, hn, hde, h⟩ := h;cases rx;cases ry;rcases h with ⟨h1, h2, hl, q⟩|⟨h1, h2, q⟩
 ·obtain ⟨its, r, p, _⟩ := I.list h1;obtain ⟨its2, r2, p2, _⟩ := I.list h2;have e1 := r.length;have e2 := r2.length;refine SeqAt.RcNeAt.lists (e := e) p.isList p2.isList (by simp only [size_toArray];lia) (by lia) (λ j h1 h2 => ?_) _ _ _ _ ?_
  ·obtain ⟨x, hx, rx⟩ := r.at_ h1;obtain ⟨y, hy, ry⟩ := r2.at_ h2;exact Vv I (hde j x y hx hy) rx ry (by show X.A.units + 1 + _ < _;lia)
  ·rw [size_toArray, <- e1];exact ⟨.bl _, H, I, rfl, q⟩
 ·obtain ⟨its, r, p, _⟩ := I.tuple h1;obtain ⟨its2, r2, p2, _⟩ := I.tuple h2;have e1 := r.length;have e2 := r2.length;refine SeqAt.RcNeAt.tuples (e := e) p p2 (by lia) (λ j h1 h2 => ?_) _ _ _ _ ?_
  ·obtain ⟨x, hx, rx⟩ := r.at_ h1;obtain ⟨y, hy, ry⟩ := r2.at_ h2;exact Vv I (hde j x y hx hy) rx ry (by show X.A.units + 1 + _ < _;lia)
  ·simp only [size_toArray, <- e1, <- e2];exact ⟨.bl _, H, I, rfl, q⟩
def X5 (K : PySem.W.Frag) : R2 := λ x y H Q => match x, y with
 | .int i, .int j => Q (.bl (decide (i = j))) H
 | .str i, .str j => Q (.bl (decide (i = j))) H
 | .bl i, .bl j => Q (.bl (decide (i = j))) H
 | x, y => rEq x y H Q \/ zbT K false x y H Q \/ zbU K false x y H Q
def VQ (K : PySem.W.Frag) : R2 := λ x y H Q => match x, y with
 | .int i, .int j => Q (.bl (!decide (i = j))) H
 | .str i, .str j => Q (.bl (!decide (i = j))) H
 | .bl i, .bl j => Q (.bl (!decide (i = j))) H
 | x, y => rNe x y H Q \/ zbT K true x y H Q \/ zbU K true x y H Q
def VR (K : PySem.W.Frag) : R2 := λ x y H Q => match x, y with
 | .int i, .int j => if i = j then Q (.bl true) H else Q (.bl false) H
 | .str i, .str j => if i = j then Q (.bl true) H else Q (.bl false) H
 | .bl i, .bl j => if i = j then Q (.bl true) H else Q (.bl false) H
 | x, y => X5 K x y H Q
def VP (K : PySem.W.Frag) : R2 := λ x y H Q => match x, y with
 | .int i, .int j => if ¬ i = j then Q (.bl true) H else Q (.bl false) H
 | .str i, .str j => if ¬ i = j then Q (.bl true) H else Q (.bl false) H
 | .bl i, .bl j => if ¬ i = j then Q (.bl true) H else Q (.bl false) H
 | x, y => VQ K x y H Q
theorem zcu (hu : X.A.units + 100 < cLine) : OpR X (compareOp .Eq) (X5 X.K) := (op_eq.or ((V3 (by lia)).or (Wc hu))).wk λ x y H Q h => by
 unfold X5 at h
 split at h <;> first|exact h|exact .inl ⟨rfl, by simpa using h⟩
theorem zdL (hu : X.A.units + 100 < cLine) : OpR X (compareOp .NotEq) (VQ X.K) := (op_ne.or ((V0 (by lia)).or (Wb hu))).wk λ x y H Q h => by
 unfold VQ at h
 split at h <;> first|exact h|exact .inl ⟨rfl, by simpa using h⟩
theorem zR (hu : X.A.units + 100 < cLine) : OpR X (compareOp .Eq) (VR X.K) := (zcu hu).wk λ x y H Q h => by
 unfold VR at h
 split at h <;> first|exact h|exact Wp (Q := Q) h
theorem zaV (hu : X.A.units + 100 < cLine) : OpR X (compareOp .NotEq) (VP X.K) := (zdL hu).wk λ x y H Q h => by
 unfold VP at h
 split at h <;> first|exact h|exact zb8 (Q := Q) h
theorem Room.units1 {k : Nat} {A : Around} (r : Room k A) : A.units + 100 < cLine := by have := r.un;lia
def zbv : V -> Option Value
 | .ty n => some (.type n)
 | .ref a => some (.ref a)
 | _ => none
theorem zF : bootBuiltins "len" = some (.builtin "len") := by decide +kernel
theorem zT : bootBuiltins "isinstance" = some (.builtin "isinstance") := by decide +kernel
theorem zdn : bootBuiltins "all" = some (.builtin "all") := by decide +kernel
theorem zaj : bootBuiltins "sorted" = some (.builtin "sorted") := by decide +kernel
theorem xK : bootBuiltins "str" = some (.type "str") := by decide +kernel
theorem zbE : bootBuiltins "int" = some (.type "int") := by decide +kernel
theorem wV : bootBuiltins "list" = some (.type "list") := by decide +kernel
theorem zci : bootBuiltins "bool" = some (.type "bool") := by decide +kernel
theorem Qm : bootBuiltins "ValueError" = some (.type "ValueError") := by decide +kernel
theorem vI {K : PySem.W.Frag} : kitOne K (.type "int") (.type "int") = some true := by rfl
theorem wM {K : PySem.W.Frag} : kitOne K (.type "int") (.type "bool") = some false := by rfl
theorem xY {K : PySem.W.Frag} : kitOne K (.type "bool") (.type "bool") = some true := by rfl
theorem vH {K : PySem.W.Frag} : kitOne K (.type "str") (.type "str") = some true := by rfl
theorem zdg : IxR X (rIx X.K) := zdf
theorem zG : CallR X (.builtin "len") (λ xs H Q => lq xs λ x => ∃ n, zdu X.K x H n /\ Q (.int n) H) := λ pins s σ H xs us Q I r h => let ⟨x, e, n, h⟩ := za5 h;zbw pins s σ H xs us Q I r ⟨x, n, e, h⟩
theorem za4 {xs : List V} {P : Int -> Prop} (h : lq xs λ v => iq v P) : ∃ i, xs = [.int i] /\ P i := by
 obtain ⟨v, rfl, h⟩ := za5 h;obtain ⟨i, rfl, h⟩ := wO h;exact ⟨i, rfl, h⟩
end
end L2
namespace L2
open PySem PySem.Spec PyProof.Rows
abbrev bmV : List Value := [.type "ValueError", .type "Exception", .type "BaseException", .type "object"]
structure XC (K : PySem.W.Frag) (C : Addr) : Prop where
 q : PySem.W.excIn K C bmV "ValueError.__new__" = true
theorem zcC {K : PySem.W.Frag} {C : Addr} {h₀ : Heap} (X : K.In h₀) (x : XC K C) : ∃ bm N nm q bs hdct sn sub ab col dd k0 k1 k2 k3 k5 mN, h₀.get? C = some (excClassObj nm q C N bs bm hdct sn sub ab col dd k0 k1 k2 k3 k5 "ValueError.__new__") /\ h₀.Ns N mN /\ mN "__init__" = none /\ OwnTail h₀ bmV bm := by
 have q := x.q;unfold PySem.W.excIn at q
 split at q
 ·rename_i dd cd sl ho
  split at q
  ·rename_i C' bm k0 k1 k2 k3 n k5 hm hs;simp only [Bool.and_eq_true, beq_iff_eq, Bool.not_eq_true'] at q;obtain ⟨⟨⟨⟨⟨rfl, rfl⟩, hdel⟩, ht⟩, hok⟩, hni⟩ := q;obtain ⟨nm, bs, mro, ns, qn, hd, sn, sub, ab, col, del⟩ := cd;dsimp only at hm hdel hok hni;subst hm hdel;have hsl : sl = #[k0, k1, k2, k3, some (.builtin "ValueError.__new__"), k5] := by
    obtain ⟨l⟩ := sl;simp only at hs;rw [hs]
   subst hsl;exact ⟨bm, ns, nm, qn, bs, hd, sn, sub, ab, col, dd, k0, k1, k2, k3, k5, _, X _ _ ho, .of_isNs (PySem.W.isNs_of_in X hok), PySem.W.nsMap_none_of_in X hok hni, PySem.W.tail_of_in X ht⟩
  ·cases q
 ·cases q
section
variable {X : Cx} {G : GK} {x n : Str} {np cpos pos hpos : Pos} {e₀ : Expr} {es : List Expr} {t : TA}
def tRaise (X : Cx) (x : Str) (G : GK) (t : TA) : TS := λ _ σ H => ∃ C, X.mg x = some (.ref C) /\ XC X.K C /\ t σ H λ vs H1 => szl vs (G (.ref C) σ H1)
theorem qL (B : Bod X) (hc : X.calm = true) (ha : PA (X.exg G) (e₀ :: es) t) (hg : Gl X x := by rfl) (hdb : (x == ("__debug__" : Str)) = false := by decide)
  (he : starEach (e₀ :: es) X.env = (false, eval e₀ X.env) :: starEach es X.env := by rfl) (hpl : (backTo cpos (starEach es X.env)).any (·.1) = false := by rfl) :
  PS (X.exg G) (.Raise (some (.Call (.Name x np) (e₀ :: es) [] cpos)) none pos) (tRaise X x G t) := by
 intro pins s σ H D I h;obtain ⟨C, hm, xc, h⟩ := h;obtain ⟨tl, N, nm, q, bs, hdct, sn, sub, ab, col, dd, k0, k1, k2, k3, k5, mN, hC, hN, hni, T⟩ := zcC I.ok.mod.kin xc;refine wpAny_Raise_call_subT (C := C) (nm := nm) (q := q) (N := N) (bs := bs) (bm := tl) (hdct := hdct) (sn := sn) (sub := sub) (ab := ab) (col := col) (dd := dd) (k0 := k0) (k1 := k1) (k2 := k2) (k3 := k3) (k5 := k5)
  F.excBase_ValueError (mN := mN) (T.hasType F.excBase_ValueError.hasBase) (I.ok.hd hc) (by rw [he];show (false || (backTo cpos (starEach es X.env)).any (·.1)) = false;rw [hpl];rfl) hni (qJ I hg hm ⟨rfl, ?_⟩ hdb)
 have hA := ha cpos pins s σ H _ I h;rw [he] at hA ⊢;refine Calls.evalArgs_plain (thn hA λ us s2 ⟨vs, H2, I2, r, g⟩ => ?_);obtain ⟨hl, g⟩ := Q2 g;exact ⟨rfl, by rw [<- r.length];exact hl, I2.bk _ _ hC, hN.keeps I2.bk, T.keeps I2.bk, λ h' a hm => XR B I2.unwish hm g⟩
end
def wm (a : Addr) (cls : Value) : HO := .ext λ h => ∃ o vs, h.get? a = some o /\ ExC o cls /\ o.data = .fields vs
theorem Exc.obj {g h : Heap} {H : Hp} {pn : List (Addr × Obj)} {a : Addr} {cls : Value} (x : Exc g h H pn a cls) : ∃ o vs, h.get? a = some o /\ ExC o cls /\ o.data = .fields vs := by
 obtain ⟨oe, vs, _, _, _, h1, h2, h4, _⟩ := x.ex;exact ⟨oe, vs, h1, h2, h4⟩
section
variable {X : Cx} {pins : List (Addr × Obj)} {σ : St} {H : Hp} {s : Shared}
theorem Inv.track {a : Addr} {u : HO} (I : Inv X pins σ H s) (Ha : H a = none) (ga : X.s₀.heap.get? a = none) (hrec : ∃ o vs, s.heap.get? a = some o /\ o.data = .fields vs) (pa : ∀ p ∈ X.pn ++ pins, p.1 ≠ a)
  (new : ObjOk X.prog X.w (upd H a u) s.heap a u) : Inv X pins σ (upd H a u) s := by
 obtain ⟨o, vs, ho, hd⟩ := hrec;have neL : X.env.locals ≠ a := λ z => by
  obtain ⟨m, ⟨o', es, ep, ho', hd', _⟩, _⟩ := I.loc;rw [z, ho] at ho';cases ho';rw [hd'] at hd;cases hd
 have neC : ∀ x c, X.env.cells.lookup x = some c -> c ≠ a := λ x c e z => by
  obtain ⟨v, o', ho', hd'⟩ := I.cell x c e;rw [z, ho] at ho';cases ho';rw [hd'] at hd;cases hd
 have keep : ∀ b v, H b = some v -> upd H a u b = some v := λ b v e => by
  rw [upd_ne (ne_of_none e Ha)];exact e
 refine ⟨I.ok, I.os, I.bare, ⟨I.base.keep, I.base.slot, λ b o' e n hx => ?_, I.base.there, λ b xs e => keep b _ (I.base.tups b xs e), λ b o' v e => keep b _ (I.base.frzs b o' v e), λ b ps e => ?_⟩, I.loc, I.cell, ?_, λ x c e => ?_, λ p hp => ?_, λ b v e => ?_, I.len⟩
 ·have : b ≠ a := λ z => by rw [z, ga] at e;cases e
  rw [upd_ne this];exact I.base.free b o' e n hx
 ·obtain ⟨more, q⟩ := I.base.tbls b ps e;exact ⟨more, keep b _ q⟩
 ·rw [upd_ne neL];exact I.free
 ·rw [upd_ne (neC x c e)];exact I.freeC x c e
 ·obtain ⟨e, n, ne, nf, d⟩ := I.pin p hp;exact ⟨e, by rw [upd_ne (pa p hp)];exact n, ne, nf, d⟩
 ·by_cases hb : b = a
  ·subst hb;rw [upd_same] at e;cases e;exact new
  ·rw [upd_ne hb] at e;exact (I.hok b v e).stay (λ _ _ _ q => q) (λ c q => keep c _ q) λ c xs q => keep c _ q
theorem zce {a : Addr} {cls : Value} {h : Heap} (x : ∃ o vs, h.get? a = some o /\ ExC o cls /\ o.data = .fields vs) {P : Program} {w : World} {H : Hp} : ObjOk P w H h a (wm a cls) := by
 refine ⟨x, let ⟨o, _, e, _⟩ := x;⟨o, e⟩, λ h1 h2 p k => ?_⟩;obtain ⟨o, vs, e, r⟩ := p;exact ⟨o, vs, k o e, r⟩
theorem wj {M : Model} {A : Around} {E : Value -> Shared -> Prop} {a : Addr} {cls : Value} {Q : Unit -> Shared -> Prop} (I : Inv X pins σ H s) (x : Exc X.s₀.heap s.heap H (X.pn ++ pins) a cls)
  (hQ : ∀ s', Inv X pins σ H s' -> Exc X.s₀.heap s'.heap H (X.pn ++ pins) a cls -> Q () s') : wpAny M A (setFlight (.ref a) none) Q E s := by
 obtain ⟨⟨oe, vs, T, oT, ts, h1, h2, h4, h5, h6, h7, h8, h9, h10, h11, h12⟩, ga, Ha, pa⟩ := x;have h3s : 3 < ts.size := (Array.getElem?_eq_some_iff.mp h9).1;refine wpAny_setFlight_none h1 h4 h5 h7 h8 h3s ?_;have hT := Heap.get?_update_self (Obj.mapFields (·.setIfInBounds 3 Value.none)) h7 (Obj.isFreed_of_fields (Obj.data_mapFields h8 _));have other : ∀ b, b ≠ T -> (s.heap.update T (Obj.mapFields (·.setIfInBounds 3 Value.none))).get? b = s.heap.get? b := λ b hb => Heap.get?_update_other _ _ (Ne.symm hb);refine hQ _ (I.stepx (ch := [T]) (λ b hb => ?_) (λ b hb => ?_) (λ b o _ hc q => (other b (λ z => hc (by simp [z]))).trans q) (λ b o hc q => ⟨o.slots, (other b (λ z => hc (by simp [z]))).trans q⟩) λ b hb => ?_)
  ⟨⟨oe, vs, T, _, _, (other a (Ne.symm h6)).trans h1, h2, h4, h5, h6, hT, Obj.data_mapFields h8 _, by simp [h3s], h10, h11, h12⟩, ga, Ha, pa⟩
 ·obtain rfl : b = T := by simpa using hb
  exact ⟨h10, h11, h12⟩
 ·obtain rfl : b = T := by simpa using hb
  exact ⟨oT, ts, h7, h8⟩
 ·obtain rfl : b = T := by simpa using hb
  exact ⟨_, hT⟩
end
abbrev Cx.suite (X : Cx) (pn : List (Addr × Obj)) (a : Addr) : Cx := { X with pn := pn, A := X.A.mark (some (.ref a)), calm := false, xe := λ _ _ => False }
abbrev Cx.pinned (X : Cx) (pn : List (Addr × Obj)) : Cx := { X with pn := pn }
section
variable {X : Cx} {pins : List (Addr × Obj)} {σ : St} {H : Hp} {s : Shared}
theorem Inv.topn (I : Inv X pins σ H s) : Inv (X.pinned (X.pn ++ pins)) [] σ H s :=
 ⟨⟨I.ok.mod, I.ok.kind, I.ok.glob, I.ok.blt, I.ok.above, I.ok.inj, I.ok.has, I.ok.cab, I.ok.hd, I.ok.frames, I.ok.stk, I.ok.exf, I.ok.bs, I.ok.bsz, I.ok.noex, I.ok.exfs, I.ok.funs, I.ok.frf⟩,
  I.os, I.bare, I.base, I.loc, I.cell, I.free, I.freeC, λ p hp => I.pin p (by rwa [append_nil] at hp), I.hok, I.len⟩
theorem Inv.ofpn (I : Inv (X.pinned (X.pn ++ pins)) [] σ H s) : Inv X pins σ H s :=
 ⟨⟨I.ok.mod, I.ok.kind, I.ok.glob, I.ok.blt, I.ok.above, I.ok.inj, I.ok.has, I.ok.cab, I.ok.hd, I.ok.frames, I.ok.stk, I.ok.exf, I.ok.bs, I.ok.bsz, I.ok.noex, I.ok.exfs, I.ok.funs, I.ok.frf⟩,
  I.os, I.bare, I.base, I.loc, I.cell, I.free, I.freeC, λ p hp => I.pin p (by rw [append_nil];exact hp), I.hok, I.len⟩
theorem Inv.tosuite {pn : List (Addr × Obj)} {a : Addr} (I : Inv (X.pinned pn) [] σ H s) : Inv (X.suite pn a) [] σ H s :=
 ⟨⟨I.ok.mod, I.ok.kind, I.ok.glob, I.ok.blt, I.ok.above, I.ok.inj, I.ok.has, I.ok.cab, λ h => Bool.noConfusion h, I.ok.frames, I.ok.stk, I.ok.exf, I.ok.bs, I.ok.bsz, I.ok.noex, I.ok.exfs, I.ok.funs, I.ok.frf⟩,
  I.os, I.bare, I.base, I.loc, I.cell, I.free, I.freeC, I.pin, I.hok, I.len⟩
theorem Inv.ofsuite {pn : List (Addr × Obj)} {a : Addr} (hd : X.calm = true -> X.A.handled = none) (I : Inv (X.suite pn a) [] σ H s) : Inv (X.pinned pn) [] σ H s :=
 ⟨⟨I.ok.mod, I.ok.kind, I.ok.glob, I.ok.blt, I.ok.above, I.ok.inj, I.ok.has, I.ok.cab, hd, I.ok.frames, I.ok.stk, I.ok.exf, I.ok.bs, I.ok.bsz, I.ok.noex, I.ok.exfs, I.ok.funs, I.ok.frf⟩,
  I.os, I.bare, I.base, I.loc, I.cell, I.free, I.freeC, I.pin, I.hok, I.len⟩
theorem xN {M : Model} {A : Around} {E : Value -> Shared -> Prop} {i : Nat} {n : Str} {pos : Pos} {Q : Unit -> Shared -> Prop} (I : Inv X pins σ H s) (hN : X.N.Nodup) (hi : X.N[i]? = some n) (hlo : X.env.kindOf n = some .local)
  (hQ : ∀ s', Inv X pins (σ.set i none) H s' -> Q () s') : wpAny M A (do bindName X.env n .none;unbindBehindTheSuite X.env n pos) Q E s := by
 obtain ⟨m, hn, hl⟩ := id I.loc;have hcls : (X.env.scope.kind == .class || (X.env.scope.kind == .module && X.env.locals != X.env.globals)) = false := by rw [I.ok.kind];rfl
 refine wpAny_nameGoes_keeps hlo hn hcls λ h' v hn' hs => ?_;have iσ : i < σ.length := by rw [I.len];exact (List.getElem?_eq_some_iff.mp hi).1
 obtain ⟨oL, _, _, hoL, _⟩ := id hn;have cne := I.cne;refine hQ _ ⟨I.ok, I.os, I.bare, ⟨λ b o e n hb hx => ?_, λ b o e n hb hx => ?_, I.base.free, λ b o e hx => ?_, I.base.tups, I.base.frzs, I.base.tbls⟩, ⟨_, hn', λ j y v' e1 e2 e3 => ?_⟩, λ y c e => ?_, I.free, I.freeC, λ p hp => ?_, λ b ob e => ?_, by simpa using I.len⟩
 ·exact (hs.2 b (Nat.ne_of_lt (Nat.lt_of_lt_of_le (Heap.lt_size e) I.ok.above))).trans (I.base.keep b o e n hb hx)
 ·obtain ⟨sl, e1⟩ := I.base.slot b o e n hb hx;exact ⟨sl, (hs.2 b (Nat.ne_of_lt (Nat.lt_of_lt_of_le (Heap.lt_size e) I.ok.above))).trans e1⟩
 ·obtain ⟨o', e1⟩ := I.base.there b o e hx;exact ⟨o', (hs.2 b (Nat.ne_of_lt (Nat.lt_of_lt_of_le (Heap.lt_size e) I.ok.above))).trans e1⟩
 ·by_cases hj : j = i
  ·subst hj;rw [getElem?_set_self iσ] at e2;cases e2
  ·rw [getElem?_set_ne (Ne.symm hj)] at e2;obtain ⟨u', r', q⟩ := hl j y v' e1 e2 e3;refine ⟨u', r', ?_⟩;rcases q with ⟨k, e⟩|⟨k, c, e, z⟩
   ·refine .inl ⟨k, ?_⟩;have : y ≠ n := λ e => hj (ZJ hN e1 (e ▸ hi));simp [this, e]
   ·exact .inr ⟨k, c, e, z.sameBut hs (cne y c e)⟩
 ·obtain ⟨w', z⟩ := I.cell y c e;exact ⟨w', z.sameBut hs (cne y c e)⟩
 ·obtain ⟨e, n, ne, nf, d⟩ := I.pin p hp;exact ⟨(hs.2 p.1 ne).trans e, n, ne, nf, d⟩
 ·refine (I.hok b ob e).stay (λ c w' hc q => (hs.2 c ?_).trans q) (λ _ q => q) λ _ _ q => q;rintro rfl;rcases hc with z|hc
  ·rw [<- z] at e;rw [I.free] at e;cases e
  ·rw [I.free] at hc;cases hc
end
theorem jL {K : PySem.W.Frag} {M : Model} {A : Around} {E : Value -> Shared -> Prop} {s : Shared} {e C D : Addr} {oe : Obj} {b : Bool} {Q : Bool -> Shared -> Prop} (X : K.In s.heap) (he : s.heap.get? e = some oe) (hcls : oe.cls = .ref C)
  (k1 : kitCls K (.ref C) (.ref D) = some b) (k2 : subIn K (.ref D) (.type "BaseException") = some true) (hq : Q b s) : wpAny M A (excMatches (.ref e) (.ref D)) Q E s := by
 obtain ⟨L1, L2, L3⟩ := PySem.W.kit_cls (M := M) X k1;have L4 := looks_subIn (M := M) X k2;have f := tc_notTuple;obtain ⟨hp, g, d, tk, os⟩ := s;unfold excMatches
 repeat (first|(with_reducible refine wpAny_loadPart_at he ?_;rw [hcls])|with_reducible refine L1.at ?_|with_reducible refine L2.at ?_|with_reducible refine L3.at ?_|with_reducible refine L4.at ?_|wp_step)
 cases b
 ·wp_walk
  exact hq
 ·wp_walk
  exact hq
section
variable {X : Cx} {G : GK} {x n : Str} {np pos hpos : Pos} {i : Nat} {body suite : List Stmt} {b₀ : Stmt} {tb : List (Addr × Obj) -> GK -> TS} {th : List (Addr × Obj) -> Addr -> TS}
def tTryAs (X : Cx) (i : Nat) (x : Str) (tb : List (Addr × Obj) -> GK -> TS) (th : List (Addr × Obj) -> Addr -> TS) : TS := λ D σ H => ∃ Dc, X.mg x = some (.ref Dc) /\ subIn X.K (.ref Dc) (.type "BaseException") = some true /\
 ∀ pn, tb pn (λ cls σ' H' => ∃ C, QR cls = some C /\ kitCls X.K (.ref C) (.ref Dc) = some true /\ ∀ a, H' a = none ->
  th pn a { nx := λ σ2 H2 => D.nx (σ2.set i none) H2, rt := D.rt, bk := λ σ2 H2 => D.bk (σ2.set i none) H2, ct := λ σ2 H2 => D.ct (σ2.set i none) H2 } (σ'.set i (some (.ref a))) (upd H' a (wm a cls))) D σ H
theorem VS (B : Bod X) (hc : X.calm = true) (hN : X.N.Nodup) (hi : X.N[i]? = some n) (hlo : X.env.kindOf n = some .local)
  (hb : ∀ pn G', PSs ((X.pinned pn).exg G') body (tb pn G')) (hs : ∀ pn a, PSs (X.suite pn a) (b₀ :: suite) (th pn a)) (hg : Gl X x := by rfl) (hdb : (x == ("__debug__" : Str)) = false := by decide) :
  PS (X.exg G) (.Try body [.ExceptHandler (some (.Name x np)) (some n) (b₀ :: suite) hpos] [] [] pos) (tTryAs X i x tb th) := by
 intro pins s σ H D I h;obtain ⟨Dc, hm, hsub, h⟩ := h;have I1 := I.unwish.topn;refine wpAny_Try_except (wpAny_mono (hb (X.pn ++ pins) _ [] s σ H D (I1.wish _) (h (X.pn ++ pins))) (λ f s1 q => ?_) λ e s1 q => ?_)
 ·cases f with
  | next =>
   obtain ⟨σ', H', J, q⟩ := q;exact wpAny_execs_nil ⟨σ', H', J.unwish.ofpn.wish _, q⟩
  | brk => obtain ⟨σ', H', J, q⟩ := q;exact ⟨σ', H', J.unwish.ofpn.wish _, q⟩
  | cont => obtain ⟨σ', H', J, q⟩ := q;exact ⟨σ', H', J.unwish.ofpn.wish _, q⟩
  | ret u => obtain ⟨v, σ', H', J, r, q⟩ := q;exact ⟨v, σ', H', J.unwish.ofpn.wish _, r, q⟩
 ·refine wpAny_mono (show wpAny _ _ _ _ _ _ from q) (λ _ s2 q2 => wpAny_mono q2 (λ _ s3 q3 => ?_) λ _ _ z => z.elim) λ _ _ z => z.elim;obtain ⟨a, cls, σ', H', rfl, J, xx, C, hcl, hk, hth⟩ := q3;have J2 : Inv (X.suite (X.pn ++ pins) a) [] σ' H' s3 := J.tosuite;obtain ⟨oe, vs, he, hcls, _⟩ := xx.obj;have hcls := hcls.of hcl;refine wpAny_handleBy_cons (codeAny_handlers_test (qJ J2 hg hm (jL J2.kIn he hcls hk hsub ?_) hdb)) (by intro z;cases z);refine codeAny_handlers_suite_as ?_;refine wj J2 (xx.less λ p hp => by rwa [append_nil] at hp) λ s4 J4 x4 => ?_;have J5 := J4.track (u := wm a cls) x4.Ha x4.ga (let ⟨o, vs, e, _, d⟩ := x4.obj;⟨o, vs, e, d⟩) x4.pa (zce x4.obj);refine Zi (X := X.suite (X.pn ++ pins) a) (v := .ref a) J5 hN hi (Or.inl hlo) rfl (λ s5 J6 => ?_) (Or.inr hlo);refine wpAny_mono (hs (X.pn ++ pins) a [] s5 _ _ _ J6 (hth a xx.Ha)) (λ f s6 q6 => ?_) λ _ _ z => False.elim z;cases f with
  | next =>
   obtain ⟨σ7, H7, J7, q7⟩ := q6;exact xN (X := X.suite (X.pn ++ pins) a) J7 hN hi hlo λ s8 J8 => ⟨_, H7, (J8.ofsuite I.ok.hd).ofpn.wish _, q7⟩
  | brk =>
   obtain ⟨σ7, H7, J7, q7⟩ := q6;exact xN (X := X.suite (X.pn ++ pins) a) J7 hN hi hlo λ s8 J8 => ⟨_, H7, (J8.ofsuite I.ok.hd).ofpn.wish _, q7⟩
  | cont =>
   obtain ⟨σ7, H7, J7, q7⟩ := q6;exact xN (X := X.suite (X.pn ++ pins) a) J7 hN hi hlo λ s8 J8 => ⟨_, H7, (J8.ofsuite I.ok.hd).ofpn.wish _, q7⟩
  | ret u =>
   obtain ⟨v, σ7, H7, J7, r7, q7⟩ := q6;exact xN (X := X.suite (X.pn ++ pins) a) J7 hN hi hlo λ s8 J8 => ⟨v, _, H7, (J8.ofsuite I.ok.hd).ofpn.wish _, r7, q7⟩
end
structure FA (K : PySem.W.Frag) (mg : Str -> Option Value) (x : Str) (st : Stmt) (ps : List Str) : Prop where
 ex : ∃ f fd, Fun K x x st f fd /\ mg x = some (.ref f) /\ Binds K fd ps []
theorem FA.cal {P : Program} {w : World} {K : PySem.W.Frag} {mg : Str -> Option Value} {base : Heap} {x : Str} {st : Stmt} {ps : List Str} {k : Nat} {sp : Sp} (h : FA K mg x st ps) (ok : ∀ {f fd}, Fun K x x st f fd -> FnOk P w K mg base (CXr P w) k f fd ps sp) :
  Cal P w K mg base x k ps [] sp := by
 obtain ⟨f, fd, F, m, b⟩ := h.ex;exact ⟨f, fd, [], ok F, m, F.kp, b, .nil⟩
theorem fa_mk {K : PySem.W.Frag} {mg : Str -> Option Value} {h : Heap} {x : Str} {st : Stmt} {ps : List Str} {f : Addr} {oc : Value} {od an : Option Addr} {osl : Array (Option Value)} {kV doc pm cdv ct : Value} (X : K.In h) (G : h.Ns mainGlobals mg)
  (a : nsIn K mainGlobals x = some (some (.ref f))) (l : K.lookup f = some ⟨oc, od, .func (fnOf x x (qr st) (qe st) (zk st) .none kV doc pm an cdv ct), osl⟩)
  (c : codeIn K cdv x = true) (k : keepIn K (.ref f) = true)
  (hb : ∀ (kV doc pm : Value) (an : Option Addr) (cdv ct : Value) (us : List Value), us.length = ps.length -> bindArgs (fnOf x x (qr st) (qe st) (zk st) .none kV doc pm an cdv ct) ⟨us, []⟩ = pure (ps.zip us)) : FA K mg x st ps :=
 ⟨f, _, jx l c k, mg_of X G a, (jx l c k).binds hb⟩
theorem zaf {P : Program} {w : World} {H : Hp} {s : Shared} {e : Value} {s' : Shared} (h : CXr P w [] H s (λ _ _ _ => False) e s') : False := by
 obtain ⟨_, _, _, _, _, _, _, _, _, z⟩ := h;exact z
end L2
namespace L2
open PySem PySem.Spec PySem.Calls PyProof.Rows
structure XI (K : PySem.W.Frag) (C : Addr) : Prop where
 ga : findIn K (.ref C) "__getattribute__" = some (some (.builtin "BaseException.__getattribute__"))
 gt : findIn K (.ref C) "__getattr__" = some none
 cl : findIn K (.ref C) "__class__" = some (some (.builtin "object.__class__"))
 hd : hasDictIn K C = true
 gn : specialIn K (.builtin "object.__class__") "__get__" = some (some (.builtin "getset_descriptor.__get__"))
 tk : takesIn K (.builtin "object.__class__") = some true
 mo : mroIn K C (.type "object") = some true
 mb : subIn K (.ref C) (.type "BaseException") = some true
section
variable {prog : Program} {w : World} {A : Around} {E : Value -> Shared -> Prop} {s : Shared} {K : PySem.W.Frag} {a C : Addr} {o : Obj} {vs : Array Value}
theorem Xx {hp : Heap} (hx : hp.get? a = some o) (hc : o.cls = .ref C) (hd : o.dict = none) (hv : o.data = .fields vs) : InstAt hp a o C none := by
 refine ⟨hx, hc, ?_, ?_⟩
 ·obtain ⟨c, d, dt, sl⟩ := o;simp only at hv;subst hv
  rfl
 ·rw [hd]
  trivial
theorem QO {hp : Heap} {D : Addr} {oD : Obj} (hx : hp.get? a = some o) (hc : o.cls = .ref C) (hd : o.dict = some D) (hv : o.data = .fields vs) (hD : hp.get? D = some oD) : InstAt hp a o C (some oD) := by
 refine ⟨hx, hc, ?_, ?_⟩
 ·obtain ⟨c, d, dt, sl⟩ := o;simp only at hv;subst hv
  rfl
 ·rw [hd];exact hD
theorem zab {od : Option Obj} {Q : Option Value -> Shared -> Prop} (X : K.In s.heap) (f : XI K C) (I : InstAt s.heap a o C od)
  (h : Q (some (.ref C)) { s with toks := s.toks + 1 }) : wpAny (model prog w) A (getAttr? (.ref a) "__class__") Q E s := by
 have hf : findObj K C od "__class__" = some (.bind (.builtin "getset_descriptor.__get__") (.builtin "object.__class__")) := by
   obtain ⟨cd, hcd, _⟩ := any_some f.hd;simp [findObj, hcd, f.cl, f.gn, f.tk]
 obtain ⟨hh, g, d, t, os⟩ := s;have T0 := I.type (M := model prog w);have T1 := looks_findIn (M := model prog w) X f.ga;have T2 := PySem.W.looks_find (M := model prog w) X I hf;have T3 := looks_findIn (M := model prog w) X f.gt;have T4 := looks_subIn (M := model prog w) X f.mb;have f3 := F.attr_ValueError.ga.bind (.ref a);unfold getAttr? getAttrBy? getAttrBy;refine wpAny_bind (wpAny_mkText (wpAny_bind (wpAny_attempt (wpAny_holding (wpAny_bind (T0.at (wpAny_bind (T1.at ?_))))))));dsimp only;have nga : (onTheHeap (Value.ref C) && Value.builtin "BaseException.__getattribute__" == Value.builtin "object.__getattribute__") = false := by
  have z : (Value.builtin "BaseException.__getattribute__" == Value.builtin "object.__getattribute__") = false := by decide +kernel
  rw [z, Bool.and_false]
 rw [nga, if_neg Bool.false_ne_true];unfold getAttrByItsOwn
 repeat (any_goals (first|assumption|with_reducible refine T0.at ?_|with_reducible refine T3.at ?_|with_reducible refine T1.at ?_|wp_step))
 refine codeAny_call_builtin F.attr_ValueError.ga.plain F.entry_bexc_ga ?_;have hk : builtinKind "BaseException.__getattribute__" = some .slot := by decide +kernel
 have hsp : splitId "BaseException.__getattribute__" = some ("BaseException", "__getattribute__") := by decide +kernel
 have hav := F.args_bexc_ga (.ref a) (Value.str (Str.ofString "__class__") t);simp only [checkBuiltinCall, hk, hsp];refine wpAny_bind ?_;unfold isInstance
 repeat (first|with_reducible refine T2.at ?_|with_reducible refine T0.at ?_|with_reducible refine T4.at ?_|wp_step)
 refine PySem.W.class_get (s := ⟨hh, g, d, t + 1, os⟩) (ox := o) (od := od) X I f.mo ?_;refine wpAny_pure ?_;refine PySem.W.handed_on rfl ?_;exact wpAny_pure h
theorem Xq (f : XI K C) : PySem.W.KitX K (.ref a) (.ref C) (λ h => ∃ o od, InstAt h a o C od) where
 ty := λ M h _ ⟨o, od, I⟩ => I.type
 it := λ _ _ X _ => by
  obtain ⟨cd, hcd, _⟩ := any_some f.hd;unfold clsIn at hcd
  split at hcd
  ·rename_i c' d' cd' sl' ho;intro A' Q' E' s' k q;unfold isType loadHead;exact wpAny_bind (wpAny_loadPart (k _ _ (X _ _ ho)) (wpAny_pure q))
  ·cases hcd
 ne := λ h tp dd its n sl X htp => by
  obtain ⟨cd, hcd, _⟩ := any_some f.hd;refine Bool.eq_false_iff.mpr λ q => ?_;have e : C = tp := Value.ref.inj (beq_iff_eq.mp q);subst e;unfold clsIn at hcd
  split at hcd
  ·rename_i ho;have z := (X _ _ ho).symm.trans htp;cases z
  ·cases hcd
 ca := λ X ⟨o, od, I⟩ k => zab X f I k
end
inductive TyX (K : PySem.W.Frag) (H : Hp) : V -> Value -> Prop where
 | old {x : V} {t : Value} (h : TyOf K H x t) : TyX K H x t
 | exc {a C : Addr} (h : H a = some (wm a (.ref C))) (f : XI K C) : TyX K H (.ref a) (.ref C)
 | exd {a C : Addr} {D : Int} {fs : List (Str × V)} (h : H a = some (wm a (.int D C))) (hd : H D.toNat = some (.xd fs)) (f : XI K C) : TyX K H (.ref a) (.ref C)
def QQ : List V -> Option (List Value)
 | [] => some []
 | c :: r => match zbv c, QQ r with
  | some u, some us => some (u :: us)
  | _, _ => none
theorem Vz {c : V} {u v : Value} (h : zbv c = some u) (r : RelV c v) : v = u := by
 cases c with
 | ty n => cases r;exact Option.some.inj h
 | ref a => cases r;exact Option.some.inj h
 | _ => cases h
theorem XF : ∀ {cs : List V} {us vs : List Value}, QQ cs = some us -> Vals cs vs -> vs = us
 | [], _, _, h, .nil => Option.some.inj h
 | c :: r, us, v :: vs, h, .cons rc rr => by
  unfold QQ at h
  split at h
  ·rename_i u us' h1 h2;cases h;rw [Vz h1 rc, XF h2 rr]
  ·cases h
theorem zc8 {X : Cx} {pins : List (Addr × Obj)} {σ : St} {H : Hp} {s : Shared} {x : V} {u t : Value} (I : Inv X pins σ H s) (rx : RelV x u) (ty : TyX X.K H x t) :
  ∃ Hx : Heap -> Prop, PySem.W.KitX X.K u t Hx /\ Hx s.heap /\ u ≠ .builtin "__main__.__loader__#opaque" := by
 cases ty with
 | @exc a C ea f =>
  cases (show u = Value.ref a from rx);obtain ⟨⟨o, vs, e, ⟨c, d⟩, v⟩, _⟩ := (show ObjOk X.prog X.w H s.heap a (wm a (.ref C)) from I.hok a _ ea);exact ⟨_, Xq f, ⟨o, _, Xx e c d v⟩, λ z => nomatch z⟩
 | @exd a C D fs ea ed f =>
  cases (show u = Value.ref a from rx);obtain ⟨⟨o, vs, e, ⟨c, d⟩, v⟩, _⟩ := (show ObjOk X.prog X.w H s.heap a (wm a (.int D C)) from I.hok a _ ea);obtain ⟨mA, ⟨oD, es, ep, eD, _⟩, _⟩ := (show ObjOk X.prog X.w H s.heap D.toNat (.xd fs) from I.hok _ _ ed);exact ⟨_, Xq f, ⟨o, _, QO e c d v eD⟩, λ z => nomatch z⟩
 | old ty =>
  cases ty with
  | non => cases (show u = Value.none from rx);exact ⟨_, PySem.W.kitx_none, True.intro, λ z => nomatch z⟩
  | bl y => cases (show u = Value.bool y from rx);exact ⟨_, PySem.W.kitx_bool, True.intro, λ z => nomatch z⟩
  | int i => obtain ⟨t, q⟩ := (show ∃ t, u = Value.int i t from rx);cases q;exact ⟨_, PySem.W.kitx_int, True.intro, λ z => nomatch z⟩
  | str y => obtain ⟨t, q⟩ := (show ∃ t, u = Value.str y t from rx);cases q;exact ⟨_, PySem.W.kitx_str, True.intro, λ z => nomatch z⟩
  | flt y => obtain ⟨t, q⟩ := (show ∃ t, u = Value.float y t from rx);cases q;exact ⟨_, PySem.W.kitx_float, True.intro, λ z => nomatch z⟩
  | @lst a xs ea =>
   cases (show u = Value.ref a from rx);obtain ⟨_, _, n, _, h1⟩ := (show ObjOk X.prog X.w H s.heap a (.lst xs) from I.hok a _ ea);exact ⟨_, PySem.W.kitx_list, ⟨_, h1, rfl⟩, λ z => nomatch z⟩
  | @frz a ob xs ea =>
   cases (show u = Value.ref a from rx);obtain ⟨_, _, _, n, _, h1⟩ := (show ObjOk X.prog X.w H s.heap a (.frz ob (.lst xs)) from I.hok a _ ea);exact ⟨_, PySem.W.kitx_list, ⟨_, h1, rfl⟩, λ z => nomatch z⟩
  | @tup a xs ea =>
   cases (show u = Value.ref a from rx);obtain ⟨_, _, _, p⟩ := (show ObjOk X.prog X.w H s.heap a (.tup xs) from I.hok a _ ea);obtain ⟨o, h1, h2, _⟩ := p;exact ⟨_, PySem.W.kitx_tuple, ⟨o, h1, h2⟩, λ z => nomatch z⟩
  | @dK a kvs ea =>
   cases (show u = Value.ref a from rx);obtain ⟨_, _, vs, _, p⟩ := (show ObjOk X.prog X.w H s.heap a (.dK kvs) from I.hok a _ ea);obtain ⟨o, es, ep, h1, h2, _⟩ := p;exact ⟨_, PySem.W.kitx_dict, ⟨o, h1, h2.1⟩, λ z => nomatch z⟩
  | @dT a kvs ea =>
   cases (show u = Value.ref a from rx);obtain ⟨_, _, xs, _, o, es, ep, h1, h2, _⟩ := (show ObjOk X.prog X.w H s.heap a (.dT kvs) from I.hok a _ ea);exact ⟨_, PySem.W.kitx_dict, ⟨o, h1, h2.1⟩, λ z => nomatch z⟩
  | @ins a C dx fs ea cl ha hn htk hm =>
   cases (show u = Value.ref a from rx);obtain ⟨mA, O, _⟩ := vZ I.hok ea;obtain ⟨od, J, _⟩ := O.look;exact ⟨_, PySem.W.kitx_own (cl.get _) cl.hd ha hn htk hm, J, λ z => nomatch z⟩
def Jh (K : PySem.W.Frag) : List V -> Hp -> VK -> Prop := λ xs H Q => ∃ x c t b, xs = [x, c] /\ TyX K H x t /\ ((∃ u, zbv c = some u /\ kitOne K t u = some b) \/ (∃ p cs us, c = .ref p /\ H p = some (.tup cs) /\ QQ cs = some us /\ kitAny K t us = some b)) /\ Q (.bl b) H
theorem ji {X : Cx} : CallR X (.builtin "isinstance") (Jh X.K) := by
 intro pins s σ H xs us Q I r h;obtain ⟨x, c, t, b, rfl, ty, hc, q⟩ := h;obtain ⟨v, v2, rfl, rx, rc⟩ := r.two;obtain ⟨Hx, Z, p, nx⟩ := zc8 I rx ty;rcases hc with ⟨u, hu, e⟩|⟨pt, cs, us, rfl, hp, hu, e⟩
 ·obtain rfl := Vz hu rc;exact PySem.W.kia_one Z I.kIn p e nx λ tk => ⟨.bl b, H, I.tok tk, rfl, q⟩
 ·cases rc;obtain ⟨_, its, rv, o, h1, h2, n, h3⟩ := (show ObjOk X.prog X.w H s.heap pt (.tup cs) from I.hok pt _ hp);obtain rfl := XF hu rv;obtain ⟨cl, dd, dt, sl⟩ := o;simp only at h2 h3;subst h2 h3;exact PySem.W.kia_tup Z I.kIn p h1 e nx λ tk => ⟨.bl b, H, I.tok tk, rfl, q⟩
theorem kitCls_of {K : PySem.W.Frag} {t : Value} {D : Addr} {b : Bool} (h1 : hasDictIn K D = true) (h2 : typeIn K (.ref D) = some (.type "type")) (h3 : subIn K t (.ref D) = some b) : kitCls K t (.ref D) = some b := by
 obtain ⟨cd, hcd, _⟩ := any_some h1;simp [kitCls, hcd, h2, h3]
structure FK (K : PySem.W.Frag) (C : Addr) (qual : Str) (st : Stmt) (ps : List Str) : Prop where
 ex : ∃ f fd, Fun K "__init__" qual st f fd /\ Mk K C f /\ Binds K fd ps []
structure FM (K : PySem.W.Frag) (C : Addr) (m qual : Str) (st : Stmt) (ps : List Str) : Prop where
 ex : ∃ f fd, Fun K m qual st f fd /\ Meth K C m f /\ Binds K fd ps []
theorem FK.cal {P : Program} {w : World} {K : PySem.W.Frag} {mg : Str -> Option Value} {base : Heap} {x : Str} {C : Addr} {qual : Str} {st : Stmt} {ps : List Str} {k : Nat} {sp : Sp} (h : FK K C qual st ps) (gl : mg x = some (.ref C))
  (ok : ∀ {f fd}, Fun K "__init__" qual st f fd -> FnOk P w K mg base (CXr P w) k f fd ps sp) : KCal P w K mg base x C k ps [] sp := by
 obtain ⟨f, fd, F, m, b⟩ := h.ex;exact ⟨gl, f, fd, [], ok F, m, b, .nil⟩
theorem FM.cal {P : Program} {w : World} {K : PySem.W.Frag} {mg : Str -> Option Value} {base : Heap} {C : Addr} {m qual : Str} {st : Stmt} {ps : List Str} {k : Nat} {sp : Sp} (h : FM K C m qual st ps) (cl : Cls K C)
  (ok : ∀ {f fd}, Fun K m qual st f fd -> FnOk P w K mg base (CXr P w) k f fd ps sp) : MCal P w K mg base C m k ps [] sp := by
 obtain ⟨f, fd, F, mm, b⟩ := h.ex;exact ⟨cl, f, fd, [], ok F, mm, b, .nil⟩
theorem fk_mk {K : PySem.W.Frag} {C : Addr} {qual : Str} {st : Stmt} {ps : List Str} {f : Addr} {oc : Value} {od an : Option Addr} {osl : Array (Option Value)} {kV doc pm cdv ct : Value} (mk : makesIn K C = true) (kc : keepIn K (.ref C) = true)
  (a : findIn K (.ref C) "__init__" = some (some (.ref f))) (i : isFn K (.ref f) = true) (l : K.lookup f = some ⟨oc, od, .func (fnOf "__init__" qual (qr st) (qe st) (zk st) .none kV doc pm an cdv ct), osl⟩)
  (c : codeIn K cdv qual = true) (k : keepIn K (.ref f) = true)
  (hb : ∀ (kV doc pm : Value) (an : Option Addr) (cdv ct : Value) (us : List Value), us.length = ps.length -> bindArgs (fnOf "__init__" qual (qr st) (qe st) (zk st) .none kV doc pm an cdv ct) ⟨us, []⟩ = pure (ps.zip us)) : FK K C qual st ps :=
 ⟨f, _, jx l c k, ⟨mk, a, i, kc⟩, (jx l c k).binds hb⟩
theorem fm_mk {K : PySem.W.Frag} {C : Addr} {m qual : Str} {st : Stmt} {ps : List Str} {f : Addr} {oc : Value} {od an : Option Addr} {osl : Array (Option Value)} {kV doc pm cdv ct : Value}
  (a : findIn K (.ref C) m = some (some (.ref f))) (i : isFn K (.ref f) = true) (l : K.lookup f = some ⟨oc, od, .func (fnOf m qual (qr st) (qe st) (zk st) .none kV doc pm an cdv ct), osl⟩)
  (c : codeIn K cdv qual = true) (k : keepIn K (.ref f) = true)
  (hb : ∀ (kV doc pm : Value) (an : Option Addr) (cdv ct : Value) (us : List Value), us.length = ps.length -> bindArgs (fnOf m qual (qr st) (qe st) (zk st) .none kV doc pm an cdv ct) ⟨us, []⟩ = pure (ps.zip us)) : FM K C m qual st ps :=
 ⟨f, _, jx l c k, ⟨a, i, k⟩, (jx l c k).binds hb⟩
structure WI (K : PySem.W.Frag) (C : Addr) : Prop where
 c : findIn K (.ref C) "__class__" = some (some (.builtin "object.__class__"))
 m : mroIn K C (.type "object") = some true
 g : specialIn K (.builtin "object.__class__") "__get__" = some (some (.builtin "getset_descriptor.__get__"))
 t : takesIn K (.builtin "object.__class__") = some true
theorem WI.ty {K : PySem.W.Frag} {H : Hp} {a C dx : Addr} {fs : List (Str × V)} (f : WI K C) (cl : Cls K C) (h : H a = some (.ins C dx fs)) : TyX K H (.ref a) (.ref C) := .old (.ins h cl f.c f.g f.t f.m)
end L2
namespace L2
open PySem PySem.Spec PySem.Calls PyProof.Rows
section
variable {prog : Program} {w : World} {A : Around} {E : Value -> Shared -> Prop} {s : Shared}
end
section
variable {X : Cx} {a e : Expr} {ta : TA} {te : TE} {pos p kp : Pos}
theorem qb : SlR X (zaG X.K) := zbJ
theorem Zc : CallR X (.type "list") (λ xs H Q => ∃ p ys, xs = [.ref p] /\ (SqL X.K H p ys \/ SqT X.K H p ys) /\ ∀ l, H l = none -> Q (.ref l) (upd H l (.lst ys))) := JA
end
end L2
namespace L2
open PySem PySem.Spec PySem.Calls PyProof.Rows
section
variable {X : Cx} {v v1 v2 : Expr} {es : List Expr} {te : TE} {pos p : Pos}
def tFv (te : TE) : TE := λ σ H Q => te σ H λ x H1 => (∃ i, x = .int i /\ i.natAbs.log2 < 1920 /\ Q (.str (toString i)) H1) \/ (∃ y, x = .str y /\ y.length <= sizeLine /\ Q (.str y) H1)
theorem zdI (h : PE X v te) : PE X (.FormattedValue v (-1) none pos) (tFv te) := by
 intro pins s σ H Q I hw;refine PyProof.Rows.FormattedValue_plain (qQ (h pins s σ H _ I hw) λ u s1 x H1 I1 r1 q1 => ?_);rcases q1 with ⟨i, rfl, hi, q⟩|⟨y, rfl, hy, q⟩
 ·obtain ⟨t, rfl⟩ := r1;exact formatField_int_small hi ⟨.str _, H1, I1.tok _, ⟨_, rfl⟩, q⟩
 ·obtain ⟨t, rfl⟩ := r1;exact PyProof.Rows.formatField_str (λ t' tk => ⟨.str _, H1, I1.tok _, ⟨_, rfl⟩, q⟩) hy
abbrev TJ := Str -> TE
def PJ (X : Cx) (es : List Expr) (t : TJ) : Prop := ∀ (out : Str) (pins : List (Addr × Obj)) (s : Shared) (σ : St) (H : Hp) (Q : VK), Inv X pins σ H s -> t out σ H Q -> wpAny (model X.prog X.w) X.A (joinParts out (evalEach es X.env)) (EP X pins σ Q) X.xe s
def tJ0 : TJ := λ out _ H Q => out.length <= sizeLine /\ Q (.str out) H
def tJ1 (te : TE) (t : TJ) : TJ := λ out σ H Q => te σ H λ x H1 => ∃ y, x = .str y /\ (out ++ y).length <= sizeLine /\ t (out ++ y) σ H1 Q
theorem zcT : PJ X [] tJ0 := λ _ _ _ _ H _ I hw => PyProof.Rows.joinParts_nil ⟨.str _, H, I.tok _, ⟨_, rfl⟩, hw.2⟩ hw.1
theorem Ji {t : TJ} (h : PE X v te) (hr : PJ X es t) : PJ X (v :: es) (tJ1 te t) := by
 intro out pins s σ H Q I hw;show wpAny _ _ (joinParts out (eval v X.env :: evalEach es X.env)) _ _ s
 refine PyProof.Rows.joinParts_cons (qQ (h pins s σ H _ I hw) λ u s1 x H1 I1 r1 q1 => ?_);obtain ⟨y, rfl, hz, q⟩ := q1;obtain ⟨t', rfl⟩ := r1;exact ⟨hz, hr _ pins s1 σ H1 Q I1 q⟩
theorem zdJ {t : TJ} (h : PJ X (v1 :: v2 :: es) t) : PE X (.JoinedStr (v1 :: v2 :: es) pos) (t Str.empty) := λ pins s σ H Q I hw => PyProof.Rows.JoinedStr_many (h _ pins s σ H Q I hw)
theorem xJ : CallR X (.type "str") (λ xs H Q => lq xs λ v => iq v λ i => i.natAbs.log2 < 1920 /\ Q (.str (toString i)) H) := λ pins s σ H xs us Q I r h => Jz pins s σ H xs us Q I r (za4 h)
def zdy (t u : TS) : TS := λ D σ H => ∃ M : St -> Hp -> Prop, t { D with nx := M } σ H /\ ∀ σ' H', M σ' H' -> u D σ' H'
theorem qo {st : Stmt} {rest : List Stmt} {t u : TS} (h1 : PS X st t) (h2 : PSs X rest u) : PSs X (st :: rest) (zdy t u) := by
 intro pins s σ H D I ⟨M, ht, hu⟩;refine wpAny_execs_cons (thn (h1 pins s σ H _ I ht) λ f s1 q => ?_);cases f with
 | next => exact let ⟨σ', H', I', q⟩ := q;h2 pins s1 σ' H' D I' (hu σ' H' q)
 | _ => exact q
def zco (t u : TS) : TS := λ D σ H => tSeq t u D σ H
theorem zi {st : Stmt} {rest : List Stmt} {t u : TS} (h1 : PS X st t) (h2 : PSs X rest u) : PSs X (st :: rest) (zco t u) := show PSs X (st :: rest) (tSeq t u) from zH h1 h2
structure Nx (N : St -> Hp -> Prop) (u : TS) (D : Ends) : Prop where
 h : ∀ σ H, u D σ H -> N σ H
theorem nxt {t u : TS} {D : Ends} {σ : St} {H : Hp} (k : ∀ N, Nx N u D -> t { D with nx := N } σ H) : zco t u D σ H := k (u D) ⟨λ _ _ h => h⟩
theorem useN {N : St -> Hp -> Prop} {u : TS} {D : Ends} {σ : St} {H : Hp} (n : Nx N u D) (q : u D σ H) : N σ H := n.h σ H q
theorem cut {t u : TS} {D : Ends} {σ : St} {H : Hp} (M : St -> Hp -> Prop) (h1 : t { D with nx := M } σ H) (h2 : ∀ σ' H', M σ' H' -> u D σ' H') : zdy t u D σ H := ⟨M, h1, h2⟩
end
end L2
namespace L2
open PySem PySem.Spec PySem.Calls PyProof.Rows
section
variable {X : Cx} {k : Nat} {x m : Str} {p pos apos : Pos} {e o : Expr} {es : List Expr} {ta : TE} {t : TA}
theorem zaP : WJ (CXr X.prog X.w) X (λ _ _ _ => False) := λ _ _ _ _ _ _ _ h => let ⟨_, _, _, _, _, _, _, _, _, z⟩ := h;z.elim
def tClN (X : Cx) (k : Nat) (x : Str) (t : TA) : TE := λ σ H Q => ∃ ps dvs sp, Cal X.prog X.w X.K X.mg X.base x k ps dvs sp /\ t σ H λ vs H1 => sp (vs ++ dvs) H1 Q (λ _ _ _ => False)
theorem zcZ (hr : Room k X.A) (ha : PA X (e :: es) t) (hg : Gl X x := by rfl) (hdb : (x == ("__debug__" : Str)) = false := by decide)
  (he : starEach (e :: es) X.env = (false, eval e X.env) :: starEach es X.env := by rfl) (hpl : (backTo pos (starEach es X.env)).any (·.1) = false := by rfl) :
  PE X (.Call (.Name x p) (e :: es) [] pos) (tClN X k x t) := by
 intro pins s σ H Q I h;obtain ⟨ps, dvs, sp, ⟨f, fd, ds, F, hm, hk, hb, hd⟩, h⟩ := h;refine wpAny_Call_Name_kw (qJ I hg hm ?_ hdb);refine callWith_K (h₀ := X.base) I.ok.mod.kin hk (wr (ha pos pins s σ H _ I h) λ us s1 vs H1 I1 r q => ⟨I1.kIn, ?_⟩) he hpl;exact zaA F hr hb hd zaP I1 r q
def tMkN (X : Cx) (k : Nat) (x : Str) (t : TA) : TE := λ σ H Q => ∃ C ps dvs sp, KCal X.prog X.w X.K X.mg X.base x C k ps dvs sp /\ t σ H λ vs H1 => ∀ y dx, H1 y = none -> H1 dx = none -> dx ≠ y ->
 sp (.ref y :: (vs ++ dvs)) (upd (upd H1 dx (.own y)) y (.ins C dx [])) (λ v H2 => v = .non /\ Q (.ref y) H2) (λ _ _ _ => False)
theorem zcY (hr : Room (k + 1) X.A) (ha : PA X (e :: es) t) (hg : Gl X x := by rfl) (hdb : (x == ("__debug__" : Str)) = false := by decide)
  (he : starEach (e :: es) X.env = (false, eval e X.env) :: starEach es X.env := by rfl) (hpl : (backTo pos (starEach es X.env)).any (·.1) = false := by rfl) :
  PE X (.Call (.Name x p) (e :: es) [] pos) (tMkN X k x t) := by
 intro pins s σ H Q I h;obtain ⟨C, ps, dvs, sp, ⟨hm, f, fd, ds, F, M, hb, hd⟩, h⟩ := h;refine wpAny_Call_Name_kw (qJ I hg hm ?_ hdb);refine callWith_K (h₀ := X.base) I.ok.mod.kin M.kp (wr (ha pos pins s σ H _ I h) λ us s1 vs H1 I1 r q => ⟨I1.kIn, ?_⟩) he hpl;exact zaz M F hr hb hd zaP I1 r q
def tMthN (X : Cx) (k : Nat) (m : Str) (ta : TE) (t : TA) : TE := λ σ H Q => ta σ H λ y H1 => ∃ a C dx fs ps dvs sp, y = .ref a /\ H1 a = some (.ins C dx fs) /\ fs.lookup m = none /\
 MCal X.prog X.w X.K X.mg X.base C m k ps dvs sp /\ t σ H1 λ vs H2 => sp (.ref a :: (vs ++ dvs)) H2 Q (λ _ _ _ => False)
theorem zaM {pl : Sem Bool} (hr : Room k X.A) (he : PE X o ta)
  (ht : eval (.Call (.Attribute o m apos) [] [] pos) X.env = (do
   let ov <- eval o X.env
   standAt apos.atName
   let (f, first) <- holding [ov] (getMethod ov m pl)
   callWith pos f first (backTo pos (starEach [] X.env)) (backToKw pos (keywordEach [] X.env))) := by rfl) :
  PE X (.Call (.Attribute o m apos) [] [] pos) (tMthN X k m ta tNil) := by
 intro pins s σ H Q I h;refine methodCall_KW (pl := pl) (thn (he pins s σ H _ I h) λ u s1 hz => ?_) ht;obtain ⟨x, H1, I1, rx, a, C, dx, fs, ps, dvs, sp, ex, ea, l, ⟨c, f, fd, ds, F, hm, hb, hd⟩, q⟩ := hz;subst ex;obtain rfl : u = Value.ref a := rx;refine Wv I1 ea c hm l ?_;exact PySem.W.callWith_K0 (first := [.ref a]) I1.kIn hm.kp (zaA (us := [.ref a]) (vs := [.ref a]) F hr hb hd zaP I1 (.cons rfl .nil) q)
end
def qH (cells : List (Str × Addr)) : List (Str × NameKind) -> List (Str × Addr) -> List (Str × Addr)
 | [], cs => cs
 | (n, k) :: r, cs => if k = .free then qH cells r ((n, (cells.lookup n).getD 0) :: cs) else qH cells r cs
def zah (cells : List (Str × Addr)) (ns : List (Str × NameKind)) : Prop := ∀ y ∈ ns, y.2 = .free -> ∃ c, cells.lookup y.1 = some c
theorem x5 {scope : Scope} {env : Env} (h : zah env.cells scope.names) : closureFor scope env = pure (qH env.cells scope.names []) := by
 simp only [closureFor];have key : ∀ (ns : List (Str × NameKind)) (cs : List (Str × Addr)), zah env.cells ns ->
   (forIn ns cs λ x r => if (x.2 == NameKind.free) = true then do let c <- cellOf env x.1;pure (ForInStep.yield ((x.1, c) :: r)) else pure (ForInStep.yield r) : Sem (List (Str × Addr))) = pure (qH env.cells ns cs) := by
  intro ns
  induction ns with
  | nil => intro cs _;rfl
  | cons y r ih =>
   intro cs hc;obtain ⟨n, k⟩ := y;have hr : zah env.cells r := λ z hz => hc z (mem_cons_of_mem _ hz);rw [List.forIn_cons];by_cases hk : k = .free
   ·subst hk;obtain ⟨c, e⟩ := hc (n, .free) mem_cons_self rfl;have e' : cellOf env n = pure c := by unfold cellOf;simp only at e;rw [e]
    simp only [beq_self_eq_true, if_true, e', pure_bind];rw [ih _ hr];simp only at e;simp [qH, e]
   ·have hb : (k == NameKind.free) = false := by simpa using hk
    simp only [hb, Bool.false_eq_true, if_false, pure_bind];rw [ih _ hr];simp [qH, hk]
 have := key scope.names [] h
 first
  | exact this
  | (simp only [bind_pure] at *;exact this)
theorem wo {cells : List (Str × Addr)} {x : Str} {c : Addr} : ∀ {ns : List (Str × NameKind)} {cs : List (Str × Addr)}, zah cells ns -> (∀ c, cs.lookup x = some c -> cells.lookup x = some c) -> (qH cells ns cs).lookup x = some c -> cells.lookup x = some c
 | [], _, _, hs, h => hs c h
 | (n, k) :: r, cs, hc, hs, h => by
  have hr : zah cells r := λ z hz => hc z (mem_cons_of_mem _ hz);unfold qH at h
  split at h
  ·rename_i hk;obtain ⟨d, e⟩ := hc (n, k) mem_cons_self hk;refine wo hr (λ c' hc' => ?_) h;rw [lookup_cons] at hc'
   split at hc'
   ·rename_i hx;have hx : x = n := by simpa using hx
    subst hx;simp only at e;rw [e] at hc' ⊢;exact hc'
   ·exact hs c' hc'
  ·exact wo hr hs h
theorem xG {cells : List (Str × Addr)} {x : Str} : ∀ {ns : List (Str × NameKind)} {cs : List (Str × Addr)}, (∃ c, cs.lookup x = some c) -> ∃ c, (qH cells ns cs).lookup x = some c
 | [], _, h => h
 | (n, k) :: r, cs, h => by
  unfold qH
  split
  ·refine xG ?_;rw [lookup_cons]
   split
   ·exact ⟨_, rfl⟩
   ·exact h
  ·exact xG h
theorem wn {cells : List (Str × Addr)} {x : Str} : ∀ {ns : List (Str × NameKind)} {cs : List (Str × Addr)}, (x, NameKind.free) ∈ ns -> ∃ c, (qH cells ns cs).lookup x = some c
 | [], _, h => by simp at h
 | (n, k) :: r, cs, h => by
  unfold qH;rcases List.mem_cons.mp h with h|h
  ·cases h;rw [if_pos rfl];exact xG ⟨(cells.lookup x).getD 0, by rw [lookup_cons];simp⟩
  ·split <;> exact wn h
def zaC (scope osc : Scope) : Scope :=
 { scope with names := scope.names.map λ (n, k) => if (k == .free && osc.kind == .function && osc.names.lookup n == some .cell) then (n, .cell) else (n, k) }
theorem X2 {scope osc : Scope} {x : Str} (hcell : ∀ y ∈ scope.names, y.2 ≠ .cell) (h : (zaC scope osc).names.lookup x = some .cell \/ (zaC scope osc).names.lookup x = some .free) : (x, NameKind.free) ∈ scope.names := by
 have key : ∀ k, (k = .cell \/ k = .free) -> (zaC scope osc).names.lookup x = some k -> (x, NameKind.free) ∈ scope.names := λ k hk hl => by
  have hm := PySem.mem_of_lookup hl;obtain ⟨⟨n, k'⟩, hm', e⟩ := List.mem_map.mp hm;simp only at e
  split at e
  ·rename_i hc;simp only [Bool.and_eq_true, beq_iff_eq] at hc;cases e;rw [<- hc.1.1];exact hm'
  ·cases e;rcases hk with rfl|rfl
   ·exact absurd rfl (hcell _ hm')
   ·exact hm'
 rcases h with h|h
 ·exact key _ (.inl rfl) h
 ·exact key _ (.inr rfl) h
def cxC (X : Cx) (N : List Str) (scope : Scope) (s : Shared) (H : Hp) (fp : List Addr) (pins : List (Addr × Obj)) : Cx where
 prog := X.prog
 w := X.w
 K := X.K
 mg := X.mg
 base := X.base
 A := X.A
 N := N
 s₀ := s
 H₀ := H
 env := compEnvC scope (qH X.env.cells scope.names []) s.heap.objs.size X.env
 outer := X.stack
 stack := X.stack
 ex := fp
 fn := λ _ => false
 calm := X.calm
 pn := X.pn ++ pins
 xe := λ _ _ => False
def stC (nv : Nat) (caps : List Nat) (σ : St) : St := List.replicate nv none ++ caps.map λ k => (σ[k]?).getD none
structure CompOk (osc scope : Scope) (ON : List Str) (vars : List Str) (caps : List Nat) : Prop where
 kind : scope.kind = .function
 cell : ∀ y ∈ scope.names, y.2 ≠ .cell
 loc : ∀ y ∈ scope.names, y.2 = .local -> scope.names.lookup y.1 = some .local
 free : ∀ y ∈ scope.names, y.2 = .free -> osc.names.lookup y.1 = some .cell \/ osc.names.lookup y.1 = some .free
 caps : ∀ k ∈ caps, k < ON.length /\ scope.names.lookup (ON.getD k Str.empty) = some .free
def Vy (osc scope : Scope) (ON : List Str) (caps : List Nat) : Bool :=
 scope.kind == .function && scope.names.all (λ y => y.2 != .cell) && scope.names.all (λ y => y.2 != .local || scope.names.lookup y.1 == some .local) &&
 scope.names.all (λ y => y.2 != .free || (osc.names.lookup y.1 == some .cell || osc.names.lookup y.1 == some .free)) && caps.all λ k => decide (k < ON.length) && scope.names.lookup (ON.getD k Str.empty) == some .free
theorem XE {osc scope : Scope} {ON vars : List Str} {caps : List Nat} (h : Vy osc scope ON caps = true) : CompOk osc scope ON vars caps := by
 simp only [Vy, Bool.and_eq_true, List.all_eq_true, beq_iff_eq, bne_iff_ne, Bool.or_eq_true, decide_eq_true_eq] at h;obtain ⟨⟨⟨⟨h1, h2⟩, h3⟩, h4⟩, h5⟩ := h;refine ⟨h1, h2, λ y hy e => (h3 y hy).resolve_left (λ z => z e), λ y hy e => (h4 y hy).resolve_left (λ z => z e), λ k hk => h5 k hk⟩
theorem Zy {osc : Scope} {x : Str} : ∀ {ns : List (Str × NameKind)}, ns.lookup x = some .free ->
  (ns.map λ (n, k) => if (k == NameKind.free && osc.kind == .function && osc.names.lookup n == some .cell) then (n, NameKind.cell) else (n, k)).lookup x = some .cell \/
  (ns.map λ (n, k) => if (k == NameKind.free && osc.kind == .function && osc.names.lookup n == some .cell) then (n, NameKind.cell) else (n, k)).lookup x = some .free
 | [], h => by simp at h
 | (n, k) :: r, h => by
  have ih := @Zy osc x r;rw [map_cons];show List.lookup x ((if (k == NameKind.free && osc.kind == .function && osc.names.lookup n == some .cell) = true then (n, NameKind.cell) else (n, k)) :: _) = _ \/ List.lookup x ((if (k == NameKind.free && osc.kind == .function && osc.names.lookup n == some .cell) = true then (n, NameKind.cell) else (n, k)) :: _) = _
  cases hx : x == n with
  | true =>
   simp only [lookup_cons, hx] at h;cases h
   split
   ·exact .inl (by simp [lookup_cons, hx])
   ·exact .inr (by simp [lookup_cons, hx])
  | false =>
   simp only [lookup_cons, hx] at h
   split <;> (simp only [lookup_cons, hx];exact ih h)
section
variable {X : Cx} {pins : List (Addr × Obj)} {σ : St} {H : Hp} {s : Shared} {fp : List Addr} {N vars : List Str} {caps : List Nat} {scope osc : Scope}
theorem zbi (I : Inv X pins σ H s) (hosc : X.env.scope = osc) (C : CompOk osc scope X.N vars caps) (hN : N = vars ++ caps.map λ k => X.N.getD k Str.empty)
  (hf : ∀ b ∈ fp, vp X pins H b) (hfo : ∀ b ∈ fp, ∃ o, s.heap.get? b = some o)
  {h' : Heap} {tk : Nat} {mm : Str -> Option Value} (hns : h'.Ns s.heap.objs.size mm) (hk : ∀ b o, s.heap.get? b = some o -> h'.get? b = some o) :
  Inv (cxC X N scope s H fp pins) [] (stC vars.length caps σ) H { s with heap := h', toks := tk } := by
 have hkf : ∀ y ∈ scope.names, y.2 = .free -> X.env.kindOf y.1 = some .cell \/ X.env.kindOf y.1 = some .free := λ y hy e => by
  have z := C.free y hy e;rw [<- hosc] at z;exact z
 have hcl : zah X.env.cells scope.names := λ y hy e => I.ok.has y.1 (hkf y hy e);have get : ∀ x c, (qH X.env.cells scope.names []).lookup x = some c -> X.env.cells.lookup x = some c := λ x c h => wo hcl (λ c h => by simp at h) h;refine ⟨⟨I.ok.mod, C.kind, I.ok.glob, I.ok.blt, Nat.le_refl _, λ x y c h1 h2 => I.ok.inj x y c (get x c h1) (get y c h2), λ x hx => wn (X2 (osc := X.env.scope) C.cell hx), λ _ _ h _ => Bool.noConfusion h, I.ok.hd, I.ok.frames, .inl rfl,
   λ b hb => ⟨?_, λ x c h => (hf b hb).2.2.2.2.1 x c (get x c h)⟩, I.bs, Nat.le_trans I.ok.bsz I.sz, λ b o e hb => ?_, λ b hb z => (List.mem_cons.mp (I.stkSub b z)).elim (hf b hb).2.1 (hf b hb).2.2.1, I.stack, I.stkFree⟩,
  rfl, I.bare, Un.kept hk, ⟨_, hns, λ i x v e1 e2 e3 => ?_⟩, λ x c h => ?_, I.hok.fresh (Nat.le_refl _), λ x c h => I.freeC x c (get x c h), λ p hp => ?_, I.hok.kept hk, ?_⟩
 ·obtain ⟨o, e⟩ := hfo b hb;exact Nat.ne_of_lt (Heap.lt_size e)
 ·rcases (hf b hb).2.2.2.1 with z|z
  ·exact I.ok.noex b o e z
  ·exact absurd (Nat.lt_of_lt_of_le (Heap.lt_size (I.ok.bs b o e).1) z) (Nat.lt_irrefl _)
 ·have hi : ¬ i < vars.length := λ hi => by
   unfold stC at e2;rw [getElem?_append_left (by simpa using hi), List.getElem?_replicate] at e2
   split at e2 <;> cases e2
  have e1' : (vars ++ caps.map λ k => X.N.getD k Str.empty)[i]? = some x := by rw [<- hN];exact e1
  unfold stC at e2;rw [getElem?_append_right (by simpa using hi), length_replicate, getElem?_map] at e2;rw [getElem?_append_right (by lia), getElem?_map] at e1';cases ek : caps[i - vars.length]? with
  | none => rw [ek] at e2;cases e2
  | some k =>
   rw [ek] at e1' e2;obtain ⟨hkl, hlk⟩ := C.caps k (mem_of_getElem? ek);have ex : X.N.getD k Str.empty = x := by simpa using e1'
   have es : σ[k]?.getD none = some v := by simpa using e2
   have es' : σ[k]? = some (some v) := by
    cases q : σ[k]? with
    | none => rw [q] at es;cases es
    | some z => rw [q] at es;simp only [Option.getD_some] at es;rw [es]
   have eN : X.N[k]? = some x := by
    rw [<- ex, List.getD_eq_getElem?_getD, getElem?_eq_getElem hkl];rfl
   rw [ex] at hlk;have hm : (x, NameKind.free) ∈ scope.names := PySem.mem_of_lookup hlk;have hkx := hkf _ hm rfl;obtain ⟨m, _, hl⟩ := I.loc;obtain ⟨u, r, L⟩ := hl k x v eN es' (hkx.elim (λ z => .inr (.inl z)) λ z => .inr (.inr z));refine ⟨u, r, .inr ⟨Zy (osc := X.env.scope) hlk, ?_⟩⟩;obtain ⟨c', ec⟩ := wn (cells := X.env.cells) (cs := []) hm;rcases L with ⟨z, _⟩|⟨_, c, ec2, o, ho, hd⟩
   ·rcases hkx with y|y <;> (simp only at y;rw [y] at z;cases z)
   ·have z := get x c' ec;rw [ec2] at z;obtain rfl : c = c' := Option.some.inj z;exact ⟨c, ec, o, hk _ _ ho, hd⟩
 ·obtain ⟨v, o, ho, hd⟩ := I.cell x c (get x c h);exact ⟨v, o, hk _ _ ho, hd⟩
 ·have hp' : p ∈ X.pn ++ pins := by simpa [cxC] using hp
  obtain ⟨e, n, ne, nf, d⟩ := I.pin p hp';exact ⟨hk _ _ e, n, Nat.ne_of_lt (Heap.lt_size e), λ z => (List.mem_cons.mp (I.stkSub _ z)).elim ne nf, d⟩
 ·show (stC vars.length caps σ).length = N.length
  rw [hN];simp [stC]
theorem Wr {σ' : St} {H' : Hp} {s' : Shared} (I : Inv X pins σ H s) (hf : ∀ b ∈ fp, vp X pins H b) (I' : Inv (cxC X N scope s H fp pins) [] σ' H' s') : Inv X pins σ H' s' :=
 I.call' (ch := fp) I'.os I'.base I'.hok I'.bare λ b hb => ⟨(hf b hb).2.2.2.1, (hf b hb).2.1, (hf b hb).2.2.2.2.1, (hf b hb).2.2.2.2.2⟩
end
section
variable {prog : Program} {w : World} {A : Around} {R : Result -> Shared -> Prop} {s : Shared}
abbrev NoX : Value -> Shared -> Prop := λ _ _ => False
theorem zag {elt target iter : Expr} {ifs : List Expr} {scope : Scope} {pos : Pos} {it acc : Value} {env : Env} (I : Nat -> Shared -> Prop)
  (turn : ∀ n s, I n s -> wpAny (model prog w) A (pyNext it) (λ r s₁ => match r with
   | none => R (.ok .next) s₁
   | some v => wpAny (model prog w) A (letOwnedTupleGo target it v) (λ _ s₁' => wpAny (model prog w) A (assign target env v) (λ _ s₂ =>
     wpAny (model prog w) A (forIn ifs true λ c r => if r = true then do let ok <- isTrue c env (eval c env);pure (ForInStep.yield ok) else pure (ForInStep.yield r)) (λ ok s₃ =>
      if ok = true then wpAny (model prog w) A (eval elt env) (λ x s₄ =>
       wpAny (model prog w) A (call (.builtin "list.append") [acc, x]) (λ _ s₅ => ∃ m, m < n /\ I m s₅) NoX s₄) NoX s₃
      else ∃ m, m < n /\ I m s₃) NoX s₂) NoX s₁') NoX s₁) NoX s)
  (n : Nat) (h : I n s) :
  codeAny (model prog w) A (.compLoop (.ListComp elt [⟨target, iter, ifs, 0⟩] scope pos) 0 it acc env) R s := by
 refine codeAny_loop rfl I (λ n s hI => ?_) n h;show wpAny _ A ((compTurn (.ListComp elt [⟨target, iter, ifs, 0⟩] scope pos) 0 it acc env).onRaise (λ x => do noteFrame x env;theTreesLotGoes x)) _ _ s
 refine wpAny_noted ?_;rw [compTurn_list];refine wpAny_bind (wpAny_standAt (wpAny_bind (wpAny_mono (turn n s hI) (λ r s₁ h₁ => ?_) λ _ _ h' => h'.elim)));cases r with
 | none => exact wpAny_pure h₁
 | some v =>
  refine wpAny_bind (wpAny_mono h₁ (λ _ s₁' h₁' => ?_) λ _ _ h' => h'.elim);refine wpAny_bind (wpAny_mono h₁' (λ _ s₂ h₂ => wpAny_bind (wpAny_mono h₂ (λ ok s₃ h₃ => ?_) λ _ _ h' => h'.elim)) λ _ _ h' => h'.elim);cases ok with
  | false => exact wpAny_pure ⟨rfl, h₃⟩
  | true =>
   exact wpAny_bind (wpAny_bind (wpAny_mono h₃ (λ x s₄ h₄ => wpAny_bind (wpAny_mono h₄ (λ _ s₅ h₅ => wpAny_pure (wpAny_pure ⟨rfl, h₅⟩)) λ _ _ h' => h'.elim)) λ _ _ h' => h'.elim))
end
def zcn (X : Cx) (ifs : List Expr) (t : TT) : Prop :=
 ∀ (pins : List (Addr × Obj)) (s : Shared) (σ : St) (H : Hp) (Q : Bool -> Hp -> Prop), Inv X pins σ H s -> t σ H Q ->
  wpAny (model X.prog X.w) X.A (forIn ifs true λ c r => if r = true then do let ok <- isTrue c X.env (eval c X.env);pure (ForInStep.yield ok) else pure (ForInStep.yield r)) (TP X pins σ Q) X.xe s
def tYes : TT := λ _ H Q => Q true H
theorem jE {X : Cx} : zcn X [] tYes := λ _ _ _ H _ I h => wpAny_tests_nil ⟨H, I, h⟩
abbrev CB (α : Type) := Shared -> Hp -> List Addr -> List (Addr × Obj) -> α
def tLc (wi : TI) (nv : Nat) (caps : List Nat) (g : CB TG) (tt : CB TT) (te : CB TE) : TE := λ σ H Q => wi σ H λ J H1 => ∀ (s3 : Shared) (H3 : Hp) (fp : List Addr) (pns : List (Addr × Obj)) acc, H1 acc = none ->
 ∃ W : Nat -> Nat -> St -> Hp -> Prop, (∃ m, W 0 m (stC nv caps σ) (upd H1 acc (.lst []))) /\ ∀ i m σ' H', W i m σ' H' ->
  (J.stop i H' /\ Q (.ref acc) H') \/ (J.go i H' /\ ∃ N : St -> Hp -> Prop, (∀ σ'' H'', N σ'' H'' -> ∃ m', m' < m /\ W (i + 1) m' σ'' H'') /\ ∀ x H'', J.yld i H' x H'' -> g s3 H3 fp pns x σ' H'' λ σ2 H2 => tt s3 H3 fp pns σ2 H2 λ b H5 =>
   if b = true then te s3 H3 fp pns σ2 H5 λ y H4 => ∃ ys, H4 acc = some (.lst ys) /\ ys.length < sizeLine /\ N σ2 (upd H4 acc (.lst (ys ++ [y]))) else N σ2 H5)
section
variable {X : Cx} {elt target iter : Expr} {ifs : List Expr} {scope osc : Scope} {pos : Pos} {wi : TI} {g : CB TG} {tt : CB TT} {te : CB TE} {N vars : List Str} {caps : List Nat}
theorem ZZ {pins : List (Addr × Obj)} {σ : St} {H2 : Hp} {s2 : Shared} {it : Addr} {fp : List Addr} {tn : Nat -> Heap -> Prop} {J : It} {Q : VK} {RR : Value -> Addr -> Result -> Shared -> Prop} {E : Value -> Shared -> Prop}
  (hosc : X.env.scope = osc) (C : CompOk osc scope X.N vars caps) (hN : N = vars ++ caps.map λ k => X.N.getD k Str.empty) (hc : X.calm = true)
  (hg : ∀ s H fp pins, PG (cxC X N scope s H fp pins) target (g s H fp pins)) (ht : ∀ s H fp pins, zcn (cxC X N scope s H fp pins) ifs (tt s H fp pins)) (he : ∀ s H fp pins, PE (cxC X N scope s H fp pins) elt (te s H fp pins))
  (I2 : Inv X pins σ H2 s2) (T : Turn X.prog X.w X.K target J fp it tn) (st2 : tn 0 s2.heap) (hf : ∀ b ∈ fp, vp X pins H2 b)
  (h : ∀ (s3 : Shared) (H3 : Hp) (fp : List Addr) (pns : List (Addr × Obj)) acc, H2 acc = none -> ∃ W : Nat -> Nat -> St -> Hp -> Prop, (∃ m, W 0 m (stC vars.length caps σ) (upd H2 acc (.lst []))) /\ ∀ i m σ' H', W i m σ' H' ->
   (J.stop i H' /\ Q (.ref acc) H') \/ (J.go i H' /\ ∃ N : St -> Hp -> Prop, (∀ σ'' H'', N σ'' H'' -> ∃ m', m' < m /\ W (i + 1) m' σ'' H'') /\ ∀ x H'', J.yld i H' x H'' -> g s3 H3 fp pns x σ' H'' λ σ2 H2 => tt s3 H3 fp pns σ2 H2 λ b H5 =>
    if b = true then te s3 H3 fp pns σ2 H5 λ y H4 => ∃ ys, H4 acc = some (.lst ys) /\ ys.length < sizeLine /\ N σ2 (upd H4 acc (.lst (ys ++ [y]))) else N σ2 H5))
  (hRR : ∀ acc C s' H' m, Inv X pins σ H' s' -> Q (.ref acc) H' -> s'.heap.Ns C m -> H' C = none -> C ≠ X.env.locals -> X.s₀.heap.objs.size <= C -> (∀ x c, X.env.cells.lookup x = some c -> c ≠ C) -> (∀ p ∈ X.pn ++ pins, p.1 ≠ C) -> RR (.ref acc) C (.ok .next) s') :
  wpAny (model X.prog X.w) X.A (newList []) (λ acc s₃ => wpAny (model X.prog X.w) X.A (newFunctionEnv scope X.env.globals (qH X.env.cells scope.names []) [] X.env.qual none .none (some X.env)) (λ cenv s₄ =>
   codeAny (model X.prog X.w) X.A (.compStart (.ListComp elt [⟨target, iter, ifs, 0⟩] scope pos) 0 (.ref it) acc { cenv with scope := relabel scope X.env }) (RR acc cenv.locals) s₄) E s₃) E s2 := by
 refine wpAny_newObj_type (wpAny_newFunctionEnv C.cell (by intro y hy;simp at hy) (λ h₁ hns₁ hsb₁ => ?_) C.kind);obtain ⟨W, ⟨m0, w0⟩, turn⟩ := h { s2 with heap := s2.heap.push { cls := .type "list", dict := none, data := .seq ([] : List Value).toArray } } (upd H2 s2.heap.objs.size (.lst [])) fp pins s2.heap.objs.size I2.fresh;have I3 : Inv X pins σ (upd H2 s2.heap.objs.size (.lst [])) { s2 with heap := s2.heap.push { cls := .type "list", dict := none, data := .seq ([] : List Value).toArray } } := I2.lnew (its := []) (t' := s2.toks) .nil (by decide);dsimp only at hns₁ hsb₁ ⊢;have hfo : ∀ b ∈ fp, ∃ o, s2.heap.get? b = some o := λ b hb => let ⟨o, e, _⟩ := T.obj _ _ st2 b hb;⟨o, e⟩
 have hf3 : ∀ b ∈ fp, vp X pins (upd H2 s2.heap.objs.size (.lst [])) b := λ b hb => by
  refine ⟨?_, (hf b hb).2⟩;obtain ⟨o, e⟩ := hfo b hb;rw [upd_ne (Nat.ne_of_lt (Heap.lt_size e))];exact (hf b hb).1
 generalize hs3 : ({ s2 with heap := s2.heap.push { cls := .type "list", dict := none, data := .seq ([] : List Value).toArray } } : Shared) = s3 at I3 turn;have eh : s2.heap.push { cls := .type "list", dict := none, data := .seq ([] : List Value).toArray } = s3.heap := by rw [<- hs3]
 have old : ∀ b o, s2.heap.get? b = some o -> s3.heap.get? b = some o := λ b o e => by rw [<- eh];exact Heap.get?_push_of_some _ e
 rw [eh] at hns₁ hsb₁ ⊢;have es : ({ s2 with heap := h₁, toks := s2.toks + ([] : List (Str × Value)).length } : Shared) = { s3 with heap := h₁, toks := s2.toks } := by rw [<- hs3];rfl
 rw [es];generalize hH3 : upd H2 s2.heap.objs.size (.lst []) = H3 at *;have hk : ∀ b o, s3.heap.get? b = some o -> h₁.get? b = some o := λ b o e => hsb₁.extBut b o (Nat.ne_of_lt (Heap.lt_size e)) (Heap.get?_push_of_some _ e);have I4 : Inv (cxC X N scope s3 H3 fp pins) [] (stC vars.length caps σ) H3 { s3 with heap := h₁, toks := s2.toks } := zbi I3 hosc C hN hf3 (λ b hb => let ⟨o, e⟩ := hfo b hb;⟨o, old b o e⟩) hns₁ hk;have st4 : tn 0 h₁ := T.keep _ _ _ st2 λ b hb o e => hk b o (old b o e);have stat : ∀ {H' : Hp}, (∀ b ∈ fp, H' b = none) -> ∀ b ∈ fp, vp (cxC X N scope s3 H3 fp pins) [] H' b := λ hn b hb =>
  ⟨hn b hb, (I4.ok.exf b hb).1, I4.ok.exfs b hb, .inl hb, (I4.ok.exf b hb).2, λ p hp => (hf b hb).2.2.2.2.2 p (by simpa [cxC] using hp)⟩
 have loop : ∀ s4 : Shared, s4 = { s3 with heap := h₁, toks := s2.toks } ->
   codeAny (model X.prog X.w) X.A (.compLoop (.ListComp elt [⟨target, iter, ifs, 0⟩] scope pos) 0 (.ref it) (.ref s2.heap.objs.size) (cxC X N scope s3 H3 fp pins).env) (RR (.ref s2.heap.objs.size) s3.heap.objs.size) s4 := by
  rintro s4 rfl;refine zag (λ n s' => ∃ i σ' H', Inv (cxC X N scope s3 H3 fp pins) [] σ' H' s' /\ tn i s'.heap /\ (∀ b ∈ fp, H' b = none) /\ W i n σ' H') ?_ m0 ⟨0, _, H3, I4, st4, λ b hb => (hf3 b hb).1, w0⟩;rintro n s5 ⟨i, σ5, H5, I5, st5, fr5, w5⟩;rcases turn i n σ5 H5 w5 with ⟨stop, qn⟩|⟨go, NN, hNN, step⟩
  ·refine thn (T.done (cxC X N scope s3 H3 fp pins) rfl rfl rfl hc i [] s5 σ5 H5 NoX I5 (stat fr5) st5 stop) λ r s6 ⟨hr, I6⟩ => ?_;subst hr;obtain ⟨m, hn, _⟩ := I6.loc;have hlt : ∀ b o, s3.heap.get? b = some o -> b ≠ s3.heap.objs.size := λ b o e => Nat.ne_of_lt (Heap.lt_size e);obtain ⟨m3, ⟨oL, _, _, hoL, _⟩, _⟩ := I3.loc;refine hRR _ _ s6 H5 m (Wr I3 hf3 I6) qn hn I6.free (λ z => hlt _ _ hoL z.symm) I3.sz (λ x c ec z => ?_) λ p hp z => hlt _ _ (I3.pin p hp).1 z;obtain ⟨v, o, ho, _⟩ := I3.cell x c ec;exact hlt _ _ ho z
  ·refine thn (T.item (cxC X N scope s3 H3 fp pins) rfl rfl rfl hc i [] s5 σ5 H5 NoX I5 (stat fr5) st5 go) λ r s6 ⟨u, hr, h6⟩ => ?_;subst hr;refine thn h6 λ _ s7 ⟨x, H7, I7, r7, y7, st7, fr7⟩ => ?_;have I7' := I7.pinned (stat fr7) (T.obj _ _ st7);have again : ∀ {σ8 : St} {H8 : Hp} {s8 : Shared}, Inv (cxC X N scope s3 H3 fp pins) ([] ++ Zz fp s7.heap) σ8 H8 s8 -> NN σ8 H8 -> ∃ m, m < n /\ ∃ i σ' H', Inv (cxC X N scope s3 H3 fp pins) [] σ' H' s8 /\ tn i s8.heap /\ (∀ b ∈ fp, H' b = none) /\ W i m σ' H' := λ {σ8 H8 s8} I8 n8 => by
    obtain ⟨m', hm, w8⟩ := hNN σ8 H8 n8;refine ⟨m', hm, i + 1, σ8, H8, I8.unpinned, T.keep _ _ _ st7 λ b hb o e => (I8.pin (b, o) (mem_append_right _ (mem_append_right _ (j9 hb e)))).1, λ b hb => ?_, w8⟩;obtain ⟨o, e, d⟩ := T.obj _ _ st7 b hb;exact (I8.pin (b, o) (mem_append_right _ (mem_append_right _ (j9 hb e)))).2.1
   refine thn (hg s3 H3 fp pins _ s7 σ5 H7 x u _ I7' r7 (step x H7 y7)) λ _ s8 ⟨σ8, H8, I8, q8⟩ => ?_;refine thn (ht s3 H3 fp pins _ s8 σ8 H8 _ I8 q8) λ b s9 ⟨H9, I9, q9⟩ => ?_;cases b with
   | false => exact again I9 q9
   | true =>
    refine qQ (he s3 H3 fp pins _ s9 σ8 H9 _ I9 q9) λ v s10 y H10 I10 r10 qq_ => ?_;obtain ⟨ys, ea, hz, q10⟩ := qq_;refine thn (zL (X := cxC X N scope s3 H3 fp pins) _ s10 σ8 H10 (.ref s2.heap.objs.size) [y] (.ref s2.heap.objs.size) [v] (λ _ H' => NN σ8 H') I10 rfl (.cons r10 .nil) ⟨_, ys, y, rfl, rfl, ea, hz, q10⟩) λ _ s11 ⟨_, H11, I11, _, q11⟩ => ?_;exact again I11 q11
 exact codeAny_compStart_list (loop _ rfl) (T.self X.A 0 _ _ _ st4 (loop _ rfl))
theorem Qv {ON : List Str} (hosc : X.env.scope = osc) (hON : X.N = ON) (hB : Vy osc scope ON caps = true) (hN : N = vars ++ caps.map λ k => ON.getD k Str.empty) (hc : X.calm = true) (hi : PI X target iter wi)
  (hg : ∀ s H fp pins, PG (cxC X N scope s H fp pins) target (g s H fp pins)) (ht : ∀ s H fp pins, zcn (cxC X N scope s H fp pins) ifs (tt s H fp pins)) (he : ∀ s H fp pins, PE (cxC X N scope s H fp pins) elt (te s H fp pins))
  (hs : ∀ x, foldedSetIterable iter X.env x = pure x := by intro _;rfl) : PE X (.ListComp elt [⟨target, iter, ifs, 0⟩] scope pos) (tLc wi vars.length caps g tt te) := by
 subst hON;intro pins s σ H Q I h;have C : CompOk osc scope X.N vars caps := XE hB;have hclos : closureFor scope X.env = pure (qH X.env.cells scope.names []) := x5 λ y hy e => I.ok.has y.1 (by have z := C.free y hy e;rw [<- hosc] at z;exact z);rw [eval_ListComp];refine wpAny_comprehension_free (use := none) rfl hs hclos C.kind C.loc (thn (hi pins s σ H _ I h) λ v s1 h1 => thn h1 λ itv s2 h2 => ?_);obtain ⟨it, fp, tn, J, H2, e, I2, T, st2, f2, hw⟩ := h2;subst e;refine ZZ (N := N) (RR := λ acc Cc => compPost (model X.prog X.w) X.A X.xe none (EP X pins σ Q) acc Cc) hosc C hN hc hg ht he I2 T st2 f2 hw λ acc Cc s' H' m I' q hn hC hL hsz hcc hpp => ?_;refine ⟨m, hn, λ h' hs' => ⟨.ref acc, H', ?_, rfl, q⟩⟩;exact I'.turned (t' := s'.toks) (it := Cc) (λ b o hb e => (hs'.2 b hb).trans e) hC (λ z => hL z) (.inr hsz) hcc hpp
theorem zct {ON : List Str} {i : Nat} {x : Str} {pos' spos : Pos} (hNd : X.N.Nodup) (hix : X.N[i]? = some x) (hx : Loc X.env.scope x)
  (hosc : X.env.scope = osc) (hON : X.N = ON) (hB : Vy osc scope ON caps = true) (hN : N = vars ++ caps.map λ k => ON.getD k Str.empty) (hc : X.calm = true) (hi : PI X target iter wi)
  (hg : ∀ s H fp pins, PG (cxC X N scope s H fp pins) target (g s H fp pins)) (ht : ∀ s H fp pins, zcn (cxC X N scope s H fp pins) ifs (tt s H fp pins)) (he : ∀ s H fp pins, PE (cxC X N scope s H fp pins) elt (te s H fp pins))
  (hsw : swapsWith (.ListComp elt [⟨target, iter, ifs, 0⟩] scope pos) (some (.Name x pos')) spos.line X.env = pure true := by rfl)
  (hf : X.fn x = true \/ X.env.scope.names.lookup x = some .local := by walk_at "p")
  (hs : ∀ x, foldedSetIterable iter X.env x = pure x := by intro _;rfl) : PS X (.Assign [.Name x pos'] (.ListComp elt [⟨target, iter, ifs, 0⟩] scope pos) spos) (tAsg (tLc wi vars.length caps g tt te) (gName i)) := by
 subst hON;intro pins s σ H D I h;have C : CompOk osc scope X.N vars caps := XE hB;have hclos : closureFor scope X.env = pure (qH X.env.cells scope.names []) := x5 λ y hy e => I.ok.has y.1 (by have z := C.free y hy e;rw [<- hosc] at z;exact z);rw [exec_Assign_Name_used _ _ _ _ hsw];refine wpAny_bind (wpAny_standAt (wpAny_bind ?_));show wpAny _ X.A (do let _ <- comprehension (.ListComp elt [⟨target, iter, ifs, 0⟩] scope pos) scope X.env _ (newList []) false (eval iter X.env) (some (assign (.Name x pos') X.env))) _ _ s
 refine wpAny_bind (wpAny_mono (wpAny_comprehension_free (use := some (assign (.Name x pos') X.env)) (Q := λ _ s' => SP X pins D .next s') rfl hs hclos C.kind C.loc (thn (hi pins s σ H _ I h) λ v s1 h1 => thn h1 λ itv s2 h2 => ?_)) (λ _ s' hq => wpAny_pure (wpAny_pure hq)) λ _ _ e => e);obtain ⟨it, fp, tn, J, H2, e, I2, T, st2, f2, hw⟩ := h2;subst e;refine ZZ (N := N) (Q := λ v H1 => gName i v σ H1 D.nx) (RR := λ acc Cc => compPost (model X.prog X.w) X.A X.xe (some (assign (.Name x pos') X.env)) (λ _ s' => SP X pins D .next s') acc Cc) hosc C hN hc hg ht he I2 T st2 f2 hw λ acc Cc s' H' m I' q hn hC hL hsz hcc hpp => ?_;refine wpAny_assign_Name (Qs I' hNd hix hx (v := .ref acc) rfl (λ s3 I3 ⟨a, sb, ha⟩ => ?_) hf);have hne : Cc ≠ a := λ z => by
  rcases ha with e|e
  ·exact hL (z.trans e)
  ·exact hcc x a e z.symm
 refine ⟨m, hn.sameBut sb hne, λ h' hs' => ⟨_, H', ?_, q⟩⟩;exact I3.turned (t' := s3.toks) (it := Cc) (λ b o hb e => (hs'.2 b hb).trans e) hC (λ z => hL z) (.inr hsz) hcc hpp
end
end L2
namespace L2
open PySem PySem.Spec PySem.Calls PyProof.Rows
section
variable {X : Cx} {pins : List (Addr × Obj)} {σ : St} {H : Hp} {s : Shared} {h' : Heap} {ch : List Addr}
theorem Inv.turnNew {T : Addr} {o : HO} {t' : Nat} (I : Inv X pins σ H s) (hch : ∀ b ∈ ch, vp X pins H b) (hT : s.heap.objs.size <= T) (keep : ∀ b o, b ∉ ch -> s.heap.get? b = some o -> h'.get? b = some o)
  (new : ObjOk X.prog X.w (upd H T o) h' T o) : Inv X pins σ (upd H T o) { s with heap := h', toks := t' } := by
 have hn : H T = none := I.hok.fresh hT;have lt : ∀ b u, s.heap.get? b = some u -> b ≠ T := λ b u e => Nat.ne_of_lt (Nat.lt_of_lt_of_le (Heap.lt_size e) hT);have nch : ∀ b u, H b = some u -> b ∉ ch := λ b u e z => by rw [(hch b z).1] at e;cases e
 refine I.step (g' := s.gens) (d' := s.drawn) (ch := ch) (λ b hb => ⟨(hch b hb).2.2.2.1, (hch b hb).2.1, (hch b hb).2.2.2.2.1, (hch b hb).2.2.2.2.2⟩) (λ b o _ _ hc e _ => keep b o hc e) (λ b o _ _ hc e _ => ⟨o.slots, keep b o hc e⟩)
  (λ b o _ e n => by rw [upd_ne (lt b o e)];exact n) (λ b o hc e => ⟨o, keep b o hc e⟩) (λ b xs e => by rw [upd_ne (ne_of_none e hn)];exact e) (λ b o u e => by rw [upd_ne (ne_of_none e hn)];exact e)
  (λ b ps e => ⟨#[], by rw [upd_ne (ne_of_none e hn), e];simp⟩) (λ m hm => ?_) (λ b u e => ?_) I.bare
 ·obtain ⟨o, es, ep, ho, r⟩ := hm;exact ⟨o, es, ep, keep _ o (λ z => (hch _ z).2.1 rfl) ho, r⟩
 ·by_cases hb : b = T
  ·subst hb;rw [upd_same] at e;cases e;exact new
  ·rw [upd_ne hb] at e;refine (I.hok b u e).stay (λ c v hc q => keep c v ?_ q) (λ c q => by rw [upd_ne (ne_of_none q hn)];exact q) λ c xs q => by rw [upd_ne (ne_of_none q hn)];exact q
   rcases hc with z|z
   ·rw [z];exact nch b u e
   ·exact nch c _ z
theorem Inv.turnL {t' : Nat} (I : Inv X pins σ H s) (hch : ∀ b ∈ ch, vp X pins H b) (keep : ∀ b o, b ∉ ch -> s.heap.get? b = some o -> h'.get? b = some o) : Inv X pins σ H { s with heap := h', toks := t' } := by
 have nch : ∀ b u, H b = some u -> b ∉ ch := λ b u e z => by rw [(hch b z).1] at e;cases e
 refine I.step (g' := s.gens) (d' := s.drawn) (ch := ch) (λ b hb => ⟨(hch b hb).2.2.2.1, (hch b hb).2.1, (hch b hb).2.2.2.2.1, (hch b hb).2.2.2.2.2⟩) (λ b o _ _ hc e _ => keep b o hc e) (λ b o _ _ hc e _ => ⟨o.slots, keep b o hc e⟩)
  (λ _ _ _ _ n => n) (λ b o hc e => ⟨o, keep b o hc e⟩) (λ _ _ e => e) (λ _ _ _ e => e) (λ b ps e => ⟨#[], by rw [e];simp⟩) (λ m hm => ?_) (λ b u e => ?_) I.bare
 ·obtain ⟨o, es, ep, ho, r⟩ := hm;exact ⟨o, es, ep, keep _ o (λ z => (hch _ z).2.1 rfl) ho, r⟩
 ·refine (I.hok b u e).stay (λ c v hc q => keep c v ?_ q) (λ _ q => q) λ _ _ q => q;rcases hc with z|z
  ·rw [z];exact nch b u e
  ·exact nch c _ z
end
def Ite (K : PySem.W.Frag) (a : Addr) : It :=
 ⟨λ i H => ∃ xs x, SqL K H a xs /\ xs[i]? = some x, λ i H v H' => ∃ t x, H t = none /\ v = .ref t /\ (∀ xs, SqL K H a xs -> xs[i]? = some x) /\ H' = upd H t (.tup [.int i, x]), λ i H => ∃ xs, SqL K H a xs /\ xs.length <= i⟩
theorem VE {P : Program} {w : World} {K : PySem.W.Frag} {elts : List Expr} {x1} {pos : Pos} (a e it : Addr) (hne : e ≠ it) :
  Turn P w K (.Tuple elts x1 pos) (Ite K a) [e, it] e (λ i h => (∃ old, IsEnum h e it i old) /\ h.IsListIter it a i) where
 mem := by simp
 obj := λ i h st b hb => by
  obtain ⟨⟨old, he⟩, o, ho, c, d⟩ := st;rcases List.mem_cons.mp hb with rfl|hb
  ·exact ⟨_, he, λ v z => by cases z⟩
  ·obtain rfl : b = it := by simpa using hb
   exact ⟨o, ho, λ v z => by rw [d] at z;cases z⟩
 keep := λ i h h' st k => by
  obtain ⟨⟨old, he⟩, hi⟩ := st;exact ⟨⟨old, k e (by simp) _ he⟩, hi.at λ o z => k it (by simp) o z⟩
 item := by
  intro X hP hw hK hc i pins s σ H E I hf st hg;subst hP hw hK;obtain ⟨⟨old, he⟩, hi⟩ := st;obtain ⟨xs, x, hq, hx⟩ := hg;obtain ⟨its, rv, p, hz⟩ := I.list hq;obtain ⟨u, hu, ru⟩ := rv.get hx;refine wpAny_pyNext_enum_item he hi p.isList (x := u) (by simpa using hu) hne λ h' he' hi' hT hsz hk => ?_;refine ⟨_, rfl, ?_⟩;have I1 : Inv X pins σ (upd H s.heap.objs.size (.tup [.int i, x])) { s with heap := h', toks := s.toks + 1 } := I.turnNew hf (Nat.le_refl _) (λ b o hb q => hk b o (λ z => hb (by simp [z])) (λ z => hb (by simp [z])) q)
   ⟨by show 2 <= sizeLine;decide, [.int i s.toks, u], .cons ⟨_, rfl⟩ (.cons ru .nil), ⟨_, hT, rfl, _, rfl⟩⟩
  have hn : H s.heap.objs.size = none := I.hok.fresh (Nat.le_refl _);have ne : ∀ b ∈ [e, it], b ≠ s.heap.objs.size := λ b hb => by
   rcases List.mem_cons.mp hb with rfl|hb
   ·exact Nat.ne_of_lt (Heap.lt_size he)
   ·obtain rfl : b = it := by simpa using hb
    obtain ⟨o, ho, _⟩ := hi;exact Nat.ne_of_lt (Heap.lt_size ho)
  have fr : ∀ b ∈ [e, it], (upd H s.heap.objs.size (.tup [.int i, x])) b = none := λ b hb => by rw [upd_ne (ne b hb)];exact (hf b hb).1
  refine wpAny_letOwnedTupleGo_enum he' λ h'' he'' hs'' => ?_;refine ⟨.ref s.heap.objs.size, _, I1.turnL (t' := s.toks + 1) (ch := [e]) (λ b hb => ?_) (λ b o hb q => (hs''.2 b (λ z => hb (by simp [z]))).trans q), rfl,
   ⟨s.heap.objs.size, x, hn, rfl, λ ys hy => by rw [I.list_inj hy hq];exact hx, rfl⟩, ⟨⟨u, ?_⟩, hi'.extBut hs''.extBut (Ne.symm hne)⟩, fr⟩
  ·obtain rfl : b = e := by simpa using hb
   exact ⟨fr b (by simp), (hf b (by simp)).2⟩
  ·exact he''
 done := by
  intro X hP hw hK hc i pins s σ H E I hf st hg;subst hP hw hK;obtain ⟨⟨old, he⟩, hi⟩ := st;obtain ⟨xs, hq, hx⟩ := hg;obtain ⟨its, rv, p, hz⟩ := I.list hq;have hl := rv.length;exact wpAny_pyNext_enum_end (I.ok.hd hc) he hi p.isList (by simp;lia) λ h' eb => ⟨rfl, I.turnL (t' := s.toks) hf λ b o hb q => eb b o (λ z => hb (by simp [z])) q⟩
 self := λ _ _ _ _ _ st h => by
  obtain ⟨⟨old, he⟩, _⟩ := st;exact wpAny_pyIter_enum he h
theorem JE : bootBuiltins "enumerate" = some (.type "enumerate") := by decide +kernel
def iEnum (X : Cx) (ta : TA) : TI := λ σ H R => X.mg "enumerate" = none /\ ta σ H λ vs H1 => ∃ a xs, vs = [.ref a] /\ H1 a = some (.lst xs) /\ R (Ite X.K a) H1
theorem Jk {X : Cx} {a : Expr} {elts : List Expr} {x1} {tp p pos : Pos} {ta : TA} (ha : PA X [a] ta) (hg : Gl X "enumerate" := by rfl)
  (hs : starEach [a] X.env = (false, eval a X.env) :: starEach [] X.env := by rfl) (hpl : (backTo pos (starEach [] X.env)).any (·.1) = false := by rfl) :
  PI X (.Tuple elts x1 tp) (.Call (.Name "enumerate" p) [a] [] pos) (iEnum X ta) := by
 intro pins s σ H R I h;refine wpAny_Call_Name_kw (vk I hg h.1 JE ?_);refine PyProof.Rows.callWith_type1 (wr (ha pos pins s σ H _ I h.2) λ us s1 vs H1 I1 r1 q1 => ?_) hs hpl;obtain ⟨l, xs, rfl, hq, hR⟩ := q1;obtain ⟨u, rfl, rx⟩ := vv r1;cases rx;obtain ⟨hz, its, n, rv, hl, e⟩ := I1.lstM hq;refine call_enumerate_1 e λ h' he hi hsz hk => wpAny_pyIter_enum he ?_;refine ⟨s1.heap.objs.size + 1, [s1.heap.objs.size + 1, s1.heap.objs.size], _, _, H1, rfl, I1.kept (t' := s1.toks) hk, VE l _ _ (Nat.succ_ne_self _), ⟨⟨_, he⟩, hi⟩, λ b hb => ?_, hR⟩;rcases List.mem_cons.mp hb with rfl|hb
 ·exact I1.fpOk (Nat.le_succ _) (I1.hok.fresh (Nat.le_succ _))
 ·obtain rfl : b = s1.heap.objs.size := by simpa using hb
  exact I1.fpOk (Nat.le_refl _) (I1.hok.fresh (Nat.le_refl _))
def ItAt (b : Bool) (h : Heap) (it a : Addr) (i : Nat) : Prop := if b = true then h.IsListIter it a i else h.IsTupleIter it a i
def zd6 (b : Bool) (h : Heap) (a : Addr) (items : Array Value) : Prop := if b = true then h.IsList a items else h.IsTuple a items
def zbf (b : Bool) : String := if b = true then "list_iterator" else "tuple_iterator"
theorem ItAt.obj {b : Bool} {h : Heap} {it a : Addr} {i : Nat} (x : ItAt b h it a i) : ∃ o, h.get? it = some o /\ ∀ v, o.data ≠ .cell v := by
 cases b <;> exact let ⟨o, ho, _, hd⟩ := x;⟨o, ho, λ v z => by rw [hd] at z;cases z⟩
section
variable {prog : Program} {w : World} {A : Around} {E : Value -> Shared -> Prop} {s : Shared}
end
section
variable {prog : Program} {w : World} {A : Around} {E : Value -> Shared -> Prop} {s : Shared}
theorem ItAt.new {b : Bool} {h : Heap} {it l : Addr} (e : h.get? it = some { cls := .type (zbf b), data := .fields #[.ref l, .int 0 0] }) : ItAt b h it l 0 := by
 cases b <;> exact ⟨_, e, rfl, rfl⟩
end
def SqB (b : Bool) (K : PySem.W.Frag) (H : Hp) (a : Addr) (xs : List V) : Prop := if b = true then SqL K H a xs else SqT K H a xs
theorem Inv.sqB {X : Cx} {pins : List (Addr × Obj)} {σ : St} {H : Hp} {s : Shared} {b : Bool} {a : Addr} {xs : List V} (I : Inv X pins σ H s) (h : SqB b X.K H a xs) : ∃ its : List Value, Vals xs its /\ zd6 b s.heap a its.toArray := by
 cases b
 ·obtain ⟨its, r, p, _⟩ := I.tuple (show SqT X.K H a xs from h);exact ⟨its, r, p⟩
 ·obtain ⟨its, r, p, _⟩ := I.list (show SqL X.K H a xs from h);exact ⟨its, r, p.isList⟩
theorem SqB.there {X : Cx} {pins : List (Addr × Obj)} {σ : St} {H : Hp} {s : Shared} {b : Bool} {a : Addr} {xs : List V} (I : Inv X pins σ H s) (h : SqB b X.K H a xs) : ∃ o, s.heap.get? a = some o /\ (o.cls = .type "list" \/ o.cls = .type "tuple") /\ ∃ its n, o.data = .seq its n := by
 obtain ⟨its, _, p⟩ := I.sqB h;cases b
 ·obtain ⟨o, e, c, n, d⟩ := p;exact ⟨o, e, .inr c, _, n, d⟩
 ·obtain ⟨o, e, c, n, d⟩ := p;exact ⟨o, e, .inl c, _, n, d⟩
section
variable {K : PySem.W.Frag} {σ : St} {H : Hp}
theorem zdO {a : Addr} {xs : List V} {DN : St -> Hp -> Prop} {B : (St -> Hp -> Prop) -> V -> St -> Hp -> Prop} (Pv : Nat -> St -> Hp -> Prop) (h0 : Pv 0 σ H) (hl : ∀ i σ H, i <= xs.length -> Pv i σ H -> SqL K H a xs)
  (hs : ∀ i x t σ H, xs[i]? = some x -> H t = none -> Pv i σ H -> B (Pv (i + 1)) (.ref t) σ (upd H t (.tup [.int i, x]))) (hd : ∀ σ H, Pv xs.length σ H -> DN σ H) :
  ∃ W : Nat -> Nat -> St -> Hp -> Prop, (∃ m, W 0 m σ H) /\ ∀ i m σ H, W i m σ H ->
   ((Ite K a).stop i H /\ DN σ H) \/ ((Ite K a).go i H /\ ∃ N : St -> Hp -> Prop, (∀ σ' H', N σ' H' -> ∃ m', m' < m /\ W (i + 1) m' σ' H') /\ ∀ x H', (Ite K a).yld i H x H' -> B N x σ H') := by
 refine ⟨λ i m σ H => m = xs.length - i /\ i <= xs.length /\ Pv i σ H, ⟨xs.length, by simp, Nat.zero_le _, h0⟩, ?_⟩;rintro i m σ H ⟨rfl, hi, p⟩;have q := hl i σ H hi p;by_cases hlt : i < xs.length
 ·refine .inr ⟨⟨xs, xs[i], q, by simp [hlt]⟩, Pv (i + 1), λ σ' H' p' => ⟨xs.length - (i + 1), by lia, rfl, hlt, p'⟩, λ v H' y => ?_⟩;obtain ⟨t, x, ht, rfl, hx, rfl⟩ := y;exact hs i x t σ _ (hx xs q) ht p
 ·have e : i = xs.length := by lia
  subst e;exact .inl ⟨⟨xs, q, Nat.le_refl _⟩, hd σ H p⟩
end
section
variable {X : Cx} {N : List Str} {scope : Scope} {s : Shared} {H : Hp} {fp : List Addr} {pins : List (Addr × Obj)}
theorem cxC_K : (cxC X N scope s H fp pins).K = X.K := rfl
theorem cxC_mg : (cxC X N scope s H fp pins).mg = X.mg := rfl
theorem cxC_prog : (cxC X N scope s H fp pins).prog = X.prog := rfl
theorem cxC_w : (cxC X N scope s H fp pins).w = X.w := rfl
theorem cxC_base : (cxC X N scope s H fp pins).base = X.base := rfl
end
end L2
namespace L2
open PySem PySem.Spec PySem.Calls PyProof.Rows
structure BCal (P : Program) (w : World) (K : PySem.W.Frag) (mg : Str -> Option Value) (base : Heap) (x m : Str) (k : Nat) (ps : List Str) (dvs : List V) (sp : Sp) : Prop where
 ex : ∃ C f fd ds, mg x = some (.ref C) /\ specialIn K (.ref C) "__getattribute__" = some (some (.builtin "type.__getattribute__")) /\ readsIn K C (.type "type") = true /\
  findCls K (.ref C) (.type "type") m = some (.val (.ref f)) /\ handedIn (.ref f) = true /\ FnOk P w K mg base (CXr P w) k f fd ps sp /\ keepIn K (.ref f) = true /\ Binds K fd ps ds /\ Vals dvs ds
theorem BCal.mono {P : Program} {w : World} {K : PySem.W.Frag} {mg : Str -> Option Value} {base : Heap} {x m : Str} {j k : Nat} {ps : List Str} {dvs : List V} {sp : Sp} (c : BCal P w K mg base x m j ps dvs sp) (h : j <= k := by decide) : BCal P w K mg base x m k ps dvs sp := by
 obtain ⟨C, f, fd, ds, a, b, c, d, e, g, r⟩ := c.ex;exact ⟨C, f, fd, ds, a, b, c, d, e, g.mono h, r⟩
section
variable {X : Cx} {G : GK} {k : Nat} {x m : Str} {p pos apos : Pos} {e : Expr} {es : List Expr} {t : TA}
def tBase (X : Cx) (k : Nat) (x m : Str) (G : GK) (t : TA) : TE := λ σ H Q => ∃ ps dvs sp, BCal X.prog X.w X.K X.mg X.base x m k ps dvs sp /\ t σ H λ vs H1 => sp (vs ++ dvs) H1 Q (λ cls _ H' => G cls σ H')
theorem xM {pl : Sem Bool} (B : Bod X) (hr : Room k X.A) (ha : PA (X.exg G) (e :: es) t) (hg : Gl X x := by rfl) (hdb : (x == ("__debug__" : Str)) = false := by decide)
  (hst : starEach (e :: es) X.env = (false, eval e X.env) :: starEach es X.env := by rfl) (hpl : (backTo pos (starEach es X.env)).any (·.1) = false := by rfl)
  (ht : eval (.Call (.Attribute (.Name x p) m apos) (e :: es) [] pos) X.env = (do
   let ov <- eval (.Name x p) X.env
   standAt apos.atName
   let (f, first) <- holding [ov] (getMethod ov m pl)
   callWith pos f first (backTo pos (starEach (e :: es) X.env)) (backToKw pos (keywordEach [] X.env))) := by rfl) :
  PE (X.exg G) (.Call (.Attribute (.Name x p) m apos) (e :: es) [] pos) (tBase X k x m G t) := by
 intro pins s σ H Q I h;obtain ⟨ps, dvs, sp, ⟨C, f, fd, ds, hm, hga, hrd, hfc, hhd, F, hk, hb, hd⟩, h⟩ := h;refine methodCall_KW (pl := pl) (qJ I hg hm ?_ hdb) ht;refine PySem.W.method_cls I.kIn hga (PySem.W.cls_value I.kIn hrd hfc hhd ?_);have I0 := I.tok (s.toks + 1);refine callWith_K (first := []) (h₀ := X.base) I.ok.mod.kin hk (wr (ha pos pins _ σ H _ I0 h) λ us s1 vs H1 I1 r q => ⟨I1.kIn, ?_⟩) hst hpl;exact WU B F hr hb hd I1 r q
end
structure FB (K : PySem.W.Frag) (mg : Str -> Option Value) (x m qual : Str) (st : Stmt) (ps : List Str) : Prop where
 ex : ∃ C f fd, mg x = some (.ref C) /\ specialIn K (.ref C) "__getattribute__" = some (some (.builtin "type.__getattribute__")) /\ readsIn K C (.type "type") = true /\
  findCls K (.ref C) (.type "type") m = some (.val (.ref f)) /\ Fun K m qual st f fd /\ keepIn K (.ref f) = true /\ Binds K fd ps []
theorem FB.cal {P : Program} {w : World} {K : PySem.W.Frag} {mg : Str -> Option Value} {base : Heap} {x m qual : Str} {st : Stmt} {ps : List Str} {k : Nat} {sp : Sp} (h : FB K mg x m qual st ps)
  (ok : ∀ {f fd}, Fun K m qual st f fd -> FnOk P w K mg base (CXr P w) k f fd ps sp) : BCal P w K mg base x m k ps [] sp := by
 obtain ⟨C, f, fd, a, b, c, d, F, kp, bi⟩ := h.ex;exact ⟨C, f, fd, [], a, b, c, d, rfl, ok F, kp, bi, .nil⟩
theorem fb_mk {K : PySem.W.Frag} {mg : Str -> Option Value} {C : Addr} {x m qual : Str} {st : Stmt} {ps : List Str} {f : Addr} {oc : Value} {od an : Option Addr} {osl : Array (Option Value)} {kV doc pm cdv ct : Value} (gl : mg x = some (.ref C))
  (ga : specialIn K (.ref C) "__getattribute__" = some (some (.builtin "type.__getattribute__"))) (rd : readsIn K C (.type "type") = true) (fc : findCls K (.ref C) (.type "type") m = some (.val (.ref f)))
  (l : K.lookup f = some ⟨oc, od, .func (fnOf m qual (qr st) (qe st) (zk st) .none kV doc pm an cdv ct), osl⟩)
  (c : codeIn K cdv qual = true) (k : keepIn K (.ref f) = true)
  (hb : ∀ (kV doc pm : Value) (an : Option Addr) (cdv ct : Value) (us : List Value), us.length = ps.length -> bindArgs (fnOf m qual (qr st) (qe st) (zk st) .none kV doc pm an cdv ct) ⟨us, []⟩ = pure (ps.zip us)) : FB K mg x m qual st ps :=
 ⟨C, f, _, gl, ga, rd, fc, jx l c k, k, (jx l c k).binds hb⟩
section
variable {X : Cx} {a b : Expr} {ta : TA} {p pos lp lpos : Pos}
def rgL (lo : Int) (n : Nat) : List V := (List.range n).map λ (i : Nat) => V.int (lo + (i : Int))
theorem XT {lo : Int} {n : Nat} {acc : Array Value} (h : ItemsOf (λ i v => ∃ t, v = .int (lo + i * 1) t) acc n) : Vals (rgL lo n) acc.toList := by
 have key : ∀ (k : Nat) (l : List Value) (m : Nat), l.length = m -> (∀ i v, l[i]? = some v -> ∃ t, v = Value.int (lo + ((k + i : Nat) : Int)) t) -> Vals ((List.range' k m).map λ (i : Nat) => V.int (lo + (i : Int))) l := by
  intro k l
  induction l generalizing k with
  | nil => intro m hm _;simp at hm;subst hm;exact .nil
  | cons x r ih =>
   intro m hm hv;obtain ⟨m, rfl⟩ : ∃ m', m = m' + 1 := ⟨r.length, by simpa using hm.symm⟩;rw [List.range'_succ, map_cons];refine .cons ?_ (ih (k + 1) m (by simpa using hm) λ i v e => ?_)
   ·obtain ⟨t, e⟩ := hv 0 x rfl;exact ⟨t, by simpa using e⟩
   ·obtain ⟨t, e'⟩ := hv (i + 1) v (by simpa using e);exact ⟨t, by rw [e'];congr 2;lia⟩
 have := key 0 acc.toList n (by simpa using h.1) λ i v e => by
  obtain ⟨t, e'⟩ := h.2 i v (by simpa using e);exact ⟨t, by rw [e'];simp⟩
 rw [rgL, List.range_eq_range'];exact this
def tRg1 (X : Cx) (ta : TA) : TE := λ σ H Q => X.mg "range" = none /\ ta σ H λ vs H1 => lq vs λ v => iq v λ j => ∀ p, H1 p = none -> Q (.ref p) (upd H1 p (.rng 0 j))
theorem zcX (ha : PA X [a] ta) (hg : Gl X "range" := by rfl) (hs : starEach [a] X.env = [(false, eval a X.env)] := by rfl) : PE X (.Call (.Name "range" p) [a] [] pos) (tRg1 X ta) := by
 intro pins s σ H Q I h;refine Call_ (vk I hg h.1 boot_range (PyProof.Rows.callWith_type1 (wr (ha pos pins s σ H _ I h.2) λ us s1 vs H1 I1 r1 q1 => ?_) hs rfl));obtain ⟨j, e, q⟩ := za4 q1;subst e;cases r1 with
 | cons r rr =>
  cases rr;obtain ⟨t, rfl⟩ := r;exact call_range_1 ⟨.ref _, _, I1.laid (o := .rng 0 j) (λ b o e => Heap.get?_push_of_some _ e) (Nat.le_refl _) ⟨_, _, _, Heap.get?_push_size _ rfl⟩, rfl, q _ I1.fresh⟩
theorem X0 {lo : Int} {n : Nat} : (rgL lo n).length = n := by simp [rgL]
theorem zby (hc : X.calm = true) : CallR X (.type "list") (λ xs H Q => ∃ p lo hi, xs = [.ref p] /\ H p = some (.rng lo hi) /\ (-(2 ^ 62) <= lo /\ lo < 2 ^ 62 /\ -(2 ^ 62) <= hi /\ hi < 2 ^ 62 /\ (hi - lo).toNat <= 1000) /\ ∀ l, H l = none -> Q (.ref l) (upd H l (.lst (rgL lo (hi - lo).toNat)))) := by
 intro pins s σ H xs us Q I r h;obtain ⟨p, lo, hi, rfl, hq, ⟨h1, h2, h3, h4, h5⟩, q⟩ := h;obtain ⟨u, rfl, rx⟩ := vv r;cases rx;obtain ⟨t, u, v, e⟩ := I.hok p _ hq;refine call_list_range (n := (hi - lo).toNat) (I.ok.hd hc) e (small_one h1 h2 h3 h4) (by rw [rangeSize_one];split <;> lia) (by lia) λ h' tk acc' c' hk hS hit => ?_;exact ⟨.ref _, _, I.laid (o := .lst (rgL lo (hi - lo).toNat)) (t' := tk) hk (Nat.le_refl _) ⟨by rw [X0];exact Nat.le_of_lt (zy h5), acc'.toList, c', XT hit, by simpa using hS⟩, rfl, q _ I.fresh⟩
end
end L2
namespace L2
open PySem PySem.Spec PyProof.Rows
section
variable {X : Cx} {tg : Expr}
end
end L2
namespace L2
open PySem PySem.Spec PyProof.Rows
section
variable {X : Cx} {tg : Expr}
def Its (x : Str) : It := ⟨λ i _ => i < x.cps.size, λ i H v H' => H' = H /\ ∃ c, x.cps[i]? = some c /\ v = .str ⟨#[c]⟩, λ i _ => i = x.cps.size⟩
theorem zap {P : Program} {w : World} {K : PySem.W.Frag} {tg : Expr} (it : Addr) (x : Str) (t : Tok) (nm : String) (hn : nm = "str_ascii_iterator" \/ nm = "str_iterator")
  (W : ∀ A : Around, A.handled = none -> Walks P w A it [it] [it] x.cps.size (SignAt x) (λ i h => h.IsStrIter it nm x t i))
  (hself : ∀ (A : Around) (i : Nat) (s : Shared) (Q : Value -> Shared -> Prop) (E : Value -> Shared -> Prop), s.heap.IsStrIter it nm x t i -> Q (.ref it) s -> wpAny (model P w) A (pyIter (.ref it)) Q E s) : Turn P w K tg (Its x) [it] it (λ i h => h.IsStrIter it nm x t i) where
 mem := by simp
 obj := λ i h st b hb => by
  have e : b = it := by simpa using hb
  subst e;obtain ⟨o, e, c, d⟩ := st;exact ⟨o, e, λ v z => by rw [d] at z;cases z⟩
 keep := λ i h h' st k => let ⟨o, e, r⟩ := st;⟨o, k it (by simp) o e, r⟩
 item := by
  intro X hP hw hK hc i pins s σ H E I hf st hg;subst hP hw hK;obtain ⟨f0, f1, f2, f3, f4, f5⟩ := hf it (by simp);refine (W X.A (I.ok.hd hc)).item i s _ _ hg st λ v h' tk hv st' kk => ?_;obtain ⟨c, u, hcx, rfl⟩ := hv;have I1 : Inv X pins σ H { s with heap := h', toks := tk } := I.turned (λ b o hb e => kk b o (by simpa using hb) e) f0 f1 f3 f4 f5;obtain ⟨o, e, c1, d⟩ := id st';refine ⟨_, rfl, Vl (s := { s with heap := h', toks := tk }) e c1 d (by rcases hn with rfl|rfl <;> decide) ⟨.str ⟨#[c]⟩, H, I1, ⟨_, rfl⟩, ⟨rfl, c, hcx, rfl⟩, st', λ b hb => (hf b hb).1⟩⟩
 done := by
  intro X hP hw hK hc i pins s σ H E I hf st hg;subst hP hw hK;have hg : i = x.cps.size := hg;subst hg;obtain ⟨f0, f1, f2, f3, f4, f5⟩ := hf it (by simp);exact (W X.A (I.ok.hd hc)).done s _ _ st λ h' tk kk => ⟨rfl, I.turned (λ b o hb e => kk b o (by simpa using hb) e) f0 f1 f3 f4 f5⟩
 self := hself
def iStr (tl : TE) : TI := λ σ H R => tl σ H λ v H1 => ∃ x, v = .str x /\ R (Its x) H1
theorem zcU {l : Expr} {tl : TE} (hl : PE X l tl) : PI X tg l (iStr tl) := by
 intro pins s σ H R I h;refine qQ (hl pins s σ H _ I h) λ v s1 y H1 I1 r1 q1 => ?_;obtain ⟨x, e, q⟩ := q1;subst e;obtain ⟨t, rfl⟩ := r1;have fin : ∀ nm, nm = "str_ascii_iterator" \/ nm = "str_iterator" -> (∀ A : Around, A.handled = none -> Walks X.prog X.w A s1.heap.objs.size [s1.heap.objs.size] [s1.heap.objs.size] x.cps.size (SignAt x) (λ i h => h.IsStrIter s1.heap.objs.size nm x t i)) ->
   (∀ (A : Around) (i : Nat) (s : Shared) (Q : Value -> Shared -> Prop) (E : Value -> Shared -> Prop), s.heap.IsStrIter s1.heap.objs.size nm x t i -> Q (.ref s1.heap.objs.size) s -> wpAny (model X.prog X.w) A (pyIter (.ref s1.heap.objs.size)) Q E s) ->
   PIE X pins σ tg R (.ref s1.heap.objs.size) { s1 with heap := s1.heap.push { cls := .type nm, data := .fields #[.str x t, .int 0 0] } } := by
  intro nm hn W hs;refine ⟨s1.heap.objs.size, [s1.heap.objs.size], _, _, H1, rfl, I1.kept (t' := s1.toks) λ b o e => Heap.get?_push_of_some _ e, zap _ x t nm hn W hs, ⟨_, Heap.get?_push_size _ rfl, rfl, rfl⟩, λ b hb => ?_, q⟩;have e : b = s1.heap.objs.size := by simpa using hb
  subst e;exact I1.fpOk (Nat.le_refl _) (I1.hok.fresh (Nat.le_refl _))
 cases ha : x.cps.all (· < 128)
 ·exact wpAny_pyIter_wide ha (fin _ (.inr rfl) (λ A hA => Walks.strWide hA _ x t) λ _ _ _ _ _ st h => wpAny_pyIter_striter_wide st h)
 ·exact wpAny_pyIter_ascii ha (fin _ (.inl rfl) (λ A hA => Walks.strAscii hA _ x t) λ _ _ _ _ _ st h => wpAny_pyIter_striter_ascii st h)
theorem zdN {σ : St} {H : Hp} {x : Str} {DN : St -> Hp -> Prop} {B : (St -> Hp -> Prop) -> V -> St -> Hp -> Prop} (Pv : Nat -> St -> Hp -> Prop) (h0 : Pv 0 σ H)
  (hs : ∀ i c σ H, x.cps[i]? = some c -> Pv i σ H -> B (Pv (i + 1)) (.str ⟨#[c]⟩) σ H) (hd : ∀ σ H, Pv x.cps.size σ H -> DN σ H) :
  ∃ W : Nat -> Nat -> St -> Hp -> Prop, (∃ m, W 0 m σ H) /\ ∀ i m σ H, W i m σ H ->
   ((Its x).stop i H /\ DN σ H) \/ ((Its x).go i H /\ ∃ N : St -> Hp -> Prop, (∀ σ' H', N σ' H' -> ∃ m', m' < m /\ W (i + 1) m' σ' H') /\ ∀ v H', (Its x).yld i H v H' -> B N v σ H') := by
 refine ⟨λ i m σ H => m = x.cps.size - i /\ i <= x.cps.size /\ Pv i σ H, ⟨x.cps.size, by simp, Nat.zero_le _, h0⟩, ?_⟩;rintro i m σ H ⟨rfl, hi, p⟩;by_cases hlt : i < x.cps.size
 ·refine .inr ⟨hlt, Pv (i + 1), λ σ' H' p' => ⟨x.cps.size - (i + 1), by lia, rfl, hlt, p'⟩, λ v H' y => ?_⟩;obtain ⟨e, c, hc, y⟩ := y;subst e y;exact hs i c σ _ hc p
 ·have e : i = x.cps.size := by lia
  subst e;exact .inl ⟨rfl, hd σ H p⟩
theorem zc4 : OpR X (compareOp .In) (λ x y H Q => ∃ i j, x = .str i /\ y = .str j /\ Q (.bl (!(Builtin.Str.occurrences j i 0 j.length 1).isEmpty)) H) := V1
theorem zch : CallR X (.type "int") (λ xs H Q => ∃ x n, xs = [.str x] /\ PySem.intText? x = some n /\ x.length <= 640 /\ Q (.int n) H) := by
 intro pins s σ H xs us Q I r h;obtain ⟨x, n, rfl, hn, hl, q⟩ := h;obtain ⟨u, rfl, rx⟩ := vv r;obtain ⟨t, rfl⟩ := rx;exact PySem.W.KIN.call_text hn hl ⟨.int n, H, I.tok _, ⟨_, rfl⟩, q⟩
theorem zdp (hc : X.calm = true) : CallR X (.builtin "all") (λ xs H Q => ∃ p, ∃ bs : List Bool, xs = [.ref p] /\ H p = some (.lst (bs.map V.bl)) /\ Q (.bl (bs.all id)) H) := by
 intro pins s σ H xs us Q I r h;obtain ⟨p, bs, rfl, hp, q⟩ := h;obtain ⟨u, rfl, rx⟩ := vv r;cases rx;obtain ⟨its, rv, hl, hz⟩ := I.list (SqL.of (K := X.K) hp);have hl' := hl.isList;have hlt : p < s.heap.objs.size := by obtain ⟨_, e, _⟩ := hl';exact Heap.lt_size e
 have hlen : its.length = bs.length := by have := rv.length;rw [length_map] at this;exact this.symm
 refine call_all_walk (wpAny_pyIter_list hl' ?_);refine ⟨s.heap.objs.size, [s.heap.objs.size, p], [s.heap.objs.size], its.toArray.size, _, _, λ i => (bs[i]?).getD true, rfl, Walks.list (A := X.A.in1) (I.ok.hd hc) _ p (Nat.ne_of_lt hlt) its.toArray,
  ⟨⟨_, Heap.get?_push_size _ rfl, rfl, rfl⟩, hl'.push _⟩, λ i v s' Q' E' hP hQ => ?_, λ h' tk hk => ?_⟩
 ·have hP : its[i]? = some v := by simpa using hP
  have hib : i < bs.length := by rw [<- hlen];exact (List.getElem?_eq_some_iff.mp hP).1
  obtain ⟨u, hu, ru⟩ := rv.get (i := i) (x := .bl bs[i]) (by rw [getElem?_map, getElem?_eq_getElem hib];rfl);rw [hu] at hP;cases hP;cases ru;have e : (bs[i]?).getD true = bs[i] := by rw [getElem?_eq_getElem hib];rfl
  simp only [e] at hQ;exact wpAny_truthy_bool hQ
 ·have e : ((List.range its.toArray.size).all λ i => (bs[i]?).getD true) = bs.all id := by
   rw [size_toArray, hlen];cases hb : bs.all id with
   | true =>
    rw [List.all_eq_true] at hb ⊢;intro i hi;have hi := List.mem_range.mp hi;rw [getElem?_eq_getElem hi];exact hb _ (getElem_mem hi)
   | false =>
    rw [List.all_eq_false] at hb ⊢;obtain ⟨b, hbm, hbf⟩ := hb;obtain ⟨i, hi, rfl⟩ := List.getElem_of_mem hbm;exact ⟨i, List.mem_range.mpr hi, by rw [getElem?_eq_getElem hi];exact hbf⟩
  rw [e];refine ⟨.bl (bs.all id), H, I.kept (t' := tk) (λ b o eb => hk b o (λ hm => ?_) (Heap.get?_push_of_some _ eb)), rfl, q⟩;rw [List.mem_singleton.mp hm] at eb;exact Nat.lt_irrefl _ (Heap.lt_size eb)
end
def jJ (c : Nat) : Bool := decide (48 <= c) && decide (c <= 57)
theorem ZX : (("0123456789" : Str)).length = 10 := by decide +kernel
theorem zb3 (c : Nat) : Builtin.Str.occurrences ("0123456789" : Str) ⟨#[c]⟩ 0 10 1 = if jJ c = true then [c - 48] else [] := by
 by_cases h : jJ c = true
 ·rw [if_pos h];have h1 : 48 <= c /\ c <= 57 := by simpa [jJ] using h
  have h2 : c = 48 \/ c = 49 \/ c = 50 \/ c = 51 \/ c = 52 \/ c = 53 \/ c = 54 \/ c = 55 \/ c = 56 \/ c = 57 := by lia
  rcases h2 with rfl|rfl|rfl|rfl|rfl|rfl|rfl|rfl|rfl|rfl <;> decide +kernel
 ·rw [if_neg h];have h1 : ¬ (48 <= c /\ c <= 57) := by simpa [jJ] using h
  have := PySem.W.occ_nil_of_no (x := ("0123456789" : Str)) (y := ⟨#[c]⟩) 1 (λ i hi => ?_)
  ·rw [ZX] at this;exact this
  ·have hi : i + 1 <= 10 := by rw [ZX] at hi;exact hi
   have h3 : i = 0 \/ i = 1 \/ i = 2 \/ i = 3 \/ i = 4 \/ i = 5 \/ i = 6 \/ i = 7 \/ i = 8 \/ i = 9 := by lia
   have key : ∀ d : Nat, 48 <= d /\ d <= 57 -> ((#[d] : Array Nat) == #[c]) = false := λ d hd => by
    rw [beq_eq_false_iff_ne];intro z;have : d = c := by simpa using z
    lia
   rcases h3 with rfl|rfl|rfl|rfl|rfl|rfl|rfl|rfl|rfl|rfl <;> exact key _ (by decide)
end L2
namespace L2
open PySem PySem.Spec PySem.Calls PyProof.Rows
theorem wq : ∀ {us : List Value} {ns : List Int}, IntsAre us ns -> Vals (ns.map V.int) us
 | _, _, .nil => .nil
 | _, _, .cons n t h => .cons ⟨t, rfl⟩ (wq h)
section
variable {X : Cx}
theorem zak : CallR X (.builtin "sorted") (λ xs H Q => ∃ p, ∃ ns : List Int, xs = [.ref p] /\ SqL X.K H p (ns.map V.int) /\ ns.length < 64 /\
  ∀ (ms : List Int) l, ms.Perm ns -> ms.Pairwise (· <= ·) -> H l = none -> Q (.ref l) (upd H l (.lst (ms.map V.int)))) := by
 intro pins s σ H xs us Q I r h;obtain ⟨p, ns, rfl, hp, h64, q⟩ := h;obtain ⟨u, rfl, rx⟩ := vv r;cases rx;obtain ⟨its, rv, hl, hz⟩ := I.list hp;have hlen : its.length = ns.length := by have := rv.length;rw [length_map] at this;exact this.symm
 refine sorted_ints hl.isList (Ws rv) (by lia) λ out ms a1 a2 a3 => ?_;obtain ⟨e, he⟩ := sortedAll_at s.heap its out;exact ⟨.ref _, _, I.laid (a := s.heap.objs.size + 1) (o := .lst (ms.map V.int)) (t' := s.toks) (λ b o h => sortedAll_old h) (Nat.le_succ _) ⟨by rw [length_map, a2.length_eq];exact Nat.le_of_lt (zy (by lia)), out.toList, e, wq a1, by simpa using he⟩, rfl, q ms _ a2 a3 (I.hok.fresh (Nat.le_succ _))⟩
end
structure FunD (K : PySem.W.Frag) (x qual : Str) (st : Stmt) (f : Addr) (fd : FuncData) : Prop where
 ex : ∃ (oc : Value) (od : Option Addr) (dV kV doc pm : Value) (an : Option Addr) (cdv ct : Value) (osl : Array (Option Value)),
  fd = fnOf x qual (qr st) (qe st) (zk st) dV kV doc pm an cdv ct /\ K.lookup f = some ⟨oc, od, .func fd, osl⟩ /\ codeIn K cdv qual = true
 kp : keepIn K (.ref f) = true
section
variable {P : Program} {w : World} {K : PySem.W.Frag} {mg : Str -> Option Value} {base : Heap}
theorem FunD.okx {x qual : Str} {st : Stmt} {f : Addr} {fd : FuncData} {N ps : List Str} {k : Nat} {sp : Sp} (F : FunD K x qual st f fd) (S : FnScope N ps (zk st)) (len : ∀ vs H Q E, sp vs H Q E -> vs.length = ps.length)
  (hbody : ∀ (cdv : Value) (A : Around) (outer : List Env) (s : Shared) (H : Hp) (vs : List V) (Q : VK) (E : XK), Room k (A.deeper (envOfC qual (zk st) s.heap.objs.size f cdv)) -> sp vs H Q E ->
   ∃ t, PSs ((cxR P w K mg base N qual (zk st) f cdv A outer s H E).exg λ cls _ H' => E cls none H') (qe st) t /\ t { nx := λ _ H' => Q .non H', rt := Q } (start N vs) H) : FnOk P w K mg base (CXr P w) (k + 1) f fd ps sp := by
 obtain ⟨oc, od, dV, kV, doc, pm, an, cdv, ct, osl, rfl, lk, hcd⟩ := F.ex;refine zbn lk hcd S len λ A outer s H vs Q E hr hsp => ?_;obtain ⟨t, h, q⟩ := hbody cdv A outer s H vs Q E hr hsp;refine ⟨t, λ pins s σ H' D I hw => ?_, q⟩;refine wpAny_mono (h pins s σ H' D (I.wish _) hw) (λ _ _ z => z.unwish) λ e s' z => ?_;refine wpAny_bind (wpAny_mono (show wpAny _ _ _ _ _ _ from z) (λ _ s1 y1 => wpAny_mono y1 (λ _ s'' y => ?_) λ _ _ y => y.elim) λ _ _ y => y.elim);obtain ⟨a, cls, σ2, H2, rfl, J, xx, g⟩ := y;exact ⟨a, cls, H2, rfl, J.os, J.bare, J.base, J.hok, xx.less (λ p hp => absurd hp (by simp)), g⟩
structure FD (K : PySem.W.Frag) (mg : Str -> Option Value) (x : Str) (st : Stmt) (ps : List Str) (dvs : List V) : Prop where
 ex : ∃ f fd ds, FunD K x x st f fd /\ mg x = some (.ref f) /\ Binds K fd ps [] /\ Binds K fd ps ds /\ Vals dvs ds
theorem FD.cal {x : Str} {st : Stmt} {ps : List Str} {dvs : List V} {k : Nat} {sp : Sp} (h : FD K mg x st ps dvs) (ok : ∀ {f fd}, FunD K x x st f fd -> FnOk P w K mg base (CXr P w) k f fd ps sp) :
  Cal P w K mg base x k ps [] sp := by
 obtain ⟨f, fd, _, F, m, b, _⟩ := h.ex;exact ⟨f, fd, [], ok F, m, F.kp, b, .nil⟩
end
end L2
namespace L2
open PySem PySem.Spec PySem.Calls PyProof.Rows
section
variable {prog : Program} {w : World} {A : Around} {E : Value -> Shared -> Prop} {s : Shared} {R : Result -> Shared -> Prop}
end
section
variable {X : Cx} {a : Expr} {ta : TA} {p p2 pos pos2 : Pos}
end
section
variable {X : Cx}
end
end L2
namespace L2
open PySem PySem.Spec PyProof.Rows
inductive D where
 | non|bl (b : Bool)|int (i : Int)|str (x : Str)|lst (xs : List D)|tup (xs : List D)|ob (C : Addr) (fs : List (Str × D))
inductive Rep (H : Hp) (p : Addr -> Prop) : V -> D -> Prop where
 | non : Rep H p .non .non
 | bl {b : Bool} : Rep H p (.bl b) (.bl b)
 | int {i : Int} : Rep H p (.int i) (.int i)
 | str {x : Str} : Rep H p (.str x) (.str x)
 | lst {l : Addr} {vs : List V} {ds : List D} : p l -> H l = some (.lst vs) -> vs.length = ds.length -> (∀ (i : Nat) v d, vs[i]? = some v -> ds[i]? = some d -> Rep H p v d) -> Rep H p (.ref l) (.lst ds)
 | tup {l : Addr} {vs : List V} {ds : List D} : p l -> H l = some (.tup vs) -> vs.length = ds.length -> (∀ (i : Nat) v d, vs[i]? = some v -> ds[i]? = some d -> Rep H p v d) -> Rep H p (.ref l) (.tup ds)
 | ob {l C dx : Addr} {fs : List (Str × V)} {ds : List (Str × D)} : p l -> H l = some (.ins C dx fs) -> fs.map (·.1) = ds.map (·.1) -> (∀ (i : Nat) f g, fs[i]? = some f -> ds[i]? = some g -> Rep H p f.2 g.2) -> Rep H p (.ref l) (.ob C ds)
theorem Rep.keep {H H' : Hp} {p q : Addr -> Prop} (s : ∀ b o, p b -> H b = some o -> q b /\ H' b = some o) {v : V} {d : D} (h : Rep H p v d) : Rep H' q v d := by
 induction h with
 | non => exact .non
 | bl => exact .bl
 | int => exact .int
 | str => exact .str
 | lst pl hl e _ ih => exact .lst (s _ _ pl hl).1 (s _ _ pl hl).2 e ih
 | tup pl hl e _ ih => exact .tup (s _ _ pl hl).1 (s _ _ pl hl).2 e ih
 | ob pl hl e _ ih => exact .ob (s _ _ pl hl).1 (s _ _ pl hl).2 e ih
structure Reps (H : Hp) (p : Addr -> Prop) (vs : List V) (ds : List D) : Prop where
 len : vs.length = ds.length
 g : ∀ (i : Nat) v d, vs[i]? = some v -> ds[i]? = some d -> Rep H p v d
section
variable {H H' : Hp} {p q : Addr -> Prop} {vs us : List V} {ds es : List D} {v : V} {d : D}
theorem Reps.keep (s : ∀ b o, p b -> H b = some o -> q b /\ H' b = some o) (h : Reps H p vs ds) : Reps H' q vs ds := ⟨h.len, λ i v d a b => (h.g i v d a b).keep s⟩
theorem Reps.nil : Reps H p [] [] := ⟨rfl, λ i v d h => by simp at h⟩
theorem Reps.cons (h : Rep H p v d) (k : Reps H p vs ds) : Reps H p (v :: vs) (d :: ds) := ⟨by simp [k.len], λ i u e a b => by
 cases i with
 | zero =>
  have a : v = u := by simpa using a
  have b : d = e := by simpa using b
  rw [<- a, <- b];exact h
 | succ i => exact k.g i u e (by simpa using a) (by simpa using b)⟩
theorem Reps.one (h : Rep H p v d) : Reps H p [v] [d] := .cons h .nil
theorem Reps.append (h : Reps H p vs ds) (k : Reps H p us es) : Reps H p (vs ++ us) (ds ++ es) := by
 refine ⟨by rw [length_append, length_append, h.len, k.len], λ i v r e1 e2 => ?_⟩;by_cases hi : i < vs.length
 ·rw [getElem?_append_left hi] at e1;rw [getElem?_append_left (by rw [<- h.len];exact hi)] at e2;exact h.g i v r e1 e2
 ·rw [getElem?_append_right (by lia)] at e1;rw [getElem?_append_right (by rw [<- h.len];lia), <- h.len] at e2;exact k.g _ v r e1 e2
theorem Reps.at (h : Reps H p vs ds) {i : Nat} (e : vs[i]? = some v) : ∃ d, ds[i]? = some d /\ Rep H p v d := by
 have hi := (List.getElem?_eq_some_iff.mp e).1;have e2 : ds[i]? = some (ds[i]'(by rw [<- h.len];exact hi)) := getElem?_eq_getElem _;exact ⟨_, e2, h.g i v _ e e2⟩
theorem Reps.of (h : Reps H p vs ds) {i : Nat} (e : ds[i]? = some d) : ∃ v, vs[i]? = some v /\ Rep H p v d := by
 have hi := (List.getElem?_eq_some_iff.mp e).1;have e2 : vs[i]? = some (vs[i]'(by rw [h.len];exact hi)) := getElem?_eq_getElem _;exact ⟨_, e2, h.g i _ d e2 e⟩
theorem Reps.take (h : Reps H p vs ds) (n : Nat) : Reps H p (vs.take n) (ds.take n) := ⟨by rw [length_take, length_take, h.len], λ i v d a b => by
 rw [List.getElem?_take] at a b;by_cases hn : i < n
 ·rw [if_pos hn] at a b;exact h.g i v d a b
 ·rw [if_neg hn] at a;cases a⟩
theorem Reps.drop (h : Reps H p vs ds) (n : Nat) : Reps H p (vs.drop n) (ds.drop n) := ⟨by rw [length_drop, length_drop, h.len], λ i v d a b => by
 rw [List.getElem?_drop] at a b;exact h.g _ v d a b⟩
theorem Reps.reverse (h : Reps H p vs ds) : Reps H p vs.reverse ds.reverse := ⟨by rw [length_reverse, length_reverse, h.len], λ i v d a b => by
 have hi : i < vs.length := by have := (List.getElem?_eq_some_iff.mp a).1;rw [length_reverse] at this;exact this
 rw [List.getElem?_reverse hi] at a;rw [List.getElem?_reverse (by rw [<- h.len];exact hi), <- h.len] at b;exact h.g _ v d a b⟩
theorem Reps.mk' {l : Addr} (h : Reps H p vs ds) (pl : p l) (e : H l = some (.lst vs)) : Rep H p (.ref l) (.lst ds) := .lst pl e h.len h.g
theorem Reps.mkT {l : Addr} (h : Reps H p vs ds) (pl : p l) (e : H l = some (.tup vs)) : Rep H p (.ref l) (.tup ds) := .tup pl e h.len h.g
theorem Rep.lst' (h : Rep H p v (.lst ds)) : ∃ l us, v = .ref l /\ p l /\ H l = some (.lst us) /\ Reps H p us ds := by
 cases h with|lst a b c e => exact ⟨_, _, rfl, a, b, c, e⟩
theorem Rep.tup' (h : Rep H p v (.tup ds)) : ∃ l us, v = .ref l /\ p l /\ H l = some (.tup us) /\ Reps H p us ds := by
 cases h with|tup a b c e => exact ⟨_, _, rfl, a, b, c, e⟩
theorem wc {f : Str} : ∀ {fs : List (Str × V)} {gs : List (Str × D)}, fs.map (·.1) = gs.map (·.1) -> (∀ (i : Nat) x y, fs[i]? = some x -> gs[i]? = some y -> Rep H p x.2 y.2) ->
  (∀ d, gs.lookup f = some d -> ∃ u, fs.lookup f = some u /\ Rep H p u d) /\ (gs.lookup f = none -> fs.lookup f = none)
 | [], [], _, _ => ⟨λ d h => by simp at h, λ _ => rfl⟩
 | [], _ :: _, e, _ => by simp at e
 | _ :: _, [], e, _ => by simp at e
 | (a, u) :: fs, (b, c) :: gs, e, r => by
  have e1 : a = b := by simpa using (List.cons.inj e).1
  subst e1;have ih := wc (f := f) (fs := fs) (gs := gs) (List.cons.inj e).2 λ i x y hx hy => r (i + 1) x y (by simpa using hx) (by simpa using hy);by_cases hf : f = a
  ·have hb : (f == a) = true := beq_iff_eq.mpr hf;refine ⟨λ d h => ?_, λ h => ?_⟩
   ·simp only [List.lookup, hb] at h ⊢;cases h;exact ⟨_, rfl, r 0 (a, u) (a, c) rfl rfl⟩
   ·simp only [List.lookup, hb] at h;cases h
  ·have hb : (f == a) = false := beq_eq_false_iff_ne.mpr hf;simp only [List.lookup, hb];exact ih
theorem Rep.ob' {C : Addr} {gs : List (Str × D)} (h : Rep H p v (.ob C gs)) : ∃ l dx fs, v = .ref l /\ p l /\ H l = some (.ins C dx fs) /\ (∀ f d, gs.lookup f = some d -> ∃ u, fs.lookup f = some u /\ Rep H p u d) /\ (∀ f, gs.lookup f = none -> fs.lookup f = none) := by
 cases h with|ob a b c e => exact ⟨_, _, _, rfl, a, b, λ f => (wc c e).1, λ f => (wc c e).2⟩
abbrev D.ints (ns : List Int) : D := .lst (ns.map D.int)
theorem reps_ints : ∀ {ns : List Int}, Reps H p (ns.map V.int) (ns.map D.int)
 | [] => .nil
 | _ :: _ => .cons .int reps_ints
theorem Vk : ∀ {ns : List Int} {vs : List V}, Reps H p vs (ns.map D.int) -> vs = ns.map V.int
 | [], [], _ => rfl
 | [], _ :: _, h => by have := h.len;simp at this
 | _ :: _, [], h => by have := h.len;simp at this
 | n :: ns, v :: vs, h => by
  have h1 := h.g 0 v (.int n) rfl rfl;have h2 : Reps H p vs (ns.map D.int) := ⟨by have := h.len;simpa using this, λ i u d a b => h.g (i + 1) u d (by simpa using a) (by simpa using b)⟩;cases h1;rw [map_cons, Vk h2]
theorem Rep.ints' {ns : List Int} (h : Rep H p v (.ints ns)) : ∃ l, v = .ref l /\ p l /\ H l = some (.lst (ns.map V.int)) := by
 obtain ⟨l, us, e, a, b, c⟩ := h.lst';rw [Vk c] at b;exact ⟨l, e, a, b⟩
theorem qd {l : Addr} {ns : List Int} (pl : p l) (e : H l = some (.lst (ns.map V.int))) : Rep H p (.ref l) (.ints ns) := reps_ints.mk' pl e
end
def Off (ms : List Addr) : Addr -> Prop := λ b => b ∉ ms
def Fr (ms : List Addr) (H H' : Hp) : Prop := ∀ b o, b ∉ ms -> H b = some o -> H' b = some o
section
variable {H H' H2 : Hp} {ms ns : List Addr} {x : Addr} {o : HO} {v : V} {d : D} {vs : List V} {ds : List D}
theorem Fr.refl : Fr ms H H := λ _ _ _ h => h
theorem Fr.trans (a : Fr ms H H') (b : Fr ms H' H2) : Fr ms H H2 := λ c o n h => b c o n (a c o n h)
theorem Fr.more (a : Fr ms H H') (s : ∀ b, b ∈ ms -> b ∈ ns) : Fr ns H H' := λ b o n h => a b o (λ z => n (s b z)) h
theorem Same.fr (a : Same H H') : Fr ms H H' := λ b o _ h => a b o h
theorem qV (h : x ∈ ms) : Fr ms H (upd H x o) := λ b u n hb => by
 rw [upd_ne (λ z => n (by rw [z];exact h))];exact hb
theorem Fr.same (a : Fr ms H H') (h : ∀ m ∈ ms, H m = none) : Same H H' := λ b o hb => a b o (λ z => by rw [h b z] at hb;cases hb) hb
theorem Rep.fr (h : Rep H (Off ms) v d) (s : Fr ms H H') : Rep H' (Off ms) v d := h.keep λ b o pb hb => ⟨pb, s b o pb hb⟩
theorem Reps.fr (h : Reps H (Off ms) vs ds) (s : Fr ms H H') : Reps H' (Off ms) vs ds := h.keep λ b o pb hb => ⟨pb, s b o pb hb⟩
theorem Rep.more (h : Rep H (Off ms) v d) (s : ∀ b, b ∈ ns -> b ∈ ms \/ H b = none) : Rep H (Off ns) v d := h.keep λ b o pb hb => ⟨λ z => (s b z).elim pb (λ q => by rw [q] at hb;cases hb), hb⟩
theorem Reps.more (h : Reps H (Off ms) vs ds) (s : ∀ b, b ∈ ns -> b ∈ ms \/ H b = none) : Reps H (Off ns) vs ds := h.keep λ b o pb hb => ⟨λ z => (s b z).elim pb (λ q => by rw [q] at hb;cases hb), hb⟩
theorem Rep.same (h : Rep H (Off ms) v d) (s : Same H H') : Rep H' (Off ms) v d := h.fr s.fr
theorem Reps.same (h : Reps H (Off ms) vs ds) (s : Same H H') : Reps H' (Off ms) vs ds := h.fr s.fr
theorem Rep.ahead (h : Rep H (Off []) v d) (s : Same H H') (n : ∀ m ∈ ms, H m = none) : Rep H' (Off ms) v d := h.keep λ b o _ hb => ⟨(λ z => nomatch (n b z).symm.trans hb), s b o hb⟩
theorem Reps.ahead (h : Reps H (Off []) vs ds) (s : Same H H') (n : ∀ m ∈ ms, H m = none) : Reps H' (Off ms) vs ds := h.keep λ b o _ hb => ⟨(λ z => nomatch (n b z).symm.trans hb), s b o hb⟩
theorem Rep.all {p : Addr -> Prop} (h : Rep H p v d) : Rep H (Off []) v d := h.keep λ b o _ hb => ⟨(λ z => nomatch z), hb⟩
theorem Reps.all {p : Addr -> Prop} (h : Reps H p vs ds) : Reps H (Off []) vs ds := h.keep λ b o _ hb => ⟨(λ z => nomatch z), hb⟩
end
theorem fd_small {i j : Int} (h1 : 0 < j) (h2 : j < 1000000) : CFd i j := fd_ok h1 (Nat.lt_of_lt_of_le (show j.natAbs < 2 ^ 20 by lia) (Nat.pow_le_pow_right (by decide) (by decide)))
theorem xz {α : Type} {xs : List α} {k : Int} (h0 : 0 <= k) (h1 : k < xs.length) : seqIndex? k xs.length = some k.toNat := by
 unfold seqIndex?;have : ¬ k < 0 := by lia
 simp [this, h0, h1]
theorem xp {K : PySem.W.Frag} {H H' : Hp} {l : Addr} {xs : List V} (s : Same H H') (h : SqL K H l xs) : SqL K H' l xs := s.seq h
theorem zdM {X : Cx} : OpR X (compareOp .In) (rIn X.K false) := V2
theorem zaY {X : Cx} : OpR X (compareOp .NotIn) (rIn X.K true) := Jo
def del (H : Hp) (x : Addr) : Hp := λ b => if b = x then none else H b
theorem jd {H : Hp} {x : Addr} : Same (del H x) H := λ b o h => by
 unfold del at h;by_cases e : b = x
 ·rw [if_pos e] at h;cases h
 ·rw [if_neg e] at h;exact h
theorem WD {H : Hp} {x b : Addr} (h : b ≠ x) : del H x b = H b := by unfold del;rw [if_neg h]
theorem ZY {H : Hp} {x y : Addr} {o : HO} (h : y ≠ x) : del (upd H y o) x = upd (del H x) y o := by
 funext b
 by_cases e : b = x
 ·subst e;rw [upd_ne (Ne.symm h)];unfold del;rw [if_pos rfl, if_pos rfl]
 ·rw [WD e];by_cases e2 : b = y
  ·subst e2;rw [upd_same, upd_same]
  ·rw [upd_ne e2, upd_ne e2, WD e]
theorem WC {H : Hp} {x : Addr} {o : HO} : del (upd H x o) x = del H x := by
 funext b
 unfold del;by_cases e : b = x
 ·rw [if_pos e, if_pos e]
 ·rw [if_neg e, if_neg e, upd_ne e]
theorem zcf {H : Hp} {x : Addr} {o : HO} (h : H x = none) : del (upd H x o) x = H := by
 funext b
 unfold del;by_cases e : b = x
 ·rw [if_pos e, e, h]
 ·rw [if_neg e, upd_ne e]
section
variable {K : PySem.W.Frag} {H : Hp} {Q : VK} {p : Addr -> Prop} {v : V} {d : D} {ds : List D} {f : Str}
theorem zbR {C : Addr} {gs : List (Str × D)} {R : V -> Prop} (h : Rep H p v (.ob C gs)) (c : Cls K C) (n : NoAttr K C f) (e : gs.lookup f = some d) (q : ∀ u, Rep H p u d -> R u) :
  ∃ a C dx fs u, v = .ref a /\ H a = some (.ins C dx fs) /\ Cls K C /\ NoAttr K C f /\ fs.lookup f = some u /\ R u := by
 obtain ⟨l, dx, fs, rfl, _, a, b, _⟩ := h.ob';obtain ⟨u, e1, r⟩ := b f d e;exact ⟨l, C, dx, fs, u, rfl, a, c, n, e1, q u r⟩
theorem zcB {vs : List V} {i : Int} (h : Reps H p vs ds) (e : atI ds i = some d) : ∃ u, atI vs i = some u /\ Rep H p u d := by
 unfold atI at e ⊢;rw [h.len];cases z : ixN ds.length i with
 | none => rw [z] at e;cases e
 | some j => rw [z] at e;exact h.of (i := j) e
theorem zbQ {i : Int} (h : Rep H p v (.lst ds)) (e : atI ds i = some d) (q : ∀ u, Rep H p u d -> Q u H) : rIx K v (.int i) H Q := by
 obtain ⟨l, us, rfl, _, a, b⟩ := h.lst';obtain ⟨u, e1, r⟩ := zcB b e;exact .inl ⟨l, us, i, u, rfl, rfl, SqL.of a, e1, q u r⟩
theorem vV {i : Int} (h : Rep H p v (.tup ds)) (e : atI ds i = some d) (q : ∀ u, Rep H p u d -> Q u H) : rIx K v (.int i) H Q := by
 obtain ⟨l, us, rfl, _, a, b⟩ := h.tup';obtain ⟨u, e1, r⟩ := zcB b e;exact .inr (.inl ⟨l, us, i, u, rfl, rfl, SqT.of a, e1, q u r⟩)
end
end L2
namespace L2
open PySem PySem.Spec PyProof.Rows
section
variable {X : Cx}
end
theorem za1 {as : List Addr} (nd : as.Nodup) {i j : Nat} {b : Addr} (h1 : as[i]? = some b) (h2 : as[j]? = some b) : i = j := by
 obtain ⟨hi, e1⟩ := List.getElem?_eq_some_iff.mp h1;obtain ⟨hj, e2⟩ := List.getElem?_eq_some_iff.mp h2;have P := List.pairwise_iff_getElem.mp nd;rcases Nat.lt_trichotomy i j with h|h|h
 ·exact absurd (e1.trans e2.symm) (P i j hi hj h)
 ·exact h
 ·exact absurd (e2.trans e1.symm) (P j i hj hi h)
structure NL (H : Hp) (p : Addr -> Prop) (G : Addr) (as : List Addr) (xss : List (List D)) : Prop where
 out : H G = some (.lst (as.map V.ref))
 len : as.length = xss.length
 nd : as.Nodup
 nG : G ∉ as
 g : ∀ (i : Nat) b xs, as[i]? = some b -> xss[i]? = some xs -> ∃ vs, H b = some (.lst vs) /\ Reps H p vs xs
section
variable {H H' : Hp} {p q : Addr -> Prop} {G : Addr} {as : List Addr} {xss : List (List D)}
theorem NL.keep (h : NL H p G as xss) (s : ∀ b o, (b = G \/ b ∈ as \/ p b) -> H b = some o -> H' b = some o) (sp : ∀ b, p b -> H b ≠ none -> q b) : NL H' q G as xss := by
 refine ⟨s _ _ (.inl rfl) h.out, h.len, h.nd, h.nG, λ i b xs e1 e2 => ?_⟩;obtain ⟨vs, h1, h2⟩ := h.g i b xs e1 e2;exact ⟨vs, s _ _ (.inr (.inl (mem_of_getElem? e1))) h1, h2.keep λ c o pc hc => ⟨sp c pc (by rw [hc];intro z;cases z), s c o (.inr (.inr pc)) hc⟩⟩
theorem NL.same (h : NL H p G as xss) (s : Same H H') : NL H' p G as xss := h.keep (λ b o _ hb => s b o hb) λ _ hp _ => hp
theorem NL.at (h : NL H p G as xss) {i : Nat} {xs : List D} (e : xss[i]? = some xs) : ∃ b vs, as[i]? = some b /\ H b = some (.lst vs) /\ Reps H p vs xs := by
 have hi := (List.getElem?_eq_some_iff.mp e).1;have e2 : as[i]? = some (as[i]'(by rw [h.len];exact hi)) := getElem?_eq_getElem _;obtain ⟨vs, h1, h2⟩ := h.g i _ xs e2 e;exact ⟨_, vs, e2, h1, h2⟩
theorem NL.rep (h : NL H p G as xss) : Rep H (Off []) (.ref G) (.lst (xss.map D.lst)) := by
 refine .lst (λ z => nomatch z) h.out (by rw [length_map, length_map, h.len]) λ i v d e1 e2 => ?_;rw [getElem?_map, Option.map_eq_some_iff] at e1 e2;obtain ⟨b, e1, rfl⟩ := e1;obtain ⟨xs, e2, rfl⟩ := e2;obtain ⟨vs, h1, h2⟩ := h.g i b xs e1 e2;exact h2.all.mk' (λ z => nomatch z) h1
theorem NL.put {i : Nat} {b : Addr} {vs : List V} {ys : List D} (h : NL H p G as xss) (e : as[i]? = some b) (np : ¬ p b) (r : Reps H p vs ys) : NL (upd H b (.lst vs)) p G as (xss.set i ys) := by
 have hb := mem_of_getElem? e;have nG : G ≠ b := λ z => h.nG (by rw [z];exact hb);have rk : ∀ {us : List V} {zs : List D}, Reps H p us zs -> Reps (upd H b (.lst vs)) p us zs := λ r => r.keep λ c o pc hc => ⟨pc, by rw [upd_ne (λ z => np (by rw [<- z];exact pc))];exact hc⟩;refine ⟨by rw [upd_ne nG];exact h.out, by rw [length_set, h.len], h.nd, h.nG, λ j c xs e1 e2 => ?_⟩;by_cases hj : j = i
 ·subst hj;rw [e] at e1;cases e1;have hl : j < xss.length := by rw [<- h.len];exact (List.getElem?_eq_some_iff.mp e).1
  rw [getElem?_set_self hl] at e2;cases e2;exact ⟨vs, upd_same, rk r⟩
 ·rw [getElem?_set_ne (Ne.symm hj)] at e2;have nc : c ≠ b := λ z => by
   subst z;exact hj (za1 h.nd e1 e)
  obtain ⟨us, h1, h2⟩ := h.g j c xs e1 e2;exact ⟨us, by rw [upd_ne nc];exact h1, rk h2⟩
theorem NL.push {b : Addr} {vs : List V} {ys : List D} (h : NL H p G as xss) (hb : H b = some (.lst vs)) (nb : b ∉ as) (nG : b ≠ G) (np : ¬ p G) (r : Reps H p vs ys) : NL (upd H G (.lst (as.map V.ref ++ [.ref b]))) p G (as ++ [b]) (xss ++ [ys]) := by
 have rk : ∀ {us : List V} {zs : List D}, Reps H p us zs -> Reps (upd H G (.lst (as.map V.ref ++ [.ref b]))) p us zs := λ r => r.keep λ c o pc hc => ⟨pc, by rw [upd_ne (λ z => np (by rw [<- z];exact pc))];exact hc⟩;refine ⟨by rw [upd_same, map_append];rfl, by simp [h.len], ?_, ?_, λ j c xs e1 e2 => ?_⟩
 ·rw [List.nodup_append];refine ⟨h.nd, by simp, ?_⟩;intro x hx y hy z;rw [List.mem_singleton.mp hy] at z;exact nb (by rw [<- z];exact hx)
 ·intro z;rcases List.mem_append.mp z with z|z
  ·exact h.nG z
  ·exact nG (List.mem_singleton.mp z).symm
 ·by_cases hj : j < as.length
  ·rw [getElem?_append_left hj] at e1;rw [getElem?_append_left (by rw [<- h.len];exact hj)] at e2;obtain ⟨us, h1, h2⟩ := h.g j c xs e1 e2;have nc : c ≠ G := λ z => h.nG (by rw [<- z];exact mem_of_getElem? e1);exact ⟨us, by rw [upd_ne nc];exact h1, rk h2⟩
  ·rw [getElem?_append_right (by lia)] at e1;rw [getElem?_append_right (by rw [<- h.len];lia), <- h.len] at e2;have hj0 : j - as.length = 0 := by have := (List.getElem?_eq_some_iff.mp e1).1;simp at this;lia
   rw [hj0] at e1 e2;have e1 : b = c := by simpa using e1
   have e2 : ys = xs := by simpa using e2
   subst e1 e2;exact ⟨vs, by rw [upd_ne nG];exact hb, rk r⟩
end
def zdr (H : Hp) : Addr -> Prop := λ b => ∃ xs, H b = some (.tup xs)
theorem NL.tup {H H' : Hp} {G : Addr} {as : List Addr} {xss : List (List D)} (h : NL H (zdr H) G as xss) (s : ∀ b o, (b = G \/ b ∈ as \/ zdr H b) -> H b = some o -> H' b = some o) : NL H' (zdr H') G as xss :=
 h.keep s λ b hb _ => by
  obtain ⟨xs, hx⟩ := hb;exact ⟨xs, s b _ (.inr (.inr ⟨xs, hx⟩)) hx⟩
theorem uc {P : Program} {w : World} {K : PySem.W.Frag} {mg : Str -> Option Value} {base : Heap} {x : Str} {k : Nat} {G : List V -> Sp -> Prop} {ps : List Str} {dvs : List V} {sp : Sp} (c : Cal P w K mg base x k ps dvs sp) (h : G dvs sp) : ∃ ps dvs sp, Cal P w K mg base x k ps dvs sp /\ G dvs sp := ⟨ps, dvs, sp, c, h⟩
theorem un2 {K : PySem.W.Frag} {H : Hp} {t : Addr} {x y : V} {G : V -> V -> Prop} (h : H t = some (.tup [x, y])) (q : G x y) : ∃ a xs, V.ref t = .ref a /\ SqT K H a xs /\ xs.length = 2 /\ ∃ v r, xs = v :: r /\ ∃ v' r', r = v' :: r' /\ r' = [] /\ G v v' := ⟨t, _, rfl, SqT.of h, rfl, x, _, rfl, y, _, rfl, rfl, q⟩
theorem ra {K : PySem.W.Frag} {H : Hp} {a C dx : Addr} {fs : List (Str × V)} {v : V} {f : Str} {G : V -> Prop} (h : H a = some (.ins C dx fs)) (c : Cls K C) (n : NoAttr K C f) (e : fs.lookup f = some v) (q : G v) : ∃ a' C dx fs v, V.ref a = .ref a' /\ H a' = some (.ins C dx fs) /\ Cls K C /\ NoAttr K C f /\ fs.lookup f = some v /\ G v := ⟨a, C, dx, fs, v, rfl, h, c, n, e, q⟩
end L2
namespace L2
open PySem PySem.Spec PyProof.Rows
section
variable {prog : Program} {w : World} {A : Around} {E : Value -> Shared -> Prop} {s : Shared}
abbrev lit (l : Addr) : Obj := { cls := .type (zbf true), data := .fields #[.ref l, .int 0 0] }
end
section
variable {prog : Program} {w : World} {A : Around} {E : Value -> Shared -> Prop} {s : Shared}
end
end L2
namespace L2
open PySem PySem.Spec PyProof.Rows
section
variable {X : Cx} {pos pos' : Pos} {x : Str}
theorem zI (i : Nat) {e : Expr} {te : TE} (hN : X.N.Nodup) (he : PE X e te) (hi : X.N[i]? = some x := by rfl) (hx : Loc X.env.scope x := by exact Or.inl rfl) (hs : swapsWith e (some (.Name x pos')) pos.line X.env = pure false := by rfl)
  (hf : Or (X.fn x = true) (X.env.scope.names.lookup x = some .local) := by walk_at "p") : PS X (.Assign [.Name x pos'] e pos) (tAsg te (gName i)) := X6 hN hi hx he hs hf
theorem qI (i : Nat) (hN : X.N.Nodup) (hi : X.N[i]? = some x := by rfl) (hx : Loc X.env.scope x := by exact Or.inl rfl) (hf : Or (X.fn x = true) (X.env.scope.names.lookup x = some .local) := by walk_at "p") : PG X (.Name x pos) (gName i) := zbX hN hi hx hf
theorem zX {a b : Expr} {ta tb : TE} (ha : PE X a ta) (hb : PE X b tb) (hs : VC b := by intro _ _;rfl) : PE X (.Subscript a b pos) (tOp (rIx X.K) ta tb) := zdH zdg ha hb hs
end
end L2
namespace L2
open PySem PySem.Spec PyProof.Rows
section
variable {X : Cx}
theorem WN : ∀ {ys : List Str} {us : List Value}, Vals (ys.map V.str) us -> StrsAre us ys
 | [], _, h => by cases h;exact .nil
 | y :: ys, _, h => by
  cases h with
  | cons r rr =>
   obtain ⟨t, rfl⟩ := r;exact .cons y t (WN rr)
def zcs : V -> List V -> Hp -> VK -> Prop := λ x vs H Q => ∃ sep l ys, x = .str sep /\ vs = [.ref l] /\ H l = some (.lst (ys.map V.str)) /\ (ys.map (·.length)).sum + ys.length * sep.length <= 16777216 /\ Q (.str (Str.join sep ys)) H
theorem jo : MtM X "str.join" zcs := by
 intro pins s σ H x vs v us Q I rx rv h;obtain ⟨sep, l, ys, rfl, rfl, hH, hz, q⟩ := h;obtain ⟨t, rfl⟩ := rx;obtain ⟨u, rfl, ru⟩ := rv.one;cases ru;obtain ⟨its, r, hl, _⟩ := I.list (SqL.of hH);have e : Txt.join sep ys = Str.join sep ys := StrLaws.glued_eq_join sep ys;exact join_list hl.isList (by simpa using WN r) hz λ t' k => ⟨.str _, H, I.tok _, ⟨_, rfl⟩, by rw [e];exact q⟩
theorem wu (x y z : Str) : x ++ y ++ z = x ++ (y ++ z) := congrArg Str.mk (Array.append_assoc ..)
theorem XW (x : Str) : x ++ ("" : Str) = x := congrArg Str.mk (Array.append_empty ..)
theorem ZS : ∀ (xs : List Str) (n : Str), Str.join " " (n :: xs) = n ++ Str.join "" (xs.map λ x => " " ++ x)
 | [], n => (XW n).symm
 | x :: r, n => by
  have ih := ZS r x;show n ++ " " ++ Str.join " " (x :: r) = _
  rw [ih];cases r with
  | nil =>
   show n ++ " " ++ (x ++ ("" : Str)) = n ++ (" " ++ x)
   rw [XW, wu]
  | cons y r =>
   show n ++ " " ++ (x ++ Str.join "" ((y :: r).map λ x => " " ++ x)) = n ++ (" " ++ x ++ "" ++ Str.join "" ((y :: r).map λ x => " " ++ x))
   rw [XW, wu, wu]
end
end L2
namespace L2
open PySem PySem.Spec PyProof.Rows
section
variable {X : Cx} {G : GK} {x y : Str} {np mp pos hpos gpos : Pos} {body su sv : List Stmt} {b₀ c₀ : Stmt} {tb : List (Addr × Obj) -> GK -> TS} {th ti : List (Addr × Obj) -> Addr -> TS}
def tTry2 (X : Cx) (x y : Str) (tb : List (Addr × Obj) -> GK -> TS) (th ti : List (Addr × Obj) -> Addr -> TS) : TS := λ D σ H => ∃ Dc Ec, X.mg x = some (.ref Dc) /\ subIn X.K (.ref Dc) (.type "BaseException") = some true /\ X.mg y = some (.ref Ec) /\ subIn X.K (.ref Ec) (.type "BaseException") = some true /\
 ∀ pn, tb pn (λ cls σ' H' => ∃ C, QR cls = some C /\ ((kitCls X.K (.ref C) (.ref Dc) = some true /\ ∀ a, H' a = none -> th pn a D σ' H') \/ (kitCls X.K (.ref C) (.ref Dc) = some false /\ kitCls X.K (.ref C) (.ref Ec) = some true /\ ∀ a, H' a = none -> ti pn a D σ' H'))) D σ H
theorem zbV (B : Bod X) (hc : X.calm = true)
  (hb : ∀ pn G', PSs ((X.pinned pn).exg G') body (tb pn G')) (hs : ∀ pn a, PSs (X.suite pn a) (b₀ :: su) (th pn a)) (ht : ∀ pn a, PSs (X.suite pn a) (c₀ :: sv) (ti pn a)) (hg : Gl X x := by rfl) (hg2 : Gl X y := by rfl) (hdb : (x == ("__debug__" : Str)) = false := by decide) (hdb2 : (y == ("__debug__" : Str)) = false := by decide) :
  PS (X.exg G) (.Try body [.ExceptHandler (some (.Name x np)) none (b₀ :: su) hpos, .ExceptHandler (some (.Name y mp)) none (c₀ :: sv) gpos] [] [] pos) (tTry2 X x y tb th ti) := by
 intro pins s σ H D I h;obtain ⟨Dc, Ec, hm, hsub, hm2, hsub2, h⟩ := h;have I1 := I.unwish.topn;refine wpAny_Try_except (wpAny_mono (hb (X.pn ++ pins) _ [] s σ H D (I1.wish _) (h (X.pn ++ pins))) (λ f s1 q => ?_) λ e s1 q => ?_)
 ·cases f with
  | next =>
   obtain ⟨σ', H', J, q⟩ := q;exact wpAny_execs_nil ⟨σ', H', J.unwish.ofpn.wish _, q⟩
  | brk => obtain ⟨σ', H', J, q⟩ := q;exact ⟨σ', H', J.unwish.ofpn.wish _, q⟩
  | cont => obtain ⟨σ', H', J, q⟩ := q;exact ⟨σ', H', J.unwish.ofpn.wish _, q⟩
  | ret u => obtain ⟨v, σ', H', J, r, q⟩ := q;exact ⟨v, σ', H', J.unwish.ofpn.wish _, r, q⟩
 ·refine wpAny_mono (show wpAny _ _ _ _ _ _ from q) (λ _ s2 q2 => wpAny_mono q2 (λ _ s3 q3 => ?_) λ _ _ z => z.elim) λ _ _ z => z.elim;obtain ⟨a, cls, σ', H', rfl, J, xx, C, hcl, hth⟩ := q3;have J2 : Inv (X.suite (X.pn ++ pins) a) [] σ' H' s3 := J.tosuite;obtain ⟨oe, vs, he, hcls, _⟩ := xx.obj;have hcls := hcls.of hcl;rcases hth with ⟨hk, hth⟩|⟨hk, hk2, hth⟩
  ·refine wpAny_handleBy_cons (codeAny_handlers_test (qJ J2 hg hm (jL J2.kIn he hcls hk hsub ?_) hdb)) (by intro z;cases z);refine codeAny_handlers_suite ?_;refine wj J2 (xx.less λ p hp => by rwa [append_nil] at hp) λ s4 J4 x4 => ?_;refine wpAny_mono (hs (X.pn ++ pins) a [] s4 _ _ _ J4 (hth a xx.Ha)) (λ f s6 q6 => ?_) λ _ _ z => False.elim z;cases f with
   | next => obtain ⟨σ7, H7, J7, q7⟩ := q6;exact ⟨σ7, H7, (J7.ofsuite I.ok.hd).ofpn.wish _, q7⟩
   | brk => obtain ⟨σ7, H7, J7, q7⟩ := q6;exact ⟨σ7, H7, (J7.ofsuite I.ok.hd).ofpn.wish _, q7⟩
   | cont => obtain ⟨σ7, H7, J7, q7⟩ := q6;exact ⟨σ7, H7, (J7.ofsuite I.ok.hd).ofpn.wish _, q7⟩
   | ret u => obtain ⟨v, σ7, H7, J7, r7, q7⟩ := q6;exact ⟨v, σ7, H7, (J7.ofsuite I.ok.hd).ofpn.wish _, r7, q7⟩
  ·refine wpAny_handleBy_cons (codeAny_handlers_test (qJ J2 hg hm (jL J2.kIn he hcls hk hsub ?_) hdb)) (by intro z;cases z);refine wpAny_handleBy_cons (codeAny_handlers_test (qJ J2 hg2 hm2 (jL J2.kIn he hcls hk2 hsub2 ?_) hdb2)) (by intro z;cases z);refine codeAny_handlers_suite ?_;refine wj J2 (xx.less λ p hp => by rwa [append_nil] at hp) λ s4 J4 x4 => ?_;refine wpAny_mono (ht (X.pn ++ pins) a [] s4 _ _ _ J4 (hth a xx.Ha)) (λ f s6 q6 => ?_) λ _ _ z => False.elim z;cases f with
   | next => obtain ⟨σ7, H7, J7, q7⟩ := q6;exact ⟨σ7, H7, (J7.ofsuite I.ok.hd).ofpn.wish _, q7⟩
   | brk => obtain ⟨σ7, H7, J7, q7⟩ := q6;exact ⟨σ7, H7, (J7.ofsuite I.ok.hd).ofpn.wish _, q7⟩
   | cont => obtain ⟨σ7, H7, J7, q7⟩ := q6;exact ⟨σ7, H7, (J7.ofsuite I.ok.hd).ofpn.wish _, q7⟩
   | ret u => obtain ⟨v, σ7, H7, J7, r7, q7⟩ := q6;exact ⟨v, σ7, H7, (J7.ofsuite I.ok.hd).ofpn.wish _, r7, q7⟩
end
section
variable {X : Cx}
theorem WE {prog : Program} {w : World} {A : Around} {E : Value -> Shared -> Prop} {s : Shared} {Q : Value -> Shared -> Prop} {x y : Str} {t u : Tok} (hy : (y.length == 0) = false) (hx : x.length + 2 <= sizeLine)
  (hq : ∀ (l : List (Str × Tok)) (k : Nat), l.map (·.1) = Txt.split x y -> Q (.ref s.heap.objs.size) { s with toks := k, heap := s.heap.push { cls := .type "list", data := .seq (strValues l).toArray } }) :
  wpAny (model prog w) A (call (.builtin "str.split") [.str x t, .str y u]) Q E s := by
 cases h1 : (decide (x.length < y.length) || decide (Builtin.Str.strKind x < Builtin.Str.strKind y))
 ·cases hf : (Builtin.Str.occurrences x y 0 x.length (x.length + 1)).isEmpty
  ·have e : Txt.split x y = Builtin.Str.partsBetween x (Builtin.Str.occurrences x y 0 x.length (x.length + 1)) y.length := (if_neg (ne_true_of_eq_false h1)).trans (if_neg (ne_true_of_eq_false hf));have hl := split_le x y;rw [e] at hl;refine call_meets F.slot_str_split (typeIs_str _ _ _) F.entry_str_split (F.args_str_split_2 _ _) (meets_str_split_sep x y t u h1 hy hf (by lia) (by lia)) ?_;show wants Q E _ { s with toks := _, heap := s.heap.push { cls := .type "list", data := .seq (strsFrom s.toks (Builtin.Str.partsBetween x (Builtin.Str.occurrences x y 0 x.length (x.length + 1)) y.length)).toArray } }
   rw [strsFrom_eq];exact hq (numbered s.toks _) _ ((numbered_texts _ _).trans e.symm)
  ·exact call_meets F.slot_str_split (typeIs_str _ _ _) F.entry_str_split (F.args_str_split_2 _ _) (meets_str_split_not_found x y t u h1 hy hf)
    (hq [(x, t)] _ ((if_neg (ne_true_of_eq_false h1)).trans (if_pos hf)).symm)
 ·exact call_meets F.slot_str_split (typeIs_str _ _ _) F.entry_str_split (F.args_str_split_2 _ _) (meets_str_split_cannot_occur x y t u h1)
   (hq [(x, t)] _ (if_pos h1).symm)
theorem Qo : ∀ (l : List (Str × Tok)), Vals ((l.map (·.1)).map V.str) (strValues l)
 | [] => .nil
 | p :: l => .cons ⟨p.2, rfl⟩ (Qo l)
def zcR : V -> List V -> Hp -> VK -> Prop := λ x vs H Q => ∃ t y, x = .str t /\ vs = [.str y] /\ (y.length == 0) = false /\ t.length + 2 <= sizeLine /\ ∀ l, H l = none -> Q (.ref l) (upd H l (.lst ((Txt.split t y).map V.str)))
theorem ZK : MtM X "str.split" zcR := by
 intro pins s σ H x vs v us Q I rx rv h;obtain ⟨t, y, rfl, rfl, hy, hz, q⟩ := h;obtain ⟨tk, rfl⟩ := rx;obtain ⟨u, rfl, ru⟩ := rv.one;obtain ⟨tk2, rfl⟩ := ru;refine WE hy hz λ l k e => ?_;have hf : H s.heap.objs.size = none := I.hok.fresh (Nat.le_refl _);have hl := split_le t y;refine ⟨.ref s.heap.objs.size, upd H s.heap.objs.size (.lst ((Txt.split t y).map V.str)), I.laid (t' := k) (λ b u e => Heap.get?_push_of_some _ e) (Nat.le_refl _) ?_, rfl, q _ hf⟩;rw [<- e];exact ⟨by rw [length_map, e];lia, strValues l, 0, Qo l, Heap.get?_push_size _ rfl⟩
end
theorem ZW {c : Nat} : ∀ {a b A B : List Nat}, c ∉ a -> c ∉ b -> a ++ c :: A = b ++ c :: B -> a = b /\ A = B
 | [], [], _, _, _, _, h => ⟨rfl, (List.cons.inj h).2⟩
 | [], y :: b, _, _, _, hb, h => absurd (List.cons.inj h).1 (λ e => hb (by rw [e];exact mem_cons_self ..))
 | x :: a, [], _, _, ha, _, h => absurd (List.cons.inj h).1 (λ e => ha (by rw [<- e];exact mem_cons_self ..))
 | x :: a, y :: b, A, B, ha, hb, h => by
  obtain ⟨e1, e2⟩ := List.cons.inj h;obtain ⟨e3, e4⟩ := ZW (λ z => ha (mem_cons_of_mem _ z)) (λ z => hb (mem_cons_of_mem _ z)) e2;exact ⟨by rw [e1, e3], e4⟩
theorem str_ext {x y : Str} (h : x.cps.toList = y.cps.toList) : x = y := by
 obtain ⟨x⟩ := x;obtain ⟨y⟩ := y;exact congrArg Str.mk (Array.toList_inj.mp h)
theorem qa (c : Nat) (x y : Str) (r : List Str) : (Str.join ⟨#[c]⟩ (x :: y :: r)).cps.toList = x.cps.toList ++ c :: (Str.join ⟨#[c]⟩ (y :: r)).cps.toList := by
 show ((x.cps ++ #[c]) ++ (Str.join ⟨#[c]⟩ (y :: r)).cps).toList = _
 simp
theorem Xv {c : Nat} : ∀ {xs ys : List Str}, xs ≠ [] -> ys ≠ [] -> (∀ x ∈ xs, c ∉ x.cps.toList) -> (∀ y ∈ ys, c ∉ y.cps.toList) -> Str.join ⟨#[c]⟩ xs = Str.join ⟨#[c]⟩ ys -> xs = ys
 | [], _, h, _, _, _, _ => absurd rfl h
 | _, [], _, h, _, _, _ => absurd rfl h
 | [x], [y], _, _, _, _, e => by rw [show x = y from e]
 | [x], y :: z :: r, _, _, hx, _, e => by
  have e := congrArg (λ s : Str => s.cps.toList) e;simp only [qa] at e;have e : x.cps.toList = y.cps.toList ++ c :: (Str.join ⟨#[c]⟩ (z :: r)).cps.toList := e;exact absurd (by rw [e];simp) (hx x (mem_cons_self ..))
 | x :: z :: r, [y], _, _, _, hy, e => by
  have e := congrArg (λ s : Str => s.cps.toList) e;simp only [qa] at e;have e : x.cps.toList ++ c :: (Str.join ⟨#[c]⟩ (z :: r)).cps.toList = y.cps.toList := e;exact absurd (by rw [<- e];simp) (hy y (mem_cons_self ..))
 | x :: x2 :: r, y :: y2 :: q, _, _, hx, hy, e => by
  have e := congrArg (λ s : Str => s.cps.toList) e;simp only [qa] at e;obtain ⟨e1, e2⟩ := ZW (hx x (mem_cons_self ..)) (hy y (mem_cons_self ..)) e;have := Xv (xs := x2 :: r) (ys := y2 :: q) (by simp) (by simp) (λ z hz => hx z (mem_cons_of_mem _ hz)) (λ z hz => hy z (mem_cons_of_mem _ hz)) (str_ext e2);rw [str_ext e1, this]
theorem x6 {c : Nat} {xs : List Str} (h0 : xs ≠ []) (h : ∀ x ∈ xs, c ∉ x.cps.toList) : Txt.split (Str.join ⟨#[c]⟩ xs) ⟨#[c]⟩ = xs :=
 Xv (λ z => by have := split_pos (Str.join ⟨#[c]⟩ xs) ⟨#[c]⟩;rw [z] at this;simp at this) h0 (StrLaws.split_free _ c) h (StrLaws.join_split _ _)
end L2
namespace L2
open PySem PySem.Spec PyProof.Rows
section
variable {X : Cx}
end
end L2
namespace L2
open PySem PySem.Spec PyProof.Rows
section
variable {κ : Type} [DecidableEq κ]
def wY (kvs : List (κ × V)) (k : κ) : Option V := (kvs.find? λ kv => decide (kv.1 = k)).map (·.2)
def wH (kvs : List (κ × V)) (k : κ) (v : V) : List (κ × V) :=
 if (kvs.any λ kv => decide (kv.1 = k)) = true then kvs.map (λ kv => if kv.1 = k then (kv.1, v) else kv) else kvs ++ [(k, v)]
def zcy (kvs : List (κ × V)) (k : κ) : List (κ × V) := kvs.filter λ kv => decide (kv.1 ≠ k)
theorem Zf {p : κ × V} {r : List (κ × V)} {k : κ} (e : p.1 = k) : wY (p :: r) k = some p.2 := by simp [wY, find?_cons, e]
theorem Zg {p : κ × V} {r : List (κ × V)} {k : κ} (e : ¬ p.1 = k) : wY (p :: r) k = wY r k := by simp [wY, find?_cons, e]
theorem JJ (k : κ) : ∀ kvs : List (κ × V), (kvs.any λ kv => decide (kv.1 = k)) = (wY kvs k).isSome
 | [] => rfl
 | p :: r => by
  rw [any_cons];by_cases e : p.1 = k
  ·simp only [Zf e, decide_eq_true e, Bool.true_or, Option.isSome_some]
  ·rw [Zg e, decide_eq_false e, Bool.false_or];exact JJ k r
theorem Xl (kvs : List (κ × V)) (k : κ) (v : V) : (wH kvs k v).length <= kvs.length + 1 := by
 unfold wH
 split
 ·rw [length_map];lia
 ·rw [length_append, length_cons, length_nil];lia
theorem RelO.isSome_eq {o : Option V} {u : Option Value} (r : RelO o u) : o.isSome = u.isSome := by
 cases o with
 | none => cases u with
  | none => rfl
  | some _ => exact (show False from r).elim
 | some _ => cases u with
  | none => exact (show False from r).elim
  | some _ => rfl
theorem RelO.getD {o : Option V} {u : Option Value} {d : V} {d' : Value} (r : RelO o u) (rd : RelV d d') : RelV (o.getD d) (u.getD d') := by
 cases o with
 | none => cases u with
  | none => exact rd
  | some _ => exact (show False from r).elim
 | some _ => cases u with
  | none => exact (show False from r).elim
  | some _ => exact r
theorem KV.val {kvs : List (κ × V)} {vs : List (κ × Value)} (r : KV kvs vs) (k : κ) : RelO (wY kvs k) (valueAt vs k) := by
 unfold KV at r
 induction r with
 | nil => exact True.intro
 | @cons p q ps qs h t ih =>
  obtain ⟨h1, h2⟩ := h;by_cases e : p.1 = k
  ·have e' : q.1 = k := h1.symm.trans e;have b : valueAt (q :: qs) k = some q.2 := by simp [valueAt, find?_cons, e']
   rw [Zf e, b];exact h2
  ·have e' : ¬ q.1 = k := λ z => e (h1.trans z);have b : valueAt (q :: qs) k = valueAt qs k := by simp [valueAt, find?_cons, e']
   rw [Zg e, b];exact ih
theorem KV.any {kvs : List (κ × V)} {vs : List (κ × Value)} (r : KV kvs vs) (k : κ) : (kvs.any λ kv => decide (kv.1 = k)) = vs.any λ kv => decide (kv.1 = k) := by
 unfold KV at r
 induction r with
 | nil => rfl
 | cons h t ih => rw [any_cons, any_cons, ih, h.1]
theorem KV.repl {kvs : List (κ × V)} {vs : List (κ × Value)} (r : KV kvs vs) (k : κ) {y : V} {u : Value} (ry : RelV y u) :
  KV (kvs.map λ kv => if kv.1 = k then (kv.1, y) else kv) (vs.map λ kv => if kv.1 = k then (kv.1, u) else kv) := by
 unfold KV at r ⊢
 induction r with
 | nil => exact .nil
 | @cons p q ps qs h t ih =>
  rw [map_cons, map_cons];refine .cons ?_ ih;obtain ⟨h1, h2⟩ := h;by_cases e : p.1 = k
  ·rw [if_pos e, if_pos (h1.symm.trans e)];exact ⟨h1, ry⟩
  ·rw [if_neg e, if_neg (λ z => e (h1.trans z))];exact ⟨h1, h2⟩
theorem KV.put {kvs : List (κ × V)} {vs : List (κ × Value)} (r : KV kvs vs) (k : κ) {y : V} {u : Value} (ry : RelV y u) : KV (wH kvs k y) (stored vs k u) := by
 unfold wH stored;rw [r.any k];by_cases e : (vs.any λ kv => decide (kv.1 = k)) = true
 ·rw [if_pos e, if_pos e];exact r.repl k ry
 ·rw [if_neg e, if_neg e];exact Paired.snoc r ⟨rfl, ry⟩
theorem KV.drop {kvs : List (κ × V)} {vs : List (κ × Value)} (r : KV kvs vs) (k : κ) : KV (zcy kvs k) (without vs k) := by
 unfold KV at r ⊢;unfold zcy without
 induction r with
 | nil => exact .nil
 | @cons p q ps qs h t ih =>
  obtain ⟨h1, h2⟩ := h;rw [List.filter_cons, List.filter_cons];by_cases e : p.1 = k
  ·have a : ¬ decide (p.1 ≠ k) = true := by simp [e]
   have b : ¬ decide (q.1 ≠ k) = true := by simp [h1.symm.trans e]
   rw [if_neg a, if_neg b];exact ih
  ·have e' : ¬ q.1 = k := λ z => e (h1.trans z);have a : decide (p.1 ≠ k) = true := by simp [e]
   have b : decide (q.1 ≠ k) = true := by simp [e']
   rw [if_pos a, if_pos b];exact .cons ⟨h1, h2⟩ ih
theorem KV.keys {kvs : List (κ × V)} {vs : List (κ × Value)} (r : KV kvs vs) : kvs.map (·.1) = vs.map (·.1) := by
 unfold KV at r
 induction r with
 | nil => rfl
 | cons h t ih => rw [map_cons, map_cons, ih, h.1]
theorem KV.length {kvs : List (κ × V)} {vs : List (κ × Value)} (r : KV kvs vs) : kvs.length = vs.length := Paired.length r
end
theorem zbc {P : Program} {w : World} {k : Key} {u : Value} (r : RelV (kV k) u) : (qA P w).is k u = true := by
 cases k with
 | inl i => obtain ⟨t, e⟩ := (show ∃ t, u = Value.int i t from r);subst e;exact Xf P w i t
 | inr x => obtain ⟨t, e⟩ := (show ∃ t, u = Value.str x t from r);subst e;exact Xe P w x t
theorem QL {P : Program} {w : World} : ∀ {ks : List Key} {us : List Value}, Vals (ks.map kV) us -> ItemsAre (qA P w) ks us
 | [], _, r => by rw [map_nil] at r;cases r;exact .nil
 | k :: ks, _, r => by
  rw [map_cons] at r;cases r with
  | cons h t => exact .cons (zbc h) (QL t)
abbrev KT (H : Hp) : List (List Key × V) -> List (List Key × Addr × Value) -> Prop := Paired λ p q => p.1 = q.1 /\ H q.2.1 = some (.tup (p.1.map kV)) /\ RelV p.2 q.2.2
theorem KT.val {H : Hp} {kvs : List (List Key × V)} {xs : List (List Key × Addr × Value)} (r : KT H kvs xs) (k : List Key) : RelO (wY kvs k) ((atKey xs k).map (·.2)) := by
 induction r with
 | nil => exact True.intro
 | @cons p q ps qs h t ih =>
  obtain ⟨h1, _, h2⟩ := h;by_cases e : p.1 = k
  ·have e' : q.1 = k := h1.symm.trans e;have b : atKey (q :: qs) k = some q.2 := by simp [atKey, find?_cons, e']
   rw [Zf e, b];exact h2
  ·have e' : ¬ q.1 = k := λ z => e (h1.trans z);have b : atKey (q :: qs) k = atKey qs k := by simp [atKey, find?_cons, e']
   rw [Zg e, b];exact ih
theorem KT.repl {H : Hp} {kvs : List (List Key × V)} {xs : List (List Key × Addr × Value)} (r : KT H kvs xs) (k : List Key) {y : V} {u : Value} (ry : RelV y u) :
  KT H (kvs.map λ kv => if kv.1 = k then (kv.1, y) else kv) (xs.map (putAt k u)) := by
 induction r with
 | nil => exact .nil
 | @cons p q ps qs h t ih =>
  rw [map_cons, map_cons];refine .cons ?_ ih;obtain ⟨h1, h2, h3⟩ := h;unfold putAt;by_cases e : p.1 = k
  ·rw [if_pos e, if_pos (h1.symm.trans e)];exact ⟨h1, h2, ry⟩
  ·rw [if_neg e, if_neg (λ z => e (h1.trans z))];exact ⟨h1, h2, h3⟩
theorem KT.put {H : Hp} {kvs : List (List Key × V)} {xs : List (List Key × Addr × Value)} (r : KT H kvs xs) (k : List Key) {b : Addr} {y : V} {u : Value} (hb : H b = some (.tup (k.map kV))) (ry : RelV y u) :
  KT H (wH kvs k y) (storedH xs k b u) := by
 have e : (kvs.any λ kv => decide (kv.1 = k)) = (atKey xs k).isSome := by
  rw [JJ, (r.val k).isSome_eq, Option.isSome_map]
 unfold wH storedH;rw [e];by_cases q : (atKey xs k).isSome = true
 ·rw [if_pos q, if_pos q];exact r.repl k ry
 ·rw [if_neg q, if_neg q];exact Paired.snoc r ⟨rfl, hb, ry⟩
theorem KT.keeps {H H' : Hp} {kvs : List (List Key × V)} {xs : List (List Key × Addr × Value)} (r : KT H kvs xs) (ht : ∀ b ys, H b = some (.tup ys) -> H' b = some (.tup ys)) : KT H' kvs xs :=
 Paired.mapP r λ _ _ z => ⟨z.1, ht _ _ z.2.1, z.2.2⟩
section
variable {P : Program} {w : World} {H : Hp} {h : Heap} {a : Addr}
theorem zcq {u : HO} (ok : HOk P w H h) (e : Rd H a u) : ObjOk P w H h a u := e.ok ok
theorem zbr {kvs : List (Key × V)} (ok : HOk P w H h) (e : Rd H a (.dK kvs)) : kvs.length <= sizeLine /\ (a == sysModules) = false /\ ∃ vs, KV kvs vs /\ h.DictOf (qA P w) a vs :=
 show ObjOk P w H h a (.dK kvs) from zcq ok e
theorem zdQ {kvs : List (Key × V)} (ok : HOk P w H h) (e : H a = some (.dK kvs)) : kvs.length <= sizeLine /\ (a == sysModules) = false /\ ∃ vs, KV kvs vs /\ h.DictOf (qA P w) a vs := zbr ok (.inl e)
theorem zba {ks : List Key} (ok : HOk P w H h) (e : H a = some (.tup (ks.map kV))) : (tupleKind (qA P w)).is h ks a := by
 obtain ⟨_, its, r, o, h1, h2, n, h3⟩ := (show ObjOk P w H h a (.tup (ks.map kV)) from ok a _ e);exact ⟨o, its.toArray, n, h1, h2, h3, by simpa using QL r⟩
theorem zcx {kvs : List (List Key × V)} (ok : HOk P w H h) (e : Rd H a (.dT kvs)) : kvs.length <= sizeLine /\ (a == sysModules) = false /\
  ∃ xs, KT H kvs xs /\ h.DictOfH (tupleKind (qA P w)) a xs := by
 obtain ⟨z, y, xs, r, o, es, ep, h1, h2, h3, h4, h5⟩ := (show ObjOk P w H h a (.dT kvs) from zcq ok e);refine ⟨z, y, xs, r, o, es, ep, h1, h2, h3, h4, λ x hx => ?_, h5⟩;have all : ∀ {l : List (List Key × V)} {m : List (List Key × Addr × Value)}, KT H l m -> ∀ x ∈ m, (tupleKind (qA P w)).is h x.1 x.2.1 := by
  intro l m q
  induction q with
  | nil => intro x hx;exact nomatch hx
  | @cons p q ps qs hq t ih =>
   intro x hx;rcases List.mem_cons.mp hx with e|hx
   ·subst e;exact zba ok (by rw [<- hq.1];exact hq.2.1)
   ·exact ih x hx
 exact all r x hx
end
def DGet (H : Hp) (a : Addr) (y : V) (r : Option V) : Prop :=
 (∃ kvs k, Rd H a (.dK kvs) /\ y = kV k /\ r = wY kvs k) \/ ∃ kvs k b, Rd H a (.dT kvs) /\ y = .ref b /\ H b = some (.tup (k.map kV)) /\ r = wY kvs k
def DPut (H : Hp) (a : Addr) (y v : V) (H' : Hp) : Prop :=
 (∃ kvs k, H a = some (.dK kvs) /\ y = kV k /\ kvs.length < sizeLine /\ H' = upd H a (.dK (wH kvs k v))) \/
 ∃ kvs k b, H a = some (.dT kvs) /\ y = .ref b /\ H b = some (.tup (k.map kV)) /\ kvs.length < sizeLine /\ H' = upd H a (.dT (wH kvs k v))
theorem DGet.k {H : Hp} {a : Addr} {kvs : List (Key × V)} {k : Key} (e : H a = some (.dK kvs)) : DGet H a (kV k) (wY kvs k) := .inl ⟨kvs, k, .inl e, rfl, rfl⟩
theorem DGet.t {H : Hp} {a b : Addr} {kvs : List (List Key × V)} {k : List Key} (e : H a = some (.dT kvs)) (eb : H b = some (.tup (k.map kV))) : DGet H a (.ref b) (wY kvs k) := .inr ⟨kvs, k, b, .inl e, rfl, eb, rfl⟩
theorem DPut.k {H : Hp} {a : Addr} {kvs : List (Key × V)} {k : Key} {v : V} (e : H a = some (.dK kvs)) (hl : kvs.length < sizeLine) : DPut H a (kV k) v (upd H a (.dK (wH kvs k v))) := .inl ⟨kvs, k, e, rfl, hl, rfl⟩
theorem DPut.t {H : Hp} {a b : Addr} {kvs : List (List Key × V)} {k : List Key} {v : V} (e : H a = some (.dT kvs)) (eb : H b = some (.tup (k.map kV))) (hl : kvs.length < sizeLine) :
  DPut H a (.ref b) v (upd H a (.dT (wH kvs k v))) := .inr ⟨kvs, k, b, e, rfl, eb, hl, rfl⟩
section
variable {X : Cx} {pins : List (Addr × Obj)} {σ : St} {H : Hp} {s : Shared} {a : Addr} {y v : V} {u r : Value} {o : Option V} {A : Around} {E : Value -> Shared -> Prop}
theorem Inv.big (I : Inv X pins σ H s) : sysModules < s.heap.objs.size := by
 have h : mainGlobals < s.heap.objs.size := (I.mod.glob.keeps I.bk).lt;exact Nat.lt_trans (by decide) h
theorem zae {Q : Value -> Shared -> Prop} (hu : A.units + 1 < cLine) (I : Inv X pins σ H s) (g : DGet H a y (some v)) (ry : RelV y u) (h : ∀ w' s', Inv X pins σ H s' -> RelV v w' -> Q w' s') :
  wpAny (model X.prog X.w) A (getItem (.ref a) u) Q E s := by
 rcases g with ⟨kvs, k, e, ey, l⟩|⟨kvs, k, b, e, ey, eb, l⟩
 ·subst ey;obtain ⟨z, hd, vs, rel, dd⟩ := zbr I.hok e;obtain ⟨w', hw, rw'⟩ := RelO.some_of (v := v) (o := valueAt vs k) (by rw [l];exact rel.val k);exact wpAny_getItem_of (zbc ry) dd.mapOf hw (h w' _ (I.tok _) rw')
 ·subst ey;cases (show u = Value.ref b from ry);obtain ⟨z, hd, xs, rel, dd⟩ := zcx I.hok e;obtain ⟨w', hw, rw'⟩ := RelO.some_of (v := v) (o := (atKey xs k).map (·.2)) (by rw [l];exact rel.val k);obtain ⟨p, hp, hp2⟩ := Option.map_eq_some_iff.mp hw;refine wpAny_getItem_heap (tupleKind_room_in1 hu) (zba I.hok eb) dd hp ?_;rw [hp2];exact h w' _ (I.tok _) rw'
theorem zcg {h' : Heap} {t' : Nat} {ob : HO} (I : Inv X pins σ H s) (mu : Mut (H a)) (hs : Heap.SameBut a s.heap h') (he : ∃ q, h'.get? a = some q) (new : ObjOk X.prog X.w (upd H a ob) h' a ob) :
  Inv X pins σ (upd H a ob) { s with heap := h', toks := t' } :=
 I.write (x := a) (e := a) mu (.inl rfl) (λ b q hb z => (hs.2 b hb).trans z) he new
theorem zdk {P : Program} {w : World} {H' : Hp} {h' : Heap} {kvs : List (Key × V)} {vs : List (Key × Value)} (z : kvs.length <= sizeLine) (hd : (a == sysModules) = false) (rel : KV kvs vs) (dd : h'.DictOf (qA P w) a vs) :
  ObjOk P w H' h' a (.dK kvs) := ⟨z, hd, vs, rel, dd⟩
end
section
variable {X : Cx} {pins : List (Addr × Obj)} {σ : St} {H : Hp} {s : Shared} {a : Addr} {kvs : List (Key × V)} {k : Key} {u : Value} {A : Around} {E : Value -> Shared -> Prop}
end
def zdW (i : Expr) : Prop := ∀ ov iv, subscripted i false ov iv = operate [ov, iv] (getItem ov iv)
theorem zbI {prog : Program} {w : World} {A : Around} {E : Value -> Shared -> Prop} {s : Shared} {env : Env} {value slice : Expr} {pos : Pos} {T id : String} {Q : Value -> Shared -> Prop}
  (hl : typeLookup (.type T) "__getitem__" = pure (some (.builtin id))) (hs : zdW slice)
  (h : wpAny (model prog w) A (eval value env) (λ o s₁ => wpAny (model prog w) A (eval slice env) (λ i s₂ => s₂.TypeIs o T /\ wpAny (model prog w) A (getItem o i) Q E s₂) E s₁) E s) :
  wpAny (model prog w) A (eval (.Subscript value slice pos) env) Q E s := by
 refine Subscript_ (wpAny_mono h (λ o s₁ h₁ => wpAny_mono h₁ (λ i s₂ h₂ => ?_) λ _ _ x => x) λ _ _ x => x);obtain ⟨hT, h₂⟩ := h₂;unfold subscriptTail;refine wpAny_bind ?_;rw [getitemInPython_of_ne hT.not_modules];refine wpAny_bind (wpAny_specialOf hT hl ?_);have fin : wpAny (model prog w) A (subscripted slice false o i) (λ r s₃ => wpAny (model prog w) A (letTemporaryGo value o r >>= λ _ => pure r) Q E s₃) E s₂ := by
  rw [hs o i];exact wpAny_operating (wpAny_mono h₂ (λ r s₃ h₃ => wpAny_bind (wpAny_letTemporaryGo (wpAny_pure h₃))) λ _ _ x => x)
 first
  | exact wpAny_pure (wpAny_bind fin)
  | exact wpAny_bind (wpAny_pure (wpAny_bind fin))
  | exact wpAny_bind fin
theorem XA {X : Cx} {pins : List (Addr × Obj)} {σ : St} {H : Hp} {s : Shared} {a : Addr} {y : V} {o : Option V} (I : Inv X pins σ H s) (g : DGet H a y o) : s.TypeIs (.ref a) "dict" := by
 rcases g with ⟨kvs, k, e, _, _⟩|⟨kvs, k, b, e, _, _, _⟩
 ·obtain ⟨_, _, vs, _, dd⟩ := zbr I.hok e;exact dd.typeIs
 ·obtain ⟨_, _, xs, _, dd⟩ := zcx I.hok e;exact dd.typeIs
def tDGet (td ty : TE) : TE := λ σ H Q => td σ H λ x H1 => ty σ H1 λ y H2 => ∃ a v, x = .ref a /\ DGet H2 a y (some v) /\ Q v H2
section
variable {X : Cx} {o i e value : Expr} {pos pos' tpos : Pos} {td ty tv : TE}
theorem W8 (hu : X.A.units + 1 < cLine) (ho : PE X o td) (hi : PE X i ty) (hs : zdW i) : PE X (.Subscript o i pos) (tDGet td ty) := by
 intro pins s σ H Q I h;refine zbI PySem.F.slot_dict_getitem.lookup hs (thn (ho pins s σ H _ I h) λ u s1 ⟨x, H1, I1, rx, q1⟩ => thn (hi pins s1 σ H1 _ I1 q1) λ iv s2 ⟨y, H2, I2, ry, a, v, ex, g, q2⟩ => ?_);subst ex;obtain rfl : u = Value.ref a := rx;exact ⟨XA I2 g, zae hu I2 g ry λ w' s3 I3 rw' => ⟨v, H2, I3, rw', q2⟩⟩
end
theorem zbs {P : Program} {w : World} {H : Hp} (h : Heap) (hb : sysModules < h.objs.size) : ObjOk P w H (h.push { cls := .type "dict", data := .dict #[] }) h.objs.size (.dK []) :=
 ⟨Nat.zero_le _, beq_eq_false_iff_ne.mpr (Ne.symm (Nat.ne_of_lt hb)), [], .nil, Heap.DictOf.new h⟩
section
variable {X : Cx} {pos : Pos}
end
def tPairs : List (TE × TE) -> St -> Hp -> (List (V × V) -> Hp -> Prop) -> Prop
 | [], _, H, Q => Q [] H
 | (tk, tv) :: r, σ, H, Q => tk σ H λ x H1 => tv σ H1 λ y H2 => tPairs r σ H2 λ ps H3 => Q ((x, y) :: ps) H3
abbrev VV : List (V × V) -> List (Value × Value) -> Prop := Paired λ p q => RelV p.1 q.1 /\ RelV p.2 q.2
def PPs (X : Cx) (pos : Pos) (keys : List (Option Expr)) (values : List Expr) (trs : List (TE × TE)) : Prop :=
 ∀ (pins : List (Addr × Obj)) (s : Shared) (σ : St) (H : Hp) (Q : List (V × V) -> Hp -> Prop), Inv X pins σ H s -> tPairs trs σ H Q ->
  wpAny (model X.prog X.w) X.A (evalPairs (pairTrees keys values X.env pos)) (λ vs s' => ∃ ps H', Inv X pins σ H' s' /\ VV ps vs /\ Q ps H') X.xe s
theorem WY {X : Cx} {pos : Pos} : PPs X pos [] [] [] := λ pins s σ H Q I h => pairTrees_nil_walk ⟨[], H, I, .nil, h⟩
theorem qi {X : Cx} {pos : Pos} {k v : Expr} {ks : List (Option Expr)} {vs : List Expr} {tk tv : TE} {trs : List (TE × TE)} (hk : PE X k tk) (hv : PE X v tv) (hr : PPs X pos ks vs trs) :
  PPs X pos (some k :: ks) (v :: vs) ((tk, tv) :: trs) := λ pins s σ H Q I h =>
 pairTrees_cons_walk (thn (hk pins s σ H _ I h) λ u s1 ⟨x, H1, I1, rx, q1⟩ => thn (hv pins s1 σ H1 _ I1 q1) λ w2 s2 ⟨y, H2, I2, ry, q2⟩ =>
  thn (hr pins s2 σ H2 _ I2 q2) λ ws s3 ⟨ps, H3, I3, rel, q3⟩ => ⟨(x, y) :: ps, H3, I3, .cons ⟨rx, ry⟩ rel, q3⟩)
def qO (kvs more : List (Key × V)) : List (Key × V) := more.foldl (λ acc kv => wH acc kv.1 kv.2) kvs
theorem KV.merge : ∀ {more : List (Key × V)} {rs : List (Key × Value)} {kvs : List (Key × V)} {vs : List (Key × Value)}, KV more rs -> KV kvs vs -> KV (qO kvs more) (merged vs rs) := by
 intro more rs kvs vs r;unfold KV at r
 induction r generalizing kvs vs with
 | nil => intro q;exact q
 | @cons p q ps qs h t ih =>
  intro r0;have e : KV (wH kvs p.1 p.2) (stored vs q.1 q.2) := by
   have := r0.put p.1 h.2;rw [<- h.1];exact this
  exact ih e
theorem xX : ∀ (more kvs : List (Key × V)), (qO kvs more).length <= kvs.length + more.length
 | [], kvs => by show kvs.length <= kvs.length + 0;lia
 | p :: r, kvs => by
  have h1 := xX r (wH kvs p.1 p.2);have h2 := Xl kvs p.1 p.2;show (qO (wH kvs p.1 p.2) r).length <= _
  rw [length_cons];lia
theorem Z1 {P : Program} {w : World} : ∀ {kvs : List (Key × V)} {ws : List (Value × Value)}, VV (kvs.map λ kv => (kV kv.1, kv.2)) ws -> ∃ rs, Carries (qA P w) ws rs /\ KV kvs rs
 | [], _, r => by rw [map_nil] at r;cases r;exact ⟨[], True.intro, .nil⟩
 | p :: kvs, _, r => by
  rw [map_cons] at r;cases r with
  | @cons a b as bs h t =>
   obtain ⟨rs, c, q⟩ := Z1 (P := P) (w := w) t;obtain ⟨b1, b2⟩ := b;exact ⟨(p.1, b2) :: rs, ⟨zbc h.1, rfl, c⟩, .cons ⟨rfl, h.2⟩ q⟩
def tDisp (trs : List (TE × TE)) : TE := λ σ H Q => ∀ p, H p = none -> tPairs trs σ (upd H p (.dK [])) λ ps H2 => H2 p = some (.dK []) /\ ∃ kvs : List (Key × V), ps = kvs.map (λ kv => (kV kv.1, kv.2)) /\ kvs.length <= 15 /\ Q (.ref p) (upd H2 p (.dK (qO [] kvs)))
theorem WZ {X : Cx} {pos : Pos} {keys : List (Option Expr)} {values : List Expr} {trs : List (TE × TE)} (h : PPs X pos keys values trs) (hall : keys.all (·.isSome) = true) (hl : keys.length = values.length) (h0 : keys ≠ [])
  (h15 : keys.length <= 15) : PE X (.Dict keys values pos) (tDisp trs) := by
 intro pins s σ H Q I q;have hn := I.hok.fresh (Nat.le_refl s.heap.objs.size);have I1 := I.laid (a := s.heap.objs.size) (o := .dK []) (h' := s.heap.push { cls := .type "dict", data := .dict #[] }) (t' := s.toks) (λ _ _ q => Heap.get?_push_of_some _ q) (Nat.le_refl _) (zbs s.heap I.big);refine wpAny_Dict_walk (knd := qA X.prog X.w) hall hl h0 h15 (thn (h pins _ σ _ _ I1 (q _ hn)) λ ws s2 ⟨ps, H2, I2, rel, e, kvs, ep, lk, q2⟩ => ?_);subst ep;obtain ⟨rs, c, rk⟩ := Z1 (P := X.prog) (w := X.w) rel;obtain ⟨z, hd, vs0, r0, dd⟩ := zdQ I2.hok e;cases r0;refine ⟨rs, c, dd, λ h' dd' hs => ⟨.ref s.heap.objs.size, _, ?_, rfl, q2⟩⟩;have hz : (qO [] kvs).length <= sizeLine := by
  have h1 := xX kvs [];rw [length_nil] at h1;rw [sizeLine_eq];lia
 have he : ∃ q, h'.get? s.heap.objs.size = some q := let ⟨q, _, _, hq, _⟩ := dd';⟨q, hq⟩
 exact zcg I2 (by rw [e];exact True.intro) hs he (zdk hz hd (rk.merge .nil) dd')
section
variable {X : Cx} {pins : List (Addr × Obj)} {σ : St} {H : Hp} {s : Shared} {a : Addr} {y d : V} {u r : Value} {o : Option V} {A : Around} {E : Value -> Shared -> Prop}
end
section
variable {X : Cx} {o e f : Expr} {apos cpos : Pos} {td ty tx : TE}
end
end L2
namespace L2
open PySem PySem.Spec PyProof.Rows
section
variable {κ : Type} [DecidableEq κ]
end
end L2
namespace L2
open PySem PySem.Spec PySem.Calls PyProof.Rows
section
variable {X : Cx}
end
end L2
namespace L2
open PySem PySem.Spec PyProof.Rows
section
variable {prog : Program} {w : World} {A : Around} {E : Value -> Shared -> Prop} {s : Shared} {it d : Addr} {i ep : Nat} {es : Array DictEntry} {od : Obj}
end
end L2
namespace L2
open PySem PySem.Spec PyProof.Rows
section
variable {prog : Program} {w : World}
section
variable {κ : Type} [DecidableEq κ] {d : Nat}
end
section
variable {κ1 κ2 κ3 κ4 : Type} [DecidableEq κ1] [DecidableEq κ2] [DecidableEq κ3] [DecidableEq κ4] {d1 d2 d3 d4 : Nat}
end
abbrev ShK := Option Int × List (List (Option Int)) × List (Option Int) × List (Option Int)
end
def oiD : Option Int -> D
 | none => .non
 | some n => .int n
def shD (k : ShK) : D := .tup [oiD k.1, .tup (k.2.1.map λ r => .tup (r.map oiD)), .tup (k.2.2.1.map oiD), .tup (k.2.2.2.map oiD)]
section
variable {P : Program} {w : World} {H : Hp} {h : Heap} {p : Addr -> Prop}
end
def keysOk (H : Hp) (xs : List (ShK × Addr × Addr)) : Prop := ∀ x ∈ xs, ∃ p : Addr -> Prop, Rep H p (.ref x.2.1) (shD x.1)
theorem keysOk.same {H H' : Hp} {xs : List (ShK × Addr × Addr)} (h : keysOk H xs) (s : ∀ b ys, H b = some (.tup ys) -> H' b = some (.tup ys)) (t : ∀ x ∈ xs, ∃ p : Addr -> Prop, Rep H p (.ref x.2.1) (shD x.1) /\ ∀ b o, p b -> H b = some o -> H' b = some o) : keysOk H' xs := λ x hx => by
 obtain ⟨p, r, k⟩ := t x hx;exact ⟨p, r.keep λ b o pb hb => ⟨pb, k b o pb hb⟩⟩
section
variable {X : Cx} {pins : List (Addr × Obj)} {σ : St} {H : Hp} {s : Shared} {D b y : Addr} {A : Around} {E : Value -> Shared -> Prop} {xs : List (ShK × Addr × Addr)} {k : ShK} {p : Addr -> Prop}
end
section
variable {X : Cx} {o i value : Expr} {pos pos' : Pos} {td ty tv : TE}
end
section
variable {X : Cx} {G : GK} {x : Str} {np pos hpos : Pos} {body su : List Stmt} {b₀ : Stmt} {tb : List (Addr × Obj) -> GK -> TS} {th : List (Addr × Obj) -> Addr -> TS}
end
end L2
namespace L2
open PySem PySem.Spec PySem.Calls PyProof.Rows
def WA (K : PySem.W.Frag) (C f : Addr) : Bool := match K.lookup C with
 | some ⟨.type "type", _, .cls cd, sl⟩ => (match cd.mro, sl.toList with
  | .ref C' :: bm, [_, _, _, _, some (.builtin n), _] => C' == C && n == "ValueError.__new__" && !cd.hasDel && PySem.W.tailIn K bmV bm && PySem.W.nsOkIn K cd.ns && nsIn K cd.ns "__init__" == some (some (.ref f))
  | _, _ => false)
 | _ => false
structure XCI (K : PySem.W.Frag) (C f : Addr) : Prop where
 q : WA K C f = true
theorem Wg {K : PySem.W.Frag} {h : Heap} {N : Addr} {mg : Str -> Option Value} {n : Str} {v : Value} (X : K.In h) (G : h.Ns N mg) (e : nsIn K N n = some (some v)) : mg n = some v := by
 obtain ⟨o, es, ep, ho, hd, _, hf⟩ := G;unfold nsIn at e
 split at e
 ·rename_i c d es' n' sl q;have := X _ _ q;rw [ho] at this;cases this;cases hd
  split at e
  ·rename_i en he;cases e;rw [<- hf];unfold nsFind findBy;rw [<- Array.find?_toList, he]
   rfl
  ·split at e <;> cases e
 ·cases e
theorem WK {K : PySem.W.Frag} {C f : Addr} {h₀ : Heap} (X : K.In h₀) (x : XCI K C f) : ∃ bm N nm q bs hdct sn sub ab col dd k0 k1 k2 k3 k5 mN, h₀.get? C = some (excClassObj nm q C N bs bm hdct sn sub ab col dd k0 k1 k2 k3 k5 "ValueError.__new__") /\ h₀.Ns N mN /\ mN "__init__" = some (.ref f) /\ OwnTail h₀ bmV bm := by
 have q := x.q;unfold WA at q
 split at q
 ·rename_i dd cd sl ho
  split at q
  ·rename_i C' bm k0 k1 k2 k3 n k5 hm hs;simp only [Bool.and_eq_true, beq_iff_eq, Bool.not_eq_true'] at q;obtain ⟨⟨⟨⟨⟨rfl, rfl⟩, hdel⟩, ht⟩, hok⟩, hni⟩ := q;obtain ⟨nm, bs, mro, ns, qn, hd, sn, sub, ab, col, del⟩ := cd;dsimp only at hm hdel hok hni;subst hm hdel;have hsl : sl = #[k0, k1, k2, k3, some (.builtin "ValueError.__new__"), k5] := by
    obtain ⟨l⟩ := sl;simp only at hs;rw [hs]
   subst hsl;have G : h₀.Ns ns _ := .of_isNs (PySem.W.isNs_of_in X hok);exact ⟨bm, ns, nm, qn, bs, hd, sn, sub, ab, col, dd, k0, k1, k2, k3, k5, _, X _ _ ho, G, Wg X G hni, PySem.W.tail_of_in X ht⟩
  ·cases q
 ·cases q
section
variable {prog : Program} {w : World} {A : Around} {R : Result -> Shared -> Prop} {h : Heap} {g : Array GenState} {d : Drawn} {t : Nat} {os : OsState}
variable {nm q : Str} {C N f : Addr} {bs bm bmB : List Value} {hdct : Bool} {sn : List Str} {sub : List Value} {ab : Bool} {col : Option Bool} {dd : Option Addr} {k0 k1 k2 k3 k5 : Option Value} {B newId initId : String}
theorem Zh (F : ExcBaseFacts B newId initId bmB) (T : OwnTail h bmB bm) {mN : Str -> Option Value} {rest : List Value} {Q : Fin -> Shared -> Prop} {E : Value -> Shared -> Prop}
  (hC : h.get? C = some (excClassObj nm q C N bs bm hdct sn sub ab col dd k0 k1 k2 k3 k5 newId)) (hn : h.Ns N mN) (hi : mN "__init__" = some (.ref f))
  (hb : ∀ self, Looks (model prog w) h (bindSpecial (.ref f) self) (.ref f, [self])) (hrest : rest.length <= sizeLine)
  (hq : codeAny (model prog w) A (.call (.ref f) ⟨.ref (h.objs.size + 1) :: rest, []⟩) (λ r s' => match r with
    | .ok (.ret v) => v = .none /\ Q (.done (.ret (.ref (h.objs.size + 1)))) s'
    | .ok _ => False
    | .error e => E e s')
   ⟨(h.push { cls := .type "tuple", data := .seq rest.toArray }).push { cls := .ref C, data := .fields #[.ref h.objs.size, .none, .none, .none, .bool false, .none] }, g, d, t, os⟩) :
  wpAny (model prog w) A (Builtin.«type.__call__» ⟨.ref C :: rest, []⟩) Q E ⟨h, g, d, t, os⟩ := by
 repeat (first|with_reducible refine wpAny_loadPart_at hC ?_|with_reducible refine wpAny_madeBy_exc hC ?_|wp_step)
 refine codeAny_call_builtin_code (Code.quiet_builtin _ F.quiet) (wpAny_check_new_subT F T hC ?_);refine codeAny_exc_new_subT F T hC ?_ hrest;show wpAny _ _ _ _ _ _
 have k : ∀ b o, h.get? b = some o -> ((h.push { cls := .type "tuple", data := .seq rest.toArray }).push { cls := .ref C, data := .fields #[.ref h.objs.size, .none, .none, .none, .bool false, .none] }).get? b = some o := λ b o e => Heap.get?_push_of_some _ (Heap.get?_push_of_some _ e);have hC₁ := k _ _ hC;have hn₁ : ((h.push { cls := .type "tuple", data := .seq rest.toArray }).push { cls := .ref C, data := .fields #[.ref h.objs.size, .none, .none, .none, .bool false, .none] }).Ns N mN :=
  let ⟨o, es, ep, e, r⟩ := hn;⟨o, es, ep, k _ _ e, r⟩
 have hget : ((h.push { cls := .type "tuple", data := .seq rest.toArray }).push { cls := .ref C, data := .fields #[.ref h.objs.size, .none, .none, .none, .bool false, .none] }).get? (h.objs.size + 1) = some { cls := .ref C, data := .fields #[.ref h.objs.size, .none, .none, .none, .bool false, .none] } := by heap_get
 have hcC : (Value.ref C :: bm).contains (.ref C) = true := by simp
 have T₁ := T.keeps k;unfold isInstance
 repeat (first|with_reducible refine wpAny_loadPart_at hget ?_|(with_reducible refine wpAny_isSubtype_exc hC₁ ?_;rw [hcC])|wp_step)
 show wpAny _ _ (typeLookup (.ref C) _) _ _ _
 refine wpAny_typeLookup_tail hC₁ hn₁ T₁ F.mroIs F.init.lookup ?_;rw [hi];have b1 := (hb (.ref (h.objs.size + 1))).keeps k;refine wpAny_holding (wpAny_bind (b1.at ?_));refine wpAny_bind (wpAny_call (codeAny_mono hq λ r s' z => ?_));rcases r with e|(v|_|_|_)
 ·exact z
 all_goals first
  | exact z.elim
  | skip
 obtain ⟨rfl, z⟩ := z
 wp_walk
 exact z
theorem zai (F : ExcBaseFacts B newId initId bmB) (T : OwnTail h bmB bm) {mN : Str -> Option Value} {rest : List Value}
  (hC : h.get? C = some (excClassObj nm q C N bs bm hdct sn sub ab col dd k0 k1 k2 k3 k5 newId)) (hn : h.Ns N mN) (hi : mN "__init__" = some (.ref f))
  (hb : ∀ self, Looks (model prog w) h (bindSpecial (.ref f) self) (.ref f, [self])) (hrest : rest.length <= sizeLine)
  (hq : codeAny (model prog w) (A.under (.builtin "type.__call__" ⟨.ref C :: rest, []⟩)) (.call (.ref f) ⟨.ref (h.objs.size + 1) :: rest, []⟩) (PySem.W.InitBack (h.objs.size + 1) R)
   ⟨(h.push { cls := .type "tuple", data := .seq rest.toArray }).push { cls := .ref C, data := .fields #[.ref h.objs.size, .none, .none, .none, .bool false, .none] }, g, d, t, os⟩) :
  codeAny (model prog w) A (.call (.ref C) ⟨rest, []⟩) R ⟨h, g, d, t, os⟩ := by
 have f1 := tc_lookup;have f2 := tc_bind (.ref C);have hT : (⟨h, g, d, t, os⟩ : Shared).TypeIs (.ref C) "type" := ⟨_, hC, rfl⟩;refine codeAny_of_tree ?_;show wpAny _ _ (callAny (.ref C) _) _ _ _
 repeat (any_goals (first|assumption|with_reducible refine wpAny_loadPart_at hC ?_|wp_step))
 refine ⟨rfl, ?_⟩;refine codeAny_call_builtin_at (Code.quiet_builtin _ (by decide +kernel)) entry_typeCall (wpAny_check_type_call_sub hC (Zh (rest := rest) F T hC hn hi hb hrest ?_));refine codeAny_mono hq λ r s' z => ?_;rcases r with e|(v|_|_|_) <;> exact z
end
end L2
namespace L2
open PySem PySem.Spec PySem.Calls PyProof.Rows
open Builtin Builtin.ObjectAttr
structure XS (K : PySem.W.Frag) (C : Addr) (n : Str) : Prop where
 sa : findIn K (.ref C) "__setattr__" = some (some (.builtin "object.__setattr__"))
 ln : findIn K (.ref C) n = some none
 hd : hasDictIn K C = true
 mr : ∃ cd W, clsIn K C = some cd /\ cd.mro = .ref C :: .ref W :: bmV
section
variable {prog : Program} {w : World} {A : Around} {R : Result -> Shared -> Prop} {s : Shared} {K : PySem.W.Frag} {C x : Addr}
theorem VZ {ox : Obj} {od : Option Obj} {name : Str} {tk : Tok} {v : Value} {cd : ClassData} {W : Addr} (X : K.In s.heap) (I : InstAt s.heap x ox C od) (hc : clsIn K C = some cd) (hm : cd.mro = .ref C :: .ref W :: bmV) (ha : findIn K (.ref C) name = some none)
  (h : wpAny (model prog w) A.in1 (storeInOwnDict (.ref x) (.ref C) (.str name tk) name v false)
   (λ fin s' => match fin with | .done f => R (.ok f) s' | .again c' => c'.quiet = true /\ codeAny (model prog w) A c' R s') (λ e s' => R (.error e) s') s) :
  codeAny (model prog w) A (.call (.builtin "object.__setattr__") ⟨[.ref x, .str name tk, v], []⟩) R s := by
 have SF := PySem.F.store_object;have sub : Looks (model prog w) s.heap (isInstance (.ref x) (.type "object")) true := I.type.andThen (PySem.W.looks_mroIn X (by unfold mroIn;rw [hc, Option.bind_some, hm];rfl));refine codeAny_call_builtin SF.slot.plain SF.entry (@PySem.W.check_slot (model prog w) _ _ s "object.__setattr__" "object" "__setattr__" (.ref x) [.str name tk, v] [] _ SF.kind SF.split sub (SF.args (.ref x) (.str name tk) v) ?_);have hm' : Looks (model prog w) s.heap (mroOf (.ref C)) cd.mro := (looks_clsIn X hc).andThen .now;have L3 : Looks (model prog w) s.heap (storeTaker? none) none := .now;rw [PySem.W.osa_eq, refuse_eq];refine wpAny_bind (wpAny_bind (I.type.here (wpAny_bind (hm'.here ?_))));rw [hm, refuseLoop_ref, refuseLoop_ref, PySem.F.store_ValueError.passes];exact wpAny_pure (wpAny_bind (I.type.here (wpAny_bind ((looks_findIn X ha).here (wpAny_bind (L3.here h))))))
theorem zay {E : Value -> Shared -> Prop} {o : Obj} {vs : Array Value} {name : Str} {v : Value} {Q : Unit -> Shared -> Prop} (X : K.In s.heap) (f : XS K C name) (hx : s.heap.get? x = some o) (hc : o.cls = .ref C) (hd : o.dict = none) (hv : o.data = .fields vs)
  (h : ∀ h' tk D, s.heap.get? D = none -> D ≠ x -> h'.get? x = some { o with dict := some D } -> h'.Ns1 D (λ y => if y = name then some v else none) -> (∀ b o', b ≠ x -> s.heap.get? b = some o' -> h'.get? b = some o') -> Q () { s with heap := h', toks := tk }) :
  wpAny (model prog w) A (setAttr (.ref x) name v) Q E s := by
 have I := Xx hx hc hd hv;obtain ⟨cd, W, hcd, hm⟩ := f.mr;refine PySem.W.set_plain X I f.sa (VZ (s := { s with toks := s.toks + 1 }) X I hcd hm f.ln ?_);obtain ⟨cd', hcd', hdd⟩ := any_some f.hd;rw [hcd] at hcd';cases hcd';obtain ⟨oc, od, oda, osl⟩ := o;dsimp only at hc hd hv;subst hc hd hv;obtain ⟨hh, g, dr, t, os⟩ := s;dsimp only at hx X I h ⊢;refine wpAny_bind (wpAny_pure (wpAny_bind (wpAny_bind (wpAny_loadPart hx (wpAny_bind ((looks_clsIn X hcd).at ?_))))));rw [hdd];have hxs : x ≠ hh.objs.size := Nat.ne_of_lt (Heap.lt_size hx);have hx₁ : (hh.push { cls := .type "dict", data := .dict #[] }).get? x = some ⟨.ref C, none, .fields vs, osl⟩ := Heap.get?_push_of_some _ hx;have hgd : ((hh.push { cls := .type "dict", data := .dict #[] }).update x λ o => { cls := o.cls, dict := some hh.objs.size, data := o.data, slots := o.slots }).get? hh.objs.size = some { cls := .type "dict", data := .dict #[] } :=
  (Heap.get?_update_ne _ _ _ _ hxs.symm).trans (Heap.get?_push_at rfl rfl)
 have hnd : ((hh.push { cls := .type "dict", data := .dict #[] }).update x λ o => { cls := o.cls, dict := some hh.objs.size, data := o.data, slots := o.slots }).Ns hh.objs.size (λ _ => none) :=
  ⟨_, #[], _, hgd, rfl, λ e he => absurd he (by simp), λ _ => rfl⟩
 refine wpAny_bind (wpAny_alloc' ?_);refine wpAny_bind (wpAny_update' hx₁ ?_);refine wpAny_pure ?_;show wpAny _ _ (storeInDict hh.objs.size (.str name (t + 1)) name v) _ _ _
 unfold storeInDict newKeyGuard;refine wpAny_bind (wpAny_pure (wpAny_bind (wpAny_nsSet1 (Heap.Ns1.of_empty hnd) λ h' hn' hs => ?_)));obtain ⟨oD, esD, epD, hoD, hdD, hcD⟩ := hn'.count (Within.cons name v Within.nil);refine wpAny_bind (wpAny_lookBehind hoD (by rw [hdD];exact pastItsLine_dict (Nat.le_trans hcD (by rw [length_cons, length_nil, sizeLine_eq];lia))) ?_);refine wpAny_pure (h h' _ hh.objs.size (Heap.get?_none_of_le (Nat.le_refl _)) hxs.symm ?_ hn' λ b ob hbx hb => ?_)
 ·exact (hs.2 x hxs).trans (Heap.get?_update_self _ hx₁ rfl)
 ·exact (hs.2 b (Nat.ne_of_lt (Heap.lt_size hb))).trans ((Heap.get?_update_ne _ _ _ _ hbx).trans (Heap.get?_push_of_some _ hb))
end
end L2
namespace L2
open PySem PySem.Spec PySem.Calls PyProof.Rows
open Builtin Builtin.ObjectAttr
def j5 (a : Addr) (v : Value) : HO := .ext λ h => ∃ o t0, h.get? a = some o /\ ExC o v /\ o.data = .fields #[.ref t0, .none, .none, .none, .bool false, .none]
def drop (H : Hp) (a : Addr) : Hp := λ b => if b = a then none else H b
theorem xQ {H : Hp} {a : Addr} : drop H a a = none := if_pos rfl
theorem Za {H : Hp} {a b : Addr} (h : b ≠ a) : drop H a b = H b := if_neg h
theorem zbq {H : Hp} {a D : Addr} {x y z : HO} (h : H a = none) (n : D ≠ a) : drop (upd (upd (upd H a x) D y) a z) a = upd H D y := by
 funext b
 by_cases e : b = a
 ·subst e;rw [xQ, upd_ne (Ne.symm n), h]
 ·rw [Za e, upd_ne e];by_cases d : b = D
  ·subst d;rw [upd_same, upd_same]
  ·rw [upd_ne d, upd_ne e, upd_ne d]
theorem Jx {a : Addr} {v : Value} {h : Heap} (x : ∃ o t0, h.get? a = some o /\ ExC o v /\ o.data = .fields #[.ref t0, .none, .none, .none, .bool false, .none]) {P : Program} {w : World} {H : Hp} : ObjOk P w H h a (j5 a v) := by
 refine ⟨x, let ⟨o, _, e, _⟩ := x;⟨o, e⟩, λ h1 h2 p k => ?_⟩;obtain ⟨o, t, e, r⟩ := p;exact ⟨o, t, k o e, r⟩
section
variable {X : Cx} {pins : List (Addr × Obj)} {σ : St} {H : Hp} {s : Shared} {a C : Addr}
theorem Inv.unseen (I : Inv X pins σ H s) {b : Addr} (h : s.heap.get? b = none) : H b = none := by
 cases e : H b with
 | none => rfl
 | some u =>
  obtain ⟨o', e'⟩ := (I.hok b u e).there;rw [h] at e';cases e'
theorem Inv.untrack {φ : Heap -> Prop} (I : Inv X pins σ H s) (h : H a = some (.ext φ)) (ga : X.s₀.heap.get? a = none) : Inv X pins σ (drop H a) s := by
 have ne : ∀ {b u}, H b = some u -> (∀ φ, u ≠ .ext φ) -> drop H a b = some u := λ {b u} e n => by
  rw [Za (λ z => by subst z;rw [h] at e;exact n φ (Option.some.inj e).symm)];exact e
 have nn : ∀ {b}, H b = none -> drop H a b = none := λ {b} e => by
  by_cases z : b = a
  ·rw [z, xQ]
  ·rw [Za z];exact e
 refine ⟨I.ok, I.os, I.bare, ⟨I.base.keep, I.base.slot, λ b o e n hx => nn (I.base.free b o e n hx), I.base.there, λ b xs e => ne (I.base.tups b xs e) (λ φ z => nomatch z), λ b o u e => ne (I.base.frzs b o u e) (λ φ z => nomatch z), λ b ps e => ?_⟩, I.loc, I.cell, nn I.free, λ x c e => nn (I.freeC x c e), λ p hp => ?_, λ b u e => ?_, I.len⟩
 ·obtain ⟨more, q⟩ := I.base.tbls b ps e;exact ⟨more, ne q (λ φ z => nomatch z)⟩
 ·obtain ⟨e, n, r⟩ := I.pin p hp;exact ⟨e, nn n, r⟩
 ·have nb : b ≠ a := λ z => by rw [z, xQ] at e;cases e
  rw [Za nb] at e;exact (I.hok b u e).stay (λ _ _ _ q => q) (λ c q => ne q (λ φ z => nomatch z)) λ c xs q => ne q (λ φ z => nomatch z)
theorem JQ {A : Around} {E : Value -> Shared -> Prop} {f : Str} {y : V} {u : Value} {Q : Unit -> Shared -> Prop} (I : Inv X pins σ H s) (e : H a = some (j5 a (.ref C))) (xs : XS X.K C f) (ry : RelV y u)
  (h : ∀ s' (D : Addr), H D = none -> D ≠ a -> Inv X pins σ (upd (upd H D (.xd [(f, y)])) a (j5 a (.int D C))) s' -> Q () s') : wpAny (model X.prog X.w) A (setAttr (.ref a) f u) Q E s := by
 obtain ⟨⟨o, t0, ho, ⟨hc, hd⟩, hv⟩, _⟩ := (show ObjOk X.prog X.w H s.heap a (j5 a (.ref C)) from I.hok a _ e);refine zay I.kIn xs ho hc hd hv λ h' tk D gD Dne hx ns keep => h _ D (I.unseen gD) Dne ?_;have HD := I.unseen gD;have ne : ∀ {b v}, H b = some v -> (∀ φ, v ≠ .ext φ) -> upd (upd H D (.xd [(f, y)])) a (j5 a (.int D C)) b = some v := λ {b v} q n => by
  have nb : b ≠ a := λ z => by subst z;rw [e] at q;exact n _ (Option.some.inj q).symm
  rw [upd_ne nb, upd_ne (ne_of_none q HD)];exact q
 have na : ∀ {b}, H b = none -> b ≠ a := λ {b} q z => by rw [z, e] at q;cases q
 refine I.un (h' := h') (t' := tk) ⟨λ b ob q n _ _ => keep b ob (na n) q, λ b ob q n _ _ => ⟨ob.slots, keep b ob (na n) q⟩, λ b ob q n _ => ?_, λ b ob q _ => ?_, λ b xs q => ne q (λ φ z => nomatch z), λ b ob v q => ne q (λ φ z => nomatch z), λ b ps q => ⟨#[], by rw [ne q (λ φ z => nomatch z)];simp⟩⟩ λ b v q => ?_
 ·have nd : b ≠ D := λ z => by rw [z, gD] at q;cases q
  rw [upd_ne (na n), upd_ne nd];exact n
 ·by_cases z : b = a
  ·exact ⟨_, by rw [z];exact hx⟩
  ·exact ⟨ob, keep b ob z q⟩
 ·by_cases z : b = a
  ·subst z;rw [upd_same] at q;cases q;exact Jx (v := .int (D : Int) C) ⟨_, t0, hx, ⟨hc, rfl⟩, hv⟩
  ·rw [upd_ne z] at q;by_cases zd : b = D
   ·subst zd;rw [upd_same] at q;cases q;refine ⟨_, ns, λ g => ?_⟩;by_cases eg : g = f
    ·have : (g == f) = true := beq_iff_eq.mpr eg;simp only [List.lookup, this, if_pos eg];exact ry
    ·have : (g == f) = false := beq_eq_false_iff_ne.mpr eg;simp only [List.lookup, this, if_neg eg];exact trivial
   ·rw [upd_ne zd] at q;refine (I.hok b v q).stay (λ c ob hc' r => keep c ob ?_ r) (λ c r => ne r (λ φ z => nomatch z)) λ c xs r => ne r (λ φ z => nomatch z);rcases hc' with rfl|hc'
    ·exact z
    ·intro w';rw [w', e] at hc';cases hc'
end
end L2
namespace L2
open PySem PySem.Spec PySem.Calls PyProof.Rows
section
variable {prog : Program} {w : World} {A : Around} {E : Value -> Shared -> Prop} {s : Shared}
variable {nm q : Str} {C N : Addr} {bs bm bmB : List Value} {hdct : Bool} {sn : List Str} {sub : List Value} {ab : Bool} {col : Option Bool} {dd : Option Addr} {k0 k1 k2 k3 k5 : Option Value} {B newId initId : String}
theorem Wt (F : ExcBaseFacts B newId initId bmB) (T : OwnTail s.heap bmB bm) {e t0 : Addr} {o : Obj} {vs : Array Value} {rest : List Value} {Q : Value -> Shared -> Prop}
  (hC : s.heap.get? C = some (excClassObj nm q C N bs bm hdct sn sub ab col dd k0 k1 k2 k3 k5 newId)) (he : s.heap.get? e = some o) (hcls : o.cls = .ref C) (hd : o.data = .fields vs) (h0 : vs[0]? = some (.ref t0)) (hrest : rest.length <= sizeLine)
  (h : Q .none { s with heap := (s.heap.push { cls := .type "tuple", data := .seq rest.toArray }).update e (Obj.mapFields (·.setIfInBounds 0 (.ref s.heap.objs.size))) }) :
  wpAny (model prog w) A (call (.builtin initId) (.ref e :: rest)) Q E s := by
 obtain ⟨hh, g, d, t, os⟩ := s;refine wpAny_call (codeAny_call_builtin F.init.plain F.initEntry (wpAny_check_init_subT F T hC he hcls ?_));unfold Builtin.«BaseException.__init__»;dsimp only;rw [if_neg (by simp)];unfold newTuple Builtin.BaseException.bexcPut;have hsz : 0 < vs.size := (Array.getElem?_eq_some_iff.mp h0).1;have he₁ := Heap.get?_push_of_some (h := hh) { cls := .type "tuple", data := .seq rest.toArray } he;refine wpAny_bind (wpAny_newObj_type (wpAny_bind (wpAny_bind (wpAny_field he₁ hd h0 (wpAny_bind (wpAny_setField he₁ hd hsz ?_))))) (by show rest.toArray.size <= sizeLine;rw [size_toArray];exact hrest));exact wpAny_letGo (wpAny_pure h)
end
structure XB (K : PySem.W.Frag) (W : Addr) : Prop where
 ga : specialIn K (.ref W) "__getattribute__" = some (some (.builtin "type.__getattribute__"))
 rd : readsIn K W (.type "type") = true
 fc : findCls K (.ref W) (.type "type") "__init__" = some (.val (.builtin "ValueError.__init__"))
section
variable {X : Cx} {G : GK} {x : Str} {p pos apos : Pos} {e : Expr} {es : List Expr} {t : TA}
def tXIn (X : Cx) (x : Str) (t : TA) : TE := λ σ H Q => ∃ W, X.mg x = some (.ref W) /\ XB X.K W /\ t σ H λ vs H1 => ∃ a C f z, vs = [.ref a, .str z] /\ H1 a = some (j5 a (.ref C)) /\ XCI X.K C f /\ Q .non H1
theorem zcV {pl : Sem Bool} (ha : PA X (e :: es) t) (hg : Gl X x := by rfl) (hdb : (x == ("__debug__" : Str)) = false := by decide)
  (hst : starEach (e :: es) X.env = (false, eval e X.env) :: starEach es X.env := by rfl) (hpl : (backTo pos (starEach es X.env)).any (·.1) = false := by rfl)
  (ht : eval (.Call (.Attribute (.Name x p) "__init__" apos) (e :: es) [] pos) X.env = (do
   let ov <- eval (.Name x p) X.env
   standAt apos.atName
   let (f, first) <- holding [ov] (getMethod ov "__init__" pl)
   callWith pos f first (backTo pos (starEach (e :: es) X.env)) (backToKw pos (keywordEach [] X.env))) := by rfl) :
  PE X (.Call (.Attribute (.Name x p) "__init__" apos) (e :: es) [] pos) (tXIn X x t) := by
 intro pins s σ H Q I h;obtain ⟨W, hm, xb, h⟩ := h;refine methodCall_KW (pl := pl) (qJ I hg hm ?_ hdb) ht;refine PySem.W.method_cls I.kIn xb.ga (PySem.W.cls_value I.kIn xb.rd xb.fc rfl ?_);have I0 := I.tok (s.toks + 1);have hA := ha pos pins _ σ H _ I0 h;rw [hst] at hA ⊢;refine PySem.W.callWith_of (P := λ _ => True) (by show ((false || (backTo pos (starEach es X.env)).any (·.1)) || false) = false;rw [hpl];rfl) (λ h _ => ⟨.machine, .inr (.inl rfl), PySem.W.Looks.of_pure rfl⟩) (evalArgs_plain (wr hA λ us s1 vs H1 I1 r q => ⟨trivial, ?_⟩));obtain ⟨a, C, f, z, rfl, ea, xc, q⟩ := q;obtain ⟨u, u2, rfl, ru, ru2⟩ := r.two;obtain rfl : u = Value.ref a := ru;obtain ⟨tz, rfl⟩ := (show ∃ t, u2 = Value.str z t from ru2);obtain ⟨⟨o, t0, ho, hx, hv⟩, _⟩ := (show ObjOk X.prog X.w H1 s1.heap a (j5 a (.ref C)) from I1.hok a _ ea);obtain ⟨bm, N, nm, qn, bs, hdct, sn, sub, ab, col, dd, k0, k1, k2, k3, k5, mN, hC, hN, hi, T⟩ := WK I1.kIn xc;refine Wt F.excBase_ValueError T hC ho hx.1 hv rfl (by show 1 <= sizeLine;rw [sizeLine_eq];decide) ⟨.non, H1, ?_, rfl, q⟩;have he₁ := Heap.get?_push_of_some (h := s1.heap) { cls := .type "tuple", data := .seq [Value.str z tz].toArray } ho;have hs := Heap.get?_update_self (Obj.mapFields (·.setIfInBounds 0 (.ref s1.heap.objs.size))) he₁ (Obj.isFreed_of_fields (Obj.data_mapFields hv _));have I2 := I1.write (x := a) (e := a) (o := j5 a (.ref C)) (t' := s1.toks) (h' := (s1.heap.push { cls := .type "tuple", data := .seq [Value.str z tz].toArray }).update a (Obj.mapFields (·.setIfInBounds 0 (.ref s1.heap.objs.size)))) (by rw [ea];exact True.intro) (.inl rfl)
  (λ b u hb q' => (Heap.get?_update_other _ _ (Ne.symm hb)).trans (Heap.get?_push_of_some _ q')) ⟨_, hs⟩ (Jx ⟨_, s1.heap.objs.size, hs, hx.map, by rw [Obj.data_mapFields hv];rfl⟩)
 have eH : upd H1 a (j5 a (.ref C)) = H1 := by
  funext b
  by_cases zb : b = a
  ·subst zb;rw [upd_same, ea]
  ·rw [upd_ne zb]
 rw [eH] at I2;exact I2
end
end L2
namespace L2
open PySem PySem.Spec PySem.Calls PyProof.Rows
section
variable {M : Model} {A : Around} {E : Value -> Shared -> Prop} {env : Env}
variable {nm q : Str} {C N : Addr} {bs bm : List Value} {hdct : Bool} {sn : List Str} {sub : List Value} {ab : Bool} {col : Option Bool} {dd : Option Addr} {k0 k1 k2 k3 k5 : Option Value} {newId : String}
theorem wb {s : Shared} {x : Sem Value} {Q : Flow -> Shared -> Prop} (hbase : bm.contains (.type "BaseException") = true) (hh : A.handled = none)
  (h : wpAny M A x (λ v s₁ => ∃ e o, v = .ref e /\ s₁.heap.get? C = some (excClassObj nm q C N bs bm hdct sn sub ab col dd k0 k1 k2 k3 k5 newId) /\ s₁.heap.get? e = some o /\ o.cls = .ref C /\ (∃ t0, o.data = .fields #[.ref t0, .none, .none, .none, .bool false, .none]) /\ E (.ref e) s₁) E s) :
  wpAny M A (raiseStmt env (some x) none) Q E s := by
 have hcB : (Value.ref C :: bm).contains (.type "BaseException") = true := by rw [List.contains_cons, hbase, Bool.or_true]
 unfold raiseStmt;refine wpAny_bind (wpAny_mono h (λ v s₁ h₁ => ?_) λ _ _ x => x);obtain ⟨e, o, rfl, hC, he, hc, ⟨t0, hv⟩, hE⟩ := h₁;obtain ⟨hp, g, d, tk, os⟩ := s₁;obtain ⟨oc, od, oda, osl⟩ := o;dsimp only at hc hv;subst hc hv
 repeat (first|with_reducible refine wpAny_loadPart_at he ?_|with_reducible refine wpAny_loadPart_at hC ?_|(with_reducible refine wpAny_isSubtype_exc hC ?_;rw [hcB])|wp_step)
 exact wpAny_raiseNew_none hh hE
end
section
variable {prog : Program} {w : World} {A : Around} {E : Value -> Shared -> Prop} {s : Shared} {env : Env}
variable {nm q : Str} {C N : Addr} {bs bm : List Value} {hdct : Bool} {sn : List Str} {sub : List Value} {ab : Bool} {col : Option Bool} {dd : Option Addr} {k0 k1 k2 k3 k5 : Option Value} {newId : String}
theorem X4 {x : Str} {np cpos pos : Pos} {args : List Expr} {Q : Flow -> Shared -> Prop}
  (hbase : bm.contains (.type "BaseException") = true) (hh : A.handled = none) (hplain : (backTo cpos (starEach args env)).any (·.1) = false)
  (h : wpAny (model prog w) A (eval (.Name x np) env) (λ f s₁ => f = .ref C /\ wpAny (model prog w) A (evalArgs (.ref C) true (backTo cpos (starEach args env)) [])
   (λ a s₂ => a.kw = [] /\ s₂.heap.get? C = some (excClassObj nm q C N bs bm hdct sn sub ab col dd k0 k1 k2 k3 k5 newId) /\
    wpAny (model prog w) A (call (.ref C) a.pos) (λ v s₁ => ∃ e o, v = .ref e /\ s₁.heap.get? C = some (excClassObj nm q C N bs bm hdct sn sub ab col dd k0 k1 k2 k3 k5 newId) /\ s₁.heap.get? e = some o /\ o.cls = .ref C /\ (∃ t0, o.data = .fields #[.ref t0, .none, .none, .none, .bool false, .none]) /\ E (.ref e) s₁) E s₂) E s₁) E s) :
  wpAny (model prog w) A (exec (.Raise (some (.Call (.Name x np) args [] cpos)) none pos) env) Q E s := by
 rw [arm_exec_Raise]
 first
  | refine wpAny_bind (wpAny_standAt (wb (C := C) (nm := nm) (q := q) (N := N) (bs := bs) (bm := bm) (hdct := hdct) (sn := sn) (sub := sub) (ab := ab) (col := col) (dd := dd) (k0 := k0) (k1 := k1) (k2 := k2) (k3 := k3) (k5 := k5) (newId := newId) hbase hh (wpAny_bind (wpAny_mono (wpAny_Call_ofName (wpAny_mono h (λ f s₁ h₁ => ?_) λ _ _ x => x)) (λ v s₃ h₃ => wpAny_bind (wpAny_standAt (wpAny_pure h₃))) λ _ _ x => x))))
  | (simp only [evalOpt, Option.map];refine wpAny_bind (wpAny_standAt (wb (C := C) (nm := nm) (q := q) (N := N) (bs := bs) (bm := bm) (hdct := hdct) (sn := sn) (sub := sub) (ab := ab) (col := col) (dd := dd) (k0 := k0) (k1 := k1) (k2 := k2) (k3 := k3) (k5 := k5) (newId := newId) hbase hh (wpAny_bind (wpAny_mono (wpAny_Call_ofName (wpAny_mono h (λ f s₁ h₁ => ?_) λ _ _ x => x)) (λ v s₃ h₃ => wpAny_bind (wpAny_standAt (wpAny_pure h₃))) λ _ _ x => x)))))
  | (refine wpAny_bind (wpAny_standAt (wb (C := C) (nm := nm) (q := q) (N := N) (bs := bs) (bm := bm) (hdct := hdct) (sn := sn) (sub := sub) (ab := ab) (col := col) (dd := dd) (k0 := k0) (k1 := k1) (k2 := k2) (k3 := k3) (k5 := k5) (newId := newId) hbase hh ?_));refine wpAny_bind (wpAny_mono (wpAny_Call_ofName (wpAny_mono h (λ f s₁ h₁ => ?_) λ _ _ x => x)) (λ v s₃ h₃ => wpAny_bind (wpAny_standAt (wpAny_pure h₃))) λ _ _ x => x))
 obtain ⟨rfl, h₁⟩ := h₁;unfold callWith;refine wpAny_bind (wpAny_holding (wpAny_mono h₁ (λ a s₂ h₂ => wpAny_bind (wpAny_standAt ?_)) λ _ _ x => x));obtain ⟨apos, akw⟩ := a;obtain ⟨hkw, hC, h₂⟩ := h₂;obtain rfl : akw = [] := hkw;obtain ⟨hp, g, d, tk, os⟩ := s₂;simp only [hplain];refine wpAny_bind (wpAny_keeperOf_exc hC ?_);exact wpAny_bind (wpAny_mono h₂ (λ v s₃ h₃ => wpAny_bind (wpAny_holding (wpAny_point (wpAny_pure h₃)))) λ _ _ x => x)
end
structure ICal (P : Program) (w : World) (K : PySem.W.Frag) (mg : Str -> Option Value) (base : Heap) (x : Str) (C : Addr) (k : Nat) (ps : List Str) (sp : Sp) : Prop where
 ex : ∃ f fd, mg x = some (.ref C) /\ XCI K C f /\ typeIn K (.ref f) = some (.type "function") /\ FnOk P w K mg base (CXr P w) k f fd ps sp /\ Binds K fd ps []
theorem ICal.mono {P : Program} {w : World} {K : PySem.W.Frag} {mg : Str -> Option Value} {base : Heap} {x : Str} {C : Addr} {j k : Nat} {ps : List Str} {sp : Sp} (c : ICal P w K mg base x C j ps sp) (h : j <= k := by decide) : ICal P w K mg base x C k ps sp := by
 obtain ⟨f, fd, a, b, c, d, e⟩ := c.ex;exact ⟨f, fd, a, b, c, d.mono h, e⟩
section
variable {X : Cx} {G : GK} {x n : Str} {np cpos pos hpos : Pos} {e₀ : Expr} {es : List Expr} {t : TA} {k : Nat}
def tRaiseI (X : Cx) (k : Nat) (x : Str) (G : GK) (t : TA) : TS := λ _ σ H => ∃ C ps sp, ICal X.prog X.w X.K X.mg X.base x C k ps sp /\ t σ H λ vs H1 => szl vs (∀ a, H1 a = none ->
 sp (.ref a :: vs) (upd H1 a (j5 a (.ref C))) (λ v H2 => v = .non /\ ∃ v', H2 a = some (j5 a v') /\ QR v' = some C /\ G v' σ (drop H2 a)) (λ _ _ _ => False))
theorem VT (B : Bod X) (hc : X.calm = true) (hr : Room (k + 1) X.A) (ha : PA (X.exg G) (e₀ :: es) t) (hg : Gl X x := by rfl) (hdb : (x == ("__debug__" : Str)) = false := by decide)
  (he : starEach (e₀ :: es) X.env = (false, eval e₀ X.env) :: starEach es X.env := by rfl) (hpl : (backTo cpos (starEach es X.env)).any (·.1) = false := by rfl) :
  PS (X.exg G) (.Raise (some (.Call (.Name x np) (e₀ :: es) [] cpos)) none pos) (tRaiseI X k x G t) := by
 intro pins s σ H D I h;obtain ⟨C, ps, sp, ⟨f, fd, hm, xc, hf, Fn, hb⟩, h⟩ := h;obtain ⟨tl, N, nm, q, bs, hdct, sn, sub, ab, col, dd, k0, k1, k2, k3, k5, mN, hC, hN, hni, T⟩ := WK I.ok.mod.kin xc;refine X4 (C := C) (nm := nm) (q := q) (N := N) (bs := bs) (bm := tl) (hdct := hdct) (sn := sn) (sub := sub) (ab := ab) (col := col) (dd := dd) (k0 := k0) (k1 := k1) (k2 := k2) (k3 := k3) (k5 := k5) (newId := "ValueError.__new__")
  (T.hasType PySem.F.excBase_ValueError.hasBase) (I.ok.hd hc) (by rw [he];show (false || (backTo cpos (starEach es X.env)).any (·.1)) = false;rw [hpl];rfl) (qJ I hg hm ⟨rfl, ?_⟩ hdb)
 have hA := ha cpos pins s σ H _ I h;rw [he] at hA ⊢;refine Calls.evalArgs_plain (thn hA λ us s2 ⟨vs, H2, I2, r, g⟩ => ⟨rfl, I2.bk _ _ hC, ?_⟩);obtain ⟨hl, g⟩ := Q2 g;have fresh : ∀ b, s2.heap.objs.size <= b -> s2.heap.get? b = none := λ b hb => Heap.get?_none_of_le hb;generalize hE : s2.heap.objs.size + 1 = a;have ea : s2.heap.get? a = none := fresh a (by lia);have Ha := I2.unseen ea;have hq := g a Ha;have hget : ((s2.heap.push { cls := .type "tuple", data := .seq us.toArray }).push { cls := .ref C, data := .fields #[.ref s2.heap.objs.size, .none, .none, .none, .bool false, .none] }).get? a = some { cls := .ref C, data := .fields #[.ref s2.heap.objs.size, .none, .none, .none, .bool false, .none] } := by
  subst hE;heap_get
 have I3 : Inv (X.exg G) pins σ (upd H2 a (j5 a (.ref C))) { s2 with heap := (s2.heap.push { cls := .type "tuple", data := .seq us.toArray }).push { cls := .ref C, data := .fields #[.ref s2.heap.objs.size, .none, .none, .none, .bool false, .none] } } :=
  (I2.kept (t' := s2.toks) (h' := s2.heap.push { cls := .type "tuple", data := .seq us.toArray }) λ b u z => Heap.get?_push_of_some _ z).laid (a := a) (o := j5 a (.ref C)) (t' := s2.toks) (λ b u z => Heap.get?_push_of_some _ z) (by rw [Heap.size_push];lia) (Jx (v := .ref C) ⟨_, s2.heap.objs.size, hget, ⟨rfl, rfl⟩, rfl⟩)
 have r2 : Vals (V.ref a :: vs) (Value.ref a :: us) := .cons rfl r;have hlen : (Value.ref a :: us ++ []).length = ps.length := by
  have e := r2.length;rw [Fn.len _ _ _ _ hq] at e;rw [append_nil];exact e.symm
 have hb2 := hb _ (Value.ref a :: us) I3.kIn hlen;rw [append_nil] at hb2;have fin := Fn.run _ X.stack _ _ ⟨Value.ref a :: us, []⟩ (Value.ref a :: us) _ _ (λ _ _ _ => False) (hr.make C us []) (I3.unwish.env0.make C us []) hb2 r2 hq;obtain ⟨hh, gg, dr, tt, oo⟩ := s2;refine wpAny_call (zai PySem.F.excBase_ValueError (T.keeps I2.bk) (I2.bk _ _ hC) (hN.keeps I2.bk) hni (λ self => PySem.W.bind_fn I2.kIn self hf) (by rw [<- r.length];exact hl) ?_);have hE' : hh.objs.size + 1 = a := hE;rw [hE'];refine codeAny_mono fin λ r' s' z => ?_;cases r' with
 | error e =>
  obtain ⟨_, _, _, _, _, _, _, _, _, zz⟩ := (show CXr X.prog X.w X.stack _ _ (λ _ _ _ => False) e s' from z);exact zz.elim
 | ok fl =>
  cases fl with
  | ret u =>
   obtain ⟨v, H', I4, rv, rfl, v', hv', hcl, gg'⟩ := I3.after z;refine ⟨rv, ?_⟩;obtain ⟨⟨o, t0, ho, hx, hd⟩, _⟩ := (show ObjOk X.prog X.w H' s'.heap a (j5 a v') from I4.hok a _ hv');refine ⟨a, o, rfl, I4.bk _ _ hC, ho, hx.of hcl, ⟨t0, hd⟩, ?_⟩;have ga : X.s₀.heap.get? a = none := by
    cases e : X.s₀.heap.get? a with
    | none => rfl
    | some o' =>
     obtain ⟨o'', e''⟩ := I2.unwish.base.there a o' e (by rw [B.ex];simp);rw [ea] at e'';cases e''
   have I5 := I4.unwish.untrack hv' ga;refine vj (v := v') I5 B.st B.fr B.ex ho hx hd ga xQ (λ p hp z => ?_) (.inl rfl) λ s'' I6 x => ?_
   ·have := (I2.pin p hp).1;rw [z, ea] at this;cases this
   ·exact ⟨a, v', σ, _, rfl, I6.nopins, x.less λ p hp => mem_append_left _ hp, gg'⟩
  | next => exact False.elim z
  | brk => exact False.elim z
  | cont => exact False.elim z
end
end L2
namespace L2
open PySem PySem.Spec PySem.Calls PyProof.Rows
section
variable {prog : Program} {w : World} {A : Around} {E : Value -> Shared -> Prop} {s : Shared} {K : PySem.W.Frag} {a C : Addr} {o : Obj} {od : Obj} {name : Str} {v : Value}
theorem zcb {expr : Bool} {Q : Value -> Shared -> Prop} (X : K.In s.heap) (f : XI K C) (ln : findIn K (.ref C) name = some none) (I : InstAt s.heap a o C (some od)) (hl : lookIn name od = some (some v)) (hh : handedIn v = true)
  (h : Q v { s with toks := s.toks + 1 }) : wpAny (model prog w) A (getAttr (.ref a) name expr) Q E s := by
 have hf : findObj K C (some od) name = some (.value v) := PySem.W.findObj_own f.hd ln rfl hl;obtain ⟨hh', g, d, t, os⟩ := s;have T0 := I.type (M := model prog w);have T1 := looks_findIn (M := model prog w) X f.ga;have T2 := PySem.W.looks_find (M := model prog w) X I hf;have T3 := looks_findIn (M := model prog w) X f.gt;have T4 := looks_subIn (M := model prog w) X f.mb;have f3 := F.attr_ValueError.ga.bind (.ref a);unfold getAttr getAttrBy;refine wpAny_bind (wpAny_mkText (wpAny_holding (wpAny_bind (T0.at (wpAny_bind (T1.at ?_))))));dsimp only;have nga : (onTheHeap (Value.ref C) && Value.builtin "BaseException.__getattribute__" == Value.builtin "object.__getattribute__") = false := by
  have z : (Value.builtin "BaseException.__getattribute__" == Value.builtin "object.__getattribute__") = false := by decide +kernel
  rw [z, Bool.and_false]
 rw [nga, if_neg Bool.false_ne_true];unfold getAttrByItsOwn
 repeat (any_goals (first|assumption|with_reducible refine T0.at ?_|with_reducible refine T3.at ?_|with_reducible refine T1.at ?_|wp_step))
 rw [show (expr && onTheHeap (Value.builtin "BaseException.__getattribute__")) = false by rw [show onTheHeap (Value.builtin "BaseException.__getattribute__") = false from rfl, Bool.and_false], if_neg Bool.false_ne_true]
 repeat (any_goals (first|assumption|with_reducible refine T0.at ?_|with_reducible refine T3.at ?_|with_reducible refine T1.at ?_|wp_step))
 refine codeAny_call_builtin F.attr_ValueError.ga.plain F.entry_bexc_ga ?_;have hk : builtinKind "BaseException.__getattribute__" = some .slot := by decide +kernel
 have hsp : splitId "BaseException.__getattribute__" = some ("BaseException", "__getattribute__") := by decide +kernel
 have hav := F.args_bexc_ga (.ref a) (Value.str name t);simp only [checkBuiltinCall, hk, hsp];refine wpAny_bind ?_;unfold isInstance
 repeat (first|with_reducible refine T2.at ?_|with_reducible refine T0.at ?_|with_reducible refine T4.at ?_|wp_step)
 show wpAny _ _ (handedOut v) _ _ _
 rw [PySem.W.handedOut_of hh];exact wpAny_pure h
end
section
variable {X : Cx} {e o value : Expr} {f : Str} {pos pos' : Pos} {ta tv : TE}
def tFldX (K : PySem.W.Frag) (ta : TE) (f : Str) : TE := λ σ H Q => ta σ H λ x H1 => ∃ a C D fs v, x = .ref a /\ H1 a = some (wm a (.int D C)) /\ H1 D.toNat = some (.xd fs) /\ XI K C /\ findIn K (.ref C) f = some none /\ fs.lookup f = some v /\ Q v H1
theorem Jn (he : PE X e ta) (hb : attributeBase e f X.env (eval e X.env) = eval e X.env) : PE X (.Attribute e f pos) (tFldX X.K ta f) := by
 intro pins s σ H Q I h;refine VB hb (thn (he pins s σ H _ I h) λ u s1 ⟨x, H1, I1, rx, a, C, D, fs, v, ex, ea, ed, xi, ln, l, q⟩ => ?_);subst ex;obtain rfl : u = Value.ref a := rx;obtain ⟨⟨o, vs, ho, hx, hv⟩, _⟩ := (show ObjOk X.prog X.w H1 s1.heap a (wm a (.int D C)) from I1.hok a _ ea);obtain ⟨mA, ns, r⟩ := (show ObjOk X.prog X.w H1 s1.heap D.toNat (.xd fs) from I1.hok _ _ ed);obtain ⟨u, hu, ru⟩ := RelO.some_of (v := v) (o := mA f) (by rw [<- l];exact r f);obtain ⟨od, hD, hl⟩ := QC ns;exact zcb I1.kIn xi ln (QO ho hx.1 hx.2 hv hD) (by rw [hl, hu]) (QM ru) ⟨v, H1, I1.tok _, ru, q⟩
def sFldX (K : PySem.W.Frag) (ta tv : TE) (f : Str) : TS := λ D σ H => tv σ H λ y H1 => ta σ H1 λ x H2 => ∃ a C, x = .ref a /\ H2 a = some (j5 a (.ref C)) /\ XS K C f /\ ∀ d : Addr, H2 d = none -> d ≠ a -> D.nx σ (upd (upd H2 d (.xd [(f, y)])) a (j5 a (.int d C)))
theorem zbW (ha : PE X o ta) (hv : PE X value tv) (hs : swapsWith value (some (.Attribute o f pos')) pos.line X.env = pure false) : PS X (.Assign [.Attribute o f pos'] value pos) (sFldX X.K ta tv f) := by
 intro pins s σ H D I h;refine plainObj_wpAny_Assign_Attribute (thn (hv pins s σ H _ I h) λ u s1 ⟨y, H1, I1, ry, q⟩ => thn (ha pins s1 σ H1 _ I1 q) λ ov s2 ⟨x, H2, I2, rx, a, C, ex, ea, xs, q2⟩ => ?_) hs;subst ex;obtain rfl : ov = Value.ref a := rx;exact JQ I2 ea xs ry λ s3 d hd dn I3 => ⟨σ, _, I3, q2 d hd dn⟩
end
end L2
namespace L2
open PySem PySem.Spec PySem.Calls PyProof.Rows
section
variable {K : PySem.W.Frag} {H : Hp} {Q : VK}
theorem vX {a C : Addr} {D : Int} {fs : List (Str × V)} {c : V} {u : Value} {b : Bool} (h : H a = some (wm a (.int D C))) (hd : H D.toNat = some (.xd fs)) (f : XI K C) (hu : zbv c = some u) (k : kitOne K (.ref C) u = some b) (q : Q (.bl b) H) : Jh K [.ref a, c] H Q :=
 ⟨_, _, _, _, rfl, .exd h hd f, .inl ⟨_, hu, k⟩, q⟩
theorem zbg {a C p : Addr} {D : Int} {fs : List (Str × V)} {cs : List V} {us : List Value} {b : Bool} (h : H a = some (wm a (.int D C))) (hd : H D.toNat = some (.xd fs)) (f : XI K C) (hp : H p = some (.tup cs)) (hu : QQ cs = some us) (k : kitAny K (.ref C) us = some b) (q : Q (.bl b) H) : Jh K [.ref a, .ref p] H Q :=
 ⟨_, _, _, _, rfl, .exd h hd f, .inr ⟨_, _, _, rfl, hp, hu, k⟩, q⟩
end
structure FI (K : PySem.W.Frag) (C : Addr) (qual : Str) (st : Stmt) (ps : List Str) : Prop where
 ex : ∃ f fd, Fun K "__init__" qual st f fd /\ XCI K C f /\ typeIn K (.ref f) = some (.type "function") /\ Binds K fd ps []
theorem FI.cal {P : Program} {w : World} {K : PySem.W.Frag} {mg : Str -> Option Value} {base : Heap} {x : Str} {C : Addr} {qual : Str} {st : Stmt} {ps : List Str} {k : Nat} {sp : Sp} (h : FI K C qual st ps) (gl : mg x = some (.ref C))
  (ok : ∀ {f fd}, Fun K "__init__" qual st f fd -> FnOk P w K mg base (CXr P w) k f fd ps sp) : ICal P w K mg base x C k ps sp := by
 obtain ⟨f, fd, F, x, ty, b⟩ := h.ex;exact ⟨f, fd, gl, x, ty, ok F, b⟩
theorem fi_mk {K : PySem.W.Frag} {C : Addr} {qual : Str} {st : Stmt} {ps : List Str} {f : Addr} {oc : Value} {od an : Option Addr} {osl : Array (Option Value)} {kV doc pm cdv ct : Value}
  (a : findIn K (.ref C) "__init__" = some (some (.ref f))) (x : WA K C f = true) (ty : typeIn K (.ref f) = some (.type "function")) (l : K.lookup f = some ⟨oc, od, .func (fnOf "__init__" qual (qr st) (qe st) (zk st) .none kV doc pm an cdv ct), osl⟩)
  (c : codeIn K cdv qual = true) (k : keepIn K (.ref f) = true)
  (hb : ∀ (kV doc pm : Value) (an : Option Addr) (cdv ct : Value) (us : List Value), us.length = ps.length -> bindArgs (fnOf "__init__" qual (qr st) (qe st) (zk st) .none kV doc pm an cdv ct) ⟨us, []⟩ = pure (ps.zip us)) : FI K C qual st ps :=
 ⟨f, _, jx l c k, ⟨x⟩, ty, (jx l c k).binds hb⟩
theorem xs_mk {K : PySem.W.Frag} {C : Addr} {n : Str} {cd : ClassData} (sa : findIn K (.ref C) "__setattr__" = some (some (.builtin "object.__setattr__"))) (ln : findIn K (.ref C) n = some none) (hd : hasDictIn K C = true)
  (c : clsIn K C = some cd) (m : ∃ W : Addr, cd.mro = .ref C :: .ref W :: bmV) : XS K C n := let ⟨W, m⟩ := m;⟨sa, ln, hd, cd, W, c, m⟩
end L2
namespace L2
open PySem PySem.Spec PySem.Calls PyProof.Rows
theorem VJ (x : Str) (l u : Option Int) : ∀ c ∈ (Txt.slice x l u).cps.toList, c ∈ x.cps.toList := by
 intro c hc;unfold Txt.slice at hc
 split at hc
 ·exact hc
 ·obtain ⟨i, _, hi⟩ := List.mem_filterMap.mp (by simpa using hc);exact mem_of_getElem? (by simpa using hi)
section
variable {X : Cx}
def zdZ : V -> Option Int -> Option Int -> Hp -> VK -> Prop := λ v _ _ H Q => ∃ x, v = .str x /\ x.length <= sizeLine /\ ∀ y : Str, y.length <= x.length -> (∀ c ∈ y.cps.toList, c ∈ x.cps.toList) -> Q (.str y) H
theorem WR : SlR X zdZ := by
 intro pins s σ H v u vl vu lo hi sl Q I rx hs pl pu h;obtain ⟨x, rfl, hx, q⟩ := h;obtain ⟨t, rfl⟩ := rx;refine ⟨"str", _, F.slot_str_getitem.lookup, typeIs_str _ _ _, ?_⟩;obtain ⟨l, hl⟩ : ∃ l : Option (Int × Tok), vl = partValue l := by
  cases pl with
  | none => exact ⟨none, rfl⟩
  | int => exact ⟨some ⟨_, _⟩, rfl⟩
 obtain ⟨r, hr⟩ : ∃ l : Option (Int × Tok), vu = partValue l := by
  cases pu with
  | none => exact ⟨none, rfl⟩
  | int => exact ⟨some ⟨_, _⟩, rfl⟩
 subst hl hr;refine wpAny_getItem_str_slice (l := l) (u := r) (st := none) hs rfl (post_val_or_str ⟨Nat.le_trans (Txt.slice_le x _ _) hx, λ t' k => ?_⟩);exact ⟨.str _, H, I.tok _, ⟨_, rfl⟩, q _ (Txt.slice_le x _ _) (VJ x _ _)⟩
def zdC : R2 := λ v u H Q => ∃ (x : Str) (n : Int), v = .str x /\ u = .int n /\ x.length <= 64 /\ -1000000 <= n /\ n <= 10000 /\ Q (.str (Txt.mul x n)) H
theorem Vc : OpR X (binaryOp .Mult) zdC := by
 intro pins s σ H v u a b Q I rv ru h;obtain ⟨x, n, rfl, rfl, h1, h2, h3, q⟩ := h;obtain ⟨t, rfl⟩ := rv;obtain ⟨t', rfl⟩ := ru;exact SB.mul (mulOk_of 64 10000 h1 (by lia) (by lia) (by decide) (by decide)) λ t' k => ⟨.str _, H, I.tok _, ⟨_, rfl⟩, q⟩
end
end L2
namespace Mine
theorem zcd {a b : Int} (h : ¬ (a = 0 /\ b = 0)) : 1 <= (Int.gcd a b : Int) := by
 have : 0 < Int.gcd a b := Int.gcd_pos_iff.mpr (by lia)
 lia
end Mine
namespace Mine
structure IsLcm (ns : List Int) (l : Int) : Prop where
 pos : 0 < l
 dv : ∀ n ∈ ns, n ∣ l
 least : ∀ m : Int, (∀ n ∈ ns, n ∣ m) -> l ∣ m
theorem IsLcm.nil : IsLcm [] 1 := ⟨by decide, (λ _ h => nomatch h), λ m _ => Int.one_dvd m⟩
theorem zc6 {a b : Int} (ha : 0 < a) (hb : 0 < b) : a / (Int.gcd a b : Int) * b = (Nat.lcm a.natAbs b.natAbs : Int) := by
 have g : (Int.gcd a b : Int) ∣ a := Int.gcd_dvd_left ..;obtain ⟨k, hk⟩ := g;have gp : 0 < (Int.gcd a b : Int) := by have := zcd (a := a) (b := b) (by lia);lia
 have e1 : a / (Int.gcd a b : Int) = k := by
  conv => lhs;rw [hk]
  have hk' := hk;rw [Int.mul_comm (Int.gcd a b : Int) k];have e2 : Int.gcd (k * (Int.gcd a b : Int)) b = Int.gcd a b := by rw [Int.mul_comm, <- hk]
  rw [e2];exact Int.mul_ediv_cancel _ (by lia)
 have hkn : 0 < k := by
  rcases (by lia : k <= 0 \/ 0 < k) with h|h
  ·have := Int.mul_nonpos_of_nonneg_of_nonpos (Int.le_of_lt gp) h
   lia
  ·exact h
 have hg : Nat.gcd a.natAbs b.natAbs * Nat.lcm a.natAbs b.natAbs = a.natAbs * b.natAbs := Nat.gcd_mul_lcm ..;have ea : a.natAbs = Nat.gcd a.natAbs b.natAbs * k.natAbs := by
  have := congrArg Int.natAbs hk;rw [Int.natAbs_mul, Int.natAbs_natCast] at this;exact this
 have gp' : 0 < Nat.gcd a.natAbs b.natAbs := by
  have : (Nat.gcd a.natAbs b.natAbs : Int) = (Int.gcd a b : Int) := rfl
  lia
 have e3 : Nat.lcm a.natAbs b.natAbs = k.natAbs * b.natAbs := by
  apply Nat.eq_of_mul_eq_mul_left gp';rw [hg, <- Nat.mul_assoc, <- ea]
 rw [e1, e3];rw [Int.natCast_mul];have h1 : k = (k.natAbs : Int) := by lia
 have h2 : b = (b.natAbs : Int) := by lia
 rw [<- h1, <- h2]
theorem xW {a b : Int} (h : a ∣ b) : a.natAbs ∣ b.natAbs := Int.natAbs_dvd_natAbs.mpr h
theorem IsLcm.step {ns : List Int} {l p : Int} (x : IsLcm ns l) (hp : 0 < p) : IsLcm (ns ++ [p]) (l / (Int.gcd l p : Int) * p) := by
 rw [zc6 x.pos hp];have lp : 0 < l.natAbs := by have := x.pos;lia
 have pp : 0 < p.natAbs := by lia
 refine ⟨?_, λ n hn => ?_, λ m hm => ?_⟩
 ·have := Nat.lcm_pos lp pp
  lia
 ·rcases List.mem_append.mp hn with h|h
  ·have h1 := x.dv n h;refine Int.dvd_trans h1 ?_;rw [<- Int.natAbs_dvd_natAbs, Int.natAbs_natCast];exact Nat.dvd_lcm_left ..
  ·rw [List.mem_singleton.mp h, <- Int.natAbs_dvd_natAbs, Int.natAbs_natCast];exact Nat.dvd_lcm_right ..
 ·have h1 := x.least m λ n hn => hm n (mem_append_left _ hn);have h2 := hm p (mem_append_right _ (List.mem_singleton.mpr rfl));rw [<- Int.natAbs_dvd_natAbs, Int.natAbs_natCast];exact Nat.lcm_dvd (xW h1) (xW h2)
end Mine
namespace L2
open PySem PySem.Spec PyProof.Rows
section
variable {X : Cx} {K : PySem.W.Frag} {σ : St} {H : Hp} {Q : VK} {D : Ends}
theorem rd_iq {i : Int} {P : Int -> Prop} : iq (.int i) P = P i := rfl
theorem rd_bq {b : Bool} {P : Bool -> Prop} : bq (.bl b) P = P b := rfl
theorem rd_nq {P : Prop} : nq .non P = P := rfl
theorem rd_lq {v : V} {P : V -> Prop} : lq [v] P = P v := rfl
theorem rd_vq {v : V} {P : V -> Prop} : vq (some (some v)) P = P v := rfl
theorem rd_addI {i j : Int} : xy K (.int i) (.int j) H Q = Q (.int (i + j)) H := rfl
theorem rd_addS {i j : Str} : xy K (.str i) (.str j) H Q = (i.length + j.length <= sizeLine /\ Q (.str (i ++ j)) H) := rfl
theorem rd_mc {α β : Type} {f : α -> β} {a : α} {l : List α} : List.map f (a :: l) = f a :: List.map f l := rfl
theorem rd_mn {α β : Type} {f : α -> β} : List.map f [] = [] := rfl
theorem rd_itT {A B : Prop} : (if true = true then A else B) = A := rfl
theorem rd_itF {A B : Prop} : (if false = true then A else B) = B := rfl
theorem rd_is0 {A B : Prop} : (if V.non = V.non then A else B) = A := rfl
theorem rd_is1 {a : Addr} {A B : Prop} : (if V.ref a = V.non then A else B) = B := rfl
theorem rd_is2 {a : Int} {A B : Prop} : (if V.int a = V.non then A else B) = B := rfl
theorem rd_in0 {A B : Prop} : (if ¬ V.non = V.non then A else B) = B := rfl
theorem rd_in1 {a : Addr} {A B : Prop} : (if ¬ V.ref a = V.non then A else B) = A := rfl
theorem rd_in2 {a : Int} {A B : Prop} : (if ¬ V.int a = V.non then A else B) = A := rfl
theorem rd_sz0 {P : Prop} : szl [] P = P := rfl
section
variable {P : Prop} {a b c d e f g h i : V}
theorem rd_sz1 : szl [a] P = P := rfl
theorem rd_sz2 : szl [a, b] P = P := rfl
theorem rd_sz3 : szl [a, b, c] P = P := rfl
theorem rd_sz4 : szl [a, b, c, d] P = P := rfl
theorem rd_sz5 : szl [a, b, c, d, e] P = P := rfl
theorem rd_sz6 : szl [a, b, c, d, e, f] P = P := rfl
theorem rd_sz7 : szl [a, b, c, d, e, f, g] P = P := rfl
theorem rd_sz8 : szl [a, b, c, d, e, f, g, h] P = P := rfl
theorem rd_sz9 : szl [a, b, c, d, e, f, g, h, i] P = P := rfl
end
def Vo : Nat -> List Stmt -> Bool
 | 0, _ => false
 | n + 1, b => match b.getLast? with
  | some (.Return ..) => true
  | some (.Raise ..) => true
  | some (.Continue ..) => true
  | some (.Break ..) => true
  | some (.If _ b e _) => Vo n b && Vo n e
  | _ => false
def zdP : Stmt -> Bool
 | .For .. => true
 | .While .. => true
 | .Try .. => true
 | .If _ b e _ => !Vo 9 b && !Vo 9 e
 | _ => false
theorem fa {X : Cx} {st : Stmt} {t : TS} (_ : zdP st = true) (p : PS X st t) : PS X st t := p
structure Vr (X : Cx) (i : Nat) (x : Str) : Prop where
 n : X.N[i]? = some x
 v : Vis X.env.scope x
 d : (x == ("__debug__" : Str)) = false
 c : (x == ("__classdict__" : Str)) = false
theorem pq {X : Cx} (i : Nat) {x : Str} {pos : Pos} (h : Vr X i x := by walk_at "v") : PE X (.Name x pos) (tVar i) := zcW h.n h.v h.d h.c
theorem rd_trB {b : Bool} {P : Bool -> Hp -> Prop} : trq K (.bl b) H P = P b H := rfl
theorem rd_trI {i : Int} {P : Bool -> Hp -> Prop} : trq K (.int i) H P = ∃ k, zam K (.int i) H k /\ P k H := rfl
theorem rd_trR {a : Addr} {P : Bool -> Hp -> Prop} : trq K (.ref a) H P = ∃ k, zam K (.ref a) H k /\ P k H := rfl
theorem rd_trS {x : Str} {P : Bool -> Hp -> Prop} : trq K (.str x) H P = ∃ k, zam K (.str x) H k /\ P k H := rfl
theorem rd_eqI {i j : Int} : X5 K (.int i) (.int j) H Q = Q (.bl (decide (i = j))) H := rfl
theorem rd_neI {i j : Int} : VQ K (.int i) (.int j) H Q = Q (.bl (!decide (i = j))) H := rfl
theorem rd_eqS {i j : Str} : X5 K (.str i) (.str j) H Q = Q (.bl (decide (i = j))) H := rfl
theorem rd_eqB {i j : Bool} : X5 K (.bl i) (.bl j) H Q = Q (.bl (decide (i = j))) H := rfl
theorem rd_eTI {i j : Int} : VR K (.int i) (.int j) H Q = if i = j then Q (.bl true) H else Q (.bl false) H := rfl
theorem rd_eTS {i j : Str} : VR K (.str i) (.str j) H Q = if i = j then Q (.bl true) H else Q (.bl false) H := rfl
theorem rd_eTB {i j : Bool} : VR K (.bl i) (.bl j) H Q = if i = j then Q (.bl true) H else Q (.bl false) H := rfl
theorem rd_nTI {i j : Int} : VP K (.int i) (.int j) H Q = if ¬ i = j then Q (.bl true) H else Q (.bl false) H := rfl
theorem rd_nTS {i j : Str} : VP K (.str i) (.str j) H Q = if ¬ i = j then Q (.bl true) H else Q (.bl false) H := rfl
theorem rd_nTB {i j : Bool} : VP K (.bl i) (.bl j) H Q = if ¬ i = j then Q (.bl true) H else Q (.bl false) H := rfl
theorem rd_eTR {a b : Addr} : VR K (.ref a) (.ref b) H Q = X5 K (.ref a) (.ref b) H Q := rfl
theorem rd_nTR {a b : Addr} : VP K (.ref a) (.ref b) H Q = VQ K (.ref a) (.ref b) H Q := rfl
theorem rd_fvI {i : Int} {P : Str -> Prop} {R : Str -> Prop} : ((∃ j, V.int i = V.int j /\ j.natAbs.log2 < 1920 /\ P (toString j)) \/ (∃ y, V.int i = V.str y /\ y.length <= sizeLine /\ R y)) ↔ i.natAbs.log2 < 1920 /\ P (toString i) :=
 ⟨λ h => h.elim (λ ⟨_, e, h⟩ => by cases e;exact h) (λ ⟨_, e, _⟩ => nomatch e), λ h => .inl ⟨i, rfl, h⟩⟩
theorem rd_strS {y : Str} {P : Str -> Prop} : (∃ z, V.str y = V.str z /\ P z) ↔ P y := ⟨λ ⟨_, e, h⟩ => by cases e;exact h, λ h => ⟨y, rfl, h⟩⟩
theorem rd_c0 : ((0 : Nat) : Int) = 0 := rfl
theorem rd_c1 : ((1 : Nat) : Int) = 1 := rfl
theorem rd_c2 : ((2 : Nat) : Int) = 2 := rfl
theorem rd_c3 : ((3 : Nat) : Int) = 3 := rfl
theorem rd_c4 : ((4 : Nat) : Int) = 4 := rfl
theorem rd_c5 : ((5 : Nat) : Int) = 5 := rfl
theorem rd_c6 : ((6 : Nat) : Int) = 6 := rfl
theorem vU {p : Addr} {xs : List V} {k : Int} {j : Nat} {v : V} {R : Hp -> Prop} (h : H p = some (.lst xs)) (e : ixN xs.length k = some j) (q : R (upd H p (.lst (xs.set j v)))) : zcr (.ref p) (.int k) v H R := ⟨p, xs, k, j, rfl, rfl, h, e, q⟩
theorem Js {n : Nat} {k : Int} (h0 : 0 <= k) (h1 : k < n) : ixN n k = some k.toNat := by unfold ixN;rw [if_pos h0, if_pos h1]
theorem cx_K {CX : CXT} {P : Program} {w : World} {K : PySem.W.Frag} {mg : Str -> Option Value} {base : Heap} {N : List Str} {qual : Str} {scope : Scope} {f : Addr} {cd : Value} {A : Around} {outer : List Env} {s : Shared} {H : Hp} {E : XK} : (vS CX P w K mg base N qual scope f cd A outer s H E).K = K := rfl
theorem cx_mg {CX : CXT} {P : Program} {w : World} {K : PySem.W.Frag} {mg : Str -> Option Value} {base : Heap} {N : List Str} {qual : Str} {scope : Scope} {f : Addr} {cd : Value} {A : Around} {outer : List Env} {s : Shared} {H : Hp} {E : XK} : (vS CX P w K mg base N qual scope f cd A outer s H E).mg = mg := rfl
theorem cx_prog {CX : CXT} {P : Program} {w : World} {K : PySem.W.Frag} {mg : Str -> Option Value} {base : Heap} {N : List Str} {qual : Str} {scope : Scope} {f : Addr} {cd : Value} {A : Around} {outer : List Env} {s : Shared} {H : Hp} {E : XK} : (vS CX P w K mg base N qual scope f cd A outer s H E).prog = P := rfl
theorem cx_w {CX : CXT} {P : Program} {w : World} {K : PySem.W.Frag} {mg : Str -> Option Value} {base : Heap} {N : List Str} {qual : Str} {scope : Scope} {f : Addr} {cd : Value} {A : Around} {outer : List Env} {s : Shared} {H : Hp} {E : XK} : (vS CX P w K mg base N qual scope f cd A outer s H E).w = w := rfl
theorem cx_base {CX : CXT} {P : Program} {w : World} {K : PySem.W.Frag} {mg : Str -> Option Value} {base : Heap} {N : List Str} {qual : Str} {scope : Scope} {f : Addr} {cd : Value} {A : Around} {outer : List Env} {s : Shared} {H : Hp} {E : XK} : (vS CX P w K mg base N qual scope f cd A outer s H E).base = base := rfl
theorem rd_cpow {n : Int} : zdX 10 n ↔ 0 <= n /\ n <= 1000000 := ⟨λ h => ⟨h.1, h.2.1⟩, λ h => ⟨h.1, h.2, by decide⟩⟩
theorem rd_isiI {i : Int} : Jh K [.int i, .ty "int"] H Q ↔ Q (.bl true) H := by
 refine ⟨λ h => ?_, λ q => ⟨_, _, _, _, rfl, .old (.int i), .inl ⟨_, rfl, vI⟩, q⟩⟩;obtain ⟨x, c, t, b, e, ty, k, q⟩ := h;cases e;rcases k with ⟨u, hu, k⟩|⟨_, _, _, e, _⟩
 ·cases hu;cases ty with|old ty => cases ty;rw [vI] at k;cases k;exact q
 ·cases e
theorem rd_isiIB {i : Int} : Jh K [.int i, .ty "bool"] H Q ↔ Q (.bl false) H := by
 refine ⟨λ h => ?_, λ q => ⟨_, _, _, _, rfl, .old (.int i), .inl ⟨_, rfl, wM⟩, q⟩⟩;obtain ⟨x, c, t, b, e, ty, k, q⟩ := h;cases e;rcases k with ⟨u, hu, k⟩|⟨_, _, _, e, _⟩
 ·cases hu;cases ty with|old ty => cases ty;rw [wM] at k;cases k;exact q
 ·cases e
theorem rd_isiB {i : Bool} : Jh K [.bl i, .ty "bool"] H Q ↔ Q (.bl true) H := by
 refine ⟨λ h => ?_, λ q => ⟨_, _, _, _, rfl, .old (.bl i), .inl ⟨_, rfl, xY⟩, q⟩⟩;obtain ⟨x, c, t, b, e, ty, k, q⟩ := h;cases e;rcases k with ⟨u, hu, k⟩|⟨_, _, _, e, _⟩
 ·cases hu;cases ty with|old ty => cases ty;rw [xY] at k;cases k;exact q
 ·cases e
theorem rd_isiS {i : Str} : Jh K [.str i, .ty "str"] H Q ↔ Q (.bl true) H := by
 refine ⟨λ h => ?_, λ q => ⟨_, _, _, _, rfl, .old (.str i), .inl ⟨_, rfl, vH⟩, q⟩⟩;obtain ⟨x, c, t, b, e, ty, k, q⟩ := h;cases e;rcases k with ⟨u, hu, k⟩|⟨_, _, _, e, _⟩
 ·cases hu;cases ty with|old ty => cases ty;rw [vH] at k;cases k;exact q
 ·cases e
theorem vY {a C : Addr} {c : V} {u : Value} {b : Bool} (h : H a = some (wm a (.ref C))) (f : XI K C) (hu : zbv c = some u) (k : kitOne K (.ref C) u = some b) (q : Q (.bl b) H) : Jh K [.ref a, c] H Q :=
 ⟨_, _, _, _, rfl, .exc h f, .inl ⟨u, hu, k⟩, q⟩
theorem zbh {a C p : Addr} {cs : List V} {us : List Value} {b : Bool} (h : H a = some (wm a (.ref C))) (f : XI K C) (hp : H p = some (.tup cs)) (hu : QQ cs = some us) (k : kitAny K (.ref C) us = some b) (q : Q (.bl b) H) : Jh K [.ref a, .ref p] H Q :=
 ⟨_, _, _, _, rfl, .exc h f, .inr ⟨p, cs, us, rfl, hp, hu, k⟩, q⟩
theorem zZ {a b : Addr} {xs ys : List V} (h1 : SqL K H a xs) (h2 : SqL K H b ys) (hl : xs.length + ys.length <= sizeLine) (q : ∀ p, H p = none -> Q (.ref p) (upd H p (.lst (xs ++ ys)))) : xy K (.ref a) (.ref b) H Q :=
 show zaI K _ _ H Q from ⟨a, b, xs, ys, rfl, rfl, h1, h2, hl, q⟩
theorem zW {n : Nat} (h : n <= 1000) : n <= sizeLine := Nat.le_of_lt (zy h)
theorem jK {a : Addr} {xs : List V} {DN : St -> Hp -> Prop} {B : (St -> Hp -> Prop) -> V -> St -> Hp -> Prop} (Pv : Nat -> St -> Hp -> Prop) (h0 : Pv 0 σ H) (hl : ∀ i σ H, i <= xs.length -> Pv i σ H -> SqL K H a xs)
  (hs : ∀ i x σ H, xs[i]? = some x -> Pv i σ H -> B (Pv (i + 1)) x σ H) (hd : ∀ σ H, Pv xs.length σ H -> DN σ H) :
  ∃ W : Nat -> Nat -> St -> Hp -> Prop, (∃ m, W 0 m σ H) /\ ∀ i m σ H, W i m σ H ->
   ((Itl K a).stop i H /\ DN σ H) \/ ((Itl K a).go i H /\ ∃ N : St -> Hp -> Prop, (∀ σ' H', N σ' H' -> ∃ m', m' < m /\ W (i + 1) m' σ' H') /\ ∀ x H', (Itl K a).yld i H x H' -> B N x σ H') := by
 refine ⟨λ i m σ H => m = xs.length - i /\ i <= xs.length /\ Pv i σ H, ⟨xs.length, by simp, Nat.zero_le _, h0⟩, ?_⟩;rintro i m σ H ⟨rfl, hi, p⟩;have q := hl i σ H hi p;by_cases hlt : i < xs.length
 ·refine .inr ⟨⟨xs, xs[i], q, by simp [hlt]⟩, Pv (i + 1), λ σ' H' p' => ⟨xs.length - (i + 1), by lia, rfl, hlt, p'⟩, λ x H' y => ?_⟩;obtain ⟨e, y⟩ := y;subst e;exact hs i x σ _ (y xs q) p
 ·have e : i = xs.length := by lia
  subst e;exact .inl ⟨⟨xs, q, Nat.le_refl _⟩, hd σ H p⟩
theorem Vm {lo : Int} {n : Nat} {DN : St -> Hp -> Prop} {B : (St -> Hp -> Prop) -> V -> St -> Hp -> Prop} (Pv : Nat -> St -> Hp -> Prop) (h0 : Pv 0 σ H)
  (hs : ∀ i σ H, i < n -> Pv i σ H -> B (Pv (i + 1)) (.int (lo + i)) σ H) (hd : ∀ σ H, Pv n σ H -> DN σ H) :
  ∃ W : Nat -> Nat -> St -> Hp -> Prop, (∃ m, W 0 m σ H) /\ ∀ i m σ H, W i m σ H ->
   ((Itr lo n).stop i H /\ DN σ H) \/ ((Itr lo n).go i H /\ ∃ N : St -> Hp -> Prop, (∀ σ' H', N σ' H' -> ∃ m', m' < m /\ W (i + 1) m' σ' H') /\ ∀ x H', (Itr lo n).yld i H x H' -> B N x σ H') := by
 refine ⟨λ i m σ H => m = n - i /\ i <= n /\ Pv i σ H, ⟨n, by simp, Nat.zero_le _, h0⟩, ?_⟩;rintro i m σ H ⟨rfl, hi, p⟩;by_cases hlt : i < n
 ·refine .inr ⟨hlt, Pv (i + 1), λ σ' H' p' => ⟨n - (i + 1), by lia, rfl, hlt, p'⟩, λ x H' y => ?_⟩;obtain ⟨e, y⟩ := y;subst e y;exact hs i σ _ hlt p
 ·have e : i = n := by lia
  subst e;exact .inl ⟨Nat.le_refl _, hd σ H p⟩
theorem qc {a : Addr} {xs : List V} {lo hi : Option Int} (h : SqL K H a xs) (q : ∀ p, H p = none -> Q (.ref p) (upd H p (.lst (jz xs lo hi)))) : zaG K (.ref a) lo hi H Q := ⟨a, xs, rfl, h, q⟩
theorem upd_keep {a b : Addr} {o u : HO} (h : H b = some u) (ha : H a = none) : upd H a o b = some u := by rw [upd_ne (ne_of_none h ha)];exact h
theorem zf {a : Addr} {o : HO} (ha : H a = none) : Same H (upd H a o) := λ _ _ h => upd_keep h ha
theorem rd_ixT {a : Addr} {xs : List V} {i : Int} {v : V} (h : H a = some (.tup xs)) (e : atI xs i = some v) (q : Q v H) : rIx K (.ref a) (.int i) H Q := .inr (.inl ⟨a, xs, i, v, rfl, rfl, SqT.of h, e, q⟩)
theorem zS {a : Addr} {xs : List V} {i : Int} {v : V} (h : SqL K H a xs) (e : atI xs i = some v) (q : Q v H) : rIx K (.ref a) (.int i) H Q := .inl ⟨a, xs, i, v, rfl, rfl, h, e, q⟩
end
end L2
set_option hygiene false
local macro_rules | `(tactic| walk_at "v") => `(tactic| exact ⟨rfl, by first|exact Or.inl rfl|exact Or.inr (Or.inl rfl)|exact Or.inr (Or.inr rfl), by decide, by decide⟩)
local macro_rules | `(tactic| walk_at "rd") => `(tactic| (simp only [L2.start, L2.tDGet, L2.tFldX, L2.sFldX, L2.tRaiseI, L2.tXIn, L2.tDisp, L2.tPairs, L2.rd_mc, L2.rd_mn, length_cons, length_nil, cons_append, nil_append, L2.tSeq, L2.tAsg, L2.gName, L2.tC, L2.tOp, L2.tUn, L2.tTest, L2.tIfS, L2.tRet, L2.tNext, L2.tDrop, L2.tNot, L2.tAnd, L2.tOr, L2.tAndV, L2.tNotV, L2.tCons, L2.tNil, L2.tTup, L2.tLst, L2.tBi, L2.tBl, L2.tVar, ↓L2.rd_vq, L2.rd_vq, ↓L2.rd_iq, L2.rd_iq, ↓L2.rd_bq, L2.rd_bq, ↓L2.rd_nq, L2.rd_nq, ↓L2.rd_lq, L2.rd_lq, ↓L2.rd_itT, L2.rd_itT, ↓L2.rd_itF, L2.rd_itF, ↓L2.rd_is0, L2.rd_is0, ↓L2.rd_is1, L2.rd_is1, ↓L2.rd_is2, L2.rd_is2, ↓L2.rd_in0, L2.rd_in0, ↓L2.rd_in1, L2.rd_in1, ↓L2.rd_in2, L2.rd_in2, L2.rI, L2.rI0, L2.rU, L2.rT, L2.tTru, L2.rd_trB, L2.rd_trI, L2.rd_trR, L2.rd_trS, L2.rd_addI, L2.rd_addS, L2.rd_eqI, L2.rd_neI, L2.rd_eqS, L2.rd_eqB, L2.rd_eTI, L2.rd_eTS, L2.rd_eTB, L2.rd_eTR, L2.rd_nTI, L2.rd_nTR, L2.rd_nTS, L2.rd_nTB, L2.tFv, L2.tJ0, L2.tJ1, L2.rd_fvI, L2.rd_strS, L2.rd_sz0, L2.rd_sz1, L2.rd_sz2, L2.rd_sz3, L2.rd_sz4, L2.rd_sz5, L2.rd_sz6, L2.rd_sz7, L2.gSub, L2.rd_sz8, L2.rd_sz9, L2.cx_K, L2.cx_mg, L2.cx_prog, L2.cx_w, L2.cx_base, L2.gTup, L2.gCons, L2.gNil, L2.tCl, L2.tGl, L2.tChain, L2.tRaise, L2.tTryAs, L2.tTry2, L2.sFld, L2.tFld, L2.tMk, L2.tBM, L2.tBM0, L2.tSl, L2.tNoPart, L2.tPart, L2.tClN, L2.tMkN, L2.tMthN, L2.tBase, L2.tYes, L2.tRg1, L2.cxC_K, L2.cxC_mg, L2.cxC_prog, L2.cxC_w, L2.cxC_base, eq_self, reduceCtorEq, decide_false, Option.getD_some, Option.getD_none, List.getElem?_cons_zero, List.getElem?_cons_succ, List.set_cons_zero, List.set_cons_succ, List.replicate, Nat.reduceSub, Nat.reduceAdd, true_and, and_true, L2.rd_cpow, Int.reduceToNat, Int.reducePow, Int.reduceLT, Int.reduceLE, Int.reduceNeg, L2.fdiv_pos, L2.rd_isiI, L2.rd_isiIB, L2.rd_isiB, L2.rd_isiS, Bool.not_true, Bool.not_false, Bool.false_eq_true, reduceIte, decide_true, decide_eq_true_eq, Bool.true_eq_false, Bool.not_eq_true', decide_eq_false_iff_not, L2.rd_c0, L2.rd_c1, L2.rd_c2, L2.rd_c3, L2.rd_c4, L2.rd_c5, L2.rd_c6, Int.reduceEq, not_true_eq_false, not_false_eq_true, Int.reduceMul, Int.reduceAdd, Int.reduceSub]))
local macro_rules | `(tactic| walk_at "r") => `(tactic| try walk_at "rd")
local macro_rules | `(tactic| walk_at "ixT") => `(tactic| (refine L2.rd_ixT (by assumption) rfl ?_;try walk_at "rd"))
local macro_rules | `(tactic| walk_at "sd") => `(tactic| first|assumption|exact L2.mul_okR (by decide) (by decide)|exact L2.mul_okL (by decide) (by decide)|exact L2.mul_okR (by lia) (by lia)|exact L2.mul_okL (by lia) (by lia)|exact L2.fd_ok (by decide) (by decide +kernel)|decide|lia|exact L2.fd_small (by lia) (by lia))
local macro_rules | `(tactic| walk_at "sds") => `(tactic| repeat (refine And.intro (by walk_at "sd") ?_))
local macro_rules | `(tactic| walk_at "for") => `(tactic| (walk_at "go";(try simp only [L2.tFor, L2.iSeq, L2.iRng1, L2.iStr, L2.iEnum]);try walk_at "rd"))
local macro_rules | `(tactic| walk_at "lc") => `(tactic| (walk_at "go";(try simp only [L2.tLc, L2.iSeq, L2.stC, L2.iRng1, L2.iStr, L2.iEnum]);try walk_at "rd"))
local macro_rules | `(tactic| walk_at "go") => `(tactic| repeat (first|walk_at "rd" | refine And.intro (by assumption) ?_|refine L2.nxt λ Nq_ hNq_ => ?_|refine L2.useN (by assumption) ?_))
local macro_rules | `(tactic| walk_at "ne") => `(tactic| first|assumption|exact Ne.symm (by assumption)|exact L2.ne_of_none (by assumption) (by assumption)|exact Ne.symm (L2.ne_of_none (by assumption) (by assumption)))
local macro_rules | `(tactic| walk_at "hp") => `(tactic| first|assumption|exact L2.upd_same|(refine L2.upd_keep ?_ (by assumption);walk_at "hp")|(rw [L2.upd_ne (by walk_at "ne")];walk_at "hp"))
set_option hygiene false
local macro_rules | `(tactic| walk_at "i") => `(tactic| (intro vs H Q E h;first|(cases h;subst_vars;rfl)|repeat (first|(obtain ⟨rfl, _⟩ := h;rfl)|obtain ⟨_, h⟩ := h)))
local macro_rules | `(tactic| walk_at "j") => `(tactic| intro cdv A outer s H vs Q EX hr h)
local macro_rules | `(tactic| walk_at "k") => `(tactic| intro cdv A outer s H vs Q E hr h)
seal L2.PE L2.PT L2.PA L2.PS L2.PSs L2.PC L2.PG L2.PGs L2.PI L2.PO L2.PK
namespace K16
open PySem L2 Mine
def top (i : Nat) : Stmt := PySem.Challenge.pw_beltshares_k16_bad_rows.main.body.getD i (.Pass ⟨0, 0, 0, 0⟩)
local macro_rules | `(tactic| walk_at "sc") => `(tactic| exact ⟨rfl, rfl, rfl, by decide +kernel, rfl, by decide +kernel, by decide +kernel⟩)
abbrev jT : Stmt := qp (top 7) 0
theorem Zt : FnScope ["self", "line"] ["self", "line"] (zk jT) := by walk_at "sc"
abbrev xv : Stmt := qp (top 15) 0
theorem Je : FnScope ["self", "room", "pace"] ["self", "room", "pace"] (zk xv) := by walk_at "sc"
abbrev wC : Stmt := top 20
theorem Qa : FnScope ["pace", "least"] ["pace", "least"] (zk wC) := by walk_at "sc"
abbrev wD : Stmt := top 21
theorem Qb : FnScope ["kind"] ["kind"] (zk wD) := by walk_at "sc"
abbrev wA : Stmt := top 22
theorem Z8 : FnScope ["belts"] ["belts"] (zk wA) := by walk_at "sc"
abbrev xt : Stmt := qp (top 23) 0
theorem Jd : FnScope ["self", "ins", "outs"] ["self", "ins", "outs"] (zk xt) := by walk_at "sc"
abbrev jP : Stmt := qp (top 24) 0
theorem Zp : FnScope ["self", "out", "pace", "kinds", "kind"] ["self", "out", "pace", "kinds"] (zk jP) := by walk_at "sc"
abbrev xh : Stmt := qp (top 24) 2
theorem w9 : FnScope ["self"] ["self"] (zk xh) := by walk_at "sc"
abbrev j8 : Stmt := qp (top 25) 0
theorem Qg : FnScope ["self", "into", "pace"] ["self", "into", "pace"] (zk j8) := by walk_at "sc"
abbrev xu : Stmt := qp (top 25) 2
theorem vM : FnScope ["self"] ["self"] (zk xu) := by walk_at "sc"
abbrev jQ : Stmt := qp (top 26) 0
theorem Zq : FnScope ["self", "into", "outs"] ["self", "into", "outs"] (zk jQ) := by walk_at "sc"
abbrev xj : Stmt := qp (top 26) 2
theorem va : FnScope ["self"] ["self"] (zk xj) := by walk_at "sc"
abbrev qM : Stmt := qp (top 27) 0
theorem xT : FnScope ["self", "into", "outs"] ["self", "into", "outs"] (zk qM) := by walk_at "sc"
abbrev ja : Stmt := qp (top 27) 2
theorem xn : FnScope ["self"] ["self"] (zk ja) := by walk_at "sc"
abbrev j7 : Stmt := qp (top 28) 0
theorem Qc : FnScope ["self", "into", "outs", "kind"] ["self", "into", "outs", "kind"] (zk j7) := by walk_at "sc"
abbrev xr : Stmt := qp (top 28) 3
theorem vL : FnScope ["self"] ["self"] (zk xr) := by walk_at "sc"
abbrev jS : Stmt := qp (top 29) 0
theorem Zs : FnScope ["self", "ins", "out"] ["self", "ins", "out"] (zk jS) := by walk_at "sc"
abbrev xk : Stmt := qp (top 29) 2
theorem vc : FnScope ["self"] ["self"] (zk xk) := by walk_at "sc"
abbrev jO : Stmt := top 33
theorem Zo : FnScope ["word"] ["word"] (zk jO) := by walk_at "sc"
abbrev wB : Stmt := top 37
theorem Z9 : FnScope ["belts", "knots"] ["belts", "knots"] (zk wB) := by walk_at "sc"
abbrev jB : Stmt := top 38
theorem x8 : FnScope ["named", "size"] ["named", "size"] (zk jB) := by walk_at "sc"
abbrev qZ : Stmt := qp (top 39) 0
theorem Q7 : FnScope ["self", "belts", "knots", "fed", "taken", "knot"] ["self", "belts", "knots"] (zk qZ) := by walk_at "sc"
abbrev vz : Stmt := top 41
theorem Q6 : FnScope ["name", "numbers", "many"] ["name", "numbers"] (zk vz) := by walk_at "sc"
abbrev xq : Stmt := top 42
theorem Q5 : FnScope ["row", "words", "numbers"] ["row"] (zk xq) := by walk_at "sc"
abbrev vy : Stmt := top 43
theorem Q4 : FnScope ["text", "belts", "knots", "place", "row", "part"] ["text"] (zk vy) := by walk_at "sc"
abbrev vD : Stmt := top 45
theorem Jc : FnScope ["_law_script", "_law_k"] ["_law_script", "_law_k"] (zk vD) := by walk_at "sc"
abbrev wE : Stmt := top 46
theorem Qe : FnScope ["_law_cell", "_law_kinds", "_law_k", "_law_step_here", "_law_kind"] ["_law_cell"] (zk wE) := by walk_at "sc"
abbrev vB : Stmt := top 47
theorem Ja : FnScope ["_law_cell", "_law_many", "_law_belts", "_law_ends", "_law_loops", "_law_outs", "_law_k"] ["_law_cell", "_law_many", "_law_belts", "_law_ends", "_law_loops"] (zk vB) := by walk_at "sc"
abbrev Zv : Stmt := top 48
theorem JS : FnScope ["_law_cell", "_law_belts", "_law_knots", "_law_ends", "_law_loops", "_law_ins", "_law_k"] ["_law_cell", "_law_belts", "_law_knots", "_law_ends", "_law_loops"] (zk Zv) := by walk_at "sc"
abbrev JW : Stmt := top 49
theorem VN : FnScope ["_law_cell", "_law_belts", "_law_knots", "_law_ends", "_law_loops", "_law_left", "_law_room", "_law_way", "_law_many", "_law_outs", "_law_ins"] ["_law_cell", "_law_belts", "_law_knots", "_law_ends", "_law_loops"] (zk JW) := by walk_at "sc"
abbrev qR : Stmt := top 50
theorem Qd : FnScope ["_law_script", "_law_belts", "_law_knots", "_law_ends", "_law_loops", "_law_cell", "_law_turn", "_law_at", "_law_many", "_law_moved", "_law_turned", "_law_word", "_law_ins", "_law_outs", "_law_numbers", "_law_cut"] ["_law_script"] (zk qR) := by walk_at "sc"
abbrev jC : Stmt := top 51
theorem Q9 : FnScope ["_law_made", "_law_rows", "_law_word", "_law_ins", "_law_outs", "_law_numbers", "_law_due"] ["_law_made"] (zk jC) := by walk_at "sc"
abbrev vA : Stmt := top 52
theorem Q8 : FnScope ["_law_cell", "_law_some"] ["_law_cell"] (zk vA) := by walk_at "sc"
abbrev jR : Stmt := top 53
theorem Zr : FnScope ["_law_word", "_law_cell", "_law_at"] ["_law_word", "_law_cell"] (zk jR) := by walk_at "sc"
abbrev Zx : Stmt := top 54
theorem JU : FnScope ["_law_words", "_law_cell"] ["_law_words", "_law_cell"] (zk Zx) := by walk_at "sc"
abbrev wa : Stmt := top 55
theorem JR : FnScope ["_law_row", "_law_cell", "_law_words", "_law_least", "_law_most", "_law_way", "_law_at", "_law_k", "_law_other"] ["_law_row", "_law_cell"] (zk wa) := by walk_at "sc"
abbrev wF : Stmt := top 56
theorem Qf : FnScope ["_law_rows", "_law_belts", "_law_first", "_law_second", "_law_at", "_law_later", "_law_bad", "_law_more"] ["_law_rows", "_law_belts", "_law_first", "_law_second"] (zk wF) := by walk_at "sc"
abbrev vC : Stmt := top 57
theorem Jb : FnScope ["_law_made", "_law_cell", "_law_rows", "_law_belts", "_law_at", "_law_word", "_law_ins", "_law_outs", "_law_numbers", "_law_more"] ["_law_made", "_law_cell"] (zk vC) := by walk_at "sc"
abbrev Zw : Stmt := top 58
theorem JT : FnScope ["_law_rows", "_law_caught_here", "error"] ["_law_rows"] (zk Zw) := by walk_at "sc"
abbrev JV : Stmt := top 59
theorem VM : FnScope ["_law_caught_here", "_law_due"] ["_law_caught_here", "_law_due"] (zk JV) := by walk_at "sc"
abbrev Zu : Stmt := top 60
theorem zcQ : FnScope ["_law_script", "_law_made", "_law_rows", "_law_first", "_law_second", "_law_due", "_law_bad", "_law_work"] ["_law_script"] (zk Zu) := by walk_at "sc"
local macro_rules | `(tactic| walk_at "T") => `(tactic| (have m_len := T.m_len;have m_list := T.m_list;have m_int := T.m_int;have m_all := T.m_all;have m_sorted := T.m_sorted;have m_range := T.m_range;have m_enumerate := T.m_enumerate;have m_isinstance := T.m_isinstance;have m_str := T.m_str;have m_ValueError := T.m_ValueError;have m_bool := T.m_bool))
structure Ad where
 WorkError : Addr
 NoRatio : Addr
 BadBelt : Addr
 BadKnot : Addr
 BadWork : Addr
 BadRow : Addr
 TooLong : Addr
 BadPaces : Addr
 TooMany : Addr
 Moving : Addr
 Belt : Addr
 Knot : Addr
 Source : Addr
 Drain : Addr
 Parter : Addr
 FirstParter : Addr
 Sieve : Addr
 Joiner : Addr
 Work : Addr
abbrev KOy (K : PySem.W.Frag) (c d : Addr) (b : Bool) : Prop := kitOne K (.ref c) (.ref d) = some b
structure Txt (K : PySem.W.Frag) (mg : Str -> Option Value) (a : Ad) : Prop where
 h_check_pace : FA K mg "check_pace" wC ["pace", "least"]
 h_check_kind : FA K mg "check_kind" wD ["kind"]
 h_check_ways : FA K mg "check_ways" wA ["belts"]
 h_number_from : FA K mg "number_from" jO ["word"]
 h_check_size : FA K mg "check_size" wB ["belts", "knots"]
 h_check_each_once : FA K mg "check_each_once" jB ["named", "size"]
 h_made_part : FA K mg "made_part" vz ["name", "numbers"]
 h_part_from : FA K mg "part_from" xq ["row"]
 h_read_work : FA K mg "read_work" vy ["text"]
 h_L_cell_at : FA K mg "_law_cell_at" vD ["_law_script", "_law_k"]
 h_L_kinds_of : FA K mg "_law_kinds_of" wE ["_law_cell"]
 h_L_outs_of : FA K mg "_law_outs_of" vB ["_law_cell", "_law_many", "_law_belts", "_law_ends", "_law_loops"]
 h_L_joined : FA K mg "_law_joined" Zv ["_law_cell", "_law_belts", "_law_knots", "_law_ends", "_law_loops"]
 h_L_step : FA K mg "_law_step" JW ["_law_cell", "_law_belts", "_law_knots", "_law_ends", "_law_loops"]
 h_L_parts_of : FA K mg "_law_parts_of" qR ["_law_script"]
 h_L_rows_of : FA K mg "_law_rows_of" jC ["_law_made"]
 h_L_sign_by : FA K mg "_law_sign_by" vA ["_law_cell"]
 h_L_no_number : FA K mg "_law_no_number" jR ["_law_word", "_law_cell"]
 h_L_beyond : FA K mg "_law_beyond" Zx ["_law_words", "_law_cell"]
 h_L_spoilt : FA K mg "_law_spoilt" wa ["_law_row", "_law_cell"]
 h_L_bad_rows : FA K mg "_law_bad_rows" wF ["_law_rows", "_law_belts", "_law_first", "_law_second"]
 h_L_no_work : FA K mg "_law_no_work" vC ["_law_made", "_law_cell"]
 h_L_caught : FA K mg "_law_caught" Zw ["_law_rows"]
 h_L_told : FA K mg "_law_told" JV ["_law_caught_here", "_law_due"]
 m_len : mg "len" = none
 m_list : mg "list" = none
 m_int : mg "int" = none
 m_all : mg "all" = none
 m_sorted : mg "sorted" = none
 m_range : mg "range" = none
 m_enumerate : mg "enumerate" = none
 m_isinstance : mg "isinstance" = none
 m_str : mg "str" = none
 m_ValueError : mg "ValueError" = none
 m_bool : mg "bool" = none
 g_WorkError : mg "WorkError" = some (.ref a.WorkError)
 g_NoRatio : mg "NoRatio" = some (.ref a.NoRatio)
 g_BadBelt : mg "BadBelt" = some (.ref a.BadBelt)
 g_BadKnot : mg "BadKnot" = some (.ref a.BadKnot)
 g_BadWork : mg "BadWork" = some (.ref a.BadWork)
 g_BadRow : mg "BadRow" = some (.ref a.BadRow)
 g_TooLong : mg "TooLong" = some (.ref a.TooLong)
 g_BadPaces : mg "BadPaces" = some (.ref a.BadPaces)
 g_TooMany : mg "TooMany" = some (.ref a.TooMany)
 g_Moving : mg "Moving" = some (.ref a.Moving)
 g_Belt : mg "Belt" = some (.ref a.Belt)
 g_Knot : mg "Knot" = some (.ref a.Knot)
 g_Source : mg "Source" = some (.ref a.Source)
 g_Drain : mg "Drain" = some (.ref a.Drain)
 g_Parter : mg "Parter" = some (.ref a.Parter)
 g_FirstParter : mg "FirstParter" = some (.ref a.FirstParter)
 g_Sieve : mg "Sieve" = some (.ref a.Sieve)
 g_Joiner : mg "Joiner" = some (.ref a.Joiner)
 g_Work : mg "Work" = some (.ref a.Work)
 C_Belt : Cls K a.Belt
 N_Belt_room : NoAttr K a.Belt "room"
 N_Belt_pace : NoAttr K a.Belt "pace"
 W_Belt : WI K a.Belt
 h_Belt_init : FK K a.Belt "Belt.__init__" xv ["self", "room", "pace"]
 b_Knot_init : FB K mg "Knot" "__init__" "Knot.__init__" xt ["self", "ins", "outs"]
 C_Source : Cls K a.Source
 N_Source_pace : NoAttr K a.Source "pace"
 N_Source_kinds : NoAttr K a.Source "kinds"
 N_Source_ins : NoAttr K a.Source "ins"
 N_Source_outs : NoAttr K a.Source "outs"
 W_Source : WI K a.Source
 h_Source_init : FK K a.Source "Source.__init__" jP ["self", "out", "pace", "kinds"]
 h_Source_copied : FM K a.Source "copied" "Source.copied" xh ["self"]
 C_Drain : Cls K a.Drain
 N_Drain_pace : NoAttr K a.Drain "pace"
 N_Drain_ins : NoAttr K a.Drain "ins"
 N_Drain_outs : NoAttr K a.Drain "outs"
 W_Drain : WI K a.Drain
 h_Drain_init : FK K a.Drain "Drain.__init__" j8 ["self", "into", "pace"]
 h_Drain_copied : FM K a.Drain "copied" "Drain.copied" xu ["self"]
 C_Parter : Cls K a.Parter
 N_Parter_ins : NoAttr K a.Parter "ins"
 N_Parter_outs : NoAttr K a.Parter "outs"
 W_Parter : WI K a.Parter
 h_Parter_init : FK K a.Parter "Parter.__init__" jQ ["self", "into", "outs"]
 h_Parter_copied : FM K a.Parter "copied" "Parter.copied" xj ["self"]
 C_FirstParter : Cls K a.FirstParter
 N_FirstParter_ins : NoAttr K a.FirstParter "ins"
 N_FirstParter_outs : NoAttr K a.FirstParter "outs"
 W_FirstParter : WI K a.FirstParter
 h_FirstParter_init : FK K a.FirstParter "FirstParter.__init__" qM ["self", "into", "outs"]
 h_FirstParter_copied : FM K a.FirstParter "copied" "FirstParter.copied" ja ["self"]
 C_Sieve : Cls K a.Sieve
 N_Sieve_kind : NoAttr K a.Sieve "kind"
 N_Sieve_ins : NoAttr K a.Sieve "ins"
 N_Sieve_outs : NoAttr K a.Sieve "outs"
 W_Sieve : WI K a.Sieve
 h_Sieve_init : FK K a.Sieve "Sieve.__init__" j7 ["self", "into", "outs", "kind"]
 h_Sieve_copied : FM K a.Sieve "copied" "Sieve.copied" xr ["self"]
 C_Joiner : Cls K a.Joiner
 N_Joiner_ins : NoAttr K a.Joiner "ins"
 N_Joiner_outs : NoAttr K a.Joiner "outs"
 W_Joiner : WI K a.Joiner
 h_Joiner_init : FK K a.Joiner "Joiner.__init__" jS ["self", "ins", "out"]
 h_Joiner_copied : FM K a.Joiner "copied" "Joiner.copied" xk ["self"]
 C_Work : Cls K a.Work
 N_Work_belts : NoAttr K a.Work "belts"
 N_Work_knots : NoAttr K a.Work "knots"
 W_Work : WI K a.Work
 h_Work_init : FK K a.Work "Work.__init__" qZ ["self", "belts", "knots"]
 g_MOST_ROOM : ∃ t, mg "MOST_ROOM" = some (.int 6 t)
 g_MOST_PACE : ∃ t, mg "MOST_PACE" = some (.int 4 t)
 g_MOST_KINDS : ∃ t, mg "MOST_KINDS" = some (.int 6 t)
 g_FEWEST_WAYS : ∃ t, mg "FEWEST_WAYS" = some (.int 2 t)
 g_MOST_WAYS : ∃ t, mg "MOST_WAYS" = some (.int 4 t)
 g_FIGURES : ∃ t, mg "FIGURES" = some (.str "0123456789" t)
 g_MOST_FIGURES : ∃ t, mg "MOST_FIGURES" = some (.int 30 t)
 g_MOST_BELTS : ∃ t, mg "MOST_BELTS" = some (.int 24 t)
 g_MOST_KNOTS : ∃ t, mg "MOST_KNOTS" = some (.int 24 t)
 h_BadRow_init : FI K a.BadRow "BadRow.__init__" jT ["self", "line"]
 B_WorkError : XB K a.WorkError
 XS_BadRow_line : XS K a.BadRow "line"
 L_BadRow_line : findIn K (.ref a.BadRow) "line" = some none
 XI_BadRow : XI K a.BadRow
 X_BadBelt : XC K a.BadBelt
 X_BadKnot : XC K a.BadKnot
 X_BadWork : XC K a.BadWork
 XI_BadWork : XI K a.BadWork
 S_BadBelt : subIn K (.ref a.BadBelt) (.type "BaseException") = some true
 E_BadBelt_BadBelt : kitCls K (.ref a.BadBelt) (.ref a.BadBelt) = some true
 E_BadKnot_BadBelt : kitCls K (.ref a.BadKnot) (.ref a.BadBelt) = some false
 S_BadKnot : subIn K (.ref a.BadKnot) (.type "BaseException") = some true
 E_BadKnot_BadKnot : kitCls K (.ref a.BadKnot) (.ref a.BadKnot) = some true
 S_WorkError : subIn K (.ref a.WorkError) (.type "BaseException") = some true
 E_BadWork_WorkError : kitCls K (.ref a.BadWork) (.ref a.WorkError) = some true
 E_BadRow_WorkError : kitCls K (.ref a.BadRow) (.ref a.WorkError) = some true
 k1_non_Knot : kitOne K (.type "NoneType") (.ref a.Knot) = some false
 k1_non_Belt : kitOne K (.type "NoneType") (.ref a.Belt) = some false
 k1_Belt_Knot : KOy K a.Belt a.Knot false
 k1_Source_Knot : KOy K a.Source a.Knot true
 k1_Drain_Knot : KOy K a.Drain a.Knot true
 k1_Parter_Knot : KOy K a.Parter a.Knot true
 k1_FirstParter_Knot : KOy K a.FirstParter a.Knot true
 k1_Sieve_Knot : KOy K a.Sieve a.Knot true
 k1_Joiner_Knot : KOy K a.Joiner a.Knot true
 k1_Belt_Belt : KOy K a.Belt a.Belt true
 k1_BadWork_NoRatio_BadBelt_BadKnot_TooLong_BadPaces_TooMany_Moving : kitAny K (.ref a.BadWork) [.ref a.NoRatio, .ref a.BadBelt, .ref a.BadKnot, .ref a.TooLong, .ref a.BadPaces, .ref a.TooMany, .ref a.Moving] = some false
 k1_BadRow_NoRatio_BadBelt_BadKnot_TooLong_BadPaces_TooMany_Moving : kitAny K (.ref a.BadRow) [.ref a.NoRatio, .ref a.BadBelt, .ref a.BadKnot, .ref a.TooLong, .ref a.BadPaces, .ref a.TooMany, .ref a.Moving] = some false
 k1_BadWork_BadWork : KOy K a.BadWork a.BadWork true
 k1_BadRow_BadWork : KOy K a.BadRow a.BadWork false
 k1_BadWork_WorkError : KOy K a.BadWork a.WorkError true
 k1_BadRow_WorkError : KOy K a.BadRow a.WorkError true
 k1_BadWork_ValueError : kitOne K (.ref a.BadWork) (.type "ValueError") = some true
 k1_BadRow_ValueError : kitOne K (.ref a.BadRow) (.type "ValueError") = some true
 k1_BadWork_BadRow : KOy K a.BadWork a.BadRow false
 k1_BadRow_BadRow : KOy K a.BadRow a.BadRow true
 k1_Work_Work : KOy K a.Work a.Work true
section
variable {P : Program} {w : World} {K : PySem.W.Frag} {mg : Str -> Option Value} {base : Heap} {a : Ad} {f : Addr} {fd : FuncData}
theorem at0 {α : Type} {x : α} {xs : List α} : atI (x :: xs) 0 = some x := by
 have := qg (xs := x :: xs) (j := 0) rfl;simpa using this
def iv (ns : List Int) : List V := ns.map V.int
def kf (l1 l2 : Addr) : List (Str × V) := qm "outs" (.ref l2) (qm "ins" (.ref l1) [])
theorem Wn {l1 l2 : Addr} : (kf l1 l2).length < 1000 := by
 unfold kf;have := jI "outs" (V.ref l2) (qm "ins" (.ref l1) []);have := jI "ins" (V.ref l1) [];simp at *;lia
def Own (H H' : Hp) (y : Addr) : Prop := ∀ b o, b ≠ y -> H b = some o -> H' b = some o
theorem Same.own {H H' : Hp} {y : Addr} (s : Same H H') : Own H H' y := λ b o _ h => s b o h
theorem Own.trans {H1 H2 H3 : Hp} {y : Addr} (s : Own H1 H2 y) (t : Own H2 H3 y) : Own H1 H3 y := λ b o hb h => t b o hb (s b o hb h)
theorem jH {H : Hp} {y : Addr} {o : HO} : Own H (upd H y o) y := λ b u hb h => by rw [upd_ne hb];exact h
theorem Own.of_new {H H' : Hp} {y dx : Addr} {o p : HO} (hy : H y = none) (hd : H dx = none) (s : Own (upd (upd H dx o) y p) H' y) : Same H H' := λ b u h =>
 s b u (ne_of_none h hy) (by rw [upd_ne (ne_of_none h hy), upd_ne (ne_of_none h hd)];exact h)
theorem zr {H : Hp} {p b : Addr} {o : HO} (h : upd H p o b = none) : H b = none := by
 by_cases e : b = p
 ·subst e;rw [upd_same] at h;cases h
 ·rw [upd_ne e] at h;exact h
def Zk (K : PySem.W.Frag) : Sp := λ vs H Q _ => ∃ (y C dx i o : Addr) (xs ys : List V), vs = [.ref y, .ref i, .ref o] /\ H y = some (.ins C dx []) /\ Cls K C /\ NoAttr K C "ins" /\ NoAttr K C "outs" /\ SqL K H i xs /\ SqL K H o ys /\ i ≠ y /\ o ≠ y /\
 ∀ H' l1 l2, Own H H' y -> H' y = some (.ins C dx (kf l1 l2)) -> H' l1 = some (.lst xs) -> H' l2 = some (.lst ys) -> H l1 = none -> H l2 = none -> Q .non H'
theorem WP {H H' : Hp} {y l : Addr} {xs : List V} (h : SqL K H l xs) (s : Own H H' y) (hl : l ≠ y) : SqL K H' l xs := by
 rcases h with h|h
 ·refine .inl ?_;rcases h with h|⟨ob, h⟩
  ·exact .inl (s _ _ hl h)
  ·exact .inr ⟨ob, s _ _ hl h⟩
 ·exact .inr h
theorem Jq (T : Txt K mg a) (F : Fun K "__init__" "Knot.__init__" xt f fd) : FnOk P w K mg base (CXr P w) 1 f fd ["self", "ins", "outs"] (Zk K) := by
 refine F.okx Jd ?_ ?_
 ·walk_at "i"
 walk_at "k";obtain ⟨y, C, dx, i, o, xs, ys, rfl, hy, hC, hN1, hN2, hi, ho, hiy, hoy, k⟩ := h;walk_at "T";refine ⟨_, (zH (jU (pq 0) (jG Zc wV (za (pq 1) ze)) rfl)  (zh (jU (pq 0) (jG Zc wV (za (pq 2) ze)) rfl))), ?_⟩;walk_at "go";refine ⟨i, xs, rfl, .inl hi, λ l1 h1 => ?_⟩;walk_at "go";have y1 : y ≠ l1 := ne_of_none hy h1;refine ⟨y, C, dx, [], rfl, upd_keep hy h1, hC, hN1, by decide, ?_⟩;walk_at "go";have s1 : Own H (upd (upd H l1 (.lst xs)) y (.ins C dx (qm "ins" (.ref l1) []))) y := (Same.own (zf h1)).trans jH;refine ⟨o, ys, rfl, .inl (WP ho s1 hoy), λ l2 h2 => ?_⟩;walk_at "go";have y2 : y ≠ l2 := ne_of_none upd_same h2;have l12 : l1 ≠ l2 := λ z => by
  rw [<- z, upd_ne (Ne.symm y1), upd_same] at h2;cases h2
 refine ⟨y, C, dx, _, rfl, upd_keep upd_same h2, hC, hN2, by show 1 < 1000;decide, ?_⟩;refine k _ l1 l2 (s1.trans ((Same.own (zf h2)).trans jH)) upd_same ?_ ?_ h1 ?_
 ·rw [upd_ne (Ne.symm y1), upd_ne l12, upd_ne (Ne.symm y1), upd_same]
 ·rw [upd_ne (Ne.symm y2), upd_same]
 ·rw [upd_ne (Ne.symm y2), upd_ne (Ne.symm l12)] at h2;exact h2
theorem b_Knot_init (T : Txt K mg a) : BCal P w K mg base "Knot" "__init__" 1 ["self", "ins", "outs"] [] (Zk K) := T.b_Knot_init.cal (Jq T)
def JM (K : PySem.W.Frag) (a : Ad) : Sp := λ vs H Q E => ∃ (l : Addr) (xs : List V), vs = [.ref l] /\ SqL K H l xs /\ if 2 <= xs.length /\ xs.length <= 4 then Q .non H else E (.ref a.BadKnot) none H
theorem xg (T : Txt K mg a) : Cal P w K mg base "check_ways" 1 ["belts"] [] (JM K a) := T.h_check_ways.cal λ F => by
 refine F.okx Z8 ?_ ?_
 ·walk_at "i"
 walk_at "k";obtain ⟨l, xs, rfl, hl, k⟩ := h;walk_at "T";refine ⟨_, (zh (zC (qN (qS jb jb qC (zJ zG zF (za (pq 0) ze)) qC))  (zh (qL ⟨rfl, rfl, rfl⟩ rfl (za zl ze)))  zp)), ?_⟩;walk_at "go";obtain ⟨t1, g1⟩ := T.g_FEWEST_WAYS;obtain ⟨t2, g2⟩ := T.g_MOST_WAYS;have bad : ¬ (2 <= xs.length /\ xs.length <= 4) -> ∃ C, mg "BadKnot" = some (Value.ref C) /\ XC K C /\ E (Value.ref C) none H := λ h => by
  rw [if_neg h] at k;exact ⟨a.BadKnot, T.g_BadKnot, T.X_BadKnot, k⟩
 refine ⟨.int 2, _, g1, ⟨_, rfl⟩, ?_⟩;walk_at "go";refine ⟨_, .inl ⟨_, hl, rfl⟩, ?_⟩;walk_at "r";refine zN (λ h1 => ?_) (λ h1 => bad (by lia));refine ⟨.int 4, _, g2, ⟨_, rfl⟩, ?_⟩;walk_at "r";refine zN (λ h2 => ?_) (λ h2 => bad (by lia));rw [if_pos (by lia)] at k;exact k
def JO (a : Ad) : Sp := λ vs H Q E => ∃ p q : Int, vs = [.int p, .int q] /\ if q <= p /\ p <= 4 then Q .non H else E (.ref a.BadKnot) none H
theorem wR (T : Txt K mg a) : Cal P w K mg base "check_pace" 1 ["pace", "least"] [] (JO a) := T.h_check_pace.cal λ F => by
 refine F.okx Qa ?_ ?_
 ·walk_at "i"
 walk_at "k";obtain ⟨p, q, rfl, k⟩ := h;walk_at "T";refine ⟨_, (zh (zC (qN (qS jb jb (pq 1) (pq 0) qC))  (zh (qL ⟨rfl, rfl, rfl⟩ rfl (za zl ze)))  zp)), ?_⟩;walk_at "go";obtain ⟨t1, g1⟩ := T.g_MOST_PACE;have bad : ¬ (q <= p /\ p <= 4) -> ∃ C, mg "BadKnot" = some (Value.ref C) /\ XC K C /\ E (Value.ref C) none H := λ h => by
  rw [if_neg h] at k;exact ⟨a.BadKnot, T.g_BadKnot, T.X_BadKnot, k⟩
 refine zN (λ h1 => ?_) (λ h1 => bad (by lia));refine ⟨.int 4, _, g1, ⟨_, rfl⟩, ?_⟩;walk_at "go";refine zN (λ h2 => ?_) (λ h2 => bad (by lia));rw [if_pos (by lia)] at k;walk_at "go";exact k
abbrev zo : Int := 1000000000000000000000000000000
def JP (a : Ad) : Sp := λ vs H Q E => ∃ n : Int, vs = [.int n] /\ if 0 <= n /\ n < zo then Q .non H else E (.ref a.BadKnot) none H
theorem wS (T : Txt K mg a) : Cal P w K mg base "check_kind" 1 ["kind"] [] (JP a) := T.h_check_kind.cal λ F => by
 refine F.okx Qb ?_ ?_
 ·walk_at "i"
 walk_at "k";obtain ⟨n, rfl, k⟩ := h;walk_at "T";refine ⟨_, (zh (zC (qN (qS jb zaW zg (pq 0) X7))  (zh (qL ⟨rfl, rfl, rfl⟩ rfl (za zl ze)))  zp)), ?_⟩;walk_at "go";have bad : ¬ (0 <= n /\ n < zo) -> ∃ C, mg "BadKnot" = some (Value.ref C) /\ XC K C /\ E (Value.ref C) none H := λ h => by
  rw [if_neg h] at k;exact ⟨a.BadKnot, T.g_BadKnot, T.X_BadKnot, k⟩
 refine zN (λ h1 => ?_) (λ h1 => bad (by lia));walk_at "go";refine zN (λ h2 => ?_) (λ h2 => bad (by unfold zo;lia));rw [if_pos (by unfold zo;lia)] at k;walk_at "go";exact k
def jn (K : PySem.W.Frag) (C CB : Addr) : Sp := λ vs H Q E => ∃ (y dx o : Addr) (into : V) (ys : List V), vs = [.ref y, into, .ref o] /\ H y = some (.ins C dx []) /\ SqL K H o ys /\ o ≠ y /\
 if 2 <= ys.length /\ ys.length <= 4 then ∀ H' l1 l2, Own H H' y -> H' y = some (.ins C dx (kf l1 l2)) -> H' l1 = some (.lst [into]) -> H' l2 = some (.lst ys) -> H l1 = none -> H l2 = none -> Q .non H' else E (.ref CB) none H
theorem ZE (T : Txt K mg a) (F : Fun K "__init__" "Parter.__init__" jQ f fd) : FnOk P w K mg base (CXr P w) 2 f fd ["self", "into", "outs"] (jn K a.Parter a.BadKnot) := by
 refine F.okx Zq ?_ ?_
 ·walk_at "i"
 walk_at "k";obtain ⟨y, dx, o, into, ys, rfl, hy, ho, hoy, k⟩ := h;walk_at "T";refine ⟨_, (zH (zw (z6 ⟨rfl, rfl, rfl⟩ hr (za (pq 2) ze)))  (zh (zw (xM ⟨rfl, rfl, rfl⟩ hr (za (pq 0) (za (zv (za (pq 1) ze)) (za (pq 2) ze))))))), ?_⟩;walk_at "go";refine ⟨_, _, _, xg T, o, ys, rfl, ho, zN (λ hok => ?_) (λ hok => ?_)⟩
 ·rw [if_pos hok] at k;walk_at "go";refine ⟨_, _, _, b_Knot_init T, λ p hp => ⟨y, a.Parter, dx, p, o, [into], ys, rfl, upd_keep hy hp, T.C_Parter, T.N_Parter_ins, T.N_Parter_outs, SqL.of upd_same, (zf hp).seq ho, (ne_of_none hy hp).symm, hoy, λ H' l1 l2 s h1 h2 h3 h4 h5 => ?_⟩⟩;exact k H' l1 l2 ((Same.own (zf hp)).trans s) h1 h2 h3 (zr h4) (zr h5)
 ·rw [if_neg hok] at k;exact k
theorem Xt (T : Txt K mg a) : KCal P w K mg base "Parter" a.Parter 2 ["self", "into", "outs"] [] (jn K a.Parter a.BadKnot) := T.h_Parter_init.cal T.g_Parter (ZE T)
theorem xU (T : Txt K mg a) (F : Fun K "__init__" "FirstParter.__init__" qM f fd) : FnOk P w K mg base (CXr P w) 2 f fd ["self", "into", "outs"] (jn K a.FirstParter a.BadKnot) := by
 refine F.okx xT ?_ ?_
 ·walk_at "i"
 walk_at "k";obtain ⟨y, dx, o, into, ys, rfl, hy, ho, hoy, k⟩ := h;walk_at "T";refine ⟨_, (zH (zw (z6 ⟨rfl, rfl, rfl⟩ hr (za (pq 2) ze)))  (zh (zw (xM ⟨rfl, rfl, rfl⟩ hr (za (pq 0) (za (zv (za (pq 1) ze)) (za (pq 2) ze))))))), ?_⟩;walk_at "go";refine ⟨_, _, _, xg T, o, ys, rfl, ho, zN (λ hok => ?_) (λ hok => ?_)⟩
 ·rw [if_pos hok] at k;walk_at "go";refine ⟨_, _, _, b_Knot_init T, λ p hp => ⟨y, a.FirstParter, dx, p, o, [into], ys, rfl, upd_keep hy hp, T.C_FirstParter, T.N_FirstParter_ins, T.N_FirstParter_outs, SqL.of upd_same, (zf hp).seq ho, (ne_of_none hy hp).symm, hoy, λ H' l1 l2 s h1 h2 h3 h4 h5 => ?_⟩⟩;exact k H' l1 l2 ((Same.own (zf hp)).trans s) h1 h2 h3 (zr h4) (zr h5)
 ·rw [if_neg hok] at k;exact k
theorem xZ (T : Txt K mg a) : KCal P w K mg base "FirstParter" a.FirstParter 2 ["self", "into", "outs"] [] (jn K a.FirstParter a.BadKnot) := T.h_FirstParter_init.cal T.g_FirstParter (xU T)
def vf (l1 l2 : Addr) (n : Int) : List (Str × V) := qm "kind" (.int n) (kf l1 l2)
def vw (K : PySem.W.Frag) (C CB : Addr) : Sp := λ vs H Q E => ∃ (y dx o : Addr) (into : V) (ys : List V) (n : Int), vs = [.ref y, into, .ref o, .int n] /\ H y = some (.ins C dx []) /\ SqL K H o ys /\ o ≠ y /\
 if ys.length = 2 /\ 0 <= n /\ n < zo then ∀ H' l1 l2, Own H H' y -> H' y = some (.ins C dx (vf l1 l2 n)) -> H' l1 = some (.lst [into]) -> H' l2 = some (.lst ys) -> H l1 = none -> H l2 = none -> Q .non H' else E (.ref CB) none H
theorem Qh (T : Txt K mg a) (F : Fun K "__init__" "Sieve.__init__" j7 f fd) : FnOk P w K mg base (CXr P w) 2 f fd ["self", "into", "outs", "kind"] (vw K a.Sieve a.BadKnot) := by
 refine F.okx Qc ?_ ?_
 ·walk_at "i"
 walk_at "k";obtain ⟨y, dx, o, into, ys, n, rfl, hy, ho, hoy, k⟩ := h;walk_at "T";refine ⟨_, (zH (zC (zm (zaV hr.units1) (zJ zG zF (za (pq 2) ze)) zg (zq _))  (zh (qL ⟨rfl, rfl, rfl⟩ rfl (za zl ze)))  zp)  (zH (zw (z6 ⟨rfl, rfl, rfl⟩ hr (za (pq 3) ze)))  (zH (zw (xM ⟨rfl, rfl, rfl⟩ hr (za (pq 0) (za (zv (za (pq 1) ze)) (za (pq 2) ze)))))  (zh (jU (pq 0) (pq 3) rfl))))), ?_⟩;walk_at "go";refine ⟨_, .inl ⟨_, ho, rfl⟩, ?_⟩;walk_at "go";refine zN (λ h1 => ?_) (λ h1 => ?_)
 ·rw [if_neg (by lia)] at k;exact ⟨a.BadKnot, T.g_BadKnot, T.X_BadKnot, k⟩
 ·refine ⟨_, _, _, wS T, n, rfl, zN (λ hok => ?_) (λ hok => ?_)⟩
  ·rw [if_pos ⟨by lia, hok⟩] at k;walk_at "go";refine ⟨_, _, _, b_Knot_init T, λ p hp => ⟨y, a.Sieve, dx, p, o, [into], ys, rfl, upd_keep hy hp, T.C_Sieve, T.N_Sieve_ins, T.N_Sieve_outs, SqL.of upd_same, (zf hp).seq ho, (ne_of_none hy hp).symm, hoy, λ H' l1 l2 s h1 h2 h3 h4 h5 => ?_⟩⟩;walk_at "go";refine ⟨y, a.Sieve, dx, _, rfl, h1, T.C_Sieve, T.N_Sieve_kind, Wn, ?_⟩;exact k _ l1 l2 (((Same.own (zf hp)).trans s).trans jH) upd_same (by rw [upd_ne (vF h2 h1 (by intro z;cases z))];exact h2) (by rw [upd_ne (vF h3 h1 (by intro z;cases z))];exact h3) (zr h4) (zr h5)
  ·rw [if_neg (λ z => hok z.2)] at k;exact k
theorem Vh (T : Txt K mg a) : KCal P w K mg base "Sieve" a.Sieve 2 ["self", "into", "outs", "kind"] [] (vw K a.Sieve a.BadKnot) := T.h_Sieve_init.cal T.g_Sieve (Qh T)
def wx (K : PySem.W.Frag) (C CB : Addr) : Sp := λ vs H Q E => ∃ (y dx o : Addr) (out : V) (ys : List V), vs = [.ref y, .ref o, out] /\ H y = some (.ins C dx []) /\ SqL K H o ys /\ o ≠ y /\
 if 2 <= ys.length /\ ys.length <= 4 then ∀ H' l1 l2, Own H H' y -> H' y = some (.ins C dx (kf l1 l2)) -> H' l1 = some (.lst ys) -> H' l2 = some (.lst [out]) -> H l1 = none -> H l2 = none -> Q .non H' else E (.ref CB) none H
theorem ZG (T : Txt K mg a) (F : Fun K "__init__" "Joiner.__init__" jS f fd) : FnOk P w K mg base (CXr P w) 2 f fd ["self", "ins", "out"] (wx K a.Joiner a.BadKnot) := by
 refine F.okx Zs ?_ ?_
 ·walk_at "i"
 walk_at "k";obtain ⟨y, dx, o, out, ys, rfl, hy, ho, hoy, k⟩ := h;walk_at "T";refine ⟨_, (zH (zw (z6 ⟨rfl, rfl, rfl⟩ hr (za (pq 1) ze)))  (zh (zw (xM ⟨rfl, rfl, rfl⟩ hr (za (pq 0) (za (pq 1) (za (zv (za (pq 2) ze)) ze))))))), ?_⟩;walk_at "go";refine ⟨_, _, _, xg T, o, ys, rfl, ho, zN (λ hok => ?_) (λ hok => ?_)⟩
 ·rw [if_pos hok] at k;walk_at "go";refine ⟨_, _, _, b_Knot_init T, λ p hp => ⟨y, a.Joiner, dx, o, p, ys, [out], rfl, upd_keep hy hp, T.C_Joiner, T.N_Joiner_ins, T.N_Joiner_outs, (zf hp).seq ho, SqL.of upd_same, hoy, (ne_of_none hy hp).symm, λ H' l1 l2 s h1 h2 h3 h4 h5 => ?_⟩⟩;exact k H' l1 l2 ((Same.own (zf hp)).trans s) h1 h2 h3 (zr h4) (zr h5)
 ·rw [if_neg hok] at k;exact k
theorem Xu (T : Txt K mg a) : KCal P w K mg base "Joiner" a.Joiner 2 ["self", "ins", "out"] [] (wx K a.Joiner a.BadKnot) := T.h_Joiner_init.cal T.g_Joiner (ZG T)
def df (l1 l2 : Addr) (p : Int) : List (Str × V) := qm "pace" (.int p) (kf l1 l2)
theorem wI (f : Str) (v : V) : ∀ fs : List (Str × V), (qm f v fs).length <= fs.length + 1
 | [] => by simp [qm]
 | (g, x) :: r => by
  unfold qm
  split
  ·simp
  ·have := wI f v r;simp;lia
theorem zb6 {l1 l2 : Addr} : (kf l1 l2).length <= 2 := by
 unfold kf;have h1 := wI "outs" (V.ref l2) (qm "ins" (.ref l1) []);have h2 := wI "ins" (V.ref l1) [];simp only [length_nil] at h2
 lia
theorem zdl {l1 l2 : Addr} {p : Int} : (df l1 l2 p).length < 1000 := by
 unfold df;have h1 := wI "pace" (V.int p) (kf l1 l2);have h2 := zb6 (l1 := l1) (l2 := l2)
 lia
def vx (C CB : Addr) : Sp := λ vs H Q E => ∃ (y dx : Addr) (into : V) (p : Int), vs = [.ref y, into, .int p] /\ H y = some (.ins C dx []) /\
 if 0 <= p /\ p <= 4 then ∀ H' l1 l2, Own H H' y -> H' y = some (.ins C dx (df l1 l2 p)) -> H' l1 = some (.lst [into]) -> H' l2 = some (.lst []) -> H l1 = none -> H l2 = none -> Q .non H' else E (.ref CB) none H
theorem Qj (T : Txt K mg a) (F : Fun K "__init__" "Drain.__init__" j8 f fd) : FnOk P w K mg base (CXr P w) 2 f fd ["self", "into", "pace"] (vx a.Drain a.BadKnot) := by
 refine F.okx Qg ?_ ?_
 ·walk_at "i"
 walk_at "k";obtain ⟨y, dx, into, p, rfl, hy, k⟩ := h;walk_at "T";refine ⟨_, (zH (zw (z6 ⟨rfl, rfl, rfl⟩ hr (za (pq 2) (za zg ze))))  (zH (zw (xM ⟨rfl, rfl, rfl⟩ hr (za (pq 0) (za (zv (za (pq 1) ze)) (za (zv ze) ze)))))  (zh (jU (pq 0) (pq 2) rfl)))), ?_⟩;walk_at "go";refine ⟨_, _, _, wR T, p, 0, rfl, zN (λ hok => ?_) (λ hok => ?_)⟩
 ·rw [if_pos hok] at k;walk_at "go";refine ⟨_, _, _, b_Knot_init T, λ q1 hq1 q2 hq2 => ?_⟩;have n12 : q1 ≠ q2 := ne_of_none upd_same hq2;have hy2 := upd_keep (o := .lst []) (upd_keep (o := .lst [into]) hy hq1) hq2;refine ⟨y, a.Drain, dx, q1, q2, [into], [], rfl, hy2, T.C_Drain, T.N_Drain_ins, T.N_Drain_outs, SqL.of (upd_keep upd_same hq2), SqL.of upd_same, (ne_of_none hy hq1).symm, (ne_of_none (upd_keep hy hq1) hq2).symm, λ H' l1 l2 s h1 h2 h3 h4 h5 => ?_⟩;walk_at "go";refine ⟨y, a.Drain, dx, _, rfl, h1, T.C_Drain, T.N_Drain_pace, Wn, ?_⟩;exact k _ l1 l2 (((Same.own ((zf hq1).trans (zf hq2))).trans s).trans jH) upd_same (by rw [upd_ne (vF h2 h1 (by intro z;cases z))];exact h2) (by rw [upd_ne (vF h3 h1 (by intro z;cases z))];exact h3) (zr (zr h4)) (zr (zr h5))
 ·rw [if_neg hok] at k;exact k
theorem Vi (T : Txt K mg a) : KCal P w K mg base "Drain" a.Drain 2 ["self", "into", "pace"] [] (vx a.Drain a.BadKnot) := T.h_Drain_init.cal T.g_Drain (Qj T)
def sf (l1 l2 : Addr) (p : Int) (l3 : Addr) : List (Str × V) := qm "kinds" (.ref l3) (df l1 l2 p)
def wX (ks : List Int) : Prop := ∀ n ∈ ks, 0 <= n /\ n < zo
def ww (K : PySem.W.Frag) (C CB : Addr) : Sp := λ vs H Q E => ∃ (y dx l : Addr) (out : V) (p : Int) (ks : List Int), vs = [.ref y, out, .int p, .ref l] /\ H y = some (.ins C dx []) /\ SqL K H l (ks.map V.int) /\ l ≠ y /\
 ((1 <= p /\ p <= 4 /\ 1 <= ks.length /\ ks.length <= 6 /\ wX ks -> ∀ H' l1 l2 l3, Own H H' y -> H' y = some (.ins C dx (sf l1 l2 p l3)) -> H' l1 = some (.lst []) -> H' l2 = some (.lst [out]) -> H' l3 = some (.lst (ks.map V.int)) -> H l1 = none -> H l2 = none -> H l3 = none -> Q .non H') /\
   (¬ (1 <= p /\ p <= 4 /\ 1 <= ks.length /\ ks.length <= 6 /\ wX ks) -> E (.ref CB) none H))
theorem ZD (T : Txt K mg a) (F : Fun K "__init__" "Source.__init__" jP f fd) : FnOk P w K mg base (CXr P w) 2 f fd ["self", "out", "pace", "kinds"] (ww K a.Source a.BadKnot) := by
 refine F.okx Zp ?_ ?_
 ·walk_at "i"
 walk_at "k";obtain ⟨y, dx, l, out, p, ks, rfl, hy, hl, hly, kok, kbad⟩ := h;obtain ⟨t1, g1⟩ := T.g_MOST_KINDS;walk_at "T";refine ⟨_, (zH (zw (z6 ⟨rfl, rfl, rfl⟩ hr (za (pq 2) (za zg ze))))  (zH (zC (qN (qS jb jb zg (zJ zG zF (za (pq 3) ze)) qC))  (zh (qL ⟨rfl, rfl, rfl⟩ rfl (za zl ze)))  zp)  (zH (jh xl rfl (qT (pq 3)) (qI 4 Zp.nd)  (zh (zw (z6 ⟨rfl, rfl, rfl⟩ hr (za (pq 4) ze)))))  (zH (zw (xM ⟨rfl, rfl, rfl⟩ hr (za (pq 0) (za (zv ze) (za (zv (za (pq 1) ze)) ze)))))  (zH (jU (pq 0) (pq 2) rfl)  (zh (jU (pq 0) (jG Zc wV (za (pq 3) ze)) rfl))))))), ?_⟩;walk_at "go";refine ⟨_, _, _, wR T, p, 1, rfl, zN (λ hp => ?_) (λ hp => kbad λ z => hp ⟨z.1, z.2.1⟩)⟩;walk_at "go";refine ⟨_, .inl ⟨_, hl, rfl⟩, ?_⟩;rw [length_map];walk_at "go";have bad : ¬ (1 <= ks.length /\ ks.length <= 6) -> ∃ C, mg "BadKnot" = some (Value.ref C) /\ XC K C /\ E (Value.ref C) none H := λ h => ⟨a.BadKnot, T.g_BadKnot, T.X_BadKnot, kbad λ z => h ⟨z.2.2.1, z.2.2.2.1⟩⟩;refine zN (λ h1 => ?_) (λ h1 => bad (by lia));refine ⟨.int 6, _, g1, ⟨_, rfl⟩, ?_⟩;walk_at "go";refine zN (λ h2 => ?_) (λ h2 => bad (by lia));walk_at "for";refine ⟨l, rfl, .inl ⟨⟨_, hl⟩, ?_⟩⟩;refine jK (K := K) (a := l) (xs := ks.map V.int) (λ i σ H' => ∃ v4, σ = [some (.ref y), some out, some (.int p), some (.ref l), v4] /\ H' = H /\ wX (ks.take i)) ⟨_, rfl, rfl, (λ _ h => nomatch h)⟩ (λ i σ H' _ ⟨_, _, e, _⟩ => e ▸ hl) ?_ ?_
 ·rintro i x σ H' hi ⟨v4, rfl, rfl, hk⟩;rw [getElem?_map, Option.map_eq_some_iff] at hi;obtain ⟨n, hn, rfl⟩ := hi;walk_at "go";refine ⟨_, _, _, wS T, n, rfl, zN (λ hok => ?_) (λ hok => kbad λ z => hok (z.2.2.2.2 n (mem_of_getElem? hn)))⟩;walk_at "go";have : wX (ks.take (i + 1)) := λ m hm => by
   rw [List.take_succ, hn] at hm;rcases List.mem_append.mp hm with z|z
   ·exact hk m z
   ·have e : m = n := by simpa using z
    rw [e];exact hok
  first|exact ⟨_, rfl, rfl, this⟩|exact ⟨_, rfl, this⟩
 ·rintro σ H' ⟨v4, rfl, rfl, hk⟩;rw [length_map, take_length] at hk;have kok := kok ⟨hp.1, hp.2, by lia, by lia, hk⟩;walk_at "go";refine ⟨_, _, _, b_Knot_init T, λ q1 hq1 q2 hq2 => ?_⟩;have hy2 := upd_keep (o := .lst [out]) (upd_keep (o := .lst []) hy hq1) hq2;have s12 : Same H' (upd (upd H' q1 (.lst [])) q2 (.lst [out])) := (zf hq1).trans (zf hq2);refine ⟨y, a.Source, dx, q1, q2, [], [out], rfl, hy2, T.C_Source, T.N_Source_ins, T.N_Source_outs, SqL.of (upd_keep upd_same hq2), SqL.of upd_same, (ne_of_none hy hq1).symm, (ne_of_none (upd_keep hy hq1) hq2).symm, λ H2 l1 l2 s h1 h2 h3 h4 h5 => ?_⟩;walk_at "go";refine ⟨y, a.Source, dx, _, rfl, h1, T.C_Source, T.N_Source_pace, Wn, ?_⟩;walk_at "go";have s3 : Own H' (upd H2 y (.ins a.Source dx (df l1 l2 p))) y := ((Same.own s12).trans s).trans jH;have h2' : upd H2 y (.ins a.Source dx (df l1 l2 p)) l1 = some (.lst []) := by rw [upd_ne (vF h2 h1 (by intro z;cases z))];exact h2
  have h3' : upd H2 y (.ins a.Source dx (df l1 l2 p)) l2 = some (.lst [out]) := by rw [upd_ne (vF h3 h1 (by intro z;cases z))];exact h3
  refine ⟨l, _, rfl, .inl (WP hl s3 hly), λ l3 hl3 => ?_⟩;walk_at "go";have hy3 : upd (upd H2 y (.ins a.Source dx (df l1 l2 p))) l3 (.lst (ks.map V.int)) y = some (.ins a.Source dx (df l1 l2 p)) := upd_keep upd_same hl3;refine ⟨y, a.Source, dx, _, rfl, hy3, T.C_Source, T.N_Source_kinds, zdl, ?_⟩;have n1 : l1 ≠ y := vF h2 h1 (by intro z;cases z);have n2 : l2 ≠ y := vF h3 h1 (by intro z;cases z);have n3 : l3 ≠ y := (ne_of_none (upd_same (H := H2)) hl3).symm;refine kok _ l1 l2 l3 ((s3.trans (Same.own (zf hl3))).trans jH) upd_same ?_ ?_ ?_ (zr (zr h4)) (zr (zr h5)) ?_
  ·rw [upd_ne n1];exact upd_keep h2' hl3
  ·rw [upd_ne n2];exact upd_keep h3' hl3
  ·rw [upd_ne n3];exact upd_same
  ·cases e : H' l3 with
   | none => rfl
   | some o => exact absurd (hl3.symm.trans (s3 l3 o n3 e)) (by intro z;cases z)
theorem Xs (T : Txt K mg a) : KCal P w K mg base "Source" a.Source 2 ["self", "out", "pace", "kinds"] [] (ww K a.Source a.BadKnot) := T.h_Source_init.cal T.g_Source (ZD T)
def bf (rm pc : Int) : List (Str × V) := qm "pace" (.int pc) (qm "room" (.int rm) [])
abbrev z4 (rm pc : Int) : Prop := 1 <= rm /\ rm <= 6 /\ 1 <= pc /\ pc <= 4
def Zl (C CB : Addr) : Sp := λ vs H Q E => ∃ (y dx : Addr) (rm pc : Int), vs = [.ref y, .int rm, .int pc] /\ H y = some (.ins C dx []) /\ if z4 rm pc then Q .non (upd H y (.ins C dx (bf rm pc))) else E (.ref CB) none H
theorem Jr (T : Txt K mg a) (F : Fun K "__init__" "Belt.__init__" xv f fd) : FnOk P w K mg base (CXr P w) 1 f fd ["self", "room", "pace"] (Zl a.Belt a.BadBelt) := by
 refine F.okx Je ?_ ?_
 ·walk_at "i"
 walk_at "k";obtain ⟨y, dx, rm, pc, rfl, hy, k⟩ := h;obtain ⟨t1, g1⟩ := T.g_MOST_ROOM;obtain ⟨t2, g2⟩ := T.g_MOST_PACE;walk_at "T";refine ⟨_, (zH (zC (qN (qS jb jb zg (pq 1) qC))  (zh (qL ⟨rfl, rfl, rfl⟩ rfl (za zl ze)))  zp)  (zH (zC (qN (qS jb jb zg (pq 2) qC))  (zh (qL ⟨rfl, rfl, rfl⟩ rfl (za zl ze)))  zp)  (zH (jU (pq 0) (pq 1) rfl)  (zh (jU (pq 0) (pq 2) rfl))))), ?_⟩;walk_at "go";have bad : ¬ z4 rm pc -> ∃ C, mg "BadBelt" = some (Value.ref C) /\ XC K C /\ E (Value.ref C) none H := λ h => by
  rw [if_neg h] at k;exact ⟨a.BadBelt, T.g_BadBelt, T.X_BadBelt, k⟩
 refine zN (λ h1 => ?_) (λ h1 => bad (by unfold z4;lia));refine ⟨.int 6, _, g1, ⟨_, rfl⟩, ?_⟩;walk_at "go";refine zN (λ h2 => ?_) (λ h2 => bad (by unfold z4;lia));walk_at "go";refine zN (λ h3 => ?_) (λ h3 => bad (by unfold z4;lia));refine ⟨.int 4, _, g2, ⟨_, rfl⟩, ?_⟩;walk_at "go";refine zN (λ h4 => ?_) (λ h4 => bad (by unfold z4;lia));rw [if_pos (by unfold z4;lia)] at k;walk_at "go";refine ⟨y, a.Belt, dx, [], rfl, hy, T.C_Belt, T.N_Belt_room, by decide, ?_⟩;walk_at "go";refine ⟨y, a.Belt, dx, _, rfl, upd_same, T.C_Belt, T.N_Belt_pace, by show 1 < 1000;decide, ?_⟩;rw [QY];exact k
theorem zbb (T : Txt K mg a) : KCal P w K mg base "Belt" a.Belt 1 ["self", "room", "pace"] [] (Zl a.Belt a.BadBelt) := T.h_Belt_init.cal T.g_Belt (Jr T)
theorem qf {H : Hp} {y dx b C : Addr} {u : HO} (hy : H y = none) (hdx : H dx = none) (h : H b = some u) : upd (upd H dx (.own y)) y (.ins C dx []) b = some u := by
 rw [upd_ne (ne_of_none h hy), upd_ne (ne_of_none h hdx)];exact h
theorem zM {H : Hp} {y dx b : Addr} {o p : HO} (h : upd (upd H dx o) y p b = none) : H b = none := zr (zr h)
theorem z9 {H H' : Hp} {b : Addr} (s : Same H H') (h : H' b = none) : H b = none := by
 cases e : H b with
 | none => rfl
 | some o => rw [s b o e] at h;cases h
inductive Wd|source|drain|parter|first|sieve|joiner
deriving DecidableEq
def Z0 (a : Ad) : Wd -> Addr
 | .source => a.Source
 | .drain => a.Drain
 | .parter => a.Parter
 | .first => a.FirstParter
 | .sieve => a.Sieve
 | .joiner => a.Joiner
structure Row where
 wd : Wd
 ins : List Int
 outs : List Int
 pace : Int
 kinds : List Int
def Row.ok (r : Row) : Prop := match r.wd with
 | .source => r.ins = [] /\ (∃ o, r.outs = [o]) /\ 1 <= r.pace /\ r.pace <= 4 /\ 1 <= r.kinds.length /\ r.kinds.length <= 6 /\ wX r.kinds
 | .drain => (∃ i, r.ins = [i]) /\ r.outs = [] /\ 0 <= r.pace /\ r.pace <= 4
 | .parter => (∃ i, r.ins = [i]) /\ 2 <= r.outs.length /\ r.outs.length <= 4
 | .first => (∃ i, r.ins = [i]) /\ 2 <= r.outs.length /\ r.outs.length <= 4
 | .sieve => (∃ i, r.ins = [i]) /\ r.outs.length = 2 /\ ∃ k, r.kinds = [k] /\ 0 <= k /\ k < zo
 | .joiner => (∃ o, r.outs = [o]) /\ 2 <= r.ins.length /\ r.ins.length <= 4
def Xd (r : Row) : List (Str × D) := match r.wd with
 | .source => [("pace", .int r.pace), ("kinds", .ints r.kinds)]
 | .drain => [("pace", .int r.pace)]
 | .sieve => [("kind", .int (r.kinds.headD 0))]
 | _ => []
def ZR (r : Row) : List (Str × D) := ("ins", .ints r.ins) :: ("outs", .ints r.outs) :: Xd r
def Vw (a : Ad) (r : Row) : D := .ob (Z0 a r.wd) (ZR r)
def Vx (a : Ad) (b : Int × Int) : D := .ob a.Belt [("room", .int b.1), ("pace", .int b.2)]
theorem we {α : Type} {f : Str} {x : α} {r : List (Str × α)} : ((f, x) :: r).lookup f = some x := by simp [List.lookup]
theorem qB {α : Type} {f g : Str} {x : α} {r : List (Str × α)} (h : f ≠ g) : ((g, x) :: r).lookup f = r.lookup f := by
 have hb : (f == g) = false := beq_eq_false_iff_ne.mpr h;simp [List.lookup, hb]
theorem zb5 (r : Row) : (ZR r).lookup ("ins" : Str) = some (.ints r.ins) := we
theorem za8 (r : Row) : (ZR r).lookup ("outs" : Str) = some (.ints r.outs) := (qB (by decide +kernel)).trans we
theorem za7 {r : Row} (h : r.wd = .source \/ r.wd = .drain) : (ZR r).lookup ("pace" : Str) = some (.int r.pace) := by
 refine (qB (by decide +kernel)).trans ((qB (by decide +kernel)).trans ?_);unfold Xd;rcases h with h|h <;> (rw [h];exact we)
theorem V6 {r : Row} (h : r.wd = .source) : (ZR r).lookup ("kinds" : Str) = some (.ints r.kinds) := by
 refine (qB (by decide +kernel)).trans ((qB (by decide +kernel)).trans ?_);unfold Xd;rw [h];exact (qB (by decide +kernel)).trans we
theorem za9 {r : Row} {k : Int} (h : r.wd = .sieve) (e : r.kinds = [k]) : (ZR r).lookup ("kind" : Str) = some (.int k) := by
 refine (qB (by decide +kernel)).trans ((qB (by decide +kernel)).trans ?_);unfold Xd;rw [h, e];exact we
theorem zc7 {r : Row} {f : Str} (h1 : f ≠ "ins") (h2 : f ≠ "outs") (h3 : f ≠ "pace") (h4 : f ≠ "kinds") (h5 : f ≠ "kind") : (ZR r).lookup f = none := by
 refine (qB h1).trans ((qB h2).trans ?_);unfold Xd
 split
 ·exact (qB h3).trans (qB h4)
 ·exact qB h3
 ·exact qB h5
 ·rfl
def KnP (a : Ad) (H : Hp) (p : Addr -> Prop) (v : V) (r : Row) : Prop := Rep H p v (Vw a r)
theorem KnP.keep {H H' : Hp} {p q : Addr -> Prop} {v : V} {r : Row} (h : KnP a H p v r) (s : ∀ b o, p b -> H b = some o -> q b /\ H' b = some o) : KnP a H' q v r := Rep.keep s h
theorem KnP.inv {H : Hp} {p : Addr -> Prop} {v : V} {r : Row} (h : KnP a H p v r) : ∃ y dx l1 l2 l3 fs, v = .ref y /\ p y /\ p l1 /\ p l2 /\ (r.wd = .source -> p l3) /\ H y = some (.ins (Z0 a r.wd) dx fs) /\ fs.lookup ("ins" : Str) = some (.ref l1) /\ fs.lookup ("outs" : Str) = some (.ref l2) /\
  fs.lookup ("copied" : Str) = none /\ H l1 = some (.lst (iv r.ins)) /\ H l2 = some (.lst (iv r.outs)) /\ (r.wd = .source -> fs.lookup ("kinds" : Str) = some (.ref l3) /\ H l3 = some (.lst (iv r.kinds))) /\ ((r.wd = .source \/ r.wd = .drain) -> fs.lookup ("pace" : Str) = some (.int r.pace)) := by
 obtain ⟨y, dx, fs, rfl, py, hy, g1, g2⟩ := Rep.ob' h;obtain ⟨u1, e1, r1⟩ := g1 _ _ (zb5 r);obtain ⟨l1, rfl, p1, h1⟩ := r1.ints';obtain ⟨u2, e2, r2⟩ := g1 _ _ (za8 r);obtain ⟨l2, rfl, p2, h2⟩ := r2.ints';have e3 := g2 ("copied" : Str) (zc7 (by decide +kernel) (by decide +kernel) (by decide +kernel) (by decide +kernel) (by decide +kernel));have pc : (r.wd = .source \/ r.wd = .drain) -> fs.lookup ("pace" : Str) = some (.int r.pace) := λ z => by
  obtain ⟨u, e, ru⟩ := g1 _ _ (za7 z);cases ru;exact e
 by_cases hs : r.wd = .source
 ·obtain ⟨u3, e4, r3⟩ := g1 _ _ (V6 hs);obtain ⟨l3, rfl, p3, h3⟩ := r3.ints';exact ⟨y, dx, l1, l2, l3, fs, rfl, py, p1, p2, λ _ => p3, hy, e1, e2, e3, h1, h2, λ _ => ⟨e4, h3⟩, pc⟩
 ·exact ⟨y, dx, l1, l2, l1, fs, rfl, py, p1, p2, λ z => absurd z hs, hy, e1, e2, e3, h1, h2, λ z => absurd z hs, pc⟩
theorem Xr {l1 l2 : Addr} : kf l1 l2 = ([(("ins" : Str), V.ref l1), (("outs" : Str), V.ref l2)] : List (Str × V)) := by
 unfold kf;simp only [qm];rw [if_neg (by decide +kernel)]
theorem zcz {l1 l2 : Addr} {n : Int} : df l1 l2 n = ([(("ins" : Str), V.ref l1), (("outs" : Str), V.ref l2), (("pace" : Str), V.int n)] : List (Str × V)) := by
 unfold df;rw [Xr];simp only [qm];rw [if_neg (by decide +kernel), if_neg (by decide +kernel)]
theorem zdz {l1 l2 l3 : Addr} {n : Int} : sf l1 l2 n l3 = ([(("ins" : Str), V.ref l1), (("outs" : Str), V.ref l2), (("pace" : Str), V.int n), (("kinds" : Str), V.ref l3)] : List (Str × V)) := by
 unfold sf;rw [zcz];simp only [qm];rw [if_neg (by decide +kernel), if_neg (by decide +kernel), if_neg (by decide +kernel)]
theorem zdx {l1 l2 : Addr} {n : Int} : vf l1 l2 n = ([(("ins" : Str), V.ref l1), (("outs" : Str), V.ref l2), (("kind" : Str), V.int n)] : List (Str × V)) := by
 unfold vf;rw [Xr];simp only [qm];rw [if_neg (by decide +kernel), if_neg (by decide +kernel)]
theorem xw {H : Hp} {p : Addr -> Prop} {l C dx : Addr} {fs : List (Str × V)} {gs : List (Str × D)} (pl : p l) (e : H l = some (.ins C dx fs)) (n : fs.map (·.1) = gs.map (·.1)) (r : Reps H p (fs.map (·.2)) (gs.map (·.2))) : Rep H p (.ref l) (.ob C gs) :=
 .ob pl e n λ i f g hf hg => r.g i f.2 g.2 (by rw [getElem?_map, hf];rfl) (by rw [getElem?_map, hg];rfl)
section
variable {H : Hp} {p : Addr -> Prop} {z dz m1 m2 m3 : Addr} {ins outs kinds : List Int} {pace : Int}
theorem QF (q0 : p z) (q1 : p m1) (q2 : p m2) (q3 : p m3) (h0 : H z = some (.ins a.Source dz (sf m1 m2 pace m3))) (h1 : H m1 = some (.lst (iv ins))) (h2 : H m2 = some (.lst (iv outs))) (h3 : H m3 = some (.lst (iv kinds))) : KnP a H p (.ref z) ⟨.source, ins, outs, pace, kinds⟩ := by
 rw [zdz] at h0;exact xw q0 h0 rfl (.cons (qd q1 h1) (.cons (qd q2 h2) (.cons .int (.cons (qd q3 h3) .nil))))
theorem Xp (q0 : p z) (q1 : p m1) (q2 : p m2) (h0 : H z = some (.ins a.Drain dz (df m1 m2 pace))) (h1 : H m1 = some (.lst (iv ins))) (h2 : H m2 = some (.lst (iv outs))) : KnP a H p (.ref z) ⟨.drain, ins, outs, pace, kinds⟩ := by
 rw [zcz] at h0;exact xw q0 h0 rfl (.cons (qd q1 h1) (.cons (qd q2 h2) (.cons .int .nil)))
theorem Xn {k : Int} (q0 : p z) (q1 : p m1) (q2 : p m2) (h0 : H z = some (.ins a.Sieve dz (vf m1 m2 k))) (h1 : H m1 = some (.lst (iv ins))) (h2 : H m2 = some (.lst (iv outs))) : KnP a H p (.ref z) ⟨.sieve, ins, outs, pace, [k]⟩ := by
 rw [zdx] at h0;exact xw q0 h0 rfl (.cons (qd q1 h1) (.cons (qd q2 h2) (.cons .int .nil)))
theorem QG (q0 : p z) (q1 : p m1) (q2 : p m2) (h0 : H z = some (.ins a.Parter dz (kf m1 m2))) (h1 : H m1 = some (.lst (iv ins))) (h2 : H m2 = some (.lst (iv outs))) : KnP a H p (.ref z) ⟨.parter, ins, outs, pace, kinds⟩ := by
 rw [Xr] at h0;exact xw q0 h0 rfl (.cons (qd q1 h1) (.cons (qd q2 h2) .nil))
theorem Xo (q0 : p z) (q1 : p m1) (q2 : p m2) (h0 : H z = some (.ins a.FirstParter dz (kf m1 m2))) (h1 : H m1 = some (.lst (iv ins))) (h2 : H m2 = some (.lst (iv outs))) : KnP a H p (.ref z) ⟨.first, ins, outs, pace, kinds⟩ := by
 rw [Xr] at h0;exact xw q0 h0 rfl (.cons (qd q1 h1) (.cons (qd q2 h2) .nil))
theorem QH (q0 : p z) (q1 : p m1) (q2 : p m2) (h0 : H z = some (.ins a.Joiner dz (kf m1 m2))) (h1 : H m1 = some (.lst (iv ins))) (h2 : H m2 = some (.lst (iv outs))) : KnP a H p (.ref z) ⟨.joiner, ins, outs, pace, kinds⟩ := by
 rw [Xr] at h0;exact xw q0 h0 rfl (.cons (qd q1 h1) (.cons (qd q2 h2) .nil))
end
def BtP (a : Ad) (H : Hp) (p : Addr -> Prop) (v : V) (r : Int × Int) : Prop := Rep H p v (Vx a r)
theorem BtP.keep {H H' : Hp} {p q : Addr -> Prop} {v : V} {r : Int × Int} (h : BtP a H p v r) (s : ∀ b o, p b -> H b = some o -> q b /\ H' b = some o) : BtP a H' q v r := Rep.keep s h
theorem zdS {rm pc : Int} : bf rm pc = ([(("room" : Str), V.int rm), (("pace" : Str), V.int pc)] : List (Str × V)) := by
 unfold bf;simp only [qm];rw [if_neg (by decide +kernel)]
theorem zcA {H : Hp} {p : Addr -> Prop} {y dx : Addr} {rm pc : Int} (q0 : p y) (h0 : H y = some (.ins a.Belt dx (bf rm pc))) : BtP a H p (.ref y) (rm, pc) := by
 rw [zdS] at h0;exact xw q0 h0 rfl (.cons .int (.cons .int .nil))
theorem BtP.inv {H : Hp} {p : Addr -> Prop} {v : V} {r : Int × Int} (h : BtP a H p v r) : ∃ y dx fs, v = .ref y /\ p y /\ H y = some (.ins a.Belt dx fs) /\ fs.lookup ("room" : Str) = some (.int r.1) /\ fs.lookup ("pace" : Str) = some (.int r.2) := by
 obtain ⟨y, dx, fs, rfl, py, hy, g1, g2⟩ := Rep.ob' h;obtain ⟨u1, e1, r1⟩ := g1 ("room" : Str) _ we;obtain ⟨u2, e2, r2⟩ := g1 ("pace" : Str) _ ((qB (by decide +kernel)).trans we);cases r1;cases r2;exact ⟨y, dx, fs, rfl, py, hy, e1, e2⟩
structure Kns (a : Ad) (H : Hp) (p : Addr -> Prop) (vs : List V) (rs : List Row) : Prop where
 len : vs.length = rs.length
 g : ∀ (i : Nat) v r, vs[i]? = some v -> rs[i]? = some r -> KnP a H p v r
theorem Kns.keep {H H' : Hp} {p q : Addr -> Prop} {vs : List V} {rs : List Row} (h : Kns a H p vs rs) (s : ∀ b o, p b -> H b = some o -> q b /\ H' b = some o) : Kns a H' q vs rs := ⟨h.len, λ i v r e1 e2 => (h.g i v r e1 e2).keep s⟩
theorem Kns.nil {H : Hp} {p : Addr -> Prop} : Kns a H p [] [] := ⟨rfl, λ i v r h => by simp at h⟩
theorem Kns.append {H : Hp} {p : Addr -> Prop} {vs us : List V} {rs qs : List Row} (h : Kns a H p vs rs) (k : Kns a H p us qs) : Kns a H p (vs ++ us) (rs ++ qs) := by
 refine ⟨by rw [length_append, length_append, h.len, k.len], λ i v r e1 e2 => ?_⟩;by_cases hi : i < vs.length
 ·rw [getElem?_append_left hi] at e1;rw [getElem?_append_left (by rw [<- h.len];exact hi)] at e2;exact h.g i v r e1 e2
 ·rw [getElem?_append_right (by lia)] at e1;rw [getElem?_append_right (by rw [<- h.len];lia), <- h.len] at e2;exact k.g _ v r e1 e2
theorem Kns.one {H : Hp} {p : Addr -> Prop} {v : V} {r : Row} (h : KnP a H p v r) : Kns a H p [v] [r] :=
 ⟨rfl, λ i u q e1 e2 => by
  have hi := (List.getElem?_eq_some_iff.mp e1).1;have : i = 0 := by simp at hi;lia
  subst this;have e1 : v = u := by simpa using e1
  have e2 : r = q := by simpa using e2
  rw [<- e1, <- e2];exact h⟩
theorem Kns.at {H : Hp} {p : Addr -> Prop} {vs : List V} {rs : List Row} (h : Kns a H p vs rs) {i : Nat} {v : V} (e : vs[i]? = some v) : ∃ r, rs[i]? = some r /\ KnP a H p v r := by
 have hi := (List.getElem?_eq_some_iff.mp e).1;have e2 : rs[i]? = some (rs[i]'(by rw [<- h.len];exact hi)) := getElem?_eq_getElem _;exact ⟨_, e2, h.g i v _ e e2⟩
structure Bts (a : Ad) (H : Hp) (p : Addr -> Prop) (vs : List V) (rs : List (Int × Int)) : Prop where
 len : vs.length = rs.length
 g : ∀ (i : Nat) v r, vs[i]? = some v -> rs[i]? = some r -> BtP a H p v r
theorem Bts.keep {H H' : Hp} {p q : Addr -> Prop} {vs : List V} {rs : List (Int × Int)} (h : Bts a H p vs rs) (s : ∀ b o, p b -> H b = some o -> q b /\ H' b = some o) : Bts a H' q vs rs := ⟨h.len, λ i v r e1 e2 => (h.g i v r e1 e2).keep s⟩
theorem Bts.nil {H : Hp} {p : Addr -> Prop} : Bts a H p [] [] := ⟨rfl, λ i v r h => by simp at h⟩
theorem Bts.push {H : Hp} {p : Addr -> Prop} {vs : List V} {v : V} {rs : List (Int × Int)} {r : Int × Int} (h : Bts a H p vs rs) (k : BtP a H p v r) : Bts a H p (vs ++ [v]) (rs ++ [r]) := by
 refine ⟨by rw [length_append, length_append, h.len];rfl, λ i u q e1 e2 => ?_⟩;by_cases hi : i < vs.length
 ·rw [getElem?_append_left hi] at e1;rw [getElem?_append_left (by rw [<- h.len];exact hi)] at e2;exact h.g i u q e1 e2
 ·rw [getElem?_append_right (by lia)] at e1;rw [getElem?_append_right (by rw [<- h.len];lia), <- h.len] at e2;have hj := (List.getElem?_eq_some_iff.mp e1).1;have : i - vs.length = 0 := by simp at hj;lia
  rw [this] at e1 e2;have e1 : v = u := by simpa using e1
  have e2 : r = q := by simpa using e2
  rw [<- e1, <- e2];exact k
theorem Bts.at {H : Hp} {p : Addr -> Prop} {vs : List V} {rs : List (Int × Int)} (h : Bts a H p vs rs) {i : Nat} {v : V} (e : vs[i]? = some v) : ∃ r, rs[i]? = some r /\ BtP a H p v r := by
 have hi := (List.getElem?_eq_some_iff.mp e).1;have e2 : rs[i]? = some (rs[i]'(by rw [<- h.len];exact hi)) := getElem?_eq_getElem _;exact ⟨_, e2, h.g i v _ e e2⟩
abbrev New (H : Hp) : Addr -> Prop := λ b => H b = none
def jt (a : Ad) (wd : Wd) : Sp := λ vs H Q _ => ∃ (y : Addr) (r : Row) (p : Addr -> Prop), vs = [.ref y] /\ KnP a H p (.ref y) r /\ r.wd = wd /\ r.ok /\ ∀ v H', Same H H' -> KnP a H' (New H) v r -> Q v H'
theorem Kns.reps {H : Hp} {p : Addr -> Prop} {vs : List V} {rs : List Row} (h : Kns a H p vs rs) : Reps H p vs (rs.map (Vw a)) := ⟨by rw [h.len, length_map], λ i v d e1 e2 => by
 rw [getElem?_map, Option.map_eq_some_iff] at e2;obtain ⟨r, e2, rfl⟩ := e2;exact h.g i v r e1 e2⟩
theorem Bts.reps {H : Hp} {p : Addr -> Prop} {vs : List V} {rs : List (Int × Int)} (h : Bts a H p vs rs) : Reps H p vs (rs.map (Vx a)) := ⟨by rw [h.len, length_map], λ i v d e1 e2 => by
 rw [getElem?_map, Option.map_eq_some_iff] at e2;obtain ⟨r, e2, rfl⟩ := e2;exact h.g i v r e1 e2⟩
theorem Kns.of {H : Hp} {p : Addr -> Prop} {vs : List V} {rs : List Row} (h : Reps H p vs (rs.map (Vw a))) : Kns a H p vs rs := ⟨by rw [h.len, length_map], λ i v r e1 e2 => h.g i v _ e1 (by rw [getElem?_map, e2];rfl)⟩
theorem Bts.of {H : Hp} {p : Addr -> Prop} {vs : List V} {rs : List (Int × Int)} (h : Reps H p vs (rs.map (Vx a))) : Bts a H p vs rs := ⟨by rw [h.len, length_map], λ i v r e1 e2 => h.g i v _ e1 (by rw [getElem?_map, e2];rfl)⟩
theorem vO (T : Txt K mg a) : MCal P w K mg base a.Source "copied" 4 ["self"] [] (jt a .source) := T.h_Source_copied.cal T.C_Source λ F => by
 refine F.okx w9 ?_ ?_
 ·walk_at "i"
 walk_at "k";obtain ⟨y, ⟨wd, ins, outs, pace, kinds⟩, p, rfl, hK, hw, hok, k⟩ := h;cases hw;have hK0 := hK;obtain ⟨y', dx, l1, l2, l3, fs, e, p0, p1, p2, p3, h0, e1, e2, e3, h1, h2, h3, h4⟩ := hK.inv;cases e;obtain ⟨hk, hk'⟩ := h3 rfl;have hp := h4 (.inl rfl);obtain ⟨q1, ⟨ov, q2⟩, q3, q4, q5, q6, q7⟩ := hok;simp only at q1 q2;subst q1 q2;walk_at "T";refine ⟨_, (zh (zu (jF (x := "Source") ⟨rfl, rfl, rfl⟩ hr (za (zX (qy (pq 0) rfl) zg) (za (qy (pq 0) rfl) (za (qy (pq 0) rfl) ze)))))), ?_⟩;walk_at "go";refine ⟨a.Source, _, _, _, (Xs T).mono, y, a.Source, dx, fs, _, rfl, h0, T.C_Source, T.N_Source_outs, e2, zS (SqL.of h2) at0 ?_⟩;refine ra h0 T.C_Source T.N_Source_pace hp ?_;refine ra h0 T.C_Source T.N_Source_kinds hk ?_;intro z dz hz hdz hne;refine ⟨z, dz, l3, .int ov, pace, kinds, rfl, upd_same, SqL.of (qf hz hdz hk'), ne_of_none hk' hz, λ _ H' m1 m2 m3 s' g1 g2 g3 g4 n1 n2 n3 => ⟨rfl, ?_⟩, λ hbad => absurd ⟨q3, q4, q5, q6, q7⟩ hbad⟩;exact k _ _ (Own.of_new hz hdz s') (QF (p := New H) (ins := []) (outs := [ov]) hz (zM n1) (zM n2) (zM n3) g1 g2 g3 g4)
theorem ZP (T : Txt K mg a) : MCal P w K mg base a.Drain "copied" 4 ["self"] [] (jt a .drain) := T.h_Drain_copied.cal T.C_Drain λ F => by
 refine F.okx vM ?_ ?_
 ·walk_at "i"
 walk_at "k";obtain ⟨y, ⟨wd, ins, outs, pace, kinds⟩, p, rfl, hK, hw, hok, k⟩ := h;cases hw;have hK0 := hK;obtain ⟨y', dx, l1, l2, l3, fs, e, p0, p1, p2, p3, h0, e1, e2, e3, h1, h2, h3, h4⟩ := hK.inv;cases e;have hp := h4 (.inr rfl);obtain ⟨⟨iv', q1⟩, q2, q3, q4⟩ := hok;simp only at q1 q2;subst q1 q2;walk_at "T";refine ⟨_, (zh (zu (jF (x := "Drain") ⟨rfl, rfl, rfl⟩ hr (za (zX (qy (pq 0) rfl) zg) (za (qy (pq 0) rfl) ze))))), ?_⟩;walk_at "go";refine ⟨a.Drain, _, _, _, (Vi T).mono, y, a.Drain, dx, fs, _, rfl, h0, T.C_Drain, T.N_Drain_ins, e1, zS (SqL.of h1) at0 ?_⟩;refine ra h0 T.C_Drain T.N_Drain_pace hp ?_;intro z dz hz hdz hne;refine ⟨z, dz, .int iv', pace, rfl, upd_same, ?_⟩;rw [if_pos ⟨q3, q4⟩];intro H' m1 m2 s' g1 g2 g3 n1 n2;exact ⟨rfl, k _ _ (Own.of_new hz hdz s') (Xp (p := New H) (ins := [iv']) (outs := []) hz (zM n1) (zM n2) g1 g2 g3)⟩
theorem vP (T : Txt K mg a) : MCal P w K mg base a.Parter "copied" 4 ["self"] [] (jt a .parter) := T.h_Parter_copied.cal T.C_Parter λ F => by
 refine F.okx va ?_ ?_
 ·walk_at "i"
 walk_at "k";obtain ⟨y, ⟨wd, ins, outs, pace, kinds⟩, p, rfl, hK, hw, hok, k⟩ := h;cases hw;have hK0 := hK;obtain ⟨y', dx, l1, l2, l3, fs, e, p0, p1, p2, p3, h0, e1, e2, e3, h1, h2, h3, h4⟩ := hK.inv;cases e;obtain ⟨⟨iv', q1⟩, q3, q4⟩ := hok;simp only at q1 q3 q4;subst q1;walk_at "T";refine ⟨_, (zh (zu (jF (x := "Parter") ⟨rfl, rfl, rfl⟩ hr (za (zX (qy (pq 0) rfl) zg) (za (qy (pq 0) rfl) ze))))), ?_⟩;walk_at "go";refine ⟨a.Parter, _, _, _, (Xt T).mono, y, a.Parter, dx, fs, _, rfl, h0, T.C_Parter, T.N_Parter_ins, e1, zS (SqL.of h1) at0 ?_⟩;refine ra h0 T.C_Parter T.N_Parter_outs e2 ?_;intro z dz hz hdz hne;refine ⟨z, dz, l2, .int iv', iv outs, rfl, upd_same, SqL.of (qf hz hdz h2), ne_of_none h2 hz, ?_⟩;rw [if_pos (by rw [iv, length_map];exact ⟨q3, q4⟩)];intro H' m1 m2 s' g1 g2 g3 n1 n2;exact ⟨rfl, k _ _ (Own.of_new hz hdz s') (QG (p := New H) (ins := [iv']) (outs := outs) hz (zM n1) (zM n2) g1 g2 g3)⟩
theorem xD (T : Txt K mg a) : MCal P w K mg base a.FirstParter "copied" 4 ["self"] [] (jt a .first) := T.h_FirstParter_copied.cal T.C_FirstParter λ F => by
 refine F.okx xn ?_ ?_
 ·walk_at "i"
 walk_at "k";obtain ⟨y, ⟨wd, ins, outs, pace, kinds⟩, p, rfl, hK, hw, hok, k⟩ := h;cases hw;have hK0 := hK;obtain ⟨y', dx, l1, l2, l3, fs, e, p0, p1, p2, p3, h0, e1, e2, e3, h1, h2, h3, h4⟩ := hK.inv;cases e;obtain ⟨⟨iv', q1⟩, q3, q4⟩ := hok;simp only at q1 q3 q4;subst q1;walk_at "T";refine ⟨_, (zh (zu (jF (x := "FirstParter") ⟨rfl, rfl, rfl⟩ hr (za (zX (qy (pq 0) rfl) zg) (za (qy (pq 0) rfl) ze))))), ?_⟩;walk_at "go";refine ⟨a.FirstParter, _, _, _, (xZ T).mono, y, a.FirstParter, dx, fs, _, rfl, h0, T.C_FirstParter, T.N_FirstParter_ins, e1, zS (SqL.of h1) at0 ?_⟩;refine ra h0 T.C_FirstParter T.N_FirstParter_outs e2 ?_;intro z dz hz hdz hne;refine ⟨z, dz, l2, .int iv', iv outs, rfl, upd_same, SqL.of (qf hz hdz h2), ne_of_none h2 hz, ?_⟩;rw [if_pos (by rw [iv, length_map];exact ⟨q3, q4⟩)];intro H' m1 m2 s' g1 g2 g3 n1 n2;exact ⟨rfl, k _ _ (Own.of_new hz hdz s') (Xo (p := New H) (ins := [iv']) (outs := outs) hz (zM n1) (zM n2) g1 g2 g3)⟩
theorem ZO (T : Txt K mg a) : MCal P w K mg base a.Sieve "copied" 4 ["self"] [] (jt a .sieve) := T.h_Sieve_copied.cal T.C_Sieve λ F => by
 refine F.okx vL ?_ ?_
 ·walk_at "i"
 walk_at "k";obtain ⟨y, ⟨wd, ins, outs, pace, kinds⟩, p, rfl, hK, hw, hok, k⟩ := h;cases hw;have hK0 := hK;obtain ⟨y', dx, l1, l2, l3, fs, e, p0, p1, p2, p3, h0, e1, e2, e3, h1, h2, h3, h4⟩ := hK.inv;cases e;obtain ⟨⟨iv', q1⟩, q3, kk, q4, q5, q6⟩ := hok;simp only at q1 q3 q4;subst q1 q4;walk_at "T";refine ⟨_, (zh (zu (jF (x := "Sieve") ⟨rfl, rfl, rfl⟩ hr (za (zX (qy (pq 0) rfl) zg) (za (qy (pq 0) rfl) (za (qy (pq 0) rfl) ze)))))), ?_⟩;walk_at "go";refine ⟨a.Sieve, _, _, _, (Vh T).mono, y, a.Sieve, dx, fs, _, rfl, h0, T.C_Sieve, T.N_Sieve_ins, e1, zS (SqL.of h1) at0 ?_⟩;refine ra h0 T.C_Sieve T.N_Sieve_outs e2 ?_;refine zbR hK0 T.C_Sieve T.N_Sieve_kind (za9 rfl rfl) λ u ru => ?_;cases ru;intro z dz hz hdz hne;refine ⟨z, dz, l2, .int iv', iv outs, kk, rfl, upd_same, SqL.of (qf hz hdz h2), ne_of_none h2 hz, ?_⟩;rw [if_pos (by rw [iv, length_map];exact ⟨q3, q5, q6⟩)];intro H' m1 m2 s' g1 g2 g3 n1 n2;exact ⟨rfl, k _ _ (Own.of_new hz hdz s') (Xn (p := New H) (ins := [iv']) (outs := outs) hz (zM n1) (zM n2) g1 g2 g3)⟩
theorem vQ (T : Txt K mg a) : MCal P w K mg base a.Joiner "copied" 4 ["self"] [] (jt a .joiner) := T.h_Joiner_copied.cal T.C_Joiner λ F => by
 refine F.okx vc ?_ ?_
 ·walk_at "i"
 walk_at "k";obtain ⟨y, ⟨wd, ins, outs, pace, kinds⟩, p, rfl, hK, hw, hok, k⟩ := h;cases hw;have hK0 := hK;obtain ⟨y', dx, l1, l2, l3, fs, e, p0, p1, p2, p3, h0, e1, e2, e3, h1, h2, h3, h4⟩ := hK.inv;cases e;obtain ⟨⟨ov, q1⟩, q3, q4⟩ := hok;simp only at q1 q3 q4;subst q1;walk_at "T";refine ⟨_, (zh (zu (jF (x := "Joiner") ⟨rfl, rfl, rfl⟩ hr (za (qy (pq 0) rfl) (za (zX (qy (pq 0) rfl) zg) ze))))), ?_⟩;walk_at "go";refine ⟨a.Joiner, _, _, _, (Xu T).mono, y, a.Joiner, dx, fs, _, rfl, h0, T.C_Joiner, T.N_Joiner_ins, e1, ?_⟩;refine ra h0 T.C_Joiner T.N_Joiner_outs e2 (zS (SqL.of h2) at0 ?_);intro z dz hz hdz hne;refine ⟨z, dz, l1, .int ov, iv ins, rfl, upd_same, SqL.of (qf hz hdz h1), ne_of_none h1 hz, ?_⟩;rw [if_pos (by rw [iv, length_map];exact ⟨q3, q4⟩)];intro H' m1 m2 s' g1 g2 g3 n1 n2;exact ⟨rfl, k _ _ (Own.of_new hz hdz s') (QH (p := New H) (ins := ins) (outs := [ov]) hz (zM n1) (zM n2) g1 g2 g3)⟩
theorem CT (T : Txt K mg a) (wd : Wd) : Cls K (Z0 a wd) := by
 cases wd
 ·exact T.C_Source
 ·exact T.C_Drain
 ·exact T.C_Parter
 ·exact T.C_FirstParter
 ·exact T.C_Sieve
 ·exact T.C_Joiner
theorem NI (T : Txt K mg a) (wd : Wd) : NoAttr K (Z0 a wd) "ins" := by
 cases wd
 ·exact T.N_Source_ins
 ·exact T.N_Drain_ins
 ·exact T.N_Parter_ins
 ·exact T.N_FirstParter_ins
 ·exact T.N_Sieve_ins
 ·exact T.N_Joiner_ins
theorem NO (T : Txt K mg a) (wd : Wd) : NoAttr K (Z0 a wd) "outs" := by
 cases wd
 ·exact T.N_Source_outs
 ·exact T.N_Drain_outs
 ·exact T.N_Parter_outs
 ·exact T.N_FirstParter_outs
 ·exact T.N_Sieve_outs
 ·exact T.N_Joiner_outs
theorem WT (T : Txt K mg a) (wd : Wd) : WI K (Z0 a wd) := by
 cases wd
 ·exact T.W_Source
 ·exact T.W_Drain
 ·exact T.W_Parter
 ·exact T.W_FirstParter
 ·exact T.W_Sieve
 ·exact T.W_Joiner
theorem za3 (T : Txt K mg a) (wd : Wd) : MCal P w K mg base (Z0 a wd) "copied" 4 ["self"] [] (jt a wd) := by
 cases wd
 ·exact vO T
 ·exact ZP T
 ·exact vP T
 ·exact xD T
 ·exact ZO T
 ·exact vQ T
theorem Qu : ∀ (xs ys : List Int), xs.Perm ys -> xs.Pairwise (· <= ·) -> ys.Pairwise (· <= ·) -> xs = ys
 | [], ys, h, _, _ => (List.nil_perm.mp h).symm
 | x :: xs, [], h, _, _ => absurd h.length_eq (by simp)
 | x :: xs, y :: ys, h, hx, hy => by
  have e : x = y := by
   have h1 : y ∈ x :: xs := h.mem_iff.mpr (by simp);have h2 : x ∈ y :: ys := h.mem_iff.mp (by simp);rcases List.mem_cons.mp h1 with e|m1
   ·exact e.symm
   rcases List.mem_cons.mp h2 with e|m2
   ·exact e
   have := (List.pairwise_cons.mp hx).1 y m1;have := (List.pairwise_cons.mp hy).1 x m2
   lia
  subst e;rw [Qu xs ys h.cons_inv (List.pairwise_cons.mp hx).2 (List.pairwise_cons.mp hy).2]
def rgI (n : Nat) : List Int := (List.range n).map λ (i : Nat) => (i : Int)
theorem X1 (n : Nat) : (rgI n).Pairwise (· <= ·) := by
 unfold rgI;rw [List.pairwise_map];exact List.pairwise_lt_range.imp λ {i j} h => by lia
theorem zbM (n : Nat) : rgL 0 n = iv (rgI n) := by
 simp [rgL, iv, rgI, map_map, Function.comp_def]
theorem Zn : ∀ ms ns : List Int, jZ (iv ms) (iv ns) = decide (ms = ns)
 | [], [] => rfl
 | [], _ :: _ => rfl
 | _ :: _, [] => rfl
 | m :: ms, n :: ns => by
  show (eqV (.int m) (.int n) && jZ (iv ms) (iv ns)) = _
  rw [Zn ms ns];by_cases e : m = n
  ·subst e;simp [eqV]
  ·simp [eqV, e]
theorem Vn (ns : List Int) : (iv ns).all jk = true := List.all_eq_true.mpr λ x hx => by
 obtain ⟨n, _, rfl⟩ := List.mem_map.mp hx
 rfl
theorem zbO {H : Hp} {Q : VK} {p q : Addr} {ms ns : List Int} (h1 : SqL K H p (iv ms)) (h2 : SqL K H q (iv ns)) (k : Q (.bl (!decide (ms = ns))) H) : VQ K (.ref p) (.ref q) H Q :=
 .inr (.inl ⟨p, q, iv ms, iv ns, rfl, rfl, .inl ⟨h1, h2⟩, Vn ms, Vn ns, by rw [Zn];exact k⟩)
def JN (K : PySem.W.Frag) (a : Ad) : Sp := λ vs H Q E => ∃ (bl kl : Addr) (xs ys : List V), vs = [.ref bl, .ref kl] /\ SqL K H bl xs /\ SqL K H kl ys /\ if (1 <= xs.length /\ xs.length <= 24) /\ 1 <= ys.length /\ ys.length <= 24 then Q .non H else E (.ref a.BadWork) none H
theorem JB (T : Txt K mg a) : Cal P w K mg base "check_size" 1 ["belts", "knots"] [] (JN K a) := T.h_check_size.cal λ F => by
 refine F.okx Z9 ?_ ?_
 ·walk_at "i"
 walk_at "k";obtain ⟨bl, kl, xs, ys, rfl, h1, h2, k⟩ := h;obtain ⟨t1, g1⟩ := T.g_MOST_BELTS;obtain ⟨t2, g2⟩ := T.g_MOST_KNOTS;walk_at "T";refine ⟨_, (zH (zC (qN (qS jb jb zg (zJ zG zF (za (pq 0) ze)) qC))  (zh (qL ⟨rfl, rfl, rfl⟩ rfl (za zl ze)))  zp)  (zh (zC (qN (qS jb jb zg (zJ zG zF (za (pq 1) ze)) qC))  (zh (qL ⟨rfl, rfl, rfl⟩ rfl (za zl ze)))  zp))), ?_⟩;walk_at "go";have bad : ¬ ((1 <= xs.length /\ xs.length <= 24) /\ 1 <= ys.length /\ ys.length <= 24) -> ∃ C, mg "BadWork" = some (Value.ref C) /\ XC K C /\ E (Value.ref C) none H := λ h => by
  rw [if_neg h] at k;exact ⟨a.BadWork, T.g_BadWork, T.X_BadWork, k⟩
 refine ⟨_, .inl ⟨_, h1, rfl⟩, ?_⟩;walk_at "go";refine zN (λ b1 => ?_) (λ b1 => bad (by lia));refine ⟨.int 24, _, g1, ⟨_, rfl⟩, ?_⟩;walk_at "go";refine zN (λ b2 => ?_) (λ b2 => bad (by lia));walk_at "go";refine ⟨_, .inl ⟨_, h2, rfl⟩, ?_⟩;walk_at "go";refine zN (λ b3 => ?_) (λ b3 => bad (by lia));refine ⟨.int 24, _, g2, ⟨_, rfl⟩, ?_⟩;walk_at "go";refine zN (λ b4 => ?_) (λ b4 => bad (by lia));rw [if_pos (by lia)] at k;walk_at "go";exact k
def XX (K : PySem.W.Frag) (a : Ad) : Sp := λ vs H Q E => ∃ (l : Addr) (ns : List Int) (n : Nat), vs = [.ref l, .int n] /\ SqL K H l (iv ns) /\ ns.length < 64 /\ n <= 1000 /\ (ns.Perm (rgI n) -> ∀ H', Same H H' -> Q .non H') /\ (¬ ns.Perm (rgI n) -> ∀ H', Same H H' -> E (.ref a.BadWork) none H')
theorem jM (T : Txt K mg a) : Cal P w K mg base "check_each_once" 1 ["named", "size"] [] (XX K a) := T.h_check_each_once.cal λ F => by
 refine F.okx x8 ?_ ?_
 ·walk_at "i"
 walk_at "k";obtain ⟨l, ns, n, rfl, hl, h64, hn, kok, kbad⟩ := h;walk_at "T";refine ⟨_, (zh (zC (zm (zaV hr.units1) (zJ zak zaj (za (pq 0) ze)) (jG (zby rfl) wV (za (zcX (za (pq 1) ze)) ze)) (zq _))  (zh (qL ⟨rfl, rfl, rfl⟩ rfl (za zl ze)))  zp)), ?_⟩;walk_at "go";refine ⟨l, ns, rfl, hl, h64, λ ms q1 hp hs hq1 => ?_⟩;walk_at "go";intro q2 hq2;refine ⟨q2, 0, n, rfl, upd_same, ⟨by lia, by lia, by lia, by lia, by lia⟩, λ q3 hq3 => ?_⟩;rw [show ((n : Int) - 0).toNat = n by lia, zbM];walk_at "go";have sm : Same H (upd (upd (upd H q1 (.lst (iv ms))) q2 (.rng 0 n)) q3 (.lst (iv (rgI n)))) := (zf hq1).trans ((zf hq2).trans (zf hq3));refine zbO (ms := ms) (ns := rgI n) (SqL.of (upd_keep (upd_keep upd_same hq2) hq3)) (SqL.of upd_same) ?_;walk_at "go";refine zN (λ b1 => ?_) (λ b1 => ?_)
 ·refine ⟨a.BadWork, T.g_BadWork, T.X_BadWork, kbad (λ z => b1 (Qu _ _ (hp.trans z) hs (X1 n))) _ sm⟩
 ·walk_at "go";refine kok ?_ _ sm;have e : ms = rgI n := Decidable.of_not_not b1;rw [<- e];exact hp.symm
def qv (rs : List Row) : List Int := rs.flatMap Row.outs
def zU (rs : List Row) : List Int := rs.flatMap Row.ins
def wf (l1 l2 : Addr) : List (Str × V) := qm "knots" (.ref l2) (qm "belts" (.ref l1) [])
def qw (bs : List (Int × Int)) (rs : List Row) : Prop := ((1 <= bs.length /\ bs.length <= 24) /\ 1 <= rs.length /\ rs.length <= 24) /\ (qv rs).Perm (rgI bs.length) /\ (zU rs).Perm (rgI bs.length)
def Zj (K : PySem.W.Frag) (a : Ad) : Sp := λ vs H Q E => ∃ (y dx bl kl : Addr) (bvs kvs : List V) (bs : List (Int × Int)) (rs : List Row) (p : Addr -> Prop), vs = [.ref y, .ref bl, .ref kl] /\ H y = some (.ins a.Work dx []) /\ bl ≠ y /\ kl ≠ y /\ (∀ b, p b -> b ≠ y) /\
 H bl = some (.lst bvs) /\ H kl = some (.lst kvs) /\ Bts a H p bvs bs /\ Kns a H p kvs rs /\ (∀ b ∈ bs, z4 b.1 b.2) /\ (∀ r ∈ rs, r.ok) /\ (qv rs).length < 64 /\ (zU rs).length < 64 /\ bs.length <= 1000 /\
 (qw bs rs -> ∀ H' l1 l2 bvs' kvs', Own H H' y -> H' y = some (.ins a.Work dx (wf l1 l2)) -> H' l1 = some (.lst bvs') -> H' l2 = some (.lst kvs') -> Bts a H' (New H) bvs' bs -> Kns a H' (New H) kvs' rs -> H l1 = none -> H l2 = none -> Q .non H') /\
 (¬ qw bs rs -> ∀ H', Same H H' -> E (.ref a.BadWork) none H')
theorem Wy {rs : List Row} {i : Nat} {r : Row} (h : rs[i]? = some r) : qv (rs.take (i + 1)) = qv (rs.take i) ++ r.outs := by
 unfold qv;rw [take_add_one, h, flatMap_append];simp
theorem Q0 {rs : List Row} {i : Nat} {r : Row} (h : rs[i]? = some r) : zU (rs.take (i + 1)) = zU (rs.take i) ++ r.ins := by
 unfold zU;rw [take_add_one, h, flatMap_append];simp
theorem jq (f : Row -> List Int) (rs : List Row) (i : Nat) : ((rs.take i).flatMap f).length <= (rs.flatMap f).length := by
 conv => rhs;rw [<- take_append_drop i rs, flatMap_append, length_append]
 lia
theorem zbe (xs ys : List Int) : iv xs ++ iv ys = iv (xs ++ ys) := by rw [iv, iv, iv, map_append]
theorem Jp (T : Txt K mg a) (F : Fun K "__init__" "Work.__init__" qZ f fd) : FnOk P w K mg base (CXr P w) 5 f fd ["self", "belts", "knots"] (Zj K a) := by
 refine F.okx Q7 ?_ ?_
 ·walk_at "i"
 walk_at "k";obtain ⟨y, dx, bl, kl, bvs, kvs, bs, rs, p, rfl, hy, nby, nky, hpy, hb, hk, hB, hKs, hbo, hro, h64, h64', hlb, kok, kbad⟩ := h;walk_at "T";refine ⟨_, (zi (zw (z6 ⟨rfl, rfl, rfl⟩ hr (za (pq 1) (za (pq 2) ze))))  (zi (zI 3 Q7.nd (zv ze))  (zi (zI 4 Q7.nd (zv ze))  (zi (jh xl rfl (qT (pq 2)) (qI 5 Q7.nd)  (zi (zw (z7 PySem.F.plainAttrs_list PySem.F.slot_list_extend PySem.F.type_list_extend QB (pq 3) (za (qy (pq 5) rfl) ze)))  (zh (zw (z7 PySem.F.plainAttrs_list PySem.F.slot_list_extend PySem.F.type_list_extend QB (pq 4) (za (qy (pq 5) rfl) ze))))))  (zi (zw (z6 ⟨rfl, rfl, rfl⟩ hr (za (pq 3) (za (zJ zG zF (za (pq 1) ze)) ze))))  (zi (zw (z6 ⟨rfl, rfl, rfl⟩ hr (za (pq 4) (za (zJ zG zF (za (pq 1) ze)) ze))))  (zi (jU (pq 0) (Qv (vars := ["belt"]) (caps := []) (N := ["belt"]) (ON := ["self", "belts", "knots", "fed", "taken", "knot"]) (osc := zk qZ) rfl rfl (by first|decide +kernel|kernel_rfl) rfl rfl (qT (pq 1)) (λ s H fp pins => (qI 0 (show (["belt"] : List Str).Nodup from by decide +kernel))) (λ s H fp pins => jE) (λ s H fp pins => (zcY (x := "Belt") hr (za (qy (pq 0) rfl) (za (qy (pq 0) rfl) ze))))) rfl)  (zh (jU (pq 0) (Qv (vars := ["knot"]) (caps := []) (N := ["knot"]) (ON := ["self", "belts", "knots", "fed", "taken", "knot"]) (osc := zk qZ) rfl rfl (by first|decide +kernel|kernel_rfl) rfl rfl (qT (pq 2)) (λ s H fp pins => (qI 0 (show (["knot"] : List Str).Nodup from by decide +kernel))) (λ s H fp pins => jE) (λ s H fp pins => (zaM hr (pq 0)))) rfl))))))))), ?_⟩;walk_at "go";refine uc (JB T).mono ⟨bl, kl, bvs, kvs, rfl, SqL.of hb, SqL.of hk, zN (λ b1 => ?_) (λ b1 => ?_)⟩
 rotate_left
 ·refine kbad (λ z => b1 ?_) H (Same.refl _);rw [hB.len, hKs.len];exact z.1
 rw [hB.len, hKs.len] at b1;walk_at "go";intro fl hfl;walk_at "go";intro tl htl;have nft : fl ≠ tl := ne_of_none upd_same htl;have htl0 : H tl = none := zr htl;walk_at "for";walk_at "go";have s2 : Same H (upd (upd H fl (.lst [])) tl (.lst [])) := (zf hfl).trans (zf htl);refine ⟨kl, rfl, .inl ⟨⟨_, SqL.of (s2 _ _ hk)⟩, ?_⟩⟩;let M1_ : Nat -> St -> Hp -> Prop := λ i σ H' => ∃ v5, σ = [some (.ref y), some (.ref bl), some (.ref kl), some (.ref fl), some (.ref tl), v5] /\ Same H H' /\ H' fl = some (.lst (iv (qv (rs.take i)))) /\ H' tl = some (.lst (iv (zU (rs.take i))));refine jK (K := K) (a := kl) (xs := kvs) M1_ ⟨_, rfl, s2, upd_keep upd_same htl, upd_same⟩ (λ i σ H' _ ⟨_, _, s, _⟩ => SqL.of (s _ _ hk)) ?_ ?_
 ·rintro i x σ H' hi ⟨v5, rfl, s3, e1, e2⟩;obtain ⟨r, hr', hKn0⟩ := hKs.at hi;obtain ⟨y1, dx1, l1, l2, l3, fs, rfl, p0, p1, p2, p3, h0, f1, f2, f3, h1, h2, h3, h4⟩ := hKn0.inv;have L1 := jq Row.outs rs i;have L2' := jq Row.ins rs i;have L3 := jq Row.outs rs (i + 1);have L4 := jq Row.ins rs (i + 1);have E1 := Wy hr';have E2 := Q0 hr';have n1 : ∀ {b : Addr} {o : HO}, H b = some o -> b ≠ fl := λ h => ne_of_none h hfl;have n2 : ∀ {b : Addr} {o : HO}, H b = some o -> b ≠ tl := λ h => ne_of_none h htl0;walk_at "go";refine ⟨.inl ⟨rfl, _, SqL.of e1⟩, y1, Z0 a r.wd, dx1, fs, _, rfl, s3 _ _ h0, CT T _, NO T _, f2, ?_⟩;refine ⟨fl, l2, _, _, rfl, rfl, e1, s3 _ _ h2, ?_, ?_⟩
  ·refine Nat.le_of_lt (zy ?_);have := congrArg List.length E1;rw [length_append] at this;rw [iv, iv, length_map, length_map];unfold qv at this h64 ⊢
   lia
  walk_at "go";have e2' : upd H' fl (.lst (iv (qv (rs.take i)) ++ iv r.outs)) tl = some (.lst (iv (zU (rs.take i)))) := by rw [upd_ne (Ne.symm nft)];exact e2
  refine ⟨.inl ⟨rfl, _, SqL.of e2'⟩, y1, Z0 a r.wd, dx1, fs, _, rfl, ?_, CT T _, NI T _, f1, ?_⟩
  ·rw [upd_ne (n1 h0)];exact s3 _ _ h0
  refine ⟨tl, l1, _, iv r.ins, rfl, rfl, e2', ?_, ?_, ?_⟩
  ·rw [upd_ne (n1 h1)];exact s3 _ _ h1
  ·refine Nat.le_of_lt (zy ?_);have := congrArg List.length E2;rw [length_append] at this;rw [iv, iv, length_map, length_map];unfold zU at this h64' ⊢
   lia
  refine ⟨_, rfl, λ b o hb => ?_, ?_, ?_⟩
  ·rw [upd_ne (n2 hb), upd_ne (n1 hb)];exact s3 _ _ hb
  ·rw [upd_ne nft, upd_same, E1, zbe]
  ·rw [upd_same, E2, zbe]
 ·rintro σ H1 ⟨v5, rfl, s3, e1, e2⟩;rw [hKs.len, take_length] at e1 e2;walk_at "go";refine uc (jM T).mono ⟨m_len, _, .inl ⟨_, SqL.of (s3 _ _ hb), rfl⟩, ?_⟩;rw [hB.len];refine ⟨fl, qv rs, bs.length, rfl, SqL.of e1, h64, hlb, λ g1 H2 s4 => ?_, λ g1 H2 s4 => kbad (λ z => g1 z.2.1) _ (s3.trans s4)⟩;walk_at "go";refine uc (jM T).mono ⟨m_len, _, .inl ⟨_, SqL.of (s4 _ _ (s3 _ _ hb)), rfl⟩, ?_⟩;rw [hB.len];refine ⟨tl, zU rs, bs.length, rfl, SqL.of (s4 _ _ e2), h64', hlb, λ g2 H3 s5 => ?_, λ g2 H3 s5 => kbad (λ z => g2 z.2.2) _ (s3.trans (s4.trans s5))⟩;have kok := kok ⟨b1, g1, g2⟩;have s6 := s3.trans (s4.trans s5);clear s3 s4 s5 e1 e2;clear g1 g2;walk_at "go";walk_at "lc";walk_at "go";refine ⟨bl, rfl, .inl ⟨⟨_, SqL.of (s6 _ _ hb)⟩, λ _ _ _ _ acc hacc => ?_⟩⟩;have nacc : H acc = none := z9 s6 hacc;let M2_ : Nat -> St -> Hp -> Prop := λ i σ H' => ∃ v us, σ = [v] /\ Same H3 H' /\ H' acc = some (.lst us) /\ Bts a H' (λ b => H3 b = none /\ b ≠ acc) us (bs.take i);refine jK (K := K) (a := bl) (xs := bvs) M2_ ⟨_, [], rfl, zf hacc, upd_same, by rw [take_zero];exact .nil⟩ (λ i σ H' _ ⟨_, _, _, s, _⟩ => SqL.of (s _ _ (s6 _ _ hb))) ?_ ?_
  ·rintro i x σ H' hi ⟨v, us, rfl, s7, e1, hU⟩;obtain ⟨⟨rm, pc⟩, hr', hBt0⟩ := hB.at hi;obtain ⟨y1, dx1, fs, rfl, p0, h0, f1, f2⟩ := hBt0.inv;have hok := hbo _ (mem_of_getElem? hr');have hil : i < bs.length := (List.getElem?_eq_some_iff.mp hr').1;have h0' := s7 _ _ (s6 _ _ h0);walk_at "go";refine ⟨a.Belt, _, _, _, (zbb T).mono, y1, a.Belt, dx1, fs, _, rfl, h0', T.C_Belt, T.N_Belt_room, f1, y1, a.Belt, dx1, fs, _, rfl, h0', T.C_Belt, T.N_Belt_pace, f2, ?_⟩;intro z dz hz hdz hne;refine ⟨z, dz, rm, pc, rfl, upd_same, ?_⟩;rw [if_pos hok, QY];have sN : Same H' (upd (upd H' dz (.own z)) z (.ins a.Belt dz (bf rm pc))) := λ b o h => by rw [upd_ne (ne_of_none h hz), upd_ne (ne_of_none h hdz)];exact h
   have hz' : upd (upd H' dz (.own z)) z (.ins a.Belt dz (bf rm pc)) z = some (.ins a.Belt dz (bf rm pc)) := upd_same;generalize upd (upd H' dz (.own z)) z (.ins a.Belt dz (bf rm pc)) = H4 at sN hz' ⊢;have hzn : z ≠ acc := λ q => by rw [q, e1] at hz;cases hz
   refine ⟨rfl, _, sN _ _ e1, zy (by have := hU.len;rw [length_take] at this;lia), _, us ++ [.ref z], rfl, λ b o hb => ?_, upd_same, ?_⟩
   ·rw [upd_ne (ne_of_none hb hacc)];exact sN _ _ (s7 _ _ hb)
   ·rw [take_add_one, hr'];refine Bts.push (hU.keep λ b o hp hb => ⟨hp, by rw [upd_ne hp.2];exact sN _ _ hb⟩) (zcA (p := λ b => H3 b = none /\ b ≠ acc) ⟨z9 s7 hz, hzn⟩ (by rw [upd_ne hzn];exact hz'))
  ·rintro σ H4 ⟨v, us, rfl, s7, e1, hU⟩;rw [hB.len, take_length] at hU;have s8 := s6.trans s7;have nacy : acc ≠ y := (ne_of_none hy nacc).symm;walk_at "go";refine ⟨y, a.Work, dx, [], rfl, s8 _ _ hy, T.C_Work, T.N_Work_belts, by decide, ?_⟩;have o9 : Own H (upd H4 y (.ins a.Work dx (qm "belts" (.ref acc) []))) y := (Same.own s8).trans jH;have hy9 : upd H4 y (.ins a.Work dx (qm "belts" (.ref acc) [])) y = some (.ins a.Work dx (qm "belts" (.ref acc) [])) := upd_same;have e9 : upd H4 y (.ins a.Work dx (qm "belts" (.ref acc) [])) acc = some (.lst us) := by rw [upd_ne nacy];exact e1
   have hU9 : Bts a (upd H4 y (.ins a.Work dx (qm "belts" (.ref acc) []))) (λ b => H b = none /\ b ≠ y) us bs := hU.keep λ b o hp hb => by
    have q1 : H b = none := z9 s6 hp.1;have q2 : b ≠ y := (ne_of_none hy q1).symm;exact ⟨⟨q1, q2⟩, by rw [upd_ne q2];exact hb⟩
   generalize upd H4 y (.ins a.Work dx (qm "belts" (.ref acc) [])) = H5 at o9 hy9 e9 hU9 ⊢;walk_at "go";walk_at "lc";walk_at "go";refine ⟨kl, rfl, .inl ⟨⟨_, SqL.of (o9 _ _ nky hk)⟩, λ _ _ _ _ ac2 hac2 => ?_⟩⟩;let M3_ : Nat -> St -> Hp -> Prop := λ i σ H' => ∃ v us2, σ = [v] /\ Same H5 H' /\ H' ac2 = some (.lst us2) /\ Kns a H' (λ b => H5 b = none /\ b ≠ ac2) us2 (rs.take i);refine jK (K := K) (a := kl) (xs := kvs) M3_ ⟨_, [], rfl, zf hac2, upd_same, by rw [take_zero];exact .nil⟩ (λ i σ H' _ ⟨_, _, _, s, _⟩ => SqL.of (s _ _ (o9 _ _ nky hk))) ?_ ?_
   ·rintro i x σ H' hi ⟨v, us2, rfl, s10, e2, hV⟩;obtain ⟨r, hr', hKn⟩ := hKs.at hi;have hok := hro _ (mem_of_getElem? hr');have hil : i < rs.length := (List.getElem?_eq_some_iff.mp hr').1;have hKn' : KnP a H' p x r := hKn.keep λ b o hp hb => ⟨hp, s10 _ _ (o9 _ _ (hpy b hp) hb)⟩;obtain ⟨y1, dx1, l1, l2, l3, fs, rfl, p0, p1, p2, p3, h0, f1, f2, f3, h1, h2, h3, h4⟩ := hKn'.inv;walk_at "go";refine ⟨y1, Z0 a r.wd, dx1, fs, _, _, _, rfl, h0, f3, (za3 T r.wd).mono, ?_⟩;refine ⟨y1, r, p, rfl, hKn', rfl, hok, λ v' H6 s11 hN => ?_⟩;refine ⟨_, s11 _ _ e2, zy (by have := hV.len;rw [length_take] at this;lia), _, us2 ++ [v'], rfl, λ b o hb => ?_, upd_same, ?_⟩
    ·rw [upd_ne (ne_of_none hb hac2)];exact s11 _ _ (s10 _ _ hb)
    ·rw [take_add_one, hr'];refine Kns.append (hV.keep λ b o hp hb => ⟨hp, by rw [upd_ne hp.2];exact s11 _ _ hb⟩) (Kns.one (hN.keep λ b o hp hb => ?_));have q2 : b ≠ ac2 := λ z => by rw [z] at hp;rw [New, e2] at hp;cases hp
     exact ⟨⟨z9 s10 hp, q2⟩, by rw [upd_ne q2];exact hb⟩
   ·rintro σ H6 ⟨v, us2, rfl, s10, e2, hV⟩;rw [hKs.len, take_length] at hV;have hy10 := s10 _ _ hy9;walk_at "go";refine ⟨y, a.Work, dx, _, rfl, hy10, T.C_Work, T.N_Work_knots, by show 1 < 1000;decide, ?_⟩;have n2y : ac2 ≠ y := λ z => by rw [z, hy9] at hac2;cases hac2
    have ho : ∀ b, H5 b = none -> b ≠ y -> H b = none := λ b h1 h2 => by
     cases e : H b with
     | none => rfl
     | some o => rw [o9 b o h2 e] at h1;cases h1
    refine kok _ acc ac2 us us2 ((o9.trans (Same.own s10)).trans jH) upd_same ?_ ?_ ?_ ?_ nacc (ho _ hac2 n2y)
    ·rw [upd_ne nacy];exact s10 _ _ e9
    ·rw [upd_ne n2y];exact e2
    ·exact hU9.keep λ b o hp hb => ⟨hp.1, by rw [upd_ne hp.2];exact s10 _ _ hb⟩
    ·refine hV.keep λ b o hp hb => ?_;have q : b ≠ y := λ z => by rw [z, hy9] at hp;cases hp.1
     exact ⟨ho b hp.1 q, by rw [upd_ne q];exact hb⟩
theorem zdd (T : Txt K mg a) : KCal P w K mg base "Work" a.Work 5 ["self", "belts", "knots"] [] (Zj K a) := T.h_Work_init.cal T.g_Work (Jp T)
def wQ (b : Int × Int) : D := .tup [.int b.1, .int b.2]
def xS (lo : Nat) (n : Nat) : List Int := (List.range n).map λ (i : Nat) => ((lo + i : Nat) : Int)
theorem w4 (lo n : Nat) : xS lo (n + 1) = xS lo n ++ [((lo + n : Nat) : Int)] := by simp [xS, range_succ]
theorem wz (lo n : Nat) : (xS lo n).length = n := by simp [xS]
theorem vT (m n : Nat) : rgI m ++ xS m n = rgI (m + n) := by
 induction n with
 | zero => simp [xS]
 | succ n ih => rw [w4, <- append_assoc, ih, <- Nat.add_assoc];simp [rgI, range_succ]
theorem zbN (n : Nat) : (rgI n).length = n := by simp [rgI]
theorem JY (n : Nat) : rgI (n + 1) = rgI n ++ [(n : Int)] := by simp [rgI, range_succ]
theorem zE (ns : List Int) : (iv ns).length = ns.length := by rw [iv, length_map]
theorem QK {ns : List Int} {i : Nat} {x : V} (h : (iv ns)[i]? = some x) : ∃ n, ns[i]? = some n /\ x = .int n := by
 rw [iv, getElem?_map, Option.map_eq_some_iff] at h;obtain ⟨n, h1, h2⟩ := h;exact ⟨n, h1, h2.symm⟩
theorem ZT {ns : List Int} {i : Nat} {n : Int} (h : ns[i]? = some n) : (iv ns)[i]? = some (.int n) := by rw [iv, getElem?_map, h];rfl
theorem xE (ns : List Int) (k : Nat) : (iv ns).eraseIdx k = iv (ns.eraseIdx k) := by
 induction ns generalizing k with
 | nil => simp [iv]
 | cons n ns ih =>
  cases k with
  | zero => simp [iv]
  | succ k => simpa [iv] using ih k
theorem jp (ns : List Int) (n : Int) : iv ns ++ [.int n] = iv (ns ++ [n]) := by simp [iv]
theorem zbd (ns : List Int) : (iv ns).reverse = iv ns.reverse := by simp [iv]
def jy (n : Nat) (es ks : List Int) (bs : List (Int × Int)) (outs es' ks' : List Int) (bs' : List (Int × Int)) : Prop :=
 outs.length = n /\ ks'.length <= ks.length /\ ∃ nb : List (Int × Int), es' = es ++ xS bs.length nb.length /\ bs' = bs ++ nb /\ (∀ b ∈ nb, z4 b.1 b.2) /\ (outs ++ ks').Perm (ks ++ xS bs.length nb.length)
theorem wK {es ks : List Int} {bs : List (Int × Int)} : jy 0 es ks bs [] es ks bs := ⟨rfl, Nat.le_refl _, [], by simp [xS], by simp, (λ b hb => nomatch hb), by simp [xS]⟩
theorem zaU {n : Nat} {es ks outs es' ks' : List Int} {bs bs' : List (Int × Int)} {b : Int × Int} (h : jy n es ks bs outs es' ks' bs') (hb : z4 b.1 b.2) : jy (n + 1) es ks bs (outs ++ [(bs'.length : Int)]) (es' ++ [(bs'.length : Int)]) ks' (bs' ++ [b]) := by
 obtain ⟨h1, h0, nb, h2, h3, h4, h5⟩ := h;have e : bs'.length = bs.length + nb.length := by rw [h3, length_append]
 refine ⟨by simp [h1], h0, nb ++ [b], ?_, by rw [h3, append_assoc], ?_, ?_⟩
 ·rw [length_append, length_singleton, w4, h2, append_assoc, e]
 ·intro x hx;rcases List.mem_append.mp hx with hx|hx
  ·exact h4 x hx
  ·rw [List.mem_singleton.mp hx];exact hb
 ·rw [length_append, length_singleton, w4, e, append_assoc];refine ((List.Perm.append_left _ perm_append_comm).trans ?_);rw [<- append_assoc, <- append_assoc];exact List.Perm.append_right _ h5
theorem zaS {n : Nat} {es ks outs es' ks' : List Int} {bs bs' : List (Int × Int)} (h : jy n es ks bs outs es' ks' bs') : jy n es ks bs outs.reverse es' ks' bs' := by
 obtain ⟨h1, h0, nb, h2, h3, h4, h5⟩ := h;exact ⟨by simp [h1], h0, nb, h2, h3, h4, (List.Perm.append_right _ (List.reverse_perm _)).trans h5⟩
def wdS : Wd -> Str
 | .source => "source"
 | .drain => "drain"
 | .parter => "parter"
 | .first => "first"
 | .sieve => "sieve"
 | .joiner => "joiner"
theorem QX {x y : Wd} (h : wdS x = wdS y) : x = y := by
 cases x <;> cases y <;> first|rfl|exact absurd h (by decide +kernel)
abbrev ms4 (L R E B : Addr) : List Addr := [L, R, E, B]
structure WInv (bs : List (Int × Int)) (rs : List Row) (es ks : List Int) : Prop where
 tk : (zU rs ++ es).Perm (rgI bs.length)
 fd : (qv rs ++ ks).Perm (rgI bs.length)
 ro : ∀ r ∈ rs, r.ok
 bo : ∀ b ∈ bs, z4 b.1 b.2
theorem Wz (rs : List Row) (r : Row) : qv (rs ++ [r]) = qv rs ++ r.outs := by simp [qv]
theorem Q1 (rs : List Row) (r : Row) : zU (rs ++ [r]) = zU rs ++ r.ins := by simp [zU]
theorem jV {n : Nat} {bs bs2 : List (Int × Int)} {rs : List Row} {es es1 es2 ks ks2 : List Int} {r : Row} (h : WInv bs rs es ks) (p : (r.ins ++ es1).Perm es) (o : jy n es1 ks bs r.outs es2 ks2 bs2) (ok : r.ok) : WInv bs2 (rs ++ [r]) es2 ks2 := by
 obtain ⟨_, _, nb, e1, e2, b2, pp⟩ := o;have el : bs2.length = bs.length + nb.length := by rw [e2, length_append]
 refine ⟨?_, ?_, ?_, ?_⟩
 ·rw [Q1, e1, el, <- vT, <- append_assoc];refine List.Perm.append_right _ ?_;rw [append_assoc];exact (List.Perm.append_left _ p).trans h.tk
 ·rw [Wz, el, <- vT, append_assoc];refine (List.Perm.append_left _ pp).trans ?_;rw [<- append_assoc];exact List.Perm.append_right _ h.fd
 ·intro x hx;rcases List.mem_append.mp hx with hx|hx
  ·exact h.ro x hx
  ·rw [List.mem_singleton.mp hx];exact ok
 ·intro x hx;rw [e2] at hx;rcases List.mem_append.mp hx with hx|hx
  ·exact h.bo x hx
  ·exact b2 x hx
theorem Zb {us : List V} {n : Nat} (h : us.length = n + 1) : ∃ a vs, us = a :: vs /\ vs.length = n := by
 cases us with
 | nil => cases h
 | cons a vs => exact ⟨a, vs, rfl, Nat.succ.inj h⟩
theorem two_of {us : List V} (h : us.length = 2) : ∃ a b, us = [a, b] := by
 obtain ⟨a, _, rfl, h1⟩ := Zb h;obtain ⟨b, _, rfl, h2⟩ := Zb h1;exact ⟨a, b, by rw [List.length_eq_zero_iff.mp h2]⟩
theorem Qy {H : Hp} {p : Addr -> Prop} {ns : List Addr} {vs : List V} {bs : List (Int × Int)} (h : Reps H p vs (bs.map wQ)) (k : ∀ m ∈ ns, ∃ xs, H m = some (.lst xs)) : Reps H (Off ns) vs (bs.map wQ) := by
 refine ⟨h.len, λ i v d e1 e2 => ?_⟩;have r := h.g i v d e1 e2;rw [getElem?_map, Option.map_eq_some_iff] at e2;obtain ⟨b, _, rfl⟩ := e2;obtain ⟨t, us, rfl, _, ht, rr⟩ := Rep.tup' r;have r1 := rr.g;obtain ⟨x, y, rfl⟩ := two_of rr.len;have a1 := r1 0 x _ rfl rfl;have a2 := r1 1 y _ rfl rfl;cases a1;cases a2;refine Reps.mkT (.cons .int (.cons .int .nil)) (λ z => ?_) ht;obtain ⟨xs, hx⟩ := k t z;rw [ht] at hx;cases hx
theorem j0 : ∀ {es : List Int} {j : Nat} {y : Int}, es[j]? = some y -> (y :: es.eraseIdx j).Perm es
 | [], _, _, h => by simp at h
 | e :: es, 0, y, h => by
  have h : e = y := by simpa using h
  subst h;simp
 | e :: es, j + 1, y, h => by
  have ih := j0 (es := es) (j := j) (y := y) (by simpa using h);rw [List.eraseIdx_cons_succ];exact (List.Perm.swap e y _).trans (ih.cons e)
theorem xO {n : Nat} {x : Int} (h : x ∈ rgI n) : 0 <= x /\ x < n := by
 unfold rgI at h;obtain ⟨i, hi, rfl⟩ := List.mem_map.mp h;have := List.mem_range.mp hi
 lia
theorem Vq {α : Type} {xs : List α} {i : Nat} {x : α} (h : xs[i]? = some x) : xs.drop i = x :: xs.drop (i + 1) := by
 obtain ⟨hi, rfl⟩ := List.getElem?_eq_some_iff.mp h;exact List.drop_eq_getElem_cons hi
theorem zaR {H : Hp} {p : Addr -> Prop} {v : V} {b : Int × Int} (h : Rep H p v (wQ b)) : ∃ t, v = .ref t /\ H t = some (.tup [.int b.1, .int b.2]) := by
 obtain ⟨t, us, rfl, _, ht, rr⟩ := Rep.tup' h;have g := rr.g;obtain ⟨x0, x1, rfl⟩ := two_of rr.len;have a0 := g 0 x0 _ rfl rfl;have a1 := g 1 x1 _ rfl rfl;cases a0;cases a1;exact ⟨t, rfl, ht⟩
def xm (ns : List Int) (k : Nat) : Int := ns.getD k 0
def zcO (K : PySem.W.Frag) : Sp := λ vs H Q _ => ∃ (l : Addr) (ns : List Int) (k : Nat), vs = [.ref l, .int k] /\ SqL K H l (ns.map V.int) /\ Q (.int (xm ns k)) H
theorem je (T : Txt K mg a) : Cal P w K mg base "_law_cell_at" 1 ["_law_script", "_law_k"] [] (zcO K) := T.h_L_cell_at.cal λ F => by
 refine F.okx Jc ?_ ?_
 ·walk_at "i"
 walk_at "k";obtain ⟨l, ns, n, rfl, hl, k⟩ := h;walk_at "T";refine ⟨_, (zH (zC (zm zaW (pq 1) (zJ zG zF (za (pq 0) ze)) (zq _))  (zh (zu (zX (pq 0) (pq 1))))  zp)  (zh (zu zg))), ?_⟩;walk_at "go";refine ⟨_, .inl ⟨_, hl, rfl⟩, ?_⟩;walk_at "r";rw [length_map];refine zN (λ h => ?_) (λ h => ?_)
 ·have h : n < ns.length := by lia
  refine zS hl (qg (by rw [getElem?_map, getElem?_eq_getElem h];rfl)) ?_;have e : ns[n] = xm ns n := by simp [xm, h]
  rw [e];exact k
 ·have e : xm ns n = 0 := by
   have h : ns.length <= n := by lia
   simp [xm, h]
  rw [e] at k;walk_at "r";exact k
def VH : Sp := λ vs H Q _ => ∃ c : Int, vs = [.int c] /\ ∀ O ks H', Same H H' -> H O = none -> H' O = some (.lst (iv ks)) -> 1 <= ks.length -> ks.length <= 6 -> wX ks -> Q (.ref O) H'
theorem wT (T : Txt K mg a) : Cal P w K mg base "_law_kinds_of" 1 ["_law_cell"] [] VH := T.h_L_kinds_of.cal λ F => by
 refine F.okx Qe ?_ ?_
 ·walk_at "i"
 walk_at "j";obtain ⟨c, rfl, k⟩ := h;walk_at "T";refine ⟨_, (zi (zI 1 Qe.nd (zv ze))  (qo (jh xl rfl (Jj (za (zj zn zg (zD (zA (pq 0)))) ze)) (qI 2 Qe.nd)  (zi (zI 3 Qe.nd (pq 2))  (qo (zC (zm (zR hr.units1) (zD (zA (pq 0))) zg (zq _))  (zh (zI 3 Qe.nd (zA (pq 2))))  zp)  (zi (zI 4 Qe.nd (Jm (zj qE (zj zn (zj zn (zA (pq 0)) (zj qE (pq 3) (pq 3))) (pq 3)) zg)))  (qo (zC (PW.pt (pw_and (zm (zR hr.units1) (zD (zA (pq 0))) zg (zq _)) (pw_and1 (zm (zR hr.units1) (pq 2) (zD (zA (pq 0))) (zq _)))))  (zh (zI 4 Qe.nd (zj qz X7 zg)))  zp)  (zh (zw (z7 PySem.F.plainAttrs_list PySem.F.slot_list_append PySem.F.type_list_append zL (pq 1) (za (pq 4) ze)))))))))  (zh (zu (pq 1))))), ?_⟩;walk_at "go";intro O hO;walk_at "go";refine cut (λ σ' H' => ∃ v2 v3 v4 ks, σ' = [some (.int c), some (.ref O), v2, v3, v4] /\ Same H H' /\ H' O = some (.lst (iv ks)) /\ 1 <= ks.length /\ ks.length <= 6 /\ wX ks) ?_ ?_
 ·walk_at "for";walk_at "go";walk_at "sds";walk_at "go";refine Vm (n := (1 + c / 3 % 6).toNat) (λ i σ' H' => ∃ v2 v3 v4 ks, σ' = [some (.int c), some (.ref O), v2, v3, v4] /\ Same H H' /\ H' O = some (.lst (iv ks)) /\ ks.length = i /\ wX ks) ⟨_, _, _, [], rfl, zf hO, upd_same, rfl, (λ _ z => nomatch z)⟩ ?_ ?_
  ·rintro i σ' H' hi ⟨v2, v3, v4, ks, rfl, s1, h1, lk, kk⟩;walk_at "go";simp only [Int.zero_add];refine cut (λ σ' H2 => ∃ st : Int, σ' = [some (.int c), some (.ref O), some (.int i), some (.int st), v4] /\ H2 = H' /\ 0 <= st /\ st <= 6) ?_ ?_
   ·walk_at "go";walk_at "sds";walk_at "go";refine zN (λ b => ?_) (λ b => ?_)
    ·walk_at "go";walk_at "sds";exact ⟨_, rfl, by lia, by lia⟩
    ·exact ⟨_, rfl, by lia, by lia⟩
   rintro σ' H2 ⟨st, rfl, rfl, st0, st6⟩;walk_at "go";walk_at "sds";walk_at "go";have y0 := Int.emod_nonneg ((c / 5 + st * st + st) * 48271) (show (1000000000000000000000000000000 : Int) ≠ 0 by decide);have y1 := Int.emod_lt_of_pos ((c / 5 + st * st + st) * 48271) (show (0 : Int) < 1000000000000000000000000000000 by decide);generalize (c / 5 + st * st + st) * 48271 % 1000000000000000000000000000000 = kd at y0 y1 ⊢;refine cut (λ σ' H3 => ∃ kd : Int, σ' = [some (.int c), some (.ref O), some (.int i), some (.int st), some (.int kd)] /\ H3 = H2 /\ 0 <= kd /\ kd < zo) ?_ ?_
   ·walk_at "go";have no : ∃ kd_1 : Int, ([some (V.int c), some (V.ref O), some (V.int ↑i), some (V.int st), some (V.int kd)] : St) = [some (V.int c), some (V.ref O), some (V.int ↑i), some (V.int st), some (V.int kd_1)] /\ 0 <= kd_1 /\ kd_1 < zo := ⟨kd, rfl, y0, y1⟩;refine (zN (λ _ => (zN (λ _ => ?_) (λ _ => no))) (λ _ => no));exact ⟨_, rfl, by decide, by decide +kernel⟩
   rintro σ' H3 ⟨kd, rfl, rfl, k0, k1⟩;walk_at "go";refine ⟨.inl ⟨rfl, _, SqL.of h1⟩, O, _, _, rfl, rfl, h1, zy (by rw [zE];lia), ?_⟩;rw [jp];refine ⟨_, _, _, ks ++ [kd], rfl, (λ b o hb => by rw [upd_ne (ne_of_none hb hO)];exact s1 b o hb), upd_same, by simp [lk], λ n hn => ?_⟩;rcases List.mem_append.mp hn with hn|hn
   ·exact kk n hn
   ·rw [List.mem_singleton.mp hn];exact ⟨k0, k1⟩
  ·rintro σ' H' ⟨v2, v3, v4, ks, rfl, s1, h1, lk, kk⟩;exact ⟨v2, v3, v4, ks, rfl, s1, h1, by lia, by lia, kk⟩
 rintro σ' H' ⟨v2, v3, v4, ks, rfl, s1, h1, k1, k6, kk⟩;walk_at "go";exact k O ks _ s1 hO h1 k1 k6 kk
theorem Va {n j : Nat} {es ks outs es' ks' : List Int} {bs bs' : List (Int × Int)} {y : Int} (h : jy n es ks bs outs es' ks' bs') (hy : ks'[j]? = some y) : jy (n + 1) es ks bs (outs ++ [y]) es' (ks'.eraseIdx j) bs' := by
 obtain ⟨h1, h0, nb, h2, h3, h4, h5⟩ := h;have pp := j0 hy;have pl := pp.length_eq;rw [length_cons] at pl;refine ⟨by simp [h1], by lia, nb, h2, h3, h4, ?_⟩;refine List.Perm.trans ?_ h5;rw [append_assoc];exact List.Perm.append_left _ pp
structure OS (H0 H : Hp) (L E B O : Addr) (bs : List (Int × Int)) (es ks outs : List Int) : Prop where
 f : Fr [E, B, L] H0 H
 nO : H0 O = none
 nEB : E ≠ B
 nEL : E ≠ L
 nBL : B ≠ L
 nOE : O ≠ E
 nOB : O ≠ B
 nOL : O ≠ L
 hO : H O = some (.lst (iv outs))
 hE : H E = some (.lst (iv es))
 hB : H B = some (.lst (iv ks))
 hL : ∃ bvs, H L = some (.lst bvs) /\ Reps H (Off [E, B, L, O]) bvs (bs.map wQ)
section
variable {H0 H H' : Hp} {L E B O : Addr} {bs : List (Int × Int)} {es ks outs : List Int}
theorem OS.same (W : OS H0 H L E B O bs es ks outs) (s : Same H H') : OS H0 H' L E B O bs es ks outs := by
 obtain ⟨bvs, h1, r1⟩ := W.hL;exact { W with f := W.f.trans s.fr, hO := s _ _ W.hO, hE := s _ _ W.hE, hB := s _ _ W.hB, hL := ⟨bvs, s _ _ h1, r1.same s⟩ }
theorem OS.setO (W : OS H0 H L E B O bs es ks outs) (outs' : List Int) : OS H0 (upd H O (.lst (iv outs'))) L E B O bs es ks outs' := by
 obtain ⟨bvs, h1, r1⟩ := W.hL;exact { W with f := λ b o nb hb => by rw [upd_ne (λ z => by rw [z, W.nO] at hb;cases hb)];exact W.f b o nb hb, hO := upd_same, hE := by rw [upd_ne W.nOE.symm];exact W.hE, hB := by rw [upd_ne W.nOB.symm];exact W.hB, hL := ⟨bvs, by rw [upd_ne W.nOL.symm];exact h1, r1.fr (qV (by simp))⟩ }
theorem OS.setE (W : OS H0 H L E B O bs es ks outs) (es' : List Int) : OS H0 (upd H E (.lst (iv es'))) L E B O bs es' ks outs := by
 obtain ⟨bvs, h1, r1⟩ := W.hL;exact { W with f := W.f.trans (qV (by simp)), hO := by rw [upd_ne W.nOE];exact W.hO, hE := upd_same, hB := by rw [upd_ne W.nEB.symm];exact W.hB, hL := ⟨bvs, by rw [upd_ne W.nEL.symm];exact h1, r1.fr (qV (by simp))⟩ }
theorem OS.setB (W : OS H0 H L E B O bs es ks outs) (ks' : List Int) : OS H0 (upd H B (.lst (iv ks'))) L E B O bs es ks' outs := by
 obtain ⟨bvs, h1, r1⟩ := W.hL;exact { W with f := W.f.trans (qV (by simp)), hO := by rw [upd_ne W.nOB];exact W.hO, hE := by rw [upd_ne W.nEB];exact W.hE, hB := upd_same, hL := ⟨bvs, by rw [upd_ne W.nBL.symm];exact h1, r1.fr (qV (by simp))⟩ }
theorem OS.off (W : OS H0 H L E B O bs es ks outs) {t : Addr} (h : H t = none) : t ∉ [E, B, L, O] := λ z => by
 obtain ⟨bvs, h1, _⟩ := W.hL;simp only [mem_cons, not_mem_nil, or_false] at z;rcases z with rfl|rfl|rfl|rfl
 ·rw [W.hE] at h;cases h
 ·rw [W.hB] at h;cases h
 ·rw [h1] at h;cases h
 ·rw [W.hO] at h;cases h
theorem OS.addL (W : OS H0 H L E B O bs es ks outs) {t : Addr} {rm pc : Int} (ht : H t = none) : ∃ bvs, upd H t (.tup [.int rm, .int pc]) L = some (.lst bvs) /\ bvs.length = bs.length /\ OS H0 (upd (upd H t (.tup [.int rm, .int pc])) L (.lst (bvs ++ [.ref t]))) L E B O (bs ++ [(rm, pc)]) es ks outs := by
 have nt := W.off ht;have W1 := W.same (zf (o := .tup [.int rm, .int pc]) ht);have e1 : upd H t (.tup [.int rm, .int pc]) t = some (.tup [.int rm, .int pc]) := upd_same;generalize upd H t (.tup [.int rm, .int pc]) = H1 at W1 e1 ⊢;obtain ⟨bvs, h1, r1⟩ := W1.hL;have f : Fr [E, B, L, O] H1 (upd H1 L (.lst (bvs ++ [.ref t]))) := qV (by simp);refine ⟨bvs, h1, by rw [r1.len, length_map], { W1 with f := W1.f.trans (qV (by simp)), hO := by rw [upd_ne W.nOL];exact W1.hO, hE := by rw [upd_ne W.nEL];exact W1.hE, hB := by rw [upd_ne W.nBL];exact W1.hB, hL := ⟨_, upd_same, ?_⟩ }⟩;rw [map_append];exact (r1.fr f).append (.one (Reps.mkT (vs := [.int rm, .int pc]) (.cons .int (.cons .int .nil)) nt (f _ _ nt e1)))
end
theorem zb9 {A B X Y P R : Prop} [Decidable A] [Decidable B] (hx : A -> X /\ Y) (h1 : A -> B -> P) (h2 : R) : if A then X /\ Y /\ (if B then P else R) else R := by
 by_cases a : A
 ·rw [if_pos a];refine ⟨(hx a).1, (hx a).2, ?_⟩;by_cases b : B
  ·rw [if_pos b];exact h1 a b
  ·rw [if_neg b];exact h2
 ·rw [if_neg a];exact h2
def zat : Sp := λ vs H Q _ => ∃ (c : Int) (n : Nat) (L En B : Addr) (es ks : List Int) (bvs : List V) (bs : List (Int × Int)), vs = [.int c, .int n, .ref L, .ref En, .ref B] /\ n <= 4 /\ En ≠ B /\ En ≠ L /\ B ≠ L /\
 H En = some (.lst (iv es)) /\ H B = some (.lst (iv ks)) /\ H L = some (.lst bvs) /\ Reps H (Off [En, B, L]) bvs (bs.map wQ) /\ es.length <= 100 /\ ks.length <= 100 /\ bs.length <= 100 /\
 ∀ H' O es' ks' bs' outs, OS H H' L En B O bs' es' ks' outs -> jy n es ks bs outs es' ks' bs' -> Q (.ref O) H'
theorem xI (T : Txt K mg a) : Cal P w K mg base "_law_outs_of" 1 ["_law_cell", "_law_many", "_law_belts", "_law_ends", "_law_loops"] [] zat := T.h_L_outs_of.cal λ F => by
 refine F.okx Ja ?_ ?_
 ·walk_at "i"
 walk_at "j";obtain ⟨c, n, L, E, B, es, ks, bvs, bs, rfl, hn, nEB, nEL, nBL, hE, hB, hL, hR, le, lk0, lb, k⟩ := h;walk_at "T";refine ⟨_, (zi (zI 5 Ja.nd (zv ze))  (qo (jh xl rfl (Jj (za (pq 1) ze)) (qI 6 Ja.nd)  (zh (zC (PW.pt (pw_and (zm xV (zJ zG zF (za (pq 4) ze)) zg (zq _)) (pw_and1 (zm (zR hr.units1) (zD (zj vW (pq 0) (zj zn zg (zj qE zg (pq 6))))) zg (zq _)))))  (zh (zw (z7 PySem.F.plainAttrs_list PySem.F.slot_list_append PySem.F.type_list_append zL (pq 5) (za (z7 PySem.F.plainAttrs_list PySem.F.slot_list_pop PySem.F.type_list_pop xB (pq 4) (za (zj qu (zA (pq 0)) (zJ zG zF (za (pq 4) ze))) ze)) ze))))  (zi (zw (z7 PySem.F.plainAttrs_list PySem.F.slot_list_append PySem.F.type_list_append zL (pq 2) (za (qt (za (zj zn zg (zD (zj vW (pq 0) (zj zn zg (zj qE zg (pq 6)))))) (za (zj zn zg (zD (zj vW (pq 0) (zj zn zg (pq 6))))) ze))) ze)))  (zi (zw (z7 PySem.F.plainAttrs_list PySem.F.slot_list_append PySem.F.type_list_append zL (pq 3) (za (zj qz (zJ zG zF (za (pq 2) ze)) zg) ze)))  (zh (zw (z7 PySem.F.plainAttrs_list PySem.F.slot_list_append PySem.F.type_list_append zL (pq 5) (za (zj qz (zJ zG zF (za (pq 2) ze)) zg) ze)))))))))  (qo (zC (zm (zR hr.units1) (zD (zA (pq 0))) zg (zq _))  (zh (zw (zaO PySem.F.plainAttrs_list PySem.F.slot_list_reverse PySem.F.type_list_reverse ZL (pq 5))))  zp)  (zh (zu (pq 5)))))), ?_⟩;walk_at "go";intro O hO;have W0 : OS H (upd H O (.lst [])) L E B O bs es ks [] := by
  have s := zf (o := .lst []) hO;refine ⟨s.fr, hO, nEB, nEL, nBL, (ne_of_none hE hO).symm, (ne_of_none hB hO).symm, (ne_of_none hL hO).symm, upd_same, s _ _ hE, s _ _ hB, bvs, s _ _ hL, (hR.more (ns := [E, B, L, O]) ?_).same s⟩;intro b hb;simp only [mem_cons, not_mem_nil, or_false] at hb ⊢;rcases hb with rfl|rfl|rfl|rfl
  ·exact .inl (.inl rfl)
  ·exact .inl (.inr (.inl rfl))
  ·exact .inl (.inr (.inr rfl))
  ·exact .inr hO
 generalize upd H O (.lst []) = H1 at W0 ⊢;walk_at "go";refine cut (λ σ' H' => ∃ v6 es' ks' bs' outs, σ' = [some (.int c), some (.int n), some (.ref L), some (.ref E), some (.ref B), some (.ref O), v6] /\ OS H H' L E B O bs' es' ks' outs /\ jy n es ks bs outs es' ks' bs') ?_ ?_
 ·walk_at "for";walk_at "go";refine ⟨by lia, by lia, ?_⟩;refine Vm (n := (n : Int).toNat) (λ i σ' H' => ∃ v6 es' ks' bs' outs, σ' = [some (.int c), some (.int n), some (.ref L), some (.ref E), some (.ref B), some (.ref O), v6] /\ OS H H' L E B O bs' es' ks' outs /\ jy i es ks bs outs es' ks' bs')
   ⟨_, es, ks, bs, [], rfl, W0, wK⟩ ?_ ?_
  ·clear W0;rintro i σ' H' hi ⟨v6, es', ks', bs', outs, rfl, W, hO'⟩;have hi : i < n := by simpa using hi
   have ln := hO'.1;have lk := hO'.2.1;obtain ⟨nb, e1, e2, _, pp⟩ := hO'.2.2;have pl := pp.length_eq;rw [length_append, length_append, wz] at pl;have le' : es'.length <= es.length + 4 := by rw [e1, length_append, wz];lia
   have lb' : bs'.length <= bs.length + 4 := by rw [e2, length_append];lia
   clear pl e1 e2 pp;walk_at "go";simp only [Int.zero_add];refine ⟨_, .inl ⟨_, SqL.of W.hB, rfl⟩, ?_⟩;walk_at "go";rw [zE];refine zb9 (λ _ => ⟨mul_okL (by decide) (by decide), fd_small (by lia) (by lia)⟩) (λ b1 _ => ?_) ?_
   ·refine ⟨.inl ⟨rfl, _, SqL.of W.hO⟩, .inl ⟨rfl, _, SqL.of W.hB⟩, m_len, _, .inl ⟨_, SqL.of W.hB, rfl⟩, ?_⟩;rw [zE];have v0 := Int.emod_nonneg (c / 5) (show (ks'.length : Int) ≠ 0 by lia);have v1 := Int.emod_lt_of_pos (c / 5) b1;refine ⟨b1, ?_⟩;generalize c / 5 % (ks'.length : Int) = jj at v0 v1 ⊢;obtain ⟨y, hy⟩ : ∃ y, ks'[jj.toNat]? = some y := ⟨ks'[jj.toNat]'(by lia), getElem?_eq_getElem _⟩;refine ⟨B, iv ks', jj, jj.toNat, .int y, rfl, rfl, W.hB, by lia, by lia, xz v0 (by rw [zE];exact v1), ZT hy, ?_⟩;rw [xE];have W1 := W.setB (ks'.eraseIdx jj.toNat);refine ⟨O, iv outs, _, rfl, rfl, W1.hO, zy (by rw [zE];lia), ?_⟩;rw [jp];exact ⟨_, es', _, bs', _, rfl, W1.setO (outs ++ [y]), Va hO' hy⟩
   ·walk_at "go";obtain ⟨bv0, hL0, rL0⟩ := W.hL;refine ⟨.inl ⟨rfl, _, SqL.of hL0⟩, mul_okL (by decide) (by decide), fd_small (by lia) (by lia), fd_small (by lia) (by lia), λ t ht => ?_⟩;have z0 := Int.emod_nonneg (c.fdiv (11 + 4 * (i : Int))) (show (6 : Int) ≠ 0 by decide);have z1 := Int.emod_lt_of_pos (c.fdiv (11 + 4 * (i : Int))) (show (0 : Int) < 6 by decide);have z2 := Int.emod_nonneg (c.fdiv (3 + (i : Int))) (show (4 : Int) ≠ 0 by decide);have z3 := Int.emod_lt_of_pos (c.fdiv (3 + (i : Int))) (show (0 : Int) < 4 by decide);obtain ⟨bv, hL1, lv, W1⟩ := W.addL (rm := 1 + c.fdiv (11 + 4 * (i : Int)) % 6) (pc := 1 + c.fdiv (3 + (i : Int)) % 4) ht;have hO2 := zaU (b := (1 + c.fdiv (11 + 4 * (i : Int)) % 6, 1 + c.fdiv (3 + (i : Int)) % 4)) hO' ⟨by lia, by lia, by lia, by lia⟩;refine ⟨L, bv, _, rfl, rfl, hL1, zy (by lia), ?_⟩;have lb2 : (bs' ++ [(1 + c.fdiv (11 + 4 * (i : Int)) % 6, 1 + c.fdiv (3 + (i : Int)) % 4)]).length = bs'.length + 1 := by simp
    generalize bs' ++ [(1 + c.fdiv (11 + 4 * (i : Int)) % 6, 1 + c.fdiv (3 + (i : Int)) % 4)] = bs2 at W1 hO2 lb2;generalize upd (upd H' t _) L _ = H2 at W1 ⊢;clear W hL0 rL0 hL1 lv z0 z1 z2 z3 ht;obtain ⟨bv2, hL2, rL2⟩ := W1.hL;have lv2 : bv2.length = bs2.length := by rw [rL2.len, length_map]
    walk_at "go";refine ⟨.inl ⟨rfl, _, SqL.of W1.hE⟩, m_len, _, .inl ⟨_, SqL.of hL2, rfl⟩, E, _, _, rfl, rfl, W1.hE, zy (by rw [zE];lia), ?_⟩;rw [jp, lv2, show ((bs2.length : Nat) : Int) - 1 = (bs'.length : Int) by lia];have W2 := W1.setE (es' ++ [(bs'.length : Int)]);generalize upd H2 E _ = H3 at W2 ⊢;obtain ⟨bv3, hL3, rL3⟩ := W2.hL;have lv3 : bv3.length = bs2.length := by rw [rL3.len, length_map]
    walk_at "go";refine ⟨.inl ⟨rfl, _, SqL.of W2.hO⟩, m_len, _, .inl ⟨_, SqL.of hL3, rfl⟩, O, _, _, rfl, rfl, W2.hO, zy (by rw [zE];lia), ?_⟩;rw [jp, lv3, show ((bs2.length : Nat) : Int) - 1 = (bs'.length : Int) by lia];exact ⟨_, _, ks', bs2, _, rfl, W2.setO _, hO2⟩
  ·rintro σ' H' ⟨v6, es', ks', bs', outs, rfl, W, hO'⟩;exact ⟨v6, es', ks', bs', outs, rfl, W, by simpa using hO'⟩
 rintro σ' H' ⟨v6, es', ks', bs', outs, rfl, W, hO'⟩;walk_at "go";refine cut (λ σ' H' => ∃ outs, σ' = [some (.int c), some (.int n), some (.ref L), some (.ref E), some (.ref B), some (.ref O), v6] /\ OS H H' L E B O bs' es' ks' outs /\ jy n es ks bs outs es' ks' bs') ?_ ?_
 ·walk_at "go";walk_at "sds";walk_at "go";refine zN (λ b => ?_) (λ b => ⟨outs, W, hO'⟩);walk_at "go";refine ⟨.inl ⟨rfl, _, SqL.of W.hO⟩, O, _, rfl, rfl, W.hO, ?_⟩;rw [zbd];exact ⟨outs.reverse, W.setO _, zaS hO'⟩
 rintro σ' H2 ⟨outs, rfl, W, hO'⟩;walk_at "go";exact k _ O es' ks' bs' outs W hO'
def qF (r : Row) : List Int := match r.wd with
 | .source => r.pace :: r.kinds
 | .drain => [r.pace]
 | .sieve => r.kinds
 | _ => []
def xF (r : Row) : D := .tup [.str (wdS r.wd), .ints r.ins, .ints r.outs, .ints (qF r)]
theorem jw {H : Hp} {p : Addr -> Prop} {t l1 l2 l3 : Addr} {r : Row} (nt : p t) (n1 : p l1) (n2 : p l2) (n3 : p l3) (ht : H t = some (.tup [.str (wdS r.wd), .ref l1, .ref l2, .ref l3])) (h1 : H l1 = some (.lst (iv r.ins))) (h2 : H l2 = some (.lst (iv r.outs))) (h3 : H l3 = some (.lst (iv (qF r)))) : Rep H p (.ref t) (xF r) :=
 Reps.mkT (.cons .str (.cons (qd n1 h1) (.cons (qd n2 h2) (.cons (qd n3 h3) .nil)))) nt ht
theorem Xm {H : Hp} {t l1 l2 l3 : Addr} (r : Row) (n1 : H l1 = none) (n2 : upd H l1 (.lst (iv r.ins)) l2 = none) (n3 : upd (upd H l1 (.lst (iv r.ins))) l2 (.lst (iv r.outs)) l3 = none) (nt : upd (upd (upd H l1 (.lst (iv r.ins))) l2 (.lst (iv r.outs))) l3 (.lst (iv (qF r))) t = none) :
  Same H (upd (upd (upd (upd H l1 (.lst (iv r.ins))) l2 (.lst (iv r.outs))) l3 (.lst (iv (qF r)))) t (.tup [.str (wdS r.wd), .ref l1, .ref l2, .ref l3])) /\
  ∀ p : Addr -> Prop, (∀ b, H b = none -> p b) -> Rep (upd (upd (upd (upd H l1 (.lst (iv r.ins))) l2 (.lst (iv r.outs))) l3 (.lst (iv (qF r)))) t (.tup [.str (wdS r.wd), .ref l1, .ref l2, .ref l3])) p (.ref t) (xF r) := by
 have s1 := zf (o := .lst (iv r.ins)) n1;have s2 := zf (o := .lst (iv r.outs)) n2;have s3 := zf (o := .lst (iv (qF r))) n3;have s4 := zf (o := .tup [.str (wdS r.wd), .ref l1, .ref l2, .ref l3]) nt;have s12 := s1.trans s2;have s13 := s12.trans s3;exact ⟨s13.trans s4, λ p hp => jw (hp _ (z9 s13 nt)) (hp _ n1) (hp _ (z9 s1 n2)) (hp _ (z9 s12 n3)) upd_same (s4 _ _ (s3 _ _ (s2 _ _ upd_same))) (s4 _ _ (s3 _ _ upd_same)) (s4 _ _ upd_same)⟩
structure GS (H0 H : Hp) (L R E B : Addr) (bs : List (Int × Int)) (rs : List Row) (es ks : List Int) : Prop where
 f : Fr (ms4 L R E B) H0 H
 nLR : L ≠ R
 nLE : L ≠ E
 nLB : L ≠ B
 nRE : R ≠ E
 nRB : R ≠ B
 nEB : E ≠ B
 hL : ∃ bvs, H L = some (.lst bvs) /\ Reps H (Off (ms4 L R E B)) bvs (bs.map wQ)
 hR : ∃ rvs, H R = some (.lst rvs) /\ Reps H (Off (ms4 L R E B)) rvs (rs.map xF)
 hE : H E = some (.lst (iv es))
 hB : H B = some (.lst (iv ks))
section
variable {H0 H H' : Hp} {L R E B : Addr} {bs bs' : List (Int × Int)} {rs : List Row} {es ks : List Int}
theorem GS.same (w : GS H0 H L R E B bs rs es ks) (s : Same H H') : GS H0 H' L R E B bs rs es ks := by
 obtain ⟨bvs, h1, r1⟩ := w.hL;obtain ⟨rvs, h2, r2⟩ := w.hR;exact { w with f := w.f.trans s.fr, hL := ⟨bvs, s _ _ h1, r1.same s⟩, hR := ⟨rvs, s _ _ h2, r2.same s⟩, hE := s _ _ w.hE, hB := s _ _ w.hB }
theorem GS.off (w : GS H0 H L R E B bs rs es ks) {x : Addr} (h : H x = none) : x ∉ ms4 L R E B := by
 intro z;simp only [mem_cons, not_mem_nil, or_false] at z;obtain ⟨bvs, h1, r1⟩ := w.hL;obtain ⟨rvs, h2, r2⟩ := w.hR;rcases z with rfl|rfl|rfl|rfl
 ·rw [h1] at h;cases h
 ·rw [h2] at h;cases h
 ·rw [w.hE] at h;cases h
 ·rw [w.hB] at h;cases h
theorem GS.setE (w : GS H0 H L R E B bs rs es ks) (es' : List Int) : GS H0 (upd H E (.lst (iv es'))) L R E B bs rs es' ks := by
 obtain ⟨bvs, h1, r1⟩ := w.hL;obtain ⟨rvs, h2, r2⟩ := w.hR;have f : Fr (ms4 L R E B) H (upd H E (.lst (iv es'))) := qV (by simp);exact { w with f := w.f.trans f, hL := ⟨bvs, by rw [upd_ne w.nLE];exact h1, r1.fr f⟩, hR := ⟨rvs, by rw [upd_ne w.nRE];exact h2, r2.fr f⟩, hE := upd_same, hB := by rw [upd_ne w.nEB.symm];exact w.hB }
theorem GS.setB (w : GS H0 H L R E B bs rs es ks) (ks' : List Int) : GS H0 (upd H B (.lst (iv ks'))) L R E B bs rs es ks' := by
 obtain ⟨bvs, h1, r1⟩ := w.hL;obtain ⟨rvs, h2, r2⟩ := w.hR;have f : Fr (ms4 L R E B) H (upd H B (.lst (iv ks'))) := qV (by simp);exact { w with f := w.f.trans f, hL := ⟨bvs, by rw [upd_ne w.nLB];exact h1, r1.fr f⟩, hR := ⟨rvs, by rw [upd_ne w.nRB];exact h2, r2.fr f⟩, hE := by rw [upd_ne w.nEB];exact w.hE, hB := upd_same }
theorem GS.addL (w : GS H0 H L R E B bs rs es ks) {t : Addr} {rm pc : Int} (ht : H t = none) : ∃ bvs, upd H t (.tup [.int rm, .int pc]) L = some (.lst bvs) /\ bvs.length = bs.length /\
  GS H0 (upd (upd H t (.tup [.int rm, .int pc])) L (.lst (bvs ++ [.ref t]))) L R E B (bs ++ [(rm, pc)]) rs es ks := by
 have nt := w.off ht;have w1 := w.same (zf (o := .tup [.int rm, .int pc]) ht);have e1 : upd H t (.tup [.int rm, .int pc]) t = some (.tup [.int rm, .int pc]) := upd_same;generalize upd H t (.tup [.int rm, .int pc]) = H1 at w1 e1 ⊢;obtain ⟨bvs, h1, r1⟩ := w1.hL;obtain ⟨rvs, h2, r2⟩ := w1.hR;have f : Fr (ms4 L R E B) H1 (upd H1 L (.lst (bvs ++ [.ref t]))) := qV (by simp);refine ⟨bvs, h1, by rw [r1.len, length_map], { w1 with f := w1.f.trans f, hL := ⟨_, upd_same, ?_⟩, hR := ⟨rvs, by rw [upd_ne w.nLR.symm];exact h2, r2.fr f⟩, hE := by rw [upd_ne w.nLE.symm];exact w1.hE, hB := by rw [upd_ne w.nLB.symm];exact w1.hB }⟩;rw [map_append];exact (r1.fr f).append (.one (Reps.mkT (vs := [.int rm, .int pc]) (.cons .int (.cons .int .nil)) nt (f _ _ nt e1)))
theorem GS.addR (w : GS H0 H L R E B bs rs es ks) {t : Addr} {r : Row} (q : Rep H (Off (ms4 L R E B)) (.ref t) (xF r)) : ∃ rvs, H R = some (.lst rvs) /\ rvs.length = rs.length /\ GS H0 (upd H R (.lst (rvs ++ [.ref t]))) L R E B bs (rs ++ [r]) es ks := by
 obtain ⟨bvs, h1, r1⟩ := w.hL;obtain ⟨rvs, h2, r2⟩ := w.hR;have f : Fr (ms4 L R E B) H (upd H R (.lst (rvs ++ [.ref t]))) := qV (by simp);refine ⟨rvs, h2, by rw [r2.len, length_map], { w with f := w.f.trans f, hL := ⟨bvs, by rw [upd_ne w.nLR];exact h1, r1.fr f⟩, hR := ⟨_, upd_same, ?_⟩, hE := by rw [upd_ne w.nRE.symm];exact w.hE, hB := by rw [upd_ne w.nRB.symm];exact w.hB }⟩;rw [map_append];exact (r2.fr f).append (.one (q.fr f))
theorem GS.lists (w : GS H0 H L R E B bs rs es ks) : ∀ m ∈ ms4 L R E B, ∃ xs, H m = some (.lst xs) := λ m hm => by
 obtain ⟨bvs, h1, r1⟩ := w.hL;obtain ⟨rvs, h2, r2⟩ := w.hR;simp only [mem_cons, not_mem_nil, or_false] at hm;rcases hm with rfl|rfl|rfl|rfl
 ·exact ⟨_, h1⟩
 ·exact ⟨_, h2⟩
 ·exact ⟨_, w.hE⟩
 ·exact ⟨_, w.hB⟩
theorem Wx {H H' : Hp} (f : Fr [E, B, L] H H') : Fr (ms4 L R E B) H H' := λ b o nb hb => f b o (λ z => nb (by
 simp only [mem_cons, not_mem_nil, or_false] at z ⊢;rcases z with rfl|rfl|rfl <;> simp)) hb
theorem GS.outs (w : GS H0 H L R E B bs rs es ks) {O : Addr} {es' ks' outs : List Int} (W : OS H H' L E B O bs' es' ks' outs) : GS H0 H' L R E B bs' rs es' ks' /\ O ∉ ms4 L R E B /\ H' O = some (.lst (iv outs)) := by
 obtain ⟨rvs, h2, r2⟩ := w.hR;obtain ⟨bvs, h1, r1⟩ := W.hL;have f : Fr (ms4 L R E B) H H' := Wx W.f;have hR' := W.f _ _ (show R ∉ [E, B, L] from λ z => by
  simp only [mem_cons, not_mem_nil, or_false] at z;rcases z with z|z|z
  ·exact w.nRE z
  ·exact w.nRB z
  ·exact w.nLR z.symm) h2
 have ls : ∀ m ∈ ms4 L R E B, ∃ xs, H' m = some (.lst xs) := λ m hm => by
  simp only [mem_cons, not_mem_nil, or_false] at hm;rcases hm with rfl|rfl|rfl|rfl
  ·exact ⟨_, h1⟩
  ·exact ⟨_, hR'⟩
  ·exact ⟨_, W.hE⟩
  ·exact ⟨_, W.hB⟩
 exact ⟨{ w with f := w.f.trans f, hL := ⟨bvs, h1, Qy r1 ls⟩, hR := ⟨rvs, hR', r2.fr f⟩, hE := W.hE, hB := W.hB }, w.off W.nO, W.hO⟩
theorem GS.outs0 (w : GS H0 H L R E B bs rs es ks) {O X : Addr} {es' ks' outs : List Int} (hX : H X = none) (W : OS (upd H X (.lst [])) H' L E X O bs' es' ks' outs) : GS H0 H' L R E B bs' rs es' ks /\ O ∉ ms4 L R E B /\ H' O = some (.lst (iv outs)) := by
 obtain ⟨rvs, h2, r2⟩ := w.hR;obtain ⟨bvs, h1, r1⟩ := W.hL;have s := zf (o := .lst []) hX;have nX := w.off hX;have f : Fr (ms4 L R E B) H H' := λ b o nb hb => W.f b o (λ z => by
  simp only [mem_cons, not_mem_nil, or_false] at z nb;rcases z with rfl|rfl|rfl
  ·simp at nb
  ·rw [hb] at hX;cases hX
  ·simp at nb) (s _ _ hb)
 have keep : ∀ {b : Addr} {o : HO}, b ≠ E -> b ≠ L -> H b = some o -> H' b = some o := λ {b o} a1 a2 hb => W.f b o (λ z => by
  simp only [mem_cons, not_mem_nil, or_false] at z;rcases z with rfl|rfl|rfl
  ·exact a1 rfl
  ·rw [hb] at hX;cases hX
  ·exact a2 rfl) (s _ _ hb)
 have hR' := keep w.nRE w.nLR.symm h2;have hB' := keep w.nEB.symm w.nLB.symm w.hB;have ls : ∀ m ∈ ms4 L R E B, ∃ xs, H' m = some (.lst xs) := λ m hm => by
  simp only [mem_cons, not_mem_nil, or_false] at hm;rcases hm with rfl|rfl|rfl|rfl
  ·exact ⟨_, h1⟩
  ·exact ⟨_, hR'⟩
  ·exact ⟨_, W.hE⟩
  ·exact ⟨_, hB'⟩
 exact ⟨{ w with f := w.f.trans f, hL := ⟨bvs, h1, Qy r1 ls⟩, hR := ⟨rvs, hR', r2.fr f⟩, hE := W.hE, hB := hB' }, (w.same s).off W.nO, W.hO⟩
end
theorem vg {n : Nat} {es ks outs es' ks' : List Int} {bs bs' : List (Int × Int)} (h : jy n es ks bs outs es' ks' bs') : ∃ m, es'.length = es.length + m /\ bs'.length = bs.length + m /\ n + ks'.length = ks.length + m /\ ks'.length <= ks.length /\ outs.length = n := by
 obtain ⟨h1, h0, nb, h2, h3, h4, h5⟩ := h;have pl := h5.length_eq;rw [length_append, length_append, wz, h1] at pl;exact ⟨nb.length, by rw [h2, length_append, wz], by rw [h3, length_append], pl, h0, h1⟩
theorem zaT {n : Nat} {es ks outs es' ks' : List Int} {bs bs' : List (Int × Int)} (h : jy n es [] bs outs es' ks' bs') : jy n es ks bs outs es' ks bs' := by
 obtain ⟨h1, h0, nb, h2, h3, h4, h5⟩ := h;have : ks' = [] := List.length_eq_zero_iff.mp (Nat.le_zero.mp h0);subst this;refine ⟨h1, Nat.le_refl _, nb, h2, h3, h4, ?_⟩;simp only [append_nil, nil_append] at h5;exact (List.Perm.append_right _ h5).trans perm_append_comm
theorem WInv.loop {bs : List (Int × Int)} {rs : List Row} {es ks : List Int} {b : Int × Int} (h : WInv bs rs es ks) (hb : z4 b.1 b.2) : WInv (bs ++ [b]) rs (es ++ [(bs.length : Int)]) (ks ++ [(bs.length : Int)]) := by
 refine ⟨?_, ?_, h.ro, λ x hx => ?_⟩
 ·rw [length_append, length_singleton, JY, <- append_assoc];exact List.Perm.append_right _ h.tk
 ·rw [length_append, length_singleton, JY, <- append_assoc];exact List.Perm.append_right _ h.fd
 ·rcases List.mem_append.mp hx with hx|hx
  ·exact h.bo x hx
  ·rw [List.mem_singleton.mp hx];exact hb
abbrev gPs : List Str := ["_law_cell", "_law_belts", "_law_knots", "_law_ends", "_law_loops"]
def zav : Sp := λ vs H Q _ => ∃ (c : Int) (L R En B : Addr) (bs : List (Int × Int)) (rs : List Row) (es ks : List Int), vs = [.int c, .ref L, .ref R, .ref En, .ref B] /\ GS H H L R En B bs rs es ks /\ WInv bs rs es ks /\ 1 <= es.length /\ (c % 8 = 5 \/ 2 <= es.length) /\ bs.length <= 24 /\ rs.length + es.length + ks.length <= 24 /\
 ∀ H' bs' rs' es' ks', GS H H' L R En B bs' rs' es' ks' -> WInv bs' rs' es' ks' -> bs.length <= bs'.length -> (c % 8 ≠ 5 -> bs'.length <= bs.length + 1 /\ rs'.length + es'.length + ks'.length <= rs.length + es.length + ks.length) -> (c % 8 = 5 -> bs'.length <= bs.length + 2 /\ rs'.length + es'.length + ks'.length <= rs.length + es.length + ks.length + 2) -> Q .non H'
theorem WF (T : Txt K mg a) : Cal P w K mg base "_law_joined" 2 gPs [] zav := T.h_L_joined.cal λ F => by
 refine F.okx JS ?_ ?_
 ·walk_at "i"
 walk_at "j";obtain ⟨c, L, R, E, B, bs, rs, es, ks, rfl, W, I0, e1, e2, b24, l24, k⟩ := h;walk_at "T";refine ⟨_, (zi (zI 5 JS.nd (zv (za (z7 PySem.F.plainAttrs_list PySem.F.slot_list_pop PySem.F.type_list_pop xB (pq 3) (za (zj qu (zA (pq 0)) (zJ zG zF (za (pq 3) ze))) ze)) ze)))  (qo (zC (zm (zR hr.units1) (zD (pq 0)) zg (zq _))  (zi (zw (z7 PySem.F.plainAttrs_list PySem.F.slot_list_append PySem.F.type_list_append zL (pq 1) (za (qt (za (zj zn zg (zD (zA (pq 0)))) (za (zj zn zg (zD (zA (pq 0)))) ze))) ze)))  (zi (zw (z7 PySem.F.plainAttrs_list PySem.F.slot_list_append PySem.F.type_list_append zL (pq 4) (za (zj qz (zJ zG zF (za (pq 1) ze)) zg) ze)))  (zh (zw (z7 PySem.F.plainAttrs_list PySem.F.slot_list_append PySem.F.type_list_append zL (pq 5) (za (zj qz (zJ zG zF (za (pq 1) ze)) zg) ze))))))  (zh (jh xl rfl (Jj (za (zj zn zg (zD (zA (pq 0)))) ze)) (qI 6 JS.nd)  (zh (zC (zm xV (zJ zG zF (za (pq 3) ze)) zg (zq _))  (zh (zw (z7 PySem.F.plainAttrs_list PySem.F.slot_list_append PySem.F.type_list_append zL (pq 5) (za (z7 PySem.F.plainAttrs_list PySem.F.slot_list_pop PySem.F.type_list_pop xB (pq 3) (za (zj qu (zj vW (pq 0) (zj zn zg (pq 6))) (zJ zG zF (za (pq 3) ze))) ze)) ze))))  zp)))))  (qo (zC (zm (zR hr.units1) (zD (zA (pq 0))) zg (zq _))  (zh (zw (zaO PySem.F.plainAttrs_list PySem.F.slot_list_reverse PySem.F.type_list_reverse ZL (pq 5))))  zp)  (zh (zw (z7 PySem.F.plainAttrs_list PySem.F.slot_list_append PySem.F.type_list_append zL (pq 2) (za (qt (za zl (za (pq 5) (za (z6 ⟨rfl, rfl, rfl⟩ hr (za (pq 0) (za zg (za (pq 1) (za (pq 3) (za (pq 4) ze)))))) (za (zv ze) ze))))) ze))))))), ?_⟩;walk_at "go";refine ⟨.inl ⟨rfl, _, SqL.of W.hE⟩, m_len, _, .inl ⟨_, SqL.of W.hE, rfl⟩, ?_⟩;rw [zE];have el : (0 : Int) < es.length := by lia
 refine ⟨el, ?_⟩;have v0 := Int.emod_nonneg (c / 9) (show (es.length : Int) ≠ 0 by lia);have v1 := Int.emod_lt_of_pos (c / 9) el;generalize c / 9 % (es.length : Int) = jj at v0 v1 ⊢;obtain ⟨y, hy⟩ : ∃ y, es[jj.toNat]? = some y := ⟨es[jj.toNat]'(by lia), getElem?_eq_getElem _⟩;refine ⟨E, iv es, jj, jj.toNat, .int y, rfl, rfl, W.hE, by lia, by lia, xz v0 (by rw [zE];exact v1), ZT hy, ?_⟩;rw [xE];have W1 := W.setE (es.eraseIdx jj.toNat);have pp := j0 hy;have pl := pp.length_eq;rw [length_cons] at pl;generalize upd H E (.lst (iv (es.eraseIdx jj.toNat))) = H1 at W1 ⊢;generalize es.eraseIdx jj.toNat = es1 at pp pl W1 ⊢;intro I hI;have nI := W1.off hI;have W2 : GS H (del (upd H1 I (.lst [.int y])) I) L R E B bs rs es1 ks := by rw [zcf hI];exact W1
 have hI2 : upd H1 I (.lst [.int y]) I = some (.lst (iv [y])) := upd_same;have nIE : E ≠ I := λ z => nI (by rw [<- z];simp);have nIL : L ≠ I := λ z => nI (by rw [<- z];simp);have nIB : B ≠ I := λ z => nI (by rw [<- z];simp);have nIR : R ≠ I := λ z => nI (by rw [<- z];simp);generalize upd H1 I (.lst [.int y]) = H2 at W2 hI2 ⊢;clear hI W1;walk_at "go";refine cut (λ σ' H' => ∃ v6 bs1 ins es2 ks2, ∃ esV : List Int, σ' = [some (.int c), some (.ref L), some (.ref R), some (.ref E), some (.ref B), some (.ref I), v6] /\ GS H (del H' I) L R E B bs1 rs es2 ks2 /\ H' I = some (.lst (iv ins)) /\ WInv bs1 rs esV ks2 /\ (ins ++ es2).Perm esV /\ 2 <= ins.length /\ ins.length <= 4 /\
  (c % 8 ≠ 5 -> bs1.length = bs.length /\ esV.length = es.length /\ ks2.length = ks.length) /\ (c % 8 = 5 -> bs1.length = bs.length + 1 /\ esV.length = es.length + 1 /\ ks2.length = ks.length + 1)) ?_ ?_
 ·walk_at "go";refine zN (λ b => ?_) (λ b => ?_)
  ·walk_at "go";obtain ⟨bv0, hL0, rL0⟩ := W2.hL;refine ⟨.inl ⟨rfl, _, SqL.of (jd _ _ hL0)⟩, λ t ht => ?_⟩;have z0 := Int.emod_nonneg (c / 17) (show (6 : Int) ≠ 0 by decide);have z1 := Int.emod_lt_of_pos (c / 17) (show (0 : Int) < 6 by decide);have z2 := Int.emod_nonneg (c / 19) (show (4 : Int) ≠ 0 by decide);have z3 := Int.emod_lt_of_pos (c / 19) (show (0 : Int) < 4 by decide);have nT : t ≠ I := (ne_of_none hI2 ht).symm;obtain ⟨bv, hL1, lv, W3⟩ := W2.addL (t := t) (rm := 1 + c / 17 % 6) (pc := 1 + c / 19 % 4) (by rw [WD nT];exact ht);rw [<- ZY nT, <- ZY nIL] at W3;have I1 := I0.loop (b := (1 + c / 17 % 6, 1 + c / 19 % 4)) ⟨by lia, by lia, by lia, by lia⟩;rw [<- ZY nT] at hL1;refine ⟨L, bv, _, rfl, rfl, jd _ _ hL1, zy (by lia), ?_⟩;have hI3 : upd (upd H2 t (.tup [.int (1 + c / 17 % 6), .int (1 + c / 19 % 4)])) L (.lst (bv ++ [.ref t])) I = some (.lst (iv [y])) := by rw [upd_ne nIL.symm, upd_ne nT.symm];exact hI2
   generalize upd (upd H2 t _) L _ = H3 at W3 hI3 ⊢;have lb2 : (bs ++ [(1 + c / 17 % 6, 1 + c / 19 % 4)]).length = bs.length + 1 := by simp
   generalize bs ++ [(1 + c / 17 % 6, 1 + c / 19 % 4)] = bs2 at W3 I1 lb2;clear W2 hL0 rL0 hL1 lv z0 z1 z2 z3 ht hI2;obtain ⟨bv2, hL2, rL2⟩ := W3.hL;have lv2 : bv2.length = bs2.length := by rw [rL2.len, length_map]
   walk_at "go";refine ⟨.inl ⟨rfl, _, SqL.of (jd _ _ W3.hB)⟩, m_len, _, .inl ⟨_, SqL.of (jd _ _ hL2), rfl⟩, B, _, _, rfl, rfl, jd _ _ W3.hB, zy (by rw [zE];lia), ?_⟩;rw [jp, lv2, show ((bs2.length : Nat) : Int) - 1 = (bs.length : Int) by lia];have W4 := W3.setB (ks ++ [(bs.length : Int)]);rw [<- ZY nIB] at W4;have hI4 : upd H3 B (.lst (iv (ks ++ [(bs.length : Int)]))) I = some (.lst (iv [y])) := by rw [upd_ne nIB.symm];exact hI3
   generalize upd H3 B _ = H4 at W4 hI4 ⊢;obtain ⟨bv3, hL3, rL3⟩ := W4.hL;have lv3 : bv3.length = bs2.length := by rw [rL3.len, length_map]
   walk_at "go";refine ⟨.inl ⟨rfl, _, SqL.of hI4⟩, m_len, _, .inl ⟨_, SqL.of (jd _ _ hL3), rfl⟩, I, _, _, rfl, rfl, hI4, zy (by rw [zE];show 1 <= 1000;decide), ?_⟩;rw [jp, lv3, show ((bs2.length : Nat) : Int) - 1 = (bs.length : Int) by lia];refine ⟨_, bs2, [y] ++ [(bs.length : Int)], es1, _, _, rfl, by rw [WC];exact W4, upd_same, I1, ?_, by simp, by simp, λ z => absurd b z, λ _ => ⟨lb2, by simp, by simp⟩⟩;rw [append_assoc];exact (List.Perm.append_left [y] perm_append_comm).trans (List.Perm.append_right _ pp)
  ·walk_at "go";walk_at "for";walk_at "go";have z0 := Int.emod_nonneg (c / 8) (show (3 : Int) ≠ 0 by decide);have z1 := Int.emod_lt_of_pos (c / 8) (show (0 : Int) < 3 by decide);generalize c / 8 % 3 = mm at z0 z1 ⊢;refine ⟨by lia, by lia, ?_⟩;have e2 : 2 <= es.length := e2.resolve_left b;refine Vm (n := (1 + mm).toNat) (λ i σ' H' => ∃ v6 ins es2, σ' = [some (.int c), some (.ref L), some (.ref R), some (.ref E), some (.ref B), some (.ref I), v6] /\ GS H (del H' I) L R E B bs rs es2 ks /\ H' I = some (.lst (iv ins)) /\ (ins ++ es2).Perm es /\ 1 <= ins.length /\ ins.length <= 1 + i /\ (1 <= i -> 2 <= ins.length)) ⟨_, [y], es1, rfl, W2, hI2, pp, Nat.le_refl _, Nat.le_refl _, λ z => absurd z (by decide)⟩ ?_ ?_
   ·clear W2 hI2 pp pl;rintro i σ' H3 hi ⟨v6, ins, es2, rfl, W3, hI3, p3, i1, ii, i2⟩;have pl := p3.length_eq;rw [length_append] at pl;have hE3 := jd _ _ W3.hE;walk_at "go";simp only [Int.zero_add];refine ⟨_, .inl ⟨_, SqL.of hE3, rfl⟩, ?_⟩;rw [zE];refine zN (λ q => ?_) (λ q => ⟨_, ins, es2, rfl, W3, hI3, p3, i1, by lia, λ _ => by lia⟩);refine ⟨.inl ⟨rfl, _, SqL.of hI3⟩, .inl ⟨rfl, _, SqL.of hE3⟩, fd_small (by lia) (by lia), m_len, _, .inl ⟨_, SqL.of hE3, rfl⟩, ?_⟩;rw [zE];refine ⟨q, ?_⟩;have v0 := Int.emod_nonneg (c.fdiv (10 + (i : Int))) (show (es2.length : Int) ≠ 0 by lia);have v1 := Int.emod_lt_of_pos (c.fdiv (10 + (i : Int))) q;generalize c.fdiv (10 + (i : Int)) % (es2.length : Int) = jj at v0 v1 ⊢;obtain ⟨y2, hy⟩ : ∃ y, es2[jj.toNat]? = some y := ⟨es2[jj.toNat]'(by lia), getElem?_eq_getElem _⟩;refine ⟨E, iv es2, jj, jj.toNat, .int y2, rfl, rfl, hE3, by lia, by lia, xz v0 (by rw [zE];exact v1), ZT hy, ?_⟩;rw [xE];have W5 := W3.setE (es2.eraseIdx jj.toNat);rw [<- ZY nIE] at W5;have p5 := j0 hy;have hI5 : upd H3 E (.lst (iv (es2.eraseIdx jj.toNat))) I = some (.lst (iv ins)) := by rw [upd_ne nIE.symm];exact hI3
    generalize upd H3 E (.lst (iv (es2.eraseIdx jj.toNat))) = H4 at W5 hI5 ⊢;generalize es2.eraseIdx jj.toNat = es3 at p5 W5 ⊢;refine ⟨I, _, _, rfl, rfl, hI5, zy (by rw [zE];lia), ?_⟩;rw [jp];refine ⟨_, ins ++ [y2], es3, rfl, by rw [WC];exact W5, upd_same, ?_, by simp, by simp;lia, λ _ => by simp;lia⟩;rw [append_assoc];exact (List.Perm.append_left _ p5).trans p3
   ·rintro σ' H3 ⟨v6, ins, es2, rfl, W3, hI3, p3, i1, ii, i2⟩;exact ⟨v6, bs, ins, es2, ks, es, rfl, W3, hI3, I0, p3, i2 (by lia), by lia, λ _ => ⟨rfl, rfl, rfl⟩, λ z => absurd z b⟩
 rintro σ' H3 ⟨v6, bs1, ins, es2, ks2, esV, rfl, W3, hI3, I3, p3, i2, i4, q1, q2⟩;clear W2 hI2 pp pl W;walk_at "go";refine cut (λ σ' H' => ∃ ins, σ' = [some (.int c), some (.ref L), some (.ref R), some (.ref E), some (.ref B), some (.ref I), v6] /\ GS H (del H' I) L R E B bs1 rs es2 ks2 /\ H' I = some (.lst (iv ins)) /\ (ins ++ es2).Perm esV /\ 2 <= ins.length /\ ins.length <= 4) ?_ ?_
 ·walk_at "go";walk_at "sds";walk_at "go";refine zN (λ b => ?_) (λ b => ⟨ins, W3, hI3, p3, i2, i4⟩);walk_at "go";refine ⟨.inl ⟨rfl, _, SqL.of hI3⟩, I, _, rfl, rfl, hI3, ?_⟩;rw [zbd];exact ⟨ins.reverse, by rw [WC];exact W3, upd_same, (List.Perm.append_right _ (List.reverse_perm _)).trans p3, by rw [length_reverse];exact i2, by rw [length_reverse];exact i4⟩
 clear W3 hI3 p3 i2 i4;rintro σ' H4 ⟨ins, rfl, W3, hI3, p3, i2, i4⟩;have pl := p3.length_eq;rw [length_append] at pl;have W4 := W3.same jd;obtain ⟨bv, hL4, rL4⟩ := W4.hL;obtain ⟨rv, hR4, rR4⟩ := W4.hR;have nE : 1 <= es.length := e1;walk_at "go";refine ⟨.inl ⟨rfl, _, SqL.of hR4⟩, _, _, _, (xI T).mono, ?_⟩;refine ⟨c, 1, L, E, B, es2, ks2, bv, bs1, rfl, by decide, W4.nEB, W4.nLE.symm, W4.nLB.symm, W4.hE, W4.hB, hL4, rL4.more (by intro b hb;left;simp only [mem_cons, not_mem_nil, or_false] at hb ⊢;rcases hb with h|h|h <;> simp [h]), by lia, by lia, by lia, ?_⟩;intro H5 O es5 ks5 bs5 outs WO oR;obtain ⟨W5, nO, hO5⟩ := W4.outs WO;have hI5 : H5 I = some (.lst (iv ins)) := Wx (R := R) WO.f _ _ nI hI3;obtain ⟨m, n1, n2, n3, n4, n5⟩ := vg oR;intro p hp t ht;have s6 := (zf (o := .lst []) hp).trans (zf (o := .tup [.str "joiner", .ref I, .ref O, .ref p]) ht);have W6 := W5.same s6;have q := jw (p := Off (ms4 L R E B)) (r := ⟨.joiner, ins, outs, 0, []⟩) (W5.off (zr ht)) nI nO (W5.off hp) (upd_same (H := upd H5 p (.lst []))) (s6 _ _ hI5) (s6 _ _ hO5) (upd_keep upd_same ht);obtain ⟨rv6, hR6, lr6, W7⟩ := W6.addR q;refine ⟨R, rv6, _, rfl, rfl, hR6, zy (by lia), k _ bs5 _ es5 ks5 W7 (jV (r := ⟨.joiner, ins, outs, 0, []⟩) I3 p3 oR ⟨List.length_eq_one_iff.mp n5, i2, i4⟩) ?_ (λ z => ?_) (λ z => ?_)⟩
 ·by_cases z : c % 8 = 5
  ·have := q2 z;lia
  ·have := q1 z;lia
 ·have := q1 z;rw [length_append, length_singleton]
  lia
 ·have := q2 z;rw [length_append, length_singleton]
  lia
theorem zb7 {A C P G : Prop} [Decidable A] (p : A \/ C -> P) (g : ¬ A -> (C -> P) -> G) : if A then P else G := by
 by_cases a : A
 ·rw [if_pos a];exact p (.inl a)
 ·rw [if_neg a];exact g a λ c => p (.inr c)
theorem zcE {A D A2 B2 D2 P Z m : Prop} {B L : Nat -> Prop} [Decidable A] [∀ n, Decidable (B n)] [Decidable D] [Decidable A2] [Decidable B2] [Decidable D2] (hm : m) (n : Nat) (hl : L n) (p : (A /\ B n /\ D) \/ (A2 /\ B2 /\ D2) -> P) (z : Z) :
  if A then m /\ ∃ n, L n /\ (if B n then (if D then P else if A2 then (if B2 then (if D2 then P else Z) else Z) else Z) else if A2 then (if B2 then (if D2 then P else Z) else Z) else Z) else if A2 then (if B2 then (if D2 then P else Z) else Z) else Z := by
 have y : if A2 then (if B2 then (if D2 then P else Z) else Z) else Z := by
  by_cases a : A2
  ·rw [if_pos a];by_cases b : B2
   ·rw [if_pos b];by_cases d : D2
    ·rw [if_pos d];exact p (.inr ⟨a, b, d⟩)
    ·rw [if_neg d];exact z
   ·rw [if_neg b];exact z
  ·rw [if_neg a];exact z
 by_cases a : A
 ·rw [if_pos a];refine ⟨hm, n, hl, ?_⟩;by_cases b : B n
  ·rw [if_pos b];by_cases d : D
   ·rw [if_pos d];exact p (.inl ⟨a, b, d⟩)
   ·rw [if_neg d];exact y
  ·rw [if_neg b];exact y
 ·rw [if_neg a];exact y
def zcJ : Sp := λ vs H Q _ => ∃ (c : Int) (L R En B : Addr) (bs : List (Int × Int)) (rs : List Row) (es ks : List Int), vs = [.int c, .ref L, .ref R, .ref En, .ref B] /\ GS H H L R En B bs rs es ks /\ WInv bs rs es ks /\ bs.length <= 24 /\ rs.length + es.length + ks.length <= 24 /\
 ∀ H' bs' rs' es' ks', GS H H' L R En B bs' rs' es' ks' -> WInv bs' rs' es' ks' -> bs'.length <= 24 -> rs'.length + es'.length + ks'.length <= 24 -> bs.length <= bs'.length -> (rs.length + es.length + ks.length = 0 -> bs.length = 0 -> 1 <= bs'.length) -> Q .non H'
theorem zbx (T : Txt K mg a) : Cal P w K mg base "_law_step" 3 gPs [] zcJ := T.h_L_step.cal λ F => by
 refine F.okx VN ?_ ?_
 ·walk_at "i"
 walk_at "j";obtain ⟨c, L, R, E, B, bs, rs, es, ks, rfl, W, I0, b24, l24, k⟩ := h;obtain ⟨bv, hL, rL⟩ := W.hL;obtain ⟨rv, hR, rR⟩ := W.hR;have lL : bv.length = bs.length := by rw [rL.len, length_map]
 have lR : rv.length = rs.length := by rw [rR.len, length_map]
 walk_at "T";refine ⟨_, (zi (zI 5 VN.nd (zj qz (zj qz (zj qz zg (zJ zG zF (za (pq 2) ze))) (zJ zG zF (za (pq 3) ze))) (zJ zG zF (za (pq 4) ze))))  (zi (zI 6 VN.nd (zj qz zg (zJ zG zF (za (pq 1) ze))))  (zi (zI 7 VN.nd (zD (pq 0)))  (zi (zI 8 VN.nd (zj zn zg (zD (zA (pq 0)))))  (qo (zC (zm (zR hr.units1) (pq 7) zg (zq _))  (zh (zI 8 VN.nd zg))  zp)  (zh (zC (PW.pt (pw_or (zm (zR hr.units1) (pq 7) zg (zq _)) (pw_or1 (zm (zR hr.units1) (zJ zG zF (za (pq 3) ze)) zg (zq _)))))  (zh (zC (PW.pt (pw_and (zm xV (pq 5) zg (zq _)) (pw_and1 (zm xV (pq 6) zg (zq _)))))  (zi (zI 9 VN.nd (z6 ⟨rfl, rfl, rfl⟩ hr (za (pq 0) (za zg (za (pq 1) (za (pq 3) (za (zv ze) ze)))))))  (zh (zw (z7 PySem.F.plainAttrs_list PySem.F.slot_list_append PySem.F.type_list_append zL (pq 2) (za (qt (za zl (za (zv ze) (za (pq 9) (za (zj zn (zv (za (zj zn zg (zD (zA (pq 0)))) ze)) (z6 ⟨rfl, rfl, rfl⟩ hr (za (zA (pq 0)) ze))) ze))))) ze)))))  zp))  (zh (zC (PW.pt (pw_or (PW.pt (pw_and (zm (zR hr.units1) (pq 7) zg (zq _)) (pw_and (zm xV (zJ zG zF (za (pq 3) ze)) zg (zq _)) (pw_and1 (zm xV (pq 6) zg (zq _)))))) (pw_or1 (PW.pt (pw_and (zm (zR hr.units1) (pq 7) zg (zq _)) (pw_and (zm xV (pq 5) zg (zq _)) (pw_and1 (zm xV (pq 6) zg (zq _)))))))))  (zh (zw (z6 ⟨rfl, rfl, rfl⟩ hr (za (pq 0) (za (pq 1) (za (pq 2) (za (pq 3) (za (pq 4) ze))))))))  (zh (zC (zm (zR hr.units1) (pq 7) zg (zq _))  (zh (zw (z7 PySem.F.plainAttrs_list PySem.F.slot_list_append PySem.F.type_list_append zL (pq 2) (za (qt (za zl (za (zv (za (z7 PySem.F.plainAttrs_list PySem.F.slot_list_pop PySem.F.type_list_pop xB (pq 3) (za (zj qu (zA (pq 0)) (zJ zG zF (za (pq 3) ze))) ze)) ze)) (za (zv ze) (za (zv (za (zD (zA (pq 0))) ze)) ze))))) ze))))  (zh (zC (PW.pt (pw_and (zm zaY (pq 7) (qt (za zg (za zg ze))) (by with_unfolding_all rfl)) (pw_and (zm Qz (pq 5) (pq 8) (zq _)) (pw_and1 (zm Qz (pq 6) (pq 8) (zq _))))))  (zi (zI 10 VN.nd (zv (za (z7 PySem.F.plainAttrs_list PySem.F.slot_list_pop PySem.F.type_list_pop xB (pq 3) (za (zj qu (zA (pq 0)) (zJ zG zF (za (pq 3) ze))) ze)) ze)))  (zi (zI 9 VN.nd (z6 ⟨rfl, rfl, rfl⟩ hr (za (pq 0) (za (pq 8) (za (pq 1) (za (pq 3) (za (pq 4) ze)))))))  (zh (zC (zm (zR hr.units1) (pq 7) zg (zq _))  (zh (zw (z7 PySem.F.plainAttrs_list PySem.F.slot_list_append PySem.F.type_list_append zL (pq 2) (za (qt (za zl (za (pq 10) (za (pq 9) (za (zv (za (Jm (zj qE (zA (pq 0)) zg)) ze)) ze))))) ze))))  (zh (zC (zm (zR hr.units1) (pq 7) zg (zq _))  (zh (zw (z7 PySem.F.plainAttrs_list PySem.F.slot_list_append PySem.F.type_list_append zL (pq 2) (za (qt (za zl (za (pq 10) (za (pq 9) (za (zv ze) ze))))) ze))))  (zh (zw (z7 PySem.F.plainAttrs_list PySem.F.slot_list_append PySem.F.type_list_append zL (pq 2) (za (qt (za zl (za (pq 10) (za (pq 9) (za (zv ze) ze))))) ze))))))))))  zp))))))))))))), ?_⟩;walk_at "go";refine ⟨_, .inl ⟨_, SqL.of hR, rfl⟩, m_len, _, .inl ⟨_, SqL.of W.hE, rfl⟩, m_len, _, .inl ⟨_, SqL.of W.hB, rfl⟩, ?_⟩;rw [lR, zE, zE];walk_at "go";refine ⟨_, .inl ⟨_, SqL.of hL, rfl⟩, ?_⟩;rw [lL];walk_at "go";have z0 := Int.emod_nonneg (c / 8) (show (3 : Int) ≠ 0 by decide);have z1 := Int.emod_lt_of_pos (c / 8) (show (0 : Int) < 3 by decide);obtain ⟨mn, emn⟩ : ∃ m : Nat, 2 + c / 8 % 3 = (m : Int) := ⟨(2 + c / 8 % 3).toNat, by lia⟩;rw [emn];walk_at "go";refine cut (λ σ' H' => ∃ n : Nat, σ' = [some (.int c), some (.ref L), some (.ref R), some (.ref E), some (.ref B), some (.int (24 - rs.length - es.length - ks.length)), some (.int (24 - bs.length)), some (.int (c % 8)), some (.int n), none, none] /\ H' = H /\ 2 <= n /\ n <= 4 /\ (c % 8 = 3 -> n = 2)) ?_ ?_
 ·walk_at "go";refine zN (λ b => ?_) (λ b => ?_)
  ·walk_at "go";exact ⟨2, rfl, by decide, by decide, λ _ => rfl⟩
  ·exact ⟨mn, rfl, by lia, by lia, λ z => absurd z b⟩
 rintro σ' H' ⟨n, rfl, rfl, n2, n4, n3⟩;have stay : 1 <= rs.length + es.length + ks.length \/ 1 <= bs.length -> Q .non H' := λ z => k H' bs rs es ks W I0 b24 l24 (Nat.le_refl _) (λ _ _ => by lia);walk_at "go";refine zb7 (C := es.length = 0) (λ z => zN (λ left => zN (λ room => ?_) (λ _ => stay (by lia))) (λ _ => stay (by lia))) (λ a0 hp => ⟨m_len, _, .inl ⟨_, SqL.of W.hE, rfl⟩, ?_⟩)
 ·walk_at "go";refine uc (xI T).mono (λ X hX => ?_);have sX := zf (o := .lst []) hX;refine ⟨c, 1, L, E, X, es, [], bv, bs, rfl, by decide, ne_of_none W.hE hX, W.nLE.symm, (ne_of_none hL hX).symm, sX _ _ W.hE, upd_same, sX _ _ hL, (rL.more (ns := [E, X, L]) ?_).same sX, by lia, by simp, by lia, ?_⟩
  ·intro b hb;simp only [mem_cons, not_mem_nil, or_false] at hb ⊢;rcases hb with rfl|rfl|rfl
   ·exact .inl (by simp)
   ·exact .inr hX
   ·exact .inl (by simp)
  intro H2 O es2 ks2 bs2 outs WO oR;obtain ⟨W2, nO, hO2⟩ := W.outs0 hX WO;have oR := zaT (ks := ks) oR;obtain ⟨m, n1, n2', n3', n4', n5⟩ := vg oR;clear WO sX hX;obtain ⟨rv2, hR2, rR2⟩ := W2.hR;walk_at "go";refine ⟨.inl ⟨rfl, _, SqL.of hR2⟩, λ p1 h1 => (λ p2 h2 => ?_)⟩;have u0 := Int.emod_nonneg (c / 8) (show (4 : Int) ≠ 0 by decide);have u1 := Int.emod_lt_of_pos (c / 8) (show (0 : Int) < 4 by decide);generalize c / 8 % 4 = pc at u0 u1 ⊢;have s3 := (zf (o := .lst []) h1).trans (zf (o := .lst [.int (1 + pc)]) h2);have g1 := upd_keep (o := .lst [.int (1 + pc)]) (upd_same (H := H2) (a := p1) (o := .lst [])) h2;have g2 : upd (upd H2 p1 (.lst [])) p2 (.lst [.int (1 + pc)]) p2 = some (.lst [.int (1 + pc)]) := upd_same;generalize upd (upd H2 p1 (.lst [])) p2 (.lst [.int (1 + pc)]) = H3 at s3 g1 g2 ⊢;refine uc (wT T).mono ⟨_, rfl, λ KO kd H4 s4 nK hK k1 k6 kk => ?_⟩;refine zZ (SqL.of (s4 _ _ g2)) (SqL.of hK) (zW (by rw [zE];simp;lia)) λ q hq => ?_;intro t ht;have s6 := (zf (o := .lst ([.int (1 + pc)] ++ iv kd)) hq).trans (zf (o := .tup [.str "source", .ref p1, .ref O, .ref q]) ht);have s26 := (s3.trans s4).trans s6;have W6 := W2.same s26;have nq := (W2.same (s3.trans s4)).off hq;have nt := (W2.same (s3.trans s4)).off (zr ht);have qq := jw (p := Off (ms4 L R E B)) (r := ⟨.source, [], outs, 1 + pc, kd⟩) nt (W2.off h1) nO nq (upd_same (H := upd H4 q (.lst ([.int (1 + pc)] ++ iv kd)))) (s6 _ _ (s4 _ _ g1)) (s26 _ _ hO2) (upd_keep upd_same ht);obtain ⟨rv6, hR6, lr6, W7⟩ := W6.addR qq;refine ⟨R, rv6, _, rfl, rfl, hR6, zy (by lia), k _ bs2 _ es2 ks W7 (jV (r := ⟨.source, [], outs, 1 + pc, kd⟩) I0 (List.Perm.refl _) oR ⟨rfl, List.length_eq_one_iff.mp n5, by show 1 <= 1 + pc;lia, by show 1 + pc <= 4;lia, k1, k6, kk⟩) (by lia) ?_ (by lia) (λ _ _ => by lia)⟩;rw [length_append, length_singleton]
  lia
 rw [zE];refine zN (λ q => hp (by lia)) (λ q => ?_);clear hp;have e1 : 1 <= es.length := by lia
 refine zcE m_len _ (.inl ⟨_, SqL.of W.hE, rfl⟩) (λ z => ?_) ?_
 ·walk_at "go";refine uc (WF T).mono ⟨c, L, R, E, B, bs, rs, es, ks, rfl, W, I0, e1, ?_, b24, l24, λ H2 bs2 rs2 es2 ks2 W2 I2 lb q1 q2 => k H2 bs2 rs2 es2 ks2 W2 I2 ?_ ?_ lb (λ _ _ => by lia)⟩
  ·rw [zE] at z;lia
  ·by_cases h5 : c % 8 = 5
   ·have := q2 h5;lia
   ·have := q1 h5;lia
  ·by_cases h5 : c % 8 = 5
   ·have := q2 h5;lia
   ·have := q1 h5;lia
 refine zN (λ w6 => ?_) (λ w6 => ?_)
 ·walk_at "go";refine ⟨.inl ⟨rfl, _, SqL.of hR⟩, .inl ⟨rfl, _, SqL.of W.hE⟩, m_len, _, .inl ⟨_, SqL.of W.hE, rfl⟩, ?_⟩;rw [zE];have el : (0 : Int) < es.length := by lia
  refine ⟨el, ?_⟩;have v0 := Int.emod_nonneg (c / 40) (show (es.length : Int) ≠ 0 by lia);have v1 := Int.emod_lt_of_pos (c / 40) el;generalize c / 40 % (es.length : Int) = jj at v0 v1 ⊢;obtain ⟨y, hy⟩ : ∃ y, es[jj.toNat]? = some y := ⟨es[jj.toNat]'(by lia), getElem?_eq_getElem _⟩;refine ⟨E, iv es, jj, jj.toNat, .int y, rfl, rfl, W.hE, by lia, by lia, xz v0 (by rw [zE];exact v1), ZT hy, ?_⟩;rw [xE];have W1 := W.setE (es.eraseIdx jj.toNat);have pp := j0 hy;have pl := pp.length_eq;rw [length_cons] at pl;generalize upd H' E (.lst (iv (es.eraseIdx jj.toNat))) = H1 at W1 ⊢;generalize es.eraseIdx jj.toNat = es1 at pp pl W1 ⊢;intro p1 h1 p2 h2;refine (λ p3 h3 t ht => ?_);have u0 := Int.emod_nonneg (c / 8) (show (5 : Int) ≠ 0 by decide);have u1 := Int.emod_lt_of_pos (c / 8) (show (0 : Int) < 5 by decide);generalize c / 8 % 5 = pc at u0 u1 h3 ht ⊢;obtain ⟨s2, q2⟩ := Xm ⟨.drain, [y], [], pc, []⟩ h1 h2 h3 ht;have W2 := W1.same s2;obtain ⟨rv2, hR2, lr2, W3⟩ := W2.addR (q2 (Off (ms4 L R E B)) λ b hb => W1.off hb);refine ⟨R, rv2, _, rfl, rfl, hR2, zy (by lia), k _ bs _ es1 ks W3 (jV (r := ⟨.drain, [y], [], pc, []⟩) I0 pp wK ⟨⟨_, rfl⟩, rfl, u0, by show pc <= 4;lia⟩) b24 ?_ (Nat.le_refl _) (λ _ _ => by lia)⟩;rw [length_append, length_singleton]
  lia
 walk_at "go";intro tp htp;have sT := zf (o := .tup [.int 4, .int 5]) htp;have W1 := W.same sT;refine ⟨tp, _, rfl, .inr (SqT.of upd_same), rfl, rfl, ?_⟩;generalize upd H' tp (.tup [.int 4, .int 5]) = H1 at sT W1 ⊢;have stay1 : Q .non H1 := k H1 bs rs es ks W1 I0 b24 l24 (Nat.le_refl _) (λ _ _ => by lia)
 first
  | refine zN (λ w45 => zN (λ left => zN (λ room => ?_) (λ _ => stay1)) (λ _ => stay1)) (λ _ => stay1)
  | refine ⟨_, rfl, zN (λ w45 => zN (λ left => zN (λ room => ?_) (λ _ => stay1)) (λ _ => stay1)) (λ _ => stay1)⟩
 walk_at "go";refine ⟨.inl ⟨rfl, _, SqL.of W1.hE⟩, m_len, _, .inl ⟨_, SqL.of W1.hE, rfl⟩, ?_⟩;rw [zE];have el : (0 : Int) < es.length := by lia
 refine ⟨el, ?_⟩;have v0 := Int.emod_nonneg (c / 24) (show (es.length : Int) ≠ 0 by lia);have v1 := Int.emod_lt_of_pos (c / 24) el;generalize c / 24 % (es.length : Int) = jj at v0 v1 ⊢;obtain ⟨y, hy⟩ : ∃ y, es[jj.toNat]? = some y := ⟨es[jj.toNat]'(by lia), getElem?_eq_getElem _⟩;refine ⟨E, iv es, jj, jj.toNat, .int y, rfl, rfl, W1.hE, by lia, by lia, xz v0 (by rw [zE];exact v1), ZT hy, ?_⟩;rw [xE];have W2 := W1.setE (es.eraseIdx jj.toNat);have pp := j0 hy;have pl := pp.length_eq;rw [length_cons] at pl;generalize upd H1 E (.lst (iv (es.eraseIdx jj.toNat))) = H2 at W2 ⊢;generalize es.eraseIdx jj.toNat = es1 at pp pl W2 ⊢;intro I hI;have W3 := W2.same (zf (o := .lst [.int y]) hI);have nI := W2.off hI;have hI3 : upd H2 I (.lst [.int y]) I = some (.lst (iv [y])) := upd_same;generalize upd H2 I (.lst [.int y]) = H3 at W3 hI3 ⊢;clear W1 W2 hI stay stay1;obtain ⟨bv3, hL3, rL3⟩ := W3.hL;walk_at "go";refine uc (xI T).mono ?_;refine ⟨c, n, L, E, B, es1, ks, bv3, bs, rfl, n4, W3.nEB, W3.nLE.symm, W3.nLB.symm, W3.hE, W3.hB, hL3, rL3.more (by intro b hb;left;simp only [mem_cons, not_mem_nil, or_false] at hb ⊢;rcases hb with h|h|h <;> simp [h]), by lia, by lia, by lia, ?_⟩;intro H5 O es5 ks5 bs5 outs WO oR;obtain ⟨W5, nO, hO5⟩ := W3.outs WO;have hI5 : H5 I = some (.lst (iv [y])) := Wx (R := R) WO.f _ _ nI hI3;obtain ⟨m, m1, m2, m3, m4, m5⟩ := vg oR;clear WO;obtain ⟨rv5, hR5, _⟩ := W5.hR;have last : ∀ (r : Row) (l3 t : Addr) (H6 : Hp), r.ins = [y] -> r.outs = outs -> r.ok -> Same H5 H6 -> H5 l3 = none -> H5 t = none -> H6 l3 = some (.lst (iv (qF r))) -> H6 t = some (.tup [.str (wdS r.wd), .ref I, .ref O, .ref l3]) -> WX (.ref R) [.ref t] H6 λ x H1 => Q .non H1 := λ r l3 t H6 ri ro rk s6 n3 nt g3 gt => by
  have W6 := W5.same s6;have qq := jw (p := Off (ms4 L R E B)) (r := r) (W5.off nt) nI nO (W5.off n3) gt (by rw [ri];exact s6 _ _ hI5) (by rw [ro];exact s6 _ _ hO5) g3;obtain ⟨rv6, hR6, lr6, W7⟩ := W6.addR qq;refine ⟨R, rv6, _, rfl, rfl, hR6, zy (by lia), k _ bs5 _ es5 ks5 W7 (jV I0 (by rw [ri];exact pp) (by rw [ro];exact oR) rk) (by lia) ?_ (by lia) (λ _ _ => by lia)⟩;rw [length_append, length_singleton]
  lia
 walk_at "go";have two : ∀ {p t : Addr} {o1 o2 : HO}, H5 p = none -> upd H5 p o1 t = none -> Same H5 (upd (upd H5 p o1) t o2) /\ H5 t = none /\ upd (upd H5 p o1) t o2 p = some o1 /\ upd (upd H5 p o1) t o2 t = some o2 := λ {p t o1 o2} hp ht => ⟨(zf hp).trans (zf ht), zr ht, upd_keep upd_same ht, upd_same⟩;refine zN (λ b3 => ?_) (λ b3 => zN (λ b1 => ?_) (λ b1 => ?_))
 ·refine ⟨.inl ⟨rfl, _, SqL.of hR5⟩, mul_okR (by decide) (by decide), λ p hp t ht => ?_⟩;obtain ⟨s6, nt, g3, gt⟩ := two hp ht;exact last ⟨.sieve, [y], outs, 0, [c / 8 * 48271 % 1000000000000000000000000000000]⟩ p t _ rfl rfl ⟨⟨_, rfl⟩, m5.trans (n3 b3), _, rfl, Int.emod_nonneg _ (by decide), Int.emod_lt_of_pos _ (by decide)⟩ s6 hp nt g3 gt
 ·refine ⟨.inl ⟨rfl, _, SqL.of hR5⟩, λ p hp t ht => ?_⟩;obtain ⟨s6, nt, g3, gt⟩ := two hp ht;exact last ⟨.first, [y], outs, 0, []⟩ p t _ rfl rfl ⟨⟨_, rfl⟩, by show 2 <= outs.length;lia, by show outs.length <= 4;lia⟩ s6 hp nt g3 gt
 ·refine ⟨.inl ⟨rfl, _, SqL.of hR5⟩, λ p hp t ht => ?_⟩;obtain ⟨s6, nt, g3, gt⟩ := two hp ht;exact last ⟨.parter, [y], outs, 0, []⟩ p t _ rfl rfl ⟨⟨_, rfl⟩, by show 2 <= outs.length;lia, by show outs.length <= 4;lia⟩ s6 hp nt g3 gt
theorem Vb {xs : List Int} : (∃ x, xs = [x]) ↔ xs.length = 1 := ⟨λ ⟨_, h⟩ => by rw [h];rfl, λ h => List.length_eq_one_iff.mp h⟩
theorem Wf {r : Row} {is os : List Int} (h : r.ok) (a : is.length = r.ins.length) (b : os.length = r.outs.length) : Row.ok ⟨r.wd, is, os, r.pace, r.kinds⟩ := by
 obtain ⟨wd, ins, outs, pc, ks⟩ := r;cases wd <;> simp only [Row.ok, Vb, <- length_eq_zero_iff, a, b] at h ⊢ <;> exact h
theorem We {r : Row} (h : r.ok) : r.ins.length <= 4 /\ r.outs.length <= 4 := by
 obtain ⟨wd, ins, outs, pc, ks⟩ := r;cases wd <;> simp only [Row.ok, Vb, <- length_eq_zero_iff] at h ⊢ <;> lia
def shF (n m : Nat) (x : Int) : Int := (x + m) % n
theorem WS {n m : Nat} (h : m < n) : ((rgI n).map (shF n m)).Perm (rgI n) := by
 have e : rgI n = rgI (n - m) ++ xS (n - m) m := by rw [vT];congr 1;lia
 have a1 : (rgI (n - m)).map (shF n m) = xS m (n - m) := by
  unfold rgI xS;rw [map_map];refine List.map_congr_left λ i hi => ?_;have hi := List.mem_range.mp hi;show ((i : Int) + m) % n = ((m + i : Nat) : Int)
  rw [Int.emod_eq_of_lt (by lia) (by lia)]
  lia
 have a2 : (xS (n - m) m).map (shF n m) = rgI m := by
  unfold rgI xS;rw [map_map];refine List.map_congr_left λ i hi => ?_;have hi := List.mem_range.mp hi;show (((n - m + i : Nat) : Int) + m) % n = (i : Int)
  rw [show (((n - m + i : Nat) : Int) + m) = (i : Int) + (n : Int) * 1 by lia, Int.add_mul_emod_self_left, Int.emod_eq_of_lt (by lia) (by lia)]
 rw [e, map_append, a1, a2, <- e];refine List.perm_append_comm.trans ?_;rw [vT];rw [show m + (n - m) = n by lia]
def shR (n m : Nat) (r : Row) : Row := ⟨r.wd, r.ins.map (shF n m), r.outs.map (shF n m), r.pace, r.kinds⟩
theorem zcP {n m : Nat} {r : Row} (h : r.ok) : (shR n m r).ok := Wf h (by simp) (by simp)
theorem zdh (n m : Nat) (rs : List Row) : qv (rs.map (shR n m)) = (qv rs).map (shF n m) := by
 unfold qv;rw [flatMap_map, List.map_flatMap]
 rfl
theorem zaq (n m : Nat) (rs : List Row) : zU (rs.map (shR n m)) = (zU rs).map (shF n m) := by
 unfold zU;rw [flatMap_map, List.map_flatMap]
 rfl
theorem JX {α : Type} (xs : List α) (k : Nat) : (xs.drop k ++ xs.take k).Perm xs := by
 refine List.perm_append_comm.trans ?_;rw [take_append_drop]
theorem Qq {bs : List (Int × Int)} {rs : List Row} {m k c : Nat} (h : WInv bs rs [] []) (b1 : 1 <= bs.length) (b24 : bs.length <= 24) (r24 : rs.length <= 24) (hm : m < bs.length) :
  qw (bs.drop k ++ bs.take k) ((rs.map (shR bs.length m)).drop c ++ (rs.map (shR bs.length m)).take c) /\ (∀ b ∈ bs.drop k ++ bs.take k, z4 b.1 b.2) /\ (∀ r ∈ (rs.map (shR bs.length m)).drop c ++ (rs.map (shR bs.length m)).take c, r.ok) := by
 have tk := h.tk;have fd := h.fd;rw [append_nil] at tk fd;have p1 := JX bs k;have p2 := JX (rs.map (shR bs.length m)) c;have l1 := p1.length_eq;have l2 := p2.length_eq;rw [length_map] at l2;have r1 : 1 <= rs.length := by
  rcases Nat.eq_zero_or_pos rs.length with z|z
  ·have e := List.length_eq_zero_iff.mp z;subst e;have := tk.length_eq;rw [zbN] at this;simp [zU] at this
   lia
  ·exact z
 refine ⟨⟨⟨⟨by lia, by lia⟩, by lia, by lia⟩, ?_, ?_⟩, λ b hb => h.bo b (p1.mem_iff.mp hb), λ r hr => ?_⟩
 ·refine (p2.flatMap_right _).trans ?_;show (qv _).Perm _
  rw [zdh, l1];exact (fd.map _).trans (WS hm)
 ·refine (p2.flatMap_right _).trans ?_;show (zU _).Perm _
  rw [zaq, l1];exact (tk.map _).trans (WS hm)
 ·obtain ⟨r0, h0, rfl⟩ := List.mem_map.mp (p2.mem_iff.mp hr);exact zcP (h.ro r0 h0)
theorem qk (xs : List V) (k : Nat) (h : k <= xs.length) : jz xs (some (k : Int)) none = xs.drop k := by
 unfold jz;rw [HT.sIx_nat, HT.sIx_none, Nat.min_eq_left h];exact List.take_of_length_le (by rw [length_drop];lia)
theorem qW (xs : List V) (k : Nat) (h : k <= xs.length) : jz xs none (some (k : Int)) = xs.take k := by
 unfold jz;rw [HT.sIx_nat, HT.sIx_none, Nat.min_eq_left h];simp
theorem WInv.nil : WInv [] [] [] [] := ⟨List.Perm.refl _, List.Perm.refl _, (λ _ z => nomatch z), (λ _ z => nomatch z)⟩
theorem WInv.drain {bs : List (Int × Int)} {rs : List Row} {y pc : Int} {es ks : List Int} (h : WInv bs rs (y :: es) ks) (h0 : 0 <= pc) (h4 : pc <= 4) : WInv bs (rs ++ [⟨.drain, [y], [], pc, []⟩]) es ks :=
 jV (r := ⟨.drain, [y], [], pc, []⟩) h (List.Perm.refl _) wK ⟨⟨_, rfl⟩, rfl, h0, h4⟩
theorem WInv.source {bs : List (Int × Int)} {rs : List Row} {y pc : Int} {es ks kd : List Int} (h : WInv bs rs es (y :: ks)) (h0 : 1 <= pc) (h4 : pc <= 4) (k1 : 1 <= kd.length) (k6 : kd.length <= 6) (kk : wX kd) : WInv bs (rs ++ [⟨.source, [], [y], pc, kd⟩]) es ks :=
 jV (n := 1) (r := ⟨.source, [], [y], pc, kd⟩) h (List.Perm.refl _) (Va (n := 0) (j := 0) (outs := []) (ks' := y :: ks) wK rfl) ⟨rfl, ⟨_, rfl⟩, h0, h4, k1, k6, kk⟩
theorem WInv.end_lt {bs : List (Int × Int)} {rs : List Row} {es ks : List Int} (h : WInv bs rs es ks) : ∀ y ∈ es, 0 <= y /\ y < bs.length := λ y hy => xO (h.tk.mem_iff.mp (mem_append_right _ hy))
theorem WInv.loop_lt {bs : List (Int × Int)} {rs : List Row} {es ks : List Int} (h : WInv bs rs es ks) : ∀ y ∈ ks, 0 <= y /\ y < bs.length := λ y hy => xO (h.fd.mem_iff.mp (mem_append_right _ hy))
abbrev pSt (l L R E B : Addr) (v5 v6 v7 v8 v9 v10 v11 v12 v13 v14 v15 : Option V) : St := [some (.ref l), some (.ref L), some (.ref R), some (.ref E), some (.ref B), v5, v6, v7, v8, v9, v10, v11, v12, v13, v14, v15]
theorem GS.rest {H0 H : Hp} {L R E B : Addr} {bs : List (Int × Int)} {rs : List Row} {es ks : List Int} (w : GS H0 H L R E B bs rs es ks) : GS H H L R E B bs rs es ks := { w with f := Fr.refl }
theorem GS.on {H0 H H' : Hp} {L R E B : Addr} {bs bs' : List (Int × Int)} {rs rs' : List Row} {es ks es' ks' : List Int} (w : GS H0 H L R E B bs rs es ks) (w' : GS H H' L R E B bs' rs' es' ks') : GS H0 H' L R E B bs' rs' es' ks' := { w' with f := w.f.trans w'.f }
theorem ZA {H : Hp} {p : Addr -> Prop} {v : V} {r : Row} (h : Rep H p v (xF r)) : ∃ t l1 l2 l3, v = .ref t /\ H t = some (.tup [.str (wdS r.wd), .ref l1, .ref l2, .ref l3]) /\ H l1 = some (.lst (iv r.ins)) /\ H l2 = some (.lst (iv r.outs)) /\ H l3 = some (.lst (iv (qF r))) /\ p l3 := by
 obtain ⟨t, us, rfl, _, ht, rr⟩ := Rep.tup' h;have g := rr.g;obtain ⟨x0, u1, rfl, e1⟩ := Zb rr.len;obtain ⟨x1, u2, rfl, e2⟩ := Zb e1;obtain ⟨x2, x3, rfl⟩ := two_of e2;have a0 := g 0 x0 _ rfl rfl;have a1 := g 1 x1 _ rfl rfl;have a2 := g 2 x2 _ rfl rfl;have a3 := g 3 x3 _ rfl rfl;obtain ⟨l1, rfl, _, h1⟩ := a1.ints';obtain ⟨l2, rfl, _, h2⟩ := a2.ints';obtain ⟨l3, rfl, p3, h3⟩ := a3.ints';cases a0;exact ⟨t, l1, l2, l3, rfl, ht, h1, h2, h3, p3⟩
def Qt (K : PySem.W.Frag) : Sp := λ vs H Q _ => ∃ (l : Addr) (ns : List Int), vs = [.ref l] /\ SqL K H l (iv ns) /\ ns.length <= 64 /\
 ∀ t bs rs H', Same H H' -> Rep H' (Off []) (.ref t) (.tup [.lst (bs.map wQ), .lst (rs.map xF)]) -> qw bs rs -> (∀ b ∈ bs, z4 b.1 b.2) -> (∀ r ∈ rs, r.ok) -> Q (.ref t) H'
theorem Qi (T : Txt K mg a) (F : Fun K "_law_parts_of" "_law_parts_of" qR f fd) : FnOk P w K mg base (CXr P w) 4 f fd ["_law_script"] (Qt K) := by
 refine F.okx Qd ?_ ?_
 ·walk_at "i"
 walk_at "j";obtain ⟨l, ns, rfl, hl, hn, k⟩ := h;walk_at "T";refine ⟨_, (zi (zI 1 Qd.nd (zv ze))  (zi (zI 2 Qd.nd (zv ze))  (zi (zI 3 Qd.nd (zv ze))  (zi (zI 4 Qd.nd (zv ze))  (qo (jh xl rfl (qT (zj zn (zv (za (zJ zG zF (za (pq 0) ze)) ze)) (pq 0))) (qI 5 Qd.nd)  (zh (zw (z6 ⟨rfl, rfl, rfl⟩ hr (za (pq 5) (za (pq 1) (za (pq 2) (za (pq 3) (za (pq 4) ze)))))))))  (zi (zI 6 Qd.nd (zD (zj zn (zj qE (z6 ⟨rfl, rfl, rfl⟩ hr (za (pq 0) (za zg ze))) zg) (zJ zG zF (za (pq 0) ze)))))  (qo (jh xl rfl (qT (pq 3)) (qI 7 Qd.nd)  (zh (zw (z7 PySem.F.plainAttrs_list PySem.F.slot_list_append PySem.F.type_list_append zL (pq 2) (za (qt (za zl (za (zv (za (pq 7) ze)) (za (zv ze) (za (zv (za (zD (zj zn (pq 6) (zj qE (pq 7) (pq 7)))) ze)) ze))))) ze)))))  (qo (jh xl rfl (qT (pq 4)) (qI 7 Qd.nd)  (zh (zw (z7 PySem.F.plainAttrs_list PySem.F.slot_list_append PySem.F.type_list_append zL (pq 2) (za (qt (za zl (za (zv ze) (za (zv (za (pq 7) ze)) (za (zj zn (zv (za (zj zn zg (zD (zj zn (zA (pq 6)) (pq 7)))) ze)) (z6 ⟨rfl, rfl, rfl⟩ hr (za (zj qE (pq 6) (zj zn (pq 7) zg)) ze))) ze))))) ze)))))  (zi (X6 (i := 8) Qd.nd rfl (Or.inr rfl) (zJ zG zF (za (pq 1) ze)))  (zi (X6 (i := 9) Qd.nd rfl (Or.inr rfl) (zj qu (zA (pq 6)) (pq 8)))  (zi (zI 10 Qd.nd (zv ze))  (qo (jh xl rfl (qT (pq 2)) (ve (n := 4) rfl (z8 (qI 11 Qd.nd) (z8 (qI 12 Qd.nd) (z8 (qI 13 Qd.nd) (z8 (qI 14 Qd.nd) xL)))))  (zh (zw (z7 PySem.F.plainAttrs_list PySem.F.slot_list_append PySem.F.type_list_append zL (pq 10) (za (qt (za (pq 11) (za (Qv (vars := ["_law_at"]) (caps := [8, 9]) (N := ["_law_at", "_law_many", "_law_moved"]) (ON := ["_law_script", "_law_belts", "_law_knots", "_law_ends", "_law_loops", "_law_cell", "_law_turn", "_law_at", "_law_many", "_law_moved", "_law_turned", "_law_word", "_law_ins", "_law_outs", "_law_numbers", "_law_cut"]) (osc := zk qR) rfl rfl (by first|decide +kernel|kernel_rfl) rfl rfl (qT (pq 12)) (λ s H fp pins => (qI 0 (show (["_law_at", "_law_many", "_law_moved"] : List Str).Nodup from by decide +kernel))) (λ s H fp pins => jE) (λ s H fp pins => (zj qu (zj zn (pq 0) (pq 2)) (pq 1)))) (za (Qv (vars := ["_law_at"]) (caps := [8, 9]) (N := ["_law_at", "_law_many", "_law_moved"]) (ON := ["_law_script", "_law_belts", "_law_knots", "_law_ends", "_law_loops", "_law_cell", "_law_turn", "_law_at", "_law_many", "_law_moved", "_law_turned", "_law_word", "_law_ins", "_law_outs", "_law_numbers", "_law_cut"]) (osc := zk qR) rfl rfl (by first|decide +kernel|kernel_rfl) rfl rfl (qT (pq 13)) (λ s H fp pins => (qI 0 (show (["_law_at", "_law_many", "_law_moved"] : List Str).Nodup from by decide +kernel))) (λ s H fp pins => jE) (λ s H fp pins => (zj qu (zj zn (pq 0) (pq 2)) (pq 1)))) (za (pq 14) ze))))) ze)))))  (zi (zI 15 Qd.nd (zj qu (zA (pq 6)) (zJ zG zF (za (pq 10) ze))))  (zh (zu (qt (za (zj zn (zK qb (pq 1) (zQ (zj qz (pq 8) (pq 9))) zV) (zK qb (pq 1) zV (zQ (zj qz (pq 8) (pq 9))))) (za (zj zn (zK qb (pq 10) (zQ (pq 15)) zV) (zK qb (pq 10) zV (zQ (pq 15)))) ze)))))))))))))))))), ?_⟩;walk_at "go";intro L hL;walk_at "go";intro R hR;walk_at "go";intro E hE;walk_at "go";intro B hB;have s1 := (((zf (o := .lst []) hL).trans (zf (o := .lst []) hR)).trans (zf (o := .lst []) hE)).trans (zf (o := .lst []) hB);have nw : ∀ m ∈ ms4 L R E B, H m = none := λ m hm => by
  simp only [mem_cons, not_mem_nil, or_false] at hm;rcases hm with rfl|rfl|rfl|rfl
  ·exact hL
  ·exact zr hR
  ·exact zr (zr hE)
  ·exact zr (zr (zr hB))
 have W0 : GS (upd (upd (upd (upd H L (.lst [])) R (.lst [])) E (.lst [])) B (.lst [])) (upd (upd (upd (upd H L (.lst [])) R (.lst [])) E (.lst [])) B (.lst [])) L R E B [] [] [] [] :=
  ⟨Fr.refl, ne_of_none upd_same hR, ne_of_none (upd_keep upd_same hR) hE, ne_of_none (upd_keep (upd_keep upd_same hR) hE) hB, ne_of_none upd_same hE, ne_of_none (upd_keep upd_same hE) hB, ne_of_none upd_same hB,
   ⟨[], upd_keep (upd_keep (upd_keep upd_same hR) hE) hB, .nil⟩, ⟨[], upd_keep (upd_keep upd_same hE) hB, .nil⟩, upd_keep upd_same hB, upd_same⟩
 generalize upd (upd (upd (upd H L (.lst [])) R (.lst [])) E (.lst [])) B (.lst []) = H1 at s1 W0 ⊢;clear hL hR hE hB;walk_at "go";refine cut (λ σ' H' => ∃ v5 bs rs es ks, σ' = pSt l L R E B v5 none none none none none none none none none none /\ GS H1 H' L R E B bs rs es ks /\ WInv bs rs es ks /\ 1 <= bs.length /\ bs.length <= 24 /\ rs.length + es.length + ks.length <= 24) ?_ ?_
 ·walk_at "for";walk_at "go";refine ⟨_, .inl ⟨_, xp s1 hl, rfl⟩, λ p0 hp0 => ?_⟩;rw [zE];have sp0 := zf (o := .lst [.int ns.length]) hp0;refine zZ (SqL.of upd_same) (xp (s1.trans sp0) hl) (zW (by rw [zE];simp;lia)) λ p hp => ?_;have W1 := (W0.same sp0).same (zf (o := .lst ([.int ns.length] ++ iv ns)) hp);have np := (W0.same sp0).off hp;have gp : upd (upd H1 p0 (.lst [.int ns.length])) p (.lst ([.int ns.length] ++ iv ns)) p = some (.lst (iv ((ns.length : Int) :: ns))) := upd_same;generalize upd (upd H1 p0 (.lst [.int ns.length])) p (.lst ([.int ns.length] ++ iv ns)) = H2 at W1 gp ⊢;refine ⟨p, rfl, .inl ⟨⟨_, SqL.of gp⟩, ?_⟩⟩;refine jK (K := K) (a := p) (xs := iv ((ns.length : Int) :: ns)) (λ i σ' H' => ∃ v5 bs rs es ks, σ' = pSt l L R E B v5 none none none none none none none none none none /\ GS H1 H' L R E B bs rs es ks /\ H' p = some (.lst (iv ((ns.length : Int) :: ns))) /\ WInv bs rs es ks /\ bs.length <= 24 /\ rs.length + es.length + ks.length <= 24 /\ (i = 0 -> rs.length + es.length + ks.length = 0 /\ bs.length = 0) /\ (1 <= i -> 1 <= bs.length))
   ⟨_, [], [], [], [], rfl, W1, gp, WInv.nil, by decide, by decide, λ _ => ⟨rfl, rfl⟩, λ z => absurd z (by decide)⟩ (λ i σ H' _ h => by obtain ⟨_, _, _, _, _, _, _, g, _⟩ := h;exact SqL.of g) ?_ ?_
  ·clear W1 gp W0;rintro i x σ' H3 hi ⟨v5, bs, rs, es, ks, rfl, W, gp, I0, b24, l24, i0, i1⟩;obtain ⟨c, _, rfl⟩ := QK hi;walk_at "go";refine uc (zbx T).mono ⟨c, L, R, E, B, bs, rs, es, ks, rfl, W.rest, I0, b24, l24, λ H4 bs2 rs2 es2 ks2 W2 I2 c24 m24 lb hz => ?_⟩;walk_at "go";refine ⟨_, bs2, rs2, es2, ks2, rfl, W.on W2, W2.f _ _ np gp, I2, c24, m24, (λ z => nomatch z), λ _ => ?_⟩;rcases Nat.eq_zero_or_pos i with z|z
   ·exact hz (i0 z).1 (i0 z).2
   ·exact Nat.le_trans (i1 z) lb
  ·rintro σ' H3 ⟨v5, bs, rs, es, ks, rfl, W, gp, I0, b24, l24, i0, i1⟩;exact ⟨v5, bs, rs, es, ks, rfl, W, I0, i1 (by rw [zE];simp), b24, l24⟩
 rintro σ' H2 ⟨v5, bs, rs, es, ks, rfl, W, I0, b1, b24, l24⟩;clear W0;have sH : ∀ {H'} {bs : List (Int × Int)} {rs : List Row} {es ks : List Int}, GS H1 H' L R E B bs rs es ks -> Same H H' := λ W => (s1.fr.trans W.f).same nw;walk_at "go";refine uc (je T).mono ⟨l, ns, 0, rfl, xp (sH W) hl, ?_⟩;walk_at "go";refine ⟨mul_okR (by decide) (by decide), m_len, _, .inl ⟨_, xp (sH W) hl, rfl⟩, ?_⟩;have t0 := Int.emod_nonneg (xm ns 0 * 16807 + ((iv ns).length : Int)) (show (2147483647 : Int) ≠ 0 by decide);have t1 := Int.emod_lt_of_pos (xm ns 0 * 16807 + ((iv ns).length : Int)) (show (0 : Int) < 2147483647 by decide);generalize (xm ns 0 * 16807 + ((iv ns).length : Int)) % 2147483647 = tn at t0 t1 ⊢;walk_at "go";refine cut (λ σ' H' => ∃ v7 rs2, σ' = pSt l L R E B v5 (some (.int tn)) v7 none none none none none none none none /\ GS H1 H' L R E B bs rs2 es ks /\ WInv bs rs2 [] ks /\ rs2.length + ks.length <= 24) ?_ ?_
 ·walk_at "for";walk_at "go";refine ⟨E, rfl, .inl ⟨⟨_, SqL.of W.hE⟩, ?_⟩⟩;refine jK (K := K) (a := E) (xs := iv es) (λ i σ' H' => ∃ v7 rs2, σ' = pSt l L R E B v5 (some (.int tn)) v7 none none none none none none none none /\ GS H1 H' L R E B bs rs2 es ks /\ WInv bs rs2 (es.drop i) ks /\ rs2.length + (es.drop i).length + ks.length <= 24)
   ⟨_, rs, rfl, W, I0, l24⟩ (λ i σ H' _ h => by obtain ⟨_, _, _, W, _⟩ := h;exact SqL.of W.hE) ?_ ?_
  ·rintro i x σ' H3 hi ⟨v7, rs2, rfl, W2, I2, l2⟩;obtain ⟨y, hy, rfl⟩ := QK hi;rw [Vq hy] at I2 l2;have yb := I2.end_lt y (mem_cons_self ..);obtain ⟨rv, hR, _⟩ := W2.hR;walk_at "go";refine ⟨.inl ⟨rfl, _, SqL.of hR⟩, λ p1 h1 p2 h2 => ⟨mul_okR (by lia) (by lia), λ p3 h3 t ht => ?_⟩⟩;have u0 := Int.emod_nonneg (tn + y * y) (show (5 : Int) ≠ 0 by decide);have u1 := Int.emod_lt_of_pos (tn + y * y) (show (0 : Int) < 5 by decide);generalize (tn + y * y) % 5 = pc at u0 u1 h3 ht ⊢;obtain ⟨s4, q4⟩ := Xm ⟨.drain, [y], [], pc, []⟩ h1 h2 h3 ht;have W3 := W2.same s4;obtain ⟨rv3, hR3, lr3, W4⟩ := W3.addR (q4 (Off (ms4 L R E B)) λ b hb => W2.off hb);rw [length_cons] at l2;refine ⟨R, rv3, _, rfl, rfl, hR3, zy (by lia), _, _, rfl, W4, I2.drain u0 (by lia), ?_⟩;rw [length_append, length_singleton]
   lia
  ·rintro σ' H3 ⟨v7, rs2, rfl, W2, I2, l2⟩;rw [zE, drop_length] at I2 l2;exact ⟨v7, rs2, rfl, W2, I2, by simpa using l2⟩
 rintro σ' H3 ⟨v7, rs2, rfl, W2, I2, l2⟩;clear W I0 l24;walk_at "go";refine cut (λ σ' H' => ∃ v7 rs2, σ' = pSt l L R E B v5 (some (.int tn)) v7 none none none none none none none none /\ GS H1 H' L R E B bs rs2 es ks /\ WInv bs rs2 [] [] /\ rs2.length <= 24) ?_ ?_
 ·walk_at "for";walk_at "go";refine ⟨B, rfl, .inl ⟨⟨_, SqL.of W2.hB⟩, ?_⟩⟩;refine jK (K := K) (a := B) (xs := iv ks) (λ i σ' H' => ∃ v7 rs2, σ' = pSt l L R E B v5 (some (.int tn)) v7 none none none none none none none none /\ GS H1 H' L R E B bs rs2 es ks /\ WInv bs rs2 [] (ks.drop i) /\ rs2.length + (ks.drop i).length <= 24)
   ⟨_, rs2, rfl, W2, I2, l2⟩ (λ i σ H' _ h => by obtain ⟨_, _, _, W, _⟩ := h;exact SqL.of W.hB) ?_ ?_
  ·clear W2 I2 l2;rintro i x σ' H3 hi ⟨v7, rs2, rfl, W2, I2, l2⟩;obtain ⟨y, hy, rfl⟩ := QK hi;rw [Vq hy] at I2 l2;have yb := I2.loop_lt y (mem_cons_self ..);obtain ⟨rv, hR, _⟩ := W2.hR;rw [length_cons] at l2;walk_at "go";refine ⟨.inl ⟨rfl, _, SqL.of hR⟩, λ p1 h1 p2 h2 => (λ p3 h3 => ?_)⟩;have u0 := Int.emod_nonneg (tn / 5 + y) (show (4 : Int) ≠ 0 by decide);have u1 := Int.emod_lt_of_pos (tn / 5 + y) (show (0 : Int) < 4 by decide);generalize (tn / 5 + y) % 4 = pc at u0 u1 ⊢;have s4 := ((zf (o := .lst []) h1).trans (zf (o := .lst [.int y]) h2)).trans (zf (o := .lst [.int (1 + pc)]) h3);have g1 := upd_keep (o := .lst [.int (1 + pc)]) (upd_keep (o := .lst [.int y]) (upd_same (H := H3) (a := p1) (o := .lst [])) h2) h3;have g2 := upd_keep (o := .lst [.int (1 + pc)]) (upd_same (H := upd H3 p1 (.lst [])) (a := p2) (o := .lst [.int y])) h3;have g3 : upd (upd (upd H3 p1 (.lst [])) p2 (.lst [.int y])) p3 (.lst [.int (1 + pc)]) p3 = some (.lst [.int (1 + pc)]) := upd_same;have m2 := zr h2;generalize upd (upd (upd H3 p1 (.lst [])) p2 (.lst [.int y])) p3 (.lst [.int (1 + pc)]) = H5 at s4 g1 g2 g3 ⊢;refine uc (wT T).mono ⟨mul_okR (by lia) (by lia), _, rfl, λ KO kd H6 s6 nK hK k1 k6 kk => ?_⟩;refine zZ (SqL.of (s6 _ _ g3)) (SqL.of hK) (zW (by rw [zE];simp;lia)) λ q hq => ?_;intro t ht;have s7 := (zf (o := .lst ([.int (1 + pc)] ++ iv kd)) hq).trans (zf (o := .tup [.str "source", .ref p1, .ref p2, .ref q]) ht);have s37 := (s4.trans s6).trans s7;have W6 := W2.same s37;have W5 := W2.same (s4.trans s6);have qq := jw (p := Off (ms4 L R E B)) (r := ⟨.source, [], [y], 1 + pc, kd⟩) (W5.off (zr ht)) (W2.off h1) (W2.off m2) (W5.off hq) (upd_same (H := upd H6 q (.lst ([.int (1 + pc)] ++ iv kd)))) (s7 _ _ (s6 _ _ g1)) (s7 _ _ (s6 _ _ g2)) (upd_keep upd_same ht);obtain ⟨rv6, hR6, lr6, W7⟩ := W6.addR qq;refine ⟨R, rv6, _, rfl, rfl, hR6, zy (by lia), _, _, rfl, W7, I2.source (by lia) (by lia) k1 k6 kk, ?_⟩;rw [length_append, length_singleton]
   lia
  ·rintro σ' H3 ⟨v7, rs2, rfl, W2, I2, l2⟩;rw [zE, drop_length] at I2 l2;exact ⟨v7, rs2, rfl, W2, I2, by simpa using l2⟩
 clear W2 I2 l2;rintro σ' H4 ⟨v7, rs2, rfl, W2, I2, l2⟩;obtain ⟨bv, hL, rL⟩ := W2.hL;have lL : bv.length = bs.length := by rw [rL.len, length_map]
 walk_at "go";refine ⟨_, .inl ⟨_, SqL.of hL, rfl⟩, ?_⟩;rw [lL];walk_at "go";refine ⟨by lia, ?_⟩;have u0 := Int.emod_nonneg (tn / 7) (show (bs.length : Int) ≠ 0 by lia);have u1 := Int.emod_lt_of_pos (tn / 7) (show (0 : Int) < (bs.length : Int) by lia);obtain ⟨mv, emv⟩ : ∃ m : Nat, tn / 7 % (bs.length : Int) = m := ⟨(tn / 7 % (bs.length : Int)).toNat, by lia⟩;rw [emv] at u1 ⊢;clear u0 emv;walk_at "go";intro Tr hT;have sT := zf (o := .lst []) hT;have hL4 := sT _ _ hL;obtain ⟨rv, hR, rR⟩ := W2.hR;have lR : rv.length = rs2.length := by rw [rR.len, length_map]
 have sH4 := (sH W2).trans sT;have nT : H Tr = none := z9 (sH W2) hT;have nRT : R ∉ [Tr] := λ z => ne_of_none hR hT (List.mem_singleton.mp z);have nLT : L ∉ [Tr] := λ z => ne_of_none hL hT (List.mem_singleton.mp z);have gT : upd H4 Tr (.lst []) Tr = some (.lst []) := upd_same;have hR4 := sT _ _ hR;have rR4 := (rR.more (ns := [Tr]) (λ b hb => .inr (by rw [List.mem_singleton.mp hb];exact hT))).same sT;have rL4 := (rL.more (ns := [Tr]) (λ b hb => .inr (by rw [List.mem_singleton.mp hb];exact hT))).same sT;generalize upd H4 Tr (.lst []) = H5 at sT hL4 sH4 gT hR4 rR4 rL4 ⊢;clear W2 rL rR hL hR hT;walk_at "go";refine cut (λ σ' H' => ∃ v11 v12 v13 v14 tv, σ' = pSt l L R E B v5 (some (.int tn)) v7 (some (.int bs.length)) (some (.int mv)) (some (.ref Tr)) v11 v12 v13 v14 none /\ Fr [Tr] H5 H' /\ H' Tr = some (.lst tv) /\ Reps H' (Off [Tr]) tv ((rs2.map (shR bs.length mv)).map xF)) ?_ ?_
 ·walk_at "for";walk_at "go";refine ⟨R, rfl, .inl ⟨⟨_, SqL.of hR4⟩, ?_⟩⟩;refine jK (K := K) (a := R) (xs := rv) (λ i σ' H' => ∃ v11 v12 v13 v14 tv, σ' = pSt l L R E B v5 (some (.int tn)) v7 (some (.int bs.length)) (some (.int mv)) (some (.ref Tr)) v11 v12 v13 v14 none /\ Fr [Tr] H5 H' /\ H' Tr = some (.lst tv) /\ Reps H' (Off [Tr]) tv (((rs2.take i).map (shR bs.length mv)).map xF))
   ⟨_, _, _, _, [], rfl, Fr.refl, gT, by rw [take_zero];exact .nil⟩ ?_ ?_ ?_
  ·rintro i σ H' _ ⟨_, _, _, _, _, _, f, g, _⟩;exact SqL.of (f _ _ nRT hR4)
  ·rintro i x σ' H6 hi ⟨v11, v12, v13, v14, tv, rfl, f6, g6, r6⟩;obtain ⟨dx, hdx, rx⟩ := rR4.at hi;rw [getElem?_map, Option.map_eq_some_iff] at hdx;obtain ⟨r, hr', rfl⟩ := hdx;obtain ⟨t, l1, l2, l3, rfl, ht, h1, h2, h3, p3⟩ := ZA (rx.fr f6);have rk := I2.ro r (mem_of_getElem? hr');have hil := (List.getElem?_eq_some_iff.mp hr').1;have l4 := We rk;walk_at "go";refine ⟨t, _, rfl, SqT.of ht, rfl, _, _, rfl, _, _, rfl, _, _, rfl, _, _, rfl, rfl, .inl ⟨rfl, _, SqL.of g6⟩, ?_⟩;walk_at "lc";walk_at "go";refine ⟨l1, rfl, .inl ⟨⟨_, SqL.of h1⟩, λ _ _ _ _ A1 hA1 => ?_⟩⟩;refine jK (K := K) (a := l1) (xs := iv r.ins) (λ i σ H' => ∃ v, σ = [v, some (.int bs.length), some (.int mv)] /\ Same H6 H' /\ H' A1 = some (.lst (iv ((r.ins.take i).map (shF bs.length mv))))) ⟨_, rfl, zf hA1, by rw [upd_same];rfl⟩ (λ i σ H' _ h => by obtain ⟨_, _, s, _⟩ := h;exact SqL.of (s _ _ h1)) ?_ ?_
   ·rintro i x σ H7 hi ⟨v, rfl, s7, e7⟩;obtain ⟨y, hy, rfl⟩ := QK hi;have hyl := (List.getElem?_eq_some_iff.mp hy).1;walk_at "go";refine ⟨by lia, _, e7, zy (by rw [zE, length_map, length_take];lia), _, rfl, λ b o hb => ?_, ?_⟩
    ·rw [upd_ne (ne_of_none hb hA1)];exact s7 b o hb
    ·rw [upd_same, jp, take_add_one, hy];simp [shF]
   rintro σ H7 ⟨v, rfl, s7, e7⟩;rw [zE, take_length] at e7;walk_at "lc";walk_at "go";refine ⟨l2, rfl, .inl ⟨⟨_, SqL.of (s7 _ _ h2)⟩, λ _ _ _ _ A2 hA2 => ?_⟩⟩;refine jK (K := K) (a := l2) (xs := iv r.outs) (λ i σ H' => ∃ v, σ = [v, some (.int bs.length), some (.int mv)] /\ Same H7 H' /\ H' A2 = some (.lst (iv ((r.outs.take i).map (shF bs.length mv))))) ⟨_, rfl, zf hA2, by rw [upd_same];rfl⟩ (λ i σ H' _ h => by obtain ⟨_, _, s, _⟩ := h;exact SqL.of (s _ _ (s7 _ _ h2))) ?_ ?_
   ·rintro i x σ H8 hi ⟨v, rfl, s8, e8⟩;obtain ⟨y, hy, rfl⟩ := QK hi;have hyl := (List.getElem?_eq_some_iff.mp hy).1;walk_at "go";refine ⟨by lia, _, e8, zy (by rw [zE, length_map, length_take];lia), _, rfl, λ b o hb => ?_, ?_⟩
    ·rw [upd_ne (ne_of_none hb hA2)];exact s8 b o hb
    ·rw [upd_same, jp, take_add_one, hy];simp [shF]
   rintro σ H8 ⟨v, rfl, s8, e8⟩;rw [zE, take_length] at e8;intro t2 ht2;have s9 := zf (o := .tup [.str (wdS r.wd), .ref A1, .ref A2, .ref l3]) ht2;have s69 := (s7.trans s8).trans s9;have off6 : ∀ {b : Addr}, H6 b = none -> b ∉ [Tr] := λ {b} hb z => by rw [List.mem_singleton.mp z, g6] at hb;cases hb
   have q := jw (p := Off [Tr]) (r := shR bs.length mv r) (off6 (z9 (s7.trans s8) ht2)) (off6 hA1) (off6 (z9 s7 hA2)) p3 (upd_same (H := H8)) (s9 _ _ (s8 _ _ e7)) (s9 _ _ e8) (s69 _ _ h3);have lv : tv.length <= 24 := by rw [r6.len, length_map, length_map, length_take];lia
   refine ⟨Tr, tv, _, rfl, rfl, s69 _ _ g6, zy (by lia), ?_⟩;have fA : Fr [Tr] (upd H8 t2 (.tup [.str (wdS r.wd), .ref A1, .ref A2, .ref l3])) (upd (upd H8 t2 (.tup [.str (wdS r.wd), .ref A1, .ref A2, .ref l3])) Tr (.lst (tv ++ [.ref t2]))) := qV (by simp);refine ⟨_, _, _, _, _, rfl, (f6.trans s69.fr).trans fA, upd_same, ?_⟩;rw [take_add_one, hr', map_append, map_append];exact ((r6.same s69).fr fA).append (.one (q.fr fA))
  ·rintro σ' H6 ⟨v11, v12, v13, v14, tv, rfl, f6, g6, r6⟩;rw [lR, take_length] at r6;exact ⟨_, _, _, _, tv, rfl, f6, g6, r6⟩
 rintro σ' H6 ⟨v11, v12, v13, v14, tv, rfl, f6, g6, r6⟩;have lT : tv.length = rs2.length := by rw [r6.len, length_map, length_map]
 have r1 : 1 <= rs2.length := by
  have := (Qq (k := 0) (c := 0) I2 b1 b24 l2 (by lia : mv < bs.length)).1.1.2.1;simpa using this
 walk_at "go"
 first
  | refine ⟨_, .inl ⟨_, SqL.of g6, rfl⟩, ?_⟩
  | refine ⟨m_len, _, .inl ⟨_, SqL.of g6, rfl⟩, ?_⟩
 rw [lT];refine ⟨by lia, ?_⟩;have w0 := Int.emod_nonneg (tn / 11) (show (rs2.length : Int) ≠ 0 by lia);have w1 := Int.emod_lt_of_pos (tn / 11) (show (0 : Int) < (rs2.length : Int) by lia);obtain ⟨ct, ect⟩ : ∃ m : Nat, tn / 11 % (rs2.length : Int) = m := ⟨(tn / 11 % (rs2.length : Int)).toNat, by lia⟩;rw [ect] at w1 ⊢;clear w0 ect;have hL6 := f6 _ _ nLT hL4;have rL6 := rL4.fr f6;have sH6 : Same H H6 := (sH4.fr.trans f6).same (λ m hm => by rw [List.mem_singleton.mp hm];exact nT);walk_at "go";rw [show (bs.length : Int) - (mv : Int) = ((bs.length - mv : Nat) : Int) by lia];refine qc (SqL.of hL6) λ q1 hq1 => ?_;rw [qk bv (bs.length - mv) (by lia)];have a1 := zf (o := .lst (bv.drop (bs.length - mv))) hq1;refine qc (SqL.of (a1 _ _ hL6)) λ q2 hq2 => ?_;rw [qW bv (bs.length - mv) (by lia)];have a2 := zf (o := .lst (bv.take (bs.length - mv))) hq2;refine zZ (SqL.of (a2 _ _ upd_same)) (SqL.of upd_same) (zW (by rw [length_drop, length_take];lia)) λ q3 hq3 => ?_;have a3 := zf (o := .lst (bv.drop (bs.length - mv) ++ bv.take (bs.length - mv))) hq3;have sA := (a1.trans a2).trans a3;have g3 : upd (upd (upd H6 q1 (.lst (bv.drop (bs.length - mv)))) q2 (.lst (bv.take (bs.length - mv)))) q3 (.lst (bv.drop (bs.length - mv) ++ bv.take (bs.length - mv))) q3 = some (.lst (bv.drop (bs.length - mv) ++ bv.take (bs.length - mv))) := upd_same;generalize upd (upd (upd H6 q1 (.lst (bv.drop (bs.length - mv)))) q2 (.lst (bv.take (bs.length - mv)))) q3 _ = H7 at sA g3 ⊢;clear a1 a2 a3 hq1 hq2 hq3;refine qc (SqL.of (sA _ _ g6)) λ q1 hq1 => ?_;rw [qk tv ct (by lia)];have a1 := zf (o := .lst (tv.drop ct)) hq1;refine qc (SqL.of (a1 _ _ (sA _ _ g6))) λ q2 hq2 => ?_;rw [qW tv ct (by lia)];have a2 := zf (o := .lst (tv.take ct)) hq2;refine zZ (SqL.of (a2 _ _ upd_same)) (SqL.of upd_same) (zW (by rw [length_drop, length_take];lia)) λ q4 hq4 => ?_;have a3 := zf (o := .lst (tv.drop ct ++ tv.take ct)) hq4;have sB := (a1.trans a2).trans a3;have g4 : upd (upd (upd H7 q1 (.lst (tv.drop ct))) q2 (.lst (tv.take ct))) q4 (.lst (tv.drop ct ++ tv.take ct)) q4 = some (.lst (tv.drop ct ++ tv.take ct)) := upd_same;generalize upd (upd (upd H7 q1 (.lst (tv.drop ct))) q2 (.lst (tv.take ct))) q4 _ = H8 at sB g4 ⊢;clear a1 a2 a3 hq1 hq2 hq4;intro t ht;have sC := zf (o := .tup [.ref q3, .ref q4]) ht;have s68 := (sA.trans sB).trans sC;obtain ⟨k1, k2, k3⟩ := Qq (k := bs.length - mv) (c := ct) I2 b1 b24 l2 (by lia : mv < bs.length);refine k t _ _ _ (sH6.trans s68) ?_ k1 k2 k3;have b1 := ((rL6.drop (bs.length - mv)).append (rL6.take (bs.length - mv))).same s68;have b2 := ((r6.drop ct).append (r6.take ct)).same s68;rw [<- map_drop, <- map_take, <- map_append] at b1 b2;exact Reps.mkT (.cons (b1.all.mk' (p := Off []) (λ z => nomatch z) (sC _ _ (sB _ _ g3))) (.cons (b2.all.mk' (p := Off []) (λ z => nomatch z) (sC _ _ g4)) .nil)) (λ z => nomatch z) upd_same
theorem JC (T : Txt K mg a) : Cal P w K mg base "_law_parts_of" 4 ["_law_script"] [] (Qt K) := T.h_L_parts_of.cal (Qi T)
def zdR (a : Ad) (bs : List (Int × Int)) (rs : List Row) : D := .ob a.Work [("belts", .lst (bs.map (Vx a))), ("knots", .lst (rs.map (Vw a)))]
theorem zdv {l1 l2 : Addr} : wf l1 l2 = ([(("belts" : Str), V.ref l1), (("knots" : Str), V.ref l2)] : List (Str × V)) := by
 unfold wf;simp only [qm];rw [if_neg (by decide +kernel)]
theorem at1 {x y : V} : atI [x, y] 1 = some y := rfl
theorem KT (T : Txt K mg a) (wd : Wd) : kitOne K (.ref (Z0 a wd)) (.ref a.Knot) = some true := by
 cases wd
 ·exact T.k1_Source_Knot
 ·exact T.k1_Drain_Knot
 ·exact T.k1_Parter_Knot
 ·exact T.k1_FirstParter_Knot
 ·exact T.k1_Sieve_Knot
 ·exact T.k1_Joiner_Knot
abbrev zB (i : Int) : Str := toString i
theorem qD {n : Int} (h0 : 0 <= n) (h1 : n < zo) : n.natAbs.log2 < 1920 := by
 rcases Nat.eq_zero_or_pos n.natAbs with z|z
 ·rw [z];decide
 ·refine (Nat.log2_lt (by lia)).mpr (Nat.lt_of_lt_of_le (show n.natAbs < 1000000000000000000000000000000 by unfold zo at h1;lia) (by decide +kernel))
theorem j4 {n : Int} (h0 : 0 <= n) (h1 : n < zo) : (zB n).length <= 1921 := PyProof.Rows.int_text_len_1921 (qD h0 h1)
theorem jA {xs : List Str} {m : Nat} (h : ∀ x ∈ xs, x.length <= m) : (xs.map (·.length)).sum <= xs.length * m := by
 induction xs with
 | nil => simp
 | cons x xs ih =>
  have h1 := h x (mem_cons_self ..);have h2 := ih λ y hy => h y (mem_cons_of_mem _ hy);simp only [map_cons, List.sum_cons, length_cons, Nat.succ_mul]
  lia
theorem jg {H : Hp} {x : Str} : tyV K "str" (.str x) H := by trivial
def qP (nm : Str) (ns : List Int) : Str := Str.join " " (nm :: ns.map zB)
def zO (r : Row) : List Int := if r.wd = .joiner then r.outs ++ r.ins else r.ins ++ r.outs ++ qF r
def vN (r : Row) : Str := qP (wdS r.wd) (zO r)
theorem Xa {r : Row} (h : r.ok) : (zO r).length <= 20 := by
 have h4 := We h;obtain ⟨wd, ins, outs, pc, ks⟩ := r;simp only at h4;cases wd
 ·obtain ⟨_, _, _, _, _, h6, _⟩ := h;simp only at h6;simp only [zO, qF, reduceCtorEq, if_false, length_append, length_cons]
  lia
 ·simp only [zO, qF, reduceCtorEq, if_false, length_append, length_cons, length_nil]
  lia
 ·simp only [zO, qF, reduceCtorEq, if_false, length_append, length_cons, length_nil]
  lia
 ·simp only [zO, qF, reduceCtorEq, if_false, length_append, length_cons, length_nil]
  lia
 ·obtain ⟨_, _, kk, ek, _⟩ := h;simp only at ek;subst ek;simp only [zO, qF, reduceCtorEq, if_false, length_append, length_cons, length_nil]
  lia
 ·simp only [zO, if_true, length_append]
  lia
def qX (b : Int × Int) : Str := qP "belt" [b.1, b.2]
def zt (bs : List (Int × Int)) (rs : List Row) : List Str := bs.map qX ++ rs.map vN
theorem ZQ {nm : Str} {ns : List Int} (h1 : nm.length <= 100) (h2 : ns.length <= 20) (hb : ∀ n ∈ ns, 0 <= n /\ n < zo) : (qP nm ns).length <= 50000 := by
 have h := StrLaws.join_length_le " " (nm :: ns.map zB);have hb : ∀ x ∈ nm :: ns.map zB, x.length <= 1921 := λ x hx => by
  rcases List.mem_cons.mp hx with rfl|hx
  ·lia
  ·obtain ⟨n, hn, rfl⟩ := List.mem_map.mp hx;exact j4 (hb n hn).1 (hb n hn).2
 have sl := jA hb;have : (Str.ofString " ").length = 1 := by decide +kernel
 rw [this] at h;rw [length_cons, length_map] at sl h;unfold qP
 lia
structure Told2 (bs : List (Int × Int)) (rs : List Row) : Prop where
 b24 : bs.length <= 24
 r24 : rs.length <= 24
 bo : ∀ b ∈ bs, z4 b.1 b.2
 ro : ∀ r ∈ rs, r.ok
 nb : ∀ r ∈ rs, ∀ n ∈ zO r, 0 <= n /\ n < zo
theorem QZ {bs : List (Int × Int)} {rs : List Row} (h : qw bs rs) (bo : ∀ b ∈ bs, z4 b.1 b.2) (ro : ∀ r ∈ rs, r.ok) : Told2 bs rs := by
 have b24 := h.1.1.2;have kl : (1000 : Int) < zo := by decide +kernel
 refine ⟨h.1.1.2, h.1.2.2, bo, ro, λ r hr n hn => ?_⟩;have h1 : ∀ n ∈ r.outs, 0 <= n /\ n < zo := λ n hn => by
  have := xO (h.2.1.mem_iff.mp (List.mem_flatMap.mpr ⟨r, hr, hn⟩));exact ⟨this.1, Int.lt_trans (Int.lt_of_lt_of_le this.2 (by lia : (bs.length : Int) <= 1000)) kl⟩
 have h2 : ∀ n ∈ r.ins, 0 <= n /\ n < zo := λ n hn => by
  have := xO (h.2.2.mem_iff.mp (List.mem_flatMap.mpr ⟨r, hr, hn⟩));exact ⟨this.1, Int.lt_trans (Int.lt_of_lt_of_le this.2 (by lia : (bs.length : Int) <= 1000)) kl⟩
 have ok := ro r hr;have h3 : ∀ n ∈ qF r, 0 <= n /\ n < zo := λ n hn => by
  obtain ⟨wd, ins, outs, pc, ks⟩ := r;cases wd
  ·obtain ⟨_, _, p1, p4, _, _, kk⟩ := ok;simp only at p1 p4;rcases List.mem_cons.mp hn with e|hn
   ·rw [show n = pc from e];exact ⟨by lia, Int.lt_of_le_of_lt (show pc <= 1000 by lia) kl⟩
   ·exact kk n hn
  ·obtain ⟨_, _, p1, p4⟩ := ok;simp only at p1 p4;rcases List.mem_cons.mp hn with e|hn
   ·rw [show n = pc from e];exact ⟨p1, Int.lt_of_le_of_lt (show pc <= 1000 by lia) kl⟩
   ·cases hn
  ·cases hn
  ·cases hn
  ·obtain ⟨_, _, kk, ek, q1, q2⟩ := ok;simp only at ek;subst ek;rcases List.mem_cons.mp hn with rfl|hn
   ·exact ⟨q1, q2⟩
   ·cases hn
  ·cases hn
 unfold zO at hn
 split at hn
 ·rcases List.mem_append.mp hn with hn|hn
  ·exact h1 n hn
  ·exact h2 n hn
 ·rcases List.mem_append.mp hn with hn|hn
  ·rcases List.mem_append.mp hn with hn|hn
   ·exact h2 n hn
   ·exact h1 n hn
  ·exact h3 n hn
theorem j6 {b : Int × Int} (h : z4 b.1 b.2) : ∀ n ∈ [b.1, b.2], 0 <= n /\ n < zo := λ n hn => by
 have kl : (1000 : Int) < zo := by decide +kernel
 obtain ⟨h1, h2, h3, h4⟩ := h;simp only [mem_cons, not_mem_nil, or_false] at hn;rcases hn with rfl|rfl
 ·exact ⟨by lia, Int.lt_of_le_of_lt (show b.1 <= 1000 by lia) kl⟩
 ·exact ⟨by lia, Int.lt_of_le_of_lt (show b.2 <= 1000 by lia) kl⟩
theorem WM (wd : Wd) : (wdS wd).length <= 100 := by cases wd <;> decide +kernel
theorem VG {bs : List (Int × Int)} {rs : List Row} (h : Told2 bs rs) : (zt bs rs).length <= 48 /\ ∀ x ∈ zt bs rs, x.length <= 50000 := by
 have b24 := h.b24;have r24 := h.r24;refine ⟨by unfold zt;rw [length_append, length_map, length_map];lia, λ x hx => ?_⟩;rcases List.mem_append.mp hx with hx|hx
 ·obtain ⟨b, hb, rfl⟩ := List.mem_map.mp hx;exact ZQ (by decide +kernel) (by show 2 <= 20;decide) (j6 (h.bo b hb))
 ·obtain ⟨r, hr, rfl⟩ := List.mem_map.mp hx;exact ZQ (WM _) (Xa (h.ro r hr)) (h.nb r hr)
theorem VF {bs : List (Int × Int)} {rs : List Row} (h : Told2 bs rs) : ((zt bs rs).map (·.length)).sum + (zt bs rs).length * (Str.ofString "\n").length <= 16777216 := by
 obtain ⟨h1, h2⟩ := VG h;have sl := jA h2;have : (Str.ofString "\n").length = 1 := by decide +kernel
 rw [this]
 lia
theorem zbF (b : Int × Int) : Str.ofString "belt " ++ zB b.1 ++ Str.ofString " " ++ zB b.2 = qX b := by
 have e : (Str.ofString "belt ") = Str.ofString "belt" ++ Str.ofString " " := by decide +kernel
 rw [e];show _ = Str.ofString "belt" ++ Str.ofString " " ++ (zB b.1 ++ Str.ofString " " ++ zB b.2)
 simp only [wu]
theorem zbL (r : Row) : wdS r.wd ++ Str.join "" ((zO r).map λ n => " " ++ zB n) = vN r := by
 unfold vN qP;rw [ZS, map_map]
 rfl
theorem big {n : Nat} (h : n <= 100000) : n <= sizeLine := Nat.le_trans h (by decide)
theorem VY {r : Row} (h : r.ok) : (qF r).length <= 7 := by
 obtain ⟨wd, ins, outs, pc, ks⟩ := r;cases wd
 ·obtain ⟨_, _, _, _, _, h6, _⟩ := h;simp only at h6;show ks.length + 1 <= 7
  lia
 ·show 1 <= 7;decide
 ·show 0 <= 7;decide
 ·show 0 <= 7;decide
 ·obtain ⟨_, _, kk, ek, _⟩ := h;simp only at ek;subst ek;show 1 <= 7;decide
 ·show 0 <= 7;decide
def zas : Sp := λ vs H Q _ => ∃ (v : V) (bs : List (Int × Int)) (rs : List Row) (p : Addr -> Prop), vs = [v] /\ Rep H p v (.tup [.lst (bs.map wQ), .lst (rs.map xF)]) /\ Told2 bs rs /\ ∀ L H', Same H H' -> H' L = some (.lst ((zt bs rs).map V.str)) -> Q (.ref L) H'
theorem xH (T : Txt K mg a) : Cal P w K mg base "_law_rows_of" 1 ["_law_made"] [] zas := T.h_L_rows_of.cal λ F => by
 refine F.okx Q9 ?_ ?_
 ·walk_at "i"
 walk_at "j";obtain ⟨v, bs, rs, p, rfl, hv, tl, k⟩ := h;obtain ⟨t0, us0, rfl, _, ht0, rr0⟩ := hv.tup';obtain ⟨v1, v2, rfl⟩ := two_of rr0.len;obtain ⟨L1, u1, rfl, _, hL1, ru1⟩ := (rr0.g 0 v1 _ rfl rfl).lst';obtain ⟨LR, u2, rfl, _, hL2, ru2⟩ := (rr0.g 1 v2 _ rfl rfl).lst';have b1 : u1.length = bs.length := by rw [ru1.len, length_map]
 have b2 : u2.length = rs.length := by rw [ru2.len, length_map]
 have b24 := tl.b24;have r24 := tl.r24;walk_at "T";refine ⟨_, (zi (zct (i := 1) Q9.nd rfl (Or.inl rfl) (vars := ["_law_room", "_law_pace"]) (caps := []) (N := ["_law_room", "_law_pace"]) (ON := ["_law_made", "_law_rows", "_law_word", "_law_ins", "_law_outs", "_law_numbers", "_law_due"]) (osc := zk jC) rfl rfl (by first|decide +kernel|kernel_rfl) rfl rfl (qT (zX (pq 0) zg)) (λ s H fp pins => (ve (n := 2) rfl (z8 (qI 0 (show (["_law_room", "_law_pace"] : List Str).Nodup from by decide +kernel)) (z8 (qI 1 (show (["_law_room", "_law_pace"] : List Str).Nodup from by decide +kernel)) xL)))) (λ s H fp pins => jE) (λ s H fp pins => (zj zn (zj zn (zj zn zl (jG xJ xK (za (pq 0) ze))) zl) (jG xJ xK (za (pq 1) ze)))))  (qo (jh xl rfl (qT (zX (pq 0) zg)) (ve (n := 4) rfl (z8 (qI 2 Q9.nd) (z8 (qI 3 Q9.nd) (z8 (qI 4 Q9.nd) (z8 (qI 5 Q9.nd) xL)))))  (zi (zI 6 Q9.nd (zj zn (zj zn (pq 3) (pq 4)) (pq 5)))  (qo (zC (zm (zR hr.units1) (pq 2) zl (zq _))  (zh (zI 6 Q9.nd (zj zn (pq 4) (pq 3))))  zp)  (zh (zw (z7 PySem.F.plainAttrs_list PySem.F.slot_list_append PySem.F.type_list_append zL (pq 1) (za (zj zn (pq 2) (z7 PySem.F.plainAttrs_str PySem.F.slot_str_join PySem.F.type_str_join jo zl (za (Qv (vars := ["_law_number"]) (caps := []) (N := ["_law_number"]) (ON := ["_law_made", "_law_rows", "_law_word", "_law_ins", "_law_outs", "_law_numbers", "_law_due"]) (osc := zk jC) rfl rfl (by first|decide +kernel|kernel_rfl) rfl rfl (qT (pq 6)) (λ s H fp pins => (qI 0 (show (["_law_number"] : List Str).Nodup from by decide +kernel))) (λ s H fp pins => jE) (λ s H fp pins => (zj zn zl (jG xJ xK (za (pq 0) ze))))) ze))) ze)))))))  (zh (zu (pq 1))))), ?_⟩;walk_at "go";walk_at "lc";walk_at "go";refine rd_ixT ht0 at0 ?_;refine ⟨L1, rfl, .inl ⟨⟨_, SqL.of hL1⟩, λ _ _ _ _ acc hacc => ?_⟩⟩;refine jK (K := K) (a := L1) (xs := u1) (λ i σ H' => ∃ v v', σ = [v, v'] /\ Same H H' /\ H' acc = some (.lst (((bs.take i).map qX).map V.str))) ⟨_, _, rfl, zf hacc, upd_same⟩ (λ i σ H' _ h => by obtain ⟨_, _, _, s, _⟩ := h;exact SqL.of (s _ _ hL1)) ?_ ?_
 ·rintro i x σ H2 hi ⟨v, v', rfl, s2, g2⟩;obtain ⟨dx, hdx, rx⟩ := ru1.at hi;rw [getElem?_map, Option.map_eq_some_iff] at hdx;obtain ⟨b, hb, rfl⟩ := hdx;have hil := (List.getElem?_eq_some_iff.mp hb).1;obtain ⟨t, rfl, ht⟩ := zaR rx;have bn := j6 (tl.bo b (mem_of_getElem? hb));refine un2 ((s2 _ _ ht)) ?_;walk_at "go";have n1 := bn b.1 (by simp);have n2 := bn b.2 (by simp);have i1 : (Str.ofString (toString b.1)).length <= 1921 := j4 n1.1 n1.2;have i2 : (Str.ofString (toString b.2)).length <= 1921 := j4 n2.1 n2.2;have c5 : (Str.ofString "belt ").length = 5 := by decide +kernel
  have c1 : (Str.ofString " ").length = 1 := by decide +kernel
  refine ⟨qD n1.1 n1.2, big (by lia), big (by rw [Str.length_append];lia), m_str, qD n2.1 n2.2, big (by rw [Str.length_append, Str.length_append];lia), _, g2, zy (by rw [length_map, length_map, length_take];lia), _, _, rfl, λ c o hc => ?_, ?_⟩
  ·rw [upd_ne (ne_of_none hc hacc)];exact s2 c o hc
  ·rw [upd_same, take_add_one, hb, map_append, map_append, show Str.ofString "belt " ++ Str.ofString (toString b.1) ++ Str.ofString " " ++ Str.ofString (toString b.2) = qX b from zbF b];rfl
 rintro σ H2 ⟨v, v', rfl, s2, g2⟩;rw [b1, take_length] at g2;walk_at "go";refine cut (λ σ' H' => ∃ v2 v3 v4 v5 v6, σ' = [some (.ref t0), some (.ref acc), v2, v3, v4, v5, v6] /\ Same H H' /\ H' acc = some (.lst ((zt bs rs).map V.str))) ?_ ?_
 ·walk_at "for";walk_at "go";refine rd_ixT (s2 _ _ ht0) at1 ?_;refine ⟨LR, rfl, .inl ⟨⟨_, SqL.of (s2 _ _ hL2)⟩, ?_⟩⟩;refine jK (K := K) (a := LR) (xs := u2) (λ i σ' H' => ∃ v2 v3 v4 v5 v6, σ' = [some (.ref t0), some (.ref acc), v2, v3, v4, v5, v6] /\ Same H H' /\ H' acc = some (.lst ((zt bs (rs.take i)).map V.str))) ⟨_, _, _, _, _, rfl, s2, by rw [g2];simp [zt]⟩ (λ i σ H' _ h => by obtain ⟨_, _, _, _, _, _, s, _⟩ := h;exact SqL.of (s _ _ hL2)) ?_ ?_
  ·rintro i x σ' H3 hi ⟨v2, v3, v4, v5, v6, rfl, s3, g3⟩;obtain ⟨dx, hdx, rx⟩ := ru2.at hi;rw [getElem?_map, Option.map_eq_some_iff] at hdx;obtain ⟨r, hr', rfl⟩ := hdx;have hil := (List.getElem?_eq_some_iff.mp hr').1;have hrm := mem_of_getElem? hr';obtain ⟨t, l1, l2, l3, rfl, ht, h1, h2, h3, _⟩ := ZA rx;have nb := tl.nb r hrm;have l4 := We (tl.ro r hrm);have len20 := Xa (tl.ro r hrm);walk_at "go";refine ⟨t, _, rfl, SqT.of (s3 _ _ ht), rfl, _, _, rfl, _, _, rfl, _, _, rfl, _, _, rfl, rfl, ?_⟩;walk_at "go";refine zZ (SqL.of (s3 _ _ h1)) (SqL.of (s3 _ _ h2)) (zW (by rw [zE, zE];lia)) λ p1 hp1 => ?_;have s4 := zf (o := .lst (iv r.ins ++ iv r.outs)) hp1;have n7 := VY (tl.ro r hrm);refine zZ (SqL.of upd_same) (SqL.of (s4 _ _ (s3 _ _ h3))) (zW (by rw [length_append, zE, zE, zE];lia)) λ p2 hp2 => ?_;have s5 := s4.trans (zf (o := .lst (iv r.ins ++ iv r.outs ++ iv (qF r))) hp2);have g5 : upd (upd H3 p1 (.lst (iv r.ins ++ iv r.outs))) p2 (.lst (iv r.ins ++ iv r.outs ++ iv (qF r))) p2 = some (.lst (iv (r.ins ++ r.outs ++ qF r))) := by rw [upd_same];simp [iv]
   generalize upd (upd H3 p1 _) p2 _ = H5 at s5 g5 ⊢;clear hp1 hp2 s4;walk_at "go";refine cut (λ σ' H' => ∃ du, σ' = [some (.ref t0), some (.ref acc), some (.str (wdS r.wd)), some (.ref l1), some (.ref l2), some (.ref l3), some (.ref du)] /\ Same H3 H' /\ H' du = some (.lst (iv (zO r)))) ?_ ?_
   ·walk_at "go";refine zN (λ b => ?_) (λ b => ?_)
    ·have b := QX (y := .joiner) b;walk_at "go";refine zZ (SqL.of (s5 _ _ (s3 _ _ h2))) (SqL.of (s5 _ _ (s3 _ _ h1))) (zW (by rw [zE, zE];lia)) λ p3 hp3 => ?_;exact ⟨p3, rfl, s5.trans (zf hp3), by rw [upd_same, zO, if_pos b];simp [iv]⟩
    ·exact ⟨p2, rfl, s5, by rw [zO, if_neg (λ z => b (by rw [z];rfl))];exact g5⟩
   rintro σ' H6 ⟨du, rfl, s6, g6⟩;walk_at "go";refine ⟨.inl ⟨rfl, _, SqL.of (s6 _ _ g3)⟩, jg, ?_⟩;walk_at "lc";walk_at "go";refine ⟨du, rfl, .inl ⟨⟨_, SqL.of g6⟩, λ _ _ _ _ wl hwl => ?_⟩⟩;have c1 : (Str.ofString " ").length = 1 := by decide +kernel
   refine jK (K := K) (a := du) (xs := iv (zO r)) (λ i σ H' => ∃ v, σ = [v] /\ Same H6 H' /\ H' wl = some (.lst ((((zO r).take i).map λ n => Str.ofString " " ++ zB n).map V.str))) ⟨_, rfl, zf hwl, upd_same⟩ (λ i σ H' _ h => by obtain ⟨_, _, s, _⟩ := h;exact SqL.of (s _ _ g6)) ?_ ?_
   ·rintro i x σ H7 hi ⟨v, rfl, s7, g7⟩;obtain ⟨n, hn, rfl⟩ := QK hi;have hnl := (List.getElem?_eq_some_iff.mp hn).1;have nn := nb n (mem_of_getElem? hn);have i1 : (Str.ofString (toString n)).length <= 1921 := j4 nn.1 nn.2;walk_at "go";refine ⟨qD nn.1 nn.2, big (by lia), _, g7, zy (by rw [length_map, length_map, length_take];lia), _, rfl, λ c o hc => ?_, ?_⟩
    ·rw [upd_ne (ne_of_none hc hwl)];exact s7 c o hc
    ·rw [upd_same, take_add_one, hn, map_append, map_append];rfl
   rintro σ H7 ⟨v, rfl, s7, g7⟩;rw [zE, take_length] at g7;have hb : ∀ x ∈ (zO r).map λ n => Str.ofString " " ++ zB n, x.length <= 1922 := λ x hx => by
    obtain ⟨n, hn, rfl⟩ := List.mem_map.mp hx;have := j4 (nb n hn).1 (nb n hn).2;rw [Str.length_append, c1]
    lia
   have sl := jA hb;have jl := StrLaws.join_length_le "" ((zO r).map λ n => Str.ofString " " ++ zB n);have c0 : (Str.ofString "").length = 0 := by decide +kernel
   rw [c0] at jl;rw [length_map] at sl jl;have wl := WM r.wd;refine ⟨_, _, (zO r).map λ n => Str.ofString " " ++ zB n, rfl, rfl, g7, by rw [c0, length_map];lia, ?_⟩;walk_at "go";refine ⟨big (by lia), acc, _, _, rfl, rfl, s7 _ _ (s6 _ _ g3), zy (by unfold zt;rw [length_map, length_append, length_map, length_map, length_take];lia), _, _, _, _, _, rfl, λ c o hc => ?_, ?_⟩
   ·rw [upd_ne (ne_of_none hc hacc)];exact s7 _ _ (s6 _ _ (s3 c o hc))
   ·rw [upd_same, show wdS r.wd ++ (Str.ofString "").join (List.map (λ n => Str.ofString " " ++ zB n) (zO r)) = vN r from zbL r, take_add_one, hr'];simp [zt]
  ·rintro σ' H3 ⟨v2, v3, v4, v5, v6, rfl, s3, g3⟩;rw [b2, take_length] at g3;exact ⟨_, _, _, _, _, rfl, s3, g3⟩
 rintro σ' H3 ⟨v2, v3, v4, v5, v6, rfl, s3, g3⟩;walk_at "go";exact k _ _ s3 g3
def Z5 (cs : List Nat) : Bool := cs.all jJ
def qG (x : Str) : Option Nat := if x.length < 1 \/ 30 < x.length \/ (x.cps.toList[0]? = some 48 /\ 1 < x.length) then none else if Z5 x.cps.toList = true then some (NumText.digitsVal x.cps.toList) else none
def Wa : Option Nat -> V
 | none => .non
 | some n => .int n
theorem ZI (c : Nat) : ((⟨#[c]⟩ : Str) = ("0" : Str)) ↔ c = 48 := by
 constructor
 ·intro h;have h : (#[c] : Array Nat) = #[48] := congrArg Str.cps h;simpa using h
 ·rintro rfl;decide +kernel
theorem Qn {cs : List Nat} (h : Z5 cs = true) : NumText.AllDigits cs := λ c hc => by
 have := List.all_eq_true.mp h c hc;simpa [jJ] using this
def zdY : Sp := λ vs H Q _ => ∃ x : Str, vs = [.str x] /\ x.length <= sizeLine /\ ∀ H', Same H H' -> Q (Wa (qG x)) H'
theorem Qk (T : Txt K mg a) : Cal P w K mg base "number_from" 1 ["word"] [] zdY := T.h_number_from.cal λ F => by
 refine F.okx Zo ?_ ?_
 ·walk_at "i"
 walk_at "k";obtain ⟨x, rfl, hx, k⟩ := h;obtain ⟨t1, g1⟩ := T.g_MOST_FIGURES;obtain ⟨t2, g2⟩ := T.g_FIGURES;walk_at "T";refine ⟨_, (zH (zC (qN (qS jb jb zg (zJ zG zF (za (pq 0) ze)) qC))  (zh (zu jv))  zp)  (zH (zC (qN (qK (zJ (zdp rfl) zdn (za (Qv (vars := ["sign"]) (caps := []) (N := ["sign"]) (ON := ["word"]) (osc := zk jO) rfl rfl (by first|decide +kernel|kernel_rfl) rfl rfl (zcU (pq 0)) (λ s H fp pins => (qI 0 (show (["sign"] : List Str).Nodup from by decide +kernel))) (λ s H fp pins => jE) (λ s H fp pins => (W9 zc4 (pq 0) qC (by with_unfolding_all rfl)))) ze)) (λ _ => rfl)))  (zh (zu jv))  zp)  (zH (zC (PW.pt (pw_and (zm (zR hr.units1) (zX (pq 0) zg) zl (zq _)) (pw_and1 (zm xV (zJ zG zF (za (pq 0) ze)) zg (zq _)))))  (zh (zu jv))  zp)  (zh (zu (jG zch zbE (za (pq 0) ze))))))), ?_⟩;walk_at "go";refine ⟨x.length, ⟨hx, rfl⟩, ?_⟩;walk_at "go";have hlen : x.cps.toList.length = x.length := Array.length_toList;refine zN (λ h1 => ?_) (λ h1 => ?_)
 ·refine ⟨.int 30, _, g1, ⟨_, rfl⟩, ?_⟩;walk_at "go";refine zN (λ h2 => ?_) (λ h2 => ?_)
  rotate_left
  ·walk_at "go";have := k H (Same.refl _);unfold qG at this;rw [if_pos (.inr (.inl (by lia)))] at this;exact this
  ·walk_at "lc";walk_at "go";refine λ _ _ _ _ acc hacc => ?_;refine zdN (x := x) (λ i σ H' => ∃ v, σ = [v] /\ Same H H' /\ H' acc = some (.lst (((x.cps.toList.take i).map jJ).map V.bl))) ⟨_, rfl, zf hacc, upd_same⟩ ?_ ?_
   ·rintro i c σ H' hi ⟨v, rfl, sH, ha⟩;have hil : i < x.length := (Array.getElem?_eq_some_iff.mp hi).1;have hi' : x.cps.toList[i]? = some c := by rw [Array.getElem?_toList];exact hi
    walk_at "go";refine ⟨.str "0123456789", _, g2, ⟨_, rfl⟩, _, _, rfl, rfl, ?_⟩;refine ⟨_, ha, by rw [length_map, length_map, length_take];exact zy (by lia), _, rfl, (λ b o hb => by rw [upd_ne (ne_of_none hb hacc)];exact sH b o hb), ?_⟩;rw [upd_same, take_add_one, hi', ZX, zb3];simp only [Option.toList_some, map_append, map_cons, map_nil];cases jJ c <;> rfl
   ·rintro σ H' ⟨v, rfl, sH, ha⟩;rw [List.take_of_length_le (by rw [hlen];exact Nat.le_refl _)] at ha;walk_at "go";refine ⟨acc, _, rfl, ha, ?_⟩;have hall : (x.cps.toList.map jJ).all id = Z5 x.cps.toList := by rw [List.all_map];rfl
    rw [hall];walk_at "go";cases hA : Z5 x.cps.toList with
    | false =>
     walk_at "go";have := k H' sH;unfold qG at this;rw [hA] at this;by_cases hz : x.length < 1 \/ 30 < x.length \/ (x.cps.toList[0]? = some 48 /\ 1 < x.length)
     ·rw [if_pos hz] at this;exact this
     ·rw [if_neg hz, if_neg (by decide)] at this;exact this
    | true =>
     walk_at "go";obtain ⟨c, hc⟩ : ∃ c, x.cps.toList[0]? = some c := ⟨_, getElem?_eq_getElem (by lia)⟩;refine .inr (.inr ⟨x, 0, c, rfl, rfl, hx, by have := qg hc;simpa using this, ?_⟩);walk_at "go";have fin : ¬ (c = 48 /\ 1 < x.length) -> Q (V.int (NumText.digitsVal x.cps.toList : Nat)) H' := λ hz => by
      have := k H' sH;unfold qG at this;rw [if_neg (by rw [hc];intro z;rcases z with z|z|⟨z, z'⟩ <;> first|lia|exact hz ⟨by simpa using z, z'⟩), if_pos hA] at this;exact this
     have fin2 : ¬ (c = 48 /\ 1 < x.length) -> ∃ x_1 n, [V.str x] = [V.str x_1] /\ PySem.intText? x_1 = some n /\ x_1.length <= 640 /\ Q (V.int n) H' := λ hz =>
      ⟨x, _, rfl, PySem.intText_digits (Qn hA) (λ z => by rw [z] at hlen;simp at hlen;lia) (by lia), by lia, fin hz⟩
     by_cases h48 : c = 48
     ·subst h48;rw [if_pos ((ZI 48).mpr rfl)];walk_at "go";refine ⟨x.length, ⟨hx, rfl⟩, ?_⟩;walk_at "go";refine zN (λ h3 => ?_) (λ h3 => ?_)
      ·walk_at "go";have := k H' sH;unfold qG at this;rw [if_pos (.inr (.inr ⟨hc, by lia⟩))] at this;exact this
      ·walk_at "go";exact fin2 (by lia)
     ·rw [if_neg (λ z => h48 ((ZI c).mp z))];walk_at "go";exact fin2 (by lia)
 ·walk_at "go";have := k H (Same.refl _);unfold qG at this;rw [if_pos (.inl (by lia))] at this;exact this
theorem Vp {n : Int} (h0 : 0 <= n) (h1 : n < zo) : qG (zB n) = some n.toNat := by
 obtain ⟨m, rfl⟩ := Int.eq_ofNat_of_zero_le h0;have hs := PySem.W.KIN.signs_num m;have hl : (zB (m : Int)).length <= 30 := PyProof.Rows.toString_length_le h0 (by decide) (by unfold zo at h1;lia);have hlen : (zB (m : Int)).cps.toList.length = (zB (m : Int)).length := Array.length_toList;have hs : (zB (m : Int)).cps.toList = (Nat.toDigits 10 m).map Char.toNat := hs;have hd : NumText.AllDigits (zB (m : Int)).cps.toList := by
  intro c hc;rw [hs] at hc;obtain ⟨ch, hch, e⟩ := List.mem_map.mp hc;have r := PyProof.Rows.digit_range (Nat.isDigit_of_mem_toDigits (by decide) (by decide) hch);rw [<- e];exact r
 have hv : NumText.digitsVal (zB (m : Int)).cps.toList = m := by rw [hs];exact PySem.W.KIN.val_back m
 have h1l : 1 <= (Nat.toDigits 10 m).length := PySem.toDigits_len_ge 10 m;have hl2 : (Nat.toDigits 10 m).length = (zB (m : Int)).length := by rw [<- hlen, hs, length_map]
 have nz : ¬ ((zB (m : Int)).cps.toList[0]? = some 48 /\ 1 < (zB (m : Int)).length) := by
  rintro ⟨z, z1⟩;have ta := NumText.toDigits_all _ hd;rw [hv] at ta;generalize (zB (m : Int)).cps.toList = cs at z hlen ta;cases cs with
  | nil => cases z
  | cons c r =>
   have z : c = 48 := Option.some.inj z;subst z;rw [List.dropWhile_cons_of_pos (by rfl)] at ta;have tl := congrArg List.length ta;have dl := (List.dropWhile_sublist (λ x => x == 48) (l := r)).length_le;rw [length_cons] at hlen
   split at tl
   ·simp at tl;lia
   ·rename_i c' r' e;rw [e] at dl;rw [length_map] at tl
    lia
 have hA : Z5 (zB (m : Int)).cps.toList = true := List.all_eq_true.mpr λ c hc => by
  have := hd c hc;simp [jJ, this.1, this.2]
 unfold qG;rw [if_neg (λ w => w.elim (λ w => by lia) λ w => w.elim (λ w => by lia) nz), if_pos hA, hv]
 rfl
theorem ZV {n : Int} (h0 : 0 <= n) : NumText.AllDigits (zB n).cps.toList := by
 obtain ⟨m, rfl⟩ := Int.eq_ofNat_of_zero_le h0;have hs : (zB (m : Int)).cps.toList = (Nat.toDigits 10 m).map Char.toNat := PySem.W.KIN.signs_num m;intro c hc;rw [hs] at hc;obtain ⟨ch, hch, e⟩ := List.mem_map.mp hc;have r := PyProof.Rows.digit_range (Nat.isDigit_of_mem_toDigits (by decide) (by decide) hch);rw [<- e];exact r
theorem qU {n : Int} {c : Nat} (h0 : 0 <= n) (hc : c < 48) : c ∉ (zB n).cps.toList := λ z => by
 have := ZV h0 c z
 lia
theorem Z6 : (Str.ofString " ") = (⟨#[32]⟩ : Str) := by decide +kernel
theorem zd1 : (Str.ofString "\n") = (⟨#[10]⟩ : Str) := by decide +kernel
theorem ZM {c d : Nat} : ∀ {xs : List Str}, c ∈ (Str.join ⟨#[d]⟩ xs).cps.toList -> c = d \/ ∃ x ∈ xs, c ∈ x.cps.toList
 | [], h => nomatch h
 | [x], h => .inr ⟨x, mem_cons_self .., h⟩
 | x :: y :: r, h => by
  rw [qa] at h;rcases List.mem_append.mp h with h|h
  ·exact .inr ⟨x, mem_cons_self .., h⟩
  ·rcases List.mem_cons.mp h with h|h
   ·exact .inl h
   ·rcases ZM h with h|⟨z, hz, h⟩
    ·exact .inl h
    ·exact .inr ⟨z, mem_cons_of_mem _ hz, h⟩
theorem xa {nm : Str} {ns : List Int} (h : 32 ∉ nm.cps.toList) (hb : ∀ n ∈ ns, 0 <= n /\ n < zo) : Txt.split (qP nm ns) (Str.ofString " ") = nm :: ns.map zB := by
 unfold qP;rw [Z6];refine x6 (by simp) λ x hx => ?_;rcases List.mem_cons.mp hx with rfl|hx
 ·exact h
 ·obtain ⟨n, hn, rfl⟩ := List.mem_map.mp hx;exact qU (hb n hn).1 (by decide)
theorem V5 {nm : Str} {ns : List Int} (h : 10 ∉ nm.cps.toList) (hb : ∀ n ∈ ns, 0 <= n /\ n < zo) : 10 ∉ (qP nm ns).cps.toList := λ z => by
 unfold qP at z;rw [Z6] at z;rcases ZM z with zc|⟨x, hx, zx⟩
 ·cases zc
 ·rcases List.mem_cons.mp hx with rfl|hx
  ·exact h zx
  ·obtain ⟨n, hn, rfl⟩ := List.mem_map.mp hx;exact qU (hb n hn).1 (by decide) zx
theorem JI (wd : Wd) : 32 ∉ (wdS wd).cps.toList /\ 10 ∉ (wdS wd).cps.toList := by cases wd <;> exact ⟨by decide +kernel, by decide +kernel⟩
theorem belt_free : 32 ∉ (Str.ofString "belt").cps.toList /\ 10 ∉ (Str.ofString "belt").cps.toList := ⟨by decide +kernel, by decide +kernel⟩
def Zm (a : Ad) : Sp := λ vs H Q _ => ∃ (e : Addr) (n : Nat), vs = [.ref e, .int n] /\ H e = some (j5 e (.ref a.BadRow)) /\ n <= 1000 /\ ∀ D : Addr, H D = none -> D ≠ e -> Q .non (upd (upd H D (.xd [("line", .int n)])) e (j5 e (.int D a.BadRow)))
theorem ZH (T : Txt K mg a) (F : Fun K "__init__" "BadRow.__init__" jT f fd) : FnOk P w K mg base (CXr P w) 1 f fd ["self", "line"] (Zm a) := by
 refine F.okx Zt ?_ ?_
 ·walk_at "i"
 walk_at "j";obtain ⟨e, n, rfl, he, n1, k⟩ := h;walk_at "T";refine ⟨_, (zH (zw (zcV (za (pq 0) (za (zdJ (Ji zl (Ji (zdI (pq 1)) (Ji zl zcT)))) ze))))  (zh (zbW (pq 0) (pq 1) rfl))), ?_⟩;walk_at "go";have n0 : (0 : Int) <= n := Int.natCast_nonneg n;have nk : (n : Int) < zo := by unfold zo;lia
 have l1 := j4 n0 nk;have e1 : (Str.empty ++ Str.ofString "row ").length = 4 := by decide +kernel
 have e2 : (Str.ofString " is not good").length = 12 := by decide +kernel
 obtain ⟨f', _, _, xc, _⟩ := T.h_BadRow_init.ex;have fit : ∀ {x : Str}, x.length <= 2000 -> x.length <= sizeLine := λ h => big (by lia);exact ⟨a.WorkError, T.g_WorkError, T.B_WorkError, fit (by lia), .inl ⟨n, rfl, qD n0 nk, fit (by rw [Str.length_append];lia), fit (by rw [Str.length_append, Str.length_append];lia), fit (by rw [Str.length_append, Str.length_append];lia), e, a.BadRow, f', _, rfl, he, xc, e, a.BadRow, rfl, he, T.XS_BadRow_line, k⟩⟩
theorem Xw (T : Txt K mg a) : ICal P w K mg base "BadRow" a.BadRow 1 ["self", "line"] (Zm a) := T.h_BadRow_init.cal T.g_BadRow (ZH T)
inductive Prt where
 | belt (rm pc : Int)
 | knot (r : Row)
def okP : Prt -> Prop
 | .belt rm pc => z4 rm pc
 | .knot r => r.ok
def zd3 (a : Ad) : Prt -> Addr
 | .belt _ _ => a.BadBelt
 | .knot _ => a.BadKnot
def RepP (a : Ad) (H : Hp) (p : Addr -> Prop) (v : V) : Prt -> Prop
 | .belt rm pc => BtP a H p v (rm, pc)
 | .knot r => KnP a H p v r
def qh (nm : Str) (ns : List Int) : Option Prt :=
 if nm = "belt" /\ ns.length = 2 then some (.belt (ns.getD 0 0) (ns.getD 1 0))
 else if nm = "source" /\ 2 <= ns.length then some (.knot ⟨.source, [], [ns.getD 0 0], ns.getD 1 0, ns.drop 2⟩)
 else if nm = "drain" /\ ns.length = 2 then some (.knot ⟨.drain, [ns.getD 0 0], [], ns.getD 1 0, []⟩)
 else if nm = "parter" /\ 1 <= ns.length then some (.knot ⟨.parter, [ns.getD 0 0], ns.drop 1, 0, []⟩)
 else if nm = "first" /\ 1 <= ns.length then some (.knot ⟨.first, [ns.getD 0 0], ns.drop 1, 0, []⟩)
 else if nm = "sieve" /\ ns.length = 4 then some (.knot ⟨.sieve, [ns.getD 0 0], [ns.getD 1 0, ns.getD 2 0], 0, [ns.getD 3 0]⟩)
 else if nm = "joiner" /\ 1 <= ns.length then some (.knot ⟨.joiner, ns.drop 1, [ns.getD 0 0], 0, []⟩)
 else none
def zcN (K : PySem.W.Frag) (a : Ad) : Sp := λ vs H Q E => ∃ (nm : Str) (l : Addr) (ns : List Int), vs = [.str nm, .ref l] /\ H l = some (.lst (iv ns)) /\ (∀ n ∈ ns, 0 <= n /\ n < zo) /\ (qh nm ns = none -> Q .non H) /\
 ∀ p, qh nm ns = some p -> (okP p -> ∀ v' H', Same H H' -> RepP a H' (New H) v' p -> Q v' H') /\ (¬ okP p -> ∀ H', Same H H' -> E (.ref (zd3 a p)) none H')
theorem wg {p q : Prop} [Decidable p] [Decidable q] {A N : Prop} (h : ¬ (p /\ q)) (n : N) : if p then (if q then A else N) else N := by
 by_cases hp : p
 ·rw [if_pos hp, if_neg (λ hq => h ⟨hp, hq⟩)];exact n
 ·rw [if_neg hp];exact n
theorem xf {p q : Prop} [Decidable p] [Decidable q] {A N : Prop} (hp : p) (hq : q) (n : A) : if p then (if q then A else N) else N := by
 rw [if_pos hp, if_pos hq];exact n
theorem ju {H : Hp} {C z dz : Addr} (hz : H z = none) (hdz : H dz = none) : Same H (upd (upd H dz (.own z)) z (.ins C dz [])) := λ b o h => qf hz hdz h
theorem two_cons {ns : List Int} (h : 2 <= ns.length) : ∃ x y r, ns = x :: y :: r := by
 match ns, h with
 | x :: y :: r, _ => exact ⟨x, y, r, rfl⟩
theorem ZC {ns : List Int} (h : 1 <= ns.length) : ∃ x r, ns = x :: r := by
 match ns, h with
 | x :: r, _ => exact ⟨x, r, rfl⟩
theorem XJ (T : Txt K mg a) : Cal P w K mg base "made_part" 4 ["name", "numbers"] [] (zcN K a) := T.h_made_part.cal λ F => by
 refine F.okx Q6 ?_ ?_
 ·walk_at "i"
 walk_at "j";obtain ⟨nm, l, ns, rfl, hl, nb, kN, kP⟩ := h;unfold qh at kN kP;walk_at "T";refine ⟨_, (zi (zI 2 Q6.nd (zJ zG zF (za (pq 1) ze)))  (zi (zC (PW.pt (pw_and (zm (zR hr.units1) (pq 0) zl (zq _)) (pw_and1 (zm (zR hr.units1) (pq 2) zg (zq _)))))  (zh (zu (jF (x := "Belt") ⟨rfl, rfl, rfl⟩ hr (za (zX (pq 1) zg) (za (zX (pq 1) zg) ze)))))  zp)  (zi (zC (PW.pt (pw_and (zm (zR hr.units1) (pq 0) zl (zq _)) (pw_and1 (zm Qz (pq 2) zg (zq _)))))  (zh (zu (jF (x := "Source") ⟨rfl, rfl, rfl⟩ hr (za (zX (pq 1) zg) (za (zX (pq 1) zg) (za (zK qb (pq 1) (zQ zg) zV) ze))))))  zp)  (zi (zC (PW.pt (pw_and (zm (zR hr.units1) (pq 0) zl (zq _)) (pw_and1 (zm (zR hr.units1) (pq 2) zg (zq _)))))  (zh (zu (jF (x := "Drain") ⟨rfl, rfl, rfl⟩ hr (za (zX (pq 1) zg) (za (zX (pq 1) zg) ze)))))  zp)  (zi (zC (PW.pt (pw_and (zm (zR hr.units1) (pq 0) zl (zq _)) (pw_and1 (zm Qz (pq 2) zg (zq _)))))  (zh (zu (jF (x := "Parter") ⟨rfl, rfl, rfl⟩ hr (za (zX (pq 1) zg) (za (zK qb (pq 1) (zQ zg) zV) ze)))))  zp)  (zi (zC (PW.pt (pw_and (zm (zR hr.units1) (pq 0) zl (zq _)) (pw_and1 (zm Qz (pq 2) zg (zq _)))))  (zh (zu (jF (x := "FirstParter") ⟨rfl, rfl, rfl⟩ hr (za (zX (pq 1) zg) (za (zK qb (pq 1) (zQ zg) zV) ze)))))  zp)  (zi (zC (PW.pt (pw_and (zm (zR hr.units1) (pq 0) zl (zq _)) (pw_and1 (zm (zR hr.units1) (pq 2) zg (zq _)))))  (zh (zu (jF (x := "Sieve") ⟨rfl, rfl, rfl⟩ hr (za (zX (pq 1) zg) (za (zK qb (pq 1) (zQ zg) (zQ zg)) (za (zX (pq 1) zg) ze))))))  zp)  (zi (zC (PW.pt (pw_and (zm (zR hr.units1) (pq 0) zl (zq _)) (pw_and1 (zm Qz (pq 2) zg (zq _)))))  (zh (zu (jF (x := "Joiner") ⟨rfl, rfl, rfl⟩ hr (za (zK qb (pq 1) (zQ zg) zV) (za (zX (pq 1) zg) ze)))))  zp)  (zh (zu jv)))))))))), ?_⟩;walk_at "go";refine ⟨_, .inl ⟨_, SqL.of hl, rfl⟩, ?_⟩;rw [zE];walk_at "go";by_cases c1 : nm = "belt" /\ ns.length = 2
 ·rw [if_pos c1] at kP;obtain ⟨kO, kE⟩ := kP _ rfl;obtain ⟨rfl, e2⟩ := c1;obtain ⟨rm, pc, rfl⟩ : ∃ rm pc, ns = [rm, pc] := by
   match ns, e2 with
   | [x, y], _ => exact ⟨x, y, rfl⟩
  have hl : H l = some (.lst [.int rm, .int pc]) := hl;refine xf rfl rfl ⟨a.Belt, _, _, _, (zbb T).mono, zS (SqL.of hl) at0 (zS (SqL.of hl) at1 ?_)⟩;intro z dz hz hdz hne;refine ⟨z, dz, rm, pc, rfl, upd_same, ?_⟩;by_cases ok : z4 rm pc
  ·have sN : Same H (upd (upd H dz (.own z)) z (.ins a.Belt dz (bf rm pc))) := λ b o h => by rw [upd_ne (ne_of_none h hz), upd_ne (ne_of_none h hdz)];exact h
   rw [if_pos ok, QY];exact ⟨rfl, kO ok _ _ sN (zcA (p := New H) hz upd_same)⟩
  ·rw [if_neg ok];exact kE ok _ (ju hz hdz)
 refine wg (λ z => c1 ⟨z.1, by have := z.2;lia⟩) ?_;rw [if_neg c1] at kN kP;clear c1;walk_at "go";by_cases c2 : nm = "source" /\ 2 <= ns.length
 ·rw [if_pos c2] at kP;obtain ⟨kO, kE⟩ := kP _ rfl;obtain ⟨rfl, e2⟩ := c2;obtain ⟨o, pc, ks, rfl⟩ := two_cons e2;have hl : H l = some (.lst (.int o :: .int pc :: iv ks)) := hl;refine xf rfl (by lia) ⟨a.Source, _, _, _, (Xs T).mono, zS (SqL.of hl) at0 (zS (SqL.of hl) (show atI _ 1 = some (.int pc) from qg (j := 1) rfl) (qc (SqL.of hl) λ m3' hm3 => ?_))⟩;rw [show jz (.int o :: .int pc :: iv ks) (some 2) none = iv ks from (qk _ 2 (by simp)).trans rfl] at *;intro z dz hz hdz hne;have hm3' := upd_same (H := H) (a := m3') (o := .lst (iv ks));refine ⟨z, dz, m3', .int o, pc, ks, rfl, upd_same, SqL.of (qf hz hdz hm3'), ne_of_none hm3' hz, λ q H' m1 m2 m3 s' g1 g2 g3 g4 n1 n2 n3 => ⟨rfl, ?_⟩, λ hbad => kE (λ z => hbad z.2.2) _ ((zf hm3).trans (ju hz hdz))⟩;exact kO ⟨rfl, ⟨o, rfl⟩, q⟩ _ _ ((zf hm3).trans (Own.of_new hz hdz s')) (QF (p := New H) (ins := []) (outs := [o]) (zr hz) (zr (zM n1)) (zr (zM n2)) (zr (zM n3)) g1 g2 g3 g4)
 refine wg (λ z => c2 ⟨z.1, by have := z.2;lia⟩) ?_;rw [if_neg c2] at kN kP;clear c2;walk_at "go";by_cases c3 : nm = "drain" /\ ns.length = 2
 ·rw [if_pos c3] at kP;obtain ⟨kO, kE⟩ := kP _ rfl;obtain ⟨rfl, e2⟩ := c3;obtain ⟨i, pc, rfl⟩ : ∃ i pc, ns = [i, pc] := by
   match ns, e2 with
   | [x, y], _ => exact ⟨x, y, rfl⟩
  have hl : H l = some (.lst [.int i, .int pc]) := hl;refine xf rfl rfl ⟨a.Drain, _, _, _, (Vi T).mono, zS (SqL.of hl) at0 (zS (SqL.of hl) at1 ?_)⟩;intro z dz hz hdz hne;refine ⟨z, dz, .int i, pc, rfl, upd_same, ?_⟩;by_cases ok : 0 <= pc /\ pc <= 4
  ·rw [if_pos ok];intro H' m1 m2 s' g1 g2 g3 n1 n2;exact ⟨rfl, kO ⟨⟨i, rfl⟩, rfl, ok⟩ _ _ (Own.of_new hz hdz s') (Xp (p := New H) (ins := [i]) (outs := []) hz (zM n1) (zM n2) g1 g2 g3)⟩
  ·rw [if_neg ok];exact kE (λ z => ok z.2.2) _ (ju hz hdz)
 refine wg (λ z => c3 ⟨z.1, by have := z.2;lia⟩) ?_;rw [if_neg c3] at kN kP;clear c3;walk_at "go";by_cases c4 : nm = "parter" /\ 1 <= ns.length
 ·rw [if_pos c4] at kP;obtain ⟨kO, kE⟩ := kP _ rfl;obtain ⟨rfl, e2⟩ := c4;obtain ⟨i, outs, rfl⟩ := ZC e2;have hl : H l = some (.lst (.int i :: iv outs)) := hl;refine xf rfl (by lia) ⟨a.Parter, _, _, _, (Xt T).mono, zS (SqL.of hl) at0 (qc (SqL.of hl) λ m3 hm3 => ?_)⟩;rw [show jz (.int i :: iv outs) (some 1) none = iv outs from (qk _ 1 (by simp)).trans rfl] at *;intro z dz hz hdz hne;have hm3' := upd_same (H := H) (a := m3) (o := .lst (iv outs));refine ⟨z, dz, m3, .int i, iv outs, rfl, upd_same, SqL.of (qf hz hdz hm3'), ne_of_none hm3' hz, ?_⟩;rw [zE];by_cases ok : 2 <= outs.length /\ outs.length <= 4
  ·rw [if_pos ok];intro H' m1 m2 s' g1 g2 g3 n1 n2;exact ⟨rfl, kO ⟨⟨i, rfl⟩, ok⟩ _ _ ((zf hm3).trans (Own.of_new hz hdz s')) (QG (p := New H) (ins := [i]) (outs := outs) (zr hz) (zr (zM n1)) (zr (zM n2)) g1 g2 g3)⟩
  ·rw [if_neg ok];exact kE (λ z => ok z.2) _ ((zf hm3).trans (ju hz hdz))
 refine wg (λ z => c4 ⟨z.1, by have := z.2;lia⟩) ?_;rw [if_neg c4] at kN kP;clear c4;walk_at "go";by_cases c5 : nm = "first" /\ 1 <= ns.length
 ·rw [if_pos c5] at kP;obtain ⟨kO, kE⟩ := kP _ rfl;obtain ⟨rfl, e2⟩ := c5;obtain ⟨i, outs, rfl⟩ := ZC e2;have hl : H l = some (.lst (.int i :: iv outs)) := hl;refine xf rfl (by lia) ⟨a.FirstParter, _, _, _, (xZ T).mono, zS (SqL.of hl) at0 (qc (SqL.of hl) λ m3 hm3 => ?_)⟩;rw [show jz (.int i :: iv outs) (some 1) none = iv outs from (qk _ 1 (by simp)).trans rfl] at *;intro z dz hz hdz hne;have hm3' := upd_same (H := H) (a := m3) (o := .lst (iv outs));refine ⟨z, dz, m3, .int i, iv outs, rfl, upd_same, SqL.of (qf hz hdz hm3'), ne_of_none hm3' hz, ?_⟩;rw [zE];by_cases ok : 2 <= outs.length /\ outs.length <= 4
  ·rw [if_pos ok];intro H' m1 m2 s' g1 g2 g3 n1 n2;exact ⟨rfl, kO ⟨⟨i, rfl⟩, ok⟩ _ _ ((zf hm3).trans (Own.of_new hz hdz s')) (Xo (p := New H) (ins := [i]) (outs := outs) (zr hz) (zr (zM n1)) (zr (zM n2)) g1 g2 g3)⟩
  ·rw [if_neg ok];exact kE (λ z => ok z.2) _ ((zf hm3).trans (ju hz hdz))
 refine wg (λ z => c5 ⟨z.1, by have := z.2;lia⟩) ?_;rw [if_neg c5] at kN kP;clear c5;walk_at "go";by_cases c6 : nm = "sieve" /\ ns.length = 4
 ·rw [if_pos c6] at kP;obtain ⟨kO, kE⟩ := kP _ rfl;obtain ⟨rfl, e2⟩ := c6;obtain ⟨i, o1, o2, kk, rfl⟩ : ∃ i o1 o2 kk, ns = [i, o1, o2, kk] := by
   match ns, e2 with
   | [x, y, u, v], _ => exact ⟨x, y, u, v, rfl⟩
  have hl : H l = some (.lst [.int i, .int o1, .int o2, .int kk]) := hl;refine xf rfl rfl ⟨a.Sieve, _, _, _, (Vh T).mono, zS (SqL.of hl) at0 (qc (SqL.of hl) λ m3 hm3 => ?_)⟩;rw [show jz [V.int i, .int o1, .int o2, .int kk] (some 1) (some 3) = iv [o1, o2] from rfl] at *;refine zS (SqL.of (upd_keep hl hm3)) (show atI _ 3 = some (.int kk) from qg (j := 3) rfl) ?_;intro z dz hz hdz hne;have hm3' := upd_same (H := H) (a := m3) (o := .lst (iv [o1, o2]));have nk := nb kk (by simp);refine ⟨z, dz, m3, .int i, iv [o1, o2], kk, rfl, upd_same, SqL.of (qf hz hdz hm3'), ne_of_none hm3' hz, ?_⟩;rw [if_pos ⟨rfl, nk⟩];intro H' m1 m2 s' g1 g2 g3 n1 n2;exact ⟨rfl, kO ⟨⟨i, rfl⟩, rfl, kk, rfl, nk⟩ _ _ ((zf hm3).trans (Own.of_new hz hdz s')) (Xn (p := New H) (ins := [i]) (outs := [o1, o2]) (zr hz) (zr (zM n1)) (zr (zM n2)) g1 g2 g3)⟩
 refine wg (λ z => c6 ⟨z.1, by have := z.2;lia⟩) ?_;rw [if_neg c6] at kN kP;clear c6;walk_at "go";by_cases c7 : nm = "joiner" /\ 1 <= ns.length
 ·rw [if_pos c7] at kP;obtain ⟨kO, kE⟩ := kP _ rfl;obtain ⟨rfl, e2⟩ := c7;obtain ⟨o, ins, rfl⟩ := ZC e2;have hl : H l = some (.lst (.int o :: iv ins)) := hl;refine xf rfl (by lia) ⟨a.Joiner, _, _, _, (Xu T).mono, qc (SqL.of hl) λ m3 hm3 => ?_⟩;rw [show jz (.int o :: iv ins) (some 1) none = iv ins from (qk _ 1 (by simp)).trans rfl] at *;refine zS (SqL.of (upd_keep hl hm3)) at0 ?_;intro z dz hz hdz hne;have hm3' := upd_same (H := H) (a := m3) (o := .lst (iv ins));refine ⟨z, dz, m3, .int o, iv ins, rfl, upd_same, SqL.of (qf hz hdz hm3'), ne_of_none hm3' hz, ?_⟩;rw [zE];by_cases ok : 2 <= ins.length /\ ins.length <= 4
  ·rw [if_pos ok];intro H' m1 m2 s' g1 g2 g3 n1 n2;exact ⟨rfl, kO ⟨⟨o, rfl⟩, ok⟩ _ _ ((zf hm3).trans (Own.of_new hz hdz s')) (QH (p := New H) (ins := ins) (outs := [o]) (zr hz) (zr (zM n1)) (zr (zM n2)) g1 g2 g3)⟩
  ·rw [if_neg ok];exact kE (λ z => ok z.2) _ ((zf hm3).trans (ju hz hdz))
 refine wg (λ z => c7 ⟨z.1, by have := z.2;lia⟩) ?_;rw [if_neg c7] at kN;walk_at "go";exact kN rfl
theorem zad : ∀ cs : List Nat, NumText.AllDigits cs -> NumText.digitsVal cs < 10 ^ cs.length := by
 intro cs;generalize hn : cs.length = n
 induction n generalizing cs with
 | zero =>
  intro _;rw [length_eq_zero_iff] at hn;subst hn;decide
 | succ n ih =>
  intro h;have ne : cs ≠ [] := λ z => by rw [z] at hn;cases hn
  have e : cs = cs.dropLast ++ [cs.getLast ne] := (List.dropLast_concat_getLast ne).symm;have hl := h (cs.getLast ne) (List.getLast_mem ne);have ih' := ih cs.dropLast (by rw [length_dropLast, hn];rfl) λ c hc => h c (List.dropLast_subset _ hc);rw [e, NumText.digitsVal_snoc, Nat.pow_succ]
  lia
theorem zdj {x : Str} {n : Nat} (h : qG x = some n) : (n : Int) < zo := by
 unfold qG at h
 split at h
 ·cases h
 ·rename_i z
  split at h
  ·rename_i a;cases h;have d : NumText.AllDigits x.cps.toList := λ c hc => by
    have := List.all_eq_true.mp a c hc;simp [jJ] at this;exact this
   have l := zad _ d;have e : x.cps.toList.length = x.length := Array.length_toList;have : x.cps.toList.length <= 30 := by lia
   have p := Nat.pow_le_pow_right (n := 10) (by decide) this;unfold zo;have : (10 : Nat) ^ 30 = 1000000000000000000000000000000 := by decide +kernel
   lia
  ·cases h
theorem WL {d : Nat} : ∀ {xs : List Str} {x : Str}, x ∈ xs -> x.length <= (Str.join ⟨#[d]⟩ xs).length
 | [y], x, h => by rw [List.mem_singleton.mp h];exact Nat.le_refl _
 | y :: z :: r, x, h => by
  have e : (Str.join ⟨#[d]⟩ (y :: z :: r)).length = y.length + (1 + (Str.join ⟨#[d]⟩ (z :: r)).length) := by
   have l := congrArg List.length (qa d y z r);rw [length_append, length_cons, Array.length_toList, Array.length_toList, Array.length_toList] at l;show (Str.join ⟨#[d]⟩ (y :: z :: r)).cps.size = y.cps.size + (1 + (Str.join ⟨#[d]⟩ (z :: r)).cps.size)
   lia
  rcases List.mem_cons.mp h with rfl|h
  ·lia
  ·have := WL (d := d) h
   lia
def j3 : List Str -> Option (List Int)
 | [] => some []
 | w :: ws => match qG w, j3 ws with
  | some n, some ns => some ((n : Int) :: ns)
  | _, _ => none
theorem J9 : ∀ (ws : List Str), (j3 ws = none -> ∃ w ∈ ws, qG w = none) /\ ∀ ns, j3 ws = some ns -> ws.map (λ w => Wa (qG w)) = iv ns /\ ∀ n ∈ ns, 0 <= n /\ n < zo
 | [] => ⟨(λ h => nomatch h), λ ns h => by cases h;exact ⟨rfl, λ n hn => nomatch hn⟩⟩
 | w :: ws => by
  obtain ⟨h1, h2⟩ := J9 ws;unfold j3;cases e : qG w with
  | none => exact ⟨λ _ => ⟨w, mem_cons_self .., e⟩, λ ns h => nomatch h⟩
  | some n =>
   cases e' : j3 ws with
   | none =>
    obtain ⟨x, hx, ex⟩ := h1 e';exact ⟨λ _ => ⟨x, mem_cons_of_mem _ hx, ex⟩, λ ns h => nomatch h⟩
   | some ms =>
    obtain ⟨q1, q2⟩ := h2 ms e';refine ⟨(λ h => nomatch h), λ ns h => ?_⟩;cases h;refine ⟨by rw [map_cons, q1, e];rfl, λ n' hn => ?_⟩;rcases List.mem_cons.mp hn with rfl|hn
    ·exact ⟨Int.natCast_nonneg n, zdj e⟩
    ·exact q2 n' hn
def j1 (row : Str) : Option Prt := match Txt.split row (Str.ofString " ") with
 | [] => none
 | nm :: ws => (j3 ws).bind (qh nm)
theorem zc5 (ns : List Int) : inV .non (iv ns) = false := by
 unfold inV iv;rw [List.any_map];exact List.any_eq_false.mpr λ n _ => by simp [eqV]
theorem zbk : ∀ ws : List Str, (∃ w ∈ ws, qG w = none) -> inV .non (ws.map λ w => Wa (qG w)) = true
 | [], h => by obtain ⟨_, h, _⟩ := h;cases h
 | w :: ws, h => by
  show (eqV (Wa (qG w)) .non || inV .non (ws.map λ w => Wa (qG w))) = true
  obtain ⟨x, hx, e⟩ := h;rcases List.mem_cons.mp hx with rfl|hx
  ·rw [e];rfl
  ·rw [zbk ws ⟨x, hx, e⟩, Bool.or_true]
theorem zbo (ws : List Str) : (ws.map λ w => Wa (qG w)).all jk = true := List.all_eq_true.mpr λ x hx => by
 obtain ⟨w, _, rfl⟩ := List.mem_map.mp hx;cases qG w <;> rfl
def zcM (a : Ad) : Sp := λ vs H Q _ => ∃ (row : Str), vs = [.str row] /\ row.length <= 100000 /\ (∀ p, j1 row = some p -> okP p -> ∀ v' H', Same H H' -> RepP a H' (New H) v' p -> Q v' H') /\ ((∀ p, j1 row = some p -> ¬ okP p) -> ∀ H', Same H H' -> Q .non H')
theorem RepP.keep {a : Ad} {H H' : Hp} {p q : Addr -> Prop} {v : V} {pr : Prt} (h : RepP a H p v pr) (k : ∀ b o, p b -> H b = some o -> q b /\ H' b = some o) : RepP a H' q v pr := by
 cases pr with
 | belt rm pc => exact Rep.keep k h
 | knot r => exact Rep.keep k h
theorem XH (T : Txt K mg a) : Cal P w K mg base "part_from" 5 ["row"] [] (zcM a) := T.h_part_from.cal λ F => by
 refine F.okx Q5 ?_ ?_
 ·walk_at "i"
 walk_at "j";obtain ⟨row, rfl, l1, kP, kN⟩ := h;have z3 : 3000000 <= sizeLine := by decide
 have sl := PyProof.Rows.split_le row (Str.ofString " ");have sp := PyProof.Rows.split_pos row (Str.ofString " ");have sw : ∀ x ∈ Txt.split row (Str.ofString " "), x.length <= row.length := λ x hx => by
  have := WL (d := 32) hx
  rwa [<- Z6, StrLaws.join_split] at this
 walk_at "T";refine ⟨_, (zi (zI 1 Q5.nd (z7 PySem.F.plainAttrs_str PySem.F.slot_str_split PySem.F.type_str_split ZK (pq 0) (za zl ze)))  (zi (zct (i := 2) Q5.nd rfl (Or.inl rfl) (vars := ["word"]) (caps := []) (N := ["word"]) (ON := ["row", "words", "numbers"]) (osc := zk xq) rfl rfl (by first|decide +kernel|kernel_rfl) rfl rfl (qT (zK qb (pq 1) (zQ zg) zV)) (λ s H fp pins => (qI 0 (show (["word"] : List Str).Nodup from by decide +kernel))) (λ s H fp pins => jE) (λ s H fp pins => (zcZ hr (za (pq 0) ze))))  (zi (zC (zm zdM jv (pq 2) (by with_unfolding_all rfl))  (zh (zu jv))  zp)  (zh (zbV ⟨rfl, rfl, rfl⟩ rfl (λ pn G => (zh (zu (z6 ⟨rfl, rfl, rfl⟩ hr (za (zX (pq 1) zg) (za (pq 2) ze)))))) (λ pn a => (zh (zu jv))) (λ pn a => (zh (zu jv)))))))), ?_⟩;walk_at "go";refine ⟨jg, _, _, rfl, rfl, by decide +kernel, by lia, λ wl hwl => ?_⟩;unfold j1 at kP kN;generalize Txt.split row (Str.ofString " ") = ws0 at *;obtain ⟨nm, ws, rfl⟩ : ∃ nm ws, ws0 = nm :: ws := by
  cases ws0 with
  | nil => simp at sp
  | cons x r => exact ⟨x, r, rfl⟩
 have s1 := zf (o := .lst ((nm :: ws).map V.str)) hwl;have g1 : upd H wl (.lst ((nm :: ws).map V.str)) wl = some (.lst (.str nm :: ws.map V.str)) := upd_same;generalize upd H wl _ = H1 at s1 g1 ⊢;walk_at "go";walk_at "lc";walk_at "go";refine qc (SqL.of g1) λ q1 hq1 => ?_;rw [show jz (.str nm :: ws.map V.str) (some 1) none = ws.map V.str from (qk _ 1 (by simp)).trans rfl] at *;have s2 := s1.trans (zf (o := .lst (ws.map V.str)) hq1);have g2 : upd H1 q1 (.lst (ws.map V.str)) q1 = some (.lst (ws.map V.str)) := upd_same;have gw := zf (o := .lst (ws.map V.str)) hq1 _ _ g1;generalize upd H1 q1 _ = H2 at s2 g2 gw ⊢;refine ⟨q1, rfl, .inl ⟨⟨_, SqL.of g2⟩, λ _ _ _ _ acc hacc => ?_⟩⟩;refine jK (K := K) (a := q1) (xs := ws.map V.str) (λ i σ H' => ∃ v0, σ = [v0] /\ Same H2 H' /\ H' acc = some (.lst ((ws.take i).map λ w => Wa (qG w)))) ⟨_, rfl, zf hacc, upd_same⟩ (λ i σ H' _ h => by obtain ⟨_, _, s, _⟩ := h;exact SqL.of (s _ _ g2)) ?_ ?_
 ·rintro i x σ H3 hi ⟨v0, rfl, s3, g3⟩;rw [getElem?_map, Option.map_eq_some_iff] at hi;obtain ⟨n, hn, rfl⟩ := hi;have hil := (List.getElem?_eq_some_iff.mp hn).1;have il := sw n (mem_cons_of_mem _ (mem_of_getElem? hn));rw [length_cons] at sl;walk_at "go";refine uc (Qk T).mono ⟨n, rfl, by lia, λ H4 s4 => ?_⟩;refine ⟨_, s4 _ _ g3, Nat.lt_of_lt_of_le (by rw [length_map, length_take];lia) z3, _, rfl, λ b o hb => ?_, ?_⟩
  ·rw [upd_ne (ne_of_none hb hacc)];exact s4 _ _ (s3 b o hb)
  ·rw [upd_same, take_add_one, hn, map_append];rfl
 rintro σ H3 ⟨v0, rfl, s3, g3⟩;rw [length_map, take_length] at g3;walk_at "go";refine ⟨acc, _, rfl, .inl (SqL.of g3), rfl, zbo _, ?_⟩;obtain ⟨hn0, hn1⟩ := J9 ws;simp only at kP kN;cases en : j3 ws with
 | none =>
  rw [zbk ws (hn0 en)];walk_at "go";exact kN (λ p hp => by rw [en] at hp;cases hp) _ (s2.trans s3)
 | some ns =>
  obtain ⟨e1, nb⟩ := hn1 ns en;rw [e1] at g3 ⊢;rw [en] at kP kN;rw [zc5];walk_at "go";refine ⟨a.BadBelt, a.BadKnot, T.g_BadBelt, T.S_BadBelt, T.g_BadKnot, T.S_BadKnot, λ pn => ?_⟩;walk_at "go";have s03 := s2.trans s3;refine uc (XJ T).mono (zS (SqL.of (s3 _ _ gw)) at0 ⟨nm, acc, ns, rfl, g3, nb, λ z => kN (λ p hp => by rw [Option.bind_some, z] at hp;cases hp) _ s03, λ p hp => ⟨λ ok v' H' s' rp => ?_, λ nok H' s' => ?_⟩⟩)
  ·refine kP p (by rw [Option.bind_some, hp]) ok v' H' (s03.trans s') (rp.keep λ b o hb ho => ⟨?_, ho⟩);exact z9 s03 hb
  ·have q := kN (λ p' hp' => by rw [Option.bind_some, hp] at hp';cases hp';exact nok) H' (s03.trans s');cases p with
   | belt rm pc => exact ⟨a.BadBelt, rfl, .inl ⟨T.E_BadBelt_BadBelt, λ _ _ => q⟩⟩
   | knot r => exact ⟨a.BadKnot, rfl, .inr ⟨T.E_BadKnot_BadBelt, T.E_BadKnot_BadKnot, λ _ _ => q⟩⟩
open Classical in
noncomputable def qx (s : Option (List (Int × Int) × List Row)) (x : Str) : Option (List (Int × Int) × List Row) := match s, j1 x with
 | some (bs, rs), some (.belt rm pc) => if z4 rm pc /\ rs = [] then some (bs ++ [(rm, pc)], rs) else none
 | some (bs, rs), some (.knot r) => if r.ok then some (bs, rs ++ [r]) else none
 | _, _ => none
noncomputable def rdF (rows : List Str) : Option (List (Int × Int) × List Row) := rows.foldl qx (some ([], []))
theorem zaE {rows : List Str} {i : Nat} {x : Str} (h : rows[i]? = some x) : rdF (rows.take (i + 1)) = qx (rdF (rows.take i)) x := by
 unfold rdF;rw [take_add_one, h, foldl_append]
 rfl
theorem zcp : ∀ {rows : List Str} {bs : List (Int × Int)} {rs : List Row}, rdF rows = some (bs, rs) -> (∀ b ∈ bs, z4 b.1 b.2) /\ (∀ r ∈ rs, r.ok) /\ bs.length + rs.length = rows.length := by
 intro rows;generalize hn : rows.length = n
 induction n generalizing rows with
 | zero =>
  intro bs rs h;rw [length_eq_zero_iff] at hn;subst hn;cases h;exact ⟨(λ b hb => nomatch hb), (λ r hr => nomatch hr), rfl⟩
 | succ n ih =>
  intro bs rs h;have ne : rows ≠ [] := λ z => by rw [z] at hn;cases hn
  have e : rows = rows.dropLast ++ [rows.getLast ne] := (List.dropLast_concat_getLast ne).symm;have l : rows.dropLast.length = n := by rw [length_dropLast, hn];rfl
  rw [e] at h;unfold rdF at h;rw [foldl_append] at h;have h : qx (rdF rows.dropLast) (rows.getLast ne) = some (bs, rs) := h;cases e1 : rdF rows.dropLast with
  | none => rw [e1] at h;unfold qx at h;cases h
  | some s =>
   obtain ⟨bs', rs'⟩ := s;obtain ⟨q1, q2, q3⟩ := ih l e1;rw [e1] at h;unfold qx at h;cases e2 : j1 (rows.getLast ne) with
   | none => rw [e2] at h;cases h
   | some p =>
    rw [e2] at h;cases p with
    | belt rm pc =>
     simp only at h
     split at h
     ·rename_i z;cases h;refine ⟨λ b hb => ?_, q2, by rw [length_append];simp;lia⟩;rcases List.mem_append.mp hb with hb|hb
      ·exact q1 b hb
      ·rw [List.mem_singleton.mp hb];exact z.1
     ·cases h
    | knot r =>
     simp only at h
     split at h
     ·rename_i z;cases h;refine ⟨q1, λ r' hr => ?_, by rw [length_append];simp;lia⟩;rcases List.mem_append.mp hr with hr|hr
      ·exact q2 r' hr
      ·rw [List.mem_singleton.mp hr];exact z
     ·cases h
def zcL (K : PySem.W.Frag) (a : Ad) : Sp := λ vs H Q E => ∃ (rows : List Str), vs = [.str (Str.join "\n" rows)] /\ rows ≠ [] /\ rows.length <= 100 /\ (∀ x ∈ rows, 10 ∉ x.cps.toList /\ x.length <= 10000) /\
 (∀ i, i < rows.length -> rdF (rows.take i) ≠ none -> rdF (rows.take (i + 1)) = none -> ∀ (D : Addr) H', Same H H' -> H' D = none -> E (.int D a.BadRow) none (upd H' D (.xd [("line", .int (i + 1 : Nat))]))) /\
 ∀ bs rs, rdF rows = some (bs, rs) -> (qv rs).length < 64 /\ (zU rs).length < 64 /\ (qw bs rs -> ∀ v' H', Same H H' -> Rep H' (Off []) v' (zdR a bs rs) -> Q v' H') /\ (¬ qw bs rs -> ∀ H', Same H H' -> E (.ref a.BadWork) none H')
theorem XZ {rows : List Str} (h0 : rows ≠ []) (h : ∀ x ∈ rows, 10 ∉ x.cps.toList /\ x.length <= 10000) : Txt.split (Str.join "\n" rows) (Str.ofString "\n") = rows := by
 rw [show Str.join "\n" rows = Str.join (Str.ofString "\n") rows from rfl, zd1];exact x6 h0 λ x hx => (h x hx).1
theorem zaB {rows : List Str} (hl : rows.length <= 100) (h : ∀ x ∈ rows, 10 ∉ x.cps.toList /\ x.length <= 10000) : (Str.join "\n" rows).length + 2 <= sizeLine := by
 have h1 := StrLaws.join_length_le "\n" rows;have h2 := jA (m := 10000) λ x hx => (h x hx).2;have h3 : (Str.ofString "\n").length = 1 := by decide +kernel
 have z3 : 3000000 <= sizeLine := by decide
 have h4 : rows.length * 10000 <= 1000000 := by lia
 rw [h3] at h1
 lia
theorem vJ (T : Txt K mg a) : Cal P w K mg base "read_work" 7 ["text"] [] (zcL K a) := T.h_read_work.cal λ F => by
 refine F.okx Q4 ?_ ?_
 ·walk_at "i"
 walk_at "j";obtain ⟨rows, rfl, r0, r100, rf, kB, kW⟩ := h;walk_at "T";refine ⟨_, (zi (zI 1 Q4.nd (zv ze))  (zi (zI 2 Q4.nd (zv ze))  (qo (jh xl rfl (Jk (za (z7 PySem.F.plainAttrs_str PySem.F.slot_str_split PySem.F.type_str_split ZK (pq 0) (za zl ze)) ze)) (ve (n := 2) rfl (z8 (qI 3 Q4.nd) (z8 (qI 4 Q4.nd) xL)))  (zi (zI 5 Q4.nd (z6 ⟨rfl, rfl, rfl⟩ hr (za (pq 4) ze)))  (zh (zC (qK (zJ ji zT (za (pq 5) (za qC ze))) (λ _ => rfl))  (zh (zw (z7 PySem.F.plainAttrs_list PySem.F.slot_list_append PySem.F.type_list_append zL (pq 2) (za (pq 5) ze))))  (zh (zC (PW.pt (pw_and (qK (zJ ji zT (za (pq 5) (za qC ze))) (λ _ => rfl)) (pw_and1 (zm (zR hr.units1) (zJ zG zF (za (pq 2) ze)) zg (zq _)))))  (zh (zw (z7 PySem.F.plainAttrs_list PySem.F.slot_list_append PySem.F.type_list_append zL (pq 1) (za (pq 5) ze))))  (zh (VT ⟨rfl, rfl, rfl⟩ rfl hr (za (zj zn (pq 3) zg) ze)))))))))  (zh (zu (jF (x := "Work") ⟨rfl, rfl, rfl⟩ hr (za (pq 1) (za (pq 2) ze)))))))), ?_⟩;walk_at "go";intro B hB;walk_at "go";intro R hR;have s1 := (zf (o := .lst []) hB).trans (zf (o := .lst []) hR);have nBR : B ≠ R := ne_of_none upd_same hR;have gB := upd_keep (o := .lst []) (upd_same (H := H) (a := B) (o := .lst [])) hR;have gR : upd (upd H B (.lst [])) R (.lst []) R = some (.lst []) := upd_same;have nR := zr hR;generalize upd (upd H B (.lst [])) R (.lst []) = H1 at s1 gB gR ⊢;have nw : ∀ m ∈ [B, R], H m = none := λ m hm => by
  simp only [mem_cons, not_mem_nil, or_false] at hm;rcases hm with rfl|rfl
  ·exact hB
  ·exact nR
 walk_at "go";refine cut (λ σ' H' => ∃ v3 v4 v5 bv kv bs rs, σ' = [some (.str (Str.join "\n" rows)), some (.ref B), some (.ref R), v3, v4, v5] /\ Same H H' /\ H' B = some (.lst bv) /\ H' R = some (.lst kv) /\ rdF rows = some (bs, rs) /\ Bts a H' (Off [B, R]) bv bs /\ Kns a H' (Off [B, R]) kv rs) ?_ ?_
 ·walk_at "for";walk_at "go";refine ⟨jg, _, _, rfl, rfl, by decide +kernel, zaB r100 rf, λ q hq => ?_⟩;rw [XZ r0 rf];have s2 := zf (o := .lst (rows.map V.str)) hq;have gq : upd H1 q (.lst (rows.map V.str)) q = some (.lst (rows.map V.str)) := upd_same;have nq : q ∉ [B, R] := λ z => by
   simp only [mem_cons, not_mem_nil, or_false] at z;rcases z with rfl|rfl
   ·rw [gB] at hq;cases hq
   ·rw [gR] at hq;cases hq
  have gB2 := s2 _ _ gB;have gR2 := s2 _ _ gR;generalize upd H1 q _ = H2 at s2 gq gB2 gR2 ⊢;refine ⟨q, _, rfl, gq, ?_⟩;refine zdO (K := K) (a := q) (xs := rows.map V.str) (λ i σ' H' => ∃ v3 v4 v5 bv kv bs rs, σ' = [some (.str (Str.join "\n" rows)), some (.ref B), some (.ref R), v3, v4, v5] /\ Fr [B, R] H2 H' /\ H' B = some (.lst bv) /\ H' R = some (.lst kv) /\ rdF (rows.take i) = some (bs, rs) /\ Bts a H' (Off [B, R]) bv bs /\ Kns a H' (Off [B, R]) kv rs)
   ⟨_, _, _, [], [], [], [], rfl, Fr.refl, gB2, gR2, rfl, .nil, .nil⟩ (λ i σ H' _ h => by obtain ⟨_, _, _, _, _, _, _, _, fr, _⟩ := h;exact SqL.of (fr _ _ nq gq)) ?_ ?_
  ·rintro i x t σ' H3 hi ht ⟨v3, v4, v5, bv, kv, bs, rs, rfl, f3, gB3, gR3, hrd, hb3, hk3⟩;rw [getElem?_map, Option.map_eq_some_iff] at hi;obtain ⟨ln, hln, rfl⟩ := hi;have il := (List.getElem?_eq_some_iff.mp hln).1;have lm := rf ln (mem_of_getElem? hln);have off3 : ∀ {b : Addr}, H3 b = none -> b ∉ [B, R] := λ {b} hb z => by
    simp only [mem_cons, not_mem_nil, or_false] at z;rcases z with rfl|rfl
    ·rw [gB3] at hb;cases hb
    ·rw [gR3] at hb;cases hb
   have s4 := zf (o := .tup [.int i, .str ln]) ht;refine un2 upd_same ?_;generalize upd H3 t (.tup [.int i, .str ln]) = H4 at s4 ⊢;walk_at "go";have hsu := zaE hln;rw [hrd] at hsu;have hne : rdF (rows.take i) ≠ none := by rw [hrd];exact λ z => nomatch z
   have sH3 : Same H H3 := ((s1.trans s2).fr.trans f3).same nw;have bl := zcp hrd;rw [length_take] at bl;have raise : rdF (rows.take (i + 1)) = none -> ∀ {H5 : Hp}, Same H H5 -> ∀ {e : Addr}, H5 e = none -> Zm a [.ref e, .int ((i : Int) + 1)] (upd H5 e (j5 e (.ref a.BadRow))) (λ v H2 => v = .non /\ ∃ v', H2 e = some (j5 e v') /\ QR v' = some a.BadRow /\ EX v' none (drop H2 e)) (λ _ _ _ => False) := λ hb {H5} s5 {e} he => by
    refine ⟨e, i + 1, rfl, upd_same, by lia, λ D hD Dne => ⟨rfl, _, upd_same, rfl, ?_⟩⟩;rw [zbq he Dne];rw [upd_ne Dne] at hD;exact kB i il hne hb D H5 s5 hD
   refine uc (XH T).mono ⟨ln, rfl, by lia, λ p hp ok v' H5 s5 rp => ?_, λ hno H5 s5 => ?_⟩
   rotate_left
   ·walk_at "go";have hb : rdF (rows.take (i + 1)) = none := by
     rw [hsu];unfold qx;cases e : j1 ln with
     | none => rfl
     | some p =>
      cases p with
      | belt rm pc => exact if_neg λ z => hno _ e z.1
      | knot r => exact if_neg (hno _ e)
    refine ⟨.ref a.Knot, _, T.g_Knot, rfl, _, _, _, _, rfl, .old .non, .inl ⟨_, rfl, T.k1_non_Knot⟩, ?_⟩;walk_at "go";refine ⟨.ref a.Belt, _, T.g_Belt, rfl, _, _, _, _, rfl, .old .non, .inl ⟨_, rfl, T.k1_non_Belt⟩, ?_⟩;walk_at "go";exact ⟨a.BadRow, _, _, (Xw T).mono, λ e he => raise hb (sH3.trans (s4.trans s5)) he⟩
   ·have s35 := s4.trans s5;have hsu : rdF (rows.take (i + 1)) = _ := hsu;unfold qx at hsu;rw [hp] at hsu;cases p with
    | belt rm pc =>
     have hBt : BtP a H5 (New H4) v' (rm, pc) := rp;obtain ⟨yb, dxb, fb, rfl, pyb, hyb, f1, f2⟩ := hBt.inv;walk_at "go";refine ⟨.ref a.Knot, _, T.g_Knot, rfl, _, _, _, _, rfl, T.W_Belt.ty T.C_Belt hyb, .inl ⟨_, rfl, T.k1_Belt_Knot⟩, ?_⟩;walk_at "go";refine ⟨.ref a.Belt, _, T.g_Belt, rfl, _, _, _, _, rfl, T.W_Belt.ty T.C_Belt hyb, .inl ⟨_, rfl, T.k1_Belt_Belt⟩, ?_⟩;walk_at "go";refine ⟨_, .inl ⟨_, SqL.of (s35 _ _ gR3), rfl⟩, ?_⟩;rw [hk3.len];refine zN (λ z => ?_) (λ z => ?_)
     ·have er : rs = [] := List.length_eq_zero_iff.mp (by lia);simp only at hsu;rw [if_pos ⟨ok, er⟩] at hsu;walk_at "go";refine ⟨.inl ⟨rfl, _, SqL.of (s35 _ _ gB3)⟩, B, bv, _, rfl, rfl, s35 _ _ gB3, zy (by rw [hb3.len];lia), ?_⟩;have f6 : Fr [B, R] H5 (upd H5 B (.lst (bv ++ [.ref yb]))) := qV (by simp);have f36 := s35.fr.trans f6;refine ⟨_, _, _, bv ++ [.ref yb], kv, _, _, rfl, f3.trans f36, upd_same, by rw [upd_ne nBR.symm];exact s35 _ _ gR3, hsu, ?_, hk3.keep λ b o hp hb => ⟨hp, f36 _ _ hp hb⟩⟩;exact Bts.push (hb3.keep λ b o hp hb => ⟨hp, f36 _ _ hp hb⟩) (hBt.keep λ b o hp hb => ⟨off3 (z9 s4 hp), f6 _ _ (off3 (z9 s4 hp)) hb⟩)
     ·simp only at hsu;rw [if_neg (λ y => z (by rw [y.2];rfl))] at hsu;walk_at "go";exact ⟨a.BadRow, _, _, (Xw T).mono, λ e he => raise hsu (sH3.trans s35) he⟩
    | knot r =>
     have hKn : KnP a H5 (New H4) v' r := rp;obtain ⟨yk, dxk, m1, m2, m3, fk, rfl, _, _, _, _, hyk, _⟩ := hKn.inv;simp only at hsu;rw [if_pos (show r.ok from ok)] at hsu;walk_at "go";refine ⟨.ref a.Knot, _, T.g_Knot, rfl, _, _, _, _, rfl, (WT T _).ty (CT T _) hyk, .inl ⟨_, rfl, KT T _⟩, ?_⟩;walk_at "go";refine ⟨.inl ⟨rfl, _, SqL.of (s35 _ _ gR3)⟩, R, kv, _, rfl, rfl, s35 _ _ gR3, zy (by rw [hk3.len];lia), ?_⟩;have f6 : Fr [B, R] H5 (upd H5 R (.lst (kv ++ [.ref yk]))) := qV (by simp);have f36 := s35.fr.trans f6;refine ⟨_, _, _, bv, kv ++ [.ref yk], _, _, rfl, f3.trans f36, by rw [upd_ne nBR];exact s35 _ _ gB3, upd_same, hsu, hb3.keep λ b o hp hb => ⟨hp, f36 _ _ hp hb⟩, ?_⟩;exact Kns.append (hk3.keep λ b o hp hb => ⟨hp, f36 _ _ hp hb⟩) (Kns.one (hKn.keep λ b o hp hb => ⟨off3 (z9 s4 hp), f6 _ _ (off3 (z9 s4 hp)) hb⟩))
  ·rintro σ' H3 ⟨v3, v4, v5, bv, kv, bs, rs, rfl, f3, gB3, gR3, hrd, hb3, hk3⟩;rw [length_map, take_length] at hrd;exact ⟨_, _, _, bv, kv, bs, rs, rfl, ((s1.trans s2).fr.trans f3).same nw, gB3, gR3, hrd, hb3, hk3⟩
 rintro σ' H3 ⟨v3, v4, v5, bv, kv, bs, rs, rfl, s3, gB3, gR3, hrd, hb3, hk3⟩;obtain ⟨lf, lt, kO, kE⟩ := kW bs rs hrd;obtain ⟨bo, ro, le⟩ := zcp hrd;walk_at "go";refine ⟨a.Work, _, _, _, (zdd T).mono, ?_⟩;intro y dy hy hdy hne;refine ⟨y, dy, B, R, bv, kv, bs, rs, λ b => b ≠ y, rfl, upd_same, ne_of_none gB3 hy, ne_of_none gR3 hy, λ _ h => h, qf hy hdy gB3, qf hy hdy gR3,
  hb3.keep λ b o _ hb => ⟨ne_of_none hb hy, qf hy hdy hb⟩, hk3.keep λ b o _ hb => ⟨ne_of_none hb hy, qf hy hdy hb⟩, bo, ro, lf, lt, by lia, λ wok H4 m1 m2 bv kv o4 g0 g1 g2 gB gK n1 n2 => ⟨rfl, ?_⟩, λ z H4 s4 => kE z H4 (s3.trans ((ju hy hdy).trans s4))⟩
 refine kO wok _ _ (s3.trans (Own.of_new hy hdy o4)) ?_;rw [zdv] at g0;exact xw (λ z => nomatch z) g0 rfl (.cons (gB.reps.all.mk' (λ z => nomatch z) g1) (.cons (gK.reps.all.mk' (λ z => nomatch z) g2) .nil))
def Bad (row : Str) : Prop := ∀ p, j1 row = some p -> ¬ okP p
def vE : List Str -> Option Prt
 | [] => none
 | nm :: ws => (j3 ws).bind (qh nm)
theorem wJ (row : Str) : j1 row = vE (Txt.split row (Str.ofString " ")) := by
 unfold j1 vE;cases Txt.split row (Str.ofString " ") <;> rfl
theorem Qw {ws : List Str} (h0 : ws ≠ []) (h : ∀ x ∈ ws, 32 ∉ x.cps.toList) : j1 (Str.join (Str.ofString " ") ws) = vE ws := by
 rw [wJ, Z6, x6 h0 h]
theorem QA : ∀ {ws : List Str}, (∃ w ∈ ws, qG w = none) -> j3 ws = none
 | [], h => by obtain ⟨_, h, _⟩ := h;cases h
 | w :: ws, ⟨x, hx, e⟩ => by
  unfold j3;rcases List.mem_cons.mp hx with rfl|hx
  ·rw [e]
  ·rw [QA ⟨x, hx, e⟩];cases qG w <;> rfl
theorem wL : ∀ {ns : List Int}, (∀ n ∈ ns, 0 <= n /\ n < zo) -> j3 (ns.map zB) = some ns
 | [], _ => rfl
 | n :: ns, h => by
  have h1 := h n (mem_cons_self ..);rw [map_cons, j3, Vp h1.1 h1.2, wL λ m hm => h m (mem_cons_of_mem _ hm)];simp only;rw [Int.toNat_of_nonneg h1.1]
theorem xR {nm : Str} {ws : List Str} (h : ∀ x ∈ nm :: ws, 32 ∉ x.cps.toList) (e : ∃ w ∈ ws, qG w = none) : Bad (Str.join (Str.ofString " ") (nm :: ws)) := λ p hp => by
 rw [Qw (by simp) h, vE, QA e] at hp;cases hp
theorem XO {nm : Str} {ns : List Int} (h : 32 ∉ nm.cps.toList) (nb : ∀ n ∈ ns, 0 <= n /\ n < zo) (b : ∀ p, qh nm ns = some p -> ¬ okP p) : Bad (qP nm ns) := λ p hp => by
 rw [wJ, xa h nb, vE, wL nb] at hp;exact b p hp
def nmO : Option Wd -> Str
 | none => "belt"
 | some w => wdS w
def leastW : Option Wd -> Nat
 | none => 2
 | some .source => 3
 | some .drain => 2
 | some .parter => 3
 | some .first => 3
 | some .sieve => 4
 | some .joiner => 3
def mostW : Option Wd -> Nat
 | none => 2
 | some .source => 8
 | some .drain => 2
 | some .parter => 5
 | some .first => 5
 | some .sieve => 4
 | some .joiner => 5
theorem jc (k : Option Wd) : 32 ∉ (nmO k).cps.toList /\ 10 ∉ (nmO k).cps.toList := by
 cases k with
 | none => exact belt_free
 | some w => exact JI w
theorem ifn {x y : Str} {q : Prop} [Decidable q] {A B : Option Prt} (h : x ≠ y) : (if x = y /\ q then A else B) = B := if_neg λ z => h z.1
theorem ify {x : Str} {q : Prop} [Decidable q] {A B : Option Prt} : (if x = x /\ q then A else B) = if q then A else B := by
 by_cases h : q
 ·rw [if_pos ⟨rfl, h⟩, if_pos h]
 ·rw [if_neg (λ z => h z.2), if_neg h]
theorem vh (ns : List Int) : qh "belt" ns = if ns.length = 2 then some (.belt (ns.getD 0 0) (ns.getD 1 0)) else none := by
 unfold qh;rw [ify, @ifn (Str.ofString "belt") (Str.ofString "source") _ _ _ _ (by decide +kernel), @ifn (Str.ofString "belt") (Str.ofString "drain") _ _ _ _ (by decide +kernel), @ifn (Str.ofString "belt") (Str.ofString "parter") _ _ _ _ (by decide +kernel), @ifn (Str.ofString "belt") (Str.ofString "first") _ _ _ _ (by decide +kernel), @ifn (Str.ofString "belt") (Str.ofString "sieve") _ _ _ _ (by decide +kernel), @ifn (Str.ofString "belt") (Str.ofString "joiner") _ _ _ _ (by decide +kernel)]
theorem Xh (ns : List Int) : qh "source" ns = if 2 <= ns.length then some (.knot ⟨.source, [], [ns.getD 0 0], ns.getD 1 0, ns.drop 2⟩) else none := by
 unfold qh;rw [@ifn (Str.ofString "source") (Str.ofString "belt") _ _ _ _ (by decide +kernel), ify, @ifn (Str.ofString "source") (Str.ofString "drain") _ _ _ _ (by decide +kernel), @ifn (Str.ofString "source") (Str.ofString "parter") _ _ _ _ (by decide +kernel), @ifn (Str.ofString "source") (Str.ofString "first") _ _ _ _ (by decide +kernel), @ifn (Str.ofString "source") (Str.ofString "sieve") _ _ _ _ (by decide +kernel), @ifn (Str.ofString "source") (Str.ofString "joiner") _ _ _ _ (by decide +kernel)]
theorem Wm (ns : List Int) : qh "drain" ns = if ns.length = 2 then some (.knot ⟨.drain, [ns.getD 0 0], [], ns.getD 1 0, []⟩) else none := by
 unfold qh;rw [@ifn (Str.ofString "drain") (Str.ofString "belt") _ _ _ _ (by decide +kernel), @ifn (Str.ofString "drain") (Str.ofString "source") _ _ _ _ (by decide +kernel), ify, @ifn (Str.ofString "drain") (Str.ofString "parter") _ _ _ _ (by decide +kernel), @ifn (Str.ofString "drain") (Str.ofString "first") _ _ _ _ (by decide +kernel), @ifn (Str.ofString "drain") (Str.ofString "sieve") _ _ _ _ (by decide +kernel), @ifn (Str.ofString "drain") (Str.ofString "joiner") _ _ _ _ (by decide +kernel)]
theorem Xi (ns : List Int) : qh "parter" ns = if 1 <= ns.length then some (.knot ⟨.parter, [ns.getD 0 0], ns.drop 1, 0, []⟩) else none := by
 unfold qh;rw [@ifn (Str.ofString "parter") (Str.ofString "belt") _ _ _ _ (by decide +kernel), @ifn (Str.ofString "parter") (Str.ofString "source") _ _ _ _ (by decide +kernel), @ifn (Str.ofString "parter") (Str.ofString "drain") _ _ _ _ (by decide +kernel), ify, @ifn (Str.ofString "parter") (Str.ofString "first") _ _ _ _ (by decide +kernel), @ifn (Str.ofString "parter") (Str.ofString "sieve") _ _ _ _ (by decide +kernel), @ifn (Str.ofString "parter") (Str.ofString "joiner") _ _ _ _ (by decide +kernel)]
theorem Wl (ns : List Int) : qh "first" ns = if 1 <= ns.length then some (.knot ⟨.first, [ns.getD 0 0], ns.drop 1, 0, []⟩) else none := by
 unfold qh;rw [@ifn (Str.ofString "first") (Str.ofString "belt") _ _ _ _ (by decide +kernel), @ifn (Str.ofString "first") (Str.ofString "source") _ _ _ _ (by decide +kernel), @ifn (Str.ofString "first") (Str.ofString "drain") _ _ _ _ (by decide +kernel), @ifn (Str.ofString "first") (Str.ofString "parter") _ _ _ _ (by decide +kernel), ify, @ifn (Str.ofString "first") (Str.ofString "sieve") _ _ _ _ (by decide +kernel), @ifn (Str.ofString "first") (Str.ofString "joiner") _ _ _ _ (by decide +kernel)]
theorem Wk (ns : List Int) : qh "sieve" ns = if ns.length = 4 then some (.knot ⟨.sieve, [ns.getD 0 0], [ns.getD 1 0, ns.getD 2 0], 0, [ns.getD 3 0]⟩) else none := by
 unfold qh;rw [@ifn (Str.ofString "sieve") (Str.ofString "belt") _ _ _ _ (by decide +kernel), @ifn (Str.ofString "sieve") (Str.ofString "source") _ _ _ _ (by decide +kernel), @ifn (Str.ofString "sieve") (Str.ofString "drain") _ _ _ _ (by decide +kernel), @ifn (Str.ofString "sieve") (Str.ofString "parter") _ _ _ _ (by decide +kernel), @ifn (Str.ofString "sieve") (Str.ofString "first") _ _ _ _ (by decide +kernel), ify, @ifn (Str.ofString "sieve") (Str.ofString "joiner") _ _ _ _ (by decide +kernel)]
theorem Xk (ns : List Int) : qh "joiner" ns = if 1 <= ns.length then some (.knot ⟨.joiner, ns.drop 1, [ns.getD 0 0], 0, []⟩) else none := by
 unfold qh;rw [@ifn (Str.ofString "joiner") (Str.ofString "belt") _ _ _ _ (by decide +kernel), @ifn (Str.ofString "joiner") (Str.ofString "source") _ _ _ _ (by decide +kernel), @ifn (Str.ofString "joiner") (Str.ofString "drain") _ _ _ _ (by decide +kernel), @ifn (Str.ofString "joiner") (Str.ofString "parter") _ _ _ _ (by decide +kernel), @ifn (Str.ofString "joiner") (Str.ofString "first") _ _ _ _ (by decide +kernel), @ifn (Str.ofString "joiner") (Str.ofString "sieve") _ _ _ _ (by decide +kernel), ify]
theorem ZN (k : Option Wd) (ns : List Int) : qh (nmO k) ns = match k with
  | none => if ns.length = 2 then some (.belt (ns.getD 0 0) (ns.getD 1 0)) else none
  | some .source => if 2 <= ns.length then some (.knot ⟨.source, [], [ns.getD 0 0], ns.getD 1 0, ns.drop 2⟩) else none
  | some .drain => if ns.length = 2 then some (.knot ⟨.drain, [ns.getD 0 0], [], ns.getD 1 0, []⟩) else none
  | some .parter => if 1 <= ns.length then some (.knot ⟨.parter, [ns.getD 0 0], ns.drop 1, 0, []⟩) else none
  | some .first => if 1 <= ns.length then some (.knot ⟨.first, [ns.getD 0 0], ns.drop 1, 0, []⟩) else none
  | some .sieve => if ns.length = 4 then some (.knot ⟨.sieve, [ns.getD 0 0], [ns.getD 1 0, ns.getD 2 0], 0, [ns.getD 3 0]⟩) else none
  | some .joiner => if 1 <= ns.length then some (.knot ⟨.joiner, ns.drop 1, [ns.getD 0 0], 0, []⟩) else none := by
 cases k with
 | none => exact vh ns
 | some w =>
  cases w
  ·exact Xh ns
  ·exact Wm ns
  ·exact Xi ns
  ·exact Wl ns
  ·exact Wk ns
  ·exact Xk ns
theorem Xj {k : Option Wd} {ns : List Int} {p : Prt} (h : qh (nmO k) ns = some p) (ok : okP p) : leastW k <= ns.length /\ ns.length <= mostW k := by
 rw [ZN] at h;cases k with
 | none =>
  simp only at h
  split at h
  ·rename_i z;rw [z];decide
  ·cases h
 | some w =>
  cases w <;> simp only at h <;> split at h <;> first|(cases h;done)|skip
  all_goals rename_i z;cases h
  ·obtain ⟨_, _, _, _, q5, q6, _⟩ := ok;simp only [length_drop] at q5 q6;simp only [leastW, mostW]
   lia
  ·rw [z];decide
  ·obtain ⟨_, q5, q6⟩ := ok;simp only [length_drop] at q5 q6;simp only [leastW, mostW]
   lia
  ·obtain ⟨_, q5, q6⟩ := ok;simp only [length_drop] at q5 q6;simp only [leastW, mostW]
   lia
  ·rw [z];decide
  ·obtain ⟨_, q5, q6⟩ := ok;simp only [length_drop] at q5 q6;simp only [leastW, mostW]
   lia
theorem Xy {x : Str} (h : ∃ c ∈ x.cps.toList, jJ c = false) : qG x = none := by
 unfold qG
 split
 ·rfl
 ·rw [if_neg];intro z;obtain ⟨c, hc, e⟩ := h;rw [List.all_eq_true.mp z c hc] at e;cases e
theorem Xz {x : Str} (h : 30 < x.length) : qG x = none := if_pos (.inr (.inl h))
theorem WB {x : Str} (h : x.cps.toList[0]? = some 48) (h1 : 1 < x.length) : qG x = none := if_pos (.inr (.inr ⟨h, h1⟩))
theorem xP {n : Int} (h0 : 0 <= n) (h1 : n < zo) : (zB n).length <= 30 := PyProof.Rows.toString_length_le h0 (by decide) (by unfold zo at h1;lia)
theorem zbj {n : Int} (h0 : 0 <= n) (h1 : n < zo) : 1 <= (zB n).length := by
 have := Vp h0 h1;unfold qG at this
 split at this
 ·cases this
 ·rename_i z;lia
theorem cat_mem {x y : Str} {c : Nat} : c ∈ (x ++ y).cps.toList ↔ c ∈ x.cps.toList \/ c ∈ y.cps.toList := by
 show c ∈ (x.cps ++ y.cps).toList ↔ _
 rw [Array.toList_append, mem_append]
def zcK : Sp := λ vs H Q _ => ∃ c : Int, vs = [.int c] /\ ∀ d : Nat, jJ d = false -> d ≠ 32 -> d ≠ 10 -> Q (.str ⟨#[d]⟩) H
theorem XM (T : Txt K mg a) : Cal P w K mg base "_law_sign_by" 1 ["_law_cell"] [] zcK := T.h_L_sign_by.cal λ F => by
 refine F.okx Q8 ?_ ?_
 ·walk_at "i"
 walk_at "j";obtain ⟨c, rfl, k⟩ := h;walk_at "T";refine ⟨_, (zH (zI 1 Q8.nd zl)  (zH (zI 1 Q8.nd (zj zn (pq 1) zl))  (zh (zu (zX (pq 1) (zD (pq 0))))))), ?_⟩;walk_at "go";have e : (Str.ofString "!\"#$&'()*+,-./:;<=>?@ABCDEFGHIJKLMNOPQRSTUVWXYZ[\\]^_`" ++ Str.ofString "abcdefghijklmnopqrstuvwxyz{|}~").cps.toList.length = 83 := by decide +kernel
 have al : ((Str.ofString "!\"#$&'()*+,-./:;<=>?@ABCDEFGHIJKLMNOPQRSTUVWXYZ[\\]^_`" ++ Str.ofString "abcdefghijklmnopqrstuvwxyz{|}~").cps.toList.all λ d => !jJ d && (d != 32 && d != 10)) = true := by decide +kernel
 have l1 : (Str.ofString "!\"#$&'()*+,-./:;<=>?@ABCDEFGHIJKLMNOPQRSTUVWXYZ[\\]^_`" ++ Str.ofString "abcdefghijklmnopqrstuvwxyz{|}~").length <= 100 := by decide +kernel
 refine ⟨by decide +kernel, ?_⟩;generalize (Str.ofString "!\"#$&'()*+,-./:;<=>?@ABCDEFGHIJKLMNOPQRSTUVWXYZ[\\]^_`" ++ Str.ofString "abcdefghijklmnopqrstuvwxyz{|}~") = S at e al l1 ⊢
 obtain ⟨m, hm⟩ : ∃ m : Nat, c % 83 = m := ⟨(c % 83).toNat, by lia⟩;have m83 : m < S.cps.toList.length := by lia
 have hd := getElem?_eq_getElem m83;generalize S.cps.toList[m] = d at hd;have q := List.all_eq_true.mp al d (mem_of_getElem? hd);simp only [Bool.and_eq_true, Bool.not_eq_true', bne_iff_ne, ne_eq] at q;rw [hm];exact .inr (.inr ⟨S, _, d, rfl, rfl, big (by lia), qg hd, k d q.1 q.2.1 q.2.2⟩)
def Bw (x : Str) : Prop := 10 ∉ x.cps.toList /\ x.length <= 100 /\ ((32 ∉ x.cps.toList /\ qG x = none) \/ (∃ y : Str, 32 ∉ y.cps.toList /\ (x = " " ++ y \/ x = y ++ " ")))
def WQ : Sp := λ vs H Q _ => ∃ (n c : Int), vs = [.str (zB n), .int c] /\ 0 <= n /\ n < zo /\ ∀ x, Bw x -> ∀ H', Same H H' -> Q (.str x) H'
theorem ZF (T : Txt K mg a) (F : Fun K "_law_no_number" "_law_no_number" jR f fd) : FnOk P w K mg base (CXr P w) 2 f fd ["_law_word", "_law_cell"] WQ := by
 refine F.okx Zr ?_ ?_
 ·walk_at "i"
 walk_at "j";obtain ⟨n, c, rfl, n0, n1, k⟩ := h;walk_at "T";refine ⟨_, (zH (zC (zm (zR hr.units1) (zD (pq 1)) zg (zq _))  (zH (zI 2 Zr.nd (zj qu (zA (pq 1)) (zJ zG zF (za (pq 0) ze))))  (zh (zu (zj zn (zj zn (zK WR (pq 0) zV (zQ (pq 2))) (z6 ⟨rfl, rfl, rfl⟩ hr (za (zA (pq 1)) ze))) (zK WR (pq 0) (zQ (zj zn (pq 2) (zD (zA (pq 1))))) zV)))))  zp)  (zH (zC (zm (zR hr.units1) (zD (pq 1)) zg (zq _))  (zh (zu (zj zn zl (pq 0))))  zp)  (zh (zu (zX (zv (za zl (za (zj Vc zl zg) (za (zj zn zl (pq 0)) (za (zj zn (pq 0) zl) (za (zj zn zl (pq 0)) (za (zj zn (pq 0) (zj Vc zl zg)) (za zl ze)))))))) (zD (zA (pq 1)))))))), ?_⟩;walk_at "go";have l30 := xP n0 n1;have l1 := zbj n0 n1;have dg := ZV n0;have f10 : 10 ∉ (zB n).cps.toList := qU n0 (by decide);have f32 : 32 ∉ (zB n).cps.toList := qU n0 (by decide);have z3 : 3000000 <= sizeLine := by decide
 have fit : ∀ {m : Nat}, m <= 1000 -> m <= sizeLine := λ h => by lia
 generalize zB n = wd at l30 l1 dg f10 f32;have one : ∀ d : Nat, (⟨#[d]⟩ : Str).length = 1 := λ d => rfl;refine zN (λ _ => ?_) (λ _ => zN (λ _ => ?_) (λ _ => ?_))
 ·refine ⟨m_len, wd.length, ⟨fit (by lia), rfl⟩, by lia, wd, rfl, fit (by lia), λ y ly sy => ?_⟩;refine uc (XM T).mono ⟨_, rfl, λ d d1 d2 d3 => ?_⟩;show xy _ _ _ _ _
  rw [rd_addS];refine ⟨fit (by rw [one];lia), wd, rfl, fit (by lia), λ z lz sz => ?_⟩;show xy _ _ _ _ _
  rw [rd_addS];refine ⟨fit (by rw [Str.length_append, one];lia), k _ ⟨?_, by rw [Str.length_append, Str.length_append, one];lia, .inl ⟨?_, Xy ⟨d, ?_, d1⟩⟩⟩ _ (Same.refl _)⟩
  ·intro h;rcases cat_mem.mp h with h|h
   ·rcases cat_mem.mp h with h|h
    ·exact f10 (sy _ h)
    ·exact d3 (List.mem_singleton.mp h).symm
   ·exact f10 (sz _ h)
  ·intro h;rcases cat_mem.mp h with h|h
   ·rcases cat_mem.mp h with h|h
    ·exact f32 (sy _ h)
    ·exact d2 (List.mem_singleton.mp h).symm
   ·exact f32 (sz _ h)
  ·exact cat_mem.mpr (.inl (cat_mem.mpr (.inr (by simp))))
 ·have e0 : (Str.ofString "0").length = 1 := by decide +kernel
  have c0 : (Str.ofString "0").cps = #[48] := by decide +kernel
  refine ⟨fit (by lia), k _ ⟨?_, by rw [Str.length_append];lia, .inl ⟨?_, WB ?_ (by rw [Str.length_append];lia)⟩⟩ _ (Same.refl _)⟩
  ·intro h;rcases cat_mem.mp h with h|h
   ·rw [c0] at h;simp at h
   ·exact f10 h
  ·intro h;rcases cat_mem.mp h with h|h
   ·rw [c0] at h;simp at h
   ·exact f32 h
  ·show ((Str.ofString "0").cps ++ wd.cps).toList[0]? = some 48
   rw [c0];simp
 ·have e1 : (Txt.mul (Str.ofString "1") 31).length = 31 /\ 10 ∉ (Txt.mul (Str.ofString "1") 31).cps.toList /\ 32 ∉ (Txt.mul (Str.ofString "1") 31).cps.toList := ⟨by decide +kernel, by decide +kernel, by decide +kernel⟩;have e2 : (Txt.mul (Str.ofString "0") 31).length = 31 /\ 10 ∉ (Txt.mul (Str.ofString "0") 31).cps.toList /\ 32 ∉ (Txt.mul (Str.ofString "0") 31).cps.toList := ⟨by decide +kernel, by decide +kernel, by decide +kernel⟩;have e3 : (Str.ofString " ").length = 1 := by decide +kernel
  have e4 : (Str.ofString "-").length = 1 := by decide +kernel
  have c4 : (Str.ofString "-").cps.toList = [45] := by decide +kernel
  have c3 : (Str.ofString " ").cps.toList = [32] := by decide +kernel
  refine ⟨_, 31, rfl, rfl, by decide +kernel, by decide, by decide, fit (by lia), fit (by lia), fit (by lia), _, 31, rfl, rfl, by decide +kernel, by decide, by decide, ?_⟩;show xy _ _ _ _ _
  rw [rd_addS];generalize Txt.mul (Str.ofString "1") 31 = x1 at e1 ⊢;generalize Txt.mul (Str.ofString "0") 31 = x2 at e2 ⊢;refine ⟨fit (by lia), λ p hp => ?_⟩;have key : ∀ x ∈ [Str.ofString "", x1, Str.ofString " " ++ wd, wd ++ Str.ofString " ", Str.ofString "-" ++ wd, wd ++ x2, Str.ofString "0x1"], Bw x := λ x hx => by
   simp only [mem_cons, not_mem_nil, or_false] at hx;rcases hx with rfl|rfl|rfl|rfl|rfl|rfl|rfl
   ·exact ⟨by decide +kernel, by decide +kernel, .inl ⟨by decide +kernel, by decide +kernel⟩⟩
   ·exact ⟨e1.2.1, by lia, .inl ⟨e1.2.2, Xz (by lia)⟩⟩
   ·refine ⟨λ h => ?_, by rw [Str.length_append];lia, .inr ⟨wd, f32, .inl rfl⟩⟩;rcases cat_mem.mp h with h|h
    ·rw [c3] at h;simp at h
    ·exact f10 h
   ·refine ⟨λ h => ?_, by rw [Str.length_append];lia, .inr ⟨wd, f32, .inr rfl⟩⟩;rcases cat_mem.mp h with h|h
    ·exact f10 h
    ·rw [c3] at h;simp at h
   ·refine ⟨λ h => ?_, by rw [Str.length_append];lia, .inl ⟨λ h => ?_, Xy ⟨45, cat_mem.mpr (.inl (by rw [c4];simp)), by decide⟩⟩⟩
    ·rcases cat_mem.mp h with h|h
     ·rw [c4] at h;simp at h
     ·exact f10 h
    ·rcases cat_mem.mp h with h|h
     ·rw [c4] at h;simp at h
     ·exact f32 h
   ·refine ⟨λ h => ?_, by rw [Str.length_append];lia, .inl ⟨λ h => ?_, Xz (by rw [Str.length_append];lia)⟩⟩
    ·rcases cat_mem.mp h with h|h
     ·exact f10 h
     ·exact e2.2.1 h
    ·rcases cat_mem.mp h with h|h
     ·exact f32 h
     ·exact e2.2.2 h
   ·exact ⟨by decide +kernel, by decide +kernel, .inl ⟨by decide +kernel, by decide +kernel⟩⟩
  obtain ⟨m, hm⟩ : ∃ m : Nat, c / 3 % 7 = m := ⟨(c / 3 % 7).toNat, by lia⟩;have m7 : m < [Str.ofString "", x1, Str.ofString " " ++ wd, wd ++ Str.ofString " ", Str.ofString "-" ++ wd, wd ++ x2, Str.ofString "0x1"].length := by
   show m < 7
   lia
  have hd := getElem?_eq_getElem m7;have hb := key _ (mem_of_getElem? hd);rw [hm];refine zS (SqL.of upd_same) (qg (j := m) ?_) (k _ hb _ (zf hp));exact (getElem?_map (f := V.str)).trans (by rw [hd])
theorem Ql (T : Txt K mg a) : Cal P w K mg base "_law_no_number" 2 ["_law_word", "_law_cell"] [] WQ := T.h_L_no_number.cal (ZF T)
structure Bs (ws : List Str) : Prop where
 ne : ws ≠ []
 bad : Bad (Str.join (Str.ofString " ") ws)
 nl : ∀ x ∈ ws, 10 ∉ x.cps.toList /\ x.length <= 100
 ln : ws.length <= 50
structure Gd (k : Option Wd) (ns : List Int) : Prop where
 nb : ∀ n ∈ ns, 0 <= n /\ n < zo
 ok : ∃ p, qh (nmO k) ns = some p /\ okP p
theorem Gd.len {k : Option Wd} {ns : List Int} (g : Gd k ns) : leastW k <= ns.length /\ ns.length <= mostW k := let ⟨_, h, o⟩ := g.ok;Xj h o
theorem Vf (k : Option Wd) : mostW k <= 8 /\ 2 <= leastW k /\ leastW k <= mostW k := by
 cases k with
 | none => decide
 | some w => cases w <;> decide
def zP (k : Option Wd) (ns : List Int) : List Str := nmO k :: ns.map zB
theorem Xc (k : Option Wd) : (nmO k).length <= 10 := by
 cases k with
 | none => decide +kernel
 | some w => cases w <;> decide +kernel
theorem wU {k : Option Wd} {ns : List Int} (nb : ∀ n ∈ ns, 0 <= n /\ n < zo) (l : ns.length <= 40) (b : ∀ p, qh (nmO k) ns = some p -> ¬ okP p) : Bs (zP k ns) := by
 refine ⟨λ z => (nomatch z), XO (jc k).1 nb b, λ x hx => ?_, by unfold zP;rw [length_cons, length_map];lia⟩;rcases List.mem_cons.mp hx with rfl|hx
 ·exact ⟨(jc k).2, Nat.le_trans (Xc k) (by decide)⟩
 ·obtain ⟨n, hn, rfl⟩ := List.mem_map.mp hx;have := nb n hn;exact ⟨qU this.1 (by decide), Nat.le_trans (xP this.1 this.2) (by decide)⟩
theorem str_ext {x y : Str} (h : x.cps.toList = y.cps.toList) : x = y := by
 cases x;cases y;simp only at h;rw [Array.toList_inj.mp h]
theorem wN {d : Nat} (x y : Str) : ∀ (pre post : List Str), Str.join ⟨#[d]⟩ (pre ++ (x ++ ⟨#[d]⟩ ++ y) :: post) = Str.join ⟨#[d]⟩ (pre ++ x :: y :: post)
 | [], [] => by
  apply str_ext;rw [nil_append, nil_append, qa];show ((x.cps ++ #[d]) ++ y.cps).toList = x.cps.toList ++ d :: y.cps.toList
  simp
 | [], z :: r => by
  apply str_ext;rw [nil_append, nil_append, qa, qa, qa];show ((x.cps ++ #[d]) ++ y.cps).toList ++ _ = _
  simp
 | [p], post => by
  have ih := wN (d := d) x y [] post;apply str_ext;show (Str.join ⟨#[d]⟩ (p :: (x ++ ⟨#[d]⟩ ++ y) :: post)).cps.toList = (Str.join ⟨#[d]⟩ (p :: x :: y :: post)).cps.toList
  rw [qa, qa];rw [nil_append, nil_append] at ih;rw [ih]
 | p :: q :: r, post => by
  have ih := wN (d := d) x y (q :: r) post;apply str_ext;show (Str.join ⟨#[d]⟩ (p :: q :: (r ++ (x ++ ⟨#[d]⟩ ++ y) :: post))).cps.toList = (Str.join ⟨#[d]⟩ (p :: q :: (r ++ x :: y :: post))).cps.toList
  rw [qa, qa];exact congrArg (λ z : Str => p.cps.toList ++ d :: z.cps.toList) ih
theorem js : qG (Str.ofString "") = none := by decide +kernel
theorem qY : ∀ c, c ∉ (Str.ofString "").cps.toList := λ c h => by
 rw [show (Str.ofString "").cps.toList = [] from by decide +kernel] at h;cases h
theorem vo (x : Str) : x ++ Str.ofString "" = x := by
 apply str_ext;show (x.cps ++ (Str.ofString "").cps).toList = _
 rw [show (Str.ofString "").cps = #[] from by decide +kernel];simp
theorem zac (x : Str) : Str.ofString "" ++ x = x := by
 apply str_ext;show ((Str.ofString "").cps ++ x.cps).toList = _
 rw [show (Str.ofString "").cps = #[] from by decide +kernel];simp
theorem XQ {x y : Int} (h : ¬ z4 x y) : ∀ p, qh (nmO none) [x, y] = some p -> ¬ okP p := λ p hp => by
 rw [ZN] at hp;cases hp;exact h
theorem WH {o v : Int} {ks : List Int} (h : ¬ (1 <= v /\ v <= 4)) : ∀ p, qh (nmO (some .source)) (o :: v :: ks) = some p -> ¬ okP p := λ p hp => by
 rw [ZN] at hp;simp only at hp;rw [if_pos (by simp)] at hp;cases hp;exact λ z => h ⟨z.2.2.1, z.2.2.2.1⟩
theorem zal {i v : Int} (h : ¬ (0 <= v /\ v <= 4)) : ∀ p, qh (nmO (some .drain)) [i, v] = some p -> ¬ okP p := λ p hp => by
 rw [ZN] at hp;cases hp;exact λ z => h ⟨z.2.2.1, z.2.2.2⟩
theorem zbD {k : Option Wd} {ns : List Int} (nb : ∀ n ∈ ns, 0 <= n /\ n < zo) (l : ns.length <= 40) : Bs ((nmO k ++ Str.ofString " ") :: ns.map zB) := by
 have fr : ∀ x ∈ ns.map zB, 32 ∉ x.cps.toList /\ 10 ∉ x.cps.toList /\ x.length <= 100 := λ x hx => by
  obtain ⟨n, hn, rfl⟩ := List.mem_map.mp hx;have := nb n hn;exact ⟨qU this.1 (by decide), qU this.1 (by decide), Nat.le_trans (xP this.1 this.2) (by decide)⟩
 refine ⟨λ z => (nomatch z), ?_, λ x hx => ?_, by rw [length_cons, length_map];lia⟩
 ·have e := wN (d := 32) (nmO k) (Str.ofString "") [] (ns.map zB);rw [<- Z6, vo] at e;rw [show (nmO k ++ Str.ofString " ") :: ns.map zB = [] ++ (nmO k ++ Str.ofString " ") :: ns.map zB from rfl, e];refine xR (λ x hx => ?_) ⟨_, mem_cons_self .., js⟩;rcases List.mem_cons.mp hx with rfl|hx
  ·exact (jc k).1
  ·rcases List.mem_cons.mp hx with rfl|hx
   ·exact qY _
   ·exact (fr x hx).1
 ·rcases List.mem_cons.mp hx with rfl|hx
  ·refine ⟨λ h => ?_, by rw [Str.length_append, show (Str.ofString " ").length = 1 from by decide +kernel];have := Xc k;lia⟩;rcases cat_mem.mp h with h|h
   ·exact (jc k).2 h
   ·rw [Z6] at h;simp at h
  ·exact (fr x hx).2
def zax (K : PySem.W.Frag) : Sp := λ vs H Q _ => ∃ (l : Addr) (k : Option Wd) (ns : List Int) (c : Int), vs = [.ref l, .int c] /\ H l = some (.lst ((zP k ns).map V.str)) /\ Gd k ns /\ ∀ L ws' H', Same H H' -> H' L = some (.lst (ws'.map V.str)) -> Bs ws' -> Q (.ref L) H'
theorem WG (T : Txt K mg a) : Cal P w K mg base "_law_beyond" 1 ["_law_words", "_law_cell"] [] (zax K) := T.h_L_beyond.cal λ F => by
 refine F.okx JU ?_ ?_
 ·walk_at "i"
 walk_at "j";obtain ⟨l, kd, ns, c, rfl, hl, gd, k⟩ := h;walk_at "T";refine ⟨_, (zi (zC (zm (zR hr.units1) (zX (pq 0) zg) zl (zq _))  (zi (zC (zm (zR hr.units1) (zD (pq 1)) zg (zq _))  (zh (zu (zv (za zl (za (jG xJ xK (za (zj zn (zj qE zg (zD (zA (pq 1)))) (zj qE (zD (zA (pq 1))) (zD (zA (pq 1))))) ze)) (za (zX (pq 0) zg) ze))))))  zp)  (zh (zu (zv (za zl (za (zX (pq 0) zg) (za (jG xJ xK (za (zj qE (zD (zA (pq 1))) (zj zn zg (zD (zA (pq 1))))) ze)) ze)))))))  zp)  (zi (zC (zm (zR hr.units1) (zX (pq 0) zg) zl (zq _))  (zh (zu (zj zn (zj zn (zK qb (pq 0) zV (zQ zg)) (zv (za (jG xJ xK (za (zj qE (zD (pq 1)) (zj zn zg (zD (zA (pq 1))))) ze)) ze))) (zK qb (pq 0) (zQ zg) zV))))  zp)  (zi (zC (zm (zR hr.units1) (zX (pq 0) zg) zl (zq _))  (zh (zu (zj zn (zK qb (pq 0) zV (zQ zg)) (zv (za (jG xJ xK (za (zj zn zg (Jm (zj qE (zA (pq 1)) zg))) ze)) ze)))))  zp)  (zh (zu (zj zn (zv (za (zj zn (zX (pq 0) zg) zl) ze)) (zK qb (pq 0) (zQ zg) zV))))))), ?_⟩;walk_at "go";refine zS (SqL.of hl) at0 ?_;walk_at "go";have len := gd.len;cases kd with
 | none =>
  obtain ⟨r, p, rfl⟩ : ∃ r p, ns = [r, p] := by
   match ns, len with
   | [x, y], _ => exact ⟨x, y, rfl⟩
  have nr := gd.nb r (by simp);have np := gd.nb p (by simp);have hl : H l = some (.lst [.str (Str.ofString "belt"), .str (zB r), .str (zB p)]) := hl;refine zN (λ _ => ?_) (λ z => absurd rfl z);walk_at "go";refine zN (λ _ => ?_) (λ _ => ?_)
  ·walk_at "go";obtain ⟨v, hv, hb⟩ : ∃ v : Int, 7 * (c / 2 % 2) + c / 4 % 2 * (c / 2 % 2) = v /\ (v = 0 \/ v = 7 \/ v = 8) := by
    refine ⟨_, rfl, ?_⟩;have h2 : c / 2 % 2 = 0 \/ c / 2 % 2 = 1 := by lia
    rcases h2 with h|h <;> rw [h] <;> lia
   rw [hv];have vb : ∀ n ∈ [v, p], 0 <= n /\ n < zo := λ n hn => by
    simp only [mem_cons, not_mem_nil, or_false] at hn;rcases hn with rfl|rfl
    ·unfold zo;lia
    ·exact np
   have v1 := vb v (by simp);exact ⟨mul_okL (by decide) (by decide), mul_okL (by lia) (by lia), qD v1.1 v1.2, zS (SqL.of hl) (show atI _ 2 = some _ from qg (j := 2) rfl) λ q hq => k q (zP none [v, p]) _ (zf hq) upd_same (wU vb (by show 2 <= 40;decide) (XQ λ z => by unfold z4 at z;lia))⟩
  ·walk_at "go";obtain ⟨v, hv, hb⟩ : ∃ v : Int, c / 2 % 2 * (5 + c / 4 % 90) = v /\ (v = 0 \/ 5 <= v) /\ v <= 100 := by
    refine ⟨_, rfl, ?_⟩;have h2 : c / 2 % 2 = 0 \/ c / 2 % 2 = 1 := by lia
    rcases h2 with h|h <;> rw [h] <;> lia
   have vb : ∀ n ∈ [r, v], 0 <= n /\ n < zo := λ n hn => by
    simp only [mem_cons, not_mem_nil, or_false] at hn;rcases hn with rfl|rfl
    ·exact nr
    ·unfold zo;lia
   have v1 := vb v (by simp);refine zS (SqL.of hl) (show atI _ 1 = some (.str (zB r)) from qg (j := 1) rfl) ⟨m_str, mul_okL (by lia) (by lia), ?_⟩;rw [hv];exact ⟨qD v1.1 v1.2, λ q hq => k q (zP none [r, v]) _ (zf hq) upd_same (wU vb (by show 2 <= 40;decide) (XQ λ z => by unfold z4 at z;lia))⟩
 | some w =>
  refine zN (λ z => absurd z (by cases w <;> decide +kernel)) (λ _ => ?_);walk_at "go";refine zS (SqL.of hl) at0 ?_;walk_at "go";by_cases ws : w = .source
  ·subst ws;refine zN (λ _ => ?_) (λ z => absurd rfl z);obtain ⟨o, pc, ks, rfl⟩ := two_cons (Nat.le_trans (by decide) len.1);have hl : H l = some (.lst (.str (Str.ofString "source") :: .str (zB o) :: .str (zB pc) :: (ks.map zB).map V.str)) := hl;obtain ⟨v, hv, hb⟩ : ∃ v : Int, c % 2 * (5 + c / 4 % 90) = v /\ (v = 0 \/ 5 <= v) /\ v <= 100 := by
    refine ⟨_, rfl, ?_⟩;have h2 : c % 2 = 0 \/ c % 2 = 1 := by lia
    rcases h2 with h|h <;> rw [h] <;> lia
   have l8 : (o :: pc :: ks).length <= 8 := len.2;simp only [length_cons] at l8;have vb : ∀ n ∈ o :: v :: ks, 0 <= n /\ n < zo := λ n hn => by
    rcases List.mem_cons.mp hn with rfl|hn
    ·exact gd.nb _ (by simp)
    ·rcases List.mem_cons.mp hn with rfl|hn
     ·unfold zo;lia
     ·exact gd.nb n (by simp [hn])
   have v1 := vb v (by simp);refine qc (SqL.of hl) λ q1 hq1 => ?_;rw [show jz (.str (Str.ofString "source") :: .str (zB o) :: .str (zB pc) :: (ks.map zB).map V.str) none (some 2) = [.str (Str.ofString "source"), .str (zB o)] from (qW _ 2 (by simp)).trans rfl] at *;have s1 := zf (o := .lst [.str (Str.ofString "source"), .str (zB o)]) hq1;have g1 : upd H q1 (.lst [.str (Str.ofString "source"), .str (zB o)]) q1 = some (.lst [.str (Str.ofString "source"), .str (zB o)]) := upd_same;generalize upd H q1 _ = H1 at s1 g1 ⊢;refine ⟨m_str, mul_okL (by lia) (by lia), ?_⟩;rw [hv];refine ⟨qD v1.1 v1.2, λ q2 hq2 => ?_⟩;have s2 := s1.trans (zf (o := .lst [.str (zB v)]) hq2);refine zZ (SqL.of (upd_keep g1 hq2)) (SqL.of upd_same) (zW (by simp)) λ q3 hq3 => ?_;have s3 := s2.trans (zf (o := .lst ([.str (Str.ofString "source"), .str (zB o)] ++ [.str (zB v)])) hq3);generalize upd H1 q2 (.lst [.str (zB v)]) = H2 at *;have g3 : upd H2 q3 (.lst ([.str (Str.ofString "source"), .str (zB o)] ++ [.str (zB v)])) q3 = some (.lst [.str (Str.ofString "source"), .str (zB o), .str (zB v)]) := upd_same;generalize upd H2 q3 _ = H3 at s3 g3 ⊢;refine qc (SqL.of (s3 _ _ hl)) λ q4 hq4 => ?_;rw [show jz (.str (Str.ofString "source") :: .str (zB o) :: .str (zB pc) :: (ks.map zB).map V.str) (some 3) none = (ks.map zB).map V.str from (qk _ 3 (by simp)).trans rfl] at *;have s4 := s3.trans (zf (o := .lst ((ks.map zB).map V.str)) hq4);refine zZ (SqL.of (upd_keep g3 hq4)) (SqL.of upd_same) (zW (by simp;lia)) λ q5 hq5 => ?_;exact k q5 (zP (some .source) (o :: v :: ks)) _ (s4.trans (zf hq5)) upd_same (wU vb (by simp;lia) (WH λ z => by lia))
  refine zN (λ z => absurd (QX (y := .source) z) ws) (λ _ => ?_);walk_at "go";refine zS (SqL.of hl) at0 ?_;walk_at "go";by_cases wd : w = .drain
  ·subst wd;refine zN (λ _ => ?_) (λ z => absurd rfl z);obtain ⟨i, pc, rfl⟩ : ∃ i pc, ns = [i, pc] := by
    match ns, len with
    | [x, y], _ => exact ⟨x, y, rfl⟩
   have hl : H l = some (.lst [.str (Str.ofString "drain"), .str (zB i), .str (zB pc)]) := hl;obtain ⟨v, hv, hb⟩ : ∃ v : Int, 5 + c / 4 * 48271 % 10000000000000000000000000000 = v /\ 5 <= v /\ v < zo := by
    refine ⟨_, rfl, by lia, by unfold zo;lia⟩
   have vb : ∀ n ∈ [i, v], 0 <= n /\ n < zo := λ n hn => by
    simp only [mem_cons, not_mem_nil, or_false] at hn;rcases hn with rfl|rfl
    ·exact gd.nb _ (by simp)
    ·exact ⟨by lia, hb.2⟩
   have v1 := vb v (by simp);refine qc (SqL.of hl) λ q1 hq1 => ?_;rw [show jz [.str (Str.ofString "drain"), .str (zB i), .str (zB pc)] none (some 2) = [.str (Str.ofString "drain"), .str (zB i)] from rfl] at *;have s1 := zf (o := .lst [.str (Str.ofString "drain"), .str (zB i)]) hq1;have g1 : upd H q1 (.lst [.str (Str.ofString "drain"), .str (zB i)]) q1 = some (.lst [.str (Str.ofString "drain"), .str (zB i)]) := upd_same;generalize upd H q1 _ = H1 at s1 g1 ⊢;refine ⟨m_str, mul_okR (by decide) (by decide), ?_⟩;rw [hv];refine ⟨qD v1.1 v1.2, λ q2 hq2 => ?_⟩;have s2 := s1.trans (zf (o := .lst [.str (zB v)]) hq2);refine zZ (SqL.of (upd_keep g1 hq2)) (SqL.of upd_same) (zW (by simp)) λ q3 hq3 => ?_;exact k q3 (zP (some .drain) [i, v]) _ (s2.trans (zf hq3)) upd_same (wU vb (by show 2 <= 40;decide) (zal λ z => by lia))
  refine zN (λ z => absurd (QX (y := .drain) z) wd) (λ _ => ?_);walk_at "go";refine zS (SqL.of hl) at0 ?_;walk_at "go";have l8 := Nat.le_trans len.2 (Vf _).1;have hl : H l = some (.lst (.str (nmO (some w)) :: (ns.map zB).map V.str)) := hl;refine ⟨big (by have := Xc (some w);rw [show (Str.ofString " ").length = 1 from by decide +kernel];lia), λ q1 hq1 => ?_⟩;have s1 := zf (o := .lst [.str (nmO (some w) ++ Str.ofString " ")]) hq1;have g1 : upd H q1 (.lst [.str (nmO (some w) ++ Str.ofString " ")]) q1 = some (.lst [.str (nmO (some w) ++ Str.ofString " ")]) := upd_same;generalize upd H q1 _ = H1 at s1 g1 ⊢;refine qc (SqL.of (s1 _ _ hl)) λ q2 hq2 => ?_;rw [show jz (.str (nmO (some w)) :: (ns.map zB).map V.str) (some 1) none = (ns.map zB).map V.str from (qk _ 1 (by simp)).trans rfl] at *;have s2 := s1.trans (zf (o := .lst ((ns.map zB).map V.str)) hq2);refine zZ (SqL.of (upd_keep g1 hq2)) (SqL.of upd_same) (zW (by simp;lia)) λ q3 hq3 => ?_;exact k q3 ((nmO (some w) ++ Str.ofString " ") :: ns.map zB) _ (s2.trans (zf hq3)) upd_same (zbD gd.nb (by lia))
theorem x9 {H H1 : Hp} {a : Addr} {o : HO} (s : Same H H1) (h : H a = none) : Same H (upd H1 a o) := λ b u hb => by rw [upd_ne (ne_of_none hb h)];exact s b u hb
theorem zbz {ws : List Str} (b : Bs ws) : Bad (Str.join (Str.ofString " ") ws) /\ 10 ∉ (Str.join (Str.ofString " ") ws).cps.toList /\ (Str.join (Str.ofString " ") ws).length <= 10000 := by
 refine ⟨b.bad, λ h => ?_, ?_⟩
 ·rw [Z6] at h;rcases ZM h with h|⟨x, hx, h⟩
  ·cases h
  ·exact (b.nl x hx).1 h
 ·have h1 := StrLaws.join_length_le (Str.ofString " ") ws;have h2 := jA (m := 100) λ x hx => (b.nl x hx).2;have h3 : (Str.ofString " ").length = 1 := by decide +kernel
  have h4 := b.ln;rw [h3] at h1
  lia
def Wo (x : Str) : Prop := 32 ∉ x.cps.toList /\ 10 ∉ x.cps.toList /\ x.length <= 100
theorem zcD {n : Int} (h : 0 <= n /\ n < zo) : Wo (zB n) := ⟨qU h.1 (by decide), qU h.1 (by decide), Nat.le_trans (xP h.1 h.2) (by decide)⟩
theorem wp {ns : List Int} (nb : ∀ n ∈ ns, 0 <= n /\ n < zo) : ∀ x ∈ ns.map zB, Wo x := λ x hx => by
 obtain ⟨n, hn, rfl⟩ := List.mem_map.mp hx;exact zcD (nb n hn)
theorem zan (k : Option Wd) : Wo (nmO k) := ⟨(jc k).1, (jc k).2, Nat.le_trans (Xc k) (by decide)⟩
theorem Ze : Wo (Str.ofString "") := ⟨qY _, qY _, by decide +kernel⟩
theorem Zd {nm : Str} {ws : List Str} (h : ∀ x ∈ nm :: ws, Wo x) (l : ws.length <= 40) (e : ∃ w ∈ ws, qG w = none) : Bs (nm :: ws) :=
 ⟨λ z => (nomatch z), xR (λ x hx => (h x hx).1) e, λ x hx => (h x hx).2, by rw [length_cons];lia⟩
theorem zdm {nm x : Str} {pre post : List Str} (h : ∀ y ∈ nm :: (pre ++ post), Wo y) (l : pre.length + post.length <= 30) (b : Bw x) : Bs (nm :: (pre ++ x :: post)) := by
 obtain ⟨b1, b2, b3⟩ := b;have hp : ∀ y ∈ pre, Wo y := λ y hy => h y (by simp [hy]);have hq : ∀ y ∈ post, Wo y := λ y hy => h y (by simp [hy]);have hn : Wo nm := h nm (by simp);have nl : ∀ y ∈ nm :: (pre ++ x :: post), 10 ∉ y.cps.toList /\ y.length <= 100 := λ y hy => by
  simp only [mem_cons, mem_append] at hy;rcases hy with rfl|hy|rfl|hy
  ·exact hn.2
  ·exact (hp y hy).2
  ·exact ⟨b1, b2⟩
  ·exact (hq y hy).2
 have ln : (nm :: (pre ++ x :: post)).length <= 50 := by simp;lia
 rcases b3 with ⟨b3, b4⟩|⟨y, hy, b3⟩
 ·refine ⟨λ z => (nomatch z), xR (λ y hy => ?_) ⟨x, by simp, b4⟩, nl, ln⟩;simp only [mem_cons, mem_append] at hy;rcases hy with rfl|hy|rfl|hy
  ·exact hn.1
  ·exact (hp y hy).1
  ·exact b3
  ·exact (hq y hy).1
 ·obtain ⟨u, v, e, hu, hv, ed⟩ : ∃ u v : Str, x = u ++ Str.ofString " " ++ v /\ 32 ∉ u.cps.toList /\ 32 ∉ v.cps.toList /\ (qG u = none \/ qG v = none) := by
   rcases b3 with b3|b3
   ·exact ⟨Str.ofString "", y, by rw [zac];exact b3, qY _, hy, .inl js⟩
   ·exact ⟨y, Str.ofString "", by rw [vo];exact b3, hy, qY _, .inr js⟩
  have ej := wN (d := 32) u v (nm :: pre) post;rw [<- Z6, <- e] at ej;refine ⟨λ z => (nomatch z), ?_, nl, ln⟩;rw [show nm :: (pre ++ x :: post) = nm :: pre ++ x :: post from rfl, ej];refine xR (ws := pre ++ u :: v :: post) (λ y hy => ?_) ?_
  ·simp only [mem_cons, mem_append] at hy;rcases hy with rfl|hy|rfl|rfl|hy
   ·exact hn.1
   ·exact (hp y hy).1
   ·exact hu
   ·exact hv
   ·exact (hq y hy).1
  ·rcases ed with ed|ed
   ·exact ⟨u, by simp, ed⟩
   ·exact ⟨v, by simp, ed⟩
theorem zbC {k : Option Wd} {ns : List Int} (nb : ∀ n ∈ ns, 0 <= n /\ n < zo) (l : ns.length <= 40) (h : ns.length < leastW k \/ mostW k < ns.length) : Bs (zP k ns) :=
 wU nb l λ p hp ok => by
  have := Xj hp ok
  lia
theorem ZB {o : Str} (h : ∀ k, o ≠ nmO k) (ns : List Int) : qh o ns = none := by
 unfold qh;rw [ifn (show o ≠ Str.ofString "belt" from h none), ifn (show o ≠ Str.ofString "source" from h (some .source)), ifn (show o ≠ Str.ofString "drain" from h (some .drain)), ifn (show o ≠ Str.ofString "parter" from h (some .parter)), ifn (show o ≠ Str.ofString "first" from h (some .first)), ifn (show o ≠ Str.ofString "sieve" from h (some .sieve)), ifn (show o ≠ Str.ofString "joiner" from h (some .joiner))]
def others : List Str := ["", "Belt", "belts", "sourc", "SOURCE", "drains", "part", "firsts", "seive", "join", "1", "knot"]
def zdU : List Str := ["belt", "source", "drain", "parter", "first", "sieve", "joiner"]
theorem Ve (k : Option Wd) : nmO k ∈ zdU := by
 cases k with
 | none => decide +kernel
 | some w => cases w <;> decide +kernel
theorem J1 : ∀ o ∈ others, (∀ x ∈ zdU, o ≠ x) /\ 32 ∉ o.cps.toList /\ 10 ∉ o.cps.toList /\ o.length <= 100 := by decide +kernel
theorem zbA {o : Str} {ns : List Int} (ho : o ∈ others) (nb : ∀ n ∈ ns, 0 <= n /\ n < zo) (l : ns.length <= 40) : Bs (o :: ns.map zB) := by
 obtain ⟨h1, h2⟩ := J1 o ho;refine ⟨λ z => (nomatch z), XO h2.1 nb λ p hp => ?_, λ x hx => ?_, by rw [length_cons, length_map];lia⟩
 ·rw [ZB λ k => h1 _ (Ve k)] at hp;cases hp
 ·rcases List.mem_cons.mp hx with rfl|hx
  ·exact h2.2
  ·exact (wp nb x hx).2
theorem zdi (k : Option Wd) : qG (nmO k) = none := by
 cases k with
 | none => decide +kernel
 | some w => cases w <;> decide +kernel
theorem zbB {k : Option Wd} {ns : List Int} (nb : ∀ n ∈ ns, 0 <= n /\ n < zo) (l : ns.length <= 30) (j : Nat) : Bs ((zP k ns).take j ++ Str.ofString "" :: (zP k ns).drop j) := by
 have ws : ∀ x ∈ zP k ns, Wo x := λ x hx => by
  rcases List.mem_cons.mp hx with rfl|hx
  ·exact zan k
  ·exact wp nb x hx
 cases j with
 | zero =>
  rw [take_zero, drop_zero, nil_append];refine Zd (λ x hx => ?_) (by unfold zP;rw [length_cons, length_map];lia) ⟨_, mem_cons_self .., zdi k⟩;rcases List.mem_cons.mp hx with rfl|hx
  ·exact Ze
  ·exact ws x hx
 | succ j =>
  unfold zP at ws ⊢;rw [List.take_succ_cons, List.drop_succ_cons, cons_append];refine Zd (λ x hx => ?_) (by simp only [length_append, length_cons, length_take, length_drop, length_map];lia) ⟨_, mem_append_right _ (mem_cons_self ..), js⟩;rcases List.mem_cons.mp hx with rfl|hx
  ·exact ws _ (mem_cons_self ..)
  ·rcases List.mem_append.mp hx with hx|hx
   ·exact ws _ (mem_cons_of_mem _ (mem_of_mem_take hx))
   ·rcases List.mem_cons.mp hx with rfl|hx
    ·exact Ze
    ·exact ws _ (mem_cons_of_mem _ (mem_of_mem_drop hx))
theorem QJ {d : Nat} (y : Str) : ∀ {ws : List Str}, ws ≠ [] -> Str.join ⟨#[d]⟩ (ws ++ [y]) = Str.join ⟨#[d]⟩ ws ++ ⟨#[d]⟩ ++ y
 | [], h => absurd rfl h
 | [x], _ => rfl
 | x :: z :: r, _ => by
  have ih := QJ (d := d) y (ws := z :: r) (λ h => nomatch h);apply str_ext;show (Str.join ⟨#[d]⟩ (x :: z :: (r ++ [y]))).cps.toList = (((Str.join ⟨#[d]⟩ (x :: z :: r)).cps ++ #[d]) ++ y.cps).toList
  rw [qa, show Str.join ⟨#[d]⟩ (z :: (r ++ [y])) = _ from ih, Array.toList_append, Array.toList_append, qa];show x.cps.toList ++ d :: (((Str.join ⟨#[d]⟩ (z :: r)).cps ++ #[d]) ++ y.cps).toList = _
  rw [Array.toList_append, Array.toList_append];simp
theorem zdB {k : Option Wd} {ns : List Int} (nb : ∀ n ∈ ns, 0 <= n /\ n < zo) (l : ns.length <= 30) : ∀ x ∈ [Str.ofString "", Str.ofString " ", Str.ofString "  ", qP (nmO k) ns ++ Str.ofString " "], ∃ ws, Bs ws /\ x = Str.join (Str.ofString " ") ws := λ x hx => by
 have e1 : ∀ y ∈ [Str.ofString "", Str.ofString "", Str.ofString ""], Wo y := λ y hy => by
  simp only [mem_cons, not_mem_nil, or_false, or_self] at hy;rw [hy];exact Ze
 simp only [mem_cons, not_mem_nil, or_false] at hx;rcases hx with rfl|rfl|rfl|rfl
 ·refine ⟨[Str.ofString ""], ⟨λ z => (nomatch z), λ p hp => ?_, λ y hy => (e1 y (by simp only [mem_cons, not_mem_nil, or_false] at hy;simp [hy])).2, by decide⟩, by decide +kernel⟩;rw [Qw (ws := [Str.ofString ""]) (λ z => (nomatch z)) λ y hy => (e1 y (by simp only [mem_cons, not_mem_nil, or_false] at hy;simp [hy])).1, vE, j3, Option.bind_some, ZB λ k z => (J1 (Str.ofString "") (mem_cons_self ..)).1 _ (Ve k) z] at hp;cases hp
 ·exact ⟨[Str.ofString "", Str.ofString ""], Zd (λ y hy => e1 y (by simp only [mem_cons, not_mem_nil, or_false, or_self] at hy;simp [hy])) (by decide) ⟨_, mem_cons_self .., js⟩, by decide +kernel⟩
 ·exact ⟨[Str.ofString "", Str.ofString "", Str.ofString ""], Zd e1 (by decide) ⟨_, mem_cons_self .., js⟩, by decide +kernel⟩
 ·refine ⟨zP k ns ++ [Str.ofString ""], ?_, ?_⟩
  ·have := zbB (k := k) nb l (zP k ns).length
   rwa [take_length, drop_length] at this
  ·rw [Z6, QJ (ws := zP k ns) _ (λ h => nomatch h), vo, <- Z6]
   rfl
def vK (f : Option Wd -> Nat) : List (Key × V) := [(.inr "belt", .int (f none)), (.inr "source", .int (f (some .source))), (.inr "drain", .int (f (some .drain))), (.inr "parter", .int (f (some .parter))), (.inr "first", .int (f (some .first))), (.inr "sieve", .int (f (some .sieve))), (.inr "joiner", .int (f (some .joiner)))]
theorem zbH (f : Option Wd -> Nat) (k : Option Wd) : wY (qO [] (vK f)) (.inr (nmO k)) = some (.int (f k)) := by
 cases k with
 | none => rfl
 | some w => cases w <;> rfl
theorem zar {f : Option Wd -> Nat} {k : Option Wd} {H : Hp} {p : Addr} (h : H p = some (.dK (qO [] (vK f)))) : DGet H p (.str (nmO k)) (some (.int (f k))) := by
 have := DGet.k (k := .inr (nmO k)) h;rw [zbH] at this;exact this
def JK (K : PySem.W.Frag) : Sp := λ vs H Q _ => ∃ (k : Option Wd) (ns : List Int) (c : Int), vs = [.str (qP (nmO k) ns), .int c] /\ Gd k ns /\ ∀ row' H', Same H H' -> Bad row' -> 10 ∉ row'.cps.toList -> row'.length <= 10000 -> Q (.str row') H'
theorem J3 (T : Txt K mg a) (F : Fun K "_law_spoilt" "_law_spoilt" wa f fd) : FnOk P w K mg base (CXr P w) 3 f fd ["_law_row", "_law_cell"] (JK K) := by
 refine F.okx JR ?_ ?_
 ·walk_at "i"
 walk_at "j";obtain ⟨kd, ns, c, rfl, gd, k⟩ := h;have z3 : 3000000 <= sizeLine := by decide
 have len := gd.len;have l8 := Nat.le_trans len.2 (Vf _).1;have ll : (qP (nmO kd) ns).length <= 100000 := by
  exact Nat.le_trans (ZQ (Nat.le_trans (Xc kd) (by decide)) (by lia) gd.nb) (by decide)
 walk_at "T";refine ⟨_, (zi (zI 2 JR.nd (z7 PySem.F.plainAttrs_str PySem.F.slot_str_split PySem.F.type_str_split ZK (pq 0) (za zl ze)))  (zi (zI 3 JR.nd (W8 (zcw hr) (WZ (qi zl zg (qi zl zg (qi zl zg (qi zl zg (qi zl zg (qi zl zg (qi zl zg WY))))))) rfl rfl (by simp) (by decide)) (zX (pq 2) zg) (λ _ _ => rfl)))  (zi (zI 4 JR.nd (W8 (zcw hr) (WZ (qi zl zg (qi zl zg (qi zl zg (qi zl zg (qi zl zg (qi zl zg (qi zl zg WY))))))) rfl rfl (by simp) (by decide)) (zX (pq 2) zg) (λ _ _ => rfl)))  (zi (zI 5 JR.nd (zD (pq 1)))  (zi (zI 6 JR.nd (zj qu (zA (pq 1)) (zJ zG zF (za (pq 2) ze))))  (zi (zC (zm (zR hr.units1) (pq 5) zg (zq _))  (zh (zu (z7 PySem.F.plainAttrs_str PySem.F.slot_str_join PySem.F.type_str_join jo zl (za (zK qb (pq 2) zV (zQ (zj zn zg (zj qu (zA (pq 1)) (pq 3))))) ze))))  zp)  (zi (zC (zm (zR hr.units1) (pq 5) zg (zq _))  (zi (jh xl rfl (Jj (za (zj zn (zj zn (zj qz (zj zn (pq 4) zg) (zJ zG zF (za (pq 2) ze))) zg) (zD (zA (pq 1)))) ze)) (qI 7 JR.nd)  (zh (zw (z7 PySem.F.plainAttrs_list PySem.F.slot_list_append PySem.F.type_list_append zL (pq 2) (za (jG xJ xK (za (zj zn zg (zD (pq 7))) ze)) ze)))))  (zh (zu (z7 PySem.F.plainAttrs_str PySem.F.slot_str_join PySem.F.type_str_join jo zl (za (pq 2) ze)))))  zp)  (zi (zC (PW.pt (pw_or (zm (zR hr.units1) (pq 5) zg (zq _)) (pw_or1 (zm (zR hr.units1) (pq 5) zg (zq _)))))  (zi (zI 6 JR.nd (zj zn zg (zj qu (zA (pq 1)) (zj qz (zJ zG zF (za (pq 2) ze)) zg))))  (zi (vd (z6 ⟨rfl, rfl, rfl⟩ hr (za (zX (pq 2) (pq 6)) (za (zA (pq 1)) ze))) (Jl (pq 2) (pq 6) wy))  (zh (zu (z7 PySem.F.plainAttrs_str PySem.F.slot_str_join PySem.F.type_str_join jo zl (za (pq 2) ze))))))  zp)  (zi (zC (zm (zR hr.units1) (pq 5) zg (zq _))  (zh (zu (z7 PySem.F.plainAttrs_str PySem.F.slot_str_join PySem.F.type_str_join jo zl (za (z6 ⟨rfl, rfl, rfl⟩ hr (za (pq 2) (za (zA (pq 1)) ze))) ze))))  zp)  (zi (zC (zm (zR hr.units1) (pq 5) zg (zq _))  (zi (zI 8 JR.nd (zv (za zl (za zl (za zl (za zl (za zl (za zl (za zl (za zl (za zl (za zl (za zl (za zl ze))))))))))))))  (zi (vd (zX (pq 8) (zD (zA (pq 1)))) (Jl (pq 2) zg wy))  (zh (zu (z7 PySem.F.plainAttrs_str PySem.F.slot_str_join PySem.F.type_str_join jo zl (za (pq 2) ze))))))  zp)  (zi (zC (zm (zR hr.units1) (pq 5) zg (zq _))  (zh (zu (z7 PySem.F.plainAttrs_str PySem.F.slot_str_join PySem.F.type_str_join jo zl (za (zj zn (zj zn (zK qb (pq 2) zV (zQ (pq 6))) (zv (za zl ze))) (zK qb (pq 2) (zQ (pq 6)) zV)) ze))))  zp)  (zh (zu (zX (zv (za zl (za zl (za zl (za (zj zn (pq 0) zl) ze))))) (zD (zA (pq 1))))))))))))))))), ?_⟩;walk_at "go";refine ⟨jg, _, _, rfl, rfl, by decide +kernel, by lia, λ wl hwl => ?_⟩;rw [xa (jc kd).1 gd.nb];have s1 := zf (o := .lst ((zP kd ns).map V.str)) hwl;have hw : upd H wl (.lst ((zP kd ns).map V.str)) wl = some (.lst ((zP kd ns).map V.str)) := upd_same;have e : upd H wl (.lst ((nmO kd :: ns.map zB).map V.str)) = upd H wl (.lst ((zP kd ns).map V.str)) := rfl;rw [e];generalize upd H wl (.lst ((zP kd ns).map V.str)) = H1 at s1 hw ⊢;walk_at "go";refine λ p hp => ⟨upd_same, vK leastW, rfl, by decide, ?_⟩;have s2 : Same H1 (upd (upd H1 p (.dK [])) p (.dK (qO [] (vK leastW)))) := x9 (zf hp) hp;have d2 : upd (upd H1 p (.dK [])) p (.dK (qO [] (vK leastW))) p = some (.dK (qO [] (vK leastW))) := upd_same;generalize upd (upd H1 p (.dK [])) p (.dK (qO [] (vK leastW))) = H2 at s2 d2 ⊢;refine zS (SqL.of (s2 _ _ hw)) at0 ⟨_, _, rfl, zar d2, ?_⟩;walk_at "go";refine λ q hq => ⟨upd_same, vK mostW, rfl, by decide, ?_⟩;have s3 : Same H2 (upd (upd H2 q (.dK [])) q (.dK (qO [] (vK mostW)))) := x9 (zf hq) hq;have d3 : upd (upd H2 q (.dK [])) q (.dK (qO [] (vK mostW))) q = some (.dK (qO [] (vK mostW))) := upd_same;generalize upd (upd H2 q (.dK [])) q (.dK (qO [] (vK mostW))) = H3 at s3 d3 ⊢;have s3 := s2.trans s3;refine zS (SqL.of (s3 _ _ hw)) at0 ⟨_, _, rfl, zar d3, ?_⟩;replace hw := s3 _ _ hw;have s1 := s1.trans s3;clear s2 d2 d3 s3 hp hq;walk_at "go";have hwn : (zP kd ns).map V.str = .str (nmO kd) :: (ns.map zB).map V.str := rfl;have wl1 : ((zP kd ns).map V.str).length = ns.length + 1 := by unfold zP;simp
 have lst : ∀ {H' : Hp} {L : Addr} {ws : List Str}, Same H H' -> H' L = some (.lst (ws.map V.str)) -> Bs ws -> zcs (.str (Str.ofString " ")) [.ref L] H' Q := λ {H' L ws} s h b => by
  have h2 := jA (m := 100) λ x hx => (b.nl x hx).2;have h3 : (Str.ofString " ").length = 1 := by decide +kernel
  have h4 := b.ln;have r := zbz b;exact ⟨_, L, ws, rfl, rfl, h, by rw [h3];lia, k _ _ s r.1 r.2.1 r.2.2⟩
 refine ⟨_, .inl ⟨_, SqL.of hw, rfl⟩, by rw [wl1];lia, ?_⟩;rw [wl1];have m8 := Vf kd;walk_at "go";refine zN (λ z => ?_) (λ z => ?_)
 ·walk_at "go";obtain ⟨j, hj, jl⟩ : ∃ j : Nat, c / 8 % (leastW kd : Int) = j /\ j < leastW kd := by
   have h1 := Int.emod_nonneg (c / 8) (b := (leastW kd : Int)) (by lia);have h2 := Int.emod_lt_of_pos (c / 8) (b := (leastW kd : Int)) (by lia);exact ⟨(c / 8 % (leastW kd : Int)).toNat, by lia, by lia⟩
  rw [hj];refine ⟨jg, by lia, qc (SqL.of hw) λ L hL => lst (ws := zP kd (ns.take j)) (s1.trans (zf hL)) ?_ (zbC (λ n hn => gd.nb n (mem_of_mem_take hn)) (by rw [length_take];lia) (.inl (by rw [length_take];lia)))⟩;have e := qW ((zP kd ns).map V.str) (j + 1) (by rw [wl1];lia);rw [show (1 : Int) + (j : Int) = ((j + 1 : Nat) : Int) by lia, e, upd_same];unfold zP;rw [map_cons, List.take_succ_cons, map_cons, map_map, map_map, map_take]
 walk_at "go";refine zN (λ z => ?_) (λ z => ?_)
 ·walk_at "go";refine ⟨_, .inl ⟨_, SqL.of hw, rfl⟩, ?_⟩;rw [wl1];obtain ⟨m, hm, jl⟩ : ∃ m : Nat, (mostW kd : Int) + 1 - ((ns.length + 1 : Nat) : Int) + 1 + c / 8 % 3 = m /\ (mostW kd < ns.length + m /\ m <= 20) := by
   exact ⟨((mostW kd : Int) + 1 - ((ns.length + 1 : Nat) : Int) + 1 + c / 8 % 3).toNat, by lia, by lia⟩
  rw [hm];refine ⟨by lia, by lia, ?_⟩;let M1_ : Nat -> St -> Hp -> Prop := λ i σ' H' => ∃ v7 es, σ' = [some (.str (qP (nmO kd) ns)), some (.int c), some (.ref wl), some (.int (leastW kd)), some (.int (mostW kd)), some (.int (c % 8)), some (.int (c / 8 % ↑(ns.length + 1))), v7, none] /\ Same H H' /\ H' wl = some (.lst ((zP kd (ns ++ es)).map V.str)) /\ es.length = i /\ ∀ n ∈ es, 0 <= n /\ n < zo;refine Vm (n := m) M1_ ⟨_, [], rfl, s1, by rw [append_nil];exact hw, rfl, λ _ z => nomatch z⟩ ?_ ?_
  ·rintro i σ' H' hi ⟨v7, es, rfl, t1, g1, le, eb⟩;walk_at "go";rw [Int.zero_add];have h1 : 0 <= (1 + (i : Int) % 3) /\ 1 + (i : Int) % 3 < 4 := by lia
   have h2 : 1 + (i : Int) % 3 < zo := by unfold zo;lia
   refine ⟨.inl ⟨rfl, _, SqL.of g1⟩, by assumption, qD h1.1 h2, wl, _, _, rfl, rfl, g1, ?_, _, es ++ [1 + (i : Int) % 3], rfl, x9 t1 hwl, ?_, by rw [length_append, le];rfl, λ n hn => ?_⟩
   ·unfold zP;simp only [length_map, length_cons, length_append]
    lia
   ·rw [upd_same];unfold zP;simp only [map_cons, map_append, map_nil, cons_append, append_assoc]
   ·rcases List.mem_append.mp hn with hn|hn
    ·exact eb n hn
    ·rw [List.mem_singleton.mp hn];exact ⟨h1.1, h2⟩
  ·rintro σ' H' ⟨v7, es, rfl, t1, g1, le, eb⟩;walk_at "go";refine ⟨jg, lst t1 g1 (zbC (λ n hn => ?_) (by rw [length_append];lia) (.inr (by rw [length_append];lia)))⟩;rcases List.mem_append.mp hn with hn|hn
   ·exact gd.nb n hn
   ·exact eb n hn
 walk_at "go";refine (λ B => zN (λ _ => B) (λ _ => zN (λ _ => B) (λ z => ?_))) ?_
 ·walk_at "go";refine zN (λ z => ?_) (λ z => ?_)
  ·walk_at "go";exact ⟨jg, _, _, _, (WG T).mono, wl, kd, ns, c / 8, rfl, hw, gd, λ L ws' H' s g b => lst (s1.trans s) g b⟩
  walk_at "go";refine zN (λ z => ?_) (λ z => ?_)
  ·walk_at "go";show ∀ _, _
   intro p hp;generalize e : upd H3 p _ = H4;have s2 : Same H H4 := by rw [<- e];exact s1.trans (zf hp)
   have h2 : H4 p = some (.lst (others.map V.str)) := by rw [<- e];exact upd_same
   have w2 : H4 wl = some (.lst ((zP kd ns).map V.str)) := by rw [<- e];exact upd_keep hw hp
   clear e;walk_at "go";obtain ⟨m, hm⟩ : ∃ m : Nat, c / 8 % 12 = m := ⟨(c / 8 % 12).toNat, by lia⟩;have m7 : m < others.length := by
    show m < 12
    lia
   have hd := getElem?_eq_getElem m7;have hb := mem_of_getElem? hd;rw [hm];refine zS (SqL.of h2) (qg (j := m) ((getElem?_map (f := V.str)).trans (by rw [hd];rfl))) (vU w2 (Js (by decide) (by rw [wl1];lia)) ?_);walk_at "go";refine ⟨jg, lst (ws := others[m] :: ns.map zB) (x9 s2 hwl) upd_same (zbA hb gd.nb (by lia))⟩
  walk_at "go";refine zN (λ z => ?_) (λ z => ?_)
  ·walk_at "go";obtain ⟨j, hj, jl⟩ : ∃ j : Nat, c / 8 % ((ns.length + 1 : Nat) : Int) = j /\ j < ns.length + 1 := by
    have h1 := Int.emod_nonneg (c / 8) (b := ((ns.length + 1 : Nat) : Int)) (by lia);have h2 := Int.emod_lt_of_pos (c / 8) (b := ((ns.length + 1 : Nat) : Int)) (by lia);exact ⟨(c / 8 % ((ns.length + 1 : Nat) : Int)).toNat, by lia, by lia⟩
   rw [hj];refine ⟨jg, qc (SqL.of hw) λ p1 hp1 => ?_⟩;rw [qW _ j (by rw [wl1];lia), <- map_take];intro p2 hp2;have t1 := zf (o := .lst (((zP kd ns).take j).map V.str)) hp1;have t2 := t1.trans (zf (o := .lst [.str (Str.ofString "")]) hp2);refine zZ (SqL.of (upd_keep upd_same hp2)) (SqL.of upd_same) (zW (by rw [length_map, length_take];simp;lia)) λ p3 hp3 => ?_;have t3 := t2.trans (zf (o := .lst (((zP kd ns).take j).map V.str ++ [.str (Str.ofString "")])) hp3);generalize upd (upd H3 p1 _) p2 _ = H4 at *;refine qc (SqL.of (t3 _ _ hw)) λ p4 hp4 => ?_;rw [qk _ j (by rw [wl1];lia), <- map_drop];have t4 := t3.trans (zf (o := .lst (((zP kd ns).drop j).map V.str)) hp4);refine zZ (SqL.of (upd_keep upd_same hp4)) (SqL.of upd_same) (zW (by unfold zP;simp;lia)) λ p5 hp5 => ?_;refine lst (ws := (zP kd ns).take j ++ Str.ofString "" :: (zP kd ns).drop j) (s1.trans (t4.trans (zf hp5))) ?_ (zbB gd.nb (by lia) j);rw [upd_same];simp only [map_cons, map_append, append_assoc, cons_append, nil_append]
  walk_at "go";refine ⟨Nat.le_trans (by rw [show (Str.ofString " ").length = 1 from by decide +kernel];lia) z3, λ p hp => ?_⟩;obtain ⟨m, hm⟩ : ∃ m : Nat, c / 8 % 4 = m := ⟨(c / 8 % 4).toNat, by lia⟩;have m7 : m < [Str.ofString "", Str.ofString " ", Str.ofString "  ", qP (nmO kd) ns ++ Str.ofString " "].length := by
   show m < 4
   lia
  have hd := getElem?_eq_getElem m7;obtain ⟨ws, hb, e⟩ := zdB gd.nb (by lia) _ (mem_of_getElem? hd);have r := zbz hb;rw [<- e] at r;rw [hm];refine zS (SqL.of upd_same) (qg (j := m) ?_) (k _ _ (s1.trans (zf hp)) r.1 r.2.1 r.2.2);exact (getElem?_map (f := V.str)).trans (by rw [hd])
 walk_at "go";refine ⟨_, .inl ⟨_, SqL.of hw, rfl⟩, ?_⟩;rw [wl1];obtain ⟨j, hj, jl⟩ : ∃ j : Nat, c / 8 % (((ns.length + 1 : Nat) : Int) - 1) = j /\ j < ns.length := by
  have e : ((ns.length + 1 : Nat) : Int) - 1 = ns.length := by lia
  rw [e];have h1 := Int.emod_nonneg (c / 8) (b := (ns.length : Int)) (by lia);have h2 := Int.emod_lt_of_pos (c / 8) (b := (ns.length : Int)) (by lia);exact ⟨(c / 8 % (ns.length : Int)).toNat, by lia, by lia⟩
 refine ⟨by lia, ?_⟩;rw [hj];walk_at "go";have e1 : (1 : Int) + (j : Int) = ((j + 1 : Nat) : Int) := by lia
 rw [e1];have nj := gd.nb _ (getElem_mem jl);refine uc (Ql T).mono (zS (SqL.of hw) (qg (j := j + 1) (v := .str (zB ns[j])) ?_) ⟨_, _, rfl, nj.1, nj.2, λ x bx H4 s4 => vU (j := j + 1) (s4 _ _ hw) ?_ ?_⟩)
 ·rw [hwn, List.getElem?_cons_succ, getElem?_map, getElem?_map, getElem?_eq_getElem jl]
  rfl
 ·rw [Js (Int.natCast_nonneg _) (by rw [wl1];lia)]
  rfl
 walk_at "go";have ps : ns.map zB = (ns.map zB).take j ++ zB ns[j] :: (ns.map zB).drop (j + 1) := by
  have jm : j < (ns.map zB).length := by rw [length_map];exact jl
  have := List.getElem_cons_drop (as := ns.map zB) (i := j) (h := jm);rw [List.getElem_map] at this;rw [this, take_append_drop]
 have st : (ns.map zB).set j x = (ns.map zB).take j ++ x :: (ns.map zB).drop (j + 1) := List.set_eq_take_append_cons_drop .. |>.trans (if_pos (by rw [length_map];exact jl));refine ⟨jg, lst (ws := nmO kd :: ((ns.map zB).take j ++ x :: (ns.map zB).drop (j + 1))) (x9 (s1.trans s4) hwl) ?_ (zdm (λ y hy => ?_) ?_ bx)⟩
 ·rw [upd_same, hwn, List.set_cons_succ, <- map_set, st]
  rfl
 ·rcases List.mem_cons.mp hy with rfl|hy
  ·exact zan kd
  ·rcases List.mem_append.mp hy with hy|hy
   ·exact wp gd.nb y (mem_of_mem_take hy)
   ·exact wp gd.nb y (mem_of_mem_drop hy)
 ·simp only [length_take, length_drop, length_map]
  lia
theorem Z3 (T : Txt K mg a) : Cal P w K mg base "_law_spoilt" 3 ["_law_row", "_law_cell"] [] (JK K) := T.h_L_spoilt.cal (J3 T)
def Jy (r : Row) : Row := ⟨r.wd, r.ins, r.outs, if r.wd = .source \/ r.wd = .drain then r.pace else 0, if r.wd = .source \/ r.wd = .sieve then r.kinds else []⟩
theorem Z2 {r : Row} (ok : r.ok) : qh (nmO (some r.wd)) (zO r) = some (.knot (Jy r)) /\ (Jy r).ok := by
 obtain ⟨wd, ins, outs, pc, ks⟩ := r;rw [ZN];cases wd
 ·obtain ⟨h1, ⟨o, h2⟩, h3⟩ := ok;cases h1;cases h2;exact ⟨if_pos (by show 2 <= ks.length + 2;lia), rfl, ⟨o, rfl⟩, h3⟩
 ·obtain ⟨⟨i, h1⟩, h2, h3⟩ := ok;cases h1;cases h2;exact ⟨if_pos rfl, ⟨i, rfl⟩, rfl, h3⟩
 ·obtain ⟨⟨i, h1⟩, h3⟩ := ok;cases h1;refine ⟨?_, ⟨i, rfl⟩, h3⟩;show (if 1 <= (i :: (outs ++ [])).length then some (Prt.knot ⟨.parter, [i], outs ++ [], 0, []⟩) else none) = _
  rw [append_nil];exact if_pos (by show 1 <= outs.length + 1;lia)
 ·obtain ⟨⟨i, h1⟩, h3⟩ := ok;cases h1;refine ⟨?_, ⟨i, rfl⟩, h3⟩;show (if 1 <= (i :: (outs ++ [])).length then some (Prt.knot ⟨.first, [i], outs ++ [], 0, []⟩) else none) = _
  rw [append_nil];exact if_pos (by show 1 <= outs.length + 1;lia)
 ·obtain ⟨⟨i, h1⟩, h2, k, h3, h4⟩ := ok;cases h1;cases h3
  match outs, h2 with
  | [x, y], _ => exact ⟨if_pos rfl, ⟨i, rfl⟩, rfl, k, rfl, h4⟩
 ·obtain ⟨⟨o, h1⟩, h3⟩ := ok;cases h1;exact ⟨if_pos (by show 1 <= ins.length + 1;lia), ⟨o, rfl⟩, h3⟩
structure Gt (bs : List (Int × Int)) (rs : List Row) : Prop where
 bo : ∀ b ∈ bs, z4 b.1 b.2
 ro : ∀ r ∈ rs, r.ok
 nb : ∀ r ∈ rs, ∀ n ∈ zO r, 0 <= n /\ n < zo
theorem Qx {b : Int × Int} (ok : z4 b.1 b.2) : j1 (qX b) = some (.belt b.1 b.2) := by
 unfold qX;rw [wJ, xa belt_free.1 (j6 ok), vE, wL (j6 ok)];exact (vh _).trans (if_pos rfl)
theorem zaQ {r : Row} (ok : r.ok) (nb : ∀ n ∈ zO r, 0 <= n /\ n < zo) : j1 (vN r) = some (.knot (Jy r)) := by
 unfold vN;rw [wJ, xa (JI _).1 nb, vE, wL nb];exact (Z2 ok).1
theorem Jg (xs ys : List Str) : rdF (xs ++ ys) = ys.foldl qx (rdF xs) := foldl_append
theorem WW : ∀ ys : List Str, ys.foldl qx none = none
 | [] => rfl
 | _ :: ys => WW ys
theorem zaD {xs ys : List Str} (h : rdF (xs ++ ys) ≠ none) : rdF xs ≠ none := λ z => h (by rw [Jg, z, WW])
theorem X3 {xs : List Str} {x : Str} (b : Bad x) : rdF (xs ++ [x]) = none := by
 rw [Jg];show qx (rdF xs) x = none
 unfold qx;cases rdF xs with
 | none => rfl
 | some s =>
  cases e : j1 x with
  | none => rfl
  | some p =>
   have hb := b p e;cases p with
   | belt rm pc => exact if_neg λ z => hb z.1
   | knot r => exact if_neg hb
theorem JZ : ∀ {bs : List (Int × Int)} (_ : ∀ b ∈ bs, z4 b.1 b.2) (b0 : List (Int × Int)), (bs.map qX).foldl qx (some (b0, [])) = some (b0 ++ bs, [])
 | [], _, b0 => by rw [append_nil];rfl
 | b :: bs, h, b0 => by
  have h1 := h b (mem_cons_self ..);rw [map_cons, foldl_cons];have e : qx (some (b0, [])) (qX b) = some (b0 ++ [b], []) := by
   unfold qx;rw [Qx h1];exact if_pos ⟨h1, rfl⟩
  rw [e, JZ (λ b hb => h b (mem_cons_of_mem _ hb)), append_assoc]
  rfl
theorem WV {bs : List (Int × Int)} : ∀ {rs : List Row} (_ : ∀ r ∈ rs, r.ok) (_ : ∀ r ∈ rs, ∀ n ∈ zO r, 0 <= n /\ n < zo) (r0 : List Row), (rs.map vN).foldl qx (some (bs, r0)) = some (bs, r0 ++ rs.map Jy)
 | [], _, _, r0 => by rw [map_nil, map_nil, append_nil];rfl
 | r :: rs, h, nb, r0 => by
  have h1 := h r (mem_cons_self ..);rw [map_cons, foldl_cons];have e : qx (some (bs, r0)) (vN r) = some (bs, r0 ++ [Jy r]) := by
   unfold qx;rw [zaQ h1 (nb r (mem_cons_self ..))];exact if_pos (Z2 h1).2
  rw [e, WV (λ r hr => h r (mem_cons_of_mem _ hr)) (λ r hr => nb r (mem_cons_of_mem _ hr)), append_assoc]
  rfl
theorem jD {bs : List (Int × Int)} {rs : List Row} (g : Gt bs rs) : rdF (zt bs rs) = some (bs, rs.map Jy) := by
 unfold zt;rw [Jg, show rdF (bs.map qX) = some ([] ++ bs, []) from JZ g.bo [], WV g.ro g.nb]
 rfl
theorem Wu {bs : List (Int × Int)} {rs : List Row} (g : Gt bs rs) : ∀ x ∈ zt bs rs, ∃ k ns, x = qP (nmO k) ns /\ Gd k ns := λ x hx => by
 rcases List.mem_append.mp hx with hx|hx
 ·obtain ⟨b, hb, rfl⟩ := List.mem_map.mp hx;exact ⟨none, _, rfl, j6 (g.bo b hb), _, (vh _).trans (if_pos rfl), g.bo b hb⟩
 ·obtain ⟨r, hr, rfl⟩ := List.mem_map.mp hx;exact ⟨some r.wd, _, rfl, g.nb r hr, _, Z2 (g.ro r hr)⟩
theorem zcc {k : Option Wd} {ns : List Int} (g : Gd k ns) : 10 ∉ (qP (nmO k) ns).cps.toList /\ (qP (nmO k) ns).length <= 10000 := by
 refine ⟨V5 (jc k).2 g.nb, ?_⟩;have h1 := StrLaws.join_length_le (Str.ofString " ") (nmO k :: ns.map zB);have h2 := jA (m := 100) (xs := nmO k :: ns.map zB) λ x hx => by
  rcases List.mem_cons.mp hx with rfl|hx
  ·exact (zan k).2.2
  ·exact (wp g.nb x hx).2.2
 have h3 : (Str.ofString " ").length = 1 := by decide +kernel
 have h4 := g.len;have h5 := Vf k;rw [h3] at h1;rw [length_cons, length_map] at h1 h2;show (Str.join (Str.ofString " ") (nmO k :: ns.map zB)).length <= 10000
 lia
theorem wP {bs : List (Int × Int)} {rs : List Row} (g : Gt bs rs) : ∀ x ∈ zt bs rs, 10 ∉ x.cps.toList /\ x.length <= 10000 := λ x hx => by
 obtain ⟨k, ns, rfl, gd⟩ := Wu g x hx;exact zcc gd
structure BadAt (ls : List Str) (d : Nat) : Prop where
 lt : d < ls.length
 pre : rdF (ls.take d) ≠ none
 bad : rdF (ls.take (d + 1)) = none
 le : ls.length <= 100
 ok : ∀ x ∈ ls, 10 ∉ x.cps.toList /\ x.length <= 10000
theorem JF {pre post : List Str} {x : Str} (h : rdF pre ≠ none) (b : rdF (pre ++ [x]) = none) (le : pre.length + 1 + post.length <= 100) (ok : ∀ y ∈ pre ++ x :: post, 10 ∉ y.cps.toList /\ y.length <= 10000) : BadAt (pre ++ x :: post) pre.length := by
 refine ⟨by rw [length_append, length_cons];lia, by rwa [List.take_left], ?_, by rw [length_append, length_cons];lia, ok⟩;rw [show pre ++ x :: post = (pre ++ [x]) ++ post by simp, List.take_left' (by simp)];exact b
theorem zbP {bs : List (Int × Int)} {rs : List Row} {b : Int × Int} (g : Gt bs rs) (r1 : rs ≠ []) (hb : z4 b.1 b.2) : rdF (zt bs rs ++ [qX b]) = none := by
 rw [Jg, jD g];show qx _ _ = _
 unfold qx;rw [Qx hb];exact if_neg λ z => r1 (List.map_eq_nil_iff.mp z.2)
structure NoW (ls : List Str) (bs : List (Int × Int)) (rs : List Row) : Prop where
 e : ls = zt bs rs
 g : Gt bs rs
 n : ¬ qw bs rs
 f : (qv rs).length < 64
 t : (zU rs).length < 64
 l : ls.length <= 100
 p : ls ≠ []
theorem Jv (rs : List Row) : qv (rs.map Jy) = qv rs := by unfold qv;rw [flatMap_map];rfl
theorem wZ (rs : List Row) : zU (rs.map Jy) = zU rs := by unfold zU;rw [flatMap_map];rfl
theorem can_work {bs : List (Int × Int)} {rs : List Row} : qw bs (rs.map Jy) ↔ qw bs rs := by
 unfold qw;rw [Jv, wZ, length_map]
theorem VA : Bad (Str.ofString "") := by
 obtain ⟨ws, b, e⟩ := zdB (k := none) (ns := []) (λ _ z => nomatch z) (by decide) (Str.ofString "") (mem_cons_self ..);rw [e];exact b.bad
theorem zaX : 10 ∉ (Str.ofString "").cps.toList /\ (Str.ofString "").length <= 10000 := ⟨qY _, by decide +kernel⟩
theorem jr (bs : List (Int × Int)) (rs : List Row) (m : Nat) : (zt bs rs).take (bs.length + m) = zt bs (rs.take m) := by
 unfold zt;rw [show bs.length + m = (bs.map qX).length + m by rw [length_map], List.take_length_add_append, map_take]
theorem Gt.take {bs : List (Int × Int)} {rs : List Row} (g : Gt bs rs) (m : Nat) : Gt bs (rs.take m) := ⟨g.bo, λ r hr => g.ro r (mem_of_mem_take hr), λ r hr => g.nb r (mem_of_mem_take hr)⟩
theorem z5 (bs : List (Int × Int)) (rs : List Row) : (zt bs rs).length = bs.length + rs.length := by unfold zt;rw [length_append, length_map, length_map]
theorem zdq : Str.ofString "belt 1 1" = qX (1, 1) := by decide +kernel
theorem Gt.more {bs : List (Int × Int)} {rs : List Row} (g : Gt bs rs) (k : Nat) : Gt (List.replicate k (1, 1) ++ bs) rs := by
 refine ⟨λ b hb => ?_, g.ro, g.nb⟩;rcases List.mem_append.mp hb with hb|hb
 ·rw [(List.mem_replicate.mp hb).2];exact by unfold z4;decide
 ·exact g.bo b hb
theorem Qr (bs : List (Int × Int)) (rs : List Row) (k : Nat) : List.replicate k (Str.ofString "belt 1 1") ++ zt bs rs = zt (List.replicate k (1, 1) ++ bs) rs := by
 unfold zt;rw [map_append, List.map_replicate, <- zdq, append_assoc]
theorem zcj {bs : List (Int × Int)} {rs : List Row} (g : Gt bs rs) (n48 : bs.length + rs.length <= 48) {i l : Nat} (il : i <= l) (ll : l < bs.length + rs.length) {x y : Str} (h1 : Bad x /\ 10 ∉ x.cps.toList /\ x.length <= 10000) (h2 : 10 ∉ y.cps.toList /\ y.length <= 10000) {k : Nat} (k30 : k <= 30) :
  BadAt (List.replicate k (Str.ofString "belt 1 1") ++ ((zt bs rs).set l y).set i x) (k + i) := by
 have tl := z5 bs rs;have e : ((zt bs rs).set l y).set i x = (zt bs rs).take i ++ x :: ((zt bs rs).set l y).drop (i + 1) := by
  rw [List.set_eq_take_append_cons_drop, if_pos (by rw [length_set, tl];lia), List.take_set, List.set_eq_of_length_le (by rw [length_take];lia)]
 have gm := Qr bs rs k;have pre : rdF (List.replicate k (Str.ofString "belt 1 1") ++ (zt bs rs).take i) ≠ none := by
  refine zaD (ys := (zt bs rs).drop i) ?_;rw [append_assoc, take_append_drop, gm, jD (g.more k)];exact λ z => nomatch z
 rw [e, <- append_assoc, show k + i = (List.replicate k (Str.ofString "belt 1 1") ++ (zt bs rs).take i).length by rw [length_append, length_replicate, length_take, tl];lia];refine JF pre (X3 h1.1) ?_ λ z hz => ?_
 ·rw [length_append, length_replicate, length_take, length_drop, length_set, tl]
  lia
 ·have gl := wP (g.more k);rw [<- gm] at gl;rcases List.mem_append.mp hz with hz|hz
  ·rcases List.mem_append.mp hz with hz|hz
   ·exact gl z (mem_append_left _ hz)
   ·exact gl z (mem_append_right _ (mem_of_mem_take hz))
  ·rcases List.mem_cons.mp hz with rfl|hz
   ·exact h1.2
   ·rcases List.mem_or_eq_of_mem_set (mem_of_mem_drop hz) with hz|rfl
    ·exact gl z (mem_append_right _ hz)
    ·exact h2
theorem zbG {bs : List (Int × Int)} {rs : List Row} (g : Gt bs rs) (n48 : bs.length + rs.length <= 48) {j : Nat} (jl : j < rs.length) {b : Int × Int} (hb : b ∈ bs) :
  BadAt ((zt bs rs).take (bs.length + (1 + j)) ++ qX b :: (zt bs rs).drop (bs.length + (1 + j))) (bs.length + (1 + j)) := by
 have tl := z5 bs rs;have e : ((zt bs rs).take (bs.length + (1 + j))).length = bs.length + (1 + j) := by rw [length_take];lia
 have gl := wP g;have := JF (pre := (zt bs rs).take (bs.length + (1 + j))) (x := qX b) (post := (zt bs rs).drop (bs.length + (1 + j))) ?_ ?_ ?_ ?_
 ·rwa [e] at this
 ·rw [jr, jD (g.take _)];exact λ z => nomatch z
 ·rw [jr];refine zbP (g.take _) (λ z => ?_) (g.bo b hb);have := congrArg List.length z;rw [length_take, length_nil] at this
  lia
 ·rw [e, length_drop]
  lia
 ·intro z hz;rcases List.mem_append.mp hz with hz|hz
  ·exact gl z (mem_of_mem_take hz)
  ·rcases List.mem_cons.mp hz with rfl|hz
   ·exact gl _ (mem_append_left _ (List.mem_map_of_mem hb))
   ·exact gl z (mem_of_mem_drop hz)
theorem zcl {bs : List (Int × Int)} {rs : List Row} (g : Gt bs rs) (n48 : bs.length + rs.length <= 48) : BadAt (zt bs rs ++ [Str.ofString ""]) (bs.length + rs.length) := by
 rw [<- z5];refine JF (by rw [jD g];exact λ z => nomatch z) (X3 VA) (by rw [z5];simp;lia) λ z hz => ?_;rcases List.mem_append.mp hz with hz|hz
 ·exact wP g z hz
 ·rw [List.mem_singleton.mp hz];exact zaX
theorem zck : BadAt [Str.ofString ""] 0 := JF (pre := []) (post := []) (λ z => nomatch z) (X3 VA) (by decide) λ z hz => by
 rw [List.mem_singleton.mp hz];exact zaX
def VI : Sp := λ vs H Q _ => ∃ (rl : Addr) (bs : List (Int × Int)) (rs : List Row) (x y : Int), vs = [.ref rl, .int bs.length, .int x, .int y] /\ H rl = some (.lst ((zt bs rs).map V.str)) /\ Gt bs rs /\ 1 <= bs.length /\ bs.length <= 24 /\ 1 <= rs.length /\ rs.length <= 24 /\ ∀ (t L : Addr) (ls : List Str) (d : Nat) H', Same H H' -> H' t = some (.tup [.int (d + 1 : Nat), .ref L]) -> H' L = some (.lst (ls.map V.str)) -> BadAt ls d -> Q (.ref t) H'
theorem JD (T : Txt K mg a) : Cal P w K mg base "_law_bad_rows" 4 ["_law_rows", "_law_belts", "_law_first", "_law_second"] [] VI := T.h_L_bad_rows.cal λ F => by
 refine F.okx Qf ?_ ?_
 ·walk_at "i"
 walk_at "j";obtain ⟨rl, bs, rs, x, y, rfl, hl, g, b1, b24, r1, r24, k⟩ := h;walk_at "T";refine ⟨_, (zi (zI 4 Qf.nd (zj qu (zA (pq 2)) (zJ zG zF (za (pq 0) ze))))  (zi (zC (zm (zR hr.units1) (zD (pq 2)) zg (zq _))  (zi (zI 5 Qf.nd (zj zn (pq 4) (zj qu (zA (pq 3)) (zj qz (zJ zG zF (za (pq 0) ze)) (pq 4)))))  (zi (zI 6 Qf.nd (jG Zc wV (za (pq 0) ze)))  (zi (vd (z6 ⟨rfl, rfl, rfl⟩ hr (za (zX (pq 0) (pq 5)) (za (zA (pq 3)) ze))) (Jl (pq 6) (pq 5) wy))  (zi (vd (z6 ⟨rfl, rfl, rfl⟩ hr (za (zX (pq 0) (pq 4)) (za (zA (pq 3)) ze))) (Jl (pq 6) (pq 4) wy))  (zi (zI 7 Qf.nd (zv ze))  (zi (zC (zm (zR hr.units1) (zD (zA (pq 3))) zg (zq _))  (zh (zI 7 Qf.nd (zj zc1 (zv (za zl ze)) (zj qz zg (pq 1)))))  zp)  (zh (zu (qt (za (zj zn (zj zn (zJ zG zF (za (pq 7) ze)) (pq 4)) zg) (za (zj zn (pq 7) (pq 6)) ze)))))))))))  zp)  (zi (zC (zm (zR hr.units1) (zD (pq 2)) zg (zq _))  (zi (zI 4 Qf.nd (zj zn (zj zn (pq 1) zg) (zj qu (zA (pq 2)) (zj qz (zJ zG zF (za (pq 0) ze)) (pq 1)))))  (zh (zu (qt (za (zj zn (pq 4) zg) (za (zj zn (zj zn (zK qb (pq 0) zV (zQ (pq 4))) (zv (za (zX (pq 0) (zj qu (pq 3) (pq 1))) ze))) (zK qb (pq 0) (zQ (pq 4)) zV)) ze))))))  zp)  (zi (zC (zm (zR hr.units1) (zD (zA (pq 2))) zg (zq _))  (zh (zu (qt (za zg (za (zv (za zl ze)) ze)))))  zp)  (zh (zu (qt (za (zj zn (zJ zG zF (za (pq 0) ze)) zg) (za (zj zn (pq 0) (zv (za zl ze))) ze))))))))), ?_⟩;walk_at "go";have ln : (zt bs rs).length = bs.length + rs.length := by unfold zt;rw [length_append, length_map, length_map]
 refine ⟨_, .inl ⟨_, SqL.of hl, rfl⟩, by rw [length_map, ln];lia, ?_⟩;rw [length_map, ln];obtain ⟨i, hi, il⟩ : ∃ i : Nat, x / 4 % ((bs.length + rs.length : Nat) : Int) = i /\ i < bs.length + rs.length := by
  have h1 := Int.emod_nonneg (x / 4) (b := ((bs.length + rs.length : Nat) : Int)) (by lia);have h2 := Int.emod_lt_of_pos (x / 4) (b := ((bs.length + rs.length : Nat) : Int)) (by lia);exact ⟨(x / 4 % ((bs.length + rs.length : Nat) : Int)).toNat, by lia, by lia⟩
 rw [hi];walk_at "go";refine zN (λ z => ?_) (λ z => ?_)
 ·walk_at "go";refine ⟨_, .inl ⟨_, SqL.of hl, rfl⟩, ?_⟩;rw [length_map, ln];obtain ⟨l, hi2, ll⟩ : ∃ l : Nat, (i : Int) + y / 5 % (((bs.length + rs.length : Nat) : Int) - i) = l /\ i <= l /\ l < bs.length + rs.length := by
   have h1 := Int.emod_nonneg (y / 5) (b := ((bs.length + rs.length : Nat) : Int) - i) (by lia);have h2 := Int.emod_lt_of_pos (y / 5) (b := ((bs.length + rs.length : Nat) : Int) - i) (by lia);exact ⟨((i : Int) + y / 5 % (((bs.length + rs.length : Nat) : Int) - i)).toNat, by lia, by lia, by lia⟩
  refine ⟨by lia, ?_⟩;rw [hi2];walk_at "go";refine ⟨rl, _, rfl, .inl (SqL.of hl), λ B hB => ?_⟩;have s1 := zf (o := .lst ((zt bs rs).map V.str)) hB;have gB : upd H B (.lst ((zt bs rs).map V.str)) B = some (.lst ((zt bs rs).map V.str)) := upd_same;generalize upd H B (.lst ((zt bs rs).map V.str)) = H1 at s1 gB ⊢;walk_at "go";have lL : l < (zt bs rs).length := by rw [ln];exact ll.2
  have lI : i < (zt bs rs).length := by rw [ln];exact il
  obtain ⟨k2, n2, e2, gd2⟩ := Wu g _ (getElem_mem lL);obtain ⟨k1, n1, e1, gd1⟩ := Wu g _ (getElem_mem lI);refine uc (Z3 T).mono (zS (SqL.of (s1 _ _ hl)) (qg (j := l) (v := .str (qP (nmO k2) n2)) ?_) ⟨k2, n2, _, rfl, gd2, λ x2 H2 s2 b2 f2 l2 => vU (j := l) (s2 _ _ gB) ?_ ?_⟩)
  ·rw [getElem?_map, getElem?_eq_getElem lL, e2];rfl
  ·rw [Js (Int.natCast_nonneg _) (by rw [length_map];lia)];rfl
  rw [<- map_set];have t2 : Same H (upd H2 B (.lst (((zt bs rs).set l x2).map V.str))) := x9 (s1.trans s2) hB;have g2 : upd H2 B (.lst (((zt bs rs).set l x2).map V.str)) B = some (.lst (((zt bs rs).set l x2).map V.str)) := upd_same;generalize upd H2 B _ = H3 at t2 g2 ⊢;walk_at "go";refine uc (Z3 T).mono (zS (SqL.of (t2 _ _ hl)) (qg (j := i) (v := .str (qP (nmO k1) n1)) ?_) ⟨k1, n1, _, rfl, gd1, λ x1 H4 s4 b1' f1 l1 => vU (j := i) (s4 _ _ g2) ?_ ?_⟩)
  ·rw [getElem?_map, getElem?_eq_getElem lI, e1];rfl
  ·rw [Js (Int.natCast_nonneg _) (by rw [length_map, length_set];lia)];rfl
  rw [<- map_set];have t5 : Same H (upd H4 B (.lst ((((zt bs rs).set l x2).set i x1).map V.str))) := x9 (t2.trans s4) hB;have g5 : upd H4 B (.lst ((((zt bs rs).set l x2).set i x1).map V.str)) B = some (.lst ((((zt bs rs).set l x2).set i x1).map V.str)) := upd_same;generalize upd H4 B _ = H5 at t5 g5 ⊢;have bt := λ {kk : Nat} (h : kk <= 30) => zcj g (by lia) ll.1 ll.2 ⟨b1', f1, l1⟩ ⟨f2, l2⟩ (k := kk) h;have lb : (((zt bs rs).set l x2).set i x1).length = bs.length + rs.length := by rw [length_set, length_set, ln]
  clear gd1 gd2 e1 e2 s1 s2 s4 t2 g2 gB b1' f1 l1 b2 f2 l2;walk_at "go";have fin : ∀ {M : Addr} {H' : Hp} {kk : Nat}, kk <= 30 -> Same H5 H' -> H' M = some (.lst ((List.replicate kk (Str.ofString "belt 1 1")).map V.str)) -> ∃ n, zdu K (.ref M) H' n /\ xy K (.ref M) (.ref B) H' λ x H1 => ∀ p, H1 p = none -> Q (.ref p) (upd H1 p (.tup [.int (n + i + 1), x])) := λ {M H' kk} hk s gM => by
   refine ⟨_, .inl ⟨_, SqL.of gM, rfl⟩, zZ (SqL.of gM) (SqL.of (s _ _ g5)) (zW (by rw [length_map, length_map, length_replicate, lb];lia)) λ p3 hp3 t ht => ?_⟩;rw [length_map, length_replicate];refine k t p3 _ (kk + i) _ (t5.trans (s.trans ((zf hp3).trans (zf ht)))) (by rw [upd_same];exact congrArg (λ z => some (HO.tup [V.int z, .ref p3])) (by lia)) ?_ (bt hk);rw [upd_keep upd_same ht, map_append]
  intro M hM;walk_at "go";refine zN (λ z => ?_) (λ z => ?_)
  ·walk_at "go";intro p hp;have ek : ((25 : Int) - (bs.length : Int)).toNat = 25 - bs.length := by lia
   refine ⟨p, _, _, rfl, rfl, upd_same, by lia, by lia, by rw [ek];exact zW (by simp;lia), λ p2 hp2 => ?_⟩;walk_at "go";refine fin (kk := 25 - bs.length) (by lia) ((zf hM).trans ((zf hp).trans (zf hp2))) ?_;rw [upd_same, ek, List.flatten_replicate_singleton, List.map_replicate]
  walk_at "go";exact fin (kk := 0) (by decide) (zf hM) upd_same
 walk_at "go";refine zN (λ z => ?_) (λ z => ?_)
 ·walk_at "go";refine ⟨_, .inl ⟨_, SqL.of hl, rfl⟩, ?_⟩;rw [length_map, ln];obtain ⟨j, hj, jl⟩ : ∃ j : Nat, x / 4 % (((bs.length + rs.length : Nat) : Int) - bs.length) = j /\ j < rs.length := by
   rw [show ((bs.length + rs.length : Nat) : Int) - bs.length = rs.length by lia];have h1 := Int.emod_nonneg (x / 4) (b := (rs.length : Int)) (by lia);have h2 := Int.emod_lt_of_pos (x / 4) (b := (rs.length : Int)) (by lia);exact ⟨(x / 4 % (rs.length : Int)).toNat, by lia, by lia⟩
  obtain ⟨q, hq, ql⟩ : ∃ q : Nat, y % (bs.length : Int) = q /\ q < bs.length := by
   have h1 := Int.emod_nonneg y (b := (bs.length : Int)) (by lia);have h2 := Int.emod_lt_of_pos y (b := (bs.length : Int)) (by lia);exact ⟨(y % (bs.length : Int)).toNat, by lia, by lia⟩
  refine ⟨by lia, ?_⟩;rw [hj, hq, show (bs.length : Int) + 1 + (j : Int) = ((bs.length + (1 + j) : Nat) : Int) by lia];refine qc (SqL.of hl) λ p1 hp1 => ⟨by lia, ?_⟩;rw [qW _ _ (by rw [length_map, ln];lia), <- map_take];have t1 := zf (o := .lst (((zt bs rs).take (bs.length + (1 + j))).map V.str)) hp1;refine zS (SqL.of (t1 _ _ hl)) (qg (j := q) (v := .str (qX bs[q])) ?_) λ p2 hp2 => ?_
  ·rw [getElem?_map];unfold zt;rw [getElem?_append_left (by rw [length_map];exact ql), getElem?_map, getElem?_eq_getElem ql]
   rfl
  have t2 := t1.trans (zf (o := .lst [.str (qX bs[q])]) hp2);refine zZ (SqL.of (upd_keep upd_same hp2)) (SqL.of upd_same) (zW (by rw [length_map, length_take];simp;lia)) λ p3 hp3 => ?_;have t3 := t2.trans (zf (o := .lst (((zt bs rs).take (bs.length + (1 + j))).map V.str ++ [.str (qX bs[q])])) hp3);generalize upd (upd H p1 _) p2 _ = H4 at *;refine qc (SqL.of (t3 _ _ hl)) λ p4 hp4 => ?_;rw [qk _ _ (by rw [length_map, ln];lia), <- map_drop];have t4 := t3.trans (zf (o := .lst (((zt bs rs).drop (bs.length + (1 + j))).map V.str)) hp4);refine zZ (SqL.of (upd_keep upd_same hp4)) (SqL.of upd_same) (zW (by simp [ln];lia)) λ p5 hp5 t ht => ?_;refine k t p5 _ (bs.length + (1 + j)) _ (t4.trans ((zf hp5).trans (zf ht))) (by rw [upd_same];exact congrArg (λ z => some (HO.tup [V.int z, .ref p5])) (by lia)) ?_ (zbG g (by lia) jl (getElem_mem ql));rw [upd_keep upd_same ht];simp only [map_cons, map_append, append_assoc, cons_append, nil_append]
 walk_at "go";refine zN (λ z => ?_) (λ z => ?_)
 ·walk_at "go";exact λ p hp t ht => k t p _ 0 _ ((zf hp).trans (zf ht)) upd_same (upd_keep upd_same ht) zck
 walk_at "go";refine ⟨_, .inl ⟨_, SqL.of hl, rfl⟩, λ p hp => ?_⟩;rw [length_map, ln];refine zZ (SqL.of (upd_keep hl hp)) (SqL.of upd_same) (zW (by simp [ln];lia)) λ p3 hp3 t ht => ?_;refine k t p3 _ (bs.length + rs.length) _ ((zf hp).trans ((zf hp3).trans (zf ht))) upd_same ?_ (zcl g (by lia));rw [upd_keep upd_same ht, map_append]
 rfl
theorem jN {bs : List (Int × Int)} {rs : List Row} (h : qw bs rs) : (qv rs).length = bs.length /\ (zU rs).length = bs.length := by
 have h1 := h.2.1.length_eq;have h2 := h.2.2.length_eq;unfold rgI at h1 h2;rw [length_map, List.length_range] at h1 h2;exact ⟨h1, h2⟩
theorem Jw (xs ys : List Row) (r : Row) : (qv (xs ++ r :: ys)).length = (qv (xs ++ ys)).length + r.outs.length := by
 unfold qv;rw [flatMap_append, flatMap_append, List.flatMap_cons];simp only [length_append]
 lia
theorem wt (xs ys : List Row) (r : Row) : (zU (xs ++ r :: ys)).length = (zU (xs ++ ys)).length + r.ins.length := by
 unfold zU;rw [flatMap_append, flatMap_append, List.flatMap_cons];simp only [length_append]
 lia
theorem Jf {r : Row} (ok : r.ok) : 1 <= r.ins.length + r.outs.length /\ r.ins.length <= 4 /\ r.outs.length <= 4 := by
 obtain ⟨wd, ins, outs, pc, ks⟩ := r;cases wd
 ·obtain ⟨h1, ⟨o, h2⟩, h3⟩ := ok;cases h1;cases h2;simp
 ·obtain ⟨⟨i, h1⟩, h2, h3⟩ := ok;cases h1;cases h2;simp
 ·obtain ⟨⟨i, h1⟩, h3⟩ := ok;cases h1;simp only [length_singleton] at h3 ⊢
  lia
 ·obtain ⟨⟨i, h1⟩, h3⟩ := ok;cases h1;simp only [length_singleton] at h3 ⊢
  lia
 ·obtain ⟨⟨i, h1⟩, h3, _⟩ := ok;cases h1;simp only [length_singleton] at h3 ⊢
  lia
 ·obtain ⟨⟨i, h1⟩, h3⟩ := ok;cases h1;simp only [length_singleton] at h3 ⊢
  lia
theorem jW (bs : List (Int × Int)) (rs : List Row) (m : Nat) : (zt bs rs).drop (bs.length + m) = (rs.drop m).map vN := by
 unfold zt;rw [show bs.length + m = (bs.map qX).length + m by rw [length_map], List.drop_length_add_append, map_drop]
theorem xo (bs : List (Int × Int)) (xs ys : List Row) : zt bs (xs ++ ys) = zt bs xs ++ ys.map vN := by
 unfold zt;rw [map_append, append_assoc]
theorem wv {rs : List Row} {j : Nat} (jl : j < rs.length) : rs = rs.take j ++ rs[j] :: rs.drop (j + 1) := by
 rw [List.getElem_cons_drop, take_append_drop]
section
variable {bs : List (Int × Int)} {rs : List Row} {j : Nat}
theorem Gt.of (h : qw bs rs) (bo : ∀ b ∈ bs, z4 b.1 b.2) (ro : ∀ r ∈ rs, r.ok) : Gt bs rs := have t := QZ h bo ro;⟨t.bo, t.ro, t.nb⟩
theorem Gt.app {xs ys : List Row} (g : Gt bs xs) (k : Gt bs ys) : Gt bs (xs ++ ys) := ⟨g.bo, λ r hr => (List.mem_append.mp hr).elim (g.ro r) (k.ro r), λ r hr => (List.mem_append.mp hr).elim (g.nb r) (k.nb r)⟩
theorem Gt.drop (g : Gt bs rs) (m : Nat) : Gt bs (rs.drop m) := ⟨g.bo, λ r hr => g.ro r (mem_of_mem_drop hr), λ r hr => g.nb r (mem_of_mem_drop hr)⟩
theorem Gt.one (g : Gt bs rs) {r : Row} (hr : r ∈ rs) : Gt bs [r] := ⟨g.bo, λ x hx => by rw [List.mem_singleton.mp hx];exact g.ro r hr, λ x hx => by rw [List.mem_singleton.mp hx];exact g.nb r hr⟩
theorem no0 (h : qw bs rs) (g : Gt bs rs) (jl : j < rs.length) : NoW ((zt bs rs).take (bs.length + j) ++ (zt bs rs).drop (bs.length + j + 1)) bs (rs.take j ++ rs.drop (j + 1)) := by
 obtain ⟨h1, h2⟩ := jN h;have p := Jf (g.ro _ (getElem_mem jl));have b := h.1;rw [wv jl, Jw] at h1;rw [wv jl, wt] at h2;refine ⟨by rw [jr, Nat.add_assoc, jW, xo], (g.take _).app (g.drop _), λ z => ?_, by lia, by lia, ?_, ?_⟩
 ·have := jN z
  lia
 ·rw [jr, Nat.add_assoc, jW, <- xo, z5, length_append, length_take, length_drop]
  lia
 ·rw [jr, Nat.add_assoc, jW, <- xo];intro z;have := congrArg List.length z;rw [z5, length_nil] at this
  lia
theorem no1 (h : qw bs rs) (g : Gt bs rs) (jl : j < rs.length) : NoW (zt bs rs ++ [vN rs[j]]) bs (rs ++ [rs[j]]) := by
 obtain ⟨h1, h2⟩ := jN h;have p := Jf (g.ro _ (getElem_mem jl));have b := h.1;have f := Jw rs [] rs[j];have t := wt rs [] rs[j];rw [append_nil] at f t;refine ⟨by rw [xo];rfl, g.app (g.one (getElem_mem jl)), λ z => ?_, by lia, by lia, ?_, by simp⟩
 ·have := jN z
  lia
 ·rw [length_append, z5, length_singleton]
  lia
theorem no2 (h : qw bs rs) (g : Gt bs rs) : NoW ((zt bs rs).take (bs.length - 1) ++ (zt bs rs).drop bs.length) bs.dropLast rs := by
 obtain ⟨h1, h2⟩ := jN h;have b := h.1;have e : (zt bs rs).take (bs.length - 1) ++ (zt bs rs).drop bs.length = zt bs.dropLast rs := by
  have d := jW bs rs 0;rw [Nat.add_zero, drop_zero] at d;rw [d];unfold zt;rw [List.take_append_of_le_length (by rw [length_map];lia), <- map_take, <- List.dropLast_eq_take]
 refine ⟨e, ⟨λ x hx => g.bo x ((List.dropLast_sublist _).subset hx), g.ro, g.nb⟩, λ z => ?_, by lia, by lia, ?_, ?_⟩
 ·have := jN z;rw [length_dropLast] at this
  lia
 ·rw [e, z5, length_dropLast]
  lia
 ·rw [e];intro z;have := congrArg List.length z;rw [z5, length_nil] at this
  lia
theorem no3 (h : qw bs rs) (g : Gt bs rs) : NoW (Str.ofString "belt 1 1" :: zt bs rs) ((1, 1) :: bs) rs := by
 obtain ⟨h1, h2⟩ := jN h;have b := h.1;refine ⟨Qr bs rs 1, g.more 1, λ z => ?_, by lia, by lia, ?_, λ z => nomatch z⟩
 ·have := jN z;rw [length_cons] at this
  lia
 ·rw [length_cons, z5]
  lia
def offR (r : Row) (m : Int) : Row := if r.ins = [] then ⟨r.wd, r.ins, [m], r.pace, r.kinds⟩ else ⟨r.wd, r.ins.dropLast ++ [m], r.outs, r.pace, r.kinds⟩
theorem Vd {r : Row} (ok : r.ok) (m : Int) : (offR r m).ins.length = r.ins.length /\ (offR r m).outs.length = r.outs.length /\ (offR r m).ok := by
 unfold offR
 split
 ·rename_i z;have e : [m].length = r.outs.length := by
   obtain ⟨wd, ins, outs, pc, ks⟩ := r;cases z;cases wd
   ·obtain ⟨_, ⟨o, h2⟩, _⟩ := ok;cases h2
    rfl
   ·obtain ⟨⟨i, h1⟩, _⟩ := ok;cases h1
   ·obtain ⟨⟨i, h1⟩, _⟩ := ok;cases h1
   ·obtain ⟨⟨i, h1⟩, _⟩ := ok;cases h1
   ·obtain ⟨⟨i, h1⟩, _⟩ := ok;cases h1
   ·obtain ⟨_, h1, _⟩ := ok;cases h1
  exact ⟨rfl, e, Wf ok rfl e⟩
 ·rename_i z;have e : (r.ins.dropLast ++ [m]).length = r.ins.length := by
   rw [length_append, length_dropLast, length_singleton];have := List.length_pos_iff.mpr z
   lia
  exact ⟨e, rfl, Wf ok e rfl⟩
theorem za2 {r : Row} {n : Int} (h : n ∈ zO r) : n ∈ r.ins \/ n ∈ r.outs \/ n ∈ qF r := by
 unfold zO at h
 split at h
 ·rcases List.mem_append.mp h with h|h
  ·exact .inr (.inl h)
  ·exact .inl h
 ·rcases List.mem_append.mp h with h|h
  ·rcases List.mem_append.mp h with h|h
   ·exact .inl h
   ·exact .inr (.inl h)
  ·exact .inr (.inr h)
theorem xA {r : Row} {n : Int} (h : n ∈ r.ins \/ n ∈ r.outs \/ n ∈ qF r) : n ∈ zO r := by
 unfold zO
 split
 ·rename_i z;rcases h with h|h|h
  ·exact mem_append_right _ h
  ·exact mem_append_left _ h
  ·unfold qF at h;rw [z] at h;cases h
 ·rcases h with h|h|h
  ·exact mem_append_left _ (mem_append_left _ h)
  ·exact mem_append_left _ (mem_append_right _ h)
  ·exact mem_append_right _ h
theorem zaZ {r : Row} {m : Int} (nb : ∀ n ∈ zO r, 0 <= n /\ n < zo) (hm : 0 <= m /\ m < zo) : ∀ n ∈ zO (offR r m), 0 <= n /\ n < zo := λ n hn => by
 have h := za2 hn;unfold offR at h
 split at h
 ·rcases h with h|h|h
  ·exact nb n (xA (.inl h))
  ·rw [List.mem_singleton.mp h];exact hm
  ·exact nb n (xA (.inr (.inr h)))
 ·rcases h with h|h|h
  ·rcases List.mem_append.mp h with h|h
   ·exact nb n (xA (.inl ((List.dropLast_sublist _).subset h)))
   ·rw [List.mem_singleton.mp h];exact hm
  ·exact nb n (xA (.inr (.inl h)))
  ·exact nb n (xA (.inr (.inr h)))
theorem zb1 (r : Row) (m : Int) : m ∈ (offR r m).ins \/ m ∈ (offR r m).outs := by
 unfold offR
 split
 ·exact .inr (List.mem_singleton.mpr rfl)
 ·exact .inl (mem_append_right _ (List.mem_singleton.mpr rfl))
theorem za0 (g : Gt bs rs) (jl : j < rs.length) {m : Int} (hm : 0 <= m /\ m < zo) : Gt [] [offR rs[j] m] :=
 ⟨(λ _ z => nomatch z), λ x hx => by rw [List.mem_singleton.mp hx];exact (Vd (g.ro _ (getElem_mem jl)) m).2.2, λ x hx => by rw [List.mem_singleton.mp hx];exact zaZ (g.nb _ (getElem_mem jl)) hm⟩
theorem no4 (h : qw bs rs) (g : Gt bs rs) (jl : j < rs.length) {m : Int} (hm : bs.length <= m /\ m < zo) : NoW ((zt bs rs).take (bs.length + j) ++ (zt [] [offR rs[j] m] ++ (zt bs rs).drop (bs.length + j + 1))) bs (rs.take j ++ offR rs[j] m :: rs.drop (j + 1)) := by
 obtain ⟨h1, h2⟩ := jN h;have b := h.1;have o := Vd (g.ro _ (getElem_mem jl)) m;have og := za0 g jl (m := m) ⟨by lia, hm.2⟩;rw [wv jl, Jw] at h1;rw [wv jl, wt] at h2;have e : (zt bs rs).take (bs.length + j) ++ (zt [] [offR rs[j] m] ++ (zt bs rs).drop (bs.length + j + 1)) = zt bs (rs.take j ++ offR rs[j] m :: rs.drop (j + 1)) := by
  rw [jr, Nat.add_assoc, jW, xo]
  rfl
 refine ⟨e, (g.take _).app (Gt.app (xs := [offR rs[j] m]) ⟨g.bo, og.ro, og.nb⟩ (g.drop _)), λ z => ?_, by rw [Jw];lia, by rw [wt];lia, ?_, ?_⟩
 ·rcases zb1 rs[j] m with q|q
  ·have := xO (z.2.2.mem_iff.mp (List.mem_flatMap.mpr ⟨_, mem_append_right _ (mem_cons_self ..), q⟩))
   lia
  ·have := xO (z.2.1.mem_iff.mp (List.mem_flatMap.mpr ⟨_, mem_append_right _ (mem_cons_self ..), q⟩))
   lia
 ·rw [e, z5, length_append, length_cons, length_take, length_drop]
  lia
 ·rw [e];intro z;have := congrArg List.length z;rw [z5, length_nil, length_append, length_cons] at this
  lia
end
theorem zbu (xs : List V) (h : 1 <= xs.length) : jz xs none (some (-1)) = xs.dropLast := by
 have e : HT.sIx xs.length xs.length (some (-1)) = xs.length - 1 := by
  unfold HT.sIx;simp only
  lia
 unfold jz;rw [HT.sIx_none, e, List.dropLast_eq_take, drop_zero, Nat.sub_zero]
def zau : Sp := λ vs H Q _ => ∃ (v : V) (bs : List (Int × Int)) (rs : List Row) (c : Int), vs = [v, .int c] /\ Rep H (Off []) v (.tup [.lst (bs.map wQ), .lst (rs.map xF)]) /\ qw bs rs /\ (∀ b ∈ bs, z4 b.1 b.2) /\ (∀ r ∈ rs, r.ok) /\ ∀ (L : Addr) (ls : List Str) bs' rs' H', Same H H' -> H' L = some (.lst (ls.map V.str)) -> NoW ls bs' rs' -> Q (.ref L) H'
theorem XN (T : Txt K mg a) : Cal P w K mg base "_law_no_work" 2 ["_law_made", "_law_cell"] [] zau := T.h_L_no_work.cal λ F => by
 refine F.okx Jb ?_ ?_
 ·walk_at "i"
 walk_at "j";obtain ⟨v, bs, rs, c, rfl, rep, wok, bo, ro, k⟩ := h;have g := Gt.of wok bo ro;have told := QZ wok bo ro;have b := wok.1;walk_at "T";refine ⟨_, (zi (zI 2 Jb.nd (z6 ⟨rfl, rfl, rfl⟩ hr (za (pq 0) ze)))  (zi (zI 3 Jb.nd (zJ zG zF (za (zX (pq 0) zg) ze)))  (zi (zI 4 Jb.nd (zj zn (pq 3) (zj qu (zA (pq 1)) (zj qz (zJ zG zF (za (pq 2) ze)) (pq 3)))))  (zi (zC (zm (zR hr.units1) (zD (pq 1)) zg (zq _))  (zh (zu (zj zn (zK qb (pq 2) zV (zQ (pq 4))) (zK qb (pq 2) (zQ (zj zn (pq 4) zg)) zV))))  zp)  (zi (zC (zm (zR hr.units1) (zD (pq 1)) zg (zq _))  (zh (zu (zj zn (pq 2) (zv (za (zX (pq 2) (pq 4)) ze)))))  zp)  (zi (zC (zm (zR hr.units1) (zD (pq 1)) zg (zq _))  (zh (zu (zj zn (zK qb (pq 2) zV (zQ (zj qz (pq 3) zg))) (zK qb (pq 2) (zQ (pq 3)) zV))))  zp)  (zi (zC (zm (zR hr.units1) (zD (pq 1)) zg (zq _))  (zh (zu (zj zn (zv (za zl ze)) (pq 2))))  zp)  (zi (vd (zX (zX (pq 0) zg) (zj qz (pq 4) (pq 3))) (ve (n := 4) rfl (z8 (qI 5 Jb.nd) (z8 (qI 6 Jb.nd) (z8 (qI 7 Jb.nd) (z8 (qI 8 Jb.nd) xL))))))  (zi (zI 9 Jb.nd (zj zn (pq 3) (Jm (zj qE (zA (pq 1)) zg))))  (zi (zC (zm xV (zJ zG zF (za (pq 6) ze)) zg (zq _))  (zh (zI 6 Jb.nd (zj zn (zK qb (pq 6) zV (zQ (zdG zcF zg))) (zv (za (pq 9) ze)))))  (zh (zI 7 Jb.nd (zv (za (pq 9) ze)))))  (zh (zu (zj zn (zj zn (zK qb (pq 2) zV (zQ (pq 4))) (z6 ⟨rfl, rfl, rfl⟩ hr (za (qt (za (zv ze) (za (zv (za (qt (za (pq 5) (za (pq 6) (za (pq 7) (za (pq 8) ze))))) ze)) ze))) ze))) (zK qb (pq 2) (zQ (zj zn (pq 4) zg)) zV)))))))))))))), ?_⟩;walk_at "go";refine uc (xH T).mono ⟨v, bs, rs, _, rfl, rep, told, λ rl H1 s1 hl => ?_⟩;have ln := z5 bs rs;replace rep := rep.same s1;walk_at "go";refine vV rep at0 λ u ru => ?_;obtain ⟨l1, us1, rfl, _, g1, r1⟩ := ru.lst';have lb : us1.length = bs.length := by rw [r1.len, length_map]
 refine ⟨_, .inl ⟨_, SqL.of g1, rfl⟩, ?_⟩;rw [lb];walk_at "go";refine ⟨_, .inl ⟨_, SqL.of hl, rfl⟩, ?_⟩;rw [length_map, ln];obtain ⟨j, hj, jl⟩ : ∃ j : Nat, c / 5 % (((bs.length + rs.length : Nat) : Int) - bs.length) = j /\ j < rs.length := by
  rw [show ((bs.length + rs.length : Nat) : Int) - bs.length = rs.length by lia];have h1 := Int.emod_nonneg (c / 5) (b := (rs.length : Int)) (by lia);have h2 := Int.emod_lt_of_pos (c / 5) (b := (rs.length : Int)) (by lia);exact ⟨(c / 5 % (rs.length : Int)).toNat, by lia, by lia⟩
 refine ⟨by lia, ?_⟩;rw [hj, show (bs.length : Int) + (j : Int) = ((bs.length + j : Nat) : Int) by lia];have lm : ((zt bs rs).map V.str).length = bs.length + rs.length := by rw [length_map, ln]
 walk_at "go";refine zN (λ z => ?_) (λ z => ?_)
 ·walk_at "go";refine qc (SqL.of hl) λ p1 hp1 => ?_;rw [qW _ _ (by rw [lm];lia), <- map_take];have t1 := zf (o := .lst (((zt bs rs).take (bs.length + j)).map V.str)) hp1;refine qc (SqL.of (t1 _ _ hl)) λ p2 hp2 => ?_;rw [show ((bs.length + j : Nat) : Int) + 1 = ((bs.length + j + 1 : Nat) : Int) by lia, qk _ _ (by rw [lm];lia), <- map_drop];refine zZ (SqL.of (upd_keep upd_same hp2)) (SqL.of upd_same) (zW (by simp [ln];lia)) λ p3 hp3 => ?_;exact k p3 _ _ _ _ (s1.trans (t1.trans ((zf hp2).trans (zf hp3)))) (by rw [upd_same, map_append]) (no0 wok g jl)
 walk_at "go";refine zN (λ z => ?_) (λ z => ?_)
 ·walk_at "go";refine zS (SqL.of hl) (qg (j := bs.length + j) (v := .str (vN rs[j])) ?_) λ p2 hp2 => ?_
  ·rw [getElem?_map];unfold zt;rw [getElem?_append_right (by rw [length_map];lia), length_map, Nat.add_sub_cancel_left, getElem?_map, getElem?_eq_getElem jl]
   rfl
  refine zZ (SqL.of (upd_keep hl hp2)) (SqL.of upd_same) (zW (by simp [ln];lia)) λ p3 hp3 => ?_;exact k p3 _ _ _ _ (s1.trans ((zf hp2).trans (zf hp3))) (by rw [upd_same, map_append];rfl) (no1 wok g jl)
 walk_at "go";refine zN (λ z => ?_) (λ z => ?_)
 ·walk_at "go";refine qc (SqL.of hl) λ p1 hp1 => ?_;rw [show (bs.length : Int) - 1 = ((bs.length - 1 : Nat) : Int) by lia, qW _ _ (by rw [lm];lia), <- map_take];have t1 := zf (o := .lst (((zt bs rs).take (bs.length - 1)).map V.str)) hp1;refine qc (SqL.of (t1 _ _ hl)) λ p2 hp2 => ?_;rw [qk _ _ (by rw [lm];lia), <- map_drop];refine zZ (SqL.of (upd_keep upd_same hp2)) (SqL.of upd_same) (zW (by simp [ln];lia)) λ p3 hp3 => ?_;exact k p3 _ _ _ _ (s1.trans (t1.trans ((zf hp2).trans (zf hp3)))) (by rw [upd_same, map_append]) (no2 wok g)
 walk_at "go";refine zN (λ z => ?_) (λ z => ?_)
 ·walk_at "go";refine λ p2 hp2 => ?_;refine zZ (SqL.of upd_same) (SqL.of (upd_keep hl hp2)) (zW (by simp [ln];lia)) λ p3 hp3 => ?_;exact k p3 _ _ _ _ (s1.trans ((zf hp2).trans (zf hp3))) (by rw [upd_same];rfl) (no3 wok g)
 walk_at "go";refine vV rep (show atI _ 1 = some _ from qg (j := 1) rfl) λ u ru => ?_;refine zbQ ru (d := xF rs[j]) ?_ λ y ry => ?_
 ·rw [show ((bs.length + j : Nat) : Int) - (bs.length : Int) = (j : Nat) by lia];exact qg (j := j) (by rw [getElem?_map, getElem?_eq_getElem jl];rfl)
 obtain ⟨t, q1, q2, q3, rfl, ht, h1, h2, h3, _⟩ := ZA ry;refine ⟨t, _, rfl, SqT.of ht, rfl, _, _, rfl, _, _, rfl, _, _, rfl, _, _, rfl, rfl, ?_⟩;walk_at "go";refine ⟨mul_okR (by decide) (by decide), ?_⟩;obtain ⟨m, em, hm⟩ : ∃ m : Int, (bs.length : Int) + c / 40 * 48271 % 10000000000000000000000000000 = m /\ bs.length <= m /\ m < zo := ⟨_, rfl, by lia, by unfold zo;lia⟩;rw [em];have n4 := no4 wok g jl hm;have og := za0 g jl (m := m) ⟨by lia, hm.2⟩;generalize rs[j] = r at ht h1 h2 h3 n4 og ⊢;have fin : ∀ {z1 z2 : Addr} {H' : Hp}, Same H1 H' -> H' z1 = some (.lst (iv (offR r m).ins)) -> H' z2 = some (.lst (iv (offR r m).outs)) -> zaG K (.ref rl) none (some ((bs.length + j : Nat) : Int)) H' λ x1 H1 => ∃ ps dvs sp, Cal P w K mg base (Str.ofString "_law_rows_of") 1 ps dvs sp /\ ∀ p, H1 p = none -> ∀ p1, upd H1 p (.lst []) p1 = none -> ∀ p2, upd (upd H1 p (.lst [])) p1 (.tup [.str (wdS r.wd), .ref z1, .ref z2, .ref q3]) p2 = none -> ∀ p3, upd (upd (upd H1 p (.lst [])) p1 (.tup [.str (wdS r.wd), .ref z1, .ref z2, .ref q3])) p2 (.lst [.ref p1]) p3 = none ->
   sp (.ref p3 :: dvs) (upd (upd (upd (upd H1 p (.lst [])) p1 (.tup [.str (wdS r.wd), .ref z1, .ref z2, .ref q3])) p2 (.lst [.ref p1])) p3 (.tup [.ref p, .ref p2])) (λ y H2 => xy K x1 y H2 λ x H1 => zaG K (.ref rl) (some (((bs.length + j : Nat) : Int) + 1)) none H1 λ y H2 => xy K x y H2 Q) λ cls x H' => EX cls none H' := λ {z1 z2 H'} s2 e1 e2 => by
  refine qc (SqL.of (s2 _ _ hl)) λ p0 hp0 => ?_;rw [qW _ _ (by rw [lm];lia), <- map_take];have t0 := zf (o := .lst (((zt bs rs).take (bs.length + j)).map V.str)) hp0;have g0 : upd H' p0 (.lst (((zt bs rs).take (bs.length + j)).map V.str)) p0 = some (.lst (((zt bs rs).take (bs.length + j)).map V.str)) := upd_same;generalize upd H' p0 _ = H2 at t0 g0 ⊢;refine uc (xH T).mono (λ p hp p1 hp1 p2 hp2 p3 hp3 => ?_);have t1 := (zf hp).trans ((zf hp1).trans ((zf hp2).trans (zf (o := .tup [.ref p, .ref p2]) hp3)));have f1 := upd_keep (o := .tup [.ref p, .ref p2]) (upd_keep (upd_keep upd_same hp1) hp2) hp3;have f2 := upd_keep (o := .tup [.ref p, .ref p2]) (upd_keep upd_same hp2) hp3;have f3 := upd_keep (o := .tup [.ref p, .ref p2]) upd_same hp3;have f4 : upd (upd (upd (upd H2 p (.lst [])) p1 (.tup [.str (wdS r.wd), .ref z1, .ref z2, .ref q3])) p2 (.lst [.ref p1])) p3 (.tup [.ref p, .ref p2]) p3 = _ := upd_same;generalize upd (upd (upd (upd H2 p (.lst [])) p1 (.tup [.str (wdS r.wd), .ref z1, .ref z2, .ref q3])) p2 (.lst [.ref p1])) p3 (.tup [.ref p, .ref p2]) = H3 at t1 f1 f2 f3 f4 ⊢;have ew : (offR r m).wd = r.wd /\ qF (offR r m) = qF r := by unfold offR;split <;> exact ⟨rfl, rfl⟩
  have tt := (s2.trans t0).trans t1;refine ⟨.ref p3, [], [offR r m], λ _ => True, rfl, Reps.mkT (.cons (Reps.nil.mk' trivial f1) (.cons (Reps.mk' (Reps.one (jw (t := p1) (l1 := z1) (l2 := z2) (l3 := q3) trivial trivial trivial trivial ?_ (t1 _ _ (t0 _ _ e1)) (t1 _ _ (t0 _ _ e2)) ?_)) trivial f3) .nil)) trivial f4, ⟨by decide, by show 1 <= 24;decide, og.bo, og.ro, og.nb⟩, λ Lr H4 s4 g4 => ?_⟩
  ·rw [ew.1];exact f2
  ·rw [ew.2];exact tt _ _ h3
  refine zZ (SqL.of (s4 _ _ (t1 _ _ g0))) (SqL.of g4) (zW (by simp [z5];lia)) λ p5 hp5 => ?_;have t5 := (tt.trans s4).trans (zf (o := .lst (((zt bs rs).take (bs.length + j)).map V.str ++ (zt [] [offR r m]).map V.str)) hp5);refine qc (SqL.of (t5 _ _ hl)) λ p6 hp6 => ?_;rw [show ((bs.length + j : Nat) : Int) + 1 = ((bs.length + j + 1 : Nat) : Int) by lia, qk _ _ (by rw [lm];lia), <- map_drop];refine zZ (SqL.of (upd_keep upd_same hp6)) (SqL.of upd_same) (zW (by simp [z5];lia)) λ p7 hp7 => ?_;exact k p7 _ _ _ _ (s1.trans (t5.trans ((zf hp6).trans (zf hp7)))) (by rw [upd_same, map_append, map_append, append_assoc]) n4
 walk_at "go";refine ⟨_, .inl ⟨_, SqL.of h1, rfl⟩, ?_⟩;rw [zE];refine zN (λ z => ?_) (λ z => ?_)
 ·have ne : ¬ r.ins = [] := λ e => by rw [e] at z;exact absurd z (by decide)
  have er : offR r m = ⟨r.wd, r.ins.dropLast ++ [m], r.outs, r.pace, r.kinds⟩ := if_neg ne;rw [er] at fin;walk_at "go";refine qc (SqL.of h1) λ p8 hp8 p9 hp9 => ?_;have ec : jz (iv r.ins) none (some (-1)) = iv r.ins.dropLast := by
   rw [zbu _ (by rw [zE];lia)];unfold iv;rw [List.map_dropLast]
  rw [ec] at hp9 ⊢;refine zZ (SqL.of (upd_keep upd_same hp9)) (SqL.of upd_same) (zW (by rw [zE, length_dropLast];have := (Jf (og.ro _ (List.mem_singleton.mpr rfl)));rw [er] at this;simp at this ⊢;lia)) λ p10 hp10 => ?_;exact fin ((zf hp8).trans ((zf hp9).trans (zf hp10))) (by rw [upd_same];simp [iv]) (upd_keep (upd_keep (upd_keep h2 hp8) hp9) hp10)
 ·have ne : r.ins = [] := List.length_eq_zero_iff.mp (by lia);have er : offR r m = ⟨r.wd, r.ins, [m], r.pace, r.kinds⟩ := if_pos ne;rw [er] at fin;exact λ p8 hp8 => fin (zf hp8) (upd_keep h1 hp8) upd_same
inductive Caught (a : Ad) (H : Hp) (e : Addr) : Option Nat -> Prop
 | row {D : Addr} {d : Nat} : H e = some (wm e (.int D a.BadRow)) -> H D = some (.xd [("line", .int (d + 1 : Nat))]) -> Caught a H e (some d)
 | work : H e = some (wm e (.ref a.BadWork)) -> Caught a H e none
inductive Due (ls : List Str) : Option Nat -> Prop
 | row {d : Nat} : BadAt ls d -> Due ls (some d)
 | work {bs : List (Int × Int)} {rs : List Row} : NoW ls bs rs -> Due ls none
theorem Due.ok {ls : List Str} {o : Option Nat} (h : Due ls o) : ls ≠ [] /\ ls.length <= 100 /\ ∀ x ∈ ls, 10 ∉ x.cps.toList /\ x.length <= 10000 := by
 cases h with
 | row b => exact ⟨(λ z => absurd b.lt (by rw [z];exact Nat.not_lt_zero _)), b.le, b.ok⟩
 | work n => exact ⟨n.p, n.l, by rw [n.e];exact wP n.g⟩
theorem wG {ls : List Str} {n m : Nat} (h : n <= m) (k : rdF (ls.take m) ≠ none) : rdF (ls.take n) ≠ none := by
 refine zaD (ys := (ls.take m).drop n) ?_;have e : ls.take n = (ls.take m).take n := by rw [List.take_take, Nat.min_eq_left h]
 rw [e, take_append_drop];exact k
theorem BadAt.eq {ls : List Str} {d i : Nat} (b : BadAt ls d) (h1 : rdF (ls.take i) ≠ none) (h2 : rdF (ls.take (i + 1)) = none) : i = d := by
 rcases Nat.lt_trichotomy i d with h|h|h
 ·exact absurd h2 (wG h b.pre)
 ·exact h
 ·exact absurd b.bad (wG h h1)
theorem BadAt.no {ls : List Str} {d : Nat} (b : BadAt ls d) : rdF ls = none := by
 apply Classical.byContradiction;intro h;rw [<- take_length (l := ls)] at h;exact wG b.lt h b.bad
def zaw (a : Ad) : Sp := λ vs H Q _ => ∃ (L : Addr) (ls : List Str) (o : Option Nat), vs = [.ref L] /\ H L = some (.lst (ls.map V.str)) /\ Due ls o /\ ∀ (e : Addr) H', Same H H' -> Caught a H' e o -> Q (.ref e) H'
theorem Z4 (T : Txt K mg a) : Cal P w K mg base "_law_caught" 8 ["_law_rows"] [] (zaw a) := T.h_L_caught.cal λ F => by
 refine F.okx JT ?_ ?_
 ·walk_at "i"
 walk_at "j";obtain ⟨L, ls, o, rfl, hl, du, k⟩ := h;obtain ⟨l0, l100, lok⟩ := du.ok;walk_at "T";refine ⟨_, (zH (zI 1 JT.nd jv)  (zH (VS (i := 2) ⟨rfl, rfl, rfl⟩ rfl JT.nd rfl rfl (λ pn G => (zh (zw (z6 ⟨rfl, rfl, rfl⟩ hr (za (z7 PySem.F.plainAttrs_str PySem.F.slot_str_join PySem.F.type_str_join jo zl (za (pq 0) ze)) ze))))) (λ pn a => (zh (zI 1 JT.nd (pq 2)))))  (zh (zu (pq 1))))), ?_⟩;walk_at "go";refine ⟨a.WorkError, T.g_WorkError, T.S_WorkError, λ pn => (uc (vJ T).mono ⟨jg, _, L, ls, rfl, rfl, hl, ?_, ls, rfl, l0, l100, lok, λ i il h1 h2 D H1 s1 hD => ?_, λ bs rs h => ?_⟩)⟩
 ·have h2 := jA (m := 10000) λ x hx => (lok x hx).2;rw [show (Str.ofString "\n").length = 1 from by decide +kernel]
  lia
 ·cases du with
  | row b =>
   refine ⟨a.BadRow, rfl, T.E_BadRow_WorkError, λ e he => k e _ (s1.trans ((zf hD).trans (zf he))) (.row upd_same ?_)⟩;rw [upd_keep upd_same he, b.eq h1 h2]
  | work n =>
   have := jD n.g;rw [<- n.e] at this;rw [<- take_length (l := ls)] at this;exact absurd h2 (wG il (by rw [this];exact λ z => nomatch z))
 ·cases du with
  | row b => rw [b.no] at h;cases h
  | work n =>
   have e := jD n.g;rw [<- n.e, h] at e;cases e;rw [Jv, wZ, can_work];exact ⟨n.f, n.t, λ z => absurd z n.n, λ _ H1 s1 => ⟨a.BadWork, rfl, T.E_BadWork_WorkError, λ e he => k e _ (s1.trans (zf he)) (.work upd_same)⟩⟩
def Vg : Option Nat -> V
 | none => .non
 | some d => .int (d + 1 : Nat)
def zcI (a : Ad) : Sp := λ vs H Q _ => ∃ (e : Addr) (o : Option Nat), vs = [.ref e, Vg o] /\ Caught a H e o /\ ∀ H', Same H H' -> Q (.bl true) H'
theorem XL (T : Txt K mg a) : Cal P w K mg base "_law_told" 1 ["_law_caught_here", "_law_due"] [] (zcI a) := T.h_L_told.cal λ F => by
 refine F.okx VM ?_ ?_
 ·walk_at "i"
 walk_at "j";obtain ⟨e, o, rfl, ca, k⟩ := h;walk_at "T";refine ⟨_, (zi (zC (PW.pt (pw_or (qN (qK (zJ ji zT (za (pq 0) (za qC ze))) (λ _ => rfl))) (pw_or1 (qN (qK (zJ ji zT (za (pq 0) (za (zaJ Qm) ze))) (λ _ => rfl))))))  (zh (zu J0))  zp)  (zi (zC (qK (zJ ji zT (za (pq 0) (za (qt (za qC (za qC (za qC (za qC (za qC (za qC (za qC ze)))))))) ze))) (λ _ => rfl))  (zh (zu J0))  zp)  (zi (zC (zm zc0 (pq 1) jv (zq _))  (zh (zu (X9 (zJ ji zT (za (pq 0) (za qC ze))) (zaK (zaL (zJ ji zT (za (pq 0) (za qC ze))))))))  zp)  (zi (zC (PW.pt (pw_or (qN (qK (zJ ji zT (za (pq 0) (za qC ze))) (λ _ => rfl))) (pw_or1 (qK (zJ ji zT (za (pq 0) (za qC ze))) (λ _ => rfl)))))  (zh (zu J0))  zp)  (zh (zu (X9 (zJ ji zT (za (Jn (pq 0) rfl) (za (zaJ zbE) ze))) (X9 (zaL (zJ ji zT (za (Jn (pq 0) rfl) (za (zaJ zci) ze)))) (zaK (W9 (zcu hr.units1) (Jn (pq 0) rfl) (pq 1) (zq _))))))))))), ?_⟩;walk_at "go";cases ca with
 | row he hD =>
  refine ⟨.ref a.WorkError, _, T.g_WorkError, rfl, vX he hD T.XI_BadRow rfl T.k1_BadRow_WorkError ?_⟩;walk_at "go";refine vX he hD T.XI_BadRow rfl T.k1_BadRow_ValueError ?_;walk_at "go";refine ⟨.ref a.NoRatio, _, T.g_NoRatio, rfl, .ref a.BadBelt, _, T.g_BadBelt, rfl, .ref a.BadKnot, _, T.g_BadKnot, rfl, .ref a.TooLong, _, T.g_TooLong, rfl, .ref a.BadPaces, _, T.g_BadPaces, rfl, .ref a.TooMany, _, T.g_TooMany, rfl, .ref a.Moving, _, T.g_Moving, rfl, ?_⟩;walk_at "go";intro pt hpt;have he := upd_keep (o := .tup [.ref a.NoRatio, .ref a.BadBelt, .ref a.BadKnot, .ref a.TooLong, .ref a.BadPaces, .ref a.TooMany, .ref a.Moving]) he hpt;have hD := upd_keep (o := .tup [.ref a.NoRatio, .ref a.BadBelt, .ref a.BadKnot, .ref a.TooLong, .ref a.BadPaces, .ref a.TooMany, .ref a.Moving]) hD hpt;refine zbg he hD T.XI_BadRow upd_same rfl T.k1_BadRow_NoRatio_BadBelt_BadKnot_TooLong_BadPaces_TooMany_Moving ?_;have k := λ {H'} s => k H' ((zf (o := .tup [.ref a.NoRatio, .ref a.BadBelt, .ref a.BadKnot, .ref a.TooLong, .ref a.BadPaces, .ref a.TooMany, .ref a.Moving]) hpt).trans s);generalize upd H pt _ = H1 at he hD k ⊢;unfold Vg;walk_at "go";refine ⟨.ref a.BadRow, _, T.g_BadRow, rfl, vX he hD T.XI_BadRow rfl T.k1_BadRow_BadRow ?_⟩;walk_at "go";refine ⟨.ref a.BadWork, _, T.g_BadWork, rfl, vX he hD T.XI_BadRow rfl T.k1_BadRow_BadWork ?_⟩;walk_at "go";refine ⟨e, _, _, _, _, rfl, he, hD, T.XI_BadRow, T.L_BadRow_line, rfl, ?_⟩;walk_at "go";refine ⟨e, _, _, _, _, rfl, he, hD, T.XI_BadRow, T.L_BadRow_line, rfl, ?_⟩;walk_at "go";refine ⟨e, _, _, _, _, rfl, he, hD, T.XI_BadRow, T.L_BadRow_line, rfl, ?_⟩;walk_at "go";exact k (Same.refl _)
 | work he =>
  refine ⟨.ref a.WorkError, _, T.g_WorkError, rfl, vY he T.XI_BadWork rfl T.k1_BadWork_WorkError ?_⟩;walk_at "go";refine vY he T.XI_BadWork rfl T.k1_BadWork_ValueError ?_;walk_at "go";refine ⟨.ref a.NoRatio, _, T.g_NoRatio, rfl, .ref a.BadBelt, _, T.g_BadBelt, rfl, .ref a.BadKnot, _, T.g_BadKnot, rfl, .ref a.TooLong, _, T.g_TooLong, rfl, .ref a.BadPaces, _, T.g_BadPaces, rfl, .ref a.TooMany, _, T.g_TooMany, rfl, .ref a.Moving, _, T.g_Moving, rfl, ?_⟩;walk_at "go";intro pt hpt;have he := upd_keep (o := .tup [.ref a.NoRatio, .ref a.BadBelt, .ref a.BadKnot, .ref a.TooLong, .ref a.BadPaces, .ref a.TooMany, .ref a.Moving]) he hpt;refine zbh he T.XI_BadWork upd_same rfl T.k1_BadWork_NoRatio_BadBelt_BadKnot_TooLong_BadPaces_TooMany_Moving ?_;unfold Vg;walk_at "go";refine ⟨.ref a.BadWork, _, T.g_BadWork, rfl, vY he T.XI_BadWork rfl T.k1_BadWork_BadWork ?_⟩;walk_at "go";refine ⟨.ref a.BadRow, _, T.g_BadRow, rfl, vY he T.XI_BadWork rfl T.k1_BadWork_BadRow ?_⟩;walk_at "go";exact k _ (zf hpt)
def JL (K : PySem.W.Frag) : Sp := λ vs H Q _ => ∃ (l : Addr) (ns : List Int), vs = [.ref l] /\ SqL K H l (ns.map V.int) /\ ns.length <= 63 /\ ∀ H', Q (.bl true) H'
theorem zc3 (T : Txt K mg a) (F : Fun K "law" "law" Zu f fd) : FnOk P w K mg base (CXr P w) 9 f fd ["_law_script"] (JL K) := by
 refine F.okx zcQ ?_ ?_
 ·walk_at "i"
 walk_at "j";obtain ⟨l, ns, rfl, hl, hn, k⟩ := h;walk_at "T";refine ⟨_, (zi (zI 1 zcQ.nd (z6 ⟨rfl, rfl, rfl⟩ hr (za (pq 0) ze)))  (zi (zI 2 zcQ.nd (z6 ⟨rfl, rfl, rfl⟩ hr (za (pq 1) ze)))  (zi (zI 3 zcQ.nd (zD (zj qE (zj zn (z6 ⟨rfl, rfl, rfl⟩ hr (za (pq 0) (za zg ze))) (zj qE zg (z6 ⟨rfl, rfl, rfl⟩ hr (za (pq 0) (za zg ze))))) zg)))  (zi (zI 4 zcQ.nd (zD (zj qE (zj zn (zj zn (z6 ⟨rfl, rfl, rfl⟩ hr (za (pq 0) (za zg ze))) (zj qE zg (z6 ⟨rfl, rfl, rfl⟩ hr (za (pq 0) (za zg ze))))) zg) zg)))  (zi (zI 5 zcQ.nd jv)  (zi (zI 6 zcQ.nd (z6 ⟨rfl, rfl, rfl⟩ hr (za (pq 1) (za (pq 4) ze))))  (qo (zC (zm zaW (zD (pq 3)) zg (zq _))  (zh (vd (z6 ⟨rfl, rfl, rfl⟩ hr (za (pq 2) (za (zJ zG zF (za (zX (pq 1) zg) ze)) (za (zA (pq 3)) (za (pq 4) ze))))) (ve (n := 2) rfl (z8 (qI 5 zcQ.nd) (z8 (qI 6 zcQ.nd) xL)))))  zp)  (zi (zC (qN (qK (z6 ⟨rfl, rfl, rfl⟩ hr (za (z6 ⟨rfl, rfl, rfl⟩ hr (za (pq 6) ze)) (za (pq 5) ze))) (λ _ => rfl)))  (zh (zu J0))  zp)  (zi (zI 7 zcQ.nd (z6 ⟨rfl, rfl, rfl⟩ hr (za (z7 PySem.F.plainAttrs_str PySem.F.slot_str_join PySem.F.type_str_join jo zl (za (pq 2) ze)) ze)))  (zi (zC (PW.pt (pw_or (qN (qK (zJ ji zT (za (pq 7) (za qC ze))) (λ _ => rfl))) (pw_or1 (zm (zaV hr.units1) (zJ zG zF (za (qy (pq 7) rfl) ze)) (zJ zG zF (za (zX (pq 1) zg) ze)) (zq _)))))  (zh (zu J0))  zp)  (zh (zu (z6 ⟨rfl, rfl, rfl⟩ hr (za (z6 ⟨rfl, rfl, rfl⟩ hr (za (pq 6) ze)) (za (pq 5) ze))))))))))))))), ?_⟩;walk_at "go";refine uc (JC T).mono ⟨l, ns, rfl, hl, by lia, λ t bs rs H1 s1 rt wok bo ro => ?_⟩;have tl := QZ wok bo ro;walk_at "go";refine uc (xH T).mono ⟨_, bs, rs, _, rfl, rt, tl, λ L1 H2 s2 hL1 => ?_⟩;have g := Gt.of wok bo ro;have hl2 := xp (s1.trans s2) hl;replace rt := rt.same s2;walk_at "go";refine uc (je T).mono ⟨l, ns, 0, rfl, hl2, ?_⟩;refine uc (je T).mono ⟨l, ns, 3, rfl, hl2, mul_okL (by decide) (by decide), ?_⟩;walk_at "go";refine ⟨mul_okR (by decide) (by decide), ?_⟩;generalize (xm ns 0 + 7 * xm ns 3) * 48271 % 2147483647 = x;walk_at "go";refine uc (je T).mono ⟨l, ns, 1, rfl, hl2, ?_⟩;refine uc (je T).mono ⟨l, ns, 2, rfl, hl2, mul_okL (by decide) (by decide), ?_⟩;walk_at "go";refine ⟨mul_okR (by decide) (by decide), ?_⟩;generalize (xm ns 1 + 5 * xm ns 2 + 1) * 69621 % 2147483647 = y;walk_at "go";refine uc (XN T).mono ⟨_, bs, rs, _, rfl, rt, wok, bo, ro, λ L2q ls bs' rs' H3 s3 hL2 nw => ?_⟩;walk_at "go";let M1_ : St -> Hp -> Prop := λ σ' H' => ∃ o B ls', σ' = [some (.ref l), some (.ref t), some (.ref L1), some (.int x), some (.int y), some (Vg o), some (.ref B), none] /\ Same H2 H' /\ H' B = some (.lst (ls'.map V.str)) /\ Due ls' o;refine cut M1_ ?_ ?_
 ·walk_at "go";refine zN (λ z => ?_) (λ z => ?_)
  ·walk_at "go";refine uc (JD T).mono ⟨T.m_len, vV (rt.same s3) at0 λ u ru => ?_⟩;obtain ⟨l1, us1, rfl, _, g1, r1⟩ := ru.lst';have lb : us1.length = bs.length := by rw [r1.len, length_map]
   have b := wok.1;refine ⟨_, .inl ⟨_, SqL.of g1, rfl⟩, ?_⟩;rw [lb];refine ⟨L1, bs, rs, _, _, rfl, s3 _ _ hL1, g, b.1.1, b.1.2, b.2.1, b.2.2, λ t2 B ls d H4 s4 ht hB ba => ?_⟩;walk_at "go";exact un2 ht ⟨some d, B, ls, rfl, s3.trans s4, hB, .row ba⟩
  ·walk_at "go";exact ⟨none, L2q, ls, rfl, s3, hL2, .work nw⟩
 clear s3 hL2 nw;rintro σ' H3 ⟨o, B, ls', rfl, s3, hB, du⟩;walk_at "go";refine uc (XL T).mono (uc (Z4 T).mono ⟨B, ls', o, rfl, hB, du, λ e H4 s4 ca => ⟨e, o, rfl, ca, λ H5 s5 => ?_⟩⟩);walk_at "go";have s25 := s3.trans (s4.trans s5);refine uc (vJ T).mono ⟨jg, _, L1, zt bs rs, rfl, rfl, s25 _ _ hL1, VF tl, zt bs rs, rfl, ?_, ?_, wP g, λ i il h1 h2 D H6 s6 hD => ?_, λ bs6 rs6 h => ?_⟩
 ·intro z;have := congrArg List.length z;have b := wok.1;rw [z5, length_nil] at this
  lia
 ·have b := wok.1;rw [z5]
  lia
 ·have := jD g;rw [<- take_length (l := zt bs rs)] at this;exact absurd h2 (wG il (by rw [this];exact λ z => nomatch z))
 rw [jD g] at h;cases h;have wl := jN wok;have b := wok.1;rw [Jv, wZ];refine ⟨by lia, by lia, λ _ v6 H6 s6 rw6 => ?_, λ z => absurd (can_work.mpr wok) z⟩;obtain ⟨yw, dx, fs, rfl, _, hw, hf, _⟩ := rw6.ob';obtain ⟨ub, e1, rb⟩ := hf "belts" _ rfl;obtain ⟨lb, bv, rfl, _, gb, rbv⟩ := rb.lst';walk_at "go";refine ⟨.ref a.Work, _, T.g_Work, rfl, _, _, _, _, rfl, T.W_Work.ty T.C_Work hw, .inl ⟨_, rfl, T.k1_Work_Work⟩, ?_⟩;walk_at "go";refine ra hw T.C_Work T.N_Work_belts e1 ⟨_, .inl ⟨_, SqL.of gb, rfl⟩, T.m_len, vV (rt.same (s25.trans s6)) at0 λ u ru => ?_⟩;obtain ⟨l1, us1, rfl, _, g1, r1⟩ := ru.lst';refine ⟨_, .inl ⟨_, SqL.of g1, rfl⟩, zN (λ z => absurd ?_ z) λ z => ?_⟩
 ·rw [rbv.len, r1.len, length_map, length_map]
 exact uc (XL T).mono (uc (Z4 T).mono ⟨B, ls', o, rfl, s6 _ _ (s5 _ _ (s4 _ _ hB)), du, λ e H7 s7 ca => ⟨e, o, rfl, ca, λ H8 s8 => k H8⟩⟩)
theorem top_ok (T : Txt K mg a) (F : Fun K "law" "law" Zu f fd) : FnOk P w K mg base (CXr P w) 9 f fd ["_law_script"] (JL K) := zc3 T F
end
def zdT : Nat -> (List Value -> Prop) -> Prop
 | 0, P => P []
 | n + 1, P => ∀ x, zdT n λ l => P (x :: l)
theorem allV_of {n : Nat} : ∀ {P : List Value -> Prop}, zdT n P -> ∀ us : List Value, us.length = n -> P us := by
 induction n with
 | zero =>
  intro P h us e;cases us with
  | nil => exact h
  | cons => cases e
 | succ n ih =>
  intro P h us e;cases us with
  | nil => cases e
  | cons x r => exact ih (h x) r (Nat.succ.inj e)
theorem all_ok {l : PySem.W.OpenLaw} {w : World} {K : PySem.W.Frag} {h : Heap} {mg : Str -> Option Value} {fa fL ya yc yd ye yf yg yh yi yj yl ym yn yo yp yq yr yt yu yv : Addr} {od an : Option Addr} {sl : Array (Option Value)} {oc kV dc pm cd ct : Value} (X : K.In h) (G : h.Ns mainGlobals mg) (hfa : mg "law" = some (.ref fa)) (aL : nsIn K mainGlobals "law" = some (some (.ref fL))) (lL : K.lookup fL = some ⟨oc, od, .func (fnOf "law" "law" (qr Zu) (qe Zu) (zk Zu) .none kV dc pm an cd ct), sl⟩) (cL : codeIn K cd "law" = true) (kL : keepIn K (.ref fL) = true) (T : Txt K mg ⟨ya, yc, yd, ye, yf, yg, yh, yi, yj, yl, ym, yn, yo, yp, yq, yr, yt, yu, yv⟩)
  : ∃ fd : FuncData, (∀ (s : Shared) (v : Value), BindsTo s fd ⟨[v], []⟩ [("_law_script", v)]) /\ ∀ base : Heap, K.In base -> base.Ns mainGlobals mg -> FnOk l.prog w K mg base (CXr l.prog w) 9 fa fd ["_law_script"] (JL K) := by
 have e := hfa.symm.trans (mg_of X G aL);cases e;exact ⟨_, λ s v => .of_eq rfl, λ base _ _ => top_ok T (jx (st := Zu) lL cL kL)⟩
theorem walk {l : PySem.W.OpenLaw} {q : Program} {loose : List Str} {XP : (Str -> Option Value) -> Heap -> Prop} {YP : World -> Heap -> Prop} {d : DefRec} {K : Params -> PySem.W.Frag} (hn : l.most = some 63) (hdf : d.params.defaults = [])
  (hY : ∀ (w : World) (h : Heap), YP w h -> (K w.params).In h)
  (F : ∀ (w : World) (mg : Str -> Option Value) (fa : Addr) (h : Heap), (K w.params).In h -> h.Ns mainGlobals mg -> mg d.name = some (.ref fa) ->
   ∃ fd : FuncData, (∀ (s : Shared) (u : Value), BindsTo s fd ⟨[u], []⟩ [("_law_script", u)]) /\ ∀ base : Heap, (K w.params).In base -> base.Ns mainGlobals mg -> FnOk l.prog w (K w.params) mg base (CXr l.prog w) 9 fa fd ["_law_script"] (JL (K w.params))) :
  PySem.W.WalkO q loose XP YP l.row.toRowW d [] (λ f vs => PySem.call f vs) :=
 L2.walk_of (n := 63) (k := 9) (x := "_law_script") (CX := λ w => CXr l.prog w) (sp := λ w => JL (K w.params)) hn (by decide) hdf ⟨rfl, by decide, by decide⟩ hY F (λ _ _ a ns hl _ hS => ⟨a, ns, rfl, hS, hl, λ _ => rfl⟩) λ _ _ _ _ _ z => zaf z
end K16
set_option Elab.async false
namespace PySem.W.Fast
noncomputable def tw5124534368486736866 := ()
noncomputable def tw11039011547986082922 := ()
noncomputable def tw11471416861307941962 := ()
noncomputable def tw15472373193516121061 := ()
noncomputable def tw16390064188505675916 := ()
noncomputable def tw5366146055559207209 := ()
noncomputable def tw8482003506512303126 := ()
noncomputable def tw17225295462094311369 := ()
noncomputable def tw8491174949961895823 := ()
noncomputable def tw15140799228106342580 := ()
noncomputable def tw10779482188423848074 := ()
noncomputable def tw204865994644642062 := ()
noncomputable def tw2499448876654222429 := ()
noncomputable def tw15866234550975750251 := ()
noncomputable def tw7036356912273178360 := ()
noncomputable def tw8169071600116901280 := ()
noncomputable def tw7825546952732241978 := ()
noncomputable def tw1953975673298920293 := ()
noncomputable def tw1550780793986593300 := ()
noncomputable def tw17182176443779242014 := ()
noncomputable def tw2226594405190109151 := ()
noncomputable def tw8714019237156405800 := ()
noncomputable def tw11343986688542390788 := ()
noncomputable def tw801504055645029735 := ()
noncomputable def tw9877488963851501807 := ()
noncomputable def tw1516907910256832222 := ()
noncomputable def tw11658465133164699947 := ()
noncomputable def tw324391265181258042 := ()
noncomputable def tw13369506686782968282 := ()
noncomputable def tw14032118349467242782 := ()
noncomputable def tw7910928878627016192 := ()
noncomputable def tw13324939058587162571 := ()
noncomputable def tw14023001951451665537 := ()
noncomputable def tw1059594135987330481 := ()
noncomputable def tw4229755677684934033 := ()
noncomputable def tw8210942418465092513 := ()
noncomputable def tw5485850509538156267 := ()
noncomputable def tw15063769206027863608 := ()
noncomputable def tw12408575817890399666 := ()
noncomputable def tw11629286954805310747 := ()
noncomputable def tw10997520286981217883 := ()
noncomputable def tw5960961440269096616 := ()
noncomputable def tw15664284612753706294 := ()
noncomputable def tw4021214327969273266 := ()
noncomputable def tw3283332861847073318 := ()
noncomputable def tw8260392430831848713 := ()
noncomputable def tw211064932859776639 := ()
noncomputable def tw16790942999559509424 := ()
noncomputable def tw2967806382188865498 := ()
noncomputable def tw8635720095295385978 := ()
noncomputable def tw7083601918825166112 := ()
noncomputable def tw15804204873286394003 := ()
noncomputable def tw15558448471180486589 := ()
noncomputable def tw14350037818946288899 := ()
noncomputable def tw17352689339027288446 := ()
noncomputable def tw10815270737726540991 := ()
noncomputable def tw8990887533783003746 := ()
noncomputable def tw10727560979120060031 := ()
noncomputable def tw14368671081443919028 := ()
noncomputable def tw8005760615973133656 := ()
noncomputable def tw6996034967790628127 := ()
end PySem.W.Fast
open PySem PySem.W PyProof.Rows
set_option maxRecDepth 100000 in
set_option maxHeartbeats 0 in
theorem PySem.Challenge.cw_beltshares_k16_bad_rows_holds : PySem.Challenge.rw_beltshares_k16_bad_rows.Holds := by
 w_on;o_law;k_head;(case hw => w_witness2)
 k_fill
 refine K16.walk (l := PySem.Challenge.rw_beltshares_k16_bad_rows) rfl rfl (λ w h Y => PySem.W.kIn_of Y) ?F
 case F =>
  intro w mg fa h KX G hmg;refine' K16.all_ok KX G hmg ?a ?l ?c ?k (K16.Txt.mk ..)
  all_goals try dsimp only
  all_goals try first|k_is|((first|refine' L2.fa_mk KX G .. | refine' L2.fm_mk .. | refine' L2.fk_mk .. | refine' L2.fb_mk (mg_of KX G ?_) .. | refine' L2.fi_mk .. | refine' L2.xs_mk ..);all_goals try first|k_is|exact ⟨_, rfl⟩|kernel_rfl|rfl|exact λ _ _ _ _ _ _ => K16.allV_of (by (repeat intro _);rfl))|((first|refine' PySem.W.mg_none_of KX G ?_|refine' mg_of KX G ?_|show findIn _ _ _ = _|refine' L2.kitCls_of .. | (apply Exists.intro;refine' mg_of KX G ?_));all_goals try k_is)|(show kitOne _ _ _ = _;kit_is)|kit_is|((first|refine ⟨?_, ?_, ?_, ?_, ?_, ?_, ?_, ?_⟩|refine ⟨?_, ?_, ?_, ?_⟩|refine ⟨?_, ?_, ?_⟩|refine ⟨?_⟩);all_goals first|k_is|k_exc)
  all_goals exact fa
