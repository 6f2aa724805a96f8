import PyProof.Rows.All
import Wide.All
import OpenK.AllK
import Wide.FinOn
import Lean
import PyProof.EqAt
import PyProof.EqKinds
import PyProof.TupleCall
import PyProof.NeKinds
import PyProof.SumWalkG
import PyProof.Rows.CallKwBuiltin
import PyProof.Rows.FStr
import PyProof.ListRange
import PyProof.ZipIter
import PyProof.CompFree
import KE.KIntText
import PyProof.StrWalks
import PyProof.Rows.StrMul
import PyProof.ConsumeWalk
import Wide.Txt
import PySem.Challenge.RW_beltshares_k25_alike_states
set_option Elab.async false
set_option linter.all false
set_option maxRecDepth 100000
set_option compiler.extract_closed false
set_option hygiene false
local macro_rules | `(tactic| walk_at "p") => `(tactic| first | exact Or.inl rfl | exact Or.inr rfl | assumption)
local macro_rules | `(tactic| walk_at "q") => `(tactic| first | exact L2.nobehind _ (by decide) (by decide) | rfl)
set_option hygiene true
namespace L2
open PySem PySem.Spec PyProof.Rows
abbrev Key := Sum Int Str
def zbN : Key → Value → Bool
 | .inl k, v => Value.isInt k v
 | .inr x, v => Value.isStrOf x v
def zdd (w : World) : Key → Int
 | .inl k => hashInt k
 | .inr x => hashStr w x
theorem qm : ∀ {k : Key} {v : Value}, zbN k v = true → (∃ i t, k = Sum.inl i ∧ v = Value.int i t) ∨ (∃ x t, k = Sum.inr x ∧ v = Value.str x t)
 | .inl i, v, h => by
  obtain ⟨t, e⟩ := Value.isInt_shape (k := i) (v := v) h
  exact .inl ⟨i, t, rfl, e⟩
 | .inr x, v, h => by
  obtain ⟨t, e⟩ := Value.isStrOf_shape (x := x) (v := v) h
  exact .inr ⟨x, t, rfl, e⟩
theorem zch (a b : Int) : decide ((Sum.inl a : Key) = Sum.inl b) = (a == b) := by
 by_cases e : a = b
 ·subst e; simp
 ·have h : ¬ (Sum.inl a : Key) = Sum.inl b := fun q => e (Sum.inl.inj q)
  rw [decide_eq_false h]
  exact (beq_eq_false_iff_ne.mpr e).symm
theorem zce (a b : Str) : decide ((Sum.inr a : Key) = Sum.inr b) = decide (a = b) := by
 by_cases e : a = b
 ·subst e; simp
 ·have h : ¬ (Sum.inr a : Key) = Sum.inr b := fun q => e (Sum.inr.inj q)
  rw [decide_eq_false h, decide_eq_false e]
theorem zcg (a : Int) (b : Str) : decide ((Sum.inl a : Key) = Sum.inr b) = false := decide_eq_false (fun q => nomatch q)
theorem zcf (a : Str) (b : Int) : decide ((Sum.inr a : Key) = Sum.inl b) = false := decide_eq_false (fun q => nomatch q)
def Js (prog : Program) (w : World) : PySem.KeyKind prog w Key where
 is := zbN
 hash := zdd w
 inj := fun v a b ha hb => by
  rcases qm ha with ⟨i, t, rfl, rfl⟩ | ⟨x, t, rfl, rfl⟩
  ·rcases qm hb with ⟨j, u, rfl, e⟩ | ⟨y, u, rfl, e⟩
   ·injection e with e1 _; rw [e1]
   ·exact nomatch e
  ·rcases qm hb with ⟨j, u, rfl, e⟩ | ⟨y, u, rfl, e⟩
   ·exact nomatch e
   ·injection e with e1 _; rw [e1]
 byValue := fun k v h => by
  rcases qm h with ⟨i, t, rfl, rfl⟩ | ⟨x, t, rfl, rfl⟩ <;> rfl
 pyHash := fun hv h => by
  rcases qm hv with ⟨i, t, rfl, rfl⟩ | ⟨x, t, rfl, rfl⟩
  ·exact wpAny_pyHash_int h
  ·exact wpAny_pyHash_str h
 eqBool := fun hu hv h => by
  rcases qm hu with ⟨i, t, rfl, rfl⟩ | ⟨x, t, rfl, rfl⟩
  ·rcases qm hv with ⟨j, u, rfl, rfl⟩ | ⟨y, u, rfl, rfl⟩
   ·rw [zch] at h; exact wpAny_eqBool_int h
   ·rw [zcg] at h; exact SeqAt.EqAt.int_str i t y u _ _ _ _ h
  ·rcases qm hv with ⟨j, u, rfl, rfl⟩ | ⟨y, u, rfl, rfl⟩
   ·rw [zcf] at h; exact SeqAt.EqAt.str_int x t j u _ _ _ _ h
   ·rw [zce] at h; exact wpAny_eqBool_str h
 «strs» := fun k x t v h => by
  rcases qm h with ⟨i, u, rfl, e⟩ | ⟨y, u, rfl, e⟩
  ·exact nomatch e
  ·injection e with e1 _
   subst e1
   cases v <;> rfl
end L2
namespace L2
open PySem PySem.Spec PyProof.Rows
inductive V where
 | non | bl (b : Bool) | int (i : Int) | str (x : Str) | byt (b : Array UInt8) | flt (b : UInt64) | ref (a : Addr) | ty (n : String)
 deriving DecidableEq
def RelV : V → Value → Prop
 | .non, u => u = Value.none
 | .bl b, u => u = Value.bool b
 | .int i, u => ∃ t, u = Value.int i t
 | .str x, u => ∃ t, u = Value.str x t
 | .byt b, u => ∃ t, u = Value.bytes b t
 | .flt b, u => ∃ t, u = Value.float b t
 | .ref a, u => u = Value.ref a
 | .ty n, u => u = Value.type n
abbrev Vals : List V → List Value → Prop := Paired RelV
theorem Vals.length {xs : List V} {us : List Value} (r : Vals xs us) : xs.length = us.length := Paired.length r
theorem Vals.get : ∀ {xs : List V} {us : List Value} {i : Nat} {x : V}, Vals xs us → xs[i]? = some x → ∃ u, us[i]? = some u ∧ RelV x u
 | _, _, _, _, .nil, e => by simp at e
 | _, _, 0, _, .cons r _, e => by simp at e; subst e; exact ⟨_, rfl, r⟩
 | _, _, i + 1, x, .cons _ t, e => by
  obtain ⟨u, h1, h2⟩ := Vals.get (i := i) (x := x) t (by simpa using e)
  exact ⟨u, by simpa using h1, h2⟩
theorem Vals.set {x : V} {u : Value} (r : RelV x u) : ∀ {xs : List V} {us : List Value} (i : Nat), Vals xs us → Vals (xs.set i x) (us.set i u)
 | _, _, _, .nil => .nil
 | _, _, 0, .cons _ t => .cons r t
 | _, _, i + 1, .cons q t => .cons q (Vals.set r i t)
theorem Vals.append : ∀ {xs ys : List V} {us ws : List Value}, Vals xs us → Vals ys ws → Vals (xs ++ ys) (us ++ ws)
 | _, _, _, _, .nil, s => s
 | _, _, _, _, .cons r t, s => .cons r (Vals.append t s)
theorem Vals.take : ∀ {xs : List V} {us : List Value} (n : Nat), Vals xs us → Vals (xs.take n) (us.take n)
 | _, _, 0, _ => .nil
 | _, _, _ + 1, .nil => .nil
 | _, _, n + 1, .cons r t => .cons r (Vals.take n t)
theorem Vals.drop : ∀ {xs : List V} {us : List Value} (n : Nat), Vals xs us → Vals (xs.drop n) (us.drop n)
 | _, _, 0, r => r
 | _, _, _ + 1, .nil => .nil
 | _, _, n + 1, .cons _ t => Vals.drop n t
theorem Vals.none_of : ∀ {xs : List V} {us : List Value} {i : Nat}, Vals xs us → xs[i]? = none → us[i]? = none := fun {xs us i} r e => by
 have h1 := r.length
 have h2 : xs.length ≤ i := List.getElem?_eq_none_iff.mp e
 exact List.getElem?_eq_none_iff.mpr (by omega)
def RelO : Option V → Option Value → Prop
 | some v, some u => RelV v u
 | none, none => True
 | _, _ => False
def KV {κ : Type} : List (κ × V) → List (κ × Value) → Prop := Paired fun (p : κ × V) (q : κ × Value) => p.1 = q.1 ∧ RelV p.2 q.2
def kV : Key → V
 | .inl i => .int i
 | .inr x => .str x
inductive HO where
 /-- a list -/
 | lst (xs : List V)
 /-- a tuple (never changes) -/
 | tup (xs : List V)
 /-- a dict whose keys are ints and texts; one whose keys are tuples of ints and texts (the empty one is both) -/
 | dK (kvs : List (Key × V)) | dT (kvs : List (List Key × V))
 /-- a set of ints: its members, its size -/
 | set (S : Int → Bool) (n : Nat)
 /-- an instance of the class at C, its dict at dx, its attributes -/
 | ins (C dx : Addr) (fs : List (Str × V))
 /-- the dict of the instance at x -/
 | own (x : Addr)
 /-- the dict of an exception -/
 | xd (fs : List (Str × V))
 /-- a bound method, f of x -/
 | met (f x : Addr)
 /-- a range object lo, lo + 1, .. below hi -/
 | rng (lo hi : Int)
 /-- a thing that is known to the object (the script; a dict while a loop walks it): read, never written while it is so -/
 | frz (o : Obj) (u : HO)
 /-- a code object's table -/
 | tbl (ps : Array Value)
 /-- any other thing, by what is true of its one object (a def of one's own: SetO a S n := HO.ext fun h => ..) -/
 | ext (φ : Heap → Prop)
abbrev Hp := Addr → Option HO
def upd (H : Hp) (a : Addr) (o : HO) : Hp := fun b => if b = a then some o else H b
theorem upd_same {H : Hp} {a : Addr} {o : HO} : upd H a o a = some o := by unfold upd; rw [if_pos rfl]
theorem upd_ne {H : Hp} {a b : Addr} {o : HO} (h : b ≠ a) : upd H a o b = H b := by unfold upd; rw [if_neg h]
theorem QY {H : Hp} {a : Addr} {o u : HO} : upd (upd H a o) a u = upd H a u := by
 funext b; unfold upd; split <;> rfl
theorem vX {H : Hp} {a b : Addr} {o u : HO} (h : H a = some o) (h' : H b = some u) (d : o ≠ u) : a ≠ b := by
 intro e; subst e; rw [h] at h'; exact d (Option.some.inj h')
theorem ne_of_none {H : Hp} {a b : Addr} {o : HO} (h : H a = some o) (h' : H b = none) : a ≠ b := by
 intro e; subst e; rw [h] at h'; cases h'
section
variable (P : Program) (w : World)
def ObjOk (H : Hp) (h : Heap) (a : Addr) : HO → Prop
 | .lst xs => xs.length ≤ sizeLine ∧ ∃ (its : List Value) (n : Nat), Vals xs its ∧ h.get? a = some { cls := .type "list", data := .seq its.toArray n }
 | .tup xs => xs.length ≤ sizeLine ∧ ∃ its : List Value, Vals xs its ∧ IsTup h a its.toArray
 | .dK kvs => kvs.length ≤ sizeLine ∧ (a == sysModules) = false ∧ ∃ vs, KV kvs vs ∧ h.DictOf (Js P w) a vs
 | .dT kvs => kvs.length ≤ sizeLine ∧ (a == sysModules) = false ∧ ∃ xs : List (List Key × Addr × Value),
   Paired (fun (p : List Key × V) (q : List Key × Addr × Value) => p.1 = q.1 ∧ H q.2.1 = some (.tup (p.1.map kV)) ∧ RelV p.2 q.2.2) kvs xs ∧
   ∃ o es ep, h.get? a = some o ∧ o.ExactDict ∧ o.data = .dict es ep ∧ es.toList = xs.map (entryOfKey (tupleKind (Js P w))) ∧ (xs.map (·.1)).Nodup
 | .set S n => h.SetOf (intKind P w) a S n
 | .ins C dx fs => H dx = some (.own a) ∧ fs.length ≤ 1000 ∧ dx ≠ a ∧ h.get? a = some (PySem.W.instObj C dx) ∧
   ∃ mA, h.Ns1 dx mA ∧ (∀ f, RelO (fs.lookup f) (mA f)) ∧ PySem.Within mA (fs.map (·.1))
 | .own _ => ∃ o, h.get? a = some o
 | .xd fs => ∃ mA, h.Ns1 a mA ∧ ∀ f, RelO (fs.lookup f) (mA f)
 | .rng lo hi => ∃ t u v, h.get? a = some { cls := .type "range", data := .fields #[.int lo t, .int hi u, .int 1 v] }
 | .frz o u => h.get? a = some o ∧ ObjOk H h a u
 | .tbl ps => h.get? a = some { cls := .none, data := .fields ps }
 | .met f x => h.get? a = some (PySem.W.methodObj (.ref f) (.ref x))
 | .ext φ => φ h ∧ (∃ o, h.get? a = some o) ∧ ∀ h1 h2 : Heap, φ h1 → (∀ o, h1.get? a = some o → h2.get? a = some o) → φ h2
def HOk (H : Hp) (h : Heap) : Prop := ∀ a o, H a = some o → ObjOk P w H h a o
end
section
variable {P : Program} {w : World} {H H' : Hp} {h h' : Heap} {a : Addr} {o : HO}
theorem ObjOk.lt (x : ObjOk P w H h a o) : a < h.objs.size := by
 cases o with
 | lst xs => obtain ⟨_, _, _, _, e⟩ := x; exact Heap.lt_size e
 | tup xs => obtain ⟨_, _, _, p⟩ := x; exact p.lt
 | dK kvs => obtain ⟨_, _, _, _, o, _, _, e, _⟩ := x; exact Heap.lt_size e
 | dT kvs => obtain ⟨_, _, _, _, o, _, _, e, _⟩ := x; exact Heap.lt_size e
 | set S n => obtain ⟨o, _, _, _, e, _⟩ := x; exact Heap.lt_size e
 | ins C dx fs => obtain ⟨_, _, _, e, _⟩ := x; exact Heap.lt_size e
 | own y => obtain ⟨_, e⟩ := x; exact Heap.lt_size e
 | xd fs => obtain ⟨_, ⟨_, _, _, e, _⟩, _⟩ := x; exact Heap.lt_size e
 | rng lo hi => obtain ⟨_, _, _, e⟩ := x; exact Heap.lt_size e
 | frz ob u => obtain ⟨e, _⟩ := x; exact Heap.lt_size e
 | tbl ps => exact Heap.lt_size (show h.get? a = some _ from x)
 | met f y => exact Heap.lt_size (show h.get? a = some _ from x)
 | ext φ => obtain ⟨_, ⟨_, e⟩, _⟩ := x; exact Heap.lt_size e
theorem Paired.mapP {α β : Type} {F G : α → β → Prop} : ∀ {l₁ : List α} {l₂ : List β}, Paired F l₁ l₂ → (∀ a b, F a b → G a b) → Paired G l₁ l₂
 | _, _, .nil, _ => .nil
 | _, _, .cons r t, f => .cons (f _ _ r) (Paired.mapP t f)
theorem ObjOk.stay (x : ObjOk P w H h a o) (k : ∀ b u, (b = a ∨ H b = some (.own a)) → h.get? b = some u → h'.get? b = some u)
  (ho : ∀ b, H b = some (.own a) → H' b = some (.own a)) (ht : ∀ b xs, H b = some (.tup xs) → H' b = some (.tup xs)) : ObjOk P w H' h' a o := by
 induction o with
 | lst xs => obtain ⟨z, its, n, r, e⟩ := x; exact ⟨z, its, n, r, k _ _ (.inl rfl) e⟩
 | tup xs => obtain ⟨z, its, r, ob, e, c⟩ := x; exact ⟨z, its, r, ob, k _ _ (.inl rfl) e, c⟩
 | dK kvs => obtain ⟨z, y, vs, r, ob, es, ep, e, c⟩ := x; exact ⟨z, y, vs, r, ob, es, ep, k _ _ (.inl rfl) e, c⟩
 | dT kvs =>
  obtain ⟨z, y, xs, r, ob, es, ep, e, c⟩ := x
  exact ⟨z, y, xs, Paired.mapP r fun p q z => ⟨z.1, ht _ _ z.2.1, z.2.2⟩, ob, es, ep, k _ _ (.inl rfl) e, c⟩
 | set S n => obtain ⟨ob, es, ep, t, e, c⟩ := x; exact ⟨ob, es, ep, t, k _ _ (.inl rfl) e, c⟩
 | ins C dx fs =>
  obtain ⟨d, z, ne, e, mA, ⟨od, es, ep, e2, c⟩, r⟩ := x
  exact ⟨ho _ d, z, ne, k _ _ (.inl rfl) e, mA, ⟨od, es, ep, k _ _ (.inr d) e2, c⟩, r⟩
 | own y => obtain ⟨ob, e⟩ := x; exact ⟨ob, k _ _ (.inl rfl) e⟩
 | xd fs => obtain ⟨mA, ⟨od, es, ep, e, c⟩, r⟩ := x; exact ⟨mA, ⟨od, es, ep, k _ _ (.inl rfl) e, c⟩, r⟩
 | rng lo hi => obtain ⟨t, u, v, e⟩ := x; exact ⟨t, u, v, k _ _ (.inl rfl) e⟩
 | frz ob u ih => obtain ⟨e, q⟩ := x; exact ⟨k _ _ (.inl rfl) e, ih q⟩
 | tbl ps =>
  have e : h.get? a = some { cls := .none, data := .fields ps } := x
  show h'.get? a = some { cls := .none, data := .fields ps }
  exact k a _ (.inl rfl) e
 | met f y =>
  have e : h.get? a = some (PySem.W.methodObj (.ref f) (.ref y)) := x
  show h'.get? a = some (PySem.W.methodObj (.ref f) (.ref y))
  exact k a _ (.inl rfl) e
 | ext φ => obtain ⟨p, ⟨o, e⟩, st⟩ := x; exact ⟨st _ _ p fun o q => k _ _ (.inl rfl) q, ⟨o, k _ _ (.inl rfl) e⟩, st⟩
theorem HOk.lt (x : HOk P w H h) (e : H a = some o) : a < h.objs.size := (x a o e).lt
theorem HOk.fresh (x : HOk P w H h) (e : h.objs.size ≤ a) : H a = none := by
 cases q : H a with
 | none => rfl
 | some u => exact absurd (Nat.lt_of_lt_of_le (x.lt q) e) (Nat.lt_irrefl _)
theorem HOk.kept (x : HOk P w H h) (k : ∀ b u, h.get? b = some u → h'.get? b = some u) : HOk P w H h' := fun a o e =>
 (x a o e).stay (fun b u _ q => k b u q) (fun _ q => q) fun _ _ q => q
theorem HOk.laid (x : HOk P w H h) (k : ∀ b u, h.get? b = some u → h'.get? b = some u) (hp : h.objs.size ≤ a) (new : ObjOk P w (upd H a o) h' a o) : HOk P w (upd H a o) h' := fun b u e => by
 have hn := x.fresh hp
 by_cases hb : b = a
 ·subst hb; rw [upd_same] at e; cases e; exact new
 ·rw [upd_ne hb] at e
  exact (x b u e).stay (fun c v _ q => k c v q) (fun c q => by rw [upd_ne (ne_of_none q hn)]; exact q) fun c xs q => by rw [upd_ne (ne_of_none q hn)]; exact q
end
def Rd (H : Hp) (a : Addr) (u : HO) : Prop := H a = some u ∨ ∃ o, H a = some (.frz o u)
theorem Rd.of {H : Hp} {a : Addr} {u : HO} (h : H a = some u) : Rd H a u := .inl h
theorem Rd.ok {P : Program} {w : World} {H : Hp} {h : Heap} {a : Addr} {u : HO} (r : Rd H a u) (x : HOk P w H h) : ObjOk P w H h a u := by
 rcases r with r | ⟨o, r⟩
 ·exact x a u r
 ·obtain ⟨_, q⟩ := x a _ r
  exact q
def Mut : Option HO → Prop
 | some (.lst _) => True
 | some (.dK _) => True
 | some (.dT _) => True
 | some (.set _ _) => True
 | some (.ins _ _ _) => True
 | some (.ext _) => True
 | _ => False
section
variable {P : Program} {w : World} {H : Hp} {h h' : Heap} {x e : Addr} {o' : HO}
theorem HOk.write (ok : HOk P w H h) (mu : Mut (H x)) (he : e = x ∨ H e = some (.own x)) (k : ∀ b u, b ≠ e → h.get? b = some u → h'.get? b = some u) (heo : ∃ u, h'.get? e = some u)
  (new : ObjOk P w (upd H x o') h' x o') : HOk P w (upd H x o') h' := fun b u q => by
 have nown : ∀ c y, H c = some (.own y) → c ≠ x := fun c y r z => by subst z; rw [r] at mu; exact mu
 have ntup : ∀ c xs, H c = some (.tup xs) → c ≠ x := fun c xs r z => by subst z; rw [r] at mu; exact mu
 by_cases hb : b = x
 ·subst hb; rw [upd_same] at q; cases q; exact new
 ·rw [upd_ne hb] at q
  by_cases hbe : b = e
  ·have q' : H b = some (.own x) := by
    rcases he with z | z
    ·exact absurd (hbe.trans z) hb
    ·rw [hbe]; exact z
   rw [q] at q'; cases q'
   obtain ⟨v, hv⟩ := heo
   exact ⟨v, by rw [hbe]; exact hv⟩
  ·refine (ok b u q).stay (fun c v hc r => k c v ?_ r) (fun c r => by rw [upd_ne (nown c b r)]; exact r) fun c xs r => by rw [upd_ne (ntup c xs r)]; exact r
   rcases hc with rfl | hc
   ·exact hbe
   ·rintro rfl
    rcases he with z | z
    ·exact nown c b hc z
    ·rw [hc] at z; cases z; exact hb rfl
end
structure Un (fs ex : List Addr) (H H' : Hp) (h h' : Heap) : Prop where
 keep : ∀ b o, h.get? b = some o → H b = none → b ∉ fs → b ∉ ex → h'.get? b = some o
 slot : ∀ b o, h.get? b = some o → H b = none → b ∈ fs → b ∉ ex → ∃ sl, h'.get? b = some { o with slots := sl }
 free : ∀ b o, h.get? b = some o → H b = none → b ∉ ex → H' b = none
 there : ∀ b o, h.get? b = some o → b ∉ ex → ∃ o', h'.get? b = some o'
 tups : ∀ b xs, H b = some (.tup xs) → H' b = some (.tup xs)
 frzs : ∀ b o u, H b = some (.frz o u) → H' b = some (.frz o u)
 tbls : ∀ b ps, H b = some (.tbl ps) → ∃ more, H' b = some (.tbl (ps ++ more))
section
variable {fs fs' ex ex' : List Addr} {H H1 H2 : Hp} {h h1 h2 h' : Heap} {a x e : Addr} {o : HO}
theorem Un.any (u : Un fs ex H H1 h h1) {b : Addr} {ob : Obj} (q : h.get? b = some ob) (n : H b = none) (hx : b ∉ ex) : ∃ sl, h1.get? b = some { ob with slots := sl } := by
 by_cases hb : b ∈ fs
 ·exact u.slot b ob q n hb hx
 ·exact ⟨ob.slots, u.keep b ob q n hb hx⟩
theorem Un.trans (a : Un fs ex H H1 h h1) (b : Un fs ex H1 H2 h1 h2) : Un fs ex H H2 h h2 where
 keep := fun c ob q n hc hx => b.keep c ob (a.keep c ob q n hc hx) (a.free c ob q n hx) hc hx
 slot := fun c ob q n hc hx => by
  obtain ⟨sl, e1⟩ := a.slot c ob q n hc hx
  obtain ⟨sl', e2⟩ := b.slot c _ e1 (a.free c ob q n hx) hc hx
  exact ⟨sl', e2⟩
 free := fun c ob q n hx => by
  obtain ⟨o', e1⟩ := a.there c ob q hx
  exact b.free c o' e1 (a.free c ob q n hx) hx
 there := fun c ob q hx => by
  obtain ⟨o', e1⟩ := a.there c ob q hx
  exact b.there c o' e1 hx
 tups := fun c xs q => b.tups c xs (a.tups c xs q)
 frzs := fun c ob xs q => b.frzs c ob xs (a.frzs c ob xs q)
 tbls := fun c ps q => by
  obtain ⟨m1, e1⟩ := a.tbls c ps q
  obtain ⟨m2, e2⟩ := b.tbls c _ e1
  exact ⟨m1 ++ m2, by rw [e2, Array.append_assoc]⟩
theorem Un.kept (k : ∀ b u, h.get? b = some u → h'.get? b = some u) : Un fs ex H H h h' :=
 ⟨fun b ob q _ _ _ => k b ob q, fun b ob q _ _ _ => ⟨ob.slots, k b ob q⟩, fun _ _ _ n _ => n, fun b ob q _ => ⟨ob, k b ob q⟩, fun _ _ q => q, fun _ _ _ q => q, fun _ ps q => ⟨#[], by rw [q]; simp⟩⟩
theorem Un.refl : Un fs ex H H h h := Un.kept fun _ _ q => q
theorem Un.laid (k : ∀ b u, h.get? b = some u → h'.get? b = some u) (hp : h.objs.size ≤ a) (hn : H a = none) : Un fs ex H (upd H a o) h h' where
 keep := fun b u q _ _ _ => k b u q
 slot := fun b u q _ _ _ => ⟨u.slots, k b u q⟩
 free := fun b u q n _ => by rw [upd_ne (Nat.ne_of_lt (Nat.lt_of_lt_of_le (Heap.lt_size q) hp))]; exact n
 there := fun b u q _ => ⟨u, k b u q⟩
 tups := fun b xs q => by rw [upd_ne (ne_of_none q hn)]; exact q
 frzs := fun b u xs q => by rw [upd_ne (ne_of_none q hn)]; exact q
 tbls := fun b ps q => ⟨#[], by rw [upd_ne (ne_of_none q hn), q]; simp⟩
theorem Un.write (mu : Mut (H x)) (he : e = x ∨ H e = some (.own x)) (k : ∀ b u, b ≠ e → h.get? b = some u → h'.get? b = some u) (heo : ∃ u, h'.get? e = some u) : Un fs ex H (upd H x o) h h' := by
 have hx : ∀ b, H b = none → b ≠ x := fun b n z => by subst z; rw [n] at mu; exact mu
 have hb : ∀ b, H b = none → b ≠ e := fun b n z => by
  subst z
  rcases he with r | r
  ·exact hx b n r
  ·rw [n] at r; cases r
 have hm : ∀ b u, H b = some u → ¬ Mut (some u) → b ≠ x := fun b u q nm z => by subst z; rw [q] at mu; exact nm mu
 refine ⟨fun b u q n _ _ => k b u (hb b n) q, fun b u q n _ _ => ⟨u.slots, k b u (hb b n) q⟩, fun b u q n _ => by rw [upd_ne (hx b n)]; exact n, fun b u q _ => ?_,
  fun b xs q => by rw [upd_ne (hm b _ q fun z => z)]; exact q, fun b u xs q => by rw [upd_ne (hm b _ q fun z => z)]; exact q, fun b ps q => ⟨#[], by rw [upd_ne (hm b _ q fun z => z), q]; simp⟩⟩
 by_cases hbe : b = e
 ·subst hbe; exact heo
 ·exact ⟨u, k b u hbe q⟩
theorem Un.mono (u : Un fs ex H H1 h h1) (hs : ∀ b ∈ fs, b ∈ fs') (hx : ∀ b ∈ ex, b ∈ ex') : Un fs' ex' H H1 h h1 :=
 ⟨fun b ob q n hb he => u.keep b ob q n (fun z => hb (hs b z)) fun z => he (hx b z), fun _ _ q n _ he => u.any q n fun z => he (hx _ z), fun b ob q n he => u.free b ob q n fun z => he (hx b z), fun b ob q he => u.there b ob q fun z => he (hx b z), u.tups, u.frzs, u.tbls⟩
end
def trk (h : Heap) (H : Hp) : List Addr := (List.range h.objs.size).filter fun a => (H a).isSome
def Jy (h : Heap) (H : Hp) : Heap := PySem.W.hideAll h (trk h H)
theorem VR (h : Heap) (H : Hp) : (Jy h H).objs.size = h.objs.size := PySem.W.hideAll_size _ _
theorem zaW {h : Heap} {H : Hp} {b : Addr} {o : Obj} (e : h.get? b = some o) (n : H b = none) : (Jy h H).get? b = some o :=
 PySem.W.hideAll_get _ e fun hm => by
  have q : (H b).isSome = true := (List.mem_filter.mp hm).2
  rw [n] at q; simp at q
theorem zbv {h : Heap} {H : Hp} {b : Addr} {o : Obj} (e : (Jy h H).get? b = some o) : h.get? b = some o ∧ H b = none := by
 have e' : h.get? b = some o := PySem.W.of_hideAll (trk h H) e
 refine ⟨e', ?_⟩
 cases q : H b with
 | none => rfl
 | some x =>
  have hm : b ∈ trk h H := List.mem_filter.mpr ⟨List.mem_range.mpr (Heap.lt_size e'), by simp [q]⟩
  have z : (Jy h H).get? b = none := PySem.W.hideAll_none (trk h H) hm
  rw [z] at e; cases e
def zbJ (g h : Heap) (L : Addr) : List (Addr × Obj) := (List.range h.objs.size).filterMap fun a => if a = L ∨ (g.get? a).isSome = true then none else (h.get? a).map fun o => (a, o)
def rest (g h : Heap) (L d : Addr) : List (Addr × Obj) := (zbJ g h L).filter fun p => decide (p.1 ≠ d)
end L2
namespace L2
open PySem PySem.Spec PyProof.Rows
structure Mod (K : PySem.W.Frag) (mg : Str → Option Value) (base : Heap) : Prop where
 kin : K.In base
 glob : base.Ns mainGlobals mg
 blt : ∃ mb, base.Ns builtinsNs mb ∧ ∀ x : Str, x ≠ "__name__" → mb x = bootBuiltins x
 nolimit : base.NoLimit
structure Cx where
 prog : Program
 w : World
 K : PySem.W.Frag
 mg : Str → Option Value
 base : Heap
 A : Around
 N : List Str
 s₀ : Shared
 H₀ : Hp
 env : Env
 outer : List Env
 stack : List Env
 ex : List Addr
 fn : Str → Bool
 calm : Bool
 pn : List (Addr × Obj)
 xe : Value → Shared → Prop
def frs (l : List Env) : List Addr := l.filterMap (·.frame)
abbrev Cx.fs (X : Cx) : List Addr := frs X.outer
def Vis (sc : Scope) (x : Str) : Prop := sc.names.lookup x = some .local ∨ sc.names.lookup x = some .cell ∨ sc.names.lookup x = some .free
def Loc (sc : Scope) (x : Str) : Prop := sc.names.lookup x = some .local ∨ sc.names.lookup x = some .cell
def zdh (env : Env) (h : Heap) (m : Str → Option Value) (x : Str) (u : Value) : Prop :=
 (env.kindOf x = some .local ∧ m x = some u) ∨ ((env.kindOf x = some .cell ∨ env.kindOf x = some .free) ∧ ∃ c, env.cells.lookup x = some c ∧ h.IsCell c (some u))
structure Cx.Ok (X : Cx) : Prop where
 mod : Mod X.K X.mg X.base
 kind : X.env.scope.kind = .function
 glob : X.env.globals = mainGlobals
 blt : X.env.builtins = builtinsNs
 above : X.s₀.heap.objs.size ≤ X.env.locals
 inj : ∀ x y c, X.env.cells.lookup x = some c → X.env.cells.lookup y = some c → x = y
 has : ∀ x, (X.env.kindOf x = some .cell ∨ X.env.kindOf x = some .free) → ∃ c, X.env.cells.lookup x = some c
 cab : ∀ x c, X.fn x = true → X.env.cells.lookup x = some c → X.s₀.heap.objs.size ≤ c
 hd : X.calm = true → X.A.handled = none
 frames : X.A.frames = some X.stack
 stk : X.stack = X.outer ∨ (X.stack = X.env :: X.outer ∧ X.env.frame = some X.env.locals)
 exf : ∀ b ∈ X.ex, b ≠ X.env.locals ∧ ∀ x c, X.env.cells.lookup x = some c → c ≠ b
 bs : ∀ b o, X.base.get? b = some o → X.s₀.heap.get? b = some o ∧ X.H₀ b = none
 bsz : X.base.objs.size ≤ X.s₀.heap.objs.size
 noex : ∀ b o, X.base.get? b = some o → b ∉ X.ex
 exfs : ∀ b ∈ X.ex, b ∉ X.fs
 funs : X.s₀.heap.FunFrames X.base X.outer
 frf : ∀ b ∈ X.fs, X.H₀ b = none
structure Inv (X : Cx) (pins : List (Addr × Obj)) (σ : List (Option V)) (H : Hp) (s : Shared) : Prop where
 ok : X.Ok
 os : s.os = X.s₀.os
 bare : AllBare s.gens
 base : Un X.fs X.ex X.H₀ H X.s₀.heap s.heap
 loc : ∃ m, s.heap.Ns X.env.locals m ∧ ∀ (i : Nat) (x : Str) (v : V), X.N[i]? = some x → σ[i]? = some (some v) → Vis X.env.scope x → ∃ u, RelV v u ∧ zdh X.env s.heap m x u
 cell : ∀ x c, X.env.cells.lookup x = some c → ∃ v, s.heap.IsCell c v
 free : H X.env.locals = none
 freeC : ∀ x c, X.env.cells.lookup x = some c → H c = none
 pin : ∀ p ∈ X.pn ++ pins, s.heap.get? p.1 = some p.2 ∧ H p.1 = none ∧ p.1 ≠ X.env.locals ∧ p.1 ∉ X.fs ∧ ∀ v, p.2.data ≠ .cell v
 hok : HOk X.prog X.w H s.heap
 len : σ.length = X.N.length
section
variable {X : Cx} {pins : List (Addr × Obj)} {σ : List (Option V)} {H H' : Hp} {s : Shared} {h' : Heap}
theorem Cx.Ok.nofr (ok : X.Ok) {b : Addr} {o : Obj} (e : X.base.get? b = some o) : b ∉ X.fs := fun hb => by
 have := (ok.funs.mem hb).1
 rw [e] at this; cases this
theorem Inv.bs (I : Inv X pins σ H s) : ∀ b o, X.base.get? b = some o → s.heap.get? b = some o ∧ H b = none := fun b o e =>
 ⟨I.base.keep b o (I.ok.bs b o e).1 (I.ok.bs b o e).2 (I.ok.nofr e) (I.ok.noex b o e), I.base.free b o (I.ok.bs b o e).1 (I.ok.bs b o e).2 (I.ok.noex b o e)⟩
theorem Inv.bk (I : Inv X pins σ H s) : ∀ b o, X.base.get? b = some o → s.heap.get? b = some o := fun b o e => (I.bs b o e).1
theorem Inv.mod (I : Inv X pins σ H s) : Mod X.K X.mg X.base := I.ok.mod
theorem Inv.kIn (I : Inv X pins σ H s) : X.K.In s.heap := I.ok.mod.kin.keeps I.bk
theorem Inv.nolimit (I : Inv X pins σ H s) : s.heap.NoLimit := I.ok.mod.nolimit.keeps I.bk
theorem Inv.fr (I : Inv X pins σ H s) : ∃ m, Fr X.base X.env.locals s.heap m :=
 let ⟨m, hn, _⟩ := I.loc
 ⟨m, hn, I.bk, Nat.le_trans I.ok.bsz I.ok.above⟩
theorem Inv.lt (I : Inv X pins σ H s) : X.env.locals < s.heap.objs.size := let ⟨_, hn, _⟩ := I.loc; hn.lt
theorem Inv.sz (I : Inv X pins σ H s) : X.s₀.heap.objs.size ≤ s.heap.objs.size := Nat.le_trans I.ok.above (Nat.le_of_lt I.lt)
theorem Inv.nofs (I : Inv X pins σ H s) {a : Addr} (h : s.heap.objs.size ≤ a) : a ∉ X.fs := fun hb => by
 obtain ⟨_, o, ho, _⟩ := I.ok.funs.mem hb
 exact absurd (Nat.lt_of_lt_of_le (Heap.lt_size ho) (Nat.le_trans I.sz h)) (Nat.lt_irrefl _)
theorem Inv.cne (I : Inv X pins σ H s) : ∀ x c, X.env.cells.lookup x = some c → c ≠ X.env.locals := fun x c e z => by
 obtain ⟨v, o, ho, hd⟩ := I.cell x c e
 obtain ⟨m, ⟨o', es, ep, ho', hd', _⟩, _⟩ := I.loc
 rw [z, ho'] at ho; cases ho; rw [hd'] at hd; cases hd
theorem Inv.funs (I : Inv X pins σ H s) : s.heap.FunFrames X.base X.outer := by
 have all : ∀ (l : List Env), (∀ b ∈ frs l, b ∈ X.fs) → X.s₀.heap.FunFrames X.base l → s.heap.FunFrames X.base l := by
  intro l
  induction l with
  | nil => intro _ _; trivial
  | cons env r ih =>
   intro hs hl
   obtain ⟨hk, ⟨L, o, hf, hn, ho, hd⟩, hr⟩ := hl
   have hL : L ∈ X.fs := hs L (by unfold frs; rw [List.filterMap_cons, hf]; exact List.mem_cons_self)
   obtain ⟨sl, e⟩ := I.base.slot L o ho (I.ok.frf L hL) hL fun z => I.ok.exfs L z hL
   exact ⟨hk, ⟨L, _, hf, hn, e, hd⟩, ih (fun b hb => hs b (by unfold frs; rw [List.filterMap_cons, hf]; exact List.mem_cons_of_mem _ hb)) hr⟩
 exact all X.outer (fun _ hb => hb) I.ok.funs
theorem Inv.stack (I : Inv X pins σ H s) : s.heap.FunFrames X.base X.stack := by
 rcases I.ok.stk with e | ⟨e, hf⟩
 ·rw [e]; exact I.funs
 ·rw [e]
  obtain ⟨m, hn, _⟩ := I.loc
  refine .cons (by rw [I.ok.kind]; decide) hf hn ?_ I.funs
  exact Heap.get?_none_of_le (Nat.le_trans I.ok.bsz I.ok.above)
theorem Inv.stkSub (I : Inv X pins σ H s) : ∀ b ∈ frs X.stack, b ∈ X.env.locals :: X.fs := fun b hb => by
 rcases I.ok.stk with e | ⟨e, hf⟩
 ·rw [e] at hb; exact List.mem_cons_of_mem _ hb
 ·rw [e] at hb
  unfold frs at hb
  rw [List.filterMap_cons, hf] at hb
  exact hb
theorem Inv.stkFree (I : Inv X pins σ H s) : ∀ b ∈ frs X.stack, H b = none := fun b hb => by
 rcases List.mem_cons.mp (I.stkSub b hb) with e | hb
 ·rw [e]; exact I.free
 ·obtain ⟨_, o, ho, _⟩ := I.ok.funs.mem hb
  exact I.base.free b o ho (I.ok.frf b hb) fun z => I.ok.exfs b z hb
theorem Inv.step {g' : Array GenState} {t' : Nat} {d' : Drawn} {ch : List Addr} (I : Inv X pins σ H s)
  (hch : ∀ b ∈ ch, (b ∈ X.ex ∨ X.s₀.heap.objs.size ≤ b) ∧ b ≠ X.env.locals ∧ (∀ x c, X.env.cells.lookup x = some c → c ≠ b) ∧ ∀ p ∈ X.pn ++ pins, p.1 ≠ b)
  (keep : ∀ b o, b ≠ X.env.locals → b ∉ X.fs → b ∉ ch → s.heap.get? b = some o → H b = none → h'.get? b = some o)
  (slot : ∀ b o, b ≠ X.env.locals → b ∈ X.fs → b ∉ ch → s.heap.get? b = some o → H b = none → ∃ sl, h'.get? b = some { o with slots := sl }) (free : ∀ b o, b ∉ ch → s.heap.get? b = some o → H b = none → H' b = none)
  (there : ∀ b o, b ∉ ch → s.heap.get? b = some o → ∃ o', h'.get? b = some o')
  (tups : ∀ b xs, H b = some (.tup xs) → H' b = some (.tup xs)) (frzs : ∀ b o u, H b = some (.frz o u) → H' b = some (.frz o u)) (tbls : ∀ b ps, H b = some (.tbl ps) → ∃ more, H' b = some (.tbl (ps ++ more)))
  (ns : ∀ m, s.heap.Ns X.env.locals m → h'.Ns X.env.locals m) (hok : HOk X.prog X.w H' h') (hg : AllBare g') :
  Inv X pins σ H' { s with heap := h', gens := g', drawn := d', toks := t' } := by
 have neL : ∀ b o, X.s₀.heap.get? b = some o → b ≠ X.env.locals := fun b o e => Nat.ne_of_lt (Nat.lt_of_lt_of_le (Heap.lt_size e) I.ok.above)
 have neC : ∀ b o, X.s₀.heap.get? b = some o → b ∉ X.ex → b ∉ ch := fun b o e hx hb => by
  rcases (hch b hb).1 with z | z
  ·exact hx z
  ·exact absurd (Nat.lt_of_lt_of_le (Heap.lt_size e) z) (Nat.lt_irrefl _)
 have cellK : ∀ x c, X.env.cells.lookup x = some c → ∀ v, s.heap.IsCell c v → h'.IsCell c v := fun x c e v ⟨o, ho, hd⟩ => by
  have nch : c ∉ ch := fun z => (hch c z).2.2.1 x c e rfl
  by_cases hc : c ∈ X.fs
  ·obtain ⟨sl, q⟩ := slot c o (I.cne x c e) hc nch ho (I.freeC x c e)
   exact ⟨_, q, hd⟩
  ·exact ⟨o, keep c o (I.cne x c e) hc nch ho (I.freeC x c e), hd⟩
 refine ⟨I.ok, I.os, hg, ⟨fun b o e n hb hx => ?_, fun b o e n hb hx => ?_, fun b o e n hx => ?_, fun b o e hx => ?_, fun b xs e => tups b xs (I.base.tups b xs e), fun b o xs e => frzs b o xs (I.base.frzs b o xs e), fun b ps e => ?_⟩, ?_, fun x c e => ?_, ?_, fun x c e => ?_, fun p hp => ?_, hok, I.len⟩
 ·exact keep b o (neL b o e) hb (neC b o e hx) (I.base.keep b o e n hb hx) (I.base.free b o e n hx)
 ·obtain ⟨sl, e1⟩ := I.base.slot b o e n hb hx
  obtain ⟨sl', e2⟩ := slot b _ (neL b o e) hb (neC b o e hx) e1 (I.base.free b o e n hx)
  exact ⟨sl', e2⟩
 ·obtain ⟨o', e1⟩ := I.base.there b o e hx
  exact free b o' (neC b o e hx) e1 (I.base.free b o e n hx)
 ·obtain ⟨o', e1⟩ := I.base.there b o e hx
  exact there b o' (neC b o e hx) e1
 ·obtain ⟨m1, e1⟩ := I.base.tbls b ps e
  obtain ⟨m2, e2⟩ := tbls b _ e1
  exact ⟨m1 ++ m2, by rw [e2, Array.append_assoc]⟩
 ·obtain ⟨m, hn, hl⟩ := I.loc
  refine ⟨m, ns m hn, fun i x v e1 e2 e3 => ?_⟩
  obtain ⟨u, r, l⟩ := hl i x v e1 e2 e3
  refine ⟨u, r, ?_⟩
  rcases l with l | ⟨k, c, e, z⟩
  ·exact .inl l
  ·exact .inr ⟨k, c, e, cellK x c e _ z⟩
 ·obtain ⟨v, z⟩ := I.cell x c e
  exact ⟨v, cellK x c e v z⟩
 ·obtain ⟨m, ⟨o, _, _, ho, _⟩, _⟩ := I.loc
  exact free _ o (fun z => (hch _ z).2.1 rfl) ho I.free
 ·obtain ⟨v, o, ho, hd⟩ := I.cell x c e
  exact free c o (fun z => (hch c z).2.2.1 x c e rfl) ho (I.freeC x c e)
 ·obtain ⟨e, n, ne, nf, d⟩ := I.pin p hp
  have nch : p.1 ∉ ch := fun z => (hch p.1 z).2.2.2 p hp rfl
  exact ⟨keep p.1 p.2 ne nf nch e n, free p.1 p.2 nch e n, ne, nf, d⟩
theorem Inv.un {t' : Nat} (I : Inv X pins σ H s) (u : Un X.fs [] H H' s.heap h') (hok : HOk X.prog X.w H' h') : Inv X pins σ H' { s with heap := h', toks := t' } := by
 obtain ⟨m, ⟨o, es, ep, ho, r⟩, _⟩ := id I.loc
 obtain ⟨sl, hL⟩ := u.any ho I.free (by simp)
 exact I.step (g' := s.gens) (d' := s.drawn) (ch := []) (fun _ z => nomatch z) (fun b o _ hb _ e n => u.keep b o e n hb (by simp)) (fun b o _ hb _ e n => u.slot b o e n hb (by simp)) (fun b o _ e n => u.free b o e n (by simp)) (fun b o _ e => u.there b o e (by simp)) u.tups u.frzs u.tbls (fun m' hm => by
  obtain ⟨o', es', ep', ho', r'⟩ := hm
  rw [ho] at ho'; cases ho'
  exact ⟨_, es', ep', hL, r'⟩) hok I.bare
theorem Inv.call {g' : Array GenState} {t' : Nat} {d' : Drawn} {ch : List Addr} (I : Inv X pins σ H s) (u : Un (frs X.stack) ch H H' s.heap h') (hok : HOk X.prog X.w H' h') (hg : AllBare g')
  (hch : ∀ b ∈ ch, (b ∈ X.ex ∨ X.s₀.heap.objs.size ≤ b) ∧ b ≠ X.env.locals ∧ (∀ x c, X.env.cells.lookup x = some c → c ≠ b) ∧ ∀ p ∈ X.pn ++ pins, p.1 ≠ b) :
  Inv X pins σ H' { s with heap := h', gens := g', drawn := d', toks := t' } := by
 obtain ⟨m, ⟨o, es, ep, ho, r⟩, _⟩ := id I.loc
 obtain ⟨sl, hL⟩ := u.any ho I.free fun z => (hch _ z).2.1 rfl
 exact I.step (ch := ch) hch (fun b o hL hb hc e n => u.keep b o e n (fun z => (List.mem_cons.mp (I.stkSub b z)).elim hL hb) hc) (fun b o _ _ hc e n => u.any e n hc) (fun b o hc e n => u.free b o e n hc) (fun b o hc e => u.there b o e hc) u.tups u.frzs u.tbls (fun m' hm => by
  obtain ⟨o', es', ep', ho', r'⟩ := hm
  rw [ho] at ho'; cases ho'
  exact ⟨_, es', ep', hL, r'⟩) hok hg
theorem Inv.turned {t' : Nat} {it : Addr} (I : Inv X pins σ H s) (k : ∀ b o, b ≠ it → s.heap.get? b = some o → h'.get? b = some o) (hn : H it = none) (hL : it ≠ X.env.locals)
  (h1 : it ∈ X.ex ∨ X.s₀.heap.objs.size ≤ it) (h2 : ∀ x c, X.env.cells.lookup x = some c → c ≠ it) (h3 : ∀ p ∈ X.pn ++ pins, p.1 ≠ it) : Inv X pins σ H { s with heap := h', toks := t' } := by
 have nit : ∀ b u, H b = some u → b ≠ it := fun b u e z => by rw [z, hn] at e; cases e
 refine I.step (g' := s.gens) (d' := s.drawn) (ch := [it]) (fun b hb => ?_) (fun b o _ _ hc e _ => k b o (fun z => hc (by simp [z])) e) (fun b o _ _ hc e _ => ⟨o.slots, k b o (fun z => hc (by simp [z])) e⟩) (fun _ _ _ _ n => n)
  (fun b o hc e => ⟨o, k b o (fun z => hc (by simp [z])) e⟩) (fun _ _ e => e) (fun _ _ _ e => e) (fun b ps e => ⟨#[], by rw [e]; simp⟩) (fun m hm => ?_) (fun b u e => ?_) I.bare
 ·have e : b = it := by simpa using hb
  subst e
  exact ⟨h1, hL, h2, h3⟩
 ·obtain ⟨o, es, ep, ho, r⟩ := hm
  exact ⟨o, es, ep, k _ o (Ne.symm hL) ho, r⟩
 ·refine (I.hok b u e).stay (fun c v hc q => k c v ?_ q) (fun _ q => q) fun _ _ q => q
  rcases hc with z | z
  ·rw [z]; exact nit b u e
  ·exact nit c _ z
theorem Inv.tok (I : Inv X pins σ H s) (t : Nat) : Inv X pins σ H { s with toks := t } := I.un (h' := s.heap) (t' := t) Un.refl I.hok
theorem Inv.kept {t' : Nat} (I : Inv X pins σ H s) (k : ∀ b u, s.heap.get? b = some u → h'.get? b = some u) : Inv X pins σ H { s with heap := h', toks := t' } := I.un (Un.kept k) (I.hok.kept k)
theorem Inv.laid {a : Addr} {o : HO} {t' : Nat} (I : Inv X pins σ H s) (k : ∀ b u, s.heap.get? b = some u → h'.get? b = some u) (hp : s.heap.objs.size ≤ a) (new : ObjOk X.prog X.w (upd H a o) h' a o) :
  Inv X pins σ (upd H a o) { s with heap := h', toks := t' } := I.un (Un.laid k hp (I.hok.fresh hp)) (I.hok.laid k hp new)
theorem Inv.write {x e : Addr} {o : HO} {t' : Nat} (I : Inv X pins σ H s) (mu : Mut (H x)) (he : e = x ∨ H e = some (.own x)) (k : ∀ b u, b ≠ e → s.heap.get? b = some u → h'.get? b = some u) (heo : ∃ u, h'.get? e = some u)
  (new : ObjOk X.prog X.w (upd H x o) h' x o) : Inv X pins σ (upd H x o) { s with heap := h', toks := t' } := I.un (Un.write mu he k heo) (I.hok.write mu he k heo new)
theorem Inv.pins_of {pins' : List (Addr × Obj)} (I : Inv X pins σ H s) (h : ∀ p ∈ pins', s.heap.get? p.1 = some p.2 ∧ H p.1 = none ∧ p.1 ≠ X.env.locals ∧ p.1 ∉ X.fs ∧ ∀ v, p.2.data ≠ .cell v) : Inv X pins' σ H s :=
 ⟨I.ok, I.os, I.bare, I.base, I.loc, I.cell, I.free, I.freeC, fun p hp => (List.mem_append.mp hp).elim (fun z => I.pin p (List.mem_append_left _ z)) (h p), I.hok, I.len⟩
theorem Xf {N : List Str} (hN : N.Nodup) {i j : Nat} {x : Str} (a : N[i]? = some x) (b : N[j]? = some x) : i = j := by
 obtain ⟨h1, e1⟩ := List.getElem?_eq_some_iff.mp a
 obtain ⟨h2, e2⟩ := List.getElem?_eq_some_iff.mp b
 exact (List.getElem_inj hN).mp (e1.trans e2.symm)
theorem QB {M : Model} {A : Around} {E : Value → Shared → Prop} {i : Nat} {x : Str} {v : V} {u : Value} {Q : Unit → Shared → Prop} (I : Inv X pins σ H s) (hN : X.N.Nodup) (hi : X.N[i]? = some x) (hx : Loc X.env.scope x) (r : RelV v u)
  (h : ∀ s', Inv X pins (σ.set i (some v)) H s' → (∃ a, Heap.SameBut a s.heap s'.heap ∧ (a = X.env.locals ∨ X.env.cells.lookup x = some a)) → Q () s') (hf : X.fn x = true ∨ X.env.scope.names.lookup x = some .local := by walk_at "p") : wpAny M A (storeName X.env x u) Q E s := by
 obtain ⟨m, hn, hl⟩ := id I.loc
 have hcls : (X.env.scope.kind == .class || (X.env.scope.kind == .module && X.env.locals != X.env.globals)) = false := by rw [I.ok.kind]; rfl
 have hiσ : i < σ.length := by rw [I.len]; exact (List.getElem?_eq_some_iff.mp hi).1
 have cne := I.cne
 have tracked : ∀ {a : Addr} {h' : Heap}, (∃ o, s.heap.get? a = some o ∧ H a = none) → Heap.SameBut a s.heap h' → HOk X.prog X.w H h' := fun {a h'} ha hs b ob e => by
  obtain ⟨_, _, hfree⟩ := ha
  refine (I.hok b ob e).stay (fun c w' hc q => (hs.2 c ?_).trans q) (fun _ q => q) fun _ _ q => q
  rintro rfl
  rcases hc with rfl | hc
  ·rw [hfree] at e; cases e
  ·rw [hfree] at hc; cases hc
 rcases hx with hk | hk
 ·refine wpAny_storeName_local hk hn (fun h' hn' hs => ?_) hcls
  obtain ⟨oL, _, _, hoL, _⟩ := id hn
  refine h _ ⟨I.ok, I.os, I.bare, ⟨fun b o e n hb hx => ?_, fun b o e n hb hx => ?_, I.base.free, fun b o e hx => ?_, I.base.tups, I.base.frzs, I.base.tbls⟩, ⟨_, hn', fun j y v' e1 e2 e3 => ?_⟩, fun y c e => ?_, I.free, I.freeC, fun p hp => ?_, tracked ⟨oL, hoL, I.free⟩ hs, by simpa using I.len⟩ ⟨_, hs, .inl rfl⟩
  ·exact (hs.2 b (Nat.ne_of_lt (Nat.lt_of_lt_of_le (Heap.lt_size e) I.ok.above))).trans (I.base.keep b o e n hb hx)
  ·obtain ⟨sl, e1⟩ := I.base.slot b o e n hb hx
   exact ⟨sl, (hs.2 b (Nat.ne_of_lt (Nat.lt_of_lt_of_le (Heap.lt_size e) I.ok.above))).trans e1⟩
  ·obtain ⟨o', e1⟩ := I.base.there b o e hx
   exact ⟨o', (hs.2 b (Nat.ne_of_lt (Nat.lt_of_lt_of_le (Heap.lt_size e) I.ok.above))).trans e1⟩
  ·by_cases hj : j = i
   ·subst hj
    rw [hi] at e1; cases e1
    rw [List.getElem?_set_self hiσ] at e2
    cases e2
    exact ⟨u, r, .inl ⟨hk, by simp⟩⟩
   ·rw [List.getElem?_set_ne (Ne.symm hj)] at e2
    obtain ⟨u', r', q⟩ := hl j y v' e1 e2 e3
    refine ⟨u', r', ?_⟩
    rcases q with ⟨k, e⟩ | ⟨k, c, e, z⟩
    ·refine .inl ⟨k, ?_⟩
     have : y ≠ x := fun e => hj (Xf hN e1 (e ▸ hi))
     simp [this, e]
    ·exact .inr ⟨k, c, e, z.sameBut hs (cne y c e)⟩
  ·obtain ⟨w', z⟩ := I.cell y c e
   exact ⟨w', z.sameBut hs (cne y c e)⟩
  ·obtain ⟨e, n, ne, nf, d⟩ := I.pin p hp
   exact ⟨(hs.2 p.1 ne).trans e, n, ne, nf, d⟩
 ·have hfn : X.fn x = true := by
   rcases hf with z | z
   ·exact z
   ·rw [z] at hk; cases hk
  obtain ⟨c, hc⟩ := I.ok.has x (.inl hk)
  obtain ⟨w', z⟩ := I.cell x c hc
  refine wpAny_storeName_cell I.ok.kind hk hc z (fun h' hc' hs => ?_)
  obtain ⟨oc, hoc, hocd⟩ := id z
  refine h { s with heap := h' } ⟨I.ok, I.os, I.bare, ⟨fun b o e n hb hx => ?_, fun b o e n hb hx => ?_, I.base.free, fun b o e hx => ?_, I.base.tups, I.base.frzs, I.base.tbls⟩, ⟨m, hn.sameBut hs (Ne.symm (cne x c hc)), fun j y v' e1 e2 e3 => ?_⟩, fun y c' e => ?_, I.free, I.freeC, fun p hp => ?_, tracked ⟨oc, hoc, I.freeC x c hc⟩ hs, by simpa using I.len⟩ ⟨c, hs, .inr hc⟩
  ·exact (hs.2 b (Nat.ne_of_lt (Nat.lt_of_lt_of_le (Heap.lt_size e) (I.ok.cab x c hfn hc)))).trans (I.base.keep b o e n hb hx)
  ·obtain ⟨sl, e1⟩ := I.base.slot b o e n hb hx
   exact ⟨sl, (hs.2 b (Nat.ne_of_lt (Nat.lt_of_lt_of_le (Heap.lt_size e) (I.ok.cab x c hfn hc)))).trans e1⟩
  ·obtain ⟨o', e1⟩ := I.base.there b o e hx
   exact ⟨o', (hs.2 b (Nat.ne_of_lt (Nat.lt_of_lt_of_le (Heap.lt_size e) (I.ok.cab x c hfn hc)))).trans e1⟩
  ·by_cases hj : j = i
   ·subst hj
    rw [hi] at e1; cases e1
    rw [List.getElem?_set_self hiσ] at e2
    cases e2
    exact ⟨u, r, .inr ⟨.inl hk, c, hc, hc'⟩⟩
   ·rw [List.getElem?_set_ne (Ne.symm hj)] at e2
    obtain ⟨u', r', q⟩ := hl j y v' e1 e2 e3
    refine ⟨u', r', ?_⟩
    rcases q with q | ⟨k, c', e, z'⟩
    ·exact .inl q
    ·refine .inr ⟨k, c', e, z'.sameBut hs ?_⟩
     rintro rfl
     exact hj (Xf hN e1 (I.ok.inj _ _ _ e hc ▸ hi))
  ·by_cases hcc : c' = c
   ·subst hcc; exact ⟨_, hc'⟩
   ·obtain ⟨w2, z2⟩ := I.cell y c' e
    exact ⟨w2, z2.sameBut hs hcc⟩
  ·obtain ⟨e, n, ne, nf, d⟩ := I.pin p hp
   refine ⟨(hs.2 p.1 ?_).trans e, n, ne, nf, d⟩
   intro q
   rw [q, hoc] at e
   have q' : oc = p.2 := Option.some.inj e
   exact d w' (by rw [← q']; exact hocd)
theorem Zx {M : Model} {A : Around} {E : Value → Shared → Prop} {i : Nat} {x : Str} {v : V} {u : Value} {Q : Unit → Shared → Prop} (I : Inv X pins σ H s) (hN : X.N.Nodup) (hi : X.N[i]? = some x) (hx : Loc X.env.scope x) (r : RelV v u)
  (h : ∀ s', Inv X pins (σ.set i (some v)) H s' → Q () s') (hf : X.fn x = true ∨ X.env.scope.names.lookup x = some .local := by walk_at "p") : wpAny M A (storeName X.env x u) Q E s :=
 QB I hN hi hx r (fun s' I' _ => h s' I') hf
theorem Inv.call' {s' : Shared} {ch : List Addr} (I : Inv X pins σ H s) (ho : s'.os = s.os) (u : Un (frs X.stack) ch H H' s.heap s'.heap) (hok : HOk X.prog X.w H' s'.heap) (hg : AllBare s'.gens)
  (hch : ∀ b ∈ ch, (b ∈ X.ex ∨ X.s₀.heap.objs.size ≤ b) ∧ b ≠ X.env.locals ∧ (∀ x c, X.env.cells.lookup x = some c → c ≠ b) ∧ ∀ p ∈ X.pn ++ pins, p.1 ≠ b) : Inv X pins σ H' s' := by
 obtain ⟨h', g', d', t', o'⟩ := s'
 have e : o' = s.os := ho
 subst e
 exact I.call (g' := g') (t' := t') (d' := d') u hok hg hch
end
abbrev XK := Value → Option Addr → Hp → Prop
abbrev St := List (Option V)
abbrev VK := V → Hp → Prop
abbrev TE := St → Hp → VK → Prop
abbrev TT := St → Hp → (Bool → Hp → Prop) → Prop
abbrev TA := St → Hp → (List V → Hp → Prop) → Prop
structure Ends where
 nx : St → Hp → Prop
 rt : VK
 bk : St → Hp → Prop := fun _ _ => False
 ct : St → Hp → Prop := fun _ _ => False
abbrev TS := Ends → St → Hp → Prop
def EP (X : Cx) (pins : List (Addr × Obj)) (σ : St) (Q : VK) (u : Value) (s' : Shared) : Prop := ∃ v H', Inv X pins σ H' s' ∧ RelV v u ∧ Q v H'
def TP (X : Cx) (pins : List (Addr × Obj)) (σ : St) (Q : Bool → Hp → Prop) (b : Bool) (s' : Shared) : Prop := ∃ H', Inv X pins σ H' s' ∧ Q b H'
def AP (X : Cx) (pins : List (Addr × Obj)) (σ : St) (Q : List V → Hp → Prop) (us : List Value) (s' : Shared) : Prop := ∃ vs H', Inv X pins σ H' s' ∧ Vals vs us ∧ Q vs H'
def SP (X : Cx) (pins : List (Addr × Obj)) (D : Ends) (f : Flow) (s' : Shared) : Prop :=
 match f with
 | .next => ∃ σ' H', Inv X pins σ' H' s' ∧ D.nx σ' H'
 | .brk => ∃ σ' H', Inv X pins σ' H' s' ∧ D.bk σ' H'
 | .cont => ∃ σ' H', Inv X pins σ' H' s' ∧ D.ct σ' H'
 | .ret u => ∃ v σ' H', Inv X pins σ' H' s' ∧ RelV v u ∧ D.rt v H'
def PE (X : Cx) (e : Expr) (t : TE) : Prop :=
 ∀ (pins : List (Addr × Obj)) (s : Shared) (σ : St) (H : Hp) (Q : VK), Inv X pins σ H s → t σ H Q → wpAny (model X.prog X.w) X.A (eval e X.env) (EP X pins σ Q) X.xe s
def PT (X : Cx) (e : Expr) (t : TT) : Prop :=
 ∀ (pins : List (Addr × Obj)) (s : Shared) (σ : St) (H : Hp) (Q : Bool → Hp → Prop), Inv X pins σ H s → t σ H Q → wpAny (model X.prog X.w) X.A (isTrue e X.env (eval e X.env)) (TP X pins σ Q) X.xe s
def PW (X : Cx) (e : Expr) (t : TT) : Prop :=
 ∀ (whole : Sem Value) (pins : List (Addr × Obj)) (s : Shared) (σ : St) (H : Hp) (Q : Bool → Hp → Prop), Inv X pins σ H s → t σ H Q → wpAny (model X.prog X.w) X.A (isTrue e X.env whole) (TP X pins σ Q) X.xe s
theorem PW.pt {X : Cx} {e : Expr} {t : TT} (h : PW X e t) : PT X e t := h _
def PA (X : Cx) (es : List Expr) (t : TA) : Prop :=
 ∀ (pos : Pos) (pins : List (Addr × Obj)) (s : Shared) (σ : St) (H : Hp) (Q : List V → Hp → Prop), Inv X pins σ H s → t σ H Q → wpAny (model X.prog X.w) X.A (spliced (backTo pos (starEach es X.env))) (AP X pins σ Q) X.xe s
def PS (X : Cx) (st : Stmt) (t : TS) : Prop :=
 ∀ (pins : List (Addr × Obj)) (s : Shared) (σ : St) (H : Hp) (D : Ends), Inv X pins σ H s → t D σ H → wpAny (model X.prog X.w) X.A (exec st X.env) (SP X pins D) X.xe s
def PSs (X : Cx) (st : List Stmt) (t : TS) : Prop :=
 ∀ (pins : List (Addr × Obj)) (s : Shared) (σ : St) (H : Hp) (D : Ends), Inv X pins σ H s → t D σ H → wpAny (model X.prog X.w) X.A (execs st X.env) (SP X pins D) X.xe s
theorem thn {α : Type} {t : Sem α} {Q Q' : α → Shared → Prop} {M : Model} {A : Around} {E : Value → Shared → Prop} {s : Shared} (h : wpAny M A t Q E s) (hQ : ∀ a s, Q a s → Q' a s) : wpAny M A t Q' E s := wpAny_mono h hQ fun _ _ x => x
end L2
namespace L2
open PySem PySem.Spec PyProof.Rows
section
variable {X : Cx}
def zcE (i : Nat) : TE := fun σ H Q => ∃ v, σ[i]? = some (some v) ∧ Q v H
def tC (v : V) : TE := fun _ H Q => Q v H
theorem zb2 {i : Nat} {x : Str} {pos : Pos} (hN : X.N[i]? = some x) (hv : Vis X.env.scope x) (hd : (x == ("__debug__" : Str)) = false := by decide) (hcd : (x == ("__classdict__" : Str)) = false := by decide) : PE X (.Name x pos) (zcE i) := by
 intro pins s σ H Q I h
 obtain ⟨v, e, h⟩ := h
 obtain ⟨m, hn, hl⟩ := I.loc
 obtain ⟨u, r, l⟩ := hl i x v hN e hv
 have fin : EP X pins σ Q u s := ⟨v, H, I, r, h⟩
 rcases l with ⟨hk, hm⟩ | ⟨hk, c, hc, hcell⟩
 ·exact wpAny_Name (wpAny_loadName_local I.ok.kind hk hn hm fin) hd
 ·rcases hk with hk | hk
  ·exact wpAny_Name (wpAny_loadName_cell I.ok.kind hk hc hcell fin) hd
  ·exact wpAny_Name (wpAny_loadName_free I.ok.kind hk hc hcell fin hcd) hd
theorem zc {i j pos} : PE X (.Constant (.int i) j pos) (tC (.int i)) := fun _ _ _ H _ I h => wpAny_Constant_int ⟨.int i, H, I.tok _, ⟨_, rfl⟩, h⟩
theorem WJ {b j pos} : PE X (.Constant (.bool b) j pos) (tC (.bl b)) := fun _ _ _ H _ I h => Constant_bool ⟨.bl b, H, I, rfl, h⟩
theorem jV {j pos} : PE X (.Constant .none j pos) (tC .non) := fun _ _ _ H _ I h => Constant_none ⟨.non, H, I, rfl, h⟩
theorem j7 {x j pos} : PE X (.Constant (.str x) j pos) (tC (.str x)) := fun _ _ _ H _ I h => Calls.Constant_str ⟨.str x, H, I.tok _, ⟨_, rfl⟩, h⟩
def Gl (X : Cx) (x : Str) : Prop := X.env.kindOf x = some .globalImplicit
theorem xD {E : Value → Shared → Prop} {pins : List (Addr × Obj)} {s : Shared} {σ : St} {H : Hp} {x : Str} {u : Value} {pos : Pos} {Q : Value → Shared → Prop} (I : Inv X pins σ H s) (hg : Gl X x) (hm : X.mg x = some u) (h : Q u s)
  (hd : (x == ("__debug__" : Str)) = false := by decide) : wpAny (model X.prog X.w) X.A (eval (.Name x pos) X.env) Q E s :=
 Calls.Name_function_global I.ok.kind hg (Calls.loadGlobal_global (by rw [I.ok.glob]; exact I.mod.glob.keeps I.bk) hm h) hd
theorem xV {E : Value → Shared → Prop} {pins : List (Addr × Obj)} {s : Shared} {σ : St} {H : Hp} {x : Str} {u : Value} {pos : Pos} {Q : Value → Shared → Prop} (I : Inv X pins σ H s) (hg : Gl X x) (hm : X.mg x = none) (hv : bootBuiltins x = some u) (h : Q u s)
  (hn : x ≠ "__name__" := by decide) (hd : (x == ("__debug__" : Str)) = false := by decide) : wpAny (model X.prog X.w) X.A (eval (.Name x pos) X.env) Q E s := by
 obtain ⟨mb, h1, h2⟩ := I.mod.blt
 exact Calls.Name_function_global I.ok.kind hg (Calls.loadGlobal_builtin (by rw [I.ok.glob]; exact I.mod.glob.keeps I.bk) hm (by rw [I.ok.blt]; exact h1.keeps I.bk) ((h2 x hn).trans hv) h) hd
variable {a b : Expr} {ta tb : TE} {pos : Pos}
def PC (X : Cx) (op : CmpOp) (a b : Expr) (t : TE) : Prop :=
 ∀ (pins : List (Addr × Obj)) (s : Shared) (σ : St) (H : Hp) (Q : VK), Inv X pins σ H s → t σ H Q →
  wpAny (model X.prog X.w) X.A (eval a X.env) (fun v s₁ => wpAny (model X.prog X.w) X.A (eval b X.env) (fun u s₂ => wpAny (model X.prog X.w) X.A (compareOp op v u) (EP X pins σ Q) X.xe s₂) X.xe s₁) X.xe s
theorem nobehind (b : Expr) {op : CmpOp} (h : op ≠ .In) (h2 : op ≠ .NotIn) : behindInMarks op b = false := by
 have e1 : (op == CmpOp.In) = false := by cases op <;> first | rfl | exact absurd rfl h
 have e2 : (op == CmpOp.NotIn) = false := by cases op <;> first | rfl | exact absurd rfl h2
 cases b <;> simp [behindInMarks, e1, e2]
variable {tA tB' : TT} {rest : List Expr}
def tAnd (t u : TT) : TT := fun σ H Q => t σ H fun c H1 => if c = true then u σ H1 Q else Q false H1
def tOr (t u : TT) : TT := fun σ H Q => t σ H fun c H1 => if c = true then Q true H1 else u σ H1 Q
def tNot (t : TT) : TT := fun σ H Q => t σ H fun c H1 => Q (!c) H1
theorem pw_and1 (ha : PT X a tA) : PW X (.BoolOp .And [a] pos) tA := by
 intro wh pins s σ H Q I h
 refine isTrue_and (thn (ha pins s σ H Q I h) fun c s1 e => ?_)
 cases c with
 | true => exact isTrue_and_nil e
 | false => exact e
theorem pw_or1 (ha : PT X a tA) : PW X (.BoolOp .Or [a] pos) tA := by
 intro wh pins s σ H Q I h
 refine isTrue_or (thn (ha pins s σ H Q I h) fun c s1 e => ?_)
 cases c with
 | false => exact isTrue_or_nil e
 | true => exact e
theorem pw_and (ha : PT X a tA) (hb : PW X (.BoolOp .And (b :: rest) pos) tB') : PW X (.BoolOp .And (a :: b :: rest) pos) (tAnd tA tB') := by
 intro wh pins s σ H Q I h
 refine isTrue_and (thn (ha pins s σ H _ I h) fun c s1 ⟨H1, I1, q1⟩ => ?_)
 cases c with
 | true => exact hb wh pins s1 σ H1 Q I1 q1
 | false => exact ⟨H1, I1, q1⟩
theorem pw_or (ha : PT X a tA) (hb : PW X (.BoolOp .Or (b :: rest) pos) tB') : PW X (.BoolOp .Or (a :: b :: rest) pos) (tOr tA tB') := by
 intro wh pins s σ H Q I h
 refine isTrue_or (thn (ha pins s σ H _ I h) fun c s1 ⟨H1, I1, q1⟩ => ?_)
 cases c with
 | true => exact ⟨H1, I1, q1⟩
 | false => exact hb wh pins s1 σ H1 Q I1 q1
theorem jT (ha : PT X a tA) : PT X (.UnaryOp .Not a pos) (tNot tA) := by
 intro pins s σ H Q I h
 exact isTrue_not (ha pins s σ H (fun c H1 => Q (!c) H1) I h)
def tAndV (ta tb : TE) : TE := fun σ H Q => ta σ H fun x H1 => ∃ c, x = .bl c ∧ if c = true then tb σ H1 Q else Q (.bl false) H1
def tOrV (ta tb : TE) : TE := fun σ H Q => ta σ H fun x H1 => ∃ c, x = .bl c ∧ if c = true then Q (.bl true) H1 else tb σ H1 Q
def tNotV (ta : TE) : TE := fun σ H Q => ta σ H fun x H1 => ∃ c, x = .bl c ∧ Q (.bl (!c)) H1
def tIf (t : TT) (ta tb : TE) : TE := fun σ H Q => t σ H fun c H1 => if c = true then ta σ H1 Q else tb σ H1 Q
theorem J4 {c : Expr} (hc : PT X c tA) (ha : PE X a ta) (hb : PE X b tb) : PE X (.IfExp c a b pos) (tIf tA ta tb) := by
 intro pins s σ H Q I h
 refine wpAny_IfExp (thn (hc pins s σ H _ I h) fun d s1 ⟨H1, I1, q1⟩ => ?_)
 cases d with
 | true => exact ha pins s1 σ H1 Q I1 q1
 | false => exact hb pins s1 σ H1 Q I1 q1
end
end L2
namespace L2
open PySem PySem.Spec PyProof.Rows
def SqL (K : PySem.W.Frag) (H : Hp) (a : Addr) (xs : List V) : Prop :=
 Rd H a (.lst xs) ∨
  ∃ (o : Obj) (its : Array Value) (n : Nat), K.lookup a = some o ∧ o.cls = .type "list" ∧ o.dict = none ∧ o.data = .seq its n ∧ its.size ≤ sizeLine ∧ Vals xs its.toList
def SqT (K : PySem.W.Frag) (H : Hp) (a : Addr) (xs : List V) : Prop :=
 Rd H a (.tup xs) ∨
  ∃ (o : Obj) (its : Array Value) (n : Nat), K.lookup a = some o ∧ o.cls = .type "tuple" ∧ o.data = .seq its n ∧ its.size ≤ sizeLine ∧ Vals xs its.toList
def zde : Value → Option V
 | .none => some .non
 | .bool b => some (.bl b)
 | .int i _ => some (.int i)
 | .str x _ => some (.str x)
 | .bytes b _ => some (.byt b)
 | .float b _ => some (.flt b)
 | .ref a => some (.ref a)
 | .type n => some (.ty n)
 | _ => none
theorem RelV.abs {x : V} {u : Value} (r : RelV x u) : zde u = some x := by
 cases x with
 | non => cases r; rfl
 | bl _ => cases r; rfl
 | int _ => obtain ⟨t, rfl⟩ := r; rfl
 | str _ => obtain ⟨t, rfl⟩ := r; rfl
 | byt _ => obtain ⟨t, rfl⟩ := r; rfl
 | flt _ => obtain ⟨t, rfl⟩ := r; rfl
 | ref _ => cases r; rfl
 | ty _ => cases r; rfl
theorem RelV.inj {x y : V} {u : Value} (r : RelV x u) (q : RelV y u) : x = y := Option.some.inj (r.abs.symm.trans q.abs)
theorem Vals.inj : ∀ {xs ys : List V} {us : List Value}, Vals xs us → Vals ys us → xs = ys
 | _, _, _, .nil, .nil => rfl
 | _, _, _, .cons r t, .cons r' t' => by rw [r.inj r', Vals.inj t t']
section
variable {X : Cx} {pins : List (Addr × Obj)} {σ : St} {H : Hp} {s : Shared} {a : Addr} {xs ys : List V}
theorem SqL.of {K : PySem.W.Frag} (h : H a = some (.lst xs)) : SqL K H a xs := .inl (.inl h)
theorem SqT.of {K : PySem.W.Frag} (h : H a = some (.tup xs)) : SqT K H a xs := .inl (.inl h)
theorem Inv.list (I : Inv X pins σ H s) (h : SqL X.K H a xs) : ∃ its : List Value, Vals xs its ∧ PlainL s.heap a its.toArray ∧ xs.length ≤ sizeLine := by
 rcases h with h | ⟨o, its, n, hk, hc, hd, hs, hz, r⟩
 ·obtain ⟨z, its, n, r, e⟩ := h.ok I.hok
  exact ⟨its, r, ⟨_, n, e, rfl, rfl, rfl⟩, z⟩
 ·refine ⟨its.toList, r, ⟨o, n, I.kIn a o hk, hc, hd, by simpa using hs⟩, ?_⟩
  have e := r.length
  simp only [Array.length_toList] at e
  omega
theorem Inv.tuple (I : Inv X pins σ H s) (h : SqT X.K H a xs) : ∃ its : List Value, Vals xs its ∧ IsTup s.heap a its.toArray ∧ xs.length ≤ sizeLine := by
 rcases h with h | ⟨o, its, n, hk, hc, hs, hz, r⟩
 ·obtain ⟨z, its, r, p⟩ := h.ok I.hok
  exact ⟨its, r, p, z⟩
 ·refine ⟨its.toList, r, ⟨o, I.kIn a o hk, hc, n, by simpa using hs⟩, ?_⟩
  have e := r.length
  simp only [Array.length_toList] at e
  omega
theorem Inv.list_inj (I : Inv X pins σ H s) (h : SqL X.K H a xs) (h' : SqL X.K H a ys) : xs = ys := by
 obtain ⟨its, r, ⟨o, n, e, _, _, d⟩, _⟩ := I.list h
 obtain ⟨its', r', ⟨o', n', e', _, _, d'⟩, _⟩ := I.list h'
 rw [e] at e'; cases e'
 rw [d] at d'
 injection d' with d1 _
 have : its = its' := by simpa using congrArg Array.toList d1
 subst this
 exact r.inj r'
theorem Inv.tuple_inj (I : Inv X pins σ H s) (h : SqT X.K H a xs) (h' : SqT X.K H a ys) : xs = ys := by
 obtain ⟨its, r, ⟨o, e, _, n, d⟩, _⟩ := I.tuple h
 obtain ⟨its', r', ⟨o', e', _, n', d'⟩, _⟩ := I.tuple h'
 rw [e] at e'; cases e'
 rw [d] at d'
 injection d' with d1 _
 have : its = its' := by simpa using congrArg Array.toList d1
 subst this
 exact r.inj r'
end
abbrev Cx.wish (X : Cx) (E : Value → Shared → Prop) : Cx := { X with xe := E }
abbrev Cx.nox (X : Cx) : Cx := X.wish fun _ _ => False
theorem Cx.Ok.wish {X : Cx} (ok : X.Ok) (E : Value → Shared → Prop) : (X.wish E).Ok :=
 ⟨ok.mod, ok.kind, ok.glob, ok.blt, ok.above, ok.inj, ok.has, ok.cab, ok.hd, ok.frames, ok.stk, ok.exf, ok.bs, ok.bsz, ok.noex, ok.exfs, ok.funs, ok.frf⟩
theorem Cx.Ok.unwish {X : Cx} {E : Value → Shared → Prop} (ok : (X.wish E).Ok) : X.Ok :=
 ⟨ok.mod, ok.kind, ok.glob, ok.blt, ok.above, ok.inj, ok.has, ok.cab, ok.hd, ok.frames, ok.stk, ok.exf, ok.bs, ok.bsz, ok.noex, ok.exfs, ok.funs, ok.frf⟩
section
variable {X : Cx} {pins : List (Addr × Obj)} {σ : St} {H : Hp} {s : Shared} {E : Value → Shared → Prop}
theorem Inv.wish (I : Inv X pins σ H s) (E : Value → Shared → Prop) : Inv (X.wish E) pins σ H s := ⟨I.ok.wish E, I.os, I.bare, I.base, I.loc, I.cell, I.free, I.freeC, I.pin, I.hok, I.len⟩
theorem Inv.unwish (I : Inv (X.wish E) pins σ H s) : Inv X pins σ H s := ⟨I.ok.unwish, I.os, I.bare, I.base, I.loc, I.cell, I.free, I.freeC, I.pin, I.hok, I.len⟩
theorem SP.unwish {D : Ends} {f : Flow} {s' : Shared} (h : SP (X.wish E) pins D f s') : SP X pins D f s' := by
 cases f with
 | next => obtain ⟨σ', H', I, q⟩ := h; exact ⟨σ', H', I.unwish, q⟩
 | brk => obtain ⟨σ', H', I, q⟩ := h; exact ⟨σ', H', I.unwish, q⟩
 | cont => obtain ⟨σ', H', I, q⟩ := h; exact ⟨σ', H', I.unwish, q⟩
 | ret u => obtain ⟨v, σ', H', I, r, q⟩ := h; exact ⟨v, σ', H', I.unwish, r, q⟩
theorem PE.nox {e : Expr} {t : TE} (h : PE X.nox e t) : PE X e t := fun pins s σ H Q I hw =>
 wpAny_mono (h pins s σ H Q (I.wish _) hw) (fun _ _ ⟨v, H', I', r, q⟩ => ⟨v, H', I'.unwish, r, q⟩) fun _ _ z => False.elim z
theorem PT.nox {e : Expr} {t : TT} (h : PT X.nox e t) : PT X e t := fun pins s σ H Q I hw =>
 wpAny_mono (h pins s σ H Q (I.wish _) hw) (fun _ _ ⟨H', I', q⟩ => ⟨H', I'.unwish, q⟩) fun _ _ z => False.elim z
theorem PSs.nox {st : List Stmt} {t : TS} (h : PSs X.nox st t) : PSs X st t := fun pins s σ H D I hw =>
 wpAny_mono (h pins s σ H D (I.wish _) hw) (fun _ _ q => q.unwish) fun _ _ z => False.elim z
end
section
variable {X : Cx} {st : Stmt} {rest : List Stmt} {t u : TS} {e : Expr} {te : TE} {pos : Pos}
def tNext : TS := fun D σ H => D.nx σ H
def tSeq (t u : TS) : TS := fun D σ H => t { D with nx := u D } σ H
theorem zq : PSs X [] tNext := fun _ _ σ H _ I h => wpAny_execs_nil ⟨σ, H, I, h⟩
theorem zm (h1 : PS X st t) (h2 : PSs X rest u) : PSs X (st :: rest) (tSeq t u) := by
 intro pins s σ H D I h
 refine wpAny_execs_cons (thn (h1 pins s σ H { D with nx := u D } I h) fun f s1 q => ?_)
 cases f with
 | next =>
  obtain ⟨σ', H', I', q⟩ := q
  exact h2 pins s1 σ' H' D I' q
 | ret v => exact q
 | brk => exact q
 | cont => exact q
theorem ze (h1 : PS X st t) : PSs X [st] t := by
 intro pins s σ H D I h
 refine wpAny_execs_cons (thn (h1 pins s σ H D I h) fun f s1 q => ?_)
 cases f with
 | next => exact wpAny_execs_nil q
 | ret v => exact q
 | brk => exact q
 | cont => exact q
def tBreak : TS := fun D σ H => D.bk σ H
def tCont : TS := fun D σ H => D.ct σ H
theorem Inv.quiet {pins : List (Addr × Obj)} {σ : St} {H : Hp} {s : Shared} (I : Inv X pins σ H s) : interactive X.env = false := by simp [interactive, I.ok.kind]
def tDrop (te : TE) : TS := fun D σ H => te σ H fun _ H1 => D.nx σ H1
theorem zl (he : PE X e te) (hs : swapsWith e none pos.line X.env = pure false := by rfl) : PS X (.Expr e pos) (tDrop te) := by
 intro pins s σ H D I h
 exact wpAny_Expr_any (thn (he pins s σ H _ I h) fun v s1 ⟨x, H1, I1, r1, q1⟩ => ⟨σ, H1, I1, q1⟩) I.quiet hs
def tRet (te : TE) : TS := fun D σ H => te σ H D.rt
theorem zA (he : PE X e te) : PS X (.Return (some e) pos) (tRet te) := by
 intro pins s σ H D I h
 exact wpAny_Return_some (thn (he pins s σ H _ I h) fun v s1 ⟨x, H1, I1, r1, q1⟩ => ⟨x, σ, H1, I1, r1, q1⟩)
def tRetN : TS := fun D _ H => D.rt .non H
def tIfS (c : TT) (t u : TS) : TS := fun D σ H => c σ H fun b H1 => if b = true then t D σ H1 else u D σ H1
theorem zL {c : Expr} {a b : List Stmt} {tc : TT} (hc : PT X c tc) (ha : PSs X a t) (hb : PSs X b u) : PS X (.If c a b pos) (tIfS tc t u) := by
 intro pins s σ H D I h
 refine wpAny_If (thn (hc pins s σ H _ I h) fun d s1 ⟨H1, I1, q1⟩ => ?_)
 cases d with
 | true => exact ha pins s1 σ H1 D I1 q1
 | false => exact hb pins s1 σ H1 D I1 q1
def tNever : TS := fun _ _ _ => False
end
abbrev TG := V → St → Hp → (St → Hp → Prop) → Prop
abbrev TGs := List V → St → Hp → (St → Hp → Prop) → Prop
def PG (X : Cx) (target : Expr) (t : TG) : Prop :=
 ∀ (pins : List (Addr × Obj)) (s : Shared) (σ : St) (H : Hp) (v : V) (u : Value) (Q : St → Hp → Prop), Inv X pins σ H s → RelV v u → t v σ H Q →
  wpAny (model X.prog X.w) X.A (assign target X.env u) (fun _ s' => ∃ σ' H', Inv X pins σ' H' s' ∧ Q σ' H') X.xe s
def PGs (X : Cx) (ts : List Expr) (t : TGs) : Prop :=
 ∀ (pins : List (Addr × Obj)) (s : Shared) (σ : St) (H : Hp) (vs : List V) (us : List Value) (Q : St → Hp → Prop), Inv X pins σ H s → Vals vs us → t vs σ H Q →
  wpAny (model X.prog X.w) X.A (assignInOrder ((assignEach ts X.env).map (·.2)) us) (fun _ s' => ∃ σ' H', Inv X pins σ' H' s' ∧ Q σ' H') X.xe s
abbrev zbf := V → V → V → Hp → (Hp → Prop) → Prop
def zcx (X : Cx) (t : zbf) : Prop :=
 ∀ (pins : List (Addr × Obj)) (s : Shared) (σ : St) (H : Hp) (o i v : V) (ov iv u : Value) (Q : Hp → Prop), Inv X pins σ H s → RelV o ov → RelV i iv → RelV v u → t o i v H Q →
  wpAny (model X.prog X.w) X.A (setItem ov iv u) (fun _ s' => ∃ H', Inv X pins σ H' s' ∧ Q H') X.xe s
abbrev TIp := V → V → Hp → VK → Prop
def PIp (X : Cx) (op : Operator) (t : TIp) : Prop :=
 ∀ (pins : List (Addr × Obj)) (s : Shared) (σ : St) (H : Hp) (x y : V) (v u : Value) (Q : VK), Inv X pins σ H s → RelV x v → RelV y u → t x y H Q →
  wpAny (model X.prog X.w) X.A (inplaceOp op v u) (EP X pins σ Q) X.xe s
section
variable {X : Cx} {pos : Pos}
def gName (i : Nat) : TG := fun v σ H Q => Q (σ.set i (some v)) H
theorem Jl {i : Nat} {x : Str} (hN : X.N.Nodup) (hi : X.N[i]? = some x) (hx : Loc X.env.scope x) (hf : X.fn x = true ∨ X.env.scope.names.lookup x = some .local := by walk_at "p") : PG X (.Name x pos) (gName i) := by
 intro pins s σ H v u Q I r h
 exact wpAny_assign_Name (Zx I hN hi hx r (fun s' I' => ⟨_, H, I', h⟩) hf)
def gNil : TGs := fun vs σ H Q => vs = [] ∧ Q σ H
def gCons (t : TG) (u : TGs) : TGs := fun vs σ H Q => ∃ v r, vs = v :: r ∧ t v σ H fun σ' H' => u r σ' H' Q
theorem jg : PGs X [] gNil := by
 intro pins s σ H vs us Q I r h
 obtain ⟨e, h⟩ := h
 subst e
 cases r
 exact assignInOrder_nil ⟨σ, H, I, h⟩
theorem zQ {e : Expr} {es : List Expr} {t : TG} {u : TGs} (h1 : PG X e t) (h2 : PGs X es u)
  (hs : (assignEach (e :: es) X.env).map (·.2) = assign e X.env :: (assignEach es X.env).map (·.2) := by rfl) : PGs X (e :: es) (gCons t u) := by
 intro pins s σ H vs us Q I r h
 obtain ⟨v, vr, e1, h⟩ := h
 subst e1
 cases r with
 | cons r rr =>
  rw [hs]
  refine assignInOrder_cons (thn (h1 pins s σ H _ _ _ I r h) fun _ s1 ⟨σ1, H1, I1, q1⟩ => ?_)
  exact h2 pins s1 σ1 H1 _ _ Q I1 rr q1
def gTup (K : PySem.W.Frag) (n : Nat) (t : TGs) : TG := fun v σ H Q => ∃ a xs, v = .ref a ∧ SqT K H a xs ∧ xs.length = n ∧ t xs σ H Q
theorem jU {es : List Expr} {k : Nat} {t : TGs} {n : Nat} (hc : X.calm = true) (h : PGs X es t)
  (hn : (assignEach es X.env).length = n := by rfl) (hst : (assignEach es X.env).findIdx? (·.1) = none := by rfl) : PG X (.Tuple es k pos) (gTup X.K n t) := by
 intro pins s σ H v u Q I r hw
 obtain ⟨a, xs, e1, hq, hl, hw⟩ := hw
 subst e1
 cases r
 obtain ⟨its, rv, ht, hz⟩ := I.tuple hq
 refine assign_Tuple_tuple (I.ok.hd hc) ht (by simp [hn, ← hl, rv.length]) hst fun h' hx => ?_
 have I1 : Inv X pins σ H { s with heap := h' } := I.kept (t' := s.toks) fun b o e => hx b o (Nat.ne_of_lt (Heap.lt_size e)) e
 exact h pins _ σ H xs _ Q I1 (by simpa using rv) hw
def gSub (to ti : TE) (t : zbf) : TG := fun v σ H Q => to σ H fun o H1 => ti σ H1 fun i H2 => t o i v H2 fun H3 => Q σ H3
theorem Jk {o i : Expr} {to ti : TE} {t : zbf} (ho : PE X o to) (hi : PE X i ti) (hs : zcx X t)
  (ha : ∀ v, assign (.Subscript o i pos) X.env v = (do
   let ov ← holding [v] (eval o X.env)
   let iv ← holding [v, ov] (eval i X.env)
   standAt pos
   holding [v, ov, iv] (setItem ov iv v)
   release [v, ov, iv] []) := by intro _; rfl) : PG X (.Subscript o i pos) (gSub to ti t) := by
 intro pins s σ H v u Q I r h
 rw [ha]
 refine wpAny_bind (wpAny_holding (thn (ho pins s σ H _ I h) fun ov s1 ⟨x, H1, I1, r1, q1⟩ => ?_))
 refine wpAny_bind (wpAny_holding (thn (hi pins s1 σ H1 _ I1 q1) fun iv s2 ⟨y, H2, I2, r2, q2⟩ => ?_))
 refine wpAny_bind (wpAny_standAt (wpAny_bind (wpAny_holding (thn (hs pins s2 σ H2 x y v ov iv u _ I2 r1 r2 r q2) fun _ s3 ⟨H3, I3, q3⟩ => ?_))))
 exact wpAny_release ⟨σ, H3, I3, q3⟩
def tAsg (te : TE) (g : TG) : TS := fun D σ H => te σ H fun x H1 => g x σ H1 D.nx
theorem Jj {tg e : Expr} {te : TE} {g : TG} (he : PE X e te) (hg : PG X tg g) (hs : swapsWithSole [tg] e pos.line X.env = pure false := by rfl) (hw : swappedStores [tg] e X.env = pure none := by rfl)
  (h1 : (assignEach [tg] X.env).map (·.2) = [assign tg X.env] := by rfl) : PS X (.Assign [tg] e pos) (tAsg te g) := by
 intro pins s σ H D I h
 refine wpAny_Assign_stores (thn (he pins s σ H _ I h) fun v s1 ⟨x, H1, I1, r1, q1⟩ => ?_) hs hw
 rw [h1]
 exact thn (hg pins s1 σ H1 x v _ I1 r1 q1) fun _ s2 q => q
theorem wF {i : Nat} {x : Str} {e : Expr} {te : TE} {pos' : Pos} (hN : X.N.Nodup) (hi : X.N[i]? = some x) (hx : Loc X.env.scope x) (he : PE X e te) (hs : swapsWith e (some (.Name x pos')) pos.line X.env = pure false := by rfl) (hf : X.fn x = true ∨ X.env.scope.names.lookup x = some .local := by walk_at "p") :
  PS X (.Assign [.Name x pos'] e pos) (tAsg te (gName i)) := by
 intro pins s σ H D I h
 refine wpAny_Assign_Name (thn (he pins s σ H _ I h) fun v s1 ⟨y, H1, I1, r1, q1⟩ => ?_) hs
 exact Zx I1 hN hi hx r1 (fun s2 I2 => ⟨_, H1, I2, q1⟩) hf
def tAug (i : Nat) (te : TE) (ti : TIp) : TS := fun D σ H => ∃ x, σ[i]? = some (some x) ∧ te σ H fun y H1 => ti x y H1 fun z H2 => D.nx (σ.set i (some z)) H2
theorem zb1 {i : Nat} {x : Str} {e : Expr} {te : TE} {op : Operator} {ti : TIp} {pos' : Pos} (hN : X.N.Nodup) (hi : X.N[i]? = some x) (hx : Loc X.env.scope x) (he : PE X e te) (ho : PIp X op ti) (hf : X.fn x = true ∨ X.env.scope.names.lookup x = some .local := by walk_at "p") :
  PS X (.AugAssign (.Name x pos') op e pos) (tAug i te ti) := by
 intro pins s σ H D I h
 obtain ⟨v, e1, h⟩ := h
 obtain ⟨m, hn, hl⟩ := I.loc
 have vis : Vis X.env.scope x := by rcases hx with k | k; exact .inl k; exact .inr (.inl k)
 obtain ⟨u, r, l⟩ := hl i x v hi e1 vis
 refine wpAny_AugAssign_Name ?_
 have go : wpAny (model X.prog X.w) X.A (eval e X.env) (fun w s₂ => wpAny (model X.prog X.w) X.A (inplaceOp op u w) (fun r s₃ => wpAny (model X.prog X.w) X.A (storeName X.env x r) (fun _ => SP X pins D .next) X.xe s₃) X.xe s₂) X.xe s := by
  refine thn (he pins s σ H _ I h) fun w s1 ⟨y, H1, I1, r1, q1⟩ => ?_
  refine thn (ho pins s1 σ H1 v y u w _ I1 r r1 q1) fun z s2 ⟨zv, H2, I2, r2, q2⟩ => ?_
  exact Zx I2 hN hi hx r2 (fun s3 I3 => ⟨_, H2, I3, q2⟩) hf
 rcases l with ⟨hk, hm⟩ | ⟨hk, c, hc, hcell⟩
 ·exact wpAny_loadName_local I.ok.kind hk hn hm go
 ·rcases hk with hk | hk
  ·exact wpAny_loadName_cell I.ok.kind hk hc hcell go
  ·rcases hx with k | k
   ·have : X.env.scope.names.lookup x = some .free := hk
    rw [k] at this; cases this
   ·have : X.env.scope.names.lookup x = some .free := hk
    rw [k] at this; cases this
def WA (to ti te : TE) (tget : V → V → Hp → VK → Prop) (tip : TIp) (tset : zbf) : TS := fun D σ H => to σ H fun o H1 => ti σ H1 fun i H2 => tget o i H2 fun x H3 => te σ H3 fun y H4 => tip x y H4 fun z H5 => tset o i z H5 fun H6 => D.nx σ H6
def zc1 (X : Cx) (t : V → V → Hp → VK → Prop) : Prop :=
 ∀ (pins : List (Addr × Obj)) (s : Shared) (σ : St) (H : Hp) (o i : V) (ov iv : Value) (Q : VK), Inv X pins σ H s → RelV o ov → RelV i iv → t o i H Q →
  wpAny (model X.prog X.w) X.A (getItem ov iv) (EP X pins σ Q) X.xe s
theorem Ji {o i e : Expr} {to ti te : TE} {tget : V → V → Hp → VK → Prop} {tip : TIp} {tset : zbf} {op : Operator} {tpos : Pos} (ho : PE X o to) (hi : PE X i ti) (hg : zc1 X tget) (he : PE X e te) (hp : PIp X op tip) (hs : zcx X tset)
  (ha : ∀ ov iv new, augStore i ov iv new = (do holding [new, ov, iv] (setItem ov iv new); release [new, ov, iv] []; pure .next) := by intros; rfl) : PS X (.AugAssign (.Subscript o i tpos) op e pos) (WA to ti te tget tip tset) := by
 intro pins s σ H D I h
 refine wpAny_AugAssign_SubscriptAny (thn (ho pins s σ H _ I h) fun ov s1 ⟨x1, H1, I1, r1, q1⟩ => ?_) ha
 refine thn (hi pins s1 σ H1 _ I1 q1) fun iv s2 ⟨x2, H2, I2, r2, q2⟩ => ?_
 refine thn (hg pins s2 σ H2 x1 x2 ov iv _ I2 r1 r2 q2) fun old s3 ⟨x3, H3, I3, r3, q3⟩ => ?_
 refine thn (he pins s3 σ H3 _ I3 q3) fun v s4 ⟨x4, H4, I4, r4, q4⟩ => ?_
 refine thn (hp pins s4 σ H4 x3 x4 old v _ I4 r3 r4 q4) fun new s5 ⟨x5, H5, I5, r5, q5⟩ => ?_
 exact thn (hs pins s5 σ H5 x1 x2 x5 ov iv new _ I5 r1 r2 r5 q5) fun _ s6 ⟨H6, I6, q6⟩ => ⟨σ, H6, I6, q6⟩
def ipI (f : Int → Int → Int) : TIp := fun x y H Q => ∃ i j, x = .int i ∧ y = .int j ∧ Q (.int (f i j)) H
theorem Jw : PIp X .Add (ipI fun i j => i + j) := by
 intro pins s σ H x y v u Q I r1 r2 h
 obtain ⟨i, j, e1, e2, q⟩ := h
 subst e1; subst e2
 obtain ⟨t, rfl⟩ := r1
 obtain ⟨t', rfl⟩ := r2
 exact iadd_int ⟨.int _, H, I.tok _, ⟨_, rfl⟩, q⟩
end
section
variable {X : Cx} {pos : Pos}
def zbV (c : TT) (tb : TS) : TS := fun D σ H => ∃ W : Nat → St → Hp → Prop, (∃ m, W m σ H) ∧ ∀ m σ H, W m σ H →
 c σ H fun b H1 => if b = true then ∃ N : St → Hp → Prop, (∀ σ' H', N σ' H' → ∃ m', m' < m ∧ W m' σ' H') ∧ tb { D with nx := N, ct := N, bk := D.nx } σ H1 else D.nx σ H1
theorem zaw {c : Expr} {body : List Stmt} {tc : TT} {tb : TS} (hp : PassesOwn (model X.prog X.w) X.A X.env X.xe) (hc : PT X c tc) (hb : PSs X body tb) : PS X (.While c body [] pos) (zbV tc tb) := by
 intro pins s σ H D I h
 obtain ⟨W, ⟨m0, w0⟩, turn⟩ := h
 refine wpAny_While (codeAny_whileLoop (fun n s' => ∃ σ' H', Inv X pins σ' H' s' ∧ W n σ' H') ?_ m0 ⟨σ, H, I, w0⟩)
 rintro n s1 ⟨σ1, H1, I1, w1⟩
 refine wpAny_passesOwn hp (thn (hc pins s1 σ1 H1 _ I1 (turn n σ1 H1 w1)) fun b s2 ⟨H2, I2, q2⟩ => ?_)
 cases b with
 | true =>
  obtain ⟨N, hN, q2⟩ := q2
  rw [if_pos rfl]
  refine wpAny_passesOwn hp (thn (hb pins s2 σ1 H2 _ I2 q2) fun f s3 q3 => ?_)
  cases f with
  | next =>
   obtain ⟨σ3, H3, I3, n3⟩ := q3
   obtain ⟨m', hm, w3⟩ := hN σ3 H3 n3
   exact ⟨m', hm, σ3, H3, I3, w3⟩
  | cont =>
   obtain ⟨σ3, H3, I3, n3⟩ := q3
   obtain ⟨m', hm, w3⟩ := hN σ3 H3 n3
   exact ⟨m', hm, σ3, H3, I3, w3⟩
  | brk => exact q3
  | ret v => exact q3
 | false =>
  rw [if_neg Bool.false_ne_true]
  exact wpAny_execs_nil ⟨σ1, H2, I2, q2⟩
end
structure It where
 go : Nat → Hp → Prop
 yld : Nat → Hp → V → Hp → Prop
 stop : Nat → Hp → Prop
def vO (X : Cx) (pins : List (Addr × Obj)) (H : Hp) (b : Addr) : Prop :=
 H b = none ∧ b ≠ X.env.locals ∧ b ∉ X.fs ∧ (b ∈ X.ex ∨ X.s₀.heap.objs.size ≤ b) ∧ (∀ x c, X.env.cells.lookup x = some c → c ≠ b) ∧ ∀ p ∈ X.pn ++ pins, p.1 ≠ b
theorem Inv.fpOk {X : Cx} {pins : List (Addr × Obj)} {σ : St} {H H' : Hp} {s : Shared} {b : Addr} (I : Inv X pins σ H s) (hb : s.heap.objs.size ≤ b) (hn : H' b = none) : vO X pins H' b := by
 refine ⟨hn, Nat.ne_of_gt (Nat.lt_of_lt_of_le I.lt hb), I.nofs hb, .inr (Nat.le_trans I.sz hb), fun x c e z => ?_, fun p hp z => ?_⟩
 ·obtain ⟨v, q⟩ := I.cell x c e
  exact absurd (Nat.lt_of_lt_of_le q.lt (by rw [z]; exact hb)) (Nat.lt_irrefl _)
 ·exact absurd (Nat.lt_of_lt_of_le (Heap.lt_size (I.pin p hp).1) (by rw [z]; exact hb)) (Nat.lt_irrefl _)
structure Turn (P : Program) (w : World) (K : PySem.W.Frag) (tg : Expr) (J : It) (fp : List Addr) (it : Addr) (tn : Nat → Heap → Prop) : Prop where
 mem : it ∈ fp
 obj : ∀ i h, tn i h → ∀ b ∈ fp, ∃ o, h.get? b = some o ∧ ∀ v, o.data ≠ .cell v
 keep : ∀ i h h', tn i h → (∀ b ∈ fp, ∀ o, h.get? b = some o → h'.get? b = some o) → tn i h'
 item : ∀ (X : Cx), X.prog = P → X.w = w → X.K = K → X.calm = true → ∀ (i : Nat) (pins : List (Addr × Obj)) (s : Shared) (σ : St) (H : Hp) (E : Value → Shared → Prop), Inv X pins σ H s → (∀ b ∈ fp, vO X pins H b) → tn i s.heap → J.go i H →
  wpAny (model P w) X.A (pyNext (.ref it)) (fun r s1 => ∃ u, r = some u ∧
   wpAny (model P w) X.A (letOwnedTupleGo tg (.ref it) u) (fun _ s2 => ∃ x H', Inv X pins σ H' s2 ∧ RelV x u ∧ J.yld i H x H' ∧ tn (i + 1) s2.heap ∧ ∀ b ∈ fp, H' b = none) E s1) E s
 done : ∀ (X : Cx), X.prog = P → X.w = w → X.K = K → X.calm = true → ∀ (i : Nat) (pins : List (Addr × Obj)) (s : Shared) (σ : St) (H : Hp) (E : Value → Shared → Prop), Inv X pins σ H s → (∀ b ∈ fp, vO X pins H b) → tn i s.heap → J.stop i H →
  wpAny (model P w) X.A (pyNext (.ref it)) (fun r s1 => r = none ∧ Inv X pins σ H s1) E s
 self : ∀ (A : Around) (i : Nat) (s : Shared) (Q : Value → Shared → Prop) (E : Value → Shared → Prop), tn i s.heap → Q (.ref it) s → wpAny (model P w) A (pyIter (.ref it)) Q E s
abbrev TI := St → Hp → (It → Hp → Prop) → Prop
def PIE (X : Cx) (pins : List (Addr × Obj)) (σ : St) (tg : Expr) (R : It → Hp → Prop) (itv : Value) (s2 : Shared) : Prop :=
 ∃ (it : Addr) (fp : List Addr) (tn : Nat → Heap → Prop) (J : It) (H' : Hp), itv = .ref it ∧ Inv X pins σ H' s2 ∧ Turn X.prog X.w X.K tg J fp it tn ∧ tn 0 s2.heap ∧ (∀ b ∈ fp, vO X pins H' b) ∧ R J H'
def PI (X : Cx) (tg iter : Expr) (wi : TI) : Prop :=
 ∀ (pins : List (Addr × Obj)) (s : Shared) (σ : St) (H : Hp) (R : It → Hp → Prop), Inv X pins σ H s → wi σ H R →
  wpAny (model X.prog X.w) X.A (eval iter X.env) (fun v s1 => wpAny (model X.prog X.w) X.A (pyIter v) (PIE X pins σ tg R) X.xe s1) X.xe s
theorem zaY {M : Model} {A : Around} {E : Value → Shared → Prop} {s : Shared} {tg : Expr} {it : Addr} {u : Value} {o : Obj} {n : String} {vs : Array Value} {Q : Unit → Shared → Prop} (ho : s.heap.get? it = some o) (hc : o.cls = .type n) (hd : o.data = .fields vs)
  (hn : ["enumerate", "zip", "dict_itemiterator", "dict_reverseitemiterator", "odict_iterator", "itertools.zip_longest", "itertools.pairwise"].contains n = false) (hQ : Q () s) : wpAny M A (letOwnedTupleGo tg (.ref it) u) Q E s := by
 unfold letOwnedTupleGo
 cases tg <;> first
  | exact wpAny_pure hQ
  | (cases u <;> first
    | exact wpAny_pure hQ
    | (refine wpAny_bind (wpAny_load ho ?_)
       rw [hc, hd]
       show wpAny M A (if (["enumerate", "zip", "dict_itemiterator", "dict_reverseitemiterator", "odict_iterator", "itertools.zip_longest", "itertools.pairwise"].contains n && vs[0]? == some (rawInt _)) = true then _ else _) Q E s
       rw [if_neg (by intro h; rw [hn, Bool.false_and] at h; cases h)]
       exact wpAny_pure hQ))
def Itl (K : PySem.W.Frag) (a : Addr) : It :=
 ⟨fun i H => ∃ xs x, SqL K H a xs ∧ xs[i]? = some x, fun i H x H' => H' = H ∧ ∀ xs, SqL K H a xs → xs[i]? = some x, fun i H => ∃ xs, SqL K H a xs ∧ xs.length ≤ i⟩
def Itt (K : PySem.W.Frag) (a : Addr) : It :=
 ⟨fun i H => ∃ xs x, SqT K H a xs ∧ xs[i]? = some x, fun i H x H' => H' = H ∧ ∀ xs, SqT K H a xs → xs[i]? = some x, fun i H => ∃ xs, SqT K H a xs ∧ xs.length ≤ i⟩
def Itr (lo : Int) (n : Nat) : It := ⟨fun i _ => i < n, fun i H x H' => H' = H ∧ x = .int (lo + i), fun i _ => n ≤ i⟩
theorem Ve {P : Program} {w : World} {K : PySem.W.Frag} {tg : Expr} (a it : Addr) : Turn P w K tg (Itl K a) [it] it (fun i h => h.IsListIter it a i) where
 mem := by simp
 obj := fun i h st b hb => by
  have e : b = it := by simpa using hb
  subst e
  obtain ⟨o, e, c, d⟩ := st
  exact ⟨o, e, fun v z => by rw [d] at z; cases z⟩
 keep := fun i h h' st k => st.at fun o e => k it (by simp) o e
 item := by
  intro X hP hw hK hc i pins s σ H E I hf st hg
  subst hP hw hK
  obtain ⟨xs, x, hq, hx⟩ := hg
  obtain ⟨its, rv, p, hz⟩ := I.list hq
  obtain ⟨u, hu, ru⟩ := rv.get hx
  obtain ⟨f0, f1, f2, f3, f4, f5⟩ := hf it (by simp)
  refine wpAny_pyNext_list_item st p.isList (x := u) (by simpa using hu) fun h' st' sb => ?_
  have I1 : Inv X pins σ H { s with heap := h' } := I.turned (t' := s.toks) (fun b o hb e => (sb.2 b hb).trans e) f0 f1 f3 f4 f5
  obtain ⟨o, e, c, d⟩ := id st'
  exact ⟨u, rfl, zaY (s := { s with heap := h' }) e c d (by decide) ⟨x, H, I1, ru, ⟨rfl, fun ys hy => by rw [I.list_inj hy hq]; exact hx⟩, st', fun b hb => (hf b hb).1⟩⟩
 done := by
  intro X hP hw hK hc i pins s σ H E I hf st hg
  subst hP hw hK
  obtain ⟨xs, hq, hx⟩ := hg
  obtain ⟨its, rv, p, hz⟩ := I.list hq
  obtain ⟨f0, f1, f2, f3, f4, f5⟩ := hf it (by simp)
  have hl := rv.length
  exact wpAny_pyNext_list_end (I.ok.hd hc) st p.isList (by simp; omega) fun h' eb => ⟨rfl, I.turned (t' := s.toks) (fun b o hb e => eb b o hb e) f0 f1 f3 f4 f5⟩
 self := fun _ _ _ _ _ st h => wpAny_pyIter_listiter st h
theorem XM {P : Program} {w : World} {K : PySem.W.Frag} {tg : Expr} (a it : Addr) : Turn P w K tg (Itt K a) [it] it (fun i h => h.IsTupleIter it a i) where
 mem := by simp
 obj := fun i h st b hb => by
  have e : b = it := by simpa using hb
  subst e
  obtain ⟨o, e, c, d⟩ := st
  exact ⟨o, e, fun v z => by rw [d] at z; cases z⟩
 keep := fun i h h' st k => st.at fun o e => k it (by simp) o e
 item := by
  intro X hP hw hK hc i pins s σ H E I hf st hg
  subst hP hw hK
  obtain ⟨xs, x, hq, hx⟩ := hg
  obtain ⟨its, rv, p, hz⟩ := I.tuple hq
  obtain ⟨u, hu, ru⟩ := rv.get hx
  obtain ⟨f0, f1, f2, f3, f4, f5⟩ := hf it (by simp)
  refine wpAny_pyNext_tuple_item st (show s.heap.IsTuple a its.toArray from p) (x := u) (by simpa using hu) fun h' st' sb => ?_
  have I1 : Inv X pins σ H { s with heap := h' } := I.turned (t' := s.toks) (fun b o hb e => (sb.2 b hb).trans e) f0 f1 f3 f4 f5
  obtain ⟨o, e, c, d⟩ := id st'
  exact ⟨u, rfl, zaY (s := { s with heap := h' }) e c d (by decide) ⟨x, H, I1, ru, ⟨rfl, fun ys hy => by rw [I.tuple_inj hy hq]; exact hx⟩, st', fun b hb => (hf b hb).1⟩⟩
 done := by
  intro X hP hw hK hc i pins s σ H E I hf st hg
  subst hP hw hK
  obtain ⟨xs, hq, hx⟩ := hg
  obtain ⟨its, rv, p, hz⟩ := I.tuple hq
  obtain ⟨f0, f1, f2, f3, f4, f5⟩ := hf it (by simp)
  have hl := rv.length
  exact wpAny_pyNext_tuple_end (I.ok.hd hc) st (show s.heap.IsTuple a its.toArray from p) (by simp; omega) fun h' eb => ⟨rfl, I.turned (t' := s.toks) (fun b o hb e => eb b o hb e) f0 f1 f3 f4 f5⟩
 self := fun _ _ _ _ _ st h => wpAny_pyIter_tupleiter st h
theorem XN {P : Program} {w : World} {K : PySem.W.Frag} {tg : Expr} (it : Addr) (lo : Int) (n : Nat) : Turn P w K tg (Itr lo n) [it] it (fun i h => IsRangeIter h it (lo + (i : Nat) * 1) ((n : Int) - (i : Nat)) 1) where
 mem := by simp
 obj := fun i h st b hb => by
  have e : b = it := by simpa using hb
  subst e
  exact ⟨_, st, fun v z => by
   have z' : Data.fields _ = Data.cell v := z
   cases z'⟩
 keep := fun i h h' st k => k it (by simp) _ st
 item := by
  intro X hP hw hK hc i pins s σ H E I hf st hg
  subst hP hw hK
  obtain ⟨f0, f1, f2, f3, f4, f5⟩ := hf it (by simp)
  have W := Walks.range (prog := X.prog) (w := X.w) (I.ok.hd hc) it lo 1 n
  refine W.item i s _ _ hg st fun v h' tk hv st' kk => ?_
  obtain ⟨t, rfl⟩ := hv
  have I1 : Inv X pins σ H { s with heap := h', toks := tk } := I.turned (fun b o hb e => kk b o (by simpa using hb) e) f0 f1 f3 f4 f5
  refine ⟨_, rfl, zaY (s := { s with heap := h', toks := tk }) (n := "range_iterator") st' rfl rfl (by decide) ⟨.int (lo + i), H, I1, ⟨t, ?_⟩, ⟨rfl, rfl⟩, st', fun b hb => (hf b hb).1⟩⟩
  rw [Int.mul_one]
 done := by
  intro X hP hw hK hc i pins s σ H E I hf st hg
  subst hP hw hK
  obtain ⟨f0, f1, f2, f3, f4, f5⟩ := hf it (by simp)
  exact wpAny_pyNext_range_end (I.ok.hd hc) st (by have : n ≤ i := hg; omega) fun h' eb => ⟨rfl, I.turned (t' := s.toks) (fun b o hb e => eb b o hb e) f0 f1 f3 f4 f5⟩
 self := fun _ _ _ _ _ st h => wpAny_pyIter_rangeiter st h
end L2
namespace L2
open PySem PySem.Spec PyProof.Rows
section
variable {X : Cx} {tg : Expr}
theorem zau {pins : List (Addr × Obj)} {σ : St} {H : Hp} {s : Shared} {R : It → Hp → Prop} {E : Value → Shared → Prop} {lo hi : Int} {t u v : Tok} {tk : Nat} (I : Inv X pins σ H s) (h1 : -(2 ^ 62) ≤ lo) (h2 : lo < 2 ^ 62) (h3 : -(2 ^ 62) ≤ hi) (h4 : hi < 2 ^ 62)
  (q : R (Itr lo (hi - lo).toNat) H) : wpAny (model X.prog X.w) X.A (pyIter (.ref s.heap.objs.size)) (PIE X pins σ tg R) E { s with heap := s.heap.push { cls := .type "range", data := .fields #[.int lo t, .int hi u, .int 1 v] }, toks := tk } := by
 refine wpAny_pyIter_range (IsRange.new ..) (small_one h1 h2 h3 h4) ?_
 have I1 : Inv X pins σ H { s with heap := s.heap.push { cls := .type "range", data := .fields #[.int lo t, .int hi u, .int 1 v] }, toks := tk } := I.kept fun b o e => Heap.get?_push_of_some _ e
 refine ⟨(s.heap.push { cls := .type "range", data := .fields #[.int lo t, .int hi u, .int 1 v] }).objs.size, [(s.heap.push { cls := .type "range", data := .fields #[.int lo t, .int hi u, .int 1 v] }).objs.size], _, _, H, rfl,
  I1.kept (t' := tk) fun b o e => Heap.get?_push_of_some _ e, XN _ lo (hi - lo).toNat, ?_, fun b hb => ?_, q⟩
 ·have e1 : lo + ((0 : Nat) : Int) * 1 = lo := by simp
  have e2 : (((hi - lo).toNat : Nat) : Int) - ((0 : Nat) : Int) = Builtin.Range.rangeSize lo hi 1 := by rw [rangeSize_one]; split <;> omega
  show IsRangeIter _ _ (lo + ((0 : Nat) : Int) * 1) ((((hi - lo).toNat : Nat) : Int) - ((0 : Nat) : Int)) 1
  rw [e1, e2]
  exact Heap.get?_push_size _ rfl
 ·have e : b = (s.heap.push { cls := .type "range", data := .fields #[.int lo t, .int hi u, .int 1 v] }).objs.size := by simpa using hb
  subst e
  exact I1.fpOk (Nat.le_refl _) (I1.hok.fresh (Nat.le_refl _))
def iRng1 (ta : TA) : TI := fun σ H R => ta σ H fun vs H1 => ∃ j : Int, vs = [.int j] ∧ -(2 ^ 62) ≤ j ∧ j < 2 ^ 62 ∧ R (Itr 0 j.toNat) H1
def iRng2 (ta : TA) : TI := fun σ H R => ta σ H fun vs H1 => ∃ i j : Int, vs = [.int i, .int j] ∧ (-(2 ^ 62) ≤ i ∧ i < 2 ^ 62 ∧ -(2 ^ 62) ≤ j ∧ j < 2 ^ 62) ∧ R (Itr i (j - i).toNat) H1
theorem Vw {a : Expr} {ta : TA} {p pos : Pos} (hg : Gl X "range") (hm : X.mg "range" = none) (ha : PA X [a] ta) (hs : starEach [a] X.env = [(false, eval a X.env)] := by rfl) : PI X tg (.Call (.Name "range" p) [a] [] pos) (iRng1 ta) := by
 intro pins s σ H R I h
 refine Call_ (xV I hg hm boot_range (PyProof.Rows.callWith_type1 (thn (ha pos pins s σ H _ I h) fun us s1 ⟨vs, H1, I1, r1, q1⟩ => ?_) hs rfl))
 obtain ⟨j, e, q1, q2, q⟩ := q1
 subst e
 cases r1 with
 | cons r rr =>
  cases rr
  obtain ⟨t, rfl⟩ := r
  exact call_range_1 (zau I1 (by omega) (by omega) q1 q2 (by simpa using q))
def tFor (wi : TI) (g : TG) (tb : TS) : TS := fun D σ H => wi σ H fun J H1 => ∃ W : Nat → Nat → St → Hp → Prop, (∃ m, W 0 m σ H1) ∧ ∀ i m σ H, W i m σ H →
 (J.stop i H ∧ D.nx σ H) ∨ (J.go i H ∧ ∃ N : St → Hp → Prop, (∀ σ' H', N σ' H' → ∃ m', m' < m ∧ W (i + 1) m' σ' H') ∧ ∀ x H', J.yld i H x H' → g x σ H' fun σ2 H2 => tb { D with nx := N, ct := N, bk := D.nx } σ2 H2)
def ZK (fp : List Addr) (h : Heap) : List (Addr × Obj) := fp.filterMap fun b => (h.get? b).map fun o => (b, o)
theorem xB {fp : List Addr} {h : Heap} {b : Addr} {o : Obj} (hb : b ∈ fp) (e : h.get? b = some o) : (b, o) ∈ ZK fp h := List.mem_filterMap.mpr ⟨b, hb, by rw [e]; rfl⟩
theorem VI {fp : List Addr} {h : Heap} {p : Addr × Obj} (hp : p ∈ ZK fp h) : p.1 ∈ fp ∧ h.get? p.1 = some p.2 := by
 obtain ⟨b, hb, e⟩ := List.mem_filterMap.mp hp
 cases q : h.get? b with
 | none => rw [q] at e; cases e
 | some o =>
  rw [q] at e
  have e' : (b, o) = p := Option.some.inj e
  subst e'
  exact ⟨hb, q⟩
theorem Inv.pinned {pins : List (Addr × Obj)} {σ : St} {H : Hp} {s : Shared} {fp : List Addr} (I : Inv X pins σ H s) (hf : ∀ b ∈ fp, vO X pins H b) (ho : ∀ b ∈ fp, ∃ o, s.heap.get? b = some o ∧ ∀ v, o.data ≠ .cell v) : Inv X (pins ++ ZK fp s.heap) σ H s :=
 I.pins_of fun p hp => (List.mem_append.mp hp).elim (fun z => I.pin p (List.mem_append_right _ z)) fun z => by
  obtain ⟨hb, e⟩ := VI z
  obtain ⟨f0, f1, f2, _⟩ := hf p.1 hb
  obtain ⟨o, e', d⟩ := ho p.1 hb
  rw [e] at e'; cases e'
  exact ⟨e, f0, f1, f2, d⟩
theorem Inv.unpinned {pins pl : List (Addr × Obj)} {σ : St} {H : Hp} {s : Shared} (I : Inv X (pins ++ pl) σ H s) : Inv X pins σ H s := I.pins_of fun p hp => I.pin p (List.mem_append_right _ (List.mem_append_left _ hp))
theorem qc {iter : Expr} {body : List Stmt} {wi : TI} {g : TG} {tb : TS} {pos : Pos} (hp : PassesOwn (model X.prog X.w) X.A X.env X.xe) (hc : X.calm = true) (hi : PI X tg iter wi) (hg : PG X tg g) (hb : PSs X body tb)
  (hs : ∀ x, foldedSetIterable iter X.env x = pure x := by intro _; rfl) : PS X (.For tg iter body [] pos) (tFor wi g tb) := by
 intro pins s σ H D I h
 refine wpAny_For (thn (hi pins s σ H _ I h) fun v s1 h1 => thn h1 fun itv s2 h2 => ?_) hs
 obtain ⟨it, fp, tn, J, H2, e, I2, T, st2, f2, W, ⟨m0, w0⟩, turn⟩ := h2
 subst e
 have stat : ∀ {H' : Hp}, (∀ b ∈ fp, H' b = none) → ∀ b ∈ fp, vO X pins H' b := fun hn b hb => ⟨hn b hb, (f2 b hb).2⟩
 refine codeAny_forLoop_any (fun n s' => ∃ i σ' H', Inv X pins σ' H' s' ∧ tn i s'.heap ∧ (∀ b ∈ fp, H' b = none) ∧ W i n σ' H') ?_ m0 ⟨0, σ, H2, I2, st2, fun b hb => (f2 b hb).1, w0⟩
 rintro n s3 ⟨i, σ3, H3, I3, st3, fr3, w3⟩
 rcases turn i n σ3 H3 w3 with ⟨stop, qn⟩ | ⟨go, N, hN, step⟩
 ·refine wpAny_passesOwn hp (thn (T.done X rfl rfl rfl hc i pins s3 σ3 H3 X.xe I3 (stat fr3) st3 stop) fun r s4 ⟨hr, I4⟩ => ?_)
  subst hr
  exact wpAny_execs_nil ⟨σ3, H3, I4, qn⟩
 ·refine wpAny_passesOwn hp (thn (T.item X rfl rfl rfl hc i pins s3 σ3 H3 X.xe I3 (stat fr3) st3 go) fun r s4 ⟨u, hr, h4⟩ => ?_)
  subst hr
  refine wpAny_passesOwn hp (thn h4 fun _ s5 ⟨x, H5, I5, r5, y5, st5, fr5⟩ => ?_)
  have I5' := I5.pinned (stat fr5) (T.obj _ _ st5)
  refine wpAny_passesOwn hp (thn (hg _ s5 σ3 H5 x u _ I5' r5 (step x H5 y5)) fun _ s6 ⟨σ6, H6, I6, q6⟩ => ?_)
  refine wpAny_passesOwn hp (thn (hb _ s6 σ6 H6 _ I6 q6) fun f s7 q7 => ?_)
  have again : ∀ {σ7 : St} {H7 : Hp}, Inv X (pins ++ ZK fp s5.heap) σ7 H7 s7 → N σ7 H7 → ∃ m, m < n ∧ ∃ i σ' H', Inv X pins σ' H' s7 ∧ tn i s7.heap ∧ (∀ b ∈ fp, H' b = none) ∧ W i m σ' H' := fun {σ7 H7} I7 n7 => by
   obtain ⟨m', hm, w7⟩ := hN σ7 H7 n7
   refine ⟨m', hm, i + 1, σ7, H7, I7.unpinned, T.keep _ _ _ st5 fun b hb o e => (I7.pin (b, o) (List.mem_append_right _ (List.mem_append_right _ (xB hb e)))).1, fun b hb => ?_, w7⟩
   obtain ⟨o, e, d⟩ := T.obj _ _ st5 b hb
   exact (I7.pin (b, o) (List.mem_append_right _ (List.mem_append_right _ (xB hb e)))).2.1
  cases f with
  | next => obtain ⟨σ7, H7, I7, n7⟩ := q7; exact again I7 n7
  | cont => obtain ⟨σ7, H7, I7, n7⟩ := q7; exact again I7 n7
  | brk => obtain ⟨σ7, H7, I7, q7⟩ := q7; exact ⟨σ7, H7, I7.unpinned, q7⟩
  | ret v => obtain ⟨x7, σ7, H7, I7, r7, q7⟩ := q7; exact ⟨x7, σ7, H7, I7.unpinned, r7, q7⟩
end
end L2
namespace L2
open PySem PySem.Spec PyProof.Rows
abbrev R2 := V → V → Hp → VK → Prop
def OpR (X : Cx) (f : Value → Value → Sem Value) (r : R2) : Prop :=
 ∀ (pins : List (Addr × Obj)) (s : Shared) (σ : St) (H : Hp) (x y : V) (v u : Value) (Q : VK), Inv X pins σ H s → RelV x v → RelV y u → r x y H Q →
  wpAny (model X.prog X.w) X.A (f v u) (EP X pins σ Q) X.xe s
def UnR (X : Cx) (f : Value → Sem Value) (r : V → Hp → VK → Prop) : Prop :=
 ∀ (pins : List (Addr × Obj)) (s : Shared) (σ : St) (H : Hp) (x : V) (v : Value) (Q : VK), Inv X pins σ H s → RelV x v → r x H Q →
  wpAny (model X.prog X.w) X.A (f v) (EP X pins σ Q) X.xe s
def CallR (X : Cx) (f : Value) (r : List V → Hp → VK → Prop) : Prop :=
 ∀ (pins : List (Addr × Obj)) (s : Shared) (σ : St) (H : Hp) (xs : List V) (us : List Value) (Q : VK), Inv X pins σ H s → Vals xs us → r xs H Q →
  wpAny (model X.prog X.w) X.A (call f us) (EP X pins σ Q) X.xe s
def zdf (X : Cx) (r : V → Hp → (Bool → Hp → Prop) → Prop) : Prop :=
 ∀ (pins : List (Addr × Obj)) (s : Shared) (σ : St) (H : Hp) (x : V) (v : Value) (Q : Bool → Hp → Prop), Inv X pins σ H s → RelV x v → r x H Q →
  wpAny (model X.prog X.w) X.A (truthy v) (TP X pins σ Q) X.xe s
def tOp (r : R2) (ta tb : TE) : TE := fun σ H Q => ta σ H fun x H1 => tb σ H1 fun y H2 => r x y H2 Q
def tUn (r : V → Hp → VK → Prop) (ta : TE) : TE := fun σ H Q => ta σ H fun x H1 => r x H1 Q
def rI (C : Int → Int → Prop) (g : Int → Int → V) : R2 := fun x y H Q => ∃ i j, x = .int i ∧ y = .int j ∧ C i j ∧ Q (g i j) H
def rI0 (g : Int → Int → V) : R2 := fun x y H Q => ∃ i j, x = .int i ∧ y = .int j ∧ Q (g i j) H
def rU (g : Int → V) : V → Hp → VK → Prop := fun x H Q => ∃ i, x = .int i ∧ Q (g i) H
section
variable {X : Cx} {a b c : Expr} {ta tb tc : TE} {pos : Pos}
theorem zct (ha : PE X a ta) (hb : PE X b tb) {pins : List (Addr × Obj)} {s : Shared} {σ : St} {H : Hp} {R : V → V → Hp → Prop} (I : Inv X pins σ H s)
  (h : ta σ H fun x H1 => tb σ H1 fun y H2 => R x y H2) {Q : Value → Shared → Prop} {f : Value → Value → Sem Value}
  (hf : ∀ v u s2 x y H2, Inv X pins σ H2 s2 → RelV x v → RelV y u → R x y H2 → wpAny (model X.prog X.w) X.A (f v u) Q X.xe s2) :
  wpAny (model X.prog X.w) X.A (eval a X.env) (fun v s₁ => wpAny (model X.prog X.w) X.A (eval b X.env) (fun u s₂ => wpAny (model X.prog X.w) X.A (f v u) Q X.xe s₂) X.xe s₁) X.xe s := by
 refine thn (ha pins s σ H _ I h) fun v s1 ⟨x, H1, I1, r1, q1⟩ => ?_
 refine thn (hb pins s1 σ H1 _ I1 q1) fun u s2 ⟨y, H2, I2, r2, q2⟩ => ?_
 exact hf v u s2 x y H2 I2 r1 r2 q2
theorem zi {op : Operator} {r : R2} (ho : OpR X (binaryOp op) r) (ha : PE X a ta) (hb : PE X b tb) : PE X (.BinOp a op b pos) (tOp r ta tb) := by
 intro pins s σ H Q I h
 exact wpAny_BinOp (zct ha hb I h fun v u s2 x y H2 I2 rx ry q => ho pins s2 σ H2 x y v u Q I2 rx ry q)
theorem J3 {op : UnaryOp} {r : V → Hp → VK → Prop} (ho : UnR X (unaryOp op) r) (ha : PE X a ta) : PE X (.UnaryOp op a pos) (tUn r ta) := by
 intro pins s σ H Q I h
 exact UnaryOp_ (thn (ha pins s σ H _ I h) fun v s1 ⟨x, H1, I1, r1, q1⟩ => ho pins s1 σ H1 x v Q I1 r1 q1)
theorem opI {f : Value → Value → Sem Value} {C : Int → Int → Prop} {g : Int → Int → Int}
  (rule : ∀ (i j : Int) (t u : Tok) (s : Shared) (Q : Value → Shared → Prop) (E : Value → Shared → Prop), C i j → Q (.int (g i j) s.toks) { s with toks := s.toks + 1 } → wpAny (model X.prog X.w) X.A (f (.int i t) (.int j u)) Q E s) :
  OpR X f (rI C fun i j => .int (g i j)) := by
 intro pins s σ H x y v u Q I rx ry h
 obtain ⟨i, j, rfl, rfl, hc, q⟩ := h
 obtain ⟨t, rfl⟩ := rx
 obtain ⟨t', rfl⟩ := ry
 exact rule i j t t' s _ _ hc ⟨.int (g i j), H, I.tok _, ⟨_, rfl⟩, q⟩
theorem zcR {f : Value → Value → Sem Value} {g : Int → Int → Int}
  (rule : ∀ (i j : Int) (t u : Tok) (s : Shared) (Q : Value → Shared → Prop) (E : Value → Shared → Prop), Q (.int (g i j) s.toks) { s with toks := s.toks + 1 } → wpAny (model X.prog X.w) X.A (f (.int i t) (.int j u)) Q E s) :
  OpR X f (rI0 fun i j => .int (g i j)) := by
 intro pins s σ H x y v u Q I rx ry h
 obtain ⟨i, j, rfl, rfl, q⟩ := h
 obtain ⟨t, rfl⟩ := rx
 obtain ⟨t', rfl⟩ := ry
 exact rule i j t t' s _ _ ⟨.int (g i j), H, I.tok _, ⟨_, rfl⟩, q⟩
theorem zb6 {f : Value → Value → Sem Value} {g : Int → Int → Bool}
  (rule : ∀ (i j : Int) (t u : Tok) (s : Shared) (Q : Value → Shared → Prop) (E : Value → Shared → Prop), Q (.bool (g i j)) s → wpAny (model X.prog X.w) X.A (f (.int i t) (.int j u)) Q E s) :
  OpR X f (rI0 fun i j => .bl (g i j)) := by
 intro pins s σ H x y v u Q I rx ry h
 obtain ⟨i, j, rfl, rfl, q⟩ := h
 obtain ⟨t, rfl⟩ := rx
 obtain ⟨t', rfl⟩ := ry
 exact rule i j t t' s _ _ ⟨.bl (g i j), H, I, rfl, q⟩
def zc3 (i j : Int) : Prop := 0 ≤ j ∧ j ≤ 1000000 ∧ i.natAbs < 2 ^ 64
def CMul (i j : Int) : Prop := (-(2 ^ 64) < i ∧ i < 2 ^ 64) ∨ (-(2 ^ 64) < j ∧ j < 2 ^ 64)
theorem CMul.ok {i j : Int} (h : CMul i j) : IntMulOk i j := by
 rcases h with ⟨h1, h2⟩ | ⟨h1, h2⟩
 ·exact .of_left (intBits_le_64 h1 h2)
 ·exact .of_right (intBits_le_64 h1 h2)
theorem op_add : OpR X (binaryOp .Add) (rI0 fun i j => .int (i + j)) := zcR fun _ _ _ _ _ _ _ q => add_int q
theorem zb5 : OpR X (binaryOp .Sub) (rI0 fun i j => .int (i - j)) := zcR fun _ _ _ _ _ _ _ q => sub_int q
theorem zr : OpR X (binaryOp .Mod) (rI (fun _ j => 0 < j) fun i j => .int (i % j)) := opI fun i j _ _ _ _ _ hc q => by
 have h1 : (0 : Int) < j := hc
 exact mod_int' (by omega) (by rw [Int.fmod_eq_emod_of_nonneg i (by omega)]; exact q)
theorem wH : OpR X (binaryOp .Pow) (rI zc3 fun i j => .int (i ^ j.toNat)) := opI fun _ _ _ _ _ _ _ hc q => pow_int_small hc.1 hc.2.1 hc.2.2 q
theorem unI {f : Value → Sem Value} {g : Int → Int}
  (rule : ∀ (i : Int) (t : Tok) (s : Shared) (Q : Value → Shared → Prop) (E : Value → Shared → Prop), Q (.int (g i) s.toks) { s with toks := s.toks + 1 } → wpAny (model X.prog X.w) X.A (f (.int i t)) Q E s) :
  UnR X f (rU fun i => .int (g i)) := by
 intro pins s σ H x v Q I rx h
 obtain ⟨i, rfl, q⟩ := h
 obtain ⟨t, rfl⟩ := rx
 exact rule i t s _ _ ⟨.int (g i), H, I.tok _, ⟨_, rfl⟩, q⟩
theorem Zu : UnR X (unaryOp .USub) (rU fun i => .int (-i)) := unI fun _ _ _ _ _ q => neg_int q
end
def zcI : V → V → Bool
 | .non, .non => true | .non, .int _ => true | .int _, .non => true | .non, .bl _ => true | .bl _, .non => true | .non, .str _ => true | .str _, .non => true
 | .int _, .int _ => true | .bl _, .bl _ => true | .str _, .str _ => true | .byt _, .byt _ => true
 | .int _, .str _ => true | .str _, .int _ => true | .bl _, .str _ => true | .str _, .bl _ => true
 | _, _ => false
def rEq : R2 := fun x y H Q => zcI x y = true ∧ Q (.bl (decide (x = y))) H
def rNe : R2 := fun x y H Q => zcI x y = true ∧ Q (.bl (!decide (x = y))) H
theorem WU {i j : Int} : decide (V.int i = V.int j) = (i == j) := by
 rw [Bool.eq_iff_iff]
 simp
theorem za3 {i j : Bool} : decide (V.bl i = V.bl j) = (i == j) := by
 rw [Bool.eq_iff_iff]
 simp
theorem WS {i j : Str} : decide (V.str i = V.str j) = (i == j) := by
 rw [Bool.eq_iff_iff]
 simp
theorem WV {i j : Array UInt8} : decide (V.byt i = V.byt j) = (i.toList == j.toList) := by
 rw [Bool.eq_iff_iff]
 cases i
 cases j
 simp
section
variable {X : Cx} {a b c : Expr} {ta tb tc : TE} {pos : Pos}
theorem zS {pins : List (Addr × Obj)} {σ : St} {H : Hp} {s : Shared} {Q : VK} {k k' : Bool} (I : Inv X pins σ H s) (q : Q (.bl k) H) (e : k = k') : EP X pins σ Q (.bool k') s := by
 subst e
 exact ⟨.bl k, H, I, rfl, q⟩
theorem op_eq : OpR X (compareOp .Eq) rEq := by
 intro pins s σ H x y v u Q I rx ry h
 obtain ⟨hs, q⟩ := h
 cases x with
 | non =>
  cases rx
  cases y with
  | non => cases ry; exact PySem.EqNone.eq_none_none (zS I q (by simp))
  | bl j => cases ry; exact PySem.EqNone.eq_none_bool (zS I q (by simp))
  | int j => obtain ⟨t', rfl⟩ := ry; exact PySem.EqNone.eq_none_int (zS I q (by simp))
  | str j => obtain ⟨t', rfl⟩ := ry; exact PySem.EqNone.eq_none_str (zS I q (by simp))
  | _ => exact absurd (show false = true from hs) Bool.false_ne_true
 | bl i =>
  cases rx
  cases y with
  | non => cases ry; exact PySem.EqNone.eq_bool_none (zS I q (by simp))
  | bl j => cases ry; exact eq_bool (zS I q za3)
  | str j => obtain ⟨t', rfl⟩ := ry; exact PySem.EqMixed.eq_bool_str (zS I q (by simp))
  | _ => exact absurd (show false = true from hs) Bool.false_ne_true
 | int i =>
  obtain ⟨t, rfl⟩ := rx
  cases y with
  | non => cases ry; exact PySem.EqNone.eq_int_none (zS I q (by simp))
  | int j => obtain ⟨t', rfl⟩ := ry; exact eq_int (zS I q WU)
  | str j => obtain ⟨t', rfl⟩ := ry; exact PySem.EqMixed.eq_int_str (zS I q (by simp))
  | _ => exact absurd (show false = true from hs) Bool.false_ne_true
 | str i =>
  obtain ⟨t, rfl⟩ := rx
  cases y with
  | non => cases ry; exact PySem.EqNone.eq_str_none (zS I q (by simp))
  | bl j => cases ry; exact PySem.EqMixed.eq_str_bool (zS I q (by simp))
  | int j => obtain ⟨t', rfl⟩ := ry; exact PySem.EqMixed.eq_str_int (zS I q (by simp))
  | str j => obtain ⟨t', rfl⟩ := ry; exact eq_str (zS I q WS)
  | _ => exact absurd (show false = true from hs) Bool.false_ne_true
 | byt i =>
  obtain ⟨t, rfl⟩ := rx
  cases y with
  | byt j => obtain ⟨t', rfl⟩ := ry; exact PySem.W.eq_bytes (zS I q WV)
  | _ => exact absurd (show false = true from hs) Bool.false_ne_true
 | _ => cases y <;> exact absurd (show false = true from hs) Bool.false_ne_true
theorem op_ne : OpR X (compareOp .NotEq) rNe := by
 intro pins s σ H x y v u Q I rx ry h
 obtain ⟨hs, q⟩ := h
 cases x with
 | non =>
  cases rx
  cases y with
  | non => cases ry; exact PySem.EqNone.ne_none_none (zS I q (by simp))
  | bl j => cases ry; exact PySem.EqNone.ne_none_bool (zS I q (by simp))
  | int j => obtain ⟨t', rfl⟩ := ry; exact PySem.EqNone.ne_none_int (zS I q (by simp))
  | str j => obtain ⟨t', rfl⟩ := ry; exact PySem.EqNone.ne_none_str (zS I q (by simp))
  | _ => exact absurd (show false = true from hs) Bool.false_ne_true
 | bl i =>
  cases rx
  cases y with
  | non => cases ry; exact PySem.EqNone.ne_bool_none (zS I q (by simp))
  | bl j => cases ry; exact ne_bool (zS I q (congrArg not za3))
  | str j => obtain ⟨t', rfl⟩ := ry; exact PySem.EqMixed.ne_bool_str (zS I q (by simp))
  | _ => exact absurd (show false = true from hs) Bool.false_ne_true
 | int i =>
  obtain ⟨t, rfl⟩ := rx
  cases y with
  | non => cases ry; exact PySem.EqNone.ne_int_none (zS I q (by simp))
  | int j => obtain ⟨t', rfl⟩ := ry; exact ne_int (zS I q (congrArg not WU))
  | str j => obtain ⟨t', rfl⟩ := ry; exact PySem.EqMixed.ne_int_str (zS I q (by simp))
  | _ => exact absurd (show false = true from hs) Bool.false_ne_true
 | str i =>
  obtain ⟨t, rfl⟩ := rx
  cases y with
  | non => cases ry; exact PySem.EqNone.ne_str_none (zS I q (by simp))
  | bl j => cases ry; exact PySem.EqMixed.ne_str_bool (zS I q (by simp))
  | int j => obtain ⟨t', rfl⟩ := ry; exact PySem.EqMixed.ne_str_int (zS I q (by simp))
  | str j => obtain ⟨t', rfl⟩ := ry; exact ne_str (zS I q (congrArg not WS))
  | _ => exact absurd (show false = true from hs) Bool.false_ne_true
 | byt i =>
  obtain ⟨t, rfl⟩ := rx
  cases y with
  | byt j => obtain ⟨t', rfl⟩ := ry; exact PySem.W.ne_bytes (zS I q (congrArg not WV))
  | _ => exact absurd (show false = true from hs) Bool.false_ne_true
 | _ => cases y <;> exact absurd (show false = true from hs) Bool.false_ne_true
theorem zcP : OpR X (compareOp .Lt) (rI0 fun i j => .bl (decide (i < j))) := zb6 fun _ _ _ _ _ _ _ q => lt_int q
theorem jW : OpR X (compareOp .LtE) (rI0 fun i j => .bl (decide (i ≤ j))) := zb6 fun _ _ _ _ _ _ _ q => le_int q
theorem zcQ : OpR X (compareOp .Gt) (rI0 fun i j => .bl (decide (j < i))) := zb6 fun _ _ _ _ _ _ _ q => gt_int q
theorem X2 : OpR X (compareOp .Is) (fun x y H Q => y = .non ∧ Q (.bl (decide (x = .non))) H) := by
 intro pins s σ H x y v u Q I rx ry h
 obtain ⟨rfl, q⟩ := h
 cases ry
 refine is_none_gen (zS I q ?_)
 cases x <;> first
  | (cases rx; rfl)
  | (obtain ⟨t, rfl⟩ := rx; rfl)
theorem zbr : OpR X (compareOp .IsNot) (fun x y H Q => y = .non ∧ Q (.bl (!decide (x = .non))) H) := by
 intro pins s σ H x y v u Q I rx ry h
 obtain ⟨rfl, q⟩ := h
 cases ry
 refine isnot_none_gen (zS I q ?_)
 cases x <;> first
  | (cases rx; rfl)
  | (obtain ⟨t, rfl⟩ := rx; rfl)
theorem OpR.or {f : Value → Value → Sem Value} {r r' : R2} (h : OpR X f r) (h' : OpR X f r') : OpR X f (fun x y H Q => r x y H Q ∨ r' x y H Q) := by
 intro pins s σ H x y v u Q I rx ry q
 rcases q with q | q
 ·exact h pins s σ H x y v u Q I rx ry q
 ·exact h' pins s σ H x y v u Q I rx ry q
theorem zy (b : Expr) {op : CmpOp} (h : op ≠ .In := by decide) (h2 : op ≠ .NotIn := by decide) : behindInMarks op b = false := by
 have e1 : (op == CmpOp.In) = false := by cases op <;> first | rfl | exact absurd rfl h
 have e2 : (op == CmpOp.NotIn) = false := by cases op <;> first | rfl | exact absurd rfl h2
 cases b <;> simp [behindInMarks, e1, e2]
theorem wg {op : CmpOp} {r : R2} (ho : OpR X (compareOp op) r) (ha : PE X a ta) (hb : PE X b tb) (hm : behindInMarks op b = false) : PE X (.Compare a [op] [b] pos) (tOp r ta tb) := by
 intro pins s σ H Q I h
 exact wpAny_Compare1 (zct ha hb I h fun v u s2 x y H2 I2 rx ry q => ho pins s2 σ H2 x y v u Q I2 rx ry q) hm
def tTest (t : TE) : TT := fun σ H Q => t σ H fun x H' => ∃ k, x = .bl k ∧ Q k H'
theorem zw {op : CmpOp} {r : R2} (ho : OpR X (compareOp op) r) (ha : PE X a ta) (hb : PE X b tb) (hm : behindInMarks op b = false) : PT X (.Compare a [op] [b] pos) (tTest (tOp r ta tb)) := by
 intro pins s σ H Q I h
 refine wpAny_isTrue_Compare1 (thn (ha pins s σ H _ I h) fun v s1 ⟨x, H1, I1, r1, q1⟩ => thn (hb pins s1 σ H1 _ I1 q1) fun u s2 ⟨y, H2, I2, r2, q2⟩ =>
  thn (ho pins s2 σ H2 x y v u _ I2 r1 r2 q2) fun c s3 ⟨z, H3, I3, r3, k, e, q3⟩ => ?_) hm
 subst e
 cases r3
 exact wpAny_truthy_bool ⟨H3, I3, q3⟩
def tChain (r r' : R2) (ta tb tc : TE) : TE := fun σ H Q => ta σ H fun x H1 => tb σ H1 fun y H2 => r x y H2 fun z H3 => ∃ k, z = .bl k ∧
 (if k = true then tc σ H3 fun w' H4 => r' y w' H4 Q else Q (.bl false) H3)
theorem jz {op op' : CmpOp} {r r' : R2} (ho : OpR X (compareOp op) r) (ho' : OpR X (compareOp op') r') (ha : PE X a ta) (hb : PE X b tb) (hc : PE X c tc)
  (hm : lastMarks [op, op'] [b, c] = false := by with_unfolding_all rfl) : PT X (.Compare a [op, op'] [b, c] pos) (tTest (tChain r r' ta tb tc)) := by
 intro pins s σ H Q I h
 refine isTrue_chain (thn (ha pins s σ H _ I h) fun v s1 ⟨x, H1, I1, r1, q1⟩ => test_link (thn (hb pins s1 σ H1 _ I1 q1) fun u s2 ⟨y, H2, I2, r2, q2⟩ =>
  thn (ho pins s2 σ H2 x y v u _ I2 r1 r2 q2) fun d s3 ⟨z, H3, I3, r3, k, e, q3⟩ => ?_)) hm
 subst e
 cases r3
 refine wpAny_truthy_bool ?_
 cases k with
 | false =>
  obtain ⟨k', e', q'⟩ := q3
  cases e'
  exact ite_ff ⟨H3, I3, q'⟩
 | true =>
  refine ite_tt (test_last (thn (hc pins s3 σ H3 _ I3 q3) fun w' s4 ⟨z', H4, I4, r4, q4⟩ => thn (ho' pins s4 σ H4 y z' u w' _ I4 r2 r4 q4) fun d' s5 ⟨z2, H5, I5, r5, k2, e2, q5⟩ => ?_))
  subst e2
  cases r5
  exact wpAny_truthy_bool ⟨H5, I5, q5⟩
def zcw (K : PySem.W.Frag) (x : V) (H : Hp) (k : Bool) : Prop :=
 match x with
 | .non => k = false
 | .bl b => k = b
 | .int i => k = (i != 0)
 | .str y => y.length ≤ sizeLine ∧ k = ((y.length : Int) != 0)
 | .byt y => y.size ≤ sizeLine ∧ k = ((y.size : Int) != 0)
 | .ref p => (∃ xs, SqL K H p xs ∧ k = !xs.isEmpty) ∨ (∃ xs, SqT K H p xs ∧ k = !xs.isEmpty) ∨ ∃ kvs, H p = some (.dK kvs) ∧ k = !kvs.isEmpty
 | _ => False
theorem Wl {κ : Type} {kvs : List (κ × V)} {vs : List (κ × Value)} (r : KV kvs vs) : (!vs.isEmpty) = !kvs.isEmpty := by
 cases r <;> rfl
theorem ZZ {xs : List V} {its : List Value} (r : Vals xs its) : (!its.toArray.isEmpty) = !xs.isEmpty := by
 cases r <;> simp
theorem wK : (sizeLine : Nat) < 2 ^ 63 := by rw [sizeLine_eq]; decide
theorem zbU : zdf X (fun x H Q => ∃ k, zcw X.K x H k ∧ Q k H) := by
 intro pins s σ H x v Q I rx h
 obtain ⟨k, e, q⟩ := h
 have hl := wK
 have hs : sizeLine = 16777216 := sizeLine_eq
 cases x with
 | non =>
  cases rx
  have e' : k = false := e
  subst e'
  exact truthy_none ⟨H, I, q⟩
 | bl b =>
  cases rx
  have e' : k = b := e
  subst e'
  exact wpAny_truthy_bool ⟨H, I, q⟩
 | int i =>
  obtain ⟨t, rfl⟩ := rx
  have e' : k = (i != 0) := e
  subst e'
  exact PySem.P.truthy_int ⟨H, I, q⟩
 | str y =>
  obtain ⟨t, rfl⟩ := rx
  obtain ⟨hy, e'⟩ : y.length ≤ sizeLine ∧ k = ((y.length : Int) != 0) := e
  subst e'
  exact PySem.P.truthy_str (by omega) ⟨H, I.tok _, q⟩
 | byt y =>
  obtain ⟨t, rfl⟩ := rx
  obtain ⟨hy, e'⟩ : y.size ≤ sizeLine ∧ k = ((y.size : Int) != 0) := e
  subst e'
  exact PySem.W.truthy_bytes (by omega) ⟨H, I.tok _, q⟩
 | ref p =>
  cases rx
  have e' : (∃ xs, SqL X.K H p xs ∧ k = !xs.isEmpty) ∨ (∃ xs, SqT X.K H p xs ∧ k = !xs.isEmpty) ∨ ∃ kvs, H p = some (.dK kvs) ∧ k = !kvs.isEmpty := e
  rcases e' with ⟨xs, hx, e'⟩ | ⟨xs, hx, e'⟩ | ⟨kvs, hx, e'⟩
  ·subst e'
   obtain ⟨its, r, pl, hz⟩ := I.list hx
   have hlen := r.length
   exact wpAny_truthy_list pl.isList (by simp only [List.size_toArray]; omega) ⟨H, I.tok _, by rw [ZZ r]; exact q⟩
  ·subst e'
   obtain ⟨its, r, pl, hz⟩ := I.tuple hx
   have hlen := r.length
   exact truthy_tuple pl (by simp only [List.size_toArray]; omega) ⟨H, I.tok _, by rw [ZZ r]; exact q⟩
  ·subst e'
   obtain ⟨hz, hS, vs, r, m⟩ : kvs.length ≤ sizeLine ∧ (p == sysModules) = false ∧ ∃ vs, KV kvs vs ∧ s.heap.DictOf (Js X.prog X.w) p vs := I.hok p _ hx
   have hlen : kvs.length = vs.length := Paired.length r
   exact wpAny_truthy_dict hS m (by omega) ⟨H, I.tok _, by rw [Wl r]; exact q⟩
 | _ => exact (show False from e).elim
theorem zT (ha : PE X a ta) (he : ∀ whole, isTrue a X.env whole = (do let v ← whole; standAt a.pos; holding [v] (truthy v))) :
  PT X a (fun σ H Q => ta σ H fun x H' => ∃ k, zcw X.K x H' k ∧ Q k H') := by
 intro pins s σ H Q I h
 exact isTrue_plain (thn (ha pins s σ H _ I h) fun v s1 ⟨x, H1, I1, r1, q1⟩ => zbU pins s1 σ H1 x v Q I1 r1 q1) (he _)
theorem op_add_str : OpR X (binaryOp .Add) (fun x y H Q => ∃ i j, x = .str i ∧ y = .str j ∧ i.length + j.length ≤ sizeLine ∧ Q (.str (i ++ j)) H) := by
 intro pins s σ H x y v u Q I rx ry h
 obtain ⟨i, j, rfl, rfl, hz, q⟩ := h
 obtain ⟨t, rfl⟩ := rx
 obtain ⟨t', rfl⟩ := ry
 exact add_str (fun t' tk => ⟨.str (i ++ j), H, I.tok _, ⟨_, rfl⟩, q⟩) hz
theorem vQ {x : V} {us : List Value} (r : Vals [x] us) : ∃ u, us = [u] ∧ RelV x u := by
 cases r with
 | cons r1 r2 => cases r2; exact ⟨_, rfl, r1⟩
theorem zcD {x y : V} {us : List Value} (r : Vals [x, y] us) : ∃ u w', us = [u, w'] ∧ RelV x u ∧ RelV y w' := by
 cases r with
 | cons r1 r2 =>
  cases r2 with
  | cons r3 r4 => cases r4; exact ⟨_, _, rfl, r1, r3⟩
theorem wn (hc : X.calm = true) : CallR X (.builtin "max") (fun xs H Q => ∃ i j, xs = [.int i, .int j] ∧ Q (.int (if j > i then j else i)) H) := by
 intro pins s σ H xs us Q I r h
 obtain ⟨i, j, rfl, q⟩ := h
 obtain ⟨u, w', rfl, ⟨t, rfl⟩, ⟨t', rfl⟩⟩ := zcD r
 refine max_two_ints (I.ok.hd hc) fun h' tk k => ⟨_, H, I.kept k, ?_, q⟩
 by_cases hj : j > i
 ·rw [if_pos hj, if_pos hj]; exact ⟨_, rfl⟩
 ·rw [if_neg hj, if_neg hj]; exact ⟨_, rfl⟩
def zc2 (K : PySem.W.Frag) (x : V) (H : Hp) (n : Nat) : Prop :=
 match x with
 | .str y => y.length ≤ sizeLine ∧ n = y.length
 | .byt y => y.size ≤ sizeLine ∧ n = y.size
 | .ref p => (∃ xs, SqL K H p xs ∧ n = xs.length) ∨ ∃ xs, SqT K H p xs ∧ n = xs.length
 | _ => False
theorem za6 : CallR X (.builtin "len") (fun xs H Q => ∃ x n, xs = [x] ∧ zc2 X.K x H n ∧ Q (.int n) H) := by
 intro pins s σ H xs us Q I r h
 obtain ⟨x, n, rfl, e, q⟩ := h
 obtain ⟨u, rfl, rx⟩ := vQ r
 have hl := wK
 have hs : sizeLine = 16777216 := sizeLine_eq
 cases x with
 | str y =>
  obtain ⟨t, rfl⟩ := rx
  obtain ⟨hy, e'⟩ : y.length ≤ sizeLine ∧ n = y.length := e
  subst e'
  exact len_str (by omega) ⟨.int _, H, I.tok _, ⟨_, rfl⟩, q⟩
 | byt y =>
  obtain ⟨t, rfl⟩ := rx
  obtain ⟨hy, e'⟩ : y.size ≤ sizeLine ∧ n = y.size := e
  subst e'
  exact PySem.W.len_bytes (by omega) ⟨.int _, H, I.tok _, ⟨_, rfl⟩, q⟩
 | ref p =>
  cases rx
  have e' : (∃ xs, SqL X.K H p xs ∧ n = xs.length) ∨ ∃ xs, SqT X.K H p xs ∧ n = xs.length := e
  rcases e' with ⟨xs, hx, e'⟩ | ⟨xs, hx, e'⟩
  ·subst e'
   obtain ⟨its, r', pl, hz⟩ := I.list hx
   have hlen := r'.length
   exact Calls.call_len_list pl.isList (by simp only [List.size_toArray]; omega) ⟨.int xs.length, H, I.tok _, ⟨_, by simp only [List.size_toArray]; rw [hlen]⟩, q⟩
  ·subst e'
   obtain ⟨its, r', pl, hz⟩ := I.tuple hx
   have hlen := r'.length
   exact len_tuple pl (by simp only [List.size_toArray]; omega) ⟨.int xs.length, H, I.tok _, ⟨_, by simp only [List.size_toArray]; rw [hlen]⟩, q⟩
 | _ => exact (show False from e).elim
end
end L2
namespace L2
open PySem PySem.Spec PyProof.Rows
structure ObjM (h : Heap) (x dx C : Addr) (mA : Str → Option Value) : Prop where
 obj : h.get? x = some (PySem.W.instObj C dx)
 ns : h.Ns1 dx mA
 ne : dx ≠ x
theorem VN {h : Heap} {dx : Addr} {mA : Str → Option Value} (n : h.Ns1 dx mA) : ∃ od, h.get? dx = some od ∧ ∀ name, PySem.W.lookIn name od = some (mA name) := by
 obtain ⟨o, es, ep, ho, hd, hk, _, hm⟩ := n
 refine ⟨o, ho, fun name => ?_⟩
 have e := hm name
 unfold nsFind findBy at e
 rw [← Array.find?_toList] at e
 unfold PySem.W.lookIn
 rw [hd]
 dsimp only
 split
 ·rename_i y q
  rw [q] at e
  exact congrArg some e
 ·rename_i q
  rw [q] at e
  have a : es.toList.any (·.refKey) = false := by
   rw [List.any_eq_false]
   intro y hy
   obtain ⟨z, t, hkey⟩ := hk y (Array.mem_toList_iff.mp hy)
   simp [DictEntry.refKey, hkey]
  have a' : ¬ es.toList.any (·.refKey) = true := by rw [a]; exact Bool.false_ne_true
  rw [if_neg a']
  exact congrArg some e
theorem ObjM.look {h : Heap} {x dx C : Addr} {mA : Str → Option Value} (I : ObjM h x dx C mA) : ∃ od, PySem.W.InstAt h x (PySem.W.instObj C dx) C (some od) ∧ ∀ name, PySem.W.lookIn name od = some (mA name) :=
 let ⟨od, ho, hl⟩ := VN I.ns
 ⟨od, ⟨I.obj, rfl, rfl, ho⟩, hl⟩
section
variable {prog : Program} {w : World} {A : Around} {E : Value → Shared → Prop} {s : Shared} {K : PySem.W.Frag} {x dx C f : Addr} {mA : Str → Option Value} {name : Str} {v : Value}
theorem zbC {expr : Bool} {Q : Value → Shared → Prop} (X : K.In s.heap) (I : ObjM s.heap x dx C mA) (hg : PySem.W.plainGet K C name = true) (hh : PySem.W.hasDictIn K C = true)
  (ha : PySem.W.findIn K (.ref C) name = some none) (hv : mA name = some v) (hv' : PySem.W.handedIn v = true) (h : Q v { s with toks := s.toks + 1 }) :
  wpAny (model prog w) A (getAttr (.ref x) name expr) Q E s := by
 obtain ⟨od, J, hl⟩ := I.look
 exact PySem.W.get_value X J (PySem.W.plainGet_of hg).1 (PySem.W.findObj_own hh ha rfl (by rw [hl, hv])) hv' h
theorem zaZ {pl : Sem Bool} {Q : Value × List Value → Shared → Prop} (X : K.In s.heap) (I : ObjM s.heap x dx C mA) (hg : PySem.W.plainGet K C name = true)
  (hf : PySem.W.findIn K (.ref C) name = some (some (.ref f))) (ht : PySem.W.isFn K (.ref f) = true) (hv : mA name = none) (h : Q (.ref f, [.ref x]) s) :
  wpAny (model prog w) A (getMethod (.ref x) name pl) Q E s := by
 obtain ⟨od, J, hl⟩ := I.look
 exact PySem.W.method_fn X J (PySem.W.plainGet_of hg).1 (PySem.W.plainGet_of hg).2 hf (beq_iff_eq.mp ht) (by show (PySem.W.lookIn name od).map (·.isSome) = some false; rw [hl, hv]; rfl) h
theorem zbi {ns : List Str} {Q : Unit → Shared → Prop} (X : K.In s.heap) (I : ObjM s.heap x dx C mA)
  (hs : PySem.W.findIn K (.ref C) "__setattr__" = some (some (.builtin "object.__setattr__"))) (hp : PySem.W.plainOver K C = true) (ht : PySem.W.takerIn K C name = some none) (hh : PySem.W.hasDictIn K C = true)
  (hw : PySem.Within mA ns) (hsz : ns.length ≤ sizeLine)
  (h : ∀ h', ObjM h' x dx C (fun y => if y = name then some v else mA y) → Heap.SameBut dx s.heap h' → Q () { s with heap := h', toks := s.toks + 2 }) :
  wpAny (model prog w) A (setAttr (.ref x) name v) Q E s := by
 obtain ⟨od, J, hl⟩ := I.look
 refine PySem.W.set_plain X J hs (PySem.W.osa_open (s := { s with toks := s.toks + 1 }) (r := none) X J hp ht fun b => ?_)
 obtain ⟨cd, hc, hd'⟩ := PySem.W.any_some hh
 have hx : s.heap.get? x = some ⟨.ref C, some dx, .plain, #[]⟩ := I.obj
 refine wpAny_bind (wpAny_pure (wpAny_bind (wpAny_bind (wpAny_loadPart hx (wpAny_bind (PySem.W.Looks.here (s := { s with toks := s.toks + 1 }) (PySem.W.looks_clsIn X hc) ?_))))))
 rw [hd']
 refine wpAny_pure (a := some dx) (wpAny_bind (wpAny_pure (wpAny_bind ?_)))
 refine wpAny_nsSet1 (s := { s with toks := s.toks + 1 }) I.ns fun h' hn2 hs2 => ?_
 obtain ⟨oD, esD, epD, hoD, hdD, hcD⟩ := hn2.count (PySem.Within.cons name v hw)
 refine wpAny_bind (wpAny_lookBehind hoD (by rw [hdD]; exact pastItsLine_dict (Nat.le_trans hcD (by rw [List.length_cons]; omega))) ?_)
 exact wpAny_pure (h _ ⟨(hs2.2 _ (Ne.symm I.ne)).trans I.obj, hn2, I.ne⟩ hs2)
theorem Xi {R : Result → Shared → Prop} {vs : List Value} {kw : List (Str × Value)} (X : K.In s.heap) (hm : PySem.W.makesIn K C = true)
  (hi : PySem.W.findIn K (.ref C) "__init__" = some (some (.ref f))) (hf : PySem.W.typeIn K (.ref f) = some (.type "function"))
  (h : codeAny (model prog w) (A.under (.builtin "type.__call__" ⟨.ref C :: vs, kw⟩)) (.call (.ref f) ⟨.ref (s.heap.objs.size + 1) :: vs, kw⟩) (PySem.W.InitBack (s.heap.objs.size + 1) R)
   { s with heap := (s.heap.push PySem.W.emptyDict).push (PySem.W.instObj C s.heap.objs.size) }) :
  codeAny (model prog w) A (.call (.ref C) ⟨vs, kw⟩) R s := by
 obtain ⟨hh, g, d, t, os⟩ := s
 exact PySem.W.make_core (PySem.W.makes_of X hm) (PySem.W.looks_findIn X hi) (fun self => PySem.W.bind_fn X self hf) (.inl rfl) h
end
def z7 (f : Str) (v : V) : List (Str × V) → List (Str × V)
 | [] => [(f, v)]
 | (g, x) :: r => if g = f then (g, v) :: r else (g, x) :: z7 f v r
theorem vY (f g : Str) (v : V) : ∀ fs : List (Str × V), (z7 f v fs).lookup g = if g = f then some v else fs.lookup g
 | [] => by
  show List.lookup g [(f, v)] = _
  by_cases h : g = f
  ·have hb : (g == f) = true := beq_iff_eq.mpr h
   simp only [List.lookup, hb, if_pos h]
  ·have hb : (g == f) = false := beq_eq_false_iff_ne.mpr h
   simp only [List.lookup, hb, if_neg h]
 | (k, x) :: r => by
  have ih := vY f g v r
  rw [show z7 f v ((k, x) :: r) = (if k = f then (k, v) :: r else (k, x) :: z7 f v r) from rfl]
  by_cases hk : k = f
  ·rw [if_pos hk]
   by_cases h : g = k
   ·have hb : (g == k) = true := beq_iff_eq.mpr h
    simp only [List.lookup, hb, if_pos (h.trans hk)]
   ·have hb : (g == k) = false := beq_eq_false_iff_ne.mpr h
    simp only [List.lookup, hb, if_neg (fun e : g = f => h (e.trans hk.symm))]
  ·rw [if_neg hk]
   by_cases h : g = k
   ·have hb : (g == k) = true := beq_iff_eq.mpr h
    simp only [List.lookup, hb, if_neg (fun e : g = f => hk (h.symm.trans e))]
   ·have hb : (g == k) = false := beq_eq_false_iff_ne.mpr h
    simp only [List.lookup, hb]
    exact ih
theorem vJ (f : Str) (v : V) : ∀ fs : List (Str × V), f ∈ (z7 f v fs).map (·.1) ∧ ∀ g, g ∈ fs.map (·.1) → g ∈ (z7 f v fs).map (·.1)
 | [] => ⟨by simp [z7], fun g h => by simp at h⟩
 | (k, x) :: r => by
  obtain ⟨i1, i2⟩ := vJ f v r
  rw [show z7 f v ((k, x) :: r) = (if k = f then (k, v) :: r else (k, x) :: z7 f v r) from rfl]
  by_cases hk : k = f
  ·rw [if_pos hk]
   subst hk
   exact ⟨by simp, fun g h => by simpa using h⟩
  ·rw [if_neg hk]
   refine ⟨?_, fun g h => ?_⟩
   ·rw [List.map_cons]
    exact List.mem_cons_of_mem _ i1
   ·rw [List.map_cons] at h ⊢
    rcases List.mem_cons.mp h with e | e
    ·exact List.mem_cons.mpr (.inl e)
    ·exact List.mem_cons_of_mem _ (i2 g e)
theorem j5 (f : Str) (v : V) : ∀ fs : List (Str × V), (z7 f v fs).length ≤ fs.length + 1
 | [] => by simp [z7]
 | (k, x) :: r => by
  have ih := j5 f v r
  rw [show z7 f v ((k, x) :: r) = (if k = f then (k, v) :: r else (k, x) :: z7 f v r) from rfl]
  by_cases hk : k = f
  ·rw [if_pos hk, List.length_cons, List.length_cons]; omega
  ·rw [if_neg hk, List.length_cons, List.length_cons]; omega
theorem RelO.some_of {v : V} {o : Option Value} (r : RelO (some v) o) : ∃ u, o = some u ∧ RelV v u := by
 cases o with
 | none => exact (show False from r).elim
 | some u => exact ⟨u, rfl, r⟩
theorem RelO.none_of {o : Option Value} (r : RelO none o) : o = none := by
 cases o with
 | none => rfl
 | some u => exact (show False from r).elim
theorem VV {v : V} {u : Value} (r : RelV v u) : PySem.W.handedIn u = true := by
 cases v with
 | non => cases (show u = Value.none from r); rfl
 | bl b => cases (show u = Value.bool b from r); rfl
 | int i => obtain ⟨t, e⟩ := (show ∃ t, u = Value.int i t from r); cases e; rfl
 | str x => obtain ⟨t, e⟩ := (show ∃ t, u = Value.str x t from r); cases e; rfl
 | byt b => obtain ⟨t, e⟩ := (show ∃ t, u = Value.bytes b t from r); cases e; rfl
 | flt b => obtain ⟨t, e⟩ := (show ∃ t, u = Value.float b t from r); cases e; rfl
 | ref a => cases (show u = Value.ref a from r); rfl
 | ty n => cases (show u = Value.type n from r); rfl
section
variable {P : Program} {w : World} {H H' : Hp} {h h' : Heap} {a C dx : Addr} {fs fs' : List (Str × V)}
theorem Zs (hok : HOk P w H h) (e : H a = some (.ins C dx fs)) : ∃ mA, ObjM h a dx C mA ∧ (∀ f, RelO (fs.lookup f) (mA f)) ∧ PySem.Within mA (fs.map (·.1)) ∧ fs.length ≤ 1000 ∧ H dx = some (.own a) := by
 obtain ⟨d, z, ne, ob, mA, n, r, q⟩ := (show ObjOk P w H h a (.ins C dx fs) from hok a _ e)
 exact ⟨mA, ⟨ob, n, ne⟩, r, q, z, d⟩
end
structure Cls (K : PySem.W.Frag) (C : Addr) : Prop where
 pg : PySem.W.plainGet K C Str.empty = true
 hd : PySem.W.hasDictIn K C = true
 po : PySem.W.plainOver K C = true
 sa : PySem.W.findIn K (.ref C) "__setattr__" = some (some (.builtin "object.__setattr__"))
theorem Cls.get {K : PySem.W.Frag} {C : Addr} (c : Cls K C) (f : Str) : PySem.W.plainGet K C f = true := c.pg
def NoAttr (K : PySem.W.Frag) (C : Addr) (f : Str) : Prop := PySem.W.findIn K (.ref C) f = some none
theorem NoAttr.taker {K : PySem.W.Frag} {C : Addr} {f : Str} (n : NoAttr K C f) : PySem.W.takerIn K C f = some none := by
 unfold PySem.W.takerIn
 rw [show PySem.W.findIn K (.ref C) f = some none from n]
 rfl
structure Meth (K : PySem.W.Frag) (C : Addr) (m : Str) (f : Addr) : Prop where
 at_ : PySem.W.findIn K (.ref C) m = some (some (.ref f))
 fn : PySem.W.isFn K (.ref f) = true
 kp : PySem.W.keepIn K (.ref f) = true
section
variable {X : Cx} {pins : List (Addr × Obj)} {σ : St} {H : Hp} {s : Shared} {a C dx : Addr} {fs : List (Str × V)} {f : Str} {v : V} {A : Around} {E : Value → Shared → Prop}
theorem Wq {b : Bool} {Q : Value → Shared → Prop} (I : Inv X pins σ H s) (e : H a = some (.ins C dx fs)) (c : Cls X.K C) (n : NoAttr X.K C f) (l : fs.lookup f = some v)
  (h : ∀ u s', Inv X pins σ H s' → RelV v u → Q u s') : wpAny (model X.prog X.w) A (getAttr (.ref a) f b) Q E s := by
 obtain ⟨mA, O, r, _, _, _⟩ := Zs I.hok e
 obtain ⟨u, hu, ru⟩ := RelO.some_of (v := v) (o := mA f) (by rw [← l]; exact r f)
 exact zbC I.kIn O (c.get f) c.hd n hu (VV ru) (h u _ (I.tok _) ru)
theorem Z3 {m : Str} {g : Addr} {pl : Sem Bool} {Q : Value × List Value → Shared → Prop} (I : Inv X pins σ H s) (e : H a = some (.ins C dx fs)) (c : Cls X.K C) (k : Meth X.K C m g) (l : fs.lookup m = none)
  (h : Q (.ref g, [.ref a]) s) : wpAny (model X.prog X.w) A (getMethod (.ref a) m pl) Q E s := by
 obtain ⟨mA, O, r, _, _, _⟩ := Zs I.hok e
 have hn : mA m = none := RelO.none_of (by rw [← l]; exact r m)
 exact zaZ I.kIn O (c.get m) k.at_ k.fn hn h
theorem XQ {y : V} {u : Value} {Q : Unit → Shared → Prop} (I : Inv X pins σ H s) (e : H a = some (.ins C dx fs)) (c : Cls X.K C) (n : NoAttr X.K C f) (hl : fs.length < 1000) (ry : RelV y u)
  (h : ∀ s', Inv X pins σ (upd H a (.ins C dx (z7 f y fs))) s' → Q () s') : wpAny (model X.prog X.w) A (setAttr (.ref a) f u) Q E s := by
 obtain ⟨mA, O, r, wi, _, ho⟩ := Zs I.hok e
 have hz : (fs.map (·.1)).length ≤ sizeLine := by rw [List.length_map, sizeLine_eq]; omega
 refine zbi I.kIn O c.sa c.po n.taker c.hd wi hz fun h' O' sb => h _ ?_
 have hd : ∃ o, h'.get? dx = some o := let ⟨o, _, _, e', _⟩ := O'.ns; ⟨o, e'⟩
 refine I.write (x := a) (e := dx) (by rw [e]; exact True.intro) (.inr ho) (fun b q hb z => (sb.2 b hb).trans z) hd ?_
 refine ⟨by rw [upd_ne O.ne]; exact ho, ?_, O.ne, O'.obj, _, O'.ns, fun g => ?_, fun g hg => ?_⟩
 ·have := j5 f y fs; omega
 ·show RelO ((z7 f y fs).lookup g) (if g = f then some u else mA g)
  rw [vY]
  by_cases q : g = f
  ·rw [if_pos q, if_pos q]; exact ry
  ·rw [if_neg q, if_neg q]; exact r g
 ·by_cases q : g = f
  ·rw [q]; exact (vJ f y fs).1
  ·refine (vJ f y fs).2 g (wi g fun z => hg ?_)
   show (if g = f then some u else mA g) = none
   rw [if_neg q]; exact z
theorem Inv.made (I : Inv X pins σ H s) : Inv X pins σ (upd (upd H s.heap.objs.size (.own (s.heap.objs.size + 1))) (s.heap.objs.size + 1) (.ins C s.heap.objs.size []))
  { s with heap := (s.heap.push PySem.W.emptyDict).push (PySem.W.instObj C s.heap.objs.size) } := by
 have e1 : (s.heap.push PySem.W.emptyDict).get? s.heap.objs.size = some PySem.W.emptyDict := Heap.get?_push_size s.heap rfl
 have e2 : ((s.heap.push PySem.W.emptyDict).push (PySem.W.instObj C s.heap.objs.size)).get? (s.heap.objs.size + 1) = some (PySem.W.instObj C s.heap.objs.size) := by
  have := Heap.get?_push_size (s.heap.push PySem.W.emptyDict) (o := PySem.W.instObj C s.heap.objs.size) rfl
  rwa [Heap.size_push] at this
 have e3 : (s.heap.push PySem.W.emptyDict).Ns s.heap.objs.size (fun _ => none) := ⟨PySem.W.emptyDict, #[], _, e1, rfl, (fun e he => absurd he (by simp)), fun _ => rfl⟩
 have I1 := I.laid (a := s.heap.objs.size) (o := .own (s.heap.objs.size + 1)) (h' := s.heap.push PySem.W.emptyDict) (t' := s.toks) (fun b u q => Heap.get?_push_of_some _ q) (Nat.le_refl _) ⟨_, e1⟩
 refine I1.laid (a := s.heap.objs.size + 1) (o := .ins C s.heap.objs.size []) (t' := s.toks) (fun b u q => Heap.get?_push_of_some _ q) (Nat.le_of_eq (Heap.size_push _ _)) ?_
 have ne : s.heap.objs.size ≠ s.heap.objs.size + 1 := Nat.ne_of_lt (Nat.lt_succ_self _)
 refine ⟨by rw [upd_ne ne, upd_same], Nat.zero_le _, ne, e2, fun _ => none, (Heap.Ns1.of_empty e3).at fun o q => Heap.get?_push_of_some _ q, fun _ => True.intro, fun y hy => absurd rfl hy⟩
theorem zbI {prog : Program} {w : World} {env : Env} {e : Expr} {f : Str} {pos : Pos} {s : Shared} {Q : Value → Shared → Prop} (hb : attributeBase e f env (eval e env) = eval e env)
  (h : wpAny (model prog w) A (eval e env) (fun o s₁ => wpAny (model prog w) A (getAttr o f true) Q E s₁) E s) : wpAny (model prog w) A (eval (.Attribute e f pos) env) Q E s :=
 Attribute_any_ h (by rw [arm_eval_Attribute, hb])
end
def tFld (K : PySem.W.Frag) (ta : TE) (f : Str) : TE := fun σ H Q => ta σ H fun x H1 => ∃ a C dx fs v, x = .ref a ∧ H1 a = some (.ins C dx fs) ∧ Cls K C ∧ NoAttr K C f ∧ fs.lookup f = some v ∧ Q v H1
def sFld (K : PySem.W.Frag) (ta tv : TE) (f : Str) : TS := fun D σ H => tv σ H fun y H1 => ta σ H1 fun x H2 => ∃ a C dx fs, x = .ref a ∧ H2 a = some (.ins C dx fs) ∧ Cls K C ∧ NoAttr K C f ∧ fs.length < 1000 ∧
 D.nx σ (upd H2 a (.ins C dx (z7 f y fs)))
section
variable {X : Cx} {o e value : Expr} {f : Str} {pos pos' tpos : Pos} {ta tv : TE}
theorem zj (he : PE X e ta) (hb : attributeBase e f X.env (eval e X.env) = eval e X.env) : PE X (.Attribute e f pos) (tFld X.K ta f) := by
 intro pins s σ H Q I h
 refine zbI hb (thn (he pins s σ H _ I h) fun u s1 ⟨x, H1, I1, rx, a, C, dx, fs, v, ex, ea, c, n, l, q⟩ => ?_)
 subst ex
 obtain rfl : u = Value.ref a := rx
 exact Wq I1 ea c n l fun u' s2 I2 ru => ⟨v, H1, I2, ru, q⟩
theorem jf (ha : PE X o ta) (hv : PE X value tv) (hs : swapsWith value (some (.Attribute o f pos')) pos.line X.env = pure false) : PS X (.Assign [.Attribute o f pos'] value pos) (sFld X.K ta tv f) := by
 intro pins s σ H D I h
 refine plainObj_wpAny_Assign_Attribute (thn (hv pins s σ H _ I h) fun u s1 ⟨y, H1, I1, ry, q⟩ => thn (ha pins s1 σ H1 _ I1 q) fun ov s2 ⟨x, H2, I2, rx, a, C, dx, fs, ex, ea, c, n, l, q2⟩ => ?_) hs
 subst ex
 obtain rfl : ov = Value.ref a := rx
 exact XQ I2 ea c n l ry fun s3 I3 => ⟨σ, _, I3, q2⟩
end
section
variable {X : Cx} {pins : List (Addr × Obj)} {σ : St} {H : Hp} {s : Shared} {A : Around} {E : Value → Shared → Prop} {Q : Value → Shared → Prop} {c : Value} {b : Bool}
inductive TyOf (K : PySem.W.Frag) (H : Hp) : V → Value → Prop where
 | non : TyOf K H .non (.type "NoneType")
 | bl (x : Bool) : TyOf K H (.bl x) (.type "bool")
 | int (i : Int) : TyOf K H (.int i) (.type "int")
 | str (x : Str) : TyOf K H (.str x) (.type "str")
 | flt (x : UInt64) : TyOf K H (.flt x) (.type "float")
 | lst {a : Addr} {xs : List V} (e : H a = some (.lst xs)) : TyOf K H (.ref a) (.type "list")
 | frz {a : Addr} {o : Obj} {xs : List V} (e : H a = some (.frz o (.lst xs))) : TyOf K H (.ref a) (.type "list")
 | tup {a : Addr} {xs : List V} (e : H a = some (.tup xs)) : TyOf K H (.ref a) (.type "tuple")
 | dK {a : Addr} {kvs : List (Key × V)} (e : H a = some (.dK kvs)) : TyOf K H (.ref a) (.type "dict")
 | dT {a : Addr} {kvs : List (List Key × V)} (e : H a = some (.dT kvs)) : TyOf K H (.ref a) (.type "dict")
 | ins {a C dx : Addr} {fs : List (Str × V)} (e : H a = some (.ins C dx fs)) (cl : Cls K C) (ha : PySem.W.findIn K (.ref C) "__class__" = some (some (.builtin "object.__class__")))
   (hn : PySem.W.specialIn K (.builtin "object.__class__") "__get__" = some (some (.builtin "getset_descriptor.__get__"))) (htk : PySem.W.takesIn K (.builtin "object.__class__") = some true)
   (hm : PySem.W.mroIn K C (.type "object") = some true) : TyOf K H (.ref a) (.ref C)
end
end L2
namespace L2
open PySem PySem.Spec PyProof.Rows
structure Room (k : Nat) (A : Around) : Prop where
 hd : A.handled = none
 dp : A.depth + 3 * k + 5 < recursionLimit
 un : A.units + 16 * k + 200 < cLine
theorem Room.mono {j k : Nat} {A : Around} (r : Room k A) (h : j ≤ k) : Room j A := ⟨r.hd, by have := r.dp; omega, by have := r.un; omega⟩
theorem Room.deeper {k : Nat} {A : Around} (r : Room (k + 1) A) (env : Env) : Room k (A.deeper env) :=
 ⟨r.hd, by have := r.dp; show A.depth + 1 + 3 * k + 5 < _; omega, by have := r.un; show A.units + 3 + 16 * k + 200 < _; omega⟩
theorem Room.in1 {k : Nat} {A : Around} (r : Room (k + 1) A) : Room k A.in1 :=
 ⟨r.hd, by have := r.dp; show A.depth + 3 * k + 5 < _; omega, by have := r.un; show A.units + 1 + 16 * k + 200 < _; omega⟩
theorem Wf {A : Around} {C : Addr} {us : List Value} {kw : List (Str × Value)} : (A.under (.builtin "type.__call__" ⟨.ref C :: us, kw⟩)).depth = A.depth + 1 := by
 first | rfl | simp [Around.under, Code.weight, Code.isCreation, Code.isGuard, Code.isCaller, Code.frames, Code.isFrame, guardIds]
theorem We {A : Around} {C : Addr} {us : List Value} {kw : List (Str × Value)} : (A.under (.builtin "type.__call__" ⟨.ref C :: us, kw⟩)).units = A.units + 1 := by
 first | rfl | simp [Around.under, Code.cUnits, Code.frames, Code.isFrame]
theorem Room.make {k : Nat} {A : Around} (r : Room (k + 1) A) (C : Addr) (us : List Value) (kw : List (Str × Value)) : Room k (A.under (.builtin "type.__call__" ⟨.ref C :: us, kw⟩)) :=
 ⟨r.hd, by have := r.dp; rw [Wf]; omega, by have := r.un; rw [We]; omega⟩
theorem Room.depth {k : Nat} {A : Around} (r : Room k A) : A.depth < recursionLimit := by have := r.dp; omega
theorem Room.units {k : Nat} {A : Around} (r : Room k A) : A.units + 64 < cLine := by have := r.un; omega
def tNil : TA := fun _ H Q => Q [] H
def tCons (ta : TE) (tr : TA) : TA := fun σ H Q => ta σ H fun x H1 => tr σ H1 fun xs H2 => Q (x :: xs) H2
section
variable {X : Cx} {e : Expr} {es : List Expr} {te : TE} {t : TA} {pos : Pos}
theorem zb : PA X [] tNil := fun _ _ _ _ H Q I h => Calls.spliced_nil ⟨[], H, I, .nil, h⟩
theorem za (ha : PE X e te) (hr : PA X es t) (hs : starEach (e :: es) X.env = (false, eval e X.env) :: starEach es X.env := by rfl) : PA X (e :: es) (tCons te t) := by
 intro pos pins s σ H Q I h
 rw [hs]
 show wpAny _ _ (spliced ((false, eval e X.env) :: backTo pos (starEach es X.env))) _ _ s
 refine Calls.spliced_cons (thn (ha pins s σ H _ I h) fun u s1 ⟨x, H1, I1, r1, q1⟩ => ?_)
 exact thn (hr pos pins s1 σ H1 _ I1 q1) fun us s2 ⟨xs, H2, I2, r2, q2⟩ => ⟨x :: xs, H2, I2, .cons r1 r2, q2⟩
def tTup (t : TA) : TE := fun σ H Q => t σ H fun xs H1 => xs.length ≤ sizeLine ∧ ∀ p, H1 p = none → Q (.ref p) (upd H1 p (.tup xs))
def tLst (t : TA) : TE := fun σ H Q => t σ H fun xs H1 => xs.length ≤ sizeLine ∧ ∀ p, H1 p = none → Q (.ref p) (upd H1 p (.lst xs))
theorem ZL {x1} (h : PA X es t) : PE X (.Tuple es x1 pos) (tTup t) := by
 intro pins s σ H Q I hq
 refine wpAny_Tuple_spliced (thn (h pos pins s σ H _ I hq) fun us s1 ⟨xs, H1, I1, r, z, q⟩ => ⟨by rw [← r.length]; exact z, ?_⟩)
 have hf : H1 s1.heap.objs.size = none := I1.hok.fresh (Nat.le_refl _)
 refine ⟨.ref s1.heap.objs.size, upd H1 s1.heap.objs.size (.tup xs), I1.laid (t' := s1.toks) (fun b u e => Heap.get?_push_of_some _ e) (Nat.le_refl _) ?_, rfl, q _ hf⟩
 exact ⟨z, us, r, ⟨_, Heap.get?_push_size _ rfl, rfl, _, rfl⟩⟩
theorem zE (h : PA X es t) : PE X (.List es pos) (tLst t) := by
 intro pins s σ H Q I hq
 refine wpAny_List_spliced (thn (h pos pins s σ H _ I hq) fun us s1 ⟨xs, H1, I1, r, z, q⟩ => ⟨by rw [← r.length]; exact z, ?_⟩)
 have hf : H1 s1.heap.objs.size = none := I1.hok.fresh (Nat.le_refl _)
 refine ⟨.ref s1.heap.objs.size, upd H1 s1.heap.objs.size (.lst xs), I1.laid (t' := s1.toks) (fun b u e => Heap.get?_push_of_some _ e) (Nat.le_refl _) ?_, rfl, q _ hf⟩
 exact ⟨z, us, 0, r, Heap.get?_push_size _ rfl⟩
end
abbrev Sp := List V → Hp → VK → XK → Prop
abbrev CXT := List Env → Hp → Shared → XK → Value → Shared → Prop
structure Env0 (P : Program) (w : World) (K : PySem.W.Frag) (mg : Str → Option Value) (base : Heap) (A : Around) (outer : List Env) (s : Shared) (H : Hp) : Prop where
 frames : A.frames = some outer
 mod : Mod K mg base
 bs : ∀ b o, base.get? b = some o → s.heap.get? b = some o ∧ H b = none
 bsz : base.objs.size ≤ s.heap.objs.size
 funs : s.heap.FunFrames base outer
 frf : ∀ b ∈ frs outer, H b = none
 hok : HOk P w H s.heap
 bare : AllBare s.gens
def CE (outer : List Env) (P : Program) (w : World) (H : Hp) (s : Shared) (Q : VK) (u : Value) (s' : Shared) : Prop :=
 ∃ v H', s'.os = s.os ∧ AllBare s'.gens ∧ Un (frs outer) [] H H' s.heap s'.heap ∧ HOk P w H' s'.heap ∧ RelV v u ∧ Q v H'
def CR (CX : CXT) (outer : List Env) (P : Program) (w : World) (H : Hp) (s : Shared) (Q : VK) (E : XK) (r : Result) (s' : Shared) : Prop :=
 match r with
 | .ok (.ret u) => CE outer P w H s Q u s'
 | .ok _ => False
 | .error e => CX outer H s E e s'
structure FnOk (P : Program) (w : World) (K : PySem.W.Frag) (mg : Str → Option Value) (base : Heap) (CX : CXT) (k : Nat) (f : Addr) (fd : FuncData) (ps : List Str) (sp : Sp) : Prop where
 len : ∀ vs H Q E, sp vs H Q E → vs.length = ps.length
 run : ∀ (A : Around) (outer : List Env) (s : Shared) (H : Hp) (args : Args) (us : List Value) (vs : List V) (Q : VK) (E : XK), Room k A → Env0 P w K mg base A outer s H → BindsTo s fd args (ps.zip us) → Vals vs us → sp vs H Q E →
  codeAny (model P w) A (.call (.ref f) args) (CR CX outer P w H s Q E) s
theorem FnOk.mono {P : Program} {w : World} {K : PySem.W.Frag} {mg : Str → Option Value} {base : Heap} {CX : CXT} {j k : Nat} {f : Addr} {fd : FuncData} {ps : List Str} {sp : Sp} (F : FnOk P w K mg base CX j f fd ps sp) (h : j ≤ k) :
  FnOk P w K mg base CX k f fd ps sp := ⟨F.len, fun A outer s H args us vs Q E hr => F.run A outer s H args us vs Q E (hr.mono h)⟩
theorem FnOk.imp {P : Program} {w : World} {K : PySem.W.Frag} {mg : Str → Option Value} {base : Heap} {CX : CXT} {k : Nat} {f : Addr} {fd : FuncData} {ps : List Str} {sp sp' : Sp} (F : FnOk P w K mg base CX k f fd ps sp)
  (h : ∀ vs H Q E, sp' vs H Q E → sp vs H Q E) : FnOk P w K mg base CX k f fd ps sp' :=
 ⟨fun vs H Q E q => F.len vs H Q E (h _ _ _ _ q), fun A outer s H args us vs Q E hr he hb hv hs => F.run A outer s H args us vs Q E hr he hb hv (h _ _ _ _ hs)⟩
theorem Env0.make {P : Program} {w : World} {K : PySem.W.Frag} {mg : Str → Option Value} {base : Heap} {A : Around} {outer : List Env} {s : Shared} {H : Hp} (e : Env0 P w K mg base A outer s H) (C : Addr) (us : List Value) (kw : List (Str × Value)) :
  Env0 P w K mg base (A.under (.builtin "type.__call__" ⟨.ref C :: us, kw⟩)) outer s H := ⟨by first | exact e.frames | (simpa [Around.under, Code.envs, Code.isFrame, pushEnvs] using e.frames), e.mod, e.bs, e.bsz, e.funs, e.frf, e.hok, e.bare⟩
theorem Env0.in1 {P : Program} {w : World} {K : PySem.W.Frag} {mg : Str → Option Value} {base : Heap} {A : Around} {outer : List Env} {s : Shared} {H : Hp} (e : Env0 P w K mg base A outer s H) :
  Env0 P w K mg base A.in1 outer s H := ⟨e.frames, e.mod, e.bs, e.bsz, e.funs, e.frf, e.hok, e.bare⟩
section
variable {X : Cx} {pins : List (Addr × Obj)} {σ : St} {H : Hp} {s s' : Shared}
theorem Inv.env0 (I : Inv X pins σ H s) : Env0 X.prog X.w X.K X.mg X.base X.A X.stack s H :=
 ⟨I.ok.frames, I.ok.mod, I.bs, Nat.le_trans I.ok.bsz I.sz, I.stack, I.stkFree, I.hok, I.bare⟩
theorem Inv.after {Q : VK} {u : Value} (I : Inv X pins σ H s) (h : CE X.stack X.prog X.w H s Q u s') : EP X pins σ Q u s' := by
 obtain ⟨v, H', os, bare, un, hok, r, q⟩ := h
 obtain ⟨hh, g, d, t, os'⟩ := s'
 obtain rfl : os' = s.os := os
 exact ⟨v, H', I.call (h' := hh) (g' := g) (d' := d) (t' := t) (ch := []) un hok bare (fun b z => absurd z (by simp)), r, q⟩
end
def Binds (K : PySem.W.Frag) (fd : FuncData) (ps : List Str) (ds : List Value) : Prop :=
 ∀ (s : Shared) (us : List Value), K.In s.heap → (us ++ ds).length = ps.length → BindsTo s fd ⟨us, []⟩ (ps.zip (us ++ ds))
theorem Binds.all {K : PySem.W.Frag} {fd : FuncData} {ps : List Str} (h : ∀ us : List Value, us.length = ps.length → bindArgs fd ⟨us, []⟩ = pure (ps.zip us)) : Binds K fd ps [] := fun s us _ hl => by
 rw [List.append_nil] at hl ⊢
 exact .of_eq (h us hl)
def Wx (CX : CXT) (X : Cx) (E : XK) : Prop := ∀ (pins : List (Addr × Obj)) (σ : St) (H : Hp) (s : Shared) (e : Value) (s' : Shared), Inv X pins σ H s → CX X.stack H s E e s' → X.xe e s'
section
variable {X : Cx} {CX : CXT} {k : Nat} {f C : Addr} {fd : FuncData} {ps : List Str} {sp : Sp} {dvs : List V} {ds : List Value} {E : XK} {x m : Str} {p pos apos : Pos} {e o : Expr} {es : List Expr} {ta : TE} {t : TA}
theorem zap {pins : List (Addr × Obj)} {σ : St} {H : Hp} {s : Shared} {Q : VK} {us : List Value} {vs : List V} (F : FnOk X.prog X.w X.K X.mg X.base CX k f fd ps sp) (hr : Room k X.A) (hb : Binds X.K fd ps ds) (hd : Vals dvs ds) (hx : Wx CX X E)
  (I : Inv X pins σ H s) (r : Vals vs us) (h : sp (vs ++ dvs) H Q E) : wpAny (model X.prog X.w) X.A (call (.ref f) us) (EP X pins σ Q) X.xe s := by
 have r2 : Vals (vs ++ dvs) (us ++ ds) := r.append hd
 have hl : (us ++ ds).length = ps.length := by rw [← r2.length]; exact F.len _ _ _ _ h
 refine wpAny_call (codeAny_mono (F.run X.A X.stack s H ⟨us, []⟩ (us ++ ds) (vs ++ dvs) Q E hr I.env0 (hb s us I.kIn hl) r2 h) fun r s' hq => ?_)
 cases r with
 | error e => exact hx pins σ H s e s' I hq
 | ok fl =>
  cases fl with
  | ret u => exact I.after hq
  | next => exact False.elim hq
  | brk => exact False.elim hq
  | cont => exact False.elim hq
structure Mk (K : PySem.W.Frag) (C f : Addr) : Prop where
 makes : PySem.W.makesIn K C = true
 init : PySem.W.findIn K (.ref C) "__init__" = some (some (.ref f))
 fn : PySem.W.isFn K (.ref f) = true
 kp : PySem.W.keepIn K (.ref C) = true
theorem zao {pins : List (Addr × Obj)} {σ : St} {H : Hp} {s : Shared} {Q : VK} {us : List Value} {vs : List V} (M : Mk X.K C f) (F : FnOk X.prog X.w X.K X.mg X.base CX k f fd ps sp) (hr : Room (k + 1) X.A) (hb : Binds X.K fd ps ds) (hd : Vals dvs ds)
  (hx : Wx CX X E) (I : Inv X pins σ H s) (r : Vals vs us)
  (h : ∀ x dx, H x = none → H dx = none → dx ≠ x → sp (.ref x :: (vs ++ dvs)) (upd (upd H dx (.own x)) x (.ins C dx [])) (fun v H2 => v = .non ∧ Q (.ref x) H2) E) :
  wpAny (model X.prog X.w) X.A (call (.ref C) us) (EP X pins σ Q) X.xe s := by
 have hq := h (s.heap.objs.size + 1) s.heap.objs.size (I.hok.fresh (Nat.le_succ _)) (I.hok.fresh (Nat.le_refl _)) (Nat.ne_of_lt (Nat.lt_succ_self _))
 have I2 := Inv.made (C := C) I
 have r2 : Vals (V.ref (s.heap.objs.size + 1) :: (vs ++ dvs)) (Value.ref (s.heap.objs.size + 1) :: (us ++ ds)) := .cons rfl (r.append hd)
 have hl : (Value.ref (s.heap.objs.size + 1) :: us ++ ds).length = ps.length := by
  have e := r2.length
  rw [F.len _ _ _ _ hq] at e
  exact e.symm
 refine wpAny_call (Xi (f := f) I.kIn M.makes M.init (beq_iff_eq.mp M.fn) (codeAny_mono (F.run _ X.stack _ _ ⟨Value.ref (s.heap.objs.size + 1) :: us, []⟩ (Value.ref (s.heap.objs.size + 1) :: (us ++ ds)) _ _ E (hr.make C us [])
  (I2.env0.make C us []) (hb _ (Value.ref (s.heap.objs.size + 1) :: us) I2.kIn hl) r2 hq) fun r s' hq' => ?_))
 cases r with
 | error e => exact hx pins σ _ _ e s' I2 hq'
 | ok fl =>
  cases fl with
  | ret u =>
   obtain ⟨v, H', I3, rv, ev, q3⟩ := I2.after hq'
   subst ev
   exact ⟨rv, ⟨V.ref (s.heap.objs.size + 1), H', I3, rfl, q3⟩⟩
  | next => exact False.elim hq'
  | brk => exact False.elim hq'
  | cont => exact False.elim hq'
end
def PK (X : Cx) (kws : List Keyword) (t : TA) : Prop :=
 ∀ (pos : Pos) (pins : List (Addr × Obj)) (s : Shared) (σ : St) (H : Hp) (Q : List V → Hp → Prop), Inv X pins σ H s → t σ H Q → wpAny (model X.prog X.w) X.A (evalAll ((backToKw pos (keywordEach kws X.env)).map (·.2))) (AP X pins σ Q) X.xe s
section
variable {X : Cx} {CX : CXT} {k : Nat} {f C : Addr} {fd : FuncData} {ps ks : List Str} {sp : Sp} {E : XK} {x m : Str} {p pos apos kpos : Pos} {e o : Expr} {es : List Expr} {kws : List Keyword} {te ta : TE} {t tk : TA} {nm : Option Str}
variable {g : List Value → List Value → List Value} {gV : List V → List V → List V}
end
structure FnScope (N P : List Str) (sc : Scope) : Prop where
 kind : sc.kind = .function
 co : sc.isCoroutine = false
 gen : sc.isGenerator = false
 nd : N.Nodup
 pre : N.take P.length = P
 par : ∀ x ∈ P, sc.names.lookup x = some .local ∨ sc.names.lookup x = some .cell
 nofree : ∀ y ∈ sc.names, y.2 ≠ .free
theorem QU {kindOf : Str → Option NameKind} {x : Str} : ∀ {binds : List (Str × Value)} {m : Str → Option Value}, (∀ v, (x, v) ∉ binds) → bindL kindOf binds m x = m x
 | [], _, _ => rfl
 | (n, v) :: r, m, h => by
  unfold bindL
  rw [QU fun w hw => h w (List.mem_cons_of_mem _ hw)]
  split
  ·have : x ≠ n := by rintro rfl; exact h v List.mem_cons_self
   simp [this]
  ·rfl
theorem QW {kindOf : Str → Option NameKind} {x : Str} : ∀ {binds : List (Str × Value)} {m : Str → Option Value}, (∀ v, (x, v) ∉ binds) → bindC kindOf binds m x = m x
 | [], _, _ => rfl
 | (n, v) :: r, m, h => by
  unfold bindC
  rw [QW fun w hw => h w (List.mem_cons_of_mem _ hw)]
  split
  ·rfl
  ·have : x ≠ n := by rintro rfl; exact h v List.mem_cons_self
   simp [this]
theorem QV {kindOf : Str → Option NameKind} {x : Str} {v : Value} : ∀ {P : List Str} {vs : List Value} {i : Nat} {m : Str → Option Value}, P.Nodup → P[i]? = some x → vs[i]? = some v → kindOf x = some .local →
  bindL kindOf (P.zip vs) m x = some v
 | [], _, _, _, _, h, _, _ => by simp at h
 | _ :: _, [], _, _, _, _, h, _ => by simp at h
 | p :: P, w :: vs, 0, m, nd, h1, h2, hk => by
  simp at h1 h2; subst h1; subst h2
  show bindL kindOf ((p, w) :: P.zip vs) m p = _
  unfold bindL
  rw [QU fun v hv => (List.nodup_cons.mp nd).1 (List.of_mem_zip hv).1, if_pos hk]
  simp
 | p :: P, w :: vs, i + 1, m, nd, h1, h2, hk => by
  show bindL kindOf ((p, w) :: P.zip vs) m x = _
  unfold bindL
  exact QV (i := i) (List.nodup_cons.mp nd).2 (by simpa using h1) (by simpa using h2) hk
theorem QX {kindOf : Str → Option NameKind} {x : Str} {v : Value} : ∀ {P : List Str} {vs : List Value} {i : Nat} {m : Str → Option Value}, P.Nodup → P[i]? = some x → vs[i]? = some v → kindOf x ≠ some .local →
  bindC kindOf (P.zip vs) m x = some v
 | [], _, _, _, _, h, _, _ => by simp at h
 | _ :: _, [], _, _, _, _, h, _ => by simp at h
 | p :: P, w :: vs, 0, m, nd, h1, h2, hk => by
  simp at h1 h2; subst h1; subst h2
  show bindC kindOf ((p, w) :: P.zip vs) m p = _
  unfold bindC
  rw [QW fun v hv => (List.nodup_cons.mp nd).1 (List.of_mem_zip hv).1, if_neg hk]
  simp
 | p :: P, w :: vs, i + 1, m, nd, h1, h2, hk => by
  show bindC kindOf ((p, w) :: P.zip vs) m x = _
  unfold bindC
  exact QX (i := i) (List.nodup_cons.mp nd).2 (by simpa using h1) (by simpa using h2) hk
def start (N : List Str) (vs : List V) : St := vs.map some ++ List.replicate (N.length - vs.length) none
def Zo (CX : CXT) (P : Program) (w : World) (K : PySem.W.Frag) (mg : Str → Option Value) (base : Heap) (N : List Str) (qual : Str) (scope : Scope) (f : Addr) (cd : Value) (A : Around) (outer : List Env) (s : Shared) (H : Hp) (E : XK) : Cx where
 prog := P
 w := w
 K := K
 mg := mg
 base := base
 A := A.deeper (envOfC qual scope s.heap.objs.size f cd)
 N := N
 s₀ := s
 H₀ := H
 env := envOfC qual scope s.heap.objs.size f cd
 outer := outer
 stack := envOfC qual scope s.heap.objs.size f cd :: outer
 ex := []
 calm := true
 fn := fun _ => true
 pn := []
 xe := fun e s' => wpAny (model P w) (A.deeper (envOfC qual scope s.heap.objs.size f cd)) (leaving (envOfC qual scope s.heap.objs.size f cd) e) (fun _ s'' => CX outer H s E e s'') (fun e' s'' => CX outer H s E e' s'') s'
theorem XA {sc : Scope} {n : Nat} {x : Str} (h : sc.names.lookup x = some .cell) : ∃ c, (cellsFrom n sc.names []).lookup x = some c := by
 have q := PySem.W.cellsFrom_some sc.names n [] (.inl h)
 exact Option.isSome_iff_exists.mp q
theorem VP {CX : CXT} {P : Program} {w : World} {K : PySem.W.Frag} {mg : Str → Option Value} {base : Heap} {N ps : List Str} {qual : Str} {scope : Scope} {f : Addr} {cd : Value} {A : Around} {outer : List Env} {s s1 : Shared} {H : Hp} {E : XK} {us : List Value} {vs : List V}
  (S : FnScope N ps scope) (hd : A.handled = none) (e0 : Env0 P w K mg base A outer s H) (hl : vs.length = ps.length) (r : Vals vs us)
  (x : InCallC s s.heap.objs.size (bindL (envOfC qual scope s.heap.objs.size f cd).kindOf (ps.zip us) fun _ => none) (cellsFrom (s.heap.objs.size + 1) scope.names []) (bindC (envOfC qual scope s.heap.objs.size f cd).kindOf (ps.zip us) fun _ => none) s1) :
  Inv (Zo CX P w K mg base N qual scope f cd A outer s H E) [] (start N vs) H s1 := by
 have hpl : ps.length ≤ N.length := by have := congrArg List.length S.pre; rw [List.length_take] at this; omega
 obtain ⟨h1, tk, rfl, hk⟩ := x.done
 have noA : ∀ b : Addr, b ∉ (Zo CX P w K mg base N qual scope f cd A outer s H E).ex := fun b z => absurd (show b ∈ ([] : List Addr) from z) (by simp)
 refine ⟨⟨e0.mod, S.kind, rfl, rfl, Nat.le_refl _, fun y z c h1 h2 => ?_, fun y hy => ?_, fun y c _ h => ?_, fun _ => hd, Around.frames_deeper e0.frames, .inr ⟨rfl, rfl⟩, fun b z => absurd z (noA b), e0.bs, e0.bsz, fun b _ _ => noA b, fun b z => absurd z (noA b), e0.funs, e0.frf⟩,
  rfl, e0.bare, Un.kept hk, ⟨_, x.toInCall.ns, fun i y v h1 h2 h3 => ?_⟩, fun y c h => ⟨_, x.cell y c h⟩, e0.hok.fresh (Nat.le_refl _), fun y c h => ?_, fun p hp => absurd (show p ∈ ([] : List (Addr × Obj)) from hp) (by simp), e0.hok.kept hk, ?_⟩
 ·exact name_of_addr x.apart (PySem.mem_of_lookup h1) (PySem.mem_of_lookup h2)
 ·have hy : scope.names.lookup y = some .cell ∨ scope.names.lookup y = some .free := hy
  rcases hy with hy | hy
  ·exact XA hy
  ·exact absurd rfl (S.nofree _ (PySem.mem_of_lookup hy))
 ·exact Nat.le_of_lt (x.above y c (PySem.mem_of_lookup h))
 ·have hi : i < vs.length := by
   unfold start at h2
   by_cases hi : i < vs.length
   ·exact hi
   ·rw [List.getElem?_append_right (by simpa using hi)] at h2
    rw [List.getElem?_replicate] at h2
    split at h2 <;> cases h2
  have ha : vs[i]? = some v := by
   unfold start at h2
   rw [List.getElem?_append_left (by simpa using hi), List.getElem?_map] at h2
   cases e : vs[i]? with
   | none => rw [e] at h2; cases h2
   | some a => rw [e] at h2; cases h2; rfl
  obtain ⟨u, hu, rv⟩ := r.get ha
  have hp : ps[i]? = some y := by
   rw [← S.pre, List.getElem?_take_of_lt (by omega)]; exact h1
  have ndP : ps.Nodup := by rw [← S.pre]; exact S.nd.sublist (List.take_sublist _ _)
  refine ⟨u, rv, ?_⟩
  rcases S.par y (List.mem_of_getElem? hp) with k | k
  ·exact .inl ⟨k, QV ndP hp hu k⟩
  ·obtain ⟨c, e⟩ := XA (n := s.heap.objs.size + 1) k
   refine .inr ⟨.inl k, c, e, ?_⟩
   have q := x.cell y c e
   rw [QX ndP hp hu (by show scope.names.lookup y ≠ _; rw [k]; decide)] at q
   exact q
 ·exact e0.hok.fresh (Nat.le_of_lt (x.above y c (PySem.mem_of_lookup h)))
 ·unfold start
  show _ = N.length
  rw [List.length_append, List.length_map, List.length_replicate]
  omega
theorem za1 {CX : CXT} {P : Program} {w : World} {K : PySem.W.Frag} {mg : Str → Option Value} {base : Heap} {k : Nat} {f : Addr} {name qual : Str} {params : Arguments} {body : List Stmt} {scope : Scope} {dV kV doc pm cdv ct oc : Value} {an od : Option Addr}
  {osl : Array (Option Value)} {N ps : List Str} {sp : Sp} (lk : K.lookup f = some ⟨oc, od, .func (PySem.W.fnOf name qual params body scope dV kV doc pm an cdv ct), osl⟩) (hcd : PySem.W.codeIn K cdv qual = true) (S : FnScope N ps scope)
  (len : ∀ vs H Q E, sp vs H Q E → vs.length = ps.length)
  (hbody : ∀ (A : Around) (outer : List Env) (s : Shared) (H : Hp) (vs : List V) (Q : VK) (E : XK), Room k (A.deeper (envOfC qual scope s.heap.objs.size f cdv)) → sp vs H Q E →
   ∃ t, PSs (Zo CX P w K mg base N qual scope f cdv A outer s H E) body t ∧ t { nx := fun _ H' => Q .non H', rt := Q } (start N vs) H) :
  FnOk P w K mg base CX (k + 1) f (PySem.W.fnOf name qual params body scope dV kV doc pm an cdv ct) ps sp := by
 refine ⟨len, fun A outer s H args us vs Q E hr e0 hb r hsp => ?_⟩
 have hl := len _ _ _ _ hsp
 have KX : K.In s.heap := e0.mod.kin.keeps fun b o e => (e0.bs b o e).1
 have lim : s.heap.NoLimit := e0.mod.nolimit.keeps fun b o e => (e0.bs b o e).1
 have hkind : ∀ y ∈ ps.zip us, scope.names.lookup y.1 = some .local ∨ (scope.names.lookup y.1 = some .cell ∧ ((cellsFrom (s.heap.objs.size + 1) scope.names []).lookup y.1).isSome = true) := fun ⟨n, v⟩ hy => by
  rcases S.par n (List.of_mem_zip hy).1 with q | q
  ·exact .inl q
  ·exact .inr ⟨q, PySem.W.cellsFrom_some _ _ _ (.inl q)⟩
 refine codeAny_call_function hr.depth (KX _ _ lk) rfl S.co S.gen rfl (PySem.W.codeRec_of KX hcd) (hb _ _ _ _ ?_)
 refine wpAny_newFunctionEnv_cells S.kind hkind fun env he s1 x => ?_
 subst he
 refine ⟨lim.keeps x.toInCall.keep, codeAny_func ?_⟩
 obtain ⟨t, ht, hq⟩ := hbody A outer s H vs Q E (hr.deeper _) hsp
 have I : Inv (Zo CX P w K mg base N qual scope f cdv A outer s H E) [] (start N vs) H s1 := VP S hr.hd e0 hl r x
 refine wpAny_mono (ht [] s1 (start N vs) H _ I hq) (fun fl s' hs => ?_) fun e s' hs => hs
 have fin : ∀ {σ' : St} {H' : Hp} {v : V} {u : Value}, Inv (Zo CX P w K mg base N qual scope f cdv A outer s H E) [] σ' H' s' → RelV v u → Q v H' → CE outer P w H s Q u s' :=
  fun {σ' H' v u} J rv q => ⟨v, H', J.os, J.bare, J.base, J.hok, rv, q⟩
 cases fl with
 | ret u =>
  obtain ⟨v, σ', H', J, rv, q⟩ := hs
  exact fin J rv q
 | next =>
  obtain ⟨σ', H', J, q⟩ := hs
  exact fin (v := V.non) (u := Value.none) J rfl q
 | brk =>
  obtain ⟨_, _, _, q⟩ := hs
  exact False.elim q
 | cont =>
  obtain ⟨_, _, _, q⟩ := hs
  exact False.elim q
end L2
namespace L2
open PySem PySem.Spec PyProof.Rows
section
variable {X : Cx} {x : Str} {p pos : Pos} {e : Expr} {es : List Expr} {t : TA} {id T : String} {r : List V → Hp → VK → Prop}
def tCB (r : List V → Hp → VK → Prop) (t : TA) : TE := fun σ H Q => t σ H fun vs H1 => r vs H1 Q
theorem zaz (hc : CallR X (.builtin id) r) (hg : Gl X x) (hm : X.mg x = none) (hv : bootBuiltins x = some (.builtin id)) (ha : PA X (e :: es) t) (hn : x ≠ "__name__" := by decide) (hdb : (x == ("__debug__" : Str)) = false := by decide)
  (he : starEach (e :: es) X.env = (false, eval e X.env) :: starEach es X.env := by rfl) (hpl : (backTo pos (starEach es X.env)).any (·.1) = false := by rfl) : PE X (.Call (.Name x p) (e :: es) [] pos) (tCB r t) := by
 intro pins s σ H Q I h
 refine wpAny_Call_Name_kw (xV I hg hm hv ?_ hn hdb)
 exact PyProof.Rows.callWith_builtin1 (thn (ha pos pins s σ H _ I h) fun us s1 ⟨vs, H1, I1, r1, q1⟩ => hc pins s1 σ H1 vs us Q I1 r1 q1) he hpl
theorem Vx (hc : CallR X (.type T) r) (hg : Gl X x) (hm : X.mg x = none) (hv : bootBuiltins x = some (.type T)) (ha : PA X (e :: es) t) (hn : x ≠ "__name__" := by decide) (hdb : (x == ("__debug__" : Str)) = false := by decide)
  (he : starEach (e :: es) X.env = (false, eval e X.env) :: starEach es X.env := by rfl) (hpl : (backTo pos (starEach es X.env)).any (·.1) = false := by rfl) : PE X (.Call (.Name x p) (e :: es) [] pos) (tCB r t) := by
 intro pins s σ H Q I h
 refine wpAny_Call_Name_kw (xV I hg hm hv ?_ hn hdb)
 exact PyProof.Rows.callWith_type1 (thn (ha pos pins s σ H _ I h) fun us s1 ⟨vs, H1, I1, r1, q1⟩ => hc pins s1 σ H1 vs us Q I1 r1 q1) he hpl
end
end L2
namespace HT
open PySem PyProof.Rows
section
open PySem.SeqAt
open PySem.AutoSeq1 (wpAny_loadPart')
open PySem.MeetsSeq PySem.MeetsSeq2 PySem.MeetsSeq3
end
section
variable {prog : Program} {w : World} {A : Around} {E : Value → Shared → Prop} {s : Shared}
def sIx (n d : Nat) : Option Int → Nat
 | none => d
 | some v => if v < 0 then (v + (n : Int)).toNat else min v.toNat n
theorem sIx_none (n d : Nat) : sIx n d none = d := rfl
theorem sIx_nat (n d k : Nat) : sIx n d (some (k : Int)) = min k n := by
 show (if (k : Int) < 0 then ((k : Int) + (n : Int)).toNat else min (k : Int).toNat n) = min k n
 rw [if_neg (by omega), Int.toNat_natCast]
end
end HT
namespace L2
open PySem PySem.Spec PyProof.Rows
abbrev TO := St → Hp → (Option Int → Hp → Prop) → Prop
def PO (X : Cx) (e : Option Expr) (t : TO) : Prop :=
 ∀ (pins : List (Addr × Obj)) (s : Shared) (σ : St) (H : Hp) (Q : Option Int → Hp → Prop), Inv X pins σ H s → t σ H Q →
  wpAny (model X.prog X.w) X.A (evalPart e X.env) (fun u s' => ∃ o H', Inv X pins σ H' s' ∧ IsPart u o ∧ Q o H') X.xe s
def tNoPart : TO := fun _ H Q => Q none H
def tPart (t : TE) : TO := fun σ H Q => t σ H fun x H1 => ∃ i, x = .int i ∧ Q (some i) H1
theorem Wn {ns : List Int} : ∀ {us : List Value}, Vals (ns.map V.int) us → IntsAre us ns := by
 induction ns with
 | nil => intro us r; rw [List.map_nil] at r; cases r; exact .nil
 | cons n ns ih =>
  intro us r
  rw [List.map_cons] at r
  cases r with
  | cons r1 r2 =>
   obtain ⟨t, e⟩ := r1
   subst e
   exact .cons n t (ih r2)
section
variable {X : Cx} {e : Expr} {te : TE} {lo hi : Option Expr} {tl th : TO} {pos p2 : Pos}
theorem va : PO X none tNoPart := by
 intro pins s σ H Q I h
 rw [evalPart_none]
 exact wpAny_pure ⟨none, H, I, .none, h⟩
theorem xA (h : PE X e te) : PO X (some e) (tPart te) := by
 intro pins s σ H Q I hw
 rw [evalPart_some]
 refine thn (h pins s σ H _ I hw) fun u s1 ⟨x, H1, I1, r1, q1⟩ => ?_
 obtain ⟨i, rfl, q⟩ := q1
 obtain ⟨t, rfl⟩ := r1
 exact ⟨some i, H1, I1, .int i t, q⟩
def SlR (X : Cx) (r : V → Option Int → Option Int → Hp → VK → Prop) : Prop :=
 ∀ (pins : List (Addr × Obj)) (s : Shared) (σ : St) (H : Hp) (x : V) (v vl vu : Value) (lo hi : Option Int) (sl : Addr) (Q : VK), Inv X pins σ H s → RelV x v → s.heap.IsSliceOf sl vl vu .none → IsPart vl lo → IsPart vu hi → r x lo hi H Q →
  ∃ T id, typeLookup (.type T) "__getitem__" = pure (some (.builtin id)) ∧ s.TypeIs v T ∧ wpAny (model X.prog X.w) X.A (getItem v (.ref sl)) (EP X pins σ Q) X.xe s
theorem SlR.or {r r' : V → Option Int → Option Int → Hp → VK → Prop} (h : SlR X r) (h' : SlR X r') : SlR X (fun x lo hi H Q => r x lo hi H Q ∨ r' x lo hi H Q) := by
 intro pins s σ H x v vl vu lo hi sl Q I rx hs pl pu q
 rcases q with q | q
 ·exact h pins s σ H x v vl vu lo hi sl Q I rx hs pl pu q
 ·exact h' pins s σ H x v vl vu lo hi sl Q I rx hs pl pu q
def tSl (r : V → Option Int → Option Int → Hp → VK → Prop) (te : TE) (tl th : TO) : TE := fun σ H Q => te σ H fun x H1 => tl σ H1 fun l H2 => th σ H2 fun u H3 => r x l u H3 Q
theorem xi {r : V → Option Int → Option Int → Hp → VK → Prop} (hr : SlR X r) (he : PE X e te) (hl : PO X lo tl) (hu : PO X hi th) : PE X (.Subscript e (.Slice lo hi none p2) pos) (tSl r te tl th) := by
 intro pins s σ H Q I h
 refine Subscript_ (thn (he pins s σ H _ I h) fun v s1 ⟨x, H1, I1, r1, q1⟩ => ?_)
 refine wpAny_Slice (thn (hl pins s1 σ H1 _ I1 q1) fun vl s2 ⟨l, H2, I2, pl, q2⟩ => thn (hu pins s2 σ H2 _ I2 q2) fun vu s3 ⟨u, H3, I3, pu, q3⟩ => ?_)
 rw [evalPart_none]
 refine wpAny_pure ?_
 have I4 : Inv X pins σ H3 { s3 with heap := s3.heap.push { cls := .type "slice", data := .fields #[vl, vu, .none] } } := I3.kept (t' := s3.toks) fun b ob q => Heap.get?_push_of_some _ q
 obtain ⟨T, id, hT, ht, hg⟩ := hr pins { s3 with heap := s3.heap.push { cls := .type "slice", data := .fields #[vl, vu, .none] } } σ H3 x v vl vu l u s3.heap.objs.size Q I4 r1 (Heap.IsSliceOf.new ..) pl pu q3
 show wpAny (model X.prog X.w) X.A (subscriptTail e (.Slice lo hi none p2) v (.ref s3.heap.objs.size)) (EP X pins σ Q) X.xe { s3 with heap := s3.heap.push { cls := .type "slice", data := .fields #[vl, vu, .none] } }
 exact tail_any (ops := [.ref s3.heap.objs.size, v]) ht hT hg (by with_unfolding_all rfl)
def vj (xs : List V) (lo hi : Option Int) : List V := (xs.drop (HT.sIx xs.length 0 lo)).take (HT.sIx xs.length xs.length hi - HT.sIx xs.length 0 lo)
theorem Xx (xs : List V) (lo hi : Option Int) : (vj xs lo hi).length ≤ xs.length := by
 unfold vj
 rw [List.length_take, List.length_drop]
 omega
end
end L2
namespace L2
open PySem PySem.Spec PyProof.Rows
def ixN (n : Nat) (i : Int) : Option Nat := if 0 ≤ i then (if i < n then some i.toNat else none) else if -(n : Int) ≤ i then some (i + n).toNat else none
def atI {α : Type} (xs : List α) (i : Int) : Option α := (ixN xs.length i).bind fun j => xs[j]?
theorem WM {n : Nat} {i : Int} {j : Nat} (h : ixN n i = some j) : seqIndex? i n = some j ∧ j < n ∧ -(n : Int) ≤ i ∧ i < n := by
 unfold ixN at h
 by_cases h0 : 0 ≤ i
 ·rw [if_pos h0] at h
  by_cases h1 : i < n
  ·rw [if_pos h1] at h
   have e : i.toNat = j := Option.some.inj h
   exact ⟨by rw [seqIndex_of h0 h1, e], by omega, by omega, h1⟩
  ·rw [if_neg h1] at h; cases h
 ·rw [if_neg h0] at h
  by_cases h1 : -(n : Int) ≤ i
  ·rw [if_pos h1] at h
   have e : (i + n).toNat = j := Option.some.inj h
   exact ⟨by rw [seqIndex_neg (by omega) h1, e], by omega, h1, by omega⟩
  ·rw [if_neg h1] at h; cases h
theorem Zt {α : Type} {xs : List α} {i : Int} {v : α} (h : atI xs i = some v) : ∃ j, seqIndex? i xs.length = some j ∧ xs[j]? = some v ∧ j < xs.length ∧ -(xs.length : Int) ≤ i ∧ i < xs.length := by
 unfold atI at h
 cases e : ixN xs.length i with
 | none => rw [e] at h; cases h
 | some j =>
  rw [e] at h
  obtain ⟨h1, h2, h3, h4⟩ := WM e
  exact ⟨j, h1, h, h2, h3, h4⟩
theorem zK {α : Type} {xs : List α} {j : Nat} {v : α} (h : xs[j]? = some v) : atI xs (j : Int) = some v := by
 have hj : j < xs.length := (List.getElem?_eq_some_iff.mp h).1
 have e : ixN xs.length (j : Int) = some j := by
  unfold ixN
  rw [if_pos (by omega), if_pos (by omega)]; simp
 unfold atI; rw [e]; exact h
def Vc (b : Expr) : Prop := ∀ o i, subscripted b false o i = operate [o, i] (getItem o i)
def IxR (X : Cx) (r : R2) : Prop :=
 ∀ (value slice : Expr) (pins : List (Addr × Obj)) (s : Shared) (σ : St) (H : Hp) (x y : V) (v u : Value) (Q : VK), Inv X pins σ H s → RelV x v → RelV y u → r x y H Q →
  subscripted slice false v u = operate [v, u] (getItem v u) → wpAny (model X.prog X.w) X.A (subscriptTail value slice v u) (EP X pins σ Q) X.xe s
def MtR (X : Cx) (id : String) (r : V → List V → Hp → VK → Prop) : Prop :=
 ∀ (pins : List (Addr × Obj)) (s : Shared) (σ : St) (H : Hp) (x : V) (xs : List V) (v : Value) (us : List Value) (Q : VK), Inv X pins σ H s → RelV x v → Vals xs us → r x xs H Q →
  wpAny (model X.prog X.w) X.A (call (.builtin id) (v :: us)) (EP X pins σ Q) X.xe s
section
variable {X : Cx} {a b : Expr} {ta tb : TE} {pos : Pos}
theorem IxR.or {r r' : R2} (h : IxR X r) (h' : IxR X r') : IxR X (fun x y H Q => r x y H Q ∨ r' x y H Q) := by
 intro value slice pins s σ H x y v u Q I rx ry q hs
 rcases q with q | q
 ·exact h value slice pins s σ H x y v u Q I rx ry q hs
 ·exact h' value slice pins s σ H x y v u Q I rx ry q hs
theorem MtR.or {id : String} {r r' : V → List V → Hp → VK → Prop} (h : MtR X id r) (h' : MtR X id r') : MtR X id (fun x xs H Q => r x xs H Q ∨ r' x xs H Q) := by
 intro pins s σ H x xs v us Q I rx rs q
 rcases q with q | q
 ·exact h pins s σ H x xs v us Q I rx rs q
 ·exact h' pins s σ H x xs v us Q I rx rs q
theorem zcO {r : R2} (hr : IxR X r) (ha : PE X a ta) (hb : PE X b tb) (hs : Vc b) : PE X (.Subscript a b pos) (tOp r ta tb) := by
 intro pins s σ H Q I h
 exact Subscript_ (zct ha hb I h fun v u s2 x y H2 I2 rx ry q => hr a b pins s2 σ H2 x y v u Q I2 rx ry q (hs _ _))
def zcM (K : PySem.W.Frag) : R2 := fun x y H Q => ∃ p xs i v, x = .ref p ∧ y = .int i ∧ SqL K H p xs ∧ atI xs i = some v ∧ Q v H
def zcK (K : PySem.W.Frag) : R2 := fun x y H Q => ∃ p xs i v, x = .ref p ∧ y = .int i ∧ SqT K H p xs ∧ atI xs i = some v ∧ Q v H
def zcL : R2 := fun x y H Q => ∃ z i c, x = .str z ∧ y = .int i ∧ z.length ≤ sizeLine ∧ atI z.cps.toList i = some c ∧ Q (.str ⟨#[c]⟩) H
theorem ix_list : IxR X (zcM X.K) := by
 intro value slice pins s σ H x y v u Q I rx ry h hs
 obtain ⟨p, xs, i, z, rfl, rfl, hq, he, q⟩ := h
 cases rx
 obtain ⟨t, rfl⟩ := ry
 obtain ⟨its, r, pl, hz⟩ := I.list hq
 obtain ⟨j, h1, h2, h3, h4, h5⟩ := Zt he
 obtain ⟨w, ew, rw'⟩ := r.get h2
 have hl := r.length
 have hn := wK
 have fin : EP X pins σ Q w s := ⟨z, H, I, rw', q⟩
 by_cases h0 : 0 ≤ i
 ·have hj : i.toNat = j := by
   rw [seqIndex_of h0 h5] at h1
   exact Option.some.inj h1
  exact item_listR pl.isList h0 (by omega) (by rw [hj]; simpa using ew) fin hs
 ·have hj : (i + (its.toArray.size : Int)).toNat = j := by
   rw [seqIndex_neg (by omega) h4] at h1
   rw [List.size_toArray, ← hl]
   exact Option.some.inj h1
  exact subscriptTail_builtinR (x := w) pl.isList.typeIs slot_list_getitem.lookup
   (wpAny_getItem_list_neg (Q := fun r s' => r = w ∧ EP X pins σ Q r s') pl.isList (by omega) (by rw [List.size_toArray] <;> omega) (by omega) (by rw [hj]; simpa using ew) ⟨rfl, fin⟩) hs
theorem ix_tup : IxR X (zcK X.K) := by
 intro value slice pins s σ H x y v u Q I rx ry h hs
 obtain ⟨p, xs, i, z, rfl, rfl, hq, he, q⟩ := h
 cases rx
 obtain ⟨t, rfl⟩ := ry
 obtain ⟨its, r, pl, hz⟩ := I.tuple hq
 obtain ⟨j, h1, h2, h3, h4, h5⟩ := Zt he
 obtain ⟨w, ew, rw'⟩ := r.get h2
 have hl := r.length
 have hn := wK
 have fin : EP X pins σ Q w s := ⟨z, H, I, rw', q⟩
 exact subscriptTail_builtinR (x := w) pl.typeIs slot_tuple_getitem.lookup
  (getItem_tuple (j := j) (Q := fun r s' => r = w ∧ EP X pins σ Q r s') pl (by omega) (by omega) (by rw [List.size_toArray, ← hl]; exact h1) (by simpa using ew) ⟨rfl, fin⟩) hs
theorem zcj : IxR X zcL := by
 intro value slice pins s σ H x y v u Q I rx ry h hs
 obtain ⟨z, i, c, rfl, rfl, hz, he, q⟩ := h
 obtain ⟨t, rfl⟩ := rx
 obtain ⟨t', rfl⟩ := ry
 obtain ⟨j, h1, h2, h3, h4, h5⟩ := Zt he
 have hl : z.cps.toList.length = z.length := by simp [Str.length]
 rw [hl] at h1 h4 h5
 have hn := wK
 exact tail_any (typeIs_str s z t) slot_str_getitem.lookup (getItem_str (c := c) (by
  have e1 : decide (i < -(2 ^ 63 : Int)) = false := decide_eq_false (by omega)
  have e2 : decide (i ≥ 2 ^ 63) = false := decide_eq_false (by omega)
  rw [e1, e2, Bool.or_false]) (by rw [h1]; simpa using h2) ⟨.str ⟨#[c]⟩, H, I.tok _, ⟨_, rfl⟩, q⟩) hs
def rIx (K : PySem.W.Frag) : R2 := fun x y H Q => zcM K x y H Q ∨ zcK K x y H Q ∨ zcL x y H Q
theorem zck : IxR X (rIx X.K) := ix_list.or (ix_tup.or zcj)
theorem Wc (its : List Value) (n j : Nat) (u : Value) : Obj.mapSeq (·.setIfInBounds j u) { cls := .type "list", data := .seq its.toArray n } = { cls := .type "list", data := .seq (its.set j u).toArray n } := by
 simp [Obj.mapSeq]
theorem Inv.lst {pins : List (Addr × Obj)} {σ : St} {H : Hp} {s : Shared} {p : Addr} {xs : List V} (I : Inv X pins σ H s) (h : H p = some (.lst xs)) :
  ∃ (its : List Value) (n : Nat), Vals xs its ∧ s.heap.get? p = some { cls := .type "list", data := .seq its.toArray n } ∧ xs.length ≤ sizeLine := by
 obtain ⟨z, its, n, r, e⟩ := I.hok p _ h
 exact ⟨its, n, r, e, z⟩
theorem Inv.lstUpd {pins : List (Addr × Obj)} {σ : St} {H : Hp} {s : Shared} {p : Addr} {xs ys : List V} {its its' : List Value} {n n' : Nat} {f : Obj → Obj} (I : Inv X pins σ H s) (h : H p = some (.lst xs))
  (ho : s.heap.get? p = some { cls := .type "list", data := .seq its.toArray n }) (hf : f { cls := .type "list", data := .seq its.toArray n } = { cls := .type "list", data := .seq its'.toArray n' }) (r : Vals ys its') (hz : ys.length ≤ sizeLine) (t : Nat) :
  Inv X pins σ (upd H p (.lst ys)) { s with heap := s.heap.update p f, toks := t } := by
 have e : (s.heap.update p f).get? p = some { cls := .type "list", data := .seq its'.toArray n' } := by
  rw [Heap.get?_update_self f ho (by rw [hf] <;> rfl), hf]
 refine I.write (x := p) (e := p) (by rw [h]; trivial) (.inl rfl) (fun b u hb q => (Heap.get?_update_other _ _ (Ne.symm hb)).trans q) ⟨_, e⟩ ?_
 exact ⟨hz, its', n', r, e⟩
def zbL : V → V → V → Hp → (Hp → Prop) → Prop := fun o i v H Q => ∃ p xs k j, o = .ref p ∧ i = .int k ∧ H p = some (.lst xs) ∧ ixN xs.length k = some j ∧ Q (upd H p (.lst (xs.set j v)))
theorem jP : zcx X zbL := by
 intro pins s σ H o i v ov iv u Q I ro ri rv h
 obtain ⟨p, xs, k, j, rfl, rfl, hp, hj, q⟩ := h
 cases ro
 obtain ⟨t, rfl⟩ := ri
 obtain ⟨its, n, r, ho, hz⟩ := I.lst hp
 obtain ⟨h1, h2, h3, h4⟩ := WM hj
 have hl := r.length
 have hn := wK
 have I' : Inv X pins σ (upd H p (.lst (xs.set j v))) { s with heap := s.heap.update p (Obj.mapSeq (·.setIfInBounds j u)) } :=
  I.lstUpd hp ho (Wc its n j u) (r.set rv j) (by rw [List.length_set]; exact hz) s.toks
 by_cases h0 : 0 ≤ k
 ·have hk : k.toNat = j := by
   rw [seqIndex_of h0 h4] at h1
   exact Option.some.inj h1
  exact PySem.W.ki_setAt ho h0 (by omega) (by rw [List.size_toArray, ← hl]; exact h4) (by rw [hk]; exact ⟨_, I', q⟩)
 ·have hk : (k + (its.toArray.size : Int)).toNat = j := by
   rw [seqIndex_neg (by omega) h3] at h1
   rw [List.size_toArray, ← hl]
   exact Option.some.inj h1
  exact PySem.W.ki_setBack ho (by omega) (by rw [List.size_toArray, ← hl]; exact h3) (by omega) (by rw [hk]; exact ⟨_, I', q⟩)
theorem Q7 (lo hi : Option Int) (n : Nat) : (sliceBounds lo hi none n).1 = ((HT.sIx n 0 lo : Nat) : Int) ∧ (sliceBounds lo hi none n).2.1 = ((HT.sIx n n hi : Nat) : Int) ∧ (sliceBounds lo hi none n).2.2 = 1 := by
 refine ⟨?_, ?_, rfl⟩
 ·cases lo with
  | none => simp [sliceBounds, HT.sIx]
  | some i =>
   simp only [sliceBounds, HT.sIx, Option.getD_none, show (1 : Int) > 0 by decide, if_true]
   by_cases h : i < 0
   ·simp only [h, if_true] <;> omega
   ·simp only [h, if_false] <;> omega
 ·cases hi with
  | none => simp [sliceBounds, HT.sIx]
  | some i =>
   simp only [sliceBounds, HT.sIx, Option.getD_none, show (1 : Int) > 0 by decide, if_true]
   by_cases h : i < 0
   ·simp only [h, if_true] <;> omega
   ·simp only [h, if_false] <;> omega
theorem Qe (its : List Value) (lo hi : Option Int) : slicePick its.toArray lo hi none = ((its.drop (HT.sIx its.length 0 lo)).take (HT.sIx its.length its.length hi - HT.sIx its.length 0 lo)).toArray := by
 obtain ⟨h1, h2, h3⟩ := Q7 lo hi its.toArray.size
 unfold slicePick
 rw [h1, h2, h3]
 simp only [sliceRange_one, pick_run, List.size_toArray] <;> rfl
def zbY (K : PySem.W.Frag) : V → Option Int → Option Int → Hp → VK → Prop := fun x lo hi H Q => ∃ a xs, x = .ref a ∧ SqL K H a xs ∧ ∀ p, H p = none → Q (.ref p) (upd H p (.lst (vj xs lo hi)))
theorem zbh : SlR X (zbY X.K) := by
 intro pins s σ H x v vl vu lo hi sl Q I rx hs pl pu h
 obtain ⟨a, xs, rfl, hx, q⟩ := h
 cases rx
 obtain ⟨its, r, ht, hz⟩ := I.list hx
 have hlen := r.length
 refine ⟨"list", _, slot_list_getitem.lookup, ht.isList.typeIs, ?_⟩
 refine wpAny_getItem_list_slice ht.isList hs pl pu .none (by simp) ?_ (by rw [List.size_toArray] <;> omega)
 rw [Qe, ← hlen]
 refine ⟨.ref s.heap.objs.size, _, I.laid (t' := s.toks) (o := .lst (vj xs lo hi)) (fun b ob q => Heap.get?_push_of_some _ q) (Nat.le_refl _) ?_, rfl, q _ (I.hok.fresh (Nat.le_refl _))⟩
 exact ⟨Nat.le_trans (Xx xs lo hi) hz, _, 0, (r.drop (HT.sIx xs.length 0 lo)).take (HT.sIx xs.length xs.length hi - HT.sIx xs.length 0 lo), Heap.get?_push_size _ rfl⟩
def xn : V → Bool
 | .non => true
 | .bl _ => true
 | .int _ => true
 | .str _ => true
 | _ => false
def eqV : V → V → Bool
 | .non, .non => true
 | .bl a, .bl b => a == b
 | .bl a, .int b => (if a then 1 else 0) == b
 | .int a, .bl b => a == (if b then 1 else 0)
 | .int a, .int b => a == b
 | .str a, .str b => a == b
 | _, _ => false
theorem Z7 {A : Around} {s : Shared} {y x : V} {u v : Value} (ry : RelV y u) (rx : RelV x v) (fy : xn y = true) (fx : xn x = true) : SeqAt.EqAt A s u v (eqV y x) := by
 cases y with
 | non =>
  cases ry
  cases x with
  | non => cases rx; exact SeqAt.EqAt.same _
  | bl b => cases rx; exact SeqAt.EqAt.none_bool b
  | int b => obtain ⟨t, rfl⟩ := rx; exact SeqAt.EqAt.none_int b t
  | str b => obtain ⟨t, rfl⟩ := rx; exact SeqAt.EqAt.none_str b t
  | _ => exact absurd (show false = true from fx) Bool.false_ne_true
 | bl a =>
  cases ry
  cases x with
  | non => cases rx; exact SeqAt.EqAt.bool_none a
  | bl b => cases rx; exact SeqAt.EqAt.bool_bool a b
  | int b => obtain ⟨t, rfl⟩ := rx; exact SeqAt.EqAt.bool_int a b t
  | str b => obtain ⟨t, rfl⟩ := rx; exact SeqAt.EqAt.bool_str a b t
  | _ => exact absurd (show false = true from fx) Bool.false_ne_true
 | int a =>
  obtain ⟨t', rfl⟩ := ry
  cases x with
  | non => cases rx; exact SeqAt.EqAt.int_none a t'
  | bl b => cases rx; exact SeqAt.EqAt.int_bool a t' b
  | int b => obtain ⟨t, rfl⟩ := rx; exact SeqAt.EqAt.int_int a t' b t
  | str b => obtain ⟨t, rfl⟩ := rx; exact SeqAt.EqAt.int_str a t' b t
  | _ => exact absurd (show false = true from fx) Bool.false_ne_true
 | str a =>
  obtain ⟨t', rfl⟩ := ry
  cases x with
  | non => cases rx; exact SeqAt.EqAt.str_none a t'
  | bl b => cases rx; exact SeqAt.EqAt.str_bool a t' b
  | int b => obtain ⟨t, rfl⟩ := rx; exact SeqAt.EqAt.str_int a t' b t
  | str b => obtain ⟨t, rfl⟩ := rx; exact SeqAt.EqAt.str_str a t' b t
  | _ => exact absurd (show false = true from fx) Bool.false_ne_true
 | _ => exact absurd (show false = true from fy) Bool.false_ne_true
def inV (x : V) (xs : List V) : Bool := xs.any fun y => eqV y x
theorem CallR.or {f : Value} {r r' : List V → Hp → VK → Prop} (h : CallR X f r) (h' : CallR X f r') : CallR X f (fun xs H Q => r xs H Q ∨ r' xs H Q) := by
 intro pins s σ H xs us Q I rs q
 rcases q with q | q
 ·exact h pins s σ H xs us Q I rs q
 ·exact h' pins s σ H xs us Q I rs q
theorem JE : CallR X (.type "list") (fun xs H Q => ∃ p ys, xs = [.ref p] ∧ (SqL X.K H p ys ∨ SqT X.K H p ys) ∧ ∀ l, H l = none → Q (.ref l) (upd H l (.lst ys))) := by
 intro pins s σ H xs us Q I r h
 obtain ⟨p, ys, rfl, hq, q⟩ := h
 obtain ⟨u, rfl, rx⟩ := vQ r
 cases rx
 have fin : ∀ (its : List Value), Vals ys its → ys.length ≤ sizeLine → ∀ (h' : Heap) (c' : Nat), (∀ b o', s.heap.get? b = some o' → h'.get? b = some o') →
   h'.get? s.heap.objs.size = some { cls := .type "list", dict := none, data := .seq its.toArray c', slots := #[] } → EP X pins σ Q (.ref s.heap.objs.size) { s with heap := h' } := fun its r' hz h' c' kp e =>
  ⟨.ref s.heap.objs.size, _, I.laid (t' := s.toks) kp (Nat.le_refl _) (show ObjOk X.prog X.w _ h' _ (.lst ys) from ⟨hz, its, c', r', e⟩), rfl, q _ (I.hok.fresh (Nat.le_refl _))⟩
 rcases hq with hq | hq
 ·obtain ⟨its, r', pl, hz⟩ := I.list hq
  have hlen := r'.length
  obtain ⟨o, ho, hc, n, hd⟩ := pl.isList
  exact call_list_seq p (.inl rfl) ho hc hd (fun h' c' kp e => fin its r' hz h' c' kp e) (by simp only [List.size_toArray] <;> omega)
 ·obtain ⟨its, r', pl, hz⟩ := I.tuple hq
  have hlen := r'.length
  obtain ⟨o, ho, hc, n, hd⟩ := pl
  exact call_list_seq p (.inr rfl) ho hc hd (fun h' c' kp e => fin its r' hz h' c' kp e) (by simp only [List.size_toArray] <;> omega)
theorem Qy : CallR X (.type "tuple") (fun xs H Q => ∃ p ys, xs = [.ref p] ∧ ((SqL X.K H p ys ∧ ∀ l, H l = none → Q (.ref l) (upd H l (.tup ys))) ∨ (SqT X.K H p ys ∧ Q (.ref p) H))) := by
 intro pins s σ H xs us Q I r h
 obtain ⟨p, ys, rfl, h⟩ := h
 obtain ⟨u, rfl, rx⟩ := vQ r
 cases rx
 rcases h with ⟨hq, q⟩ | ⟨hq, q⟩
 ·obtain ⟨its, r', pl, hz⟩ := I.list hq
  have hlen := r'.length
  refine call_tuple_list pl.isList (fun h' kp => ?_) (by simp only [List.size_toArray] <;> omega)
  have I1 : Inv X pins σ H { s with heap := h' } := I.kept (t' := s.toks) kp
  have I2 : Inv X pins σ (upd H h'.objs.size (.tup ys)) { s with heap := h'.push { cls := .type "tuple", data := .seq its.toArray } } :=
   I1.laid (t' := s.toks) (fun b o e => Heap.get?_push_of_some _ e) (Nat.le_refl _) (show ObjOk X.prog X.w _ _ _ (.tup ys) from ⟨hz, its, r', IsTup.new _ _⟩)
  exact ⟨.ref h'.objs.size, _, I2, rfl, q _ (I1.hok.fresh (Nat.le_refl _))⟩
 ·obtain ⟨its, r', pl, hz⟩ := I.tuple hq
  exact call_tuple_same pl ⟨.ref p, H, I, rfl, q⟩
def tyV (K : PySem.W.Frag) (T : String) (x : V) (H : Hp) : Prop := match x with
 | .str _ => T = "str"
 | .int _ => T = "int"
 | .ref p => (T = "list" ∧ ∃ xs, SqL K H p xs) ∨ (T = "tuple" ∧ ∃ o, K.lookup p = some o ∧ o.cls = .type "tuple" ∧ o.dict = none) ∨
   (T = "dict" ∧ ((∃ kvs, H p = some (.dK kvs)) ∨ ∃ kvs, H p = some (.dT kvs))) ∨ (T = "set" ∧ ∃ S n, H p = some (.set S n))
 | _ => False
theorem zbT {pins : List (Addr × Obj)} {σ : St} {H : Hp} {s : Shared} {T : String} {x : V} {v : Value} (I : Inv X pins σ H s) (r : RelV x v) (ty : tyV X.K T x H) :
  s.TypeIs v T ∧ ∀ a, v = .ref a → ∃ ob, s.heap.get? a = some ob ∧ ob.dict = none := by
 cases x with
 | str z =>
  obtain ⟨t, rfl⟩ := r
  cases (show T = "str" from ty)
  exact ⟨typeIs_str s z t, fun _ e => nomatch e⟩
 | int i =>
  obtain ⟨t, rfl⟩ := r
  cases (show T = "int" from ty)
  exact ⟨typeIs_int s i t, fun _ e => nomatch e⟩
 | ref p =>
  cases r
  rcases ty with ⟨rfl, xs, hq⟩ | ⟨rfl, o, hk, hc, hd⟩ | ⟨rfl, hk⟩ | ⟨rfl, S, n, hk⟩
  ·obtain ⟨its, _, pl, _⟩ := I.list hq
   refine ⟨pl.isList.typeIs, fun a e => ?_⟩
   cases e
   obtain ⟨o, n, e, c, hd, _⟩ := pl
   exact ⟨o, e, hd⟩
  ·refine ⟨⟨o, I.kIn p o hk, hc⟩, fun a e => ?_⟩
   cases e
   exact ⟨o, I.kIn _ o hk, hd⟩
  ·have z : ∃ o, s.heap.get? p = some o ∧ o.ExactDict := by
    rcases hk with ⟨kvs, hk⟩ | ⟨kvs, hk⟩
    ·obtain ⟨_, _, _, _, o, _, _, e, ex, _⟩ := I.hok p _ hk
     exact ⟨o, e, ex⟩
    ·obtain ⟨_, _, _, _, o, _, _, e, ex, _⟩ := I.hok p _ hk
     exact ⟨o, e, ex⟩
   obtain ⟨o, e, ex⟩ := z
   refine ⟨⟨o, e, ex.1⟩, fun a e2 => ?_⟩
   cases e2
   exact ⟨o, e, ex.2.1⟩
  ·obtain ⟨o, _, _, _, e, ex, _⟩ := I.hok p _ hk
   refine ⟨⟨o, e, ex.1⟩, fun a e2 => ?_⟩
   cases e2
   exact ⟨o, e, ex.2.1⟩
 | _ => exact False.elim ty
def tBM0 (K : PySem.W.Frag) (T : String) (r : V → List V → Hp → VK → Prop) (to : TE) : TE := fun σ H Q => to σ H fun x H1 => tyV K T x H1 ∧ r x [] H1 Q
def tBM (K : PySem.W.Frag) (T : String) (r : V → List V → Hp → VK → Prop) (to : TE) (t : TA) : TE := fun σ H Q => to σ H fun x H1 => tyV K T x H1 ∧ t σ H1 fun xs H2 => r x xs H2 Q
variable {o e : Expr} {es : List Expr} {to : TE} {t : TA} {name : Str} {apos cpos : Pos} {T id : String} {r : V → List V → Hp → VK → Prop}
theorem z5 (pa : PlainAttrs T) (slot : Slot T name id) (hty : typeOf (.builtin id) = pure (.type "method_descriptor")) (hm : MtR X id r) (ho : PE X o to) (ha : PA X (e :: es) t)
  (hbase : attributeBase o name X.env (eval o X.env) = eval o X.env := by rfl)
  (hfew : ((backTo cpos (starEach (e :: es) X.env)).all (fun x => !x.1) && (backToKw cpos (keywordEach [] X.env)).all (fun x => x.1.isSome)
   && decide ((e :: es).length + ([] : List Keyword).length + (if ([] : List Keyword).isEmpty then 0 else 1) < 30)) = true := by rfl)
  (hline : (apos.endLine == cpos.line) = true := by rfl) (hs : starEach (e :: es) X.env = (false, eval e X.env) :: starEach es X.env := by rfl) (hplain : (backTo cpos (starEach es X.env)).any (·.1) = false := by rfl) :
  PE X (.Call (.Attribute o name apos) (e :: es) [] cpos) (tBM X.K T r to t) := by
 intro pins s σ H Q I h
 refine wpAny_Call_method_late hbase hfew hline rfl (thn (ho pins s σ H _ I h) fun v s1 ⟨x, H1, I1, r1, ty, q1⟩ => ?_)
 obtain ⟨h1, h2⟩ := zbT I1 r1 ty
 refine ⟨T, id, pa, slot, hty, h1, h2, ?_⟩
 have hA := ha cpos pins s1 σ H1 _ I1 q1
 rw [hs] at hA ⊢
 refine Calls.callWith_builtin (by show (false || (backTo cpos (starEach es X.env)).any (·.1)) = false; rw [hplain] <;> rfl) (Calls.evalArgs_plain ?_)
 exact thn hA fun us s2 ⟨vs, H2, I2, r2, q2⟩ => hm pins s2 σ H2 x vs v us Q I2 r1 r2 q2
end
end L2
namespace L2
open PySem PySem.Spec PyProof.Rows
def MtM (X : Cx) (id : String) (r : V → List V → Hp → VK → Prop) : Prop :=
 ∀ (pins : List (Addr × Obj)) (s : Shared) (σ : St) (H : Hp) (x : V) (xs : List V) (v : Value) (us : List Value) (Q : VK), Inv X pins σ H s → RelV x v → Vals xs us → r x xs H Q →
  wpAny (model X.prog X.w) X.A (call (.builtin id) (v :: us)) (EP X pins σ Q) X.xe s
theorem Vals.one : ∀ {x : V} {us : List Value}, Vals [x] us → ∃ u, us = [u] ∧ RelV x u
 | _, _, .cons r .nil => ⟨_, rfl, r⟩
theorem Vals.two : ∀ {x y : V} {us : List Value}, Vals [x, y] us → ∃ u v, us = [u, v] ∧ RelV x u ∧ RelV y v
 | _, _, _, .cons r (.cons q .nil) => ⟨_, _, rfl, r, q⟩
theorem Vals.zero : ∀ {us : List Value}, Vals [] us → us = []
 | _, .nil => rfl
theorem Vals.dropLast {xs : List V} {us : List Value} (h : Vals xs us) : Vals xs.dropLast us.dropLast := by
 induction h with
 | nil => exact .nil
 | cons r t ih =>
  cases t with
  | nil => exact .nil
  | cons q t' => exact .cons r ih
theorem Vals.eraseIdx : ∀ {xs : List V} {us : List Value} (i : Nat), Vals xs us → Vals (xs.eraseIdx i) (us.eraseIdx i)
 | _, _, _, .nil => .nil
 | _, _, 0, .cons _ t => t
 | _, _, i + 1, .cons r t => .cons r (Vals.eraseIdx i t)
theorem Vals.reverse {xs : List V} {us : List Value} (h : Vals xs us) : Vals xs.reverse us.reverse := by
 induction h with
 | nil => exact .nil
 | cons r t ih => rw [List.reverse_cons, List.reverse_cons]; exact Vals.append ih (.cons r .nil)
theorem Vals.rep {xs : List V} {us : List Value} (h : Vals xs us) : ∀ k : Nat, Vals (List.replicate k xs).flatten (List.replicate k us).flatten
 | 0 => .nil
 | k + 1 => by
  rw [List.replicate_succ, List.replicate_succ, List.flatten_cons, List.flatten_cons]
  exact Vals.append h (Vals.rep h k)
theorem QH {α : Type} : ∀ (l : List α) (i : Nat), (l.eraseIdx i).length ≤ l.length
 | [], _ => Nat.le_refl _
 | _ :: _, 0 => Nat.le_succ _
 | _ :: r, i + 1 => Nat.succ_le_succ (QH r i)
section
variable {X : Cx} {pins : List (Addr × Obj)} {σ : St} {H : Hp} {s : Shared} {l b : Addr} {xs ys zs : List V}
theorem Inv.lset {its its' : List Value} {n : Nat} {f : Array Value → Array Value} {t' : Nat} (I : Inv X pins σ H s) (hH : H l = some (.lst xs))
  (e : s.heap.get? l = some { cls := .type "list", data := .seq its.toArray n }) (hf : f its.toArray = its'.toArray) (hv : Vals ys its') (hz : ys.length ≤ sizeLine) :
  Inv X pins σ (upd H l (.lst ys)) { s with heap := s.heap.update l (Obj.mapSeq f), toks := t' } := by
 have q := PySem.IsL.update e f
 rw [hf] at q
 refine I.write (x := l) (e := l) (by rw [hH]; exact trivial) (.inl rfl) (fun b' u hb hu => (Heap.get?_update_other s.heap (Obj.mapSeq f) (Ne.symm hb)).trans hu) ⟨_, q⟩ ?_
 exact ⟨hz, its', _, hv, q⟩
theorem Inv.lnew {its : List Value} {t' : Nat} (I : Inv X pins σ H s) (hv : Vals ys its) (hz : ys.length ≤ sizeLine) :
  Inv X pins σ (upd H s.heap.objs.size (.lst ys)) { s with heap := s.heap.push { cls := .type "list", data := .seq its.toArray }, toks := t' } :=
 I.laid (fun _ _ q => Heap.get?_push_of_some _ q) (Nat.le_refl _) ⟨hz, its, 0, hv, Heap.get?_push_size _ rfl⟩
theorem Inv.fresh (I : Inv X pins σ H s) : H s.heap.objs.size = none := I.hok.fresh (Nat.le_refl _)
theorem Inv.lstM (I : Inv X pins σ H s) (hH : H l = some (.lst xs)) : xs.length ≤ sizeLine ∧ ∃ (its : List Value) (n : Nat), Vals xs its ∧ xs.length = its.length ∧ s.heap.get? l = some { cls := .type "list", data := .seq its.toArray n } := by
 obtain ⟨z, its, n, r, e⟩ := I.hok l _ hH
 exact ⟨z, its, n, r, r.length, e⟩
theorem zaE {n : Nat} (h : n ≤ sizeLine) : Builtin.List.listTooLong n = false := by
 unfold Builtin.List.listTooLong
 exact decide_eq_false (by omega)
end
section
variable {X : Cx}
def zbp : V → List V → Hp → VK → Prop := fun x vs H Q => ∃ l xs y, x = .ref l ∧ vs = [y] ∧ H l = some (.lst xs) ∧ xs.length < sizeLine ∧ Q .non (upd H l (.lst (xs ++ [y])))
theorem zu : MtM X "list.append" zbp := by
 intro pins s σ H x vs v us Q I rx rv h
 obtain ⟨l, xs, y, rfl, rfl, hH, hz, q⟩ := h
 cases rx
 obtain ⟨u, rfl, ru⟩ := rv.one
 obtain ⟨z, its, n, r, hl, e⟩ := I.lstM hH
 refine call_meets F.slot_list_append ⟨_, e, rfl⟩ F.entry_list_append (F.args_list_append_2 _ _) (PySem.list_append l its.toArray n u (by rw [List.size_toArray]; omega)) ⟨e, ?_⟩
 refine ⟨.non, _, I.lset (its' := its ++ [u]) hH e (by simp) (r.append (.cons ru .nil)) ?_, rfl, q⟩
 rw [List.length_append, List.length_singleton]
 omega
def zbn : V → List V → Hp → VK → Prop := fun x vs H Q => ∃ l b xs zs, x = .ref l ∧ vs = [.ref b] ∧ H l = some (.lst xs) ∧ H b = some (.lst zs) ∧ xs.length + zs.length ≤ sizeLine ∧ Q .non (upd H l (.lst (xs ++ zs)))
theorem xj : MtM X "list.extend" zbn := by
 intro pins s σ H x vs v us Q I rx rv h
 obtain ⟨l, b, xs, zs, rfl, rfl, hH, hB, hz, q⟩ := h
 cases rx
 obtain ⟨u, rfl, ru⟩ := rv.one
 cases ru
 obtain ⟨z, its, n, r, hl, e⟩ := I.lstM hH
 obtain ⟨z2, its2, n2, r2, hl2, e2⟩ := I.lstM hB
 have hsz : its.toArray.size + its2.toArray.size ≤ sizeLine := by rw [List.size_toArray, List.size_toArray]; omega
 have hlong : ¬ (!its.toArray.isEmpty && Builtin.List.listTooLong (its.toArray.size + its2.toArray.size)) = true := by
  rw [zaE hsz, Bool.and_false]
  exact Bool.false_ne_true
 refine call_meets F.slot_list_extend ⟨_, e, rfl⟩ F.entry_list_extend (F.args_list_extend_2 _ _)
  (AutoSeq1.list_extend_list_list_0 l its.toArray n b its2.toArray n2 hlong (by rw [List.size_toArray]; omega) (by omega)) ⟨e, e2, ?_⟩
 refine ⟨.non, _, I.lset (its' := its ++ its2) hH e (by simp) (r.append r2) ?_, rfl, q⟩
 rw [List.length_append]
 omega
def zbZ : V → List V → Hp → VK → Prop := fun x vs H Q => ∃ l xs i k y, x = .ref l ∧ vs = [.int i] ∧ H l = some (.lst xs) ∧ -(2 ^ 63) ≤ i ∧ i < 2 ^ 63 ∧ seqIndex? i xs.length = some k ∧ xs[k]? = some y ∧ Q y (upd H l (.lst (xs.eraseIdx k)))
theorem ZT : MtM X "list.pop" zbZ := by
 intro pins s σ H x vs v us Q I rx rv h
 obtain ⟨l, xs, i, k, y, rfl, rfl, hH, h1, h2, hk, hy, q⟩ := h
 cases rx
 obtain ⟨u, rfl, ru⟩ := rv.one
 obtain ⟨t, rfl⟩ := ru
 obtain ⟨z, its, n, r, hl, e⟩ := I.lstM hH
 obtain ⟨w, hw, rw'⟩ := r.get hy
 refine call_meets F.slot_list_pop ⟨_, e, rfl⟩ F.entry_list_pop (F.args_list_pop_2 _ _)
  (MeetsSeq.list_pop_at l its.toArray n i t k w (fitsIndex_both h1 h2) (by rw [List.size_toArray, ← hl]; exact hk) (by rw [← Array.getElem?_toList]; exact hw) (by rw [List.size_toArray]; omega)) ⟨e, ?_⟩
 refine ⟨y, _, I.lset (its' := its.eraseIdx k) hH e ?_ (r.eraseIdx k) ?_, rw', q⟩
 ·show its.toArray.eraseIdxIfInBounds k = (its.eraseIdx k).toArray
  rw [List.eraseIdxIfInBounds_toArray]
 ·have := QH xs k
  omega
end
section
variable {prog : Program} {w : World} {A : Around} {E : Value → Shared → Prop} {s : Shared}
end
section
variable {X : Cx}
end
end L2
namespace Att
open PySem PySem.W PySem.Calls PyProof.Rows
theorem Zn {P : Params} {h : Heap} : ∀ (ns : List Int) (vs : List Value), WellAll P h vs (ns.map WData.int) → IntsAre vs ns := by
 intro ns
 induction ns with
 | nil =>
  intro vs w
  rw [List.map_nil] at w
  cases w
  exact .nil
 | cons n ns ih =>
  intro vs w
  rw [List.map_cons] at w
  cases w with
  | cons a b =>
   cases a
   exact .cons _ _ (ih _ b)
theorem Vh {l : OpenLaw} {n : Nat} (hn : l.most = some n) {P : Params} {h : Heap} {args : List WData} {vals : List Value}
  (hpre : l.row.toRowW.claim.pre args = true) (hwl : WellAll P h vals args) :
  ∃ a vs ns, vals = [Value.ref a] ∧ args = [WData.list (ns.map WData.int)] ∧ h.get? a = some { cls := .type "list", data := .seq vs.toArray } ∧ IntsAre vs ns ∧ ns.length ≤ n := by
 have hsh : WShape.hasAll [] args [.list .int] = true := (pre_splitW hpre).1
 have hc : l.pre.holds [] { args := args } = true := (pre_splitW hpre).2
 obtain ⟨d, r, rfl, h1, h2⟩ := hasAllW_cons hsh
 obtain rfl := hasAllW_nil h2
 obtain ⟨xs, rfl, h3⟩ := hasW_list h1
 obtain ⟨ns, rfl⟩ := items_int h3
 have hlen : ns.length ≤ n := by
  unfold OpenLaw.pre at hc
  have h4 : (WTm.not (.lt (.lit (.int (n : Int))) (.len (.arg 0)))).holds [] { args := [.list (ns.map .int)] } = true := by
   have h4 := (holds_andW hc).1
   rw [hn] at h4
   exact h4
  have h5 := condW_of h4 (w_not (w_lt w_lit (w_len_list (w_arg rfl))))
  rw [List.length_map] at h5
  refine Nat.le_of_not_lt fun q => ?_
  have q' : (n : Int) < ((ns.length : Nat) : Int) := by omega
  first
   | (rw [decide_eq_true q'] at h5; exact absurd h5 (by decide))
   | (simp at h5; omega)
 cases hwl with
 | cons w1 w2 =>
  cases w2
  cases w1 with
  | list ho hall => exact ⟨_, _, ns, rfl, rfl, ho, Zn ns _ hall, hlen⟩
theorem Vv (l : OpenLaw) (args : List WData) : l.row.toRowW.claim.post args (.bool true) args = true :=
 postW_of (r := l.row.toRowW) (X := (true == true))
  (show WShape.has [] (.bool true) .bool = true by first | rfl | decide | simp [WShape.has, WShape.arms, WShape.armsAll])
  (show (WTm.eq .res (.lit (.bool true))).value [] { args := args, res := some (.bool true), after := args } = some (.bool (true == true)) from w_eq_bool (w_res rfl) w_lit) rfl
theorem attach_call {l : OpenLaw} {n : Nat} {q : Program} {loose : List Str} {XP : (Str → Option Value) → Heap → Prop} {YP : World → Heap → Prop} {d : DefRec}
  (hn : l.most = some n) (hdf : d.params.defaults = [])
  (call : ∀ (w : World) (s₀ s₁ : Shared) (mg mb : Str → Option Value) (fa : Addr) (o : Obj) (pm cd doc : Value) (a : Addr) (vs : List Value) (ns : List Int),
   Ground q loose [] XP w s₀ mg mb s₁.heap → YP w s₁.heap →
   s₁.heap.get? fa = some o → o.data = .func (docDef d.name d.params d.body d.scope pm cd doc) → s₁.heap.CodeRec cd d.name → mg d.name = some (.ref fa) →
   s₁.heap.get? a = some { cls := .type "list", data := .seq vs.toArray } → IntsAre vs ns → ns.length ≤ n → s₁.gens = #[] →
   codeAny (model l.prog w) callerA (.call (.ref fa) ⟨[.ref a], []⟩) (fun r s' => r = .ok (.ret (.bool true)) ∧ OldK s₁.heap s'.heap ∧ s'.os = s₁.os ∧ AllBare s'.gens) s₁) :
  WalkO q loose XP YP l.row.toRowW d [] (fun f vs => PySem.call f vs) := by
 intro w s₀ s₁ mg mb G Y fa o pm cd doc dV kV ho hd hcd hD hmg hg args vals as hpre hlay hrd hwl hlo
 obtain rfl : dV = .none := Dflts.none hD hdf
 obtain rfl : kV = .none := Dflts.noKw hD
 obtain ⟨a, vs, ns, rfl, rfl, hobj, hints, hlen⟩ := Vh hn hpre hwl
 refine enter_call (codeAny_mono (call w s₀ s₁ mg mb fa o pm cd doc a vs ns G Y ho (fd_plain hd) hcd hmg hobj hints hlen hg) fun r s' hq => ?_)
 obtain ⟨rfl, h2, h3, h4⟩ := hq
 exact ⟨.inl ⟨.bool true, .bool true, [], rfl, fun _ => rfl, .bool true, Vv l _, fun _ => ⟨List.Pairwise.nil, fun _ hm => (nomatch hm)⟩⟩, h2, h3, h4⟩
section
variable {prog : Program} {w : World} {A : Around} {E : Value → Shared → Prop} {s : Shared} {K : Frag}
def ledger (h : Heap) (L d : Addr) : List (Addr × Obj) := (List.range h.objs.size).filterMap fun a => if a = L ∨ a = d then none else (h.get? a).map fun o => (a, o)
end
end Att
namespace L2
open PySem PySem.Spec PyProof.Rows
theorem QA : ∀ {vs : List Value} {ns : List Int}, IntsAre vs ns → Vals (ns.map V.int) vs
 | _, _, .nil => .nil
 | _, _, .cons n t h => .cons ⟨t, rfl⟩ (QA h)
def zcy (H : Hp) : Prop := ∀ b, H b = none ∨ ∃ o xs, H b = some (.frz o (.lst xs))
theorem zaL {P : Program} {w : World} {K : PySem.W.Frag} {mg mb : Str → Option Value} {CX : CXT} {k : Nat} {fa a : Addr} {fd : FuncData} {x : Str} {sp : Sp} {s₁ : Shared} {vs : List Value} {ns : List Int}
  (KX : K.In s₁.heap) (hns : s₁.heap.Ns mainGlobals mg) (hb : s₁.heap.Ns builtinsNs mb) (hbb : ∀ x : Str, x ≠ "__name__" → mb x = bootBuiltins x) (hlim : s₁.heap.NoLimit) (hg : s₁.gens = #[])
  (ha : s₁.heap.get? a = some { cls := .type "list", data := .seq vs.toArray }) (hi : IntsAre vs ns) (hl : ns.length ≤ sizeLine) (hr : Room k callerA)
  (F : ∀ base : Heap, K.In base → base.Ns mainGlobals mg → FnOk P w K mg base CX k fa fd [x] sp) (hbind : ∀ (s : Shared) (u : Value), BindsTo s fd ⟨[u], []⟩ [(x, u)])
  (hsp : ∀ H : Hp, zcy H → SqL K H a (ns.map V.int) → sp [.ref a] H (fun v _ => v = .bl true) fun _ _ _ => False)
  (hCX : ∀ H e s', CX [] H s₁ (fun _ _ _ => False) e s' → False) :
  codeAny (model P w) callerA (.call (.ref fa) ⟨[.ref a], []⟩) (fun r s' => r = .ok (.ret (.bool true)) ∧ OldK s₁.heap s'.heap ∧ s'.os = s₁.os ∧ AllBare s'.gens) s₁ := by
 have rv := QA hi
 have lenV := hi.length
 have core : ∀ H : Hp, zcy H → SqL K H a (ns.map V.int) → HOk P w H s₁.heap → (∀ b, H b ≠ none → b = a) → (H a ≠ none → K.lookup a = none) →
   codeAny (model P w) callerA (.call (.ref fa) ⟨[.ref a], []⟩) (fun r s' => r = .ok (.ret (.bool true)) ∧ OldK s₁.heap s'.heap ∧ s'.os = s₁.os ∧ AllBare s'.gens) s₁ := by
  intro H hO hS hok hA hK
  have base_of : ∀ {b : Addr} {o : Obj}, s₁.heap.get? b = some o → H b = none → (Jy s₁.heap H).get? b = some o := fun e n => zaW e n
  have noA : ∀ {b : Addr} {o : Obj} {es : Array DictEntry} {ep : Nat}, s₁.heap.get? b = some o → o.data = .dict es ep → H b = none := fun {b o es ep} e d => by
   cases q : H b with
   | none => rfl
   | some u =>
    have e' : b = a := hA b (by rw [q]; simp)
    subst e'
    rw [ha] at e; cases e
    have d' : Data.seq vs.toArray _ = Data.dict es ep := d
    cases d'
  have nsK : ∀ {b : Addr} {m : Str → Option Value}, s₁.heap.Ns b m → (Jy s₁.heap H).Ns b m := fun {b m} ⟨o, es, ep, e, d, r⟩ => ⟨o, es, ep, base_of e (noA e d), d, r⟩
  have hKb : K.In (Jy s₁.heap H) := fun b o e => base_of (KX b o e) (by
   cases q : H b with
   | none => rfl
   | some u =>
    have e' : b = a := hA b (by rw [q]; simp)
    subst e'
    rw [hK (by rw [q]; simp)] at e; cases e)
  have hM : Mod K mg (Jy s₁.heap H) := ⟨hKb, nsK hns, ⟨mb, nsK hb, hbb⟩, let ⟨mc, h1, h2⟩ := hlim; ⟨mc, nsK h1, h2⟩⟩
  have e0 : Env0 P w K mg (Jy s₁.heap H) callerA [] s₁ H := ⟨rfl, hM, fun b o e => zbv e, Nat.le_of_eq (VR _ _), trivial, fun b hb => absurd (show b ∈ ([] : List Addr) from hb) (by simp), hok, .of_eq hg⟩
  refine codeAny_mono ((F _ hKb (nsK hns)).run callerA [] s₁ H ⟨[.ref a], []⟩ [.ref a] [.ref a] _ _ hr e0 (hbind s₁ (.ref a)) (.cons rfl .nil) (hsp H hO hS)) fun r s' h => ?_
  cases r with
  | error e => exact (hCX H e s' h).elim
  | ok fl =>
   cases fl with
   | next => exact False.elim h
   | brk => exact False.elim h
   | cont => exact False.elim h
   | ret u =>
    obtain ⟨v, H', os, bare, un, hok', r', q⟩ := h
    have q' : v = .bl true := q
    subst q'
    obtain rfl : u = Value.bool true := r'
    refine ⟨rfl, OldK.of_keep fun b o e => ?_, os, bare⟩
    cases q : H b with
    | none => exact un.keep b o e q (by intro z; exact absurd (show b ∈ ([] : List Addr) from z) (by simp)) (by simp)
    | some u =>
     rcases hO b with z | ⟨ob, xs, z⟩
     ·rw [q] at z; cases z
     ·have z2 := un.frzs b ob _ z
      obtain ⟨e1, _⟩ := hok b _ z
      obtain ⟨e2, _⟩ := hok' b _ z2
      rw [e] at e1; cases e1
      exact e2
 cases hk : K.lookup a with
 | some o =>
  have e := KX a o hk
  rw [ha] at e
  cases e
  refine core (fun _ => none) (fun _ => .inl rfl) (.inr ⟨_, vs.toArray, _, hk, rfl, rfl, rfl, by rw [List.size_toArray, lenV]; exact hl, by simpa using rv⟩) (fun b u z => by have z' : (none : Option HO) = some u := z; cases z') (fun b z => absurd rfl z) fun z => absurd rfl z
 | none =>
  refine core (fun b => if b = a then some (.frz { cls := .type "list", data := .seq vs.toArray } (.lst (ns.map V.int))) else none) (fun b => ?_) (.inl (.inr ⟨{ cls := .type "list", data := .seq vs.toArray }, if_pos rfl⟩)) (fun b u z => ?_) (fun b z => ?_) fun _ => hk
  ·by_cases hb : b = a
   ·exact .inr ⟨_, _, if_pos hb⟩
   ·exact .inl (if_neg hb)
  ·by_cases hb : b = a
   ·have z' := (if_pos hb).symm.trans z
    cases z'
    subst hb
    exact ⟨ha, by rw [List.length_map]; exact hl, vs, _, rv, ha⟩
   ·have z' := (if_neg hb).symm.trans z
    cases z'
  ·by_cases hb : b = a
   ·exact hb
   ·exact absurd (if_neg hb) z
end L2
namespace L2
open PySem PySem.Spec PyProof.Rows
theorem walk_of {l : PySem.W.OpenLaw} {n k : Nat} {q : Program} {loose : List Str} {XP : (Str → Option Value) → Heap → Prop} {YP : World → Heap → Prop} {d : DefRec} {K : Params → PySem.W.Frag} {CX : World → CXT} {sp : World → Sp} {x : Str}
  (hn : l.most = some n) (hn2 : n ≤ sizeLine) (hdf : d.params.defaults = []) (hr : Room k callerA)
  (hY : ∀ (w : World) (h : Heap), YP w h → (K w.params).In h)
  (F : ∀ (w : World) (mg : Str → Option Value) (fa : Addr) (h : Heap), (K w.params).In h → h.Ns mainGlobals mg → mg d.name = some (.ref fa) →
   ∃ fd : FuncData, (∀ (s : Shared) (u : Value), BindsTo s fd ⟨[u], []⟩ [(x, u)]) ∧
    ∀ base : Heap, (K w.params).In base → base.Ns mainGlobals mg → FnOk l.prog w (K w.params) mg base (CX w) k fa fd [x] (sp w))
  (hsp : ∀ (w : World) (H : Hp) (a : Addr) (ns : List Int), ns.length ≤ n → zcy H → SqL (K w.params) H a (ns.map V.int) → sp w [.ref a] H (fun v _ => v = .bl true) fun _ _ _ => False)
  (hCX : ∀ (w : World) (H : Hp) (s : Shared) (e : Value) (s' : Shared), CX w [] H s (fun _ _ _ => False) e s' → False) :
  PySem.W.WalkO q loose XP YP l.row.toRowW d [] (fun f vs => PySem.call f vs) := by
 refine Att.attach_call hn hdf fun w s₀ s₁ mg mb fa o pm cd doc a vs ns G Y ho hd hcd hmg hobj hints hlen hg => ?_
 have KX := hY w _ Y
 obtain ⟨fd, hb, hF⟩ := F w mg fa _ KX G.T.g hmg
 exact zaL KX G.T.g G.T.b G.T.builtins G.T.nolimit hg hobj hints (Nat.le_trans hlen hn2) hr hF hb (fun H hO hS => hsp w H a ns hlen hO hS) fun H e s' => hCX w H s₁ e s'
end L2
namespace L2
open PySem PySem.Spec PyProof.Rows
def zJ (s : Stmt) (j : Nat) : Stmt := match s with
 | .ClassDef _ _ _ body _ _ _ _ _ _ _ => body.getD j (.Pass ⟨0, 0, 0, 0⟩)
 | _ => .Pass ⟨0, 0, 0, 0⟩
def z4 (s : Stmt) : Arguments := match s with
 | .FunctionDef _ a _ _ _ _ _ _ _ _ => a
 | _ => { posonlyargs := [], args := [], vararg := none, kwonlyargs := [], kw_defaults := [], kwarg := none, defaults := [] }
def zU (s : Stmt) : List Stmt := match s with
 | .FunctionDef _ _ b _ _ _ _ _ _ _ => b
 | _ => []
def zf (s : Stmt) : Scope := match s with
 | .FunctionDef _ _ _ _ _ _ sc _ _ _ => sc
 | _ => { kind := .function, names := [], isGenerator := false, isCoroutine := false }
abbrev CX0 : CXT := fun _ _ _ _ _ _ => False
structure Fun (K : PySem.W.Frag) (x qual : Str) (st : Stmt) (f : Addr) (fd : FuncData) : Prop where
 ex : ∃ (oc : Value) (od : Option Addr) (kV doc pm : Value) (an : Option Addr) (cdv ct : Value) (osl : Array (Option Value)),
  fd = PySem.W.fnOf x qual (z4 st) (zU st) (zf st) .none kV doc pm an cdv ct ∧ K.lookup f = some ⟨oc, od, .func fd, osl⟩ ∧ PySem.W.codeIn K cdv qual = true
 kp : PySem.W.keepIn K (.ref f) = true
section
variable {P : Program} {w : World} {K : PySem.W.Frag} {mg : Str → Option Value} {base : Heap}
theorem Fun.ok {x qual : Str} {st : Stmt} {f : Addr} {fd : FuncData} {N ps : List Str} {k : Nat} {sp : Sp} (F : Fun K x qual st f fd) (S : FnScope N ps (zf st)) (len : ∀ vs H Q E, sp vs H Q E → vs.length = ps.length)
  (hbody : ∀ (cdv : Value) (A : Around) (outer : List Env) (s : Shared) (H : Hp) (vs : List V) (Q : VK) (E : XK), Room k (A.deeper (envOfC qual (zf st) s.heap.objs.size f cdv)) → sp vs H Q E →
   ∃ t, PSs (Zo CX0 P w K mg base N qual (zf st) f cdv A outer s H E).nox (zU st) t ∧ t { nx := fun _ H' => Q .non H', rt := Q } (start N vs) H) : FnOk P w K mg base CX0 (k + 1) f fd ps sp := by
 obtain ⟨oc, od, kV, doc, pm, an, cdv, ct, osl, rfl, lk, hcd⟩ := F.ex
 refine za1 lk hcd S len fun A outer s H vs Q E hr hsp => ?_
 obtain ⟨t, h, q⟩ := hbody cdv A outer s H vs Q E hr hsp
 exact ⟨t, h.nox, q⟩
theorem Fun.binds {x qual : Str} {st : Stmt} {f : Addr} {fd : FuncData} {ps : List Str} (F : Fun K x qual st f fd)
  (h : ∀ (kV doc pm : Value) (an : Option Addr) (cdv ct : Value) (us : List Value), us.length = ps.length → bindArgs (PySem.W.fnOf x qual (z4 st) (zU st) (zf st) .none kV doc pm an cdv ct) ⟨us, []⟩ = pure (ps.zip us)) : Binds K fd ps [] := by
 obtain ⟨oc, od, kV, doc, pm, an, cdv, ct, osl, rfl, lk, hcd⟩ := F.ex
 exact .all (h kV doc pm an cdv ct)
theorem xE {x qual : Str} {st : Stmt} {f : Addr} {oc : Value} {od an : Option Addr} {osl : Array (Option Value)} {kV doc pm cdv ct : Value} (l : K.lookup f = some ⟨oc, od, .func (PySem.W.fnOf x qual (z4 st) (zU st) (zf st) .none kV doc pm an cdv ct), osl⟩)
  (c : PySem.W.codeIn K cdv qual = true) (k : PySem.W.keepIn K (.ref f) = true) : Fun K x qual st f (PySem.W.fnOf x qual (z4 st) (zU st) (zf st) .none kV doc pm an cdv ct) := ⟨⟨oc, od, kV, doc, pm, an, cdv, ct, osl, rfl, l, c⟩, k⟩
end
theorem zh {n : Nat} (h : n ≤ 1000) : n < sizeLine := Nat.lt_of_le_of_lt h (by decide)
section
variable {X : Cx}
end
theorem zR {c A B : Prop} [Decidable c] (h1 : c → A) (h2 : ¬ c → B) : if c then A else B := by
 by_cases h : c
 ·rw [if_pos h]
  exact h1 h
 ·rw [if_neg h]
  exact h2 h
def Same (H H' : Hp) : Prop := ∀ b o, H b = some o → H' b = some o
theorem Same.refl (H : Hp) : Same H H := fun _ _ h => h
theorem Same.trans {H H1 H2 : Hp} (a : Same H H1) (b : Same H1 H2) : Same H H2 := fun c o h => b c o (a c o h)
theorem Same.free {H H' : Hp} (e : Same H H') {l : Addr} (h : H' l = Option.none) : H l = Option.none := by
 cases q : H l with
 | none => rfl
 | some o =>
  rw [e l o q] at h
  cases h
theorem Same.seq {K : PySem.W.Frag} {H H' : Hp} {a : Addr} {xs : List V} (e : Same H H') (h : SqL K H a xs) : SqL K H' a xs := by
 rcases h with (h | ⟨o, h⟩) | h
 ·exact .inl (.inl (e _ _ h))
 ·exact .inl (.inr ⟨o, e _ _ h⟩)
 ·exact .inr h
end L2
set_option maxHeartbeats 4000000
namespace L2
open PySem PySem.Spec PyProof.Rows
abbrev GK := Value → St → Hp → Prop
structure Exc (g h : Heap) (H : Hp) (pn : List (Addr × Obj)) (a : Addr) (cls : Value) : Prop where
 ex : ∃ (oe : Obj) (vs : Array Value) (T : Addr) (oT : Obj) (ts : Array Value), h.get? a = some oe ∧ oe.cls = cls ∧ oe.dict = none ∧ oe.data = .fields vs ∧ vs[1]? = some (.ref T) ∧ T ≠ a ∧
  h.get? T = some oT ∧ oT.data = .fields ts ∧ ts[3]? = some .none ∧ g.get? T = none ∧ H T = none ∧ ∀ p ∈ pn, p.1 ≠ T
 ga : g.get? a = none
 Ha : H a = none
 pa : ∀ p ∈ pn, p.1 ≠ a
theorem ObjOk.there {P : Program} {w : World} {H : Hp} {h : Heap} {a : Addr} {o : HO} (x : ObjOk P w H h a o) : ∃ ob, h.get? a = some ob := by
 cases o with
 | lst xs => obtain ⟨_, _, _, _, e⟩ := x; exact ⟨_, e⟩
 | tup xs => obtain ⟨_, _, _, ob, e, _⟩ := x; exact ⟨_, e⟩
 | dK kvs => obtain ⟨_, _, _, _, o, _, _, e, _⟩ := x; exact ⟨_, e⟩
 | dT kvs => obtain ⟨_, _, _, _, o, _, _, e, _⟩ := x; exact ⟨_, e⟩
 | set S n => obtain ⟨o, _, _, _, e, _⟩ := x; exact ⟨_, e⟩
 | ins C dx fs => obtain ⟨_, _, _, e, _⟩ := x; exact ⟨_, e⟩
 | own y => obtain ⟨_, e⟩ := x; exact ⟨_, e⟩
 | xd fs => obtain ⟨_, ⟨_, _, _, e, _⟩, _⟩ := x; exact ⟨_, e⟩
 | rng lo hi => obtain ⟨_, _, _, e⟩ := x; exact ⟨_, e⟩
 | frz ob u => obtain ⟨e, _⟩ := x; exact ⟨_, e⟩
 | tbl ps => exact ⟨_, (show h.get? a = some _ from x)⟩
 | met f y => exact ⟨_, (show h.get? a = some _ from x)⟩
 | ext φ => obtain ⟨_, ⟨_, e⟩, _⟩ := x; exact ⟨_, e⟩
section
variable {M : Model} {A : Around} {E : Value → Shared → Prop} {s : Shared}
theorem QP {base : Heap} {env : Env} {outer : List Env} {L e : Addr} {oe : Obj} {vs : Array Value} {head : Value} {hadNext : Bool} {Q : Unit → Shared → Prop}
  (hfr : A.frames = some (env :: outer)) (hl : s.heap.FunFrames base (env :: outer)) (hf : env.frame = some L) (he : s.heap.get? e = some oe) (hd : oe.data = .fields vs) (hsz : 1 < vs.size)
  (h : ∀ h' T, (∀ b o, b ∉ (env :: outer).filterMap (·.frame) → b ≠ e → s.heap.get? b = some o → h'.get? b = some o) → (∀ b o, b ≠ e → s.heap.get? b = some o → ∃ sl, h'.get? b = some { o with slots := sl }) →
   s.heap.get? T = none → T ≠ e → h'.get? e = some (oe.mapFields (·.setIfInBounds 1 (.ref T))) → (∃ oT ts, h'.get? T = some oT ∧ oT.data = .fields ts ∧ ts[3]? = some .none) → Q () { s with heap := h' }) :
  wpAny M A (do let a ← frameOf env; let pl ← entryPlaceOf L hadNext; let b ← EntryCells.newEntry head a .none (rawInt L) .none pl; setField (.ref e) 1 b) (fun _ s' => wpAny M A (setFlight (.ref e) none) Q E s') E s := by
 have hene : e ∉ (env :: outer).filterMap (·.frame) := fun hm => by
  obtain ⟨_, o, ho, hnf⟩ := hl.mem hm
  rw [he] at ho; injection ho with ho; subst ho; exact hnf vs hd
 refine wpAny_bind (wpAny_frameOf_fun hfr hl hf fun h₁ hs₁ => ?_)
 refine wpAny_bind (wpAny_entryPlaceOf fun pl hpl => ?_)
 unfold EntryCells.newEntry newFields
 refine wpAny_bind (wpAny_newObj_type ?_ (hpl.sizeOk5 _ _ _ _ _))
 have he₁ : h₁.get? e = some oe := (hs₁.2.1 e hene).trans he
 have he₂ := Heap.get?_push_of_some (h := h₁) { cls := .type "traceback", dict := none, data := .fields ([head, .ref L, .none, rawInt L, .none] ++ (if pl.isEmpty then List.replicate 6 Value.none else pl)).toArray } he₁
 refine wpAny_setField he₂ hd hsz ?_
 have hTe : h₁.objs.size ≠ e := Nat.ne_of_gt (Heap.lt_size he₁)
 have hd₃ := Obj.data_mapFields hd (·.setIfInBounds 1 (Value.ref h₁.objs.size))
 have he₃ := Heap.get?_update_self (Obj.mapFields (·.setIfInBounds 1 (Value.ref h₁.objs.size))) he₂ (Obj.isFreed_of_fields hd₃)
 have hT₃ := (Heap.get?_update_other (h₁.push { cls := .type "traceback", dict := none, data := .fields ([head, .ref L, .none, rawInt L, .none] ++ (if pl.isEmpty then List.replicate 6 Value.none else pl)).toArray })
  (Obj.mapFields (·.setIfInBounds 1 (Value.ref h₁.objs.size))) (Ne.symm hTe)).trans (Heap.get?_push_size h₁ rfl)
 unfold setFlight
 refine wpAny_bind (wpAny_field he₃ hd₃ (x := .ref h₁.objs.size) (by simp [hsz]) ?_)
 rw [if_pos (show (Value.ref h₁.objs.size != Value.none) = true from by simp)]
 refine wpAny_setField hT₃ rfl (by simp only [List.size_toArray, List.length_append, List.length_cons, List.length_nil] <;> omega) ?_
 have keep : ∀ b o, b ≠ e → h₁.get? b = some o →
   (((h₁.push { cls := .type "traceback", dict := none, data := .fields ([head, .ref L, .none, rawInt L, .none] ++ (if pl.isEmpty then List.replicate 6 Value.none else pl)).toArray }).update e (Obj.mapFields (·.setIfInBounds 1 (Value.ref h₁.objs.size)))).update h₁.objs.size
    (Obj.mapFields (·.setIfInBounds 3 ((none : Option Addr).elim Value.none fun f => rawInt f)))).get? b = some o := fun b o hbe hb => by
  have hbT : h₁.objs.size ≠ b := Nat.ne_of_gt (Heap.lt_size hb)
  rw [Heap.get?_update_other _ _ hbT, Heap.get?_update_other _ _ (Ne.symm hbe)]
  exact Heap.get?_push_of_some _ hb
 refine h _ h₁.objs.size (fun b o hb hbe q => keep b o hbe ((hs₁.2.1 b hb).trans q)) (fun b o hbe q => ?_) (Heap.get?_none_of_le (by rw [hs₁.1]; exact Nat.le_refl _)) hTe ?_ ?_
 ·obtain ⟨sl, hs⟩ := hs₁.2.2 b o q
  exact ⟨sl, keep b _ hbe hs⟩
 ·rw [Heap.get?_update_other _ _ hTe]; exact he₃
 ·exact ⟨_, _, Heap.get?_update_self _ hT₃ (Obj.isFreed_of_fields (Obj.data_mapFields rfl _)), Obj.data_mapFields rfl _, by first | (simp; done) | (rcases hpl with rfl | ⟨_, _, _, _, _, _, _, rfl⟩ <;> simp)⟩
theorem QI {base : Heap} {env : Env} {outer : List Env} {L e : Addr} {oe : Obj} {vs : Array Value} {ch : List Addr} {Q : Unit → Shared → Prop}
  (hfr : A.frames = some (env :: outer)) (hl : s.heap.FunFrames base (env :: outer)) (hf : env.frame = some L) (he : s.heap.get? e = some oe) (hd : oe.data = .fields vs)
  (h1 : (vs[1]? = some .none ∧ ch = [e]) ∨ ∃ T oT ts, vs[1]? = some (.ref T) ∧ T ≠ e ∧ s.heap.get? T = some oT ∧ oT.data = .fields ts ∧ ts[3]? = some .none ∧ ch = [e, T])
  (h : ∀ h' T, (∀ b o, b ∉ (env :: outer).filterMap (·.frame) → b ∉ ch → s.heap.get? b = some o → h'.get? b = some o) → (∀ b o, b ∉ ch → s.heap.get? b = some o → ∃ sl, h'.get? b = some { o with slots := sl }) →
   (∀ b ∈ ch, ∃ o, h'.get? b = some o) → s.heap.get? T = none → T ≠ e → h'.get? e = some (oe.mapFields (·.setIfInBounds 1 (.ref T))) → (∃ oT ts, h'.get? T = some oT ∧ oT.data = .fields ts ∧ ts[3]? = some .none) → Q () { s with heap := h' }) :
  wpAny M A (noteFrame (.ref e) env) (fun _ s' => wpAny M A (setFlight (.ref e) none) Q E s') E s := by
 rcases h1 with ⟨h1, rfl⟩ | ⟨T, oT, ts, h1, hTe, hT, hdT, h3, rfl⟩
 ·unfold noteFrame
  simp only [hf]
  refine wpAny_bind (wpAny_field he hd h1 ?_)
  rw [if_neg (by decide)]
  refine QP hfr hl hf he hd (Array.getElem?_eq_some_iff.mp h1).1 fun h' T k1 k2 k3 k4 k5 k6 => ?_
  refine h h' T (fun b o hb hc q => k1 b o hb (fun z => hc (by simp [z])) q) (fun b o hc q => k2 b o (fun z => hc (by simp [z])) q) (fun b hb => ?_) k3 k4 k5 k6
  obtain rfl : b = e := by simpa using hb
  exact ⟨_, k5⟩
 ·unfold noteFrame
  simp only [hf]
  refine wpAny_bind (wpAny_field he hd h1 ?_)
  rw [if_pos (show (Value.ref T != Value.none) = true from by simp)]
  refine wpAny_bind (wpAny_field hT hdT h3 ?_)
  rw [if_neg (show ¬ ((Value.none == rawInt L) = true) from by simp [rawInt])]
  refine wpAny_bind (wpAny_setField hT hdT (Array.getElem?_eq_some_iff.mp h3).1 ?_)
  have other : ∀ b, b ≠ T → (s.heap.update T (Obj.mapFields (·.setIfInBounds 3 Value.none))).get? b = s.heap.get? b := fun b hb => Heap.get?_update_other _ _ (Ne.symm hb)
  have noRecord : ∀ b o, s.heap.get? b = some o → (∀ vs, o.data ≠ .fields vs) → b ≠ T := fun b o hb hnf q => by
   rw [q, hT] at hb; injection hb with hb; subst hb; exact hnf ts hdT
  have hT' := Heap.get?_update_self (Obj.mapFields (·.setIfInBounds 3 Value.none)) hT (Obj.isFreed_of_fields (Obj.data_mapFields hdT _))
  refine QP hfr (hl.of_keeps fun b o hb hnf => ⟨o, (other b (noRecord b o hb hnf)).trans hb, rfl⟩) hf ((other e (Ne.symm hTe)).trans he) hd (Array.getElem?_eq_some_iff.mp h1).1 fun h' T' k1 k2 k3 k4 k5 k6 => ?_
  have hTT : T' ≠ T := fun z => by rw [z, hT'] at k3; cases k3
  refine h h' T' (fun b o hb hc q => k1 b o hb (fun z => hc (by simp [z])) ((other b (fun z => hc (by simp [z]))).trans q)) (fun b o hc q => k2 b o (fun z => hc (by simp [z])) ((other b (fun z => hc (by simp [z]))).trans q)) (fun b hb => ?_) ((other T' hTT).symm.trans k3) k4 k5 k6
  rcases List.mem_cons.mp hb with rfl | hb
  ·exact ⟨_, k5⟩
  ·obtain rfl : b = T := by simpa using hb
   obtain ⟨sl, q⟩ := k2 b _ hTe hT'
   exact ⟨_, q⟩
end
section
variable {X : Cx} {pins : List (Addr × Obj)} {σ : List (Option V)} {H : Hp} {s : Shared} {h' : Heap}
theorem Inv.stepx {ch : List Addr} (I : Inv X pins σ H s)
  (hch : ∀ b ∈ ch, X.s₀.heap.get? b = none ∧ H b = none ∧ ∀ p ∈ X.pn ++ pins, p.1 ≠ b) (hrec : ∀ b ∈ ch, ∃ o vs, s.heap.get? b = some o ∧ o.data = .fields vs)
  (keep : ∀ b o, b ∉ frs X.stack → b ∉ ch → s.heap.get? b = some o → h'.get? b = some o)
  (slot : ∀ b o, b ∉ ch → s.heap.get? b = some o → ∃ sl, h'.get? b = some { o with slots := sl }) (there : ∀ b ∈ ch, ∃ o, h'.get? b = some o) : Inv X pins σ H { s with heap := h' } := by
 have neL : ∀ b ∈ ch, b ≠ X.env.locals := fun b hb z => by
  obtain ⟨o, vs, ho, hd⟩ := hrec b hb
  obtain ⟨m, ⟨o', es, ep, ho', hd', _⟩, _⟩ := I.loc
  rw [z, ho'] at ho; cases ho; rw [hd'] at hd; cases hd
 have neC : ∀ b ∈ ch, ∀ x c, X.env.cells.lookup x = some c → c ≠ b := fun b hb x c e z => by
  obtain ⟨o, vs, ho, hd⟩ := hrec b hb
  obtain ⟨v, o', ho', hd'⟩ := I.cell x c e
  rw [z, ho] at ho'; cases ho'; rw [hd] at hd'; cases hd'
 have nch : ∀ b o, X.s₀.heap.get? b = some o → b ∉ ch := fun b o e hb => by rw [(hch b hb).1] at e; cases e
 have trk : ∀ b u, H b = some u → b ∉ ch ∧ b ∉ frs X.stack := fun b u e => ⟨(fun hb => by rw [(hch b hb).2.1] at e; cases e), (fun hb => by rw [I.stkFree b hb] at e; cases e)⟩
 have nfs : ∀ b, b ∉ X.fs → b ≠ X.env.locals → b ∉ frs X.stack := fun b h1 h2 z => (List.mem_cons.mp (I.stkSub b z)).elim h2 h1
 have ltL : ∀ b o, X.s₀.heap.get? b = some o → b ≠ X.env.locals := fun b o e => Nat.ne_of_lt (Nat.lt_of_lt_of_le (Heap.lt_size e) I.ok.above)
 have cellK : ∀ x c, X.env.cells.lookup x = some c → ∀ v, s.heap.IsCell c v → h'.IsCell c v := fun x c e v ⟨o, ho, hd⟩ => by
  obtain ⟨sl, q⟩ := slot c o (fun z => neC c z x c e rfl) ho
  exact ⟨_, q, hd⟩
 have hok : HOk X.prog X.w H h' := fun b u e => (I.hok b u e).stay (fun c v hc q => by
  have hcH : ∃ u', H c = some u' := by
   rcases hc with rfl | z
   ·exact ⟨_, e⟩
   ·exact ⟨_, z⟩
  obtain ⟨u', hu⟩ := hcH
  exact keep c v (trk c u' hu).2 (trk c u' hu).1 q) (fun _ q => q) fun _ _ q => q
 refine ⟨I.ok, I.os, I.bare, ⟨fun b o e n hb hx => ?_, fun b o e n hb hx => ?_, I.base.free, fun b o e hx => ?_, I.base.tups, I.base.frzs, I.base.tbls⟩, ?_, fun x c e => ?_, I.free, I.freeC, fun p hp => ?_, hok, I.len⟩
 ·exact keep b o (nfs b hb (ltL b o e)) (nch b o e) (I.base.keep b o e n hb hx)
 ·obtain ⟨sl, e1⟩ := I.base.slot b o e n hb hx
  obtain ⟨sl', e2⟩ := slot b _ (nch b o e) e1
  exact ⟨sl', e2⟩
 ·obtain ⟨o', e1⟩ := I.base.there b o e hx
  obtain ⟨sl', e2⟩ := slot b _ (nch b o e) e1
  exact ⟨_, e2⟩
 ·obtain ⟨m, ⟨o, es, ep, ho, r⟩, hl⟩ := I.loc
  obtain ⟨sl, q⟩ := slot _ o (fun z => neL _ z rfl) ho
  refine ⟨m, ⟨_, es, ep, q, r⟩, fun i x v e1 e2 e3 => ?_⟩
  obtain ⟨u, r', l⟩ := hl i x v e1 e2 e3
  refine ⟨u, r', ?_⟩
  rcases l with l | ⟨k, c, e, z⟩
  ·exact .inl l
  ·exact .inr ⟨k, c, e, cellK x c e _ z⟩
 ·obtain ⟨v, z⟩ := I.cell x c e
  exact ⟨v, cellK x c e v z⟩
 ·obtain ⟨e, n, ne, nf, d⟩ := I.pin p hp
  exact ⟨keep p.1 p.2 (nfs _ nf ne) (fun z => (hch p.1 z).2.2 p hp rfl) e, n, ne, nf, d⟩
theorem QJ {a : Addr} {oe : Obj} {vs : Array Value} {E : Value → Shared → Prop} {Q : Unit → Shared → Prop} (I : Inv X pins σ H s) (hst : X.stack = X.env :: X.outer) (hfr : X.env.frame = some X.env.locals) (hex : X.ex = [])
  (he : s.heap.get? a = some oe) (hdict : oe.dict = none) (hd : oe.data = .fields vs) (ga : X.s₀.heap.get? a = none) (Ha : H a = none) (hpa : ∀ p ∈ X.pn ++ pins, p.1 ≠ a)
  (h1 : vs[1]? = some .none ∨ ∃ T oT ts, vs[1]? = some (.ref T) ∧ T ≠ a ∧ s.heap.get? T = some oT ∧ oT.data = .fields ts ∧ ts[3]? = some .none ∧ X.s₀.heap.get? T = none ∧ H T = none ∧ ∀ p ∈ X.pn ++ pins, p.1 ≠ T)
  (hQ : ∀ s', Inv X pins σ H s' → Exc X.s₀.heap s'.heap H (X.pn ++ pins) a oe.cls → Q () s') :
  wpAny (model X.prog X.w) X.A (noteFrame (.ref a) X.env) (fun _ s' => wpAny (model X.prog X.w) X.A (setFlight (.ref a) none) Q E s') E s := by
 have hfs := I.ok.frames
 have hFF := I.stack
 rw [hst] at hfs hFF
 have hS : frs X.stack = (X.env :: X.outer).filterMap (·.frame) := by rw [hst]; rfl
 have fin : ∀ (ch : List Addr), (∀ b ∈ ch, X.s₀.heap.get? b = none ∧ H b = none ∧ ∀ p ∈ X.pn ++ pins, p.1 ≠ b) → (∀ b ∈ ch, ∃ o vs, s.heap.get? b = some o ∧ o.data = .fields vs) → a ∈ ch →
   ∀ h' T, (∀ b o, b ∉ (X.env :: X.outer).filterMap (·.frame) → b ∉ ch → s.heap.get? b = some o → h'.get? b = some o) → (∀ b o, b ∉ ch → s.heap.get? b = some o → ∃ sl, h'.get? b = some { o with slots := sl }) →
   (∀ b ∈ ch, ∃ o, h'.get? b = some o) → s.heap.get? T = none → T ≠ a → h'.get? a = some (oe.mapFields (·.setIfInBounds 1 (.ref T))) → (∃ oT ts, h'.get? T = some oT ∧ oT.data = .fields ts ∧ ts[3]? = some .none) → Q () { s with heap := h' } := by
  intro ch hch hrec ha h' T k1 k2 k3 k4 k5 k6 k7
  have I' := I.stepx (h' := h') hch hrec (fun b o hb hc q => k1 b o (by rw [← hS]; exact hb) hc q) k2 k3
  refine hQ _ I' ⟨?_, ga, Ha, hpa⟩
  obtain ⟨oT, ts, q1, q2, q3⟩ := k7
  have hsz : 1 < vs.size := by
   rcases h1 with z | ⟨_, _, _, z, _⟩ <;> exact (Array.getElem?_eq_some_iff.mp z).1
  refine ⟨_, _, T, oT, ts, k6, Obj.cls_mapFields _ _, by obtain ⟨c, d, dt, sl⟩ := oe; cases dt <;> exact hdict, Obj.data_mapFields hd _, by simp [hsz], k5, q1, q2, q3, ?_, ?_, fun p hp z => ?_⟩
  ·cases e : X.s₀.heap.get? T with
   | none => rfl
   | some o =>
    obtain ⟨o', e'⟩ := I.base.there T o e (by rw [hex]; simp)
    rw [k4] at e'; cases e'
  ·cases e : H T with
   | none => rfl
   | some u =>
    obtain ⟨o', e'⟩ := (I.hok T u e).there
    rw [k4] at e'; cases e'
  ·have := (I.pin p hp).1
   rw [z, k4] at this; cases this
 rcases h1 with h1 | ⟨T, oT, ts, h1, hTa, hT, hdT, h3, gT, HT, pT⟩
 ·refine QI (ch := [a]) hfs hFF hfr he hd (.inl ⟨h1, rfl⟩) (fin [a] (fun b hb => ?_) (fun b hb => ?_) (by simp))
  ·obtain rfl : b = a := by simpa using hb
   exact ⟨ga, Ha, hpa⟩
  ·obtain rfl : b = a := by simpa using hb
   exact ⟨oe, vs, he, hd⟩
 ·refine QI (ch := [a, T]) hfs hFF hfr he hd (.inr ⟨T, oT, ts, h1, hTa, hT, hdT, h3, rfl⟩) (fin [a, T] (fun b hb => ?_) (fun b hb => ?_) (by simp))
  ·rcases List.mem_cons.mp hb with rfl | hb
   ·exact ⟨ga, Ha, hpa⟩
   ·obtain rfl : b = T := by simpa using hb
    exact ⟨gT, HT, pT⟩
  ·rcases List.mem_cons.mp hb with rfl | hb
   ·exact ⟨oe, vs, he, hd⟩
   ·obtain rfl : b = T := by simpa using hb
    exact ⟨oT, ts, hT, hdT⟩
end
def JG (X : Cx) (G : GK) (e : Value) (s : Shared) : Prop := ∃ a cls σ H, e = Value.ref a ∧ Inv X [] σ H s ∧ Exc X.s₀.heap s.heap H X.pn a cls ∧ G cls σ H
def xeG (X : Cx) (G : GK) (e : Value) (s : Shared) : Prop := wpAny (model X.prog X.w) X.A (noteFrame e X.env) (fun _ s' => wpAny (model X.prog X.w) X.A (setFlight e none) (fun _ s'' => JG X G e s'') (fun _ _ => False) s') (fun _ _ => False) s
abbrev Cx.exg (X : Cx) (G : GK) : Cx := X.wish (xeG X G)
structure Bod (X : Cx) : Prop where
 st : X.stack = X.env :: X.outer
 fr : X.env.frame = some X.env.locals
 ex : X.ex = []
theorem qH {X : Cx} {G : GK} : PassesOwn (model X.prog X.w) X.A X.env (xeG X G) := PassesOwn.looking
theorem Inv.nopins {X : Cx} {pins : List (Addr × Obj)} {σ : St} {H : Hp} {s : Shared} (I : Inv X pins σ H s) : Inv X [] σ H s := I.pins_of fun p hp => absurd hp (by simp)
theorem Exc.less {g h : Heap} {H : Hp} {pn pn' : List (Addr × Obj)} {a : Addr} {cls : Value} (x : Exc g h H pn a cls) (hp : ∀ p ∈ pn', p ∈ pn) : Exc g h H pn' a cls := by
 obtain ⟨⟨oe, vs, T, oT, ts, h1, h2, h3, h4, h5, h6, h7, h8, h9, h10, h11, h12⟩, ga, Ha, pa⟩ := x
 exact ⟨⟨oe, vs, T, oT, ts, h1, h2, h3, h4, h5, h6, h7, h8, h9, h10, h11, fun p q => h12 p (hp p q)⟩, ga, Ha, fun p q => pa p (hp p q)⟩
def CXr (P : Program) (w : World) : CXT := fun outer H s E e s' => ∃ a cls H', e = Value.ref a ∧ s'.os = s.os ∧ AllBare s'.gens ∧ Un (frs outer) [] H H' s.heap s'.heap ∧ HOk P w H' s'.heap ∧
 Exc s.heap s'.heap H' [] a cls ∧ E cls none H'
section
variable {X : Cx} {pins : List (Addr × Obj)} {σ : St} {H : Hp} {s : Shared} {G : GK}
theorem vP {e : Value} {s' : Shared} (B : Bod X) (I : Inv X pins σ H s) (h : CXr X.prog X.w X.stack H s (fun cls _ H' => G cls σ H') e s') : xeG X G e s' := by
 obtain ⟨a, cls, H', rfl, os, bare, un, hok, ⟨⟨oe, vs, T, oT, ts, h1, h2, h3, h4, h5, h6, h7, h8, h9, h10, h11, _⟩, ga, Ha, _⟩, hG⟩ := h
 have I' : Inv X pins σ H' s' := I.call' os un hok bare (fun b z => absurd z (by simp))
 have old : ∀ b, s.heap.get? b = none → X.s₀.heap.get? b = none := fun b hb => by
  cases e : X.s₀.heap.get? b with
  | none => rfl
  | some o =>
   obtain ⟨o', e'⟩ := I.base.there b o e (by rw [B.ex]; simp)
   rw [hb] at e'; cases e'
 have pin : ∀ b, s.heap.get? b = none → ∀ p ∈ X.pn ++ pins, p.1 ≠ b := fun b hb p hp z => by
  have := (I.pin p hp).1
  rw [z, hb] at this; cases this
 refine QJ I' B.st B.fr B.ex h1 h3 h4 (old a ga) Ha (pin a ga) (.inr ⟨T, oT, ts, h5, h6, h7, h8, h9, old T h10, h11, pin T h10⟩) fun s'' I2 x => ?_
 exact ⟨a, oe.cls, σ, H', rfl, I2.nopins, x.less fun p hp => List.mem_append_left _ hp, h2 ▸ hG⟩
theorem XJ {a : Addr} {cls : Value} {args : List Value} {h' : Heap} (B : Bod X) (I : Inv X pins σ H s) (hm : Heap.MadeExcOf s.heap h' a cls args) (hG : G cls σ H) : xeG X G (.ref a) { s with heap := h' } := by
 obtain ⟨t, h1, h2, h3⟩ := hm.there
 have I' : Inv X pins σ H { s with heap := h' } := I.kept (t' := s.toks) hm.keeps
 have ga : X.s₀.heap.get? a = none := by
  cases e : X.s₀.heap.get? a with
  | none => rfl
  | some o =>
   obtain ⟨o', e'⟩ := I.base.there a o e (by rw [B.ex]; simp)
   rw [hm.new] at e'; cases e'
 have Ha : H a = none := by
  cases e : H a with
  | none => rfl
  | some u =>
   obtain ⟨o', e'⟩ := (I.hok a u e).there
   rw [hm.new] at e'; cases e'
 refine QJ (s := { s with heap := h' }) I' B.st B.fr B.ex h1 rfl rfl ga Ha (fun p hp z => ?_) (.inl rfl) fun s'' I2 x => ?_
 ·have := (I.pin p hp).1
  rw [z, hm.new] at this; cases this
 ·exact ⟨a, cls, σ, H, rfl, I2.nopins, x.less fun p hp => List.mem_append_left _ hp, hG⟩
end
section
variable {P : Program} {w : World} {K : PySem.W.Frag} {mg : Str → Option Value} {base : Heap}
abbrev cxR (P : Program) (w : World) (K : PySem.W.Frag) (mg : Str → Option Value) (base : Heap) (N : List Str) (qual : Str) (scope : Scope) (f : Addr) (cd : Value) (A : Around) (outer : List Env) (s : Shared) (H : Hp) (E : XK) : Cx :=
 Zo (CXr P w) P w K mg base N qual scope f cd A outer s H E
theorem Fun.okx {x qual : Str} {st : Stmt} {f : Addr} {fd : FuncData} {N ps : List Str} {k : Nat} {sp : Sp} (F : Fun K x qual st f fd) (S : FnScope N ps (zf st)) (len : ∀ vs H Q E, sp vs H Q E → vs.length = ps.length)
  (hbody : ∀ (cdv : Value) (A : Around) (outer : List Env) (s : Shared) (H : Hp) (vs : List V) (Q : VK) (E : XK), Room k (A.deeper (envOfC qual (zf st) s.heap.objs.size f cdv)) → sp vs H Q E →
   ∃ t, PSs ((cxR P w K mg base N qual (zf st) f cdv A outer s H E).exg fun cls _ H' => E cls none H') (zU st) t ∧ t { nx := fun _ H' => Q .non H', rt := Q } (start N vs) H) : FnOk P w K mg base (CXr P w) (k + 1) f fd ps sp := by
 obtain ⟨oc, od, kV, doc, pm, an, cdv, ct, osl, rfl, lk, hcd⟩ := F.ex
 refine za1 lk hcd S len fun A outer s H vs Q E hr hsp => ?_
 obtain ⟨t, h, q⟩ := hbody cdv A outer s H vs Q E hr hsp
 refine ⟨t, fun pins s σ H' D I hw => ?_, q⟩
 refine wpAny_mono (h pins s σ H' D (I.wish _) hw) (fun _ _ z => z.unwish) fun e s' z => ?_
 refine wpAny_bind (wpAny_mono (show wpAny _ _ _ _ _ _ from z) (fun _ s1 y1 => wpAny_mono y1 (fun _ s'' y => ?_) fun _ _ y => y.elim) fun _ _ y => y.elim)
 obtain ⟨a, cls, σ2, H2, rfl, J, xx, g⟩ := y
 exact ⟨a, cls, H2, rfl, J.os, J.bare, J.base, J.hok, xx.less (fun p hp => absurd hp (by simp)), g⟩
end
end L2
namespace L2
open PySem PySem.Spec PyProof.Rows
structure Cal (P : Program) (w : World) (K : PySem.W.Frag) (mg : Str → Option Value) (base : Heap) (x : Str) (k : Nat) (ps : List Str) (dvs : List V) (sp : Sp) : Prop where
 ex : ∃ f fd ds, FnOk P w K mg base (CXr P w) k f fd ps sp ∧ mg x = some (.ref f) ∧ PySem.W.keepIn K (.ref f) = true ∧ Binds K fd ps ds ∧ Vals dvs ds
structure MCal (P : Program) (w : World) (K : PySem.W.Frag) (mg : Str → Option Value) (base : Heap) (C : Addr) (m : Str) (k : Nat) (ps : List Str) (dvs : List V) (sp : Sp) : Prop where
 cl : Cls K C
 ex : ∃ f fd ds, FnOk P w K mg base (CXr P w) k f fd ps sp ∧ Meth K C m f ∧ Binds K fd ps ds ∧ Vals dvs ds
structure KCal (P : Program) (w : World) (K : PySem.W.Frag) (mg : Str → Option Value) (base : Heap) (x : Str) (C : Addr) (k : Nat) (ps : List Str) (dvs : List V) (sp : Sp) : Prop where
 gl : mg x = some (.ref C)
 ex : ∃ f fd ds, FnOk P w K mg base (CXr P w) k f fd ps sp ∧ Mk K C f ∧ Binds K fd ps ds ∧ Vals dvs ds
theorem Cal.mono {P : Program} {w : World} {K : PySem.W.Frag} {mg : Str → Option Value} {base : Heap} {x : Str} {j k : Nat} {ps : List Str} {dvs : List V} {sp : Sp} (c : Cal P w K mg base x j ps dvs sp) (h : j ≤ k := by decide) : Cal P w K mg base x k ps dvs sp :=
 let ⟨f, fd, ds, a, b⟩ := c.ex; ⟨f, fd, ds, a.mono h, b⟩
theorem MCal.mono {P : Program} {w : World} {K : PySem.W.Frag} {mg : Str → Option Value} {base : Heap} {C : Addr} {m : Str} {j k : Nat} {ps : List Str} {dvs : List V} {sp : Sp} (c : MCal P w K mg base C m j ps dvs sp) (h : j ≤ k := by decide) : MCal P w K mg base C m k ps dvs sp :=
 let ⟨f, fd, ds, a, b⟩ := c.ex; ⟨c.cl, f, fd, ds, a.mono h, b⟩
theorem KCal.mono {P : Program} {w : World} {K : PySem.W.Frag} {mg : Str → Option Value} {base : Heap} {x : Str} {C : Addr} {j k : Nat} {ps : List Str} {dvs : List V} {sp : Sp} (c : KCal P w K mg base x C j ps dvs sp) (h : j ≤ k := by decide) : KCal P w K mg base x C k ps dvs sp :=
 let ⟨f, fd, ds, a, b⟩ := c.ex; ⟨c.gl, f, fd, ds, a.mono h, b⟩
section
variable {X : Cx} {G : GK} {k : Nat} {f C : Addr} {fd : FuncData} {ps : List Str} {sp : Sp} {dvs : List V} {ds : List Value} {x m : Str} {p pos apos : Pos} {e o : Expr} {es : List Expr} {ta : TE} {t : TA}
theorem Je {pins : List (Addr × Obj)} {σ : St} {H : Hp} {s : Shared} {Q : VK} {us : List Value} {vs : List V} (B : Bod X) (F : FnOk X.prog X.w X.K X.mg X.base (CXr X.prog X.w) k f fd ps sp) (hr : Room k X.A) (hb : Binds X.K fd ps ds) (hd : Vals dvs ds)
  (I : Inv (X.exg G) pins σ H s) (r : Vals vs us) (h : sp (vs ++ dvs) H Q (fun cls _ H' => G cls σ H')) : wpAny (model X.prog X.w) X.A (call (.ref f) us) (EP (X.exg G) pins σ Q) (xeG X G) s := by
 have r2 : Vals (vs ++ dvs) (us ++ ds) := r.append hd
 have hl : (us ++ ds).length = ps.length := by rw [← r2.length]; exact F.len _ _ _ _ h
 refine wpAny_call (codeAny_mono (F.run X.A X.stack s H ⟨us, []⟩ (us ++ ds) (vs ++ dvs) Q _ hr I.unwish.env0 (hb s us I.kIn hl) r2 h) fun r s' hq => ?_)
 cases r with
 | error e => exact vP B I.unwish hq
 | ok fl =>
  cases fl with
  | ret u => exact I.after hq
  | next => exact False.elim hq
  | brk => exact False.elim hq
  | cont => exact False.elim hq
theorem Vr {pins : List (Addr × Obj)} {σ : St} {H : Hp} {s : Shared} {Q : VK} {us : List Value} {vs : List V} (B : Bod X) (M : Mk X.K C f) (F : FnOk X.prog X.w X.K X.mg X.base (CXr X.prog X.w) k f fd ps sp) (hr : Room (k + 1) X.A) (hb : Binds X.K fd ps ds) (hd : Vals dvs ds)
  (I : Inv (X.exg G) pins σ H s) (r : Vals vs us)
  (h : ∀ x dx, H x = none → H dx = none → dx ≠ x → sp (.ref x :: (vs ++ dvs)) (upd (upd H dx (.own x)) x (.ins C dx [])) (fun v H2 => v = .non ∧ Q (.ref x) H2) (fun cls _ H' => G cls σ H')) :
  wpAny (model X.prog X.w) X.A (call (.ref C) us) (EP (X.exg G) pins σ Q) (xeG X G) s := by
 have hq := h (s.heap.objs.size + 1) s.heap.objs.size (I.hok.fresh (Nat.le_succ _)) (I.hok.fresh (Nat.le_refl _)) (Nat.ne_of_lt (Nat.lt_succ_self _))
 have I2 := Inv.made (C := C) I
 have r2 : Vals (V.ref (s.heap.objs.size + 1) :: (vs ++ dvs)) (Value.ref (s.heap.objs.size + 1) :: (us ++ ds)) := .cons rfl (r.append hd)
 have hl : (Value.ref (s.heap.objs.size + 1) :: us ++ ds).length = ps.length := by
  have e := r2.length
  rw [F.len _ _ _ _ hq] at e
  exact e.symm
 refine wpAny_call (Xi (f := f) I.kIn M.makes M.init (beq_iff_eq.mp M.fn) (codeAny_mono (F.run _ X.stack _ _ ⟨Value.ref (s.heap.objs.size + 1) :: us, []⟩ (Value.ref (s.heap.objs.size + 1) :: (us ++ ds)) _ _ _ (hr.make C us [])
  (I2.unwish.env0.make C us []) (hb _ (Value.ref (s.heap.objs.size + 1) :: us) I2.kIn hl) r2 hq) fun r s' hq' => ?_))
 cases r with
 | error e => exact vP B I2.unwish hq'
 | ok fl =>
  cases fl with
  | ret u =>
   obtain ⟨v, H', I3, rv, ev, q3⟩ := I2.after hq'
   subst ev
   exact ⟨rv, ⟨V.ref (s.heap.objs.size + 1), H', I3, rfl, q3⟩⟩
  | next => exact False.elim hq'
  | brk => exact False.elim hq'
  | cont => exact False.elim hq'
def tCl (X : Cx) (k : Nat) (x : Str) (G : GK) (t : TA) : TE := fun σ H Q => ∃ ps dvs sp, Cal X.prog X.w X.K X.mg X.base x k ps dvs sp ∧ t σ H fun vs H1 => sp (vs ++ dvs) H1 Q (fun cls _ H' => G cls σ H')
theorem zx (B : Bod X) (hr : Room k X.A) (ha : PA (X.exg G) (e :: es) t) (hg : Gl X x := by rfl) (hdb : (x == ("__debug__" : Str)) = false := by decide)
  (he : starEach (e :: es) X.env = (false, eval e X.env) :: starEach es X.env := by rfl) (hpl : (backTo pos (starEach es X.env)).any (·.1) = false := by rfl) :
  PE (X.exg G) (.Call (.Name x p) (e :: es) [] pos) (tCl X k x G t) := by
 intro pins s σ H Q I h
 obtain ⟨ps, dvs, sp, ⟨f, fd, ds, F, hm, hk, hb, hd⟩, h⟩ := h
 refine wpAny_Call_Name_kw (xD I hg hm ?_ hdb)
 refine PySem.W.callWith_K (h₀ := X.base) I.ok.mod.kin hk (thn (ha pos pins s σ H _ I h) fun us s1 ⟨vs, H1, I1, r, q⟩ => ⟨I1.kIn, ?_⟩) he hpl
 exact Je B F hr hb hd I1 r q
def tMk (X : Cx) (k : Nat) (x : Str) (G : GK) (t : TA) : TE := fun σ H Q => ∃ C ps dvs sp, KCal X.prog X.w X.K X.mg X.base x C k ps dvs sp ∧ t σ H fun vs H1 => ∀ y dx, H1 y = none → H1 dx = none → dx ≠ y →
 sp (.ref y :: (vs ++ dvs)) (upd (upd H1 dx (.own y)) y (.ins C dx [])) (fun v H2 => v = .non ∧ Q (.ref y) H2) (fun cls _ H' => G cls σ H')
theorem jm (B : Bod X) (hr : Room (k + 1) X.A) (ha : PA (X.exg G) (e :: es) t) (hg : Gl X x := by rfl) (hdb : (x == ("__debug__" : Str)) = false := by decide)
  (he : starEach (e :: es) X.env = (false, eval e X.env) :: starEach es X.env := by rfl) (hpl : (backTo pos (starEach es X.env)).any (·.1) = false := by rfl) :
  PE (X.exg G) (.Call (.Name x p) (e :: es) [] pos) (tMk X k x G t) := by
 intro pins s σ H Q I h
 obtain ⟨C, ps, dvs, sp, ⟨hm, f, fd, ds, F, M, hb, hd⟩, h⟩ := h
 refine wpAny_Call_Name_kw (xD I hg hm ?_ hdb)
 refine PySem.W.callWith_K (h₀ := X.base) I.ok.mod.kin M.kp (thn (ha pos pins s σ H _ I h) fun us s1 ⟨vs, H1, I1, r, q⟩ => ⟨I1.kIn, ?_⟩) he hpl
 exact Vr B M F hr hb hd I1 r q
def tMth (X : Cx) (k : Nat) (m : Str) (G : GK) (ta : TE) (t : TA) : TE := fun σ H Q => ta σ H fun y H1 => ∃ a C dx fs ps dvs sp, y = .ref a ∧ H1 a = some (.ins C dx fs) ∧ fs.lookup m = none ∧
 MCal X.prog X.w X.K X.mg X.base C m k ps dvs sp ∧ t σ H1 fun vs H2 => sp (.ref a :: (vs ++ dvs)) H2 Q (fun cls _ H' => G cls σ H')
theorem Zr {pl : Sem Bool} (B : Bod X) (hr : Room k X.A) (he : PE (X.exg G) o ta)
  (ht : eval (.Call (.Attribute o m apos) [] [] pos) X.env = (do
   let ov ← eval o X.env
   standAt apos.atName
   let (f, first) ← holding [ov] (getMethod ov m pl)
   callWith pos f first (backTo pos (starEach [] X.env)) (backToKw pos (keywordEach [] X.env))) := by rfl) :
  PE (X.exg G) (.Call (.Attribute o m apos) [] [] pos) (tMth X k m G ta tNil) := by
 intro pins s σ H Q I h
 refine PySem.W.methodCall_KW (pl := pl) (thn (he pins s σ H _ I h) fun u s1 hz => ?_) ht
 obtain ⟨x, H1, I1, rx, a, C, dx, fs, ps, dvs, sp, ex, ea, l, ⟨c, f, fd, ds, F, hm, hb, hd⟩, q⟩ := hz
 subst ex
 obtain rfl : u = Value.ref a := rx
 refine Z3 I1 ea c hm l ?_
 exact PySem.W.callWith_K0 (first := [.ref a]) I1.kIn hm.kp (Je (us := [.ref a]) (vs := [.ref a]) B F hr hb hd I1 (.cons rfl .nil) q)
def tGl (X : Cx) (x : Str) : TE := fun _ H Q => ∃ v u, X.mg x = some u ∧ RelV v u ∧ Q v H
theorem qG (hg : Gl X x := by rfl) (hd : (x == ("__debug__" : Str)) = false := by decide) : PE X (.Name x pos) (tGl X x) := fun _ _ _ H _ I h => by
 obtain ⟨v, u, hm, r, h⟩ := h
 exact xD I hg hm ⟨v, H, I, r, h⟩ hd
def tBl (X : Cx) (x : Str) (v : V) : TE := fun _ H Q => X.mg x = none ∧ Q v H
theorem zax {n : String} (hv : bootBuiltins x = some (.type n)) (hg : Gl X x := by rfl) (hn : x ≠ "__name__" := by decide) (hd : (x == ("__debug__" : Str)) = false := by decide) : PE X (.Name x pos) (tBl X x (.ty n)) := fun _ _ _ H _ I h => by
 obtain ⟨hm, h⟩ := h
 exact xV I hg hm hv ⟨.ty n, H, I, rfl, h⟩ hn hd
def tBi (X : Cx) (x : Str) (r : List V → Hp → VK → Prop) (t : TA) : TE := fun σ H Q => X.mg x = none ∧ t σ H fun vs H1 => r vs H1 Q
theorem zC {id : String} {r : List V → Hp → VK → Prop} (hc : CallR X (.builtin id) r) (hv : bootBuiltins x = some (.builtin id)) (ha : PA X (e :: es) t) (hg : Gl X x := by rfl) (hn : x ≠ "__name__" := by decide) (hdb : (x == ("__debug__" : Str)) = false := by decide)
  (he : starEach (e :: es) X.env = (false, eval e X.env) :: starEach es X.env := by rfl) (hpl : (backTo pos (starEach es X.env)).any (·.1) = false := by rfl) : PE X (.Call (.Name x p) (e :: es) [] pos) (tBi X x r t) := fun pins s σ H Q I h =>
 zaz hc hg h.1 hv ha hn hdb he hpl pins s σ H Q I h.2
theorem jh {T : String} {r : List V → Hp → VK → Prop} (hc : CallR X (.type T) r) (hv : bootBuiltins x = some (.type T)) (ha : PA X (e :: es) t) (hg : Gl X x := by rfl) (hn : x ≠ "__name__" := by decide) (hdb : (x == ("__debug__" : Str)) = false := by decide)
  (he : starEach (e :: es) X.env = (false, eval e X.env) :: starEach es X.env := by rfl) (hpl : (backTo pos (starEach es X.env)).any (·.1) = false := by rfl) : PE X (.Call (.Name x p) (e :: es) [] pos) (tBi X x r t) := fun pins s σ H Q I h =>
 Vx hc hg h.1 hv ha hn hdb he hpl pins s σ H Q I h.2
end
end L2
namespace L2
open PySem PySem.Spec PyProof.Rows
section
variable {X : Cx} {tg : Expr} {a b c e o : Expr} {ta tb tc : TE} {pos : Pos}
def iSeq (K : PySem.W.Frag) (tl : TE) : TI := fun σ H R => tl σ H fun x H1 => ∃ a, x = .ref a ∧ (((∃ xs, SqL K H1 a xs) ∧ R (Itl K a) H1) ∨ ((∃ xs, SqT K H1 a xs) ∧ R (Itt K a) H1))
theorem zW {l : Expr} {tl : TE} (hl : PE X l tl) : PI X tg l (iSeq X.K tl) := by
 intro pins s σ H R I h
 refine thn (hl pins s σ H _ I h) fun v s1 ⟨x, H1, I1, r1, q1⟩ => ?_
 obtain ⟨a, e, q⟩ := q1
 subst e
 cases r1
 rcases q with ⟨⟨xs, hq⟩, q⟩ | ⟨⟨xs, hq⟩, q⟩
 ·obtain ⟨its, rv, p, hz⟩ := I1.list hq
  refine wpAny_pyIter_list p.isList ?_
  refine ⟨s1.heap.objs.size, [s1.heap.objs.size], _, _, H1, rfl, I1.kept (t' := s1.toks) fun b o e => Heap.get?_push_of_some _ e, Ve a _, ⟨_, Heap.get?_push_size _ rfl, rfl, rfl⟩, fun b hb => ?_, q⟩
  have e : b = s1.heap.objs.size := by simpa using hb
  subst e
  exact I1.fpOk (Nat.le_refl _) (I1.hok.fresh (Nat.le_refl _))
 ·obtain ⟨its, rv, p, hz⟩ := I1.tuple hq
  refine wpAny_pyIter_tuple (show s1.heap.IsTuple a its.toArray from p) ?_
  refine ⟨s1.heap.objs.size, [s1.heap.objs.size], _, _, H1, rfl, I1.kept (t' := s1.toks) fun b o e => Heap.get?_push_of_some _ e, XM a _, ⟨_, Heap.get?_push_size _ rfl, rfl, rfl⟩, fun b hb => ?_, q⟩
  have e : b = s1.heap.objs.size := by simpa using hb
  subst e
  exact I1.fpOk (Nat.le_refl _) (I1.hok.fresh (Nat.le_refl _))
theorem wG {ta : TA} {p pos : Pos} (ha : PA X [a] ta) (hg : Gl X "range" := by rfl) (hs : starEach [a] X.env = [(false, eval a X.env)] := by rfl) : PI X tg (.Call (.Name "range" p) [a] [] pos) (fun σ H R => X.mg "range" = none ∧ iRng1 ta σ H R) :=
 fun pins s σ H R I h => Vw hg h.1 ha hs pins s σ H R I h.2
def zbM (K : PySem.W.Frag) : R2 := fun x y H Q => ∃ l b xs zs, x = .ref l ∧ y = .ref b ∧ SqL K H l xs ∧ SqL K H b zs ∧ xs.length + zs.length ≤ sizeLine ∧ ∀ p, H p = none → Q (.ref p) (upd H p (.lst (xs ++ zs)))
theorem zbs : OpR X (binaryOp .Add) (zbM X.K) := by
 intro pins s σ H x y v u Q I rx ry h
 obtain ⟨l, b, xs, zs, rfl, rfl, hH, hB, hz, q⟩ := h
 cases rx
 cases ry
 obtain ⟨its, r, p, z⟩ := I.list hH
 obtain ⟨its2, r2, p2, z2⟩ := I.list hB
 have e1 := r.length
 have e2 := r2.length
 obtain ⟨⟨cls, dd, data, sl⟩, n, ho, hc, hdd, hd⟩ := p
 obtain ⟨⟨cls2, dd2, data2, sl2⟩, n2, ho2, hc2, hdd2, hd2⟩ := p2
 simp only at hc hd hc2 hd2
 subst hc hd hc2 hd2
 have ea : its.toArray ++ its2.toArray = (its ++ its2).toArray := by simp
 refine concat_meets ⟨_, ho, rfl⟩ ⟨_, ho2, rfl⟩ noFill_list_add seq_list_add PySem.F.slot_list_add PySem.F.entry_list_add (PySem.F.args_list_add_2 _ _) (list_addW l b its.toArray its2.toArray n n2 dd dd2 sl sl2 (by simp only [List.size_toArray]; omega)) ⟨ho, ho2, ?_⟩
 rw [ea]
 exact ⟨.ref _, _, I.lnew (t' := s.toks) (r.append r2) (by rw [List.length_append]; omega), rfl, q _ I.fresh⟩
def WH (K : PySem.W.Frag) : R2 := fun x y H Q => rI0 (fun i j => .int (i + j)) x y H Q ∨ (∃ i j, x = .str i ∧ y = .str j ∧ i.length + j.length ≤ sizeLine ∧ Q (.str (i ++ j)) H) ∨ zbM K x y H Q
theorem zM : OpR X (binaryOp .Add) (WH X.K) := op_add.or (op_add_str.or zbs)
theorem jE : OpR X (binaryOp .Mult) (rI (fun i j => IntMulOk i j) fun i j => .int (i * j)) := opI fun _ _ _ _ _ _ _ hc q => mul_int q hc
def CFd (_ j : Int) : Prop := j ≠ 0 ∧ j.natAbs.log2 < 9000
theorem zH : OpR X (binaryOp .FloorDiv) (rI CFd fun i j => .int (i.fdiv j)) := opI fun _ _ _ _ _ _ _ hc q => floordiv_int hc.1 q (.inl (PyProof.noPylong_of_log2 hc.2))
theorem zaC : OpR X (compareOp .Lt) (rI0 fun i j => .bl (decide (i < j))) := zcP
theorem QG : OpR X (compareOp .Gt) (rI0 fun i j => .bl (decide (j < i))) := zcQ
theorem mul_okL {i j : Int} (h1 : -(2 ^ 64) < i) (h2 : i < 2 ^ 64) : IntMulOk i j := PySem.IntMulOk.of_left (PySem.intBits_le_64 h1 h2)
theorem mul_okR {i j : Int} (h1 : -(2 ^ 64) < j) (h2 : j < 2 ^ 64) : IntMulOk i j := PySem.IntMulOk.of_right (PySem.intBits_le_64 h1 h2)
theorem fd_ok {i j : Int} (h1 : 0 < j) (h2 : j.natAbs < 2 ^ 8999) : CFd i j := ⟨by omega, by
 have := (Nat.log2_lt (n := j.natAbs) (k := 8999) (by omega)).mpr h2
 omega⟩
theorem fdiv_pos {i j : Int} (h : 0 < j) : i.fdiv j = i / j := Int.fdiv_eq_ediv_of_nonneg i (Int.le_of_lt h)
def jQ : List V → List V → Bool
 | [], [] => true
 | x :: xs, y :: ys => eqV x y && jQ xs ys
 | _, _ => false
theorem j9 : ∀ {xs ys : List V}, xs.length ≠ ys.length → jQ xs ys = false
 | [], [], h => absurd rfl h
 | [], _ :: _, _ => rfl
 | _ :: _, [], _ => rfl
 | x :: xs, y :: ys, h => by
  have := j9 (xs := xs) (ys := ys) (fun e => h (by simp [e]))
  unfold jQ
  rw [this, Bool.and_false]
theorem xa : ∀ {xs ys : List V}, xs.length = ys.length → (List.range xs.length).all (fun j => eqV (xs.getD j .non) (ys.getD j .non)) = jQ xs ys
 | [], [], _ => rfl
 | [], _ :: _, h => by simp at h
 | _ :: _, [], h => by simp at h
 | x :: xs, y :: ys, h => by
  have ih := xa (xs := xs) (ys := ys) (by simpa using h)
  unfold jQ
  rw [← ih, List.length_cons, List.range_succ_eq_map, List.all_cons, List.all_map]
  rfl
theorem Vals.getD : ∀ {xs : List V} {us : List Value} {j : Nat} (h : j < us.length), Vals xs us → RelV (xs.getD j .non) us[j]
 | _, _, 0, _, .cons r _ => r
 | _, _, j + 1, h, .cons _ t => Vals.getD (j := j) (by simpa using h) t
theorem jD {xs : List V} (f : xs.all xn = true) (j : Nat) : xn (xs.getD j .non) = true := by
 rw [List.getD_eq_getElem?_getD]
 cases e : xs[j]? with
 | none => rfl
 | some x => exact List.all_eq_true.mp f x (List.mem_of_getElem? e)
def zbo (K : PySem.W.Frag) (neg : Bool) : R2 := fun x y H Q => ∃ a b xs ys, x = .ref a ∧ y = .ref b ∧ ((SqL K H a xs ∧ SqL K H b ys) ∨ (SqT K H a xs ∧ SqT K H b ys)) ∧ xs.all xn = true ∧ ys.all xn = true ∧ Q (.bl (if neg then !jQ xs ys else jQ xs ys)) H
theorem QF (hu : X.A.units < cLine) : OpR X (compareOp .Eq) (zbo X.K false) := by
 intro pins s σ H x y v u Q I rx ry h
 obtain ⟨a, b, xs, ys, rfl, rfl, hq, fx, fy, q⟩ := h
 cases rx
 cases ry
 have fin : EP X pins σ Q (.bool (jQ xs ys)) s := ⟨.bl (jQ xs ys), H, I, rfl, q⟩
 rcases hq with ⟨h1, h2⟩ | ⟨h1, h2⟩
 ·obtain ⟨its, r, p, _⟩ := I.list h1
  obtain ⟨its2, r2, p2, _⟩ := I.list h2
  have e1 := r.length
  have e2 := r2.length
  by_cases hl : xs.length = ys.length
  ·refine SeqAt.RcAt.lists (e := fun j => eqV (xs.getD j .non) (ys.getD j .non)) p.isList p2.isList (by simp only [List.size_toArray]; omega) hu (fun j h1 h2 => ?_) _ _ _ _ ?_
   ·exact Z7 (Vals.getD (by simpa using h1) r) (Vals.getD (by simpa using h2) r2) (jD fx j) (jD fy j)
   ·rw [List.size_toArray, ← e1, xa hl]; exact fin
  ·rw [j9 hl] at fin
   exact SeqAt.RcAt.lists_lengths p.isList p2.isList (by simp only [List.size_toArray]; simp; omega) hu _ _ _ _ fin
 ·obtain ⟨its, r, p, _⟩ := I.tuple h1
  obtain ⟨its2, r2, p2, _⟩ := I.tuple h2
  have e1 := r.length
  have e2 := r2.length
  refine SeqAt.RcAt.tuples (e := fun j => eqV (xs.getD j .non) (ys.getD j .non)) p p2 hu (fun j h1 h2 => ?_) _ _ _ _ ?_
  ·exact Z7 (Vals.getD (by simpa using h1) r) (Vals.getD (by simpa using h2) r2) (jD fx j) (jD fy j)
  ·by_cases hl : xs.length = ys.length
   ·have em : min its.toArray.size its2.toArray.size = xs.length := by simp only [List.size_toArray]; omega
    have es : (its.toArray.size == its2.toArray.size) = true := by simp only [List.size_toArray]; rw [beq_iff_eq]; omega
    rw [em, es, xa hl, Bool.and_true]; exact fin
   ·have es : (its.toArray.size == its2.toArray.size) = false := by simp only [List.size_toArray]; rw [beq_eq_false_iff_ne]; omega
    rw [es, Bool.and_false]
    rw [j9 hl] at fin
    exact fin
theorem Vy (hu : X.A.units < cLine) : OpR X (compareOp .NotEq) (zbo X.K true) := by
 intro pins s σ H x y v u Q I rx ry h
 obtain ⟨a, b, xs, ys, rfl, rfl, hq, fx, fy, q⟩ := h
 cases rx
 cases ry
 have fin : EP X pins σ Q (.bool (!jQ xs ys)) s := ⟨.bl (!jQ xs ys), H, I, rfl, q⟩
 rcases hq with ⟨h1, h2⟩ | ⟨h1, h2⟩
 ·obtain ⟨its, r, p, _⟩ := I.list h1
  obtain ⟨its2, r2, p2, _⟩ := I.list h2
  have e1 := r.length
  have e2 := r2.length
  by_cases hl : xs.length = ys.length
  ·refine SeqAt.RcNeAt.lists (e := fun j => eqV (xs.getD j .non) (ys.getD j .non)) p.isList p2.isList (by simp only [List.size_toArray]; omega) hu (fun j h1 h2 => ?_) _ _ _ _ ?_
   ·exact Z7 (Vals.getD (by simpa using h1) r) (Vals.getD (by simpa using h2) r2) (jD fx j) (jD fy j)
   ·rw [List.size_toArray, ← e1, xa hl]; exact fin
  ·rw [j9 hl] at fin
   exact SeqAt.RcNeAt.lists_lengths p.isList p2.isList (by simp only [List.size_toArray]; simp; omega) hu _ _ _ _ fin
 ·obtain ⟨its, r, p, _⟩ := I.tuple h1
  obtain ⟨its2, r2, p2, _⟩ := I.tuple h2
  have e1 := r.length
  have e2 := r2.length
  refine SeqAt.RcNeAt.tuples (e := fun j => eqV (xs.getD j .non) (ys.getD j .non)) p p2 hu (fun j h1 h2 => ?_) _ _ _ _ ?_
  ·exact Z7 (Vals.getD (by simpa using h1) r) (Vals.getD (by simpa using h2) r2) (jD fx j) (jD fy j)
  ·by_cases hl : xs.length = ys.length
   ·have em : min its.toArray.size its2.toArray.size = xs.length := by simp only [List.size_toArray]; omega
    have es : (its.toArray.size == its2.toArray.size) = true := by simp only [List.size_toArray]; rw [beq_iff_eq]; omega
    rw [em, es, xa hl, Bool.and_true]; exact fin
   ·have es : (its.toArray.size == its2.toArray.size) = false := by simp only [List.size_toArray]; rw [beq_eq_false_iff_ne]; omega
    rw [es, Bool.and_false]
    rw [j9 hl] at fin
    exact fin
inductive DE (K : PySem.W.Frag) (H : Hp) : Nat → V → V → Bool → Prop
 | flat {n : Nat} {x y : V} : xn x = true → xn y = true → DE K H n x y (eqV x y)
 | same {n : Nat} {p : Addr} : DE K H n (.ref p) (.ref p) true
 | lists {n : Nat} {p q : Addr} {xs ys : List V} {e : Nat → Bool} : p ≠ q → SqL K H p xs → SqL K H q ys → xs.length = ys.length → (∀ j x y, xs[j]? = some x → ys[j]? = some y → DE K H n x y (e j)) → DE K H (n + 1) (.ref p) (.ref q) ((List.range xs.length).all e)
 | listsL {n : Nat} {p q : Addr} {xs ys : List V} : p ≠ q → SqL K H p xs → SqL K H q ys → xs.length ≠ ys.length → DE K H (n + 1) (.ref p) (.ref q) false
 | tuples {n : Nat} {p q : Addr} {xs ys : List V} {e : Nat → Bool} : p ≠ q → SqT K H p xs → SqT K H q ys → (∀ j x y, xs[j]? = some x → ys[j]? = some y → DE K H n x y (e j)) → DE K H (n + 1) (.ref p) (.ref q) ((List.range (min xs.length ys.length)).all e && xs.length == ys.length)
theorem Vals.at_ {xs : List V} {us : List Value} (r : Vals xs us) {j : Nat} (h : j < us.toArray.size) : ∃ x, xs[j]? = some x ∧ RelV x us.toArray[j] := by
 have h' : j < us.length := by simpa using h
 have hl : j < xs.length := by rw [r.length]; exact h'
 obtain ⟨u, hu, ru⟩ := r.get (List.getElem?_eq_getElem hl)
 have e : us.toArray[j] = u := by
  have := List.getElem?_eq_some_iff.mp hu
  obtain ⟨_, e⟩ := this
  simpa using e
 exact ⟨xs[j], List.getElem?_eq_getElem hl, e ▸ ru⟩
theorem WX {pins : List (Addr × Obj)} {s : Shared} {σ : St} {H : Hp} {n : Nat} {x y : V} {b : Bool} (I : Inv X pins σ H s) (h : DE X.K H n x y b) : ∀ {u v : Value} {A : Around}, RelV x u → RelV y v → A.units + n < cLine → SeqAt.EqAt A s u v b := by
 induction h with
 | flat fx fy => intro u v A rx ry _; exact Z7 rx ry fx fy
 | same => intro u v A rx ry _; cases rx; cases ry; exact SeqAt.EqAt.same _
 | lists hne h1 h2 hl _ ih =>
  intro u v A rx ry hu
  cases rx; cases ry
  obtain ⟨its, r, p, _⟩ := I.list h1
  obtain ⟨its2, r2, p2, _⟩ := I.list h2
  have e1 := r.length
  have e2 := r2.length
  refine SeqAt.EqAt.of_refs hne ?_
  have := SeqAt.RcAt.lists (A := A) (s := s) p.isList p2.isList (by simp only [List.size_toArray]; omega) (by omega) (fun j h1 h2 => by
   obtain ⟨x, hx, rx⟩ := r.at_ h1
   obtain ⟨y, hy, ry⟩ := r2.at_ h2
   exact ih j x y hx hy rx ry (by show A.units + 1 + _ < _; omega))
  rw [List.size_toArray, ← e1] at this
  exact this
 | listsL hne h1 h2 hl =>
  intro u v A rx ry hu
  cases rx; cases ry
  obtain ⟨its, r, p, _⟩ := I.list h1
  obtain ⟨its2, r2, p2, _⟩ := I.list h2
  have e1 := r.length
  have e2 := r2.length
  exact SeqAt.EqAt.of_refs hne (SeqAt.RcAt.lists_lengths p.isList p2.isList (by simp only [List.size_toArray]; simp; omega) (by omega))
 | tuples hne h1 h2 _ ih =>
  intro u v A rx ry hu
  cases rx; cases ry
  obtain ⟨its, r, p, _⟩ := I.tuple h1
  obtain ⟨its2, r2, p2, _⟩ := I.tuple h2
  have e1 := r.length
  have e2 := r2.length
  refine SeqAt.EqAt.of_refs hne ?_
  have := SeqAt.RcAt.tuples (A := A) (s := s) p p2 (by omega) (fun j h1 h2 => by
   obtain ⟨x, hx, rx⟩ := r.at_ h1
   obtain ⟨y, hy, ry⟩ := r2.at_ h2
   exact ih j x y hx hy rx ry (by show A.units + 1 + _ < _; omega))
  simp only [List.size_toArray, ← e1, ← e2] at this
  exact this
def zav (K : PySem.W.Frag) (neg : Bool) : R2 := fun x y H Q => ∃ p q xs ys n e, x = .ref p ∧ y = .ref q ∧ n ≤ 8 ∧ (∀ j x y, xs[j]? = some x → ys[j]? = some y → DE K H n x y (e j)) ∧
 ((SqL K H p xs ∧ SqL K H q ys ∧ xs.length = ys.length ∧ Q (.bl (if neg then !((List.range xs.length).all e) else (List.range xs.length).all e)) H) ∨
   (SqT K H p xs ∧ SqT K H q ys ∧ Q (.bl (if neg then !((List.range (min xs.length ys.length)).all e && xs.length == ys.length) else ((List.range (min xs.length ys.length)).all e && xs.length == ys.length))) H))
theorem X3 (hu : X.A.units + 100 < cLine) : OpR X (compareOp .Eq) (zav X.K false) := by
 intro pins s σ H x y v u Q I rx ry h
 obtain ⟨p, q, xs, ys, n, e, rfl, rfl, hn, hde, h⟩ := h
 cases rx
 cases ry
 rcases h with ⟨h1, h2, hl, q⟩ | ⟨h1, h2, q⟩
 ·obtain ⟨its, r, p, _⟩ := I.list h1
  obtain ⟨its2, r2, p2, _⟩ := I.list h2
  have e1 := r.length
  have e2 := r2.length
  refine SeqAt.RcAt.lists (e := e) p.isList p2.isList (by simp only [List.size_toArray]; omega) (by omega) (fun j h1 h2 => ?_) _ _ _ _ ?_
  ·obtain ⟨x, hx, rx⟩ := r.at_ h1
   obtain ⟨y, hy, ry⟩ := r2.at_ h2
   exact WX I (hde j x y hx hy) rx ry (by show X.A.units + 1 + _ < _; omega)
  ·rw [List.size_toArray, ← e1]; exact ⟨.bl _, H, I, rfl, q⟩
 ·obtain ⟨its, r, p, _⟩ := I.tuple h1
  obtain ⟨its2, r2, p2, _⟩ := I.tuple h2
  have e1 := r.length
  have e2 := r2.length
  refine SeqAt.RcAt.tuples (e := e) p p2 (by omega) (fun j h1 h2 => ?_) _ _ _ _ ?_
  ·obtain ⟨x, hx, rx⟩ := r.at_ h1
   obtain ⟨y, hy, ry⟩ := r2.at_ h2
   exact WX I (hde j x y hx hy) rx ry (by show X.A.units + 1 + _ < _; omega)
  ·simp only [List.size_toArray, ← e1, ← e2]; exact ⟨.bl _, H, I, rfl, q⟩
theorem X1 (hu : X.A.units + 100 < cLine) : OpR X (compareOp .NotEq) (zav X.K true) := by
 intro pins s σ H x y v u Q I rx ry h
 obtain ⟨p, q, xs, ys, n, e, rfl, rfl, hn, hde, h⟩ := h
 cases rx
 cases ry
 rcases h with ⟨h1, h2, hl, q⟩ | ⟨h1, h2, q⟩
 ·obtain ⟨its, r, p, _⟩ := I.list h1
  obtain ⟨its2, r2, p2, _⟩ := I.list h2
  have e1 := r.length
  have e2 := r2.length
  refine SeqAt.RcNeAt.lists (e := e) p.isList p2.isList (by simp only [List.size_toArray]; omega) (by omega) (fun j h1 h2 => ?_) _ _ _ _ ?_
  ·obtain ⟨x, hx, rx⟩ := r.at_ h1
   obtain ⟨y, hy, ry⟩ := r2.at_ h2
   exact WX I (hde j x y hx hy) rx ry (by show X.A.units + 1 + _ < _; omega)
  ·rw [List.size_toArray, ← e1]; exact ⟨.bl _, H, I, rfl, q⟩
 ·obtain ⟨its, r, p, _⟩ := I.tuple h1
  obtain ⟨its2, r2, p2, _⟩ := I.tuple h2
  have e1 := r.length
  have e2 := r2.length
  refine SeqAt.RcNeAt.tuples (e := e) p p2 (by omega) (fun j h1 h2 => ?_) _ _ _ _ ?_
  ·obtain ⟨x, hx, rx⟩ := r.at_ h1
   obtain ⟨y, hy, ry⟩ := r2.at_ h2
   exact WX I (hde j x y hx hy) rx ry (by show X.A.units + 1 + _ < _; omega)
  ·simp only [List.size_toArray, ← e1, ← e2]; exact ⟨.bl _, H, I, rfl, q⟩
def J2 (K : PySem.W.Frag) : R2 := fun x y H Q => rEq x y H Q ∨ zbo K false x y H Q ∨ zav K false x y H Q
def Vt (K : PySem.W.Frag) : R2 := fun x y H Q => rNe x y H Q ∨ zbo K true x y H Q ∨ zav K true x y H Q
theorem qx (hu : X.A.units + 100 < cLine) : OpR X (compareOp .Eq) (J2 X.K) := op_eq.or ((QF (by omega)).or (X3 hu))
theorem ZQ (hu : X.A.units + 100 < cLine) : OpR X (compareOp .NotEq) (Vt X.K) := op_ne.or ((Vy (by omega)).or (X1 hu))
theorem Room.units1 {k : Nat} {A : Around} (r : Room k A) : A.units + 100 < cLine := by have := r.un; omega
def zcr : V → Option Value
 | .ty n => some (.type n)
 | .ref a => some (.ref a)
 | _ => none
theorem zN : bootBuiltins "len" = some (.builtin "len") := by decide +kernel
theorem zt : bootBuiltins "isinstance" = some (.builtin "isinstance") := by decide +kernel
theorem JJ : bootBuiltins "max" = some (.builtin "max") := by decide +kernel
theorem zcs : bootBuiltins "all" = some (.builtin "all") := by decide +kernel
theorem V6 : bootBuiltins "sorted" = some (.builtin "sorted") := by decide +kernel
theorem qX : bootBuiltins "list" = some (.type "list") := by decide +kernel
theorem qR : bootBuiltins "tuple" = some (.type "tuple") := by decide +kernel
theorem zbG : bootBuiltins "bool" = some (.type "bool") := by decide +kernel
theorem Za {K : PySem.W.Frag} : PySem.W.kitOne K (.type "int") (.type "int") = some true := by rfl
theorem ve {K : PySem.W.Frag} : PySem.W.kitOne K (.type "int") (.type "bool") = some false := by rfl
theorem wy {K : PySem.W.Frag} : PySem.W.kitOne K (.type "bool") (.type "bool") = some true := by rfl
theorem vZ {K : PySem.W.Frag} : PySem.W.kitOne K (.type "str") (.type "str") = some true := by rfl
theorem Xn {K : PySem.W.Frag} : PySem.W.kitOne K (.type "tuple") (.type "tuple") = some true := by rfl
theorem zcl : IxR X (rIx X.K) := zck
theorem zO : CallR X (.builtin "len") (fun xs H Q => ∃ x n, xs = [x] ∧ zc2 X.K x H n ∧ Q (.int n) H) := za6
end
end L2
namespace L2
open PySem PySem.Spec PyProof.Rows
abbrev bmV : List Value := [.type "ValueError", .type "Exception", .type "BaseException", .type "object"]
structure XC (K : PySem.W.Frag) (C : Addr) : Prop where
 q : PySem.W.excIn K C bmV "ValueError.__new__" = true
theorem zbR {K : PySem.W.Frag} {C : Addr} {h₀ : Heap} (X : K.In h₀) (x : XC K C) : ∃ bm N nm q bs hdct sn sub ab col dd k0 k1 k2 k3 k5 mN, h₀.get? C = some (excClassObj nm q C N bs bm hdct sn sub ab col dd k0 k1 k2 k3 k5 "ValueError.__new__") ∧ h₀.Ns N mN ∧ mN "__init__" = none ∧ OwnTail h₀ bmV bm := by
 have q := x.q
 unfold PySem.W.excIn at q
 split at q
 ·rename_i dd cd sl ho
  split at q
  ·rename_i C' bm k0 k1 k2 k3 n k5 hm hs
   simp only [Bool.and_eq_true, beq_iff_eq, Bool.not_eq_true'] at q
   obtain ⟨⟨⟨⟨⟨rfl, rfl⟩, hdel⟩, ht⟩, hok⟩, hni⟩ := q
   obtain ⟨nm, bs, mro, ns, qn, hd, sn, sub, ab, col, del⟩ := cd
   dsimp only at hm hdel hok hni
   subst hm hdel
   have hsl : sl = #[k0, k1, k2, k3, some (.builtin "ValueError.__new__"), k5] := by
    obtain ⟨l⟩ := sl
    simp only at hs
    rw [hs]
   subst hsl
   exact ⟨bm, ns, nm, qn, bs, hd, sn, sub, ab, col, dd, k0, k1, k2, k3, k5, _, X _ _ ho, .of_isNs (PySem.W.isNs_of_in X hok), PySem.W.nsMap_none_of_in X hok hni, PySem.W.tail_of_in X ht⟩
  ·cases q
 ·cases q
section
variable {X : Cx} {G : GK} {x n : Str} {np cpos pos hpos : Pos} {e₀ : Expr} {es : List Expr} {t : TA}
def tRaise (X : Cx) (x : Str) (G : GK) (t : TA) : TS := fun _ σ H => ∃ C, X.mg x = some (.ref C) ∧ XC X.K C ∧ t σ H fun vs H1 => vs.length ≤ sizeLine ∧ G (.ref C) σ H1
theorem qQ (B : Bod X) (hc : X.calm = true) (ha : PA (X.exg G) (e₀ :: es) t) (hg : Gl X x := by rfl) (hdb : (x == ("__debug__" : Str)) = false := by decide)
  (he : starEach (e₀ :: es) X.env = (false, eval e₀ X.env) :: starEach es X.env := by rfl) (hpl : (backTo cpos (starEach es X.env)).any (·.1) = false := by rfl) :
  PS (X.exg G) (.Raise (some (.Call (.Name x np) (e₀ :: es) [] cpos)) none pos) (tRaise X x G t) := by
 intro pins s σ H D I h
 obtain ⟨C, hm, xc, h⟩ := h
 obtain ⟨tl, N, nm, q, bs, hdct, sn, sub, ab, col, dd, k0, k1, k2, k3, k5, mN, hC, hN, hni, T⟩ := zbR I.ok.mod.kin xc
 refine wpAny_Raise_call_subT (C := C) (nm := nm) (q := q) (N := N) (bs := bs) (bm := tl) (hdct := hdct) (sn := sn) (sub := sub) (ab := ab) (col := col) (dd := dd) (k0 := k0) (k1 := k1) (k2 := k2) (k3 := k3) (k5 := k5)
  F.excBase_ValueError (mN := mN) (T.hasType F.excBase_ValueError.hasBase) (I.ok.hd hc) (by rw [he]; show (false || (backTo cpos (starEach es X.env)).any (·.1)) = false; rw [hpl]; rfl) hni (xD I hg hm ⟨rfl, ?_⟩ hdb)
 have hA := ha cpos pins s σ H _ I h
 rw [he] at hA ⊢
 refine Calls.evalArgs_plain (thn hA fun us s2 ⟨vs, H2, I2, r, hl, g⟩ => ?_)
 exact ⟨rfl, by rw [← r.length]; exact hl, I2.bk _ _ hC, hN.keeps I2.bk, T.keeps I2.bk, fun h' a hm => XJ B I2.unwish hm g⟩
end
def zcn (a : Addr) (cls : Value) : HO := .ext fun h => ∃ o vs, h.get? a = some o ∧ o.cls = cls ∧ o.dict = none ∧ o.data = .fields vs
theorem Exc.obj {g h : Heap} {H : Hp} {pn : List (Addr × Obj)} {a : Addr} {cls : Value} (x : Exc g h H pn a cls) : ∃ o vs, h.get? a = some o ∧ o.cls = cls ∧ o.dict = none ∧ o.data = .fields vs :=
 let ⟨oe, vs, _, _, _, h1, h2, h3, h4, _⟩ := x.ex; ⟨oe, vs, h1, h2, h3, h4⟩
section
variable {X : Cx} {pins : List (Addr × Obj)} {σ : St} {H : Hp} {s : Shared}
end
abbrev Cx.suite (X : Cx) (pn : List (Addr × Obj)) (a : Addr) : Cx := { X with pn := pn, A := X.A.mark (some (.ref a)), calm := false, xe := fun _ _ => False }
abbrev Cx.pinned (X : Cx) (pn : List (Addr × Obj)) : Cx := { X with pn := pn }
section
variable {X : Cx} {pins : List (Addr × Obj)} {σ : St} {H : Hp} {s : Shared}
end
section
variable {X : Cx} {G : GK} {x n : Str} {np pos hpos : Pos} {i : Nat} {body suite : List Stmt} {b₀ : Stmt} {tb : List (Addr × Obj) → GK → TS} {th : List (Addr × Obj) → Addr → TS}
def tTryAs (X : Cx) (i : Nat) (x : Str) (tb : List (Addr × Obj) → GK → TS) (th : List (Addr × Obj) → Addr → TS) : TS := fun D σ H => ∃ Dc, X.mg x = some (.ref Dc) ∧ PySem.W.subIn X.K (.ref Dc) (.type "BaseException") = some true ∧
 ∀ pn, tb pn (fun cls σ' H' => ∃ C, cls = .ref C ∧ PySem.W.kitCls X.K (.ref C) (.ref Dc) = some true ∧ ∀ a, H' a = none →
  th pn a { nx := fun σ2 H2 => D.nx (σ2.set i none) H2, rt := D.rt, bk := fun σ2 H2 => D.bk (σ2.set i none) H2, ct := fun σ2 H2 => D.ct (σ2.set i none) H2 } (σ'.set i (some (.ref a))) (upd H' a (zcn a (.ref C)))) D σ H
end
structure FA (K : PySem.W.Frag) (mg : Str → Option Value) (x : Str) (st : Stmt) (ps : List Str) : Prop where
 ex : ∃ f fd, Fun K x x st f fd ∧ mg x = some (.ref f) ∧ Binds K fd ps []
theorem FA.cal {P : Program} {w : World} {K : PySem.W.Frag} {mg : Str → Option Value} {base : Heap} {x : Str} {st : Stmt} {ps : List Str} {k : Nat} {sp : Sp} (h : FA K mg x st ps) (ok : ∀ {f fd}, Fun K x x st f fd → FnOk P w K mg base (CXr P w) k f fd ps sp) :
  Cal P w K mg base x k ps [] sp := let ⟨f, fd, F, m, b⟩ := h.ex; ⟨f, fd, [], ok F, m, F.kp, b, .nil⟩
theorem zcX {K : PySem.W.Frag} {mg : Str → Option Value} {h : Heap} {x : Str} {st : Stmt} {ps : List Str} {f : Addr} {oc : Value} {od an : Option Addr} {osl : Array (Option Value)} {kV doc pm cdv ct : Value} (X : K.In h) (G : h.Ns mainGlobals mg)
  (a : PySem.W.nsIn K mainGlobals x = some (some (.ref f))) (l : K.lookup f = some ⟨oc, od, .func (PySem.W.fnOf x x (z4 st) (zU st) (zf st) .none kV doc pm an cdv ct), osl⟩)
  (c : PySem.W.codeIn K cdv x = true) (k : PySem.W.keepIn K (.ref f) = true)
  (hb : ∀ (kV doc pm : Value) (an : Option Addr) (cdv ct : Value) (us : List Value), us.length = ps.length → bindArgs (PySem.W.fnOf x x (z4 st) (zU st) (zf st) .none kV doc pm an cdv ct) ⟨us, []⟩ = pure (ps.zip us)) : FA K mg x st ps :=
 ⟨f, _, xE l c k, PySem.W.mg_of X G a, (xE l c k).binds hb⟩
theorem VY {P : Program} {w : World} {H : Hp} {s : Shared} {e : Value} {s' : Shared} (h : CXr P w [] H s (fun _ _ _ => False) e s') : False := let ⟨_, _, _, _, _, _, _, _, _, z⟩ := h; z
end L2
namespace L2
open PySem PySem.Spec PySem.Calls PyProof.Rows
structure XI (K : PySem.W.Frag) (C : Addr) : Prop where
 ga : PySem.W.findIn K (.ref C) "__getattribute__" = some (some (.builtin "BaseException.__getattribute__"))
 gt : PySem.W.findIn K (.ref C) "__getattr__" = some none
 cl : PySem.W.findIn K (.ref C) "__class__" = some (some (.builtin "object.__class__"))
 hd : PySem.W.hasDictIn K C = true
 gn : PySem.W.specialIn K (.builtin "object.__class__") "__get__" = some (some (.builtin "getset_descriptor.__get__"))
 tk : PySem.W.takesIn K (.builtin "object.__class__") = some true
 mo : PySem.W.mroIn K C (.type "object") = some true
 mb : PySem.W.subIn K (.ref C) (.type "BaseException") = some true
section
variable {prog : Program} {w : World} {A : Around} {E : Value → Shared → Prop} {s : Shared} {K : PySem.W.Frag} {a C : Addr} {o : Obj} {vs : Array Value}
theorem Xv {hp : Heap} (hx : hp.get? a = some o) (hc : o.cls = .ref C) (hd : o.dict = none) (hv : o.data = .fields vs) : PySem.W.InstAt hp a o C none := by
 refine ⟨hx, hc, ?_, ?_⟩
 ·obtain ⟨c, d, dt, sl⟩ := o
  simp only at hv
  subst hv
  rfl
 ·rw [hd]
  trivial
theorem VW {Q : Option Value → Shared → Prop} (X : K.In s.heap) (f : XI K C) (hx : s.heap.get? a = some o) (hc : o.cls = .ref C) (hd : o.dict = none) (hv : o.data = .fields vs)
  (h : Q (some (.ref C)) { s with toks := s.toks + 1 }) : wpAny (model prog w) A (getAttr? (.ref a) "__class__") Q E s := by
 have I := Xv hx hc hd hv
 have hf : PySem.W.findObj K C none "__class__" = some (.bind (.builtin "getset_descriptor.__get__") (.builtin "object.__class__")) := by
   obtain ⟨cd, hcd, _⟩ := PySem.W.any_some f.hd
   simp [PySem.W.findObj, hcd, f.cl, f.gn, f.tk]
 obtain ⟨hh, g, d, t, os⟩ := s
 have T0 := I.type (M := model prog w)
 have T1 := PySem.W.looks_findIn (M := model prog w) X f.ga
 have T2 := PySem.W.looks_find (M := model prog w) X I hf
 have T3 := PySem.W.looks_findIn (M := model prog w) X f.gt
 have T4 := PySem.W.looks_subIn (M := model prog w) X f.mb
 have f3 := F.attr_ValueError.ga.bind (.ref a)
 unfold getAttr? getAttrBy? getAttrBy
 refine wpAny_bind (wpAny_mkText (wpAny_bind (wpAny_attempt (wpAny_holding (wpAny_bind (T0.at (wpAny_bind (T1.at ?_))))))))
 dsimp only
 have nga : (onTheHeap (Value.ref C) && Value.builtin "BaseException.__getattribute__" == Value.builtin "object.__getattribute__") = false := by
  have z : (Value.builtin "BaseException.__getattribute__" == Value.builtin "object.__getattribute__") = false := by decide +kernel
  rw [z, Bool.and_false]
 rw [nga, if_neg Bool.false_ne_true]
 unfold getAttrByItsOwn
 repeat (any_goals (first | assumption | with_reducible refine T0.at ?_ | with_reducible refine T3.at ?_ | with_reducible refine T1.at ?_ | wp_step))
 refine codeAny_call_builtin F.attr_ValueError.ga.plain F.entry_bexc_ga ?_
 have hk : builtinKind "BaseException.__getattribute__" = some .slot := by decide +kernel
 have hsp : splitId "BaseException.__getattribute__" = some ("BaseException", "__getattribute__") := by decide +kernel
 have hav := F.args_bexc_ga (.ref a) (Value.str (Str.ofString "__class__") t)
 simp only [checkBuiltinCall, hk, hsp]
 refine wpAny_bind ?_
 unfold isInstance
 repeat (first | with_reducible refine T2.at ?_ | with_reducible refine T0.at ?_ | with_reducible refine T4.at ?_ | wp_step)
 refine PySem.W.class_get (s := ⟨hh, g, d, t + 1, os⟩) (ox := o) (od := none) X I f.mo ?_
 refine wpAny_pure ?_
 refine PySem.W.handed_on rfl ?_
 exact wpAny_pure h
theorem zaP {vs : Array Value} (f : XI K C) : PySem.W.KitX K (.ref a) (.ref C) (fun h => ∃ o vs, h.get? a = some o ∧ o.cls = .ref C ∧ o.dict = none ∧ o.data = .fields vs) where
 ty := fun M h _ ⟨o, vs, e, c, d, v⟩ => (Xv e c d v).type
 it := fun _ _ X _ => by
  obtain ⟨cd, hcd, _⟩ := PySem.W.any_some f.hd
  unfold PySem.W.clsIn at hcd
  split at hcd
  ·rename_i c' d' cd' sl' ho
   intro A' Q' E' s' k q
   unfold isType loadHead
   exact wpAny_bind (wpAny_loadPart (k _ _ (X _ _ ho)) (wpAny_pure q))
  ·cases hcd
 ne := fun h tp dd its n sl X htp => by
  obtain ⟨cd, hcd, _⟩ := PySem.W.any_some f.hd
  refine Bool.eq_false_iff.mpr fun q => ?_
  have e : C = tp := Value.ref.inj (beq_iff_eq.mp q)
  subst e
  unfold PySem.W.clsIn at hcd
  split at hcd
  ·rename_i ho
   have z := (X _ _ ho).symm.trans htp
   cases z
  ·cases hcd
 ca := fun X ⟨o, vs, e, c, d, v⟩ k => VW X f e c d v k
end
inductive TyX (K : PySem.W.Frag) (H : Hp) : V → Value → Prop where
 | old {x : V} {t : Value} (h : TyOf K H x t) : TyX K H x t
 | exc {a C : Addr} (h : H a = some (zcn a (.ref C))) (f : XI K C) : TyX K H (.ref a) (.ref C)
def Va : List V → Option (List Value)
 | [] => some []
 | c :: r => match zcr c, Va r with
  | some u, some us => some (u :: us)
  | _, _ => none
theorem Vb {c : V} {u v : Value} (h : zcr c = some u) (r : RelV c v) : v = u := by
 cases c with
 | ty n => cases r; exact Option.some.inj h
 | ref a => cases r; exact Option.some.inj h
 | _ => cases h
theorem Xz : ∀ {cs : List V} {us vs : List Value}, Va cs = some us → Vals cs vs → vs = us
 | [], _, _, h, .nil => Option.some.inj h
 | c :: r, us, v :: vs, h, .cons rc rr => by
  unfold Va at h
  split at h
  ·rename_i u us' h1 h2
   cases h
   rw [Vb h1 rc, Xz h2 rr]
  ·cases h
theorem zcd {X : Cx} {pins : List (Addr × Obj)} {σ : St} {H : Hp} {s : Shared} {x : V} {u t : Value} (I : Inv X pins σ H s) (rx : RelV x u) (ty : TyX X.K H x t) :
  ∃ Hx : Heap → Prop, PySem.W.KitX X.K u t Hx ∧ Hx s.heap ∧ u ≠ .builtin "__main__.__loader__#opaque" := by
 cases ty with
 | @exc a C ea f =>
  cases (show u = Value.ref a from rx)
  obtain ⟨p, _⟩ := (show ObjOk X.prog X.w H s.heap a (zcn a (.ref C)) from I.hok a _ ea)
  exact ⟨_, zaP (vs := #[]) f, p, fun z => nomatch z⟩
 | old ty =>
  cases ty with
  | non => cases (show u = Value.none from rx); exact ⟨_, PySem.W.kitx_none, True.intro, fun z => nomatch z⟩
  | bl y => cases (show u = Value.bool y from rx); exact ⟨_, PySem.W.kitx_bool, True.intro, fun z => nomatch z⟩
  | int i => obtain ⟨t, q⟩ := (show ∃ t, u = Value.int i t from rx); cases q; exact ⟨_, PySem.W.kitx_int, True.intro, fun z => nomatch z⟩
  | str y => obtain ⟨t, q⟩ := (show ∃ t, u = Value.str y t from rx); cases q; exact ⟨_, PySem.W.kitx_str, True.intro, fun z => nomatch z⟩
  | flt y => obtain ⟨t, q⟩ := (show ∃ t, u = Value.float y t from rx); cases q; exact ⟨_, PySem.W.kitx_float, True.intro, fun z => nomatch z⟩
  | @lst a xs ea =>
   cases (show u = Value.ref a from rx)
   obtain ⟨_, _, n, _, h1⟩ := (show ObjOk X.prog X.w H s.heap a (.lst xs) from I.hok a _ ea)
   exact ⟨_, PySem.W.kitx_list, ⟨_, h1, rfl⟩, fun z => nomatch z⟩
  | @frz a ob xs ea =>
   cases (show u = Value.ref a from rx)
   obtain ⟨_, _, _, n, _, h1⟩ := (show ObjOk X.prog X.w H s.heap a (.frz ob (.lst xs)) from I.hok a _ ea)
   exact ⟨_, PySem.W.kitx_list, ⟨_, h1, rfl⟩, fun z => nomatch z⟩
  | @tup a xs ea =>
   cases (show u = Value.ref a from rx)
   obtain ⟨_, _, _, p⟩ := (show ObjOk X.prog X.w H s.heap a (.tup xs) from I.hok a _ ea)
   obtain ⟨o, h1, h2, _⟩ := p
   exact ⟨_, PySem.W.kitx_tuple, ⟨o, h1, h2⟩, fun z => nomatch z⟩
  | @dK a kvs ea =>
   cases (show u = Value.ref a from rx)
   obtain ⟨_, _, vs, _, p⟩ := (show ObjOk X.prog X.w H s.heap a (.dK kvs) from I.hok a _ ea)
   obtain ⟨o, es, ep, h1, h2, _⟩ := p
   exact ⟨_, PySem.W.kitx_dict, ⟨o, h1, h2.1⟩, fun z => nomatch z⟩
  | @dT a kvs ea =>
   cases (show u = Value.ref a from rx)
   obtain ⟨_, _, xs, _, o, es, ep, h1, h2, _⟩ := (show ObjOk X.prog X.w H s.heap a (.dT kvs) from I.hok a _ ea)
   exact ⟨_, PySem.W.kitx_dict, ⟨o, h1, h2.1⟩, fun z => nomatch z⟩
  | @ins a C dx fs ea cl ha hn htk hm =>
   cases (show u = Value.ref a from rx)
   obtain ⟨mA, O, _⟩ := Zs I.hok ea
   obtain ⟨od, J, _⟩ := O.look
   exact ⟨_, PySem.W.kitx_own (cl.get _) cl.hd ha hn htk hm, J, fun z => nomatch z⟩
def Vu (K : PySem.W.Frag) : List V → Hp → VK → Prop := fun xs H Q => ∃ x c t b, xs = [x, c] ∧ TyX K H x t ∧ ((∃ u, zcr c = some u ∧ PySem.W.kitOne K t u = some b) ∨ (∃ p cs us, c = .ref p ∧ H p = some (.tup cs) ∧ Va cs = some us ∧ PySem.W.kitAny K t us = some b)) ∧ Q (.bl b) H
theorem qC {X : Cx} : CallR X (.builtin "isinstance") (Vu X.K) := by
 intro pins s σ H xs us Q I r h
 obtain ⟨x, c, t, b, rfl, ty, hc, q⟩ := h
 obtain ⟨v, v2, rfl, rx, rc⟩ := r.two
 obtain ⟨Hx, Z, p, nx⟩ := zcd I rx ty
 rcases hc with ⟨u, hu, e⟩ | ⟨pt, cs, us, rfl, hp, hu, e⟩
 ·obtain rfl := Vb hu rc
  exact PySem.W.kia_one Z I.kIn p e nx fun tk => ⟨.bl b, H, I.tok tk, rfl, q⟩
 ·cases rc
  obtain ⟨_, its, rv, o, h1, h2, n, h3⟩ := (show ObjOk X.prog X.w H s.heap pt (.tup cs) from I.hok pt _ hp)
  obtain rfl := Xz hu rv
  obtain ⟨cl, dd, dt, sl⟩ := o
  simp only at h2 h3
  subst h2 h3
  exact PySem.W.kia_tup Z I.kIn p h1 e nx fun tk => ⟨.bl b, H, I.tok tk, rfl, q⟩
structure FK (K : PySem.W.Frag) (C : Addr) (qual : Str) (st : Stmt) (ps : List Str) : Prop where
 ex : ∃ f fd, Fun K "__init__" qual st f fd ∧ Mk K C f ∧ Binds K fd ps []
structure FM (K : PySem.W.Frag) (C : Addr) (m qual : Str) (st : Stmt) (ps : List Str) : Prop where
 ex : ∃ f fd, Fun K m qual st f fd ∧ Meth K C m f ∧ Binds K fd ps []
theorem FK.cal {P : Program} {w : World} {K : PySem.W.Frag} {mg : Str → Option Value} {base : Heap} {x : Str} {C : Addr} {qual : Str} {st : Stmt} {ps : List Str} {k : Nat} {sp : Sp} (h : FK K C qual st ps) (gl : mg x = some (.ref C))
  (ok : ∀ {f fd}, Fun K "__init__" qual st f fd → FnOk P w K mg base (CXr P w) k f fd ps sp) : KCal P w K mg base x C k ps [] sp := let ⟨f, fd, F, m, b⟩ := h.ex; ⟨gl, f, fd, [], ok F, m, b, .nil⟩
theorem FM.cal {P : Program} {w : World} {K : PySem.W.Frag} {mg : Str → Option Value} {base : Heap} {C : Addr} {m qual : Str} {st : Stmt} {ps : List Str} {k : Nat} {sp : Sp} (h : FM K C m qual st ps) (cl : Cls K C)
  (ok : ∀ {f fd}, Fun K m qual st f fd → FnOk P w K mg base (CXr P w) k f fd ps sp) : MCal P w K mg base C m k ps [] sp := let ⟨f, fd, F, mm, b⟩ := h.ex; ⟨cl, f, fd, [], ok F, mm, b, .nil⟩
theorem zbO {K : PySem.W.Frag} {C : Addr} {qual : Str} {st : Stmt} {ps : List Str} {f : Addr} {oc : Value} {od an : Option Addr} {osl : Array (Option Value)} {kV doc pm cdv ct : Value} (mk : PySem.W.makesIn K C = true) (kc : PySem.W.keepIn K (.ref C) = true)
  (a : PySem.W.findIn K (.ref C) "__init__" = some (some (.ref f))) (i : PySem.W.isFn K (.ref f) = true) (l : K.lookup f = some ⟨oc, od, .func (PySem.W.fnOf "__init__" qual (z4 st) (zU st) (zf st) .none kV doc pm an cdv ct), osl⟩)
  (c : PySem.W.codeIn K cdv qual = true) (k : PySem.W.keepIn K (.ref f) = true)
  (hb : ∀ (kV doc pm : Value) (an : Option Addr) (cdv ct : Value) (us : List Value), us.length = ps.length → bindArgs (PySem.W.fnOf "__init__" qual (z4 st) (zU st) (zf st) .none kV doc pm an cdv ct) ⟨us, []⟩ = pure (ps.zip us)) : FK K C qual st ps :=
 ⟨f, _, xE l c k, ⟨mk, a, i, kc⟩, (xE l c k).binds hb⟩
theorem zcV {K : PySem.W.Frag} {C : Addr} {m qual : Str} {st : Stmt} {ps : List Str} {f : Addr} {oc : Value} {od an : Option Addr} {osl : Array (Option Value)} {kV doc pm cdv ct : Value}
  (a : PySem.W.findIn K (.ref C) m = some (some (.ref f))) (i : PySem.W.isFn K (.ref f) = true) (l : K.lookup f = some ⟨oc, od, .func (PySem.W.fnOf m qual (z4 st) (zU st) (zf st) .none kV doc pm an cdv ct), osl⟩)
  (c : PySem.W.codeIn K cdv qual = true) (k : PySem.W.keepIn K (.ref f) = true)
  (hb : ∀ (kV doc pm : Value) (an : Option Addr) (cdv ct : Value) (us : List Value), us.length = ps.length → bindArgs (PySem.W.fnOf m qual (z4 st) (zU st) (zf st) .none kV doc pm an cdv ct) ⟨us, []⟩ = pure (ps.zip us)) : FM K C m qual st ps :=
 ⟨f, _, xE l c k, ⟨a, i, k⟩, (xE l c k).binds hb⟩
structure WI (K : PySem.W.Frag) (C : Addr) : Prop where
 c : PySem.W.findIn K (.ref C) "__class__" = some (some (.builtin "object.__class__"))
 m : PySem.W.mroIn K C (.type "object") = some true
 g : PySem.W.specialIn K (.builtin "object.__class__") "__get__" = some (some (.builtin "getset_descriptor.__get__"))
 t : PySem.W.takesIn K (.builtin "object.__class__") = some true
theorem WI.ty {K : PySem.W.Frag} {H : Hp} {a C dx : Addr} {fs : List (Str × V)} (f : WI K C) (cl : Cls K C) (h : H a = some (.ins C dx fs)) : TyX K H (.ref a) (.ref C) := .old (.ins h cl f.c f.g f.t f.m)
end L2
namespace L2
open PySem PySem.Spec PySem.Calls PyProof.Rows
section
variable {prog : Program} {w : World} {A : Around} {E : Value → Shared → Prop} {s : Shared}
end
section
variable {X : Cx} {a e : Expr} {ta : TA} {te : TE} {pos p kp : Pos}
def tSumK (X : Cx) (ta : TA) (te : TE) : TE := fun σ H Q => X.mg "sum" = none ∧ ta σ H fun vs H1 => te σ H1 fun y H2 => ∃ l ns c, vs = [.ref l] ∧ y = .int c ∧ SqL X.K H2 l (ns.map V.int) ∧ (c = 0 ∨ ns = []) ∧ Q (.int (c + ns.sum)) H2
theorem vz : SlR X (zbY X.K) := zbh
theorem jv : CallR X (.type "list") (fun xs H Q => ∃ p ys, xs = [.ref p] ∧ (SqL X.K H p ys ∨ SqT X.K H p ys) ∧ ∀ l, H l = none → Q (.ref l) (upd H l (.lst ys))) := JE
end
end L2
namespace L2
open PySem PySem.Spec PySem.Calls PyProof.Rows
section
variable {X : Cx} {v v1 v2 : Expr} {es : List Expr} {te : TE} {pos p : Pos}
def tFv (te : TE) : TE := fun σ H Q => te σ H fun x H1 => (∃ i, x = .int i ∧ i.natAbs.log2 < 1920 ∧ Q (.str (toString i)) H1) ∨ (∃ y, x = .str y ∧ y.length ≤ sizeLine ∧ Q (.str y) H1)
abbrev TJ := Str → TE
def tJ0 : TJ := fun out _ H Q => out.length ≤ sizeLine ∧ Q (.str out) H
def tJ1 (te : TE) (t : TJ) : TJ := fun out σ H Q => te σ H fun x H1 => ∃ y, x = .str y ∧ (out ++ y).length ≤ sizeLine ∧ t (out ++ y) σ H1 Q
def zcG (t u : TS) : TS := fun D σ H => ∃ M : St → Hp → Prop, t { D with nx := M } σ H ∧ ∀ σ' H', M σ' H' → u D σ' H'
theorem zB {st : Stmt} {rest : List Stmt} {t u : TS} (h1 : PS X st t) (h2 : PSs X rest u) : PSs X (st :: rest) (zcG t u) := by
 intro pins s σ H D I ⟨M, ht, hu⟩
 refine wpAny_execs_cons (thn (h1 pins s σ H _ I ht) fun f s1 q => ?_)
 cases f with
 | next => exact let ⟨σ', H', I', q⟩ := q; h2 pins s1 σ' H' D I' (hu σ' H' q)
 | _ => exact q
def zbK (t u : TS) : TS := fun D σ H => tSeq t u D σ H
theorem zg {st : Stmt} {rest : List Stmt} {t u : TS} (h1 : PS X st t) (h2 : PSs X rest u) : PSs X (st :: rest) (zbK t u) := show PSs X (st :: rest) (tSeq t u) from zm h1 h2
structure Nx (N : St → Hp → Prop) (u : TS) (D : Ends) : Prop where
 h : ∀ σ H, u D σ H → N σ H
theorem nxt {t u : TS} {D : Ends} {σ : St} {H : Hp} (k : ∀ N, Nx N u D → t { D with nx := N } σ H) : zbK t u D σ H := k (u D) ⟨fun _ _ h => h⟩
theorem useN {N : St → Hp → Prop} {u : TS} {D : Ends} {σ : St} {H : Hp} (n : Nx N u D) (q : u D σ H) : N σ H := n.h σ H q
theorem cut {t u : TS} {D : Ends} {σ : St} {H : Hp} (M : St → Hp → Prop) (h1 : t { D with nx := M } σ H) (h2 : ∀ σ' H', M σ' H' → u D σ' H') : zcG t u D σ H := ⟨M, h1, h2⟩
end
end L2
namespace L2
open PySem PySem.Spec PySem.Calls PyProof.Rows
section
variable {X : Cx} {k : Nat} {x m : Str} {p pos apos : Pos} {e o : Expr} {es : List Expr} {ta : TE} {t : TA}
theorem zaA : Wx (CXr X.prog X.w) X (fun _ _ _ => False) := fun _ _ _ _ _ _ _ h => let ⟨_, _, _, _, _, _, _, _, _, z⟩ := h; z.elim
def tClN (X : Cx) (k : Nat) (x : Str) (t : TA) : TE := fun σ H Q => ∃ ps dvs sp, Cal X.prog X.w X.K X.mg X.base x k ps dvs sp ∧ t σ H fun vs H1 => sp (vs ++ dvs) H1 Q (fun _ _ _ => False)
theorem vF (hr : Room k X.A) (ha : PA X (e :: es) t) (hg : Gl X x := by rfl) (hdb : (x == ("__debug__" : Str)) = false := by decide)
  (he : starEach (e :: es) X.env = (false, eval e X.env) :: starEach es X.env := by rfl) (hpl : (backTo pos (starEach es X.env)).any (·.1) = false := by rfl) :
  PE X (.Call (.Name x p) (e :: es) [] pos) (tClN X k x t) := by
 intro pins s σ H Q I h
 obtain ⟨ps, dvs, sp, ⟨f, fd, ds, F, hm, hk, hb, hd⟩, h⟩ := h
 refine wpAny_Call_Name_kw (xD I hg hm ?_ hdb)
 refine PySem.W.callWith_K (h₀ := X.base) I.ok.mod.kin hk (thn (ha pos pins s σ H _ I h) fun us s1 ⟨vs, H1, I1, r, q⟩ => ⟨I1.kIn, ?_⟩) he hpl
 exact zap F hr hb hd zaA I1 r q
def tMkN (X : Cx) (k : Nat) (x : Str) (t : TA) : TE := fun σ H Q => ∃ C ps dvs sp, KCal X.prog X.w X.K X.mg X.base x C k ps dvs sp ∧ t σ H fun vs H1 => ∀ y dx, H1 y = none → H1 dx = none → dx ≠ y →
 sp (.ref y :: (vs ++ dvs)) (upd (upd H1 dx (.own y)) y (.ins C dx [])) (fun v H2 => v = .non ∧ Q (.ref y) H2) (fun _ _ _ => False)
theorem zb4 (hr : Room (k + 1) X.A) (ha : PA X (e :: es) t) (hg : Gl X x := by rfl) (hdb : (x == ("__debug__" : Str)) = false := by decide)
  (he : starEach (e :: es) X.env = (false, eval e X.env) :: starEach es X.env := by rfl) (hpl : (backTo pos (starEach es X.env)).any (·.1) = false := by rfl) :
  PE X (.Call (.Name x p) (e :: es) [] pos) (tMkN X k x t) := by
 intro pins s σ H Q I h
 obtain ⟨C, ps, dvs, sp, ⟨hm, f, fd, ds, F, M, hb, hd⟩, h⟩ := h
 refine wpAny_Call_Name_kw (xD I hg hm ?_ hdb)
 refine PySem.W.callWith_K (h₀ := X.base) I.ok.mod.kin M.kp (thn (ha pos pins s σ H _ I h) fun us s1 ⟨vs, H1, I1, r, q⟩ => ⟨I1.kIn, ?_⟩) he hpl
 exact zao M F hr hb hd zaA I1 r q
def tMthN (X : Cx) (k : Nat) (m : Str) (ta : TE) (t : TA) : TE := fun σ H Q => ta σ H fun y H1 => ∃ a C dx fs ps dvs sp, y = .ref a ∧ H1 a = some (.ins C dx fs) ∧ fs.lookup m = none ∧
 MCal X.prog X.w X.K X.mg X.base C m k ps dvs sp ∧ t σ H1 fun vs H2 => sp (.ref a :: (vs ++ dvs)) H2 Q (fun _ _ _ => False)
theorem zay {pl : Sem Bool} (hr : Room k X.A) (he : PE X o ta)
  (ht : eval (.Call (.Attribute o m apos) [] [] pos) X.env = (do
   let ov ← eval o X.env
   standAt apos.atName
   let (f, first) ← holding [ov] (getMethod ov m pl)
   callWith pos f first (backTo pos (starEach [] X.env)) (backToKw pos (keywordEach [] X.env))) := by rfl) :
  PE X (.Call (.Attribute o m apos) [] [] pos) (tMthN X k m ta tNil) := by
 intro pins s σ H Q I h
 refine PySem.W.methodCall_KW (pl := pl) (thn (he pins s σ H _ I h) fun u s1 hz => ?_) ht
 obtain ⟨x, H1, I1, rx, a, C, dx, fs, ps, dvs, sp, ex, ea, l, ⟨c, f, fd, ds, F, hm, hb, hd⟩, q⟩ := hz
 subst ex
 obtain rfl : u = Value.ref a := rx
 refine Z3 I1 ea c hm l ?_
 exact PySem.W.callWith_K0 (first := [.ref a]) I1.kIn hm.kp (zap (us := [.ref a]) (vs := [.ref a]) F hr hb hd zaA I1 (.cons rfl .nil) q)
end
def qK (cells : List (Str × Addr)) : List (Str × NameKind) → List (Str × Addr) → List (Str × Addr)
 | [], cs => cs
 | (n, k) :: r, cs => if k = .free then qK cells r ((n, (cells.lookup n).getD 0) :: cs) else qK cells r cs
def V0 (cells : List (Str × Addr)) (ns : List (Str × NameKind)) : Prop := ∀ y ∈ ns, y.2 = .free → ∃ c, cells.lookup y.1 = some c
theorem wB {scope : Scope} {env : Env} (h : V0 env.cells scope.names) : closureFor scope env = pure (qK env.cells scope.names []) := by
 simp only [closureFor]
 have key : ∀ (ns : List (Str × NameKind)) (cs : List (Str × Addr)), V0 env.cells ns →
   (forIn ns cs fun x r => if (x.2 == NameKind.free) = true then do let c ← cellOf env x.1; pure (ForInStep.yield ((x.1, c) :: r)) else pure (ForInStep.yield r) : Sem (List (Str × Addr))) = pure (qK env.cells ns cs) := by
  intro ns
  induction ns with
  | nil => intro cs _; rfl
  | cons y r ih =>
   intro cs hc
   obtain ⟨n, k⟩ := y
   have hr : V0 env.cells r := fun z hz => hc z (List.mem_cons_of_mem _ hz)
   rw [List.forIn_cons]
   by_cases hk : k = .free
   ·subst hk
    obtain ⟨c, e⟩ := hc (n, .free) List.mem_cons_self rfl
    have e' : cellOf env n = pure c := by unfold cellOf; simp only at e; rw [e]
    simp only [beq_self_eq_true, if_true, e', pure_bind]
    rw [ih _ hr]
    simp only at e
    simp [qK, e]
   ·have hb : (k == NameKind.free) = false := by simpa using hk
    simp only [hb, Bool.false_eq_true, if_false, pure_bind]
    rw [ih _ hr]
    simp [qK, hk]
 have := key scope.names [] h
 first
  | exact this
  | (simp only [bind_pure] at *; exact this)
theorem wO {cells : List (Str × Addr)} {x : Str} {c : Addr} : ∀ {ns : List (Str × NameKind)} {cs : List (Str × Addr)}, V0 cells ns → (∀ c, cs.lookup x = some c → cells.lookup x = some c) → (qK cells ns cs).lookup x = some c → cells.lookup x = some c
 | [], _, _, hs, h => hs c h
 | (n, k) :: r, cs, hc, hs, h => by
  have hr : V0 cells r := fun z hz => hc z (List.mem_cons_of_mem _ hz)
  unfold qK at h
  split at h
  ·rename_i hk
   obtain ⟨d, e⟩ := hc (n, k) List.mem_cons_self hk
   refine wO hr (fun c' hc' => ?_) h
   rw [List.lookup_cons] at hc'
   split at hc'
   ·rename_i hx
    have hx : x = n := by simpa using hx
    subst hx
    simp only at e
    rw [e] at hc' ⊢
    exact hc'
   ·exact hs c' hc'
  ·exact wO hr hs h
theorem xY {cells : List (Str × Addr)} {x : Str} : ∀ {ns : List (Str × NameKind)} {cs : List (Str × Addr)}, (∃ c, cs.lookup x = some c) → ∃ c, (qK cells ns cs).lookup x = some c
 | [], _, h => h
 | (n, k) :: r, cs, h => by
  unfold qK
  split
  ·refine xY ?_
   rw [List.lookup_cons]
   split
   ·exact ⟨_, rfl⟩
   ·exact h
  ·exact xY h
theorem wN {cells : List (Str × Addr)} {x : Str} : ∀ {ns : List (Str × NameKind)} {cs : List (Str × Addr)}, (x, NameKind.free) ∈ ns → ∃ c, (qK cells ns cs).lookup x = some c
 | [], _, h => by simp at h
 | (n, k) :: r, cs, h => by
  unfold qK
  rcases List.mem_cons.mp h with h | h
  ·cases h
   rw [if_pos rfl]
   exact xY ⟨(cells.lookup x).getD 0, by rw [List.lookup_cons]; simp⟩
  ·split <;> exact wN h
def zas (scope osc : Scope) : Scope :=
 { scope with names := scope.names.map fun (n, k) => if (k == .free && osc.kind == .function && osc.names.lookup n == some .cell) then (n, .cell) else (n, k) }
theorem X0 {scope osc : Scope} {x : Str} (hcell : ∀ y ∈ scope.names, y.2 ≠ .cell) (h : (zas scope osc).names.lookup x = some .cell ∨ (zas scope osc).names.lookup x = some .free) : (x, NameKind.free) ∈ scope.names := by
 have key : ∀ k, (k = .cell ∨ k = .free) → (zas scope osc).names.lookup x = some k → (x, NameKind.free) ∈ scope.names := fun k hk hl => by
  have hm := PySem.mem_of_lookup hl
  obtain ⟨⟨n, k'⟩, hm', e⟩ := List.mem_map.mp hm
  simp only at e
  split at e
  ·rename_i hc
   simp only [Bool.and_eq_true, beq_iff_eq] at hc
   cases e
   rw [← hc.1.1]; exact hm'
  ·cases e
   rcases hk with rfl | rfl
   ·exact absurd rfl (hcell _ hm')
   ·exact hm'
 rcases h with h | h
 ·exact key _ (.inl rfl) h
 ·exact key _ (.inr rfl) h
def cxC (X : Cx) (N : List Str) (scope : Scope) (s : Shared) (H : Hp) (fp : List Addr) (pins : List (Addr × Obj)) : Cx where
 prog := X.prog
 w := X.w
 K := X.K
 mg := X.mg
 base := X.base
 A := X.A
 N := N
 s₀ := s
 H₀ := H
 env := compEnvC scope (qK X.env.cells scope.names []) s.heap.objs.size X.env
 outer := X.stack
 stack := X.stack
 ex := fp
 fn := fun _ => false
 calm := X.calm
 pn := X.pn ++ pins
 xe := fun _ _ => False
def stC (nv : Nat) (caps : List Nat) (σ : St) : St := List.replicate nv none ++ caps.map fun k => (σ[k]?).getD none
structure CompOk (osc scope : Scope) (ON : List Str) (vars : List Str) (caps : List Nat) : Prop where
 kind : scope.kind = .function
 cell : ∀ y ∈ scope.names, y.2 ≠ .cell
 loc : ∀ y ∈ scope.names, y.2 = .local → scope.names.lookup y.1 = some .local
 free : ∀ y ∈ scope.names, y.2 = .free → osc.names.lookup y.1 = some .cell ∨ osc.names.lookup y.1 = some .free
 caps : ∀ k ∈ caps, k < ON.length ∧ scope.names.lookup (ON.getD k Str.empty) = some .free
def WZ (osc scope : Scope) (ON : List Str) (caps : List Nat) : Bool :=
 scope.kind == .function && scope.names.all (fun y => y.2 != .cell) && scope.names.all (fun y => y.2 != .local || scope.names.lookup y.1 == some .local) &&
 scope.names.all (fun y => y.2 != .free || (osc.names.lookup y.1 == some .cell || osc.names.lookup y.1 == some .free)) && caps.all fun k => decide (k < ON.length) && scope.names.lookup (ON.getD k Str.empty) == some .free
theorem Xy {osc scope : Scope} {ON vars : List Str} {caps : List Nat} (h : WZ osc scope ON caps = true) : CompOk osc scope ON vars caps := by
 simp only [WZ, Bool.and_eq_true, List.all_eq_true, beq_iff_eq, bne_iff_ne, Bool.or_eq_true, decide_eq_true_eq] at h
 obtain ⟨⟨⟨⟨h1, h2⟩, h3⟩, h4⟩, h5⟩ := h
 refine ⟨h1, h2, fun y hy e => (h3 y hy).resolve_left (fun z => z e), fun y hy e => (h4 y hy).resolve_left (fun z => z e), fun k hk => h5 k hk⟩
theorem ZI {osc : Scope} {x : Str} : ∀ {ns : List (Str × NameKind)}, ns.lookup x = some .free →
  (ns.map fun (n, k) => if (k == NameKind.free && osc.kind == .function && osc.names.lookup n == some .cell) then (n, NameKind.cell) else (n, k)).lookup x = some .cell ∨
  (ns.map fun (n, k) => if (k == NameKind.free && osc.kind == .function && osc.names.lookup n == some .cell) then (n, NameKind.cell) else (n, k)).lookup x = some .free
 | [], h => by simp at h
 | (n, k) :: r, h => by
  have ih := @ZI osc x r
  rw [List.map_cons]
  show List.lookup x ((if (k == NameKind.free && osc.kind == .function && osc.names.lookup n == some .cell) = true then (n, NameKind.cell) else (n, k)) :: _) = _ ∨ List.lookup x ((if (k == NameKind.free && osc.kind == .function && osc.names.lookup n == some .cell) = true then (n, NameKind.cell) else (n, k)) :: _) = _
  cases hx : x == n with
  | true =>
   simp only [List.lookup_cons, hx] at h
   cases h
   split
   ·exact .inl (by simp [List.lookup_cons, hx])
   ·exact .inr (by simp [List.lookup_cons, hx])
  | false =>
   simp only [List.lookup_cons, hx] at h
   split <;> (simp only [List.lookup_cons, hx]; exact ih h)
section
variable {X : Cx} {pins : List (Addr × Obj)} {σ : St} {H : Hp} {s : Shared} {fp : List Addr} {N vars : List Str} {caps : List Nat} {scope osc : Scope}
theorem zaT (I : Inv X pins σ H s) (hosc : X.env.scope = osc) (C : CompOk osc scope X.N vars caps) (hN : N = vars ++ caps.map fun k => X.N.getD k Str.empty)
  (hf : ∀ b ∈ fp, vO X pins H b) (hfo : ∀ b ∈ fp, ∃ o, s.heap.get? b = some o)
  {h' : Heap} {tk : Nat} {mm : Str → Option Value} (hns : h'.Ns s.heap.objs.size mm) (hk : ∀ b o, s.heap.get? b = some o → h'.get? b = some o) :
  Inv (cxC X N scope s H fp pins) [] (stC vars.length caps σ) H { s with heap := h', toks := tk } := by
 have hkf : ∀ y ∈ scope.names, y.2 = .free → X.env.kindOf y.1 = some .cell ∨ X.env.kindOf y.1 = some .free := fun y hy e => by
  have z := C.free y hy e
  rw [← hosc] at z
  exact z
 have hcl : V0 X.env.cells scope.names := fun y hy e => I.ok.has y.1 (hkf y hy e)
 have get : ∀ x c, (qK X.env.cells scope.names []).lookup x = some c → X.env.cells.lookup x = some c := fun x c h => wO hcl (fun c h => by simp at h) h
 refine ⟨⟨I.ok.mod, C.kind, I.ok.glob, I.ok.blt, Nat.le_refl _, fun x y c h1 h2 => I.ok.inj x y c (get x c h1) (get y c h2), fun x hx => wN (X0 (osc := X.env.scope) C.cell hx), fun _ _ h _ => Bool.noConfusion h, I.ok.hd, I.ok.frames, .inl rfl,
   fun b hb => ⟨?_, fun x c h => (hf b hb).2.2.2.2.1 x c (get x c h)⟩, I.bs, Nat.le_trans I.ok.bsz I.sz, fun b o e hb => ?_, fun b hb z => (List.mem_cons.mp (I.stkSub b z)).elim (hf b hb).2.1 (hf b hb).2.2.1, I.stack, I.stkFree⟩,
  rfl, I.bare, Un.kept hk, ⟨_, hns, fun i x v e1 e2 e3 => ?_⟩, fun x c h => ?_, I.hok.fresh (Nat.le_refl _), fun x c h => I.freeC x c (get x c h), fun p hp => ?_, I.hok.kept hk, ?_⟩
 ·obtain ⟨o, e⟩ := hfo b hb
  exact Nat.ne_of_lt (Heap.lt_size e)
 ·rcases (hf b hb).2.2.2.1 with z | z
  ·exact I.ok.noex b o e z
  ·exact absurd (Nat.lt_of_lt_of_le (Heap.lt_size (I.ok.bs b o e).1) z) (Nat.lt_irrefl _)
 ·have hi : ¬ i < vars.length := fun hi => by
   unfold stC at e2
   rw [List.getElem?_append_left (by simpa using hi), List.getElem?_replicate] at e2
   split at e2 <;> cases e2
  have e1' : (vars ++ caps.map fun k => X.N.getD k Str.empty)[i]? = some x := by rw [← hN]; exact e1
  unfold stC at e2
  rw [List.getElem?_append_right (by simpa using hi), List.length_replicate, List.getElem?_map] at e2
  rw [List.getElem?_append_right (by omega), List.getElem?_map] at e1'
  cases ek : caps[i - vars.length]? with
  | none => rw [ek] at e2; cases e2
  | some k =>
   rw [ek] at e1' e2
   obtain ⟨hkl, hlk⟩ := C.caps k (List.mem_of_getElem? ek)
   have ex : X.N.getD k Str.empty = x := by simpa using e1'
   have es : σ[k]?.getD none = some v := by simpa using e2
   have es' : σ[k]? = some (some v) := by
    cases q : σ[k]? with
    | none => rw [q] at es; cases es
    | some z => rw [q] at es; simp only [Option.getD_some] at es; rw [es]
   have eN : X.N[k]? = some x := by
    rw [← ex, List.getD_eq_getElem?_getD, List.getElem?_eq_getElem hkl]; rfl
   rw [ex] at hlk
   have hm : (x, NameKind.free) ∈ scope.names := PySem.mem_of_lookup hlk
   have hkx := hkf _ hm rfl
   obtain ⟨m, _, hl⟩ := I.loc
   obtain ⟨u, r, L⟩ := hl k x v eN es' (hkx.elim (fun z => .inr (.inl z)) fun z => .inr (.inr z))
   refine ⟨u, r, .inr ⟨ZI (osc := X.env.scope) hlk, ?_⟩⟩
   obtain ⟨c', ec⟩ := wN (cells := X.env.cells) (cs := []) hm
   rcases L with ⟨z, _⟩ | ⟨_, c, ec2, o, ho, hd⟩
   ·rcases hkx with y | y <;> (simp only at y; rw [y] at z; cases z)
   ·have z := get x c' ec
    rw [ec2] at z
    obtain rfl : c = c' := Option.some.inj z
    exact ⟨c, ec, o, hk _ _ ho, hd⟩
 ·obtain ⟨v, o, ho, hd⟩ := I.cell x c (get x c h)
  exact ⟨v, o, hk _ _ ho, hd⟩
 ·have hp' : p ∈ X.pn ++ pins := by simpa [cxC] using hp
  obtain ⟨e, n, ne, nf, d⟩ := I.pin p hp'
  exact ⟨hk _ _ e, n, Nat.ne_of_lt (Heap.lt_size e), fun z => (List.mem_cons.mp (I.stkSub _ z)).elim ne nf, d⟩
 ·show (stC vars.length caps σ).length = N.length
  rw [hN]
  simp [stC]
theorem Wm {σ' : St} {H' : Hp} {s' : Shared} (I : Inv X pins σ H s) (hf : ∀ b ∈ fp, vO X pins H b) (I' : Inv (cxC X N scope s H fp pins) [] σ' H' s') : Inv X pins σ H' s' :=
 I.call' (ch := fp) I'.os I'.base I'.hok I'.bare fun b hb => ⟨(hf b hb).2.2.2.1, (hf b hb).2.1, (hf b hb).2.2.2.2.1, (hf b hb).2.2.2.2.2⟩
end
section
variable {prog : Program} {w : World} {A : Around} {R : Result → Shared → Prop} {s : Shared}
abbrev NoX : Value → Shared → Prop := fun _ _ => False
theorem VZ {elt target iter : Expr} {ifs : List Expr} {scope : Scope} {pos : Pos} {it acc : Value} {env : Env} (I : Nat → Shared → Prop)
  (turn : ∀ n s, I n s → wpAny (model prog w) A (pyNext it) (fun r s₁ => match r with
   | none => R (.ok .next) s₁
   | some v => wpAny (model prog w) A (letOwnedTupleGo target it v) (fun _ s₁' => wpAny (model prog w) A (assign target env v) (fun _ s₂ =>
     wpAny (model prog w) A (forIn ifs true fun c r => if r = true then do let ok ← isTrue c env (eval c env); pure (ForInStep.yield ok) else pure (ForInStep.yield r)) (fun ok s₃ =>
      if ok = true then wpAny (model prog w) A (eval elt env) (fun x s₄ =>
       wpAny (model prog w) A (call (.builtin "list.append") [acc, x]) (fun _ s₅ => ∃ m, m < n ∧ I m s₅) NoX s₄) NoX s₃
      else ∃ m, m < n ∧ I m s₃) NoX s₂) NoX s₁') NoX s₁) NoX s)
  (n : Nat) (h : I n s) :
  codeAny (model prog w) A (.compLoop (.ListComp elt [⟨target, iter, ifs, 0⟩] scope pos) 0 it acc env) R s := by
 refine codeAny_loop rfl I (fun n s hI => ?_) n h
 show wpAny _ A ((compTurn (.ListComp elt [⟨target, iter, ifs, 0⟩] scope pos) 0 it acc env).onRaise (fun x => do noteFrame x env; theTreesLotGoes x)) _ _ s
 refine wpAny_noted ?_
 rw [compTurn_list]
 refine wpAny_bind (wpAny_standAt (wpAny_bind (wpAny_mono (turn n s hI) (fun r s₁ h₁ => ?_) fun _ _ h' => h'.elim)))
 cases r with
 | none => exact wpAny_pure h₁
 | some v =>
  refine wpAny_bind (wpAny_mono h₁ (fun _ s₁' h₁' => ?_) fun _ _ h' => h'.elim)
  refine wpAny_bind (wpAny_mono h₁' (fun _ s₂ h₂ => wpAny_bind (wpAny_mono h₂ (fun ok s₃ h₃ => ?_) fun _ _ h' => h'.elim)) fun _ _ h' => h'.elim)
  cases ok with
  | false => exact wpAny_pure ⟨rfl, h₃⟩
  | true =>
   exact wpAny_bind (wpAny_bind (wpAny_mono h₃ (fun x s₄ h₄ => wpAny_bind (wpAny_mono h₄ (fun _ s₅ h₅ => wpAny_pure (wpAny_pure ⟨rfl, h₅⟩)) fun _ _ h' => h'.elim)) fun _ _ h' => h'.elim))
end
def zbg (X : Cx) (ifs : List Expr) (t : TT) : Prop :=
 ∀ (pins : List (Addr × Obj)) (s : Shared) (σ : St) (H : Hp) (Q : Bool → Hp → Prop), Inv X pins σ H s → t σ H Q →
  wpAny (model X.prog X.w) X.A (forIn ifs true fun c r => if r = true then do let ok ← isTrue c X.env (eval c X.env); pure (ForInStep.yield ok) else pure (ForInStep.yield r)) (TP X pins σ Q) X.xe s
def tYes : TT := fun _ H Q => Q true H
theorem z6 {X : Cx} : zbg X [] tYes := fun _ _ _ H _ I h => wpAny_tests_nil ⟨H, I, h⟩
theorem vb {X : Cx} {c : Expr} {t : TT} (h : PT X c t) : zbg X [c] t := fun pins s σ H Q I hw => wpAny_tests_one (h pins s σ H Q I hw)
abbrev CB (α : Type) := Shared → Hp → List Addr → List (Addr × Obj) → α
def tLc (wi : TI) (nv : Nat) (caps : List Nat) (g : CB TG) (tt : CB TT) (te : CB TE) : TE := fun σ H Q => wi σ H fun J H1 => ∀ (s3 : Shared) (H3 : Hp) (fp : List Addr) (pns : List (Addr × Obj)) acc, H1 acc = none →
 ∃ W : Nat → Nat → St → Hp → Prop, (∃ m, W 0 m (stC nv caps σ) (upd H1 acc (.lst []))) ∧ ∀ i m σ' H', W i m σ' H' →
  (J.stop i H' ∧ Q (.ref acc) H') ∨ (J.go i H' ∧ ∃ N : St → Hp → Prop, (∀ σ'' H'', N σ'' H'' → ∃ m', m' < m ∧ W (i + 1) m' σ'' H'') ∧ ∀ x H'', J.yld i H' x H'' → g s3 H3 fp pns x σ' H'' fun σ2 H2 => tt s3 H3 fp pns σ2 H2 fun b H5 =>
   if b = true then te s3 H3 fp pns σ2 H5 fun y H4 => ∃ ys, H4 acc = some (.lst ys) ∧ ys.length < sizeLine ∧ N σ2 (upd H4 acc (.lst (ys ++ [y]))) else N σ2 H5)
section
variable {X : Cx} {elt target iter : Expr} {ifs : List Expr} {scope osc : Scope} {pos : Pos} {wi : TI} {g : CB TG} {tt : CB TT} {te : CB TE} {N vars : List Str} {caps : List Nat}
theorem Z9 {pins : List (Addr × Obj)} {σ : St} {H2 : Hp} {s2 : Shared} {it : Addr} {fp : List Addr} {tn : Nat → Heap → Prop} {J : It} {Q : VK} {RR : Value → Addr → Result → Shared → Prop} {E : Value → Shared → Prop}
  (hosc : X.env.scope = osc) (C : CompOk osc scope X.N vars caps) (hN : N = vars ++ caps.map fun k => X.N.getD k Str.empty) (hc : X.calm = true)
  (hg : ∀ s H fp pins, PG (cxC X N scope s H fp pins) target (g s H fp pins)) (ht : ∀ s H fp pins, zbg (cxC X N scope s H fp pins) ifs (tt s H fp pins)) (he : ∀ s H fp pins, PE (cxC X N scope s H fp pins) elt (te s H fp pins))
  (I2 : Inv X pins σ H2 s2) (T : Turn X.prog X.w X.K target J fp it tn) (st2 : tn 0 s2.heap) (hf : ∀ b ∈ fp, vO X pins H2 b)
  (h : ∀ (s3 : Shared) (H3 : Hp) (fp : List Addr) (pns : List (Addr × Obj)) acc, H2 acc = none → ∃ W : Nat → Nat → St → Hp → Prop, (∃ m, W 0 m (stC vars.length caps σ) (upd H2 acc (.lst []))) ∧ ∀ i m σ' H', W i m σ' H' →
   (J.stop i H' ∧ Q (.ref acc) H') ∨ (J.go i H' ∧ ∃ N : St → Hp → Prop, (∀ σ'' H'', N σ'' H'' → ∃ m', m' < m ∧ W (i + 1) m' σ'' H'') ∧ ∀ x H'', J.yld i H' x H'' → g s3 H3 fp pns x σ' H'' fun σ2 H2 => tt s3 H3 fp pns σ2 H2 fun b H5 =>
    if b = true then te s3 H3 fp pns σ2 H5 fun y H4 => ∃ ys, H4 acc = some (.lst ys) ∧ ys.length < sizeLine ∧ N σ2 (upd H4 acc (.lst (ys ++ [y]))) else N σ2 H5))
  (hRR : ∀ acc C s' H' m, Inv X pins σ H' s' → Q (.ref acc) H' → s'.heap.Ns C m → H' C = none → C ≠ X.env.locals → X.s₀.heap.objs.size ≤ C → (∀ x c, X.env.cells.lookup x = some c → c ≠ C) → (∀ p ∈ X.pn ++ pins, p.1 ≠ C) → RR (.ref acc) C (.ok .next) s') :
  wpAny (model X.prog X.w) X.A (newList []) (fun acc s₃ => wpAny (model X.prog X.w) X.A (newFunctionEnv scope X.env.globals (qK X.env.cells scope.names []) [] X.env.qual none .none (some X.env)) (fun cenv s₄ =>
   codeAny (model X.prog X.w) X.A (.compStart (.ListComp elt [⟨target, iter, ifs, 0⟩] scope pos) 0 (.ref it) acc { cenv with scope := relabel scope X.env }) (RR acc cenv.locals) s₄) E s₃) E s2 := by
 refine wpAny_newObj_type (wpAny_newFunctionEnv C.cell (by intro y hy; simp at hy) (fun h₁ hns₁ hsb₁ => ?_) C.kind)
 obtain ⟨W, ⟨m0, w0⟩, turn⟩ := h { s2 with heap := s2.heap.push { cls := .type "list", dict := none, data := .seq ([] : List Value).toArray } } (upd H2 s2.heap.objs.size (.lst [])) fp pins s2.heap.objs.size I2.fresh
 have I3 : Inv X pins σ (upd H2 s2.heap.objs.size (.lst [])) { s2 with heap := s2.heap.push { cls := .type "list", dict := none, data := .seq ([] : List Value).toArray } } := I2.lnew (its := []) (t' := s2.toks) .nil (by decide)
 dsimp only at hns₁ hsb₁ ⊢
 have hfo : ∀ b ∈ fp, ∃ o, s2.heap.get? b = some o := fun b hb => let ⟨o, e, _⟩ := T.obj _ _ st2 b hb; ⟨o, e⟩
 have hf3 : ∀ b ∈ fp, vO X pins (upd H2 s2.heap.objs.size (.lst [])) b := fun b hb => by
  refine ⟨?_, (hf b hb).2⟩
  obtain ⟨o, e⟩ := hfo b hb
  rw [upd_ne (Nat.ne_of_lt (Heap.lt_size e))]
  exact (hf b hb).1
 generalize hs3 : ({ s2 with heap := s2.heap.push { cls := .type "list", dict := none, data := .seq ([] : List Value).toArray } } : Shared) = s3 at I3 turn
 have eh : s2.heap.push { cls := .type "list", dict := none, data := .seq ([] : List Value).toArray } = s3.heap := by rw [← hs3]
 have old : ∀ b o, s2.heap.get? b = some o → s3.heap.get? b = some o := fun b o e => by rw [← eh]; exact Heap.get?_push_of_some _ e
 rw [eh] at hns₁ hsb₁ ⊢
 have es : ({ s2 with heap := h₁, toks := s2.toks + ([] : List (Str × Value)).length } : Shared) = { s3 with heap := h₁, toks := s2.toks } := by rw [← hs3]; rfl
 rw [es]
 generalize hH3 : upd H2 s2.heap.objs.size (.lst []) = H3 at *
 have hk : ∀ b o, s3.heap.get? b = some o → h₁.get? b = some o := fun b o e => hsb₁.extBut b o (Nat.ne_of_lt (Heap.lt_size e)) (Heap.get?_push_of_some _ e)
 have I4 : Inv (cxC X N scope s3 H3 fp pins) [] (stC vars.length caps σ) H3 { s3 with heap := h₁, toks := s2.toks } := zaT I3 hosc C hN hf3 (fun b hb => let ⟨o, e⟩ := hfo b hb; ⟨o, old b o e⟩) hns₁ hk
 have st4 : tn 0 h₁ := T.keep _ _ _ st2 fun b hb o e => hk b o (old b o e)
 have stat : ∀ {H' : Hp}, (∀ b ∈ fp, H' b = none) → ∀ b ∈ fp, vO (cxC X N scope s3 H3 fp pins) [] H' b := fun hn b hb =>
  ⟨hn b hb, (I4.ok.exf b hb).1, I4.ok.exfs b hb, .inl hb, (I4.ok.exf b hb).2, fun p hp => (hf b hb).2.2.2.2.2 p (by simpa [cxC] using hp)⟩
 have loop : ∀ s4 : Shared, s4 = { s3 with heap := h₁, toks := s2.toks } →
   codeAny (model X.prog X.w) X.A (.compLoop (.ListComp elt [⟨target, iter, ifs, 0⟩] scope pos) 0 (.ref it) (.ref s2.heap.objs.size) (cxC X N scope s3 H3 fp pins).env) (RR (.ref s2.heap.objs.size) s3.heap.objs.size) s4 := by
  rintro s4 rfl
  refine VZ (fun n s' => ∃ i σ' H', Inv (cxC X N scope s3 H3 fp pins) [] σ' H' s' ∧ tn i s'.heap ∧ (∀ b ∈ fp, H' b = none) ∧ W i n σ' H') ?_ m0 ⟨0, _, H3, I4, st4, fun b hb => (hf3 b hb).1, w0⟩
  rintro n s5 ⟨i, σ5, H5, I5, st5, fr5, w5⟩
  rcases turn i n σ5 H5 w5 with ⟨stop, qn⟩ | ⟨go, NN, hNN, step⟩
  ·refine thn (T.done (cxC X N scope s3 H3 fp pins) rfl rfl rfl hc i [] s5 σ5 H5 NoX I5 (stat fr5) st5 stop) fun r s6 ⟨hr, I6⟩ => ?_
   subst hr
   obtain ⟨m, hn, _⟩ := I6.loc
   have hlt : ∀ b o, s3.heap.get? b = some o → b ≠ s3.heap.objs.size := fun b o e => Nat.ne_of_lt (Heap.lt_size e)
   obtain ⟨m3, ⟨oL, _, _, hoL, _⟩, _⟩ := I3.loc
   refine hRR _ _ s6 H5 m (Wm I3 hf3 I6) qn hn I6.free (fun z => hlt _ _ hoL z.symm) I3.sz (fun x c ec z => ?_) fun p hp z => hlt _ _ (I3.pin p hp).1 z
   obtain ⟨v, o, ho, _⟩ := I3.cell x c ec
   exact hlt _ _ ho z
  ·refine thn (T.item (cxC X N scope s3 H3 fp pins) rfl rfl rfl hc i [] s5 σ5 H5 NoX I5 (stat fr5) st5 go) fun r s6 ⟨u, hr, h6⟩ => ?_
   subst hr
   refine thn h6 fun _ s7 ⟨x, H7, I7, r7, y7, st7, fr7⟩ => ?_
   have I7' := I7.pinned (stat fr7) (T.obj _ _ st7)
   have again : ∀ {σ8 : St} {H8 : Hp} {s8 : Shared}, Inv (cxC X N scope s3 H3 fp pins) ([] ++ ZK fp s7.heap) σ8 H8 s8 → NN σ8 H8 → ∃ m, m < n ∧ ∃ i σ' H', Inv (cxC X N scope s3 H3 fp pins) [] σ' H' s8 ∧ tn i s8.heap ∧ (∀ b ∈ fp, H' b = none) ∧ W i m σ' H' := fun {σ8 H8 s8} I8 n8 => by
    obtain ⟨m', hm, w8⟩ := hNN σ8 H8 n8
    refine ⟨m', hm, i + 1, σ8, H8, I8.unpinned, T.keep _ _ _ st7 fun b hb o e => (I8.pin (b, o) (List.mem_append_right _ (List.mem_append_right _ (xB hb e)))).1, fun b hb => ?_, w8⟩
    obtain ⟨o, e, d⟩ := T.obj _ _ st7 b hb
    exact (I8.pin (b, o) (List.mem_append_right _ (List.mem_append_right _ (xB hb e)))).2.1
   refine thn (hg s3 H3 fp pins _ s7 σ5 H7 x u _ I7' r7 (step x H7 y7)) fun _ s8 ⟨σ8, H8, I8, q8⟩ => ?_
   refine thn (ht s3 H3 fp pins _ s8 σ8 H8 _ I8 q8) fun b s9 ⟨H9, I9, q9⟩ => ?_
   cases b with
   | false => exact again I9 q9
   | true =>
    refine thn (he s3 H3 fp pins _ s9 σ8 H9 _ I9 q9) fun v s10 ⟨y, H10, I10, r10, ys, ea, hz, q10⟩ => ?_
    refine thn (zu (X := cxC X N scope s3 H3 fp pins) _ s10 σ8 H10 (.ref s2.heap.objs.size) [y] (.ref s2.heap.objs.size) [v] (fun _ H' => NN σ8 H') I10 rfl (.cons r10 .nil) ⟨_, ys, y, rfl, rfl, ea, hz, q10⟩) fun _ s11 ⟨_, H11, I11, _, q11⟩ => ?_
    exact again I11 q11
 exact codeAny_compStart_list (loop _ rfl) (T.self X.A 0 _ _ _ st4 (loop _ rfl))
theorem j4 {ON : List Str} (hosc : X.env.scope = osc) (hON : X.N = ON) (hB : WZ osc scope ON caps = true) (hN : N = vars ++ caps.map fun k => ON.getD k Str.empty) (hc : X.calm = true) (hi : PI X target iter wi)
  (hg : ∀ s H fp pins, PG (cxC X N scope s H fp pins) target (g s H fp pins)) (ht : ∀ s H fp pins, zbg (cxC X N scope s H fp pins) ifs (tt s H fp pins)) (he : ∀ s H fp pins, PE (cxC X N scope s H fp pins) elt (te s H fp pins))
  (hs : ∀ x, foldedSetIterable iter X.env x = pure x := by intro _; rfl) : PE X (.ListComp elt [⟨target, iter, ifs, 0⟩] scope pos) (tLc wi vars.length caps g tt te) := by
 subst hON
 intro pins s σ H Q I h
 have C : CompOk osc scope X.N vars caps := Xy hB
 have hclos : closureFor scope X.env = pure (qK X.env.cells scope.names []) := wB fun y hy e => I.ok.has y.1 (by have z := C.free y hy e; rw [← hosc] at z; exact z)
 rw [eval_ListComp]
 refine wpAny_comprehension_free (use := none) rfl hs hclos C.kind C.loc (thn (hi pins s σ H _ I h) fun v s1 h1 => thn h1 fun itv s2 h2 => ?_)
 obtain ⟨it, fp, tn, J, H2, e, I2, T, st2, f2, hw⟩ := h2
 subst e
 refine Z9 (N := N) (RR := fun acc Cc => compPost (model X.prog X.w) X.A X.xe none (EP X pins σ Q) acc Cc) hosc C hN hc hg ht he I2 T st2 f2 hw fun acc Cc s' H' m I' q hn hC hL hsz hcc hpp => ?_
 refine ⟨m, hn, fun h' hs' => ⟨.ref acc, H', ?_, rfl, q⟩⟩
 exact I'.turned (t' := s'.toks) (it := Cc) (fun b o hb e => (hs'.2 b hb).trans e) hC (fun z => hL z) (.inr hsz) hcc hpp
theorem xS {ON : List Str} {i : Nat} {x : Str} {pos' spos : Pos} (hNd : X.N.Nodup) (hix : X.N[i]? = some x) (hx : Loc X.env.scope x)
  (hosc : X.env.scope = osc) (hON : X.N = ON) (hB : WZ osc scope ON caps = true) (hN : N = vars ++ caps.map fun k => ON.getD k Str.empty) (hc : X.calm = true) (hi : PI X target iter wi)
  (hg : ∀ s H fp pins, PG (cxC X N scope s H fp pins) target (g s H fp pins)) (ht : ∀ s H fp pins, zbg (cxC X N scope s H fp pins) ifs (tt s H fp pins)) (he : ∀ s H fp pins, PE (cxC X N scope s H fp pins) elt (te s H fp pins))
  (hsw : swapsWith (.ListComp elt [⟨target, iter, ifs, 0⟩] scope pos) (some (.Name x pos')) spos.line X.env = pure true := by rfl)
  (hf : X.fn x = true ∨ X.env.scope.names.lookup x = some .local := by walk_at "p")
  (hs : ∀ x, foldedSetIterable iter X.env x = pure x := by intro _; rfl) : PS X (.Assign [.Name x pos'] (.ListComp elt [⟨target, iter, ifs, 0⟩] scope pos) spos) (tAsg (tLc wi vars.length caps g tt te) (gName i)) := by
 subst hON
 intro pins s σ H D I h
 have C : CompOk osc scope X.N vars caps := Xy hB
 have hclos : closureFor scope X.env = pure (qK X.env.cells scope.names []) := wB fun y hy e => I.ok.has y.1 (by have z := C.free y hy e; rw [← hosc] at z; exact z)
 rw [exec_Assign_Name_used _ _ _ _ hsw]
 refine wpAny_bind (wpAny_standAt (wpAny_bind ?_))
 show wpAny _ X.A (do let _ ← comprehension (.ListComp elt [⟨target, iter, ifs, 0⟩] scope pos) scope X.env _ (newList []) false (eval iter X.env) (some (assign (.Name x pos') X.env))) _ _ s
 refine wpAny_bind (wpAny_mono (wpAny_comprehension_free (use := some (assign (.Name x pos') X.env)) (Q := fun _ s' => SP X pins D .next s') rfl hs hclos C.kind C.loc (thn (hi pins s σ H _ I h) fun v s1 h1 => thn h1 fun itv s2 h2 => ?_)) (fun _ s' hq => wpAny_pure (wpAny_pure hq)) fun _ _ e => e)
 obtain ⟨it, fp, tn, J, H2, e, I2, T, st2, f2, hw⟩ := h2
 subst e
 refine Z9 (N := N) (Q := fun v H1 => gName i v σ H1 D.nx) (RR := fun acc Cc => compPost (model X.prog X.w) X.A X.xe (some (assign (.Name x pos') X.env)) (fun _ s' => SP X pins D .next s') acc Cc) hosc C hN hc hg ht he I2 T st2 f2 hw fun acc Cc s' H' m I' q hn hC hL hsz hcc hpp => ?_
 refine wpAny_assign_Name (QB I' hNd hix hx (v := .ref acc) rfl (fun s3 I3 ⟨a, sb, ha⟩ => ?_) hf)
 have hne : Cc ≠ a := fun z => by
  rcases ha with e | e
  ·exact hL (z.trans e)
  ·exact hcc x a e z.symm
 refine ⟨m, hn.sameBut sb hne, fun h' hs' => ⟨_, H', ?_, q⟩⟩
 exact I3.turned (t' := s3.toks) (it := Cc) (fun b o hb e => (hs'.2 b hb).trans e) hC (fun z => hL z) (.inr hsz) hcc hpp
end
end L2
namespace L2
open PySem PySem.Spec PySem.Calls PyProof.Rows
section
variable {X : Cx} {pins : List (Addr × Obj)} {σ : St} {H : Hp} {s : Shared} {h' : Heap} {ch : List Addr}
theorem Inv.turnNew {T : Addr} {o : HO} {t' : Nat} (I : Inv X pins σ H s) (hch : ∀ b ∈ ch, vO X pins H b) (hT : s.heap.objs.size ≤ T) (keep : ∀ b o, b ∉ ch → s.heap.get? b = some o → h'.get? b = some o)
  (new : ObjOk X.prog X.w (upd H T o) h' T o) : Inv X pins σ (upd H T o) { s with heap := h', toks := t' } := by
 have hn : H T = none := I.hok.fresh hT
 have lt : ∀ b u, s.heap.get? b = some u → b ≠ T := fun b u e => Nat.ne_of_lt (Nat.lt_of_lt_of_le (Heap.lt_size e) hT)
 have nch : ∀ b u, H b = some u → b ∉ ch := fun b u e z => by rw [(hch b z).1] at e; cases e
 refine I.step (g' := s.gens) (d' := s.drawn) (ch := ch) (fun b hb => ⟨(hch b hb).2.2.2.1, (hch b hb).2.1, (hch b hb).2.2.2.2.1, (hch b hb).2.2.2.2.2⟩) (fun b o _ _ hc e _ => keep b o hc e) (fun b o _ _ hc e _ => ⟨o.slots, keep b o hc e⟩)
  (fun b o _ e n => by rw [upd_ne (lt b o e)]; exact n) (fun b o hc e => ⟨o, keep b o hc e⟩) (fun b xs e => by rw [upd_ne (ne_of_none e hn)]; exact e) (fun b o u e => by rw [upd_ne (ne_of_none e hn)]; exact e)
  (fun b ps e => ⟨#[], by rw [upd_ne (ne_of_none e hn), e]; simp⟩) (fun m hm => ?_) (fun b u e => ?_) I.bare
 ·obtain ⟨o, es, ep, ho, r⟩ := hm
  exact ⟨o, es, ep, keep _ o (fun z => (hch _ z).2.1 rfl) ho, r⟩
 ·by_cases hb : b = T
  ·subst hb
   rw [upd_same] at e
   cases e
   exact new
  ·rw [upd_ne hb] at e
   refine (I.hok b u e).stay (fun c v hc q => keep c v ?_ q) (fun c q => by rw [upd_ne (ne_of_none q hn)]; exact q) fun c xs q => by rw [upd_ne (ne_of_none q hn)]; exact q
   rcases hc with z | z
   ·rw [z]; exact nch b u e
   ·exact nch c _ z
theorem Inv.turnL {t' : Nat} (I : Inv X pins σ H s) (hch : ∀ b ∈ ch, vO X pins H b) (keep : ∀ b o, b ∉ ch → s.heap.get? b = some o → h'.get? b = some o) : Inv X pins σ H { s with heap := h', toks := t' } := by
 have nch : ∀ b u, H b = some u → b ∉ ch := fun b u e z => by rw [(hch b z).1] at e; cases e
 refine I.step (g' := s.gens) (d' := s.drawn) (ch := ch) (fun b hb => ⟨(hch b hb).2.2.2.1, (hch b hb).2.1, (hch b hb).2.2.2.2.1, (hch b hb).2.2.2.2.2⟩) (fun b o _ _ hc e _ => keep b o hc e) (fun b o _ _ hc e _ => ⟨o.slots, keep b o hc e⟩)
  (fun _ _ _ _ n => n) (fun b o hc e => ⟨o, keep b o hc e⟩) (fun _ _ e => e) (fun _ _ _ e => e) (fun b ps e => ⟨#[], by rw [e]; simp⟩) (fun m hm => ?_) (fun b u e => ?_) I.bare
 ·obtain ⟨o, es, ep, ho, r⟩ := hm
  exact ⟨o, es, ep, keep _ o (fun z => (hch _ z).2.1 rfl) ho, r⟩
 ·refine (I.hok b u e).stay (fun c v hc q => keep c v ?_ q) (fun _ q => q) fun _ _ q => q
  rcases hc with z | z
  ·rw [z]; exact nch b u e
  ·exact nch c _ z
end
def Ite (K : PySem.W.Frag) (a : Addr) : It :=
 ⟨fun i H => ∃ xs x, SqL K H a xs ∧ xs[i]? = some x, fun i H v H' => ∃ t x, H t = none ∧ v = .ref t ∧ (∀ xs, SqL K H a xs → xs[i]? = some x) ∧ H' = upd H t (.tup [.int i, x]), fun i H => ∃ xs, SqL K H a xs ∧ xs.length ≤ i⟩
theorem Vf {P : Program} {w : World} {K : PySem.W.Frag} {elts : List Expr} {x1} {pos : Pos} (a e it : Addr) (hne : e ≠ it) :
  Turn P w K (.Tuple elts x1 pos) (Ite K a) [e, it] e (fun i h => (∃ old, IsEnum h e it i old) ∧ h.IsListIter it a i) where
 mem := by simp
 obj := fun i h st b hb => by
  obtain ⟨⟨old, he⟩, o, ho, c, d⟩ := st
  rcases List.mem_cons.mp hb with rfl | hb
  ·exact ⟨_, he, fun v z => by cases z⟩
  ·obtain rfl : b = it := by simpa using hb
   exact ⟨o, ho, fun v z => by rw [d] at z; cases z⟩
 keep := fun i h h' st k => by
  obtain ⟨⟨old, he⟩, hi⟩ := st
  exact ⟨⟨old, k e (by simp) _ he⟩, hi.at fun o z => k it (by simp) o z⟩
 item := by
  intro X hP hw hK hc i pins s σ H E I hf st hg
  subst hP hw hK
  obtain ⟨⟨old, he⟩, hi⟩ := st
  obtain ⟨xs, x, hq, hx⟩ := hg
  obtain ⟨its, rv, p, hz⟩ := I.list hq
  obtain ⟨u, hu, ru⟩ := rv.get hx
  refine wpAny_pyNext_enum_item he hi p.isList (x := u) (by simpa using hu) hne fun h' he' hi' hT hsz hk => ?_
  refine ⟨_, rfl, ?_⟩
  have I1 : Inv X pins σ (upd H s.heap.objs.size (.tup [.int i, x])) { s with heap := h', toks := s.toks + 1 } := I.turnNew hf (Nat.le_refl _) (fun b o hb q => hk b o (fun z => hb (by simp [z])) (fun z => hb (by simp [z])) q)
   ⟨by show 2 ≤ sizeLine; decide, [.int i s.toks, u], .cons ⟨_, rfl⟩ (.cons ru .nil), ⟨_, hT, rfl, _, rfl⟩⟩
  have hn : H s.heap.objs.size = none := I.hok.fresh (Nat.le_refl _)
  have ne : ∀ b ∈ [e, it], b ≠ s.heap.objs.size := fun b hb => by
   rcases List.mem_cons.mp hb with rfl | hb
   ·exact Nat.ne_of_lt (Heap.lt_size he)
   ·obtain rfl : b = it := by simpa using hb
    obtain ⟨o, ho, _⟩ := hi
    exact Nat.ne_of_lt (Heap.lt_size ho)
  have fr : ∀ b ∈ [e, it], (upd H s.heap.objs.size (.tup [.int i, x])) b = none := fun b hb => by rw [upd_ne (ne b hb)]; exact (hf b hb).1
  refine wpAny_letOwnedTupleGo_enum he' fun h'' he'' hs'' => ?_
  refine ⟨.ref s.heap.objs.size, _, I1.turnL (t' := s.toks + 1) (ch := [e]) (fun b hb => ?_) (fun b o hb q => (hs''.2 b (fun z => hb (by simp [z]))).trans q), rfl,
   ⟨s.heap.objs.size, x, hn, rfl, fun ys hy => by rw [I.list_inj hy hq]; exact hx, rfl⟩, ⟨⟨u, ?_⟩, hi'.extBut hs''.extBut (Ne.symm hne)⟩, fr⟩
  ·obtain rfl : b = e := by simpa using hb
   exact ⟨fr b (by simp), (hf b (by simp)).2⟩
  ·exact he''
 done := by
  intro X hP hw hK hc i pins s σ H E I hf st hg
  subst hP hw hK
  obtain ⟨⟨old, he⟩, hi⟩ := st
  obtain ⟨xs, hq, hx⟩ := hg
  obtain ⟨its, rv, p, hz⟩ := I.list hq
  have hl := rv.length
  exact wpAny_pyNext_enum_end (I.ok.hd hc) he hi p.isList (by simp; omega) fun h' eb => ⟨rfl, I.turnL (t' := s.toks) hf fun b o hb q => eb b o (fun z => hb (by simp [z])) q⟩
 self := fun _ _ _ _ _ st h => by
  obtain ⟨⟨old, he⟩, _⟩ := st
  exact wpAny_pyIter_enum he h
theorem JK : bootBuiltins "enumerate" = some (.type "enumerate") := by decide +kernel
def iEnum (X : Cx) (ta : TA) : TI := fun σ H R => X.mg "enumerate" = none ∧ ta σ H fun vs H1 => ∃ a xs, vs = [.ref a] ∧ H1 a = some (.lst xs) ∧ R (Ite X.K a) H1
theorem zY {X : Cx} {a : Expr} {elts : List Expr} {x1} {tp p pos : Pos} {ta : TA} (ha : PA X [a] ta) (hg : Gl X "enumerate" := by rfl)
  (hs : starEach [a] X.env = (false, eval a X.env) :: starEach [] X.env := by rfl) (hpl : (backTo pos (starEach [] X.env)).any (·.1) = false := by rfl) :
  PI X (.Tuple elts x1 tp) (.Call (.Name "enumerate" p) [a] [] pos) (iEnum X ta) := by
 intro pins s σ H R I h
 refine wpAny_Call_Name_kw (xV I hg h.1 JK ?_)
 refine PyProof.Rows.callWith_type1 (thn (ha pos pins s σ H _ I h.2) fun us s1 ⟨vs, H1, I1, r1, q1⟩ => ?_) hs hpl
 obtain ⟨l, xs, rfl, hq, hR⟩ := q1
 obtain ⟨u, rfl, rx⟩ := vQ r1
 cases rx
 obtain ⟨hz, its, n, rv, hl, e⟩ := I1.lstM hq
 refine call_enumerate_1 e fun h' he hi hsz hk => wpAny_pyIter_enum he ?_
 refine ⟨s1.heap.objs.size + 1, [s1.heap.objs.size + 1, s1.heap.objs.size], _, _, H1, rfl, I1.kept (t' := s1.toks) hk, Vf l _ _ (Nat.succ_ne_self _), ⟨⟨_, he⟩, hi⟩, fun b hb => ?_, hR⟩
 rcases List.mem_cons.mp hb with rfl | hb
 ·exact I1.fpOk (Nat.le_succ _) (I1.hok.fresh (Nat.le_succ _))
 ·obtain rfl : b = s1.heap.objs.size := by simpa using hb
  exact I1.fpOk (Nat.le_refl _) (I1.hok.fresh (Nat.le_refl _))
def ItAt (b : Bool) (h : Heap) (it a : Addr) (i : Nat) : Prop := if b = true then h.IsListIter it a i else h.IsTupleIter it a i
def zdg (b : Bool) (h : Heap) (a : Addr) (items : Array Value) : Prop := if b = true then h.IsList a items else h.IsTuple a items
def zaS (b : Bool) : String := if b = true then "list_iterator" else "tuple_iterator"
theorem ItAt.obj {b : Bool} {h : Heap} {it a : Addr} {i : Nat} (x : ItAt b h it a i) : ∃ o, h.get? it = some o ∧ ∀ v, o.data ≠ .cell v := by
 cases b <;> exact let ⟨o, ho, _, hd⟩ := x; ⟨o, ho, fun v z => by rw [hd] at z; cases z⟩
section
variable {prog : Program} {w : World} {A : Around} {E : Value → Shared → Prop} {s : Shared}
end
section
variable {prog : Program} {w : World} {A : Around} {E : Value → Shared → Prop} {s : Shared}
theorem ItAt.new {b : Bool} {h : Heap} {it l : Addr} (e : h.get? it = some { cls := .type (zaS b), data := .fields #[.ref l, .int 0 0] }) : ItAt b h it l 0 := by
 cases b <;> exact ⟨_, e, rfl, rfl⟩
end
def SqB (b : Bool) (K : PySem.W.Frag) (H : Hp) (a : Addr) (xs : List V) : Prop := if b = true then SqL K H a xs else SqT K H a xs
theorem Inv.sqB {X : Cx} {pins : List (Addr × Obj)} {σ : St} {H : Hp} {s : Shared} {b : Bool} {a : Addr} {xs : List V} (I : Inv X pins σ H s) (h : SqB b X.K H a xs) : ∃ its : List Value, Vals xs its ∧ zdg b s.heap a its.toArray := by
 cases b
 ·obtain ⟨its, r, p, _⟩ := I.tuple (show SqT X.K H a xs from h)
  exact ⟨its, r, p⟩
 ·obtain ⟨its, r, p, _⟩ := I.list (show SqL X.K H a xs from h)
  exact ⟨its, r, p.isList⟩
def Itz (K : PySem.W.Frag) (b1 b2 : Bool) (a1 a2 : Addr) : It :=
 ⟨fun i H => ∃ xs ys x y, SqB b1 K H a1 xs ∧ SqB b2 K H a2 ys ∧ xs[i]? = some x ∧ ys[i]? = some y,
   fun i H v H' => ∃ t x y, H t = none ∧ v = .ref t ∧ (∀ xs, SqB b1 K H a1 xs → xs[i]? = some x) ∧ (∀ ys, SqB b2 K H a2 ys → ys[i]? = some y) ∧ H' = upd H t (.tup [x, y]),
   fun i H => ∃ xs ys, SqB b1 K H a1 xs ∧ SqB b2 K H a2 ys ∧ (xs.length ≤ i ∨ ys.length ≤ i)⟩
theorem SqB.there {X : Cx} {pins : List (Addr × Obj)} {σ : St} {H : Hp} {s : Shared} {b : Bool} {a : Addr} {xs : List V} (I : Inv X pins σ H s) (h : SqB b X.K H a xs) : ∃ o, s.heap.get? a = some o ∧ (o.cls = .type "list" ∨ o.cls = .type "tuple") ∧ ∃ its n, o.data = .seq its n := by
 obtain ⟨its, _, p⟩ := I.sqB h
 cases b
 ·obtain ⟨o, e, c, n, d⟩ := p; exact ⟨o, e, .inr c, _, n, d⟩
 ·obtain ⟨o, e, c, n, d⟩ := p; exact ⟨o, e, .inl c, _, n, d⟩
def iZip (X : Cx) (ta : TA) : TI := fun σ H R => X.mg "zip" = none ∧ ta σ H fun vs H1 => ∃ b1 b2 l1 l2 xs ys, vs = [.ref l1, .ref l2] ∧ SqB b1 X.K H1 l1 xs ∧ SqB b2 X.K H1 l2 ys ∧ R (Itz X.K b1 b2 l1 l2) H1
section
variable {K : PySem.W.Frag} {σ : St} {H : Hp}
theorem xX {a : Addr} {xs : List V} {DN : St → Hp → Prop} {B : (St → Hp → Prop) → V → St → Hp → Prop} (Pv : Nat → St → Hp → Prop) (h0 : Pv 0 σ H) (hl : ∀ i σ H, i ≤ xs.length → Pv i σ H → SqL K H a xs)
  (hs : ∀ i x t σ H, xs[i]? = some x → H t = none → Pv i σ H → B (Pv (i + 1)) (.ref t) σ (upd H t (.tup [.int i, x]))) (hd : ∀ σ H, Pv xs.length σ H → DN σ H) :
  ∃ W : Nat → Nat → St → Hp → Prop, (∃ m, W 0 m σ H) ∧ ∀ i m σ H, W i m σ H →
   ((Ite K a).stop i H ∧ DN σ H) ∨ ((Ite K a).go i H ∧ ∃ N : St → Hp → Prop, (∀ σ' H', N σ' H' → ∃ m', m' < m ∧ W (i + 1) m' σ' H') ∧ ∀ x H', (Ite K a).yld i H x H' → B N x σ H') := by
 refine ⟨fun i m σ H => m = xs.length - i ∧ i ≤ xs.length ∧ Pv i σ H, ⟨xs.length, by simp, Nat.zero_le _, h0⟩, ?_⟩
 rintro i m σ H ⟨rfl, hi, p⟩
 have q := hl i σ H hi p
 by_cases hlt : i < xs.length
 ·refine .inr ⟨⟨xs, xs[i], q, by simp [hlt]⟩, Pv (i + 1), fun σ' H' p' => ⟨xs.length - (i + 1), by omega, rfl, hlt, p'⟩, fun v H' y => ?_⟩
  obtain ⟨t, x, ht, rfl, hx, rfl⟩ := y
  exact hs i x t σ _ (hx xs q) ht p
 ·have e : i = xs.length := by omega
  subst e
  exact .inl ⟨⟨xs, q, Nat.le_refl _⟩, hd σ H p⟩
end
section
variable {X : Cx} {N : List Str} {scope : Scope} {s : Shared} {H : Hp} {fp : List Addr} {pins : List (Addr × Obj)}
theorem cxC_K : (cxC X N scope s H fp pins).K = X.K := rfl
theorem cxC_mg : (cxC X N scope s H fp pins).mg = X.mg := rfl
theorem cxC_prog : (cxC X N scope s H fp pins).prog = X.prog := rfl
theorem cxC_w : (cxC X N scope s H fp pins).w = X.w := rfl
theorem cxC_base : (cxC X N scope s H fp pins).base = X.base := rfl
end
end L2
namespace L2
open PySem PySem.Spec PySem.Calls PyProof.Rows
structure BCal (P : Program) (w : World) (K : PySem.W.Frag) (mg : Str → Option Value) (base : Heap) (x m : Str) (k : Nat) (ps : List Str) (dvs : List V) (sp : Sp) : Prop where
 ex : ∃ C f fd ds, mg x = some (.ref C) ∧ PySem.W.specialIn K (.ref C) "__getattribute__" = some (some (.builtin "type.__getattribute__")) ∧ PySem.W.readsIn K C (.type "type") = true ∧
  PySem.W.findCls K (.ref C) (.type "type") m = some (.val (.ref f)) ∧ PySem.W.handedIn (.ref f) = true ∧ FnOk P w K mg base (CXr P w) k f fd ps sp ∧ PySem.W.keepIn K (.ref f) = true ∧ Binds K fd ps ds ∧ Vals dvs ds
theorem BCal.mono {P : Program} {w : World} {K : PySem.W.Frag} {mg : Str → Option Value} {base : Heap} {x m : Str} {j k : Nat} {ps : List Str} {dvs : List V} {sp : Sp} (c : BCal P w K mg base x m j ps dvs sp) (h : j ≤ k := by decide) : BCal P w K mg base x m k ps dvs sp :=
 let ⟨C, f, fd, ds, a, b, c, d, e, g, r⟩ := c.ex; ⟨C, f, fd, ds, a, b, c, d, e, g.mono h, r⟩
section
variable {X : Cx} {G : GK} {k : Nat} {x m : Str} {p pos apos : Pos} {e : Expr} {es : List Expr} {t : TA}
def tBase (X : Cx) (k : Nat) (x m : Str) (G : GK) (t : TA) : TE := fun σ H Q => ∃ ps dvs sp, BCal X.prog X.w X.K X.mg X.base x m k ps dvs sp ∧ t σ H fun vs H1 => sp (vs ++ dvs) H1 Q (fun cls _ H' => G cls σ H')
theorem wj {pl : Sem Bool} (B : Bod X) (hr : Room k X.A) (ha : PA (X.exg G) (e :: es) t) (hg : Gl X x := by rfl) (hdb : (x == ("__debug__" : Str)) = false := by decide)
  (hst : starEach (e :: es) X.env = (false, eval e X.env) :: starEach es X.env := by rfl) (hpl : (backTo pos (starEach es X.env)).any (·.1) = false := by rfl)
  (ht : eval (.Call (.Attribute (.Name x p) m apos) (e :: es) [] pos) X.env = (do
   let ov ← eval (.Name x p) X.env
   standAt apos.atName
   let (f, first) ← holding [ov] (getMethod ov m pl)
   callWith pos f first (backTo pos (starEach (e :: es) X.env)) (backToKw pos (keywordEach [] X.env))) := by rfl) :
  PE (X.exg G) (.Call (.Attribute (.Name x p) m apos) (e :: es) [] pos) (tBase X k x m G t) := by
 intro pins s σ H Q I h
 obtain ⟨ps, dvs, sp, ⟨C, f, fd, ds, hm, hga, hrd, hfc, hhd, F, hk, hb, hd⟩, h⟩ := h
 refine PySem.W.methodCall_KW (pl := pl) (xD I hg hm ?_ hdb) ht
 refine PySem.W.method_cls I.kIn hga (PySem.W.cls_value I.kIn hrd hfc hhd ?_)
 have I0 := I.tok (s.toks + 1)
 refine PySem.W.callWith_K (first := []) (h₀ := X.base) I.ok.mod.kin hk (thn (ha pos pins _ σ H _ I0 h) fun us s1 ⟨vs, H1, I1, r, q⟩ => ⟨I1.kIn, ?_⟩) hst hpl
 exact Je B F hr hb hd I1 r q
end
structure FB (K : PySem.W.Frag) (mg : Str → Option Value) (x m qual : Str) (st : Stmt) (ps : List Str) : Prop where
 ex : ∃ C f fd, mg x = some (.ref C) ∧ PySem.W.specialIn K (.ref C) "__getattribute__" = some (some (.builtin "type.__getattribute__")) ∧ PySem.W.readsIn K C (.type "type") = true ∧
  PySem.W.findCls K (.ref C) (.type "type") m = some (.val (.ref f)) ∧ Fun K m qual st f fd ∧ PySem.W.keepIn K (.ref f) = true ∧ Binds K fd ps []
theorem FB.cal {P : Program} {w : World} {K : PySem.W.Frag} {mg : Str → Option Value} {base : Heap} {x m qual : Str} {st : Stmt} {ps : List Str} {k : Nat} {sp : Sp} (h : FB K mg x m qual st ps)
  (ok : ∀ {f fd}, Fun K m qual st f fd → FnOk P w K mg base (CXr P w) k f fd ps sp) : BCal P w K mg base x m k ps [] sp := let ⟨C, f, fd, a, b, c, d, F, kp, bi⟩ := h.ex; ⟨C, f, fd, [], a, b, c, d, rfl, ok F, kp, bi, .nil⟩
theorem zcW {K : PySem.W.Frag} {mg : Str → Option Value} {C : Addr} {x m qual : Str} {st : Stmt} {ps : List Str} {f : Addr} {oc : Value} {od an : Option Addr} {osl : Array (Option Value)} {kV doc pm cdv ct : Value} (gl : mg x = some (.ref C))
  (ga : PySem.W.specialIn K (.ref C) "__getattribute__" = some (some (.builtin "type.__getattribute__"))) (rd : PySem.W.readsIn K C (.type "type") = true) (fc : PySem.W.findCls K (.ref C) (.type "type") m = some (.val (.ref f)))
  (l : K.lookup f = some ⟨oc, od, .func (PySem.W.fnOf m qual (z4 st) (zU st) (zf st) .none kV doc pm an cdv ct), osl⟩)
  (c : PySem.W.codeIn K cdv qual = true) (k : PySem.W.keepIn K (.ref f) = true)
  (hb : ∀ (kV doc pm : Value) (an : Option Addr) (cdv ct : Value) (us : List Value), us.length = ps.length → bindArgs (PySem.W.fnOf m qual (z4 st) (zU st) (zf st) .none kV doc pm an cdv ct) ⟨us, []⟩ = pure (ps.zip us)) : FB K mg x m qual st ps :=
 ⟨C, f, _, gl, ga, rd, fc, xE l c k, k, (xE l c k).binds hb⟩
section
variable {X : Cx} {a b : Expr} {ta : TA} {p pos lp lpos : Pos}
def rgL (lo : Int) (n : Nat) : List V := (List.range n).map fun (i : Nat) => V.int (lo + (i : Int))
theorem XL {lo : Int} {n : Nat} {acc : Array Value} (h : ItemsOf (fun i v => ∃ t, v = .int (lo + i * 1) t) acc n) : Vals (rgL lo n) acc.toList := by
 have key : ∀ (k : Nat) (l : List Value) (m : Nat), l.length = m → (∀ i v, l[i]? = some v → ∃ t, v = Value.int (lo + ((k + i : Nat) : Int)) t) → Vals ((List.range' k m).map fun (i : Nat) => V.int (lo + (i : Int))) l := by
  intro k l
  induction l generalizing k with
  | nil => intro m hm _; simp at hm; subst hm; exact .nil
  | cons x r ih =>
   intro m hm hv
   obtain ⟨m, rfl⟩ : ∃ m', m = m' + 1 := ⟨r.length, by simpa using hm.symm⟩
   rw [List.range'_succ, List.map_cons]
   refine .cons ?_ (ih (k + 1) m (by simpa using hm) fun i v e => ?_)
   ·obtain ⟨t, e⟩ := hv 0 x rfl
    exact ⟨t, by simpa using e⟩
   ·obtain ⟨t, e'⟩ := hv (i + 1) v (by simpa using e)
    exact ⟨t, by rw [e']; congr 2; omega⟩
 have := key 0 acc.toList n (by simpa using h.1) fun i v e => by
  obtain ⟨t, e'⟩ := h.2 i v (by simpa using e)
  exact ⟨t, by rw [e']; simp⟩
 rw [rgL, List.range_eq_range']
 exact this
def tRg1 (X : Cx) (ta : TA) : TE := fun σ H Q => X.mg "range" = none ∧ ta σ H fun vs H1 => ∃ j : Int, vs = [.int j] ∧ ∀ p, H1 p = none → Q (.ref p) (upd H1 p (.rng 0 j))
def tRg2 (X : Cx) (ta : TA) : TE := fun σ H Q => X.mg "range" = none ∧ ta σ H fun vs H1 => ∃ i j : Int, vs = [.int i, .int j] ∧ ∀ p, H1 p = none → Q (.ref p) (upd H1 p (.rng i j))
theorem zb3 (ha : PA X [a] ta) (hg : Gl X "range" := by rfl) (hs : starEach [a] X.env = [(false, eval a X.env)] := by rfl) : PE X (.Call (.Name "range" p) [a] [] pos) (tRg1 X ta) := by
 intro pins s σ H Q I h
 refine Call_ (xV I hg h.1 boot_range (PyProof.Rows.callWith_type1 (thn (ha pos pins s σ H _ I h.2) fun us s1 ⟨vs, H1, I1, r1, q1⟩ => ?_) hs rfl))
 obtain ⟨j, e, q⟩ := q1
 subst e
 cases r1 with
 | cons r rr =>
  cases rr
  obtain ⟨t, rfl⟩ := r
  exact call_range_1 ⟨.ref _, _, I1.laid (o := .rng 0 j) (fun b o e => Heap.get?_push_of_some _ e) (Nat.le_refl _) ⟨_, _, _, Heap.get?_push_size _ rfl⟩, rfl, q _ I1.fresh⟩
theorem XY {lo : Int} {n : Nat} : (rgL lo n).length = n := by simp [rgL]
theorem zbc (hc : X.calm = true) : CallR X (.type "list") (fun xs H Q => ∃ p lo hi, xs = [.ref p] ∧ H p = some (.rng lo hi) ∧ (-(2 ^ 62) ≤ lo ∧ lo < 2 ^ 62 ∧ -(2 ^ 62) ≤ hi ∧ hi < 2 ^ 62 ∧ (hi - lo).toNat ≤ 1000) ∧ ∀ l, H l = none → Q (.ref l) (upd H l (.lst (rgL lo (hi - lo).toNat)))) := by
 intro pins s σ H xs us Q I r h
 obtain ⟨p, lo, hi, rfl, hq, ⟨h1, h2, h3, h4, h5⟩, q⟩ := h
 obtain ⟨u, rfl, rx⟩ := vQ r
 cases rx
 obtain ⟨t, u, v, e⟩ := I.hok p _ hq
 refine call_list_range (n := (hi - lo).toNat) (I.ok.hd hc) e (small_one h1 h2 h3 h4) (by rw [rangeSize_one]; split <;> omega) (by omega) fun h' tk acc' c' hk hS hit => ?_
 exact ⟨.ref _, _, I.laid (o := .lst (rgL lo (hi - lo).toNat)) (t' := tk) hk (Nat.le_refl _) ⟨by rw [XY]; exact Nat.le_of_lt (zh h5), acc'.toList, c', XL hit, by simpa using hS⟩, rfl, q _ I.fresh⟩
end
end L2
namespace L2
open PySem PySem.Spec PyProof.Rows
def Itd (lo : Int) (n : Nat) : It := ⟨fun i _ => i < n, fun i H x H' => H' = H ∧ x = .int (lo - i), fun i _ => n ≤ i⟩
section
variable {X : Cx} {tg : Expr}
def iRng3 (X : Cx) (ta : TA) : TI := fun σ H R => X.mg "range" = none ∧ ta σ H fun vs H1 => ∃ i j : Int, vs = [.int i, .int j, .int (-1)] ∧ (-1000 ≤ i ∧ i < 1000 ∧ -1000 ≤ j ∧ j < 1000) ∧ R (Itd i (i - j).toNat) H1
end
end L2
namespace L2
open PySem PySem.Spec PyProof.Rows
section
variable {X : Cx} {tg : Expr}
def Its (x : Str) : It := ⟨fun i _ => i < x.cps.size, fun i H v H' => H' = H ∧ ∃ c, x.cps[i]? = some c ∧ v = .str ⟨#[c]⟩, fun i _ => i = x.cps.size⟩
def iStr (tl : TE) : TI := fun σ H R => tl σ H fun v H1 => ∃ x, v = .str x ∧ R (Its x) H1
theorem zcu (hc : X.calm = true) : CallR X (.builtin "all") (fun xs H Q => ∃ p, ∃ bs : List Bool, xs = [.ref p] ∧ H p = some (.lst (bs.map V.bl)) ∧ Q (.bl (bs.all id)) H) := by
 intro pins s σ H xs us Q I r h
 obtain ⟨p, bs, rfl, hp, q⟩ := h
 obtain ⟨u, rfl, rx⟩ := vQ r
 cases rx
 obtain ⟨its, rv, hl, hz⟩ := I.list (SqL.of (K := X.K) hp)
 have hl' := hl.isList
 have hlt : p < s.heap.objs.size := by obtain ⟨_, e, _⟩ := hl'; exact Heap.lt_size e
 have hlen : its.length = bs.length := by have := rv.length; rw [List.length_map] at this; exact this.symm
 refine call_all_walk (wpAny_pyIter_list hl' ?_)
 refine ⟨s.heap.objs.size, [s.heap.objs.size, p], [s.heap.objs.size], its.toArray.size, _, _, fun i => (bs[i]?).getD true, rfl, Walks.list (A := X.A.in1) (I.ok.hd hc) _ p (Nat.ne_of_lt hlt) its.toArray,
  ⟨⟨_, Heap.get?_push_size _ rfl, rfl, rfl⟩, hl'.push _⟩, fun i v s' Q' E' hP hQ => ?_, fun h' tk hk => ?_⟩
 ·have hP : its[i]? = some v := by simpa using hP
  have hib : i < bs.length := by rw [← hlen]; exact (List.getElem?_eq_some_iff.mp hP).1
  obtain ⟨u, hu, ru⟩ := rv.get (i := i) (x := .bl bs[i]) (by rw [List.getElem?_map, List.getElem?_eq_getElem hib]; rfl)
  rw [hu] at hP
  cases hP
  cases ru
  have e : (bs[i]?).getD true = bs[i] := by rw [List.getElem?_eq_getElem hib]; rfl
  simp only [e] at hQ
  exact wpAny_truthy_bool hQ
 ·have e : ((List.range its.toArray.size).all fun i => (bs[i]?).getD true) = bs.all id := by
   rw [List.size_toArray, hlen]
   cases hb : bs.all id with
   | true =>
    rw [List.all_eq_true] at hb ⊢
    intro i hi
    have hi := List.mem_range.mp hi
    rw [List.getElem?_eq_getElem hi]
    exact hb _ (List.getElem_mem hi)
   | false =>
    rw [List.all_eq_false] at hb ⊢
    obtain ⟨b, hbm, hbf⟩ := hb
    obtain ⟨i, hi, rfl⟩ := List.getElem_of_mem hbm
    exact ⟨i, List.mem_range.mpr hi, by rw [List.getElem?_eq_getElem hi]; exact hbf⟩
  rw [e]
  refine ⟨.bl (bs.all id), H, I.kept (t' := tk) (fun b o eb => hk b o (fun hm => ?_) (Heap.get?_push_of_some _ eb)), rfl, q⟩
  rw [List.mem_singleton.mp hm] at eb
  exact Nat.lt_irrefl _ (Heap.lt_size eb)
end
end L2
namespace L2
open PySem PySem.Spec PySem.Calls PyProof.Rows
theorem wQ : ∀ {us : List Value} {ns : List Int}, IntsAre us ns → Vals (ns.map V.int) us
 | _, _, .nil => .nil
 | _, _, .cons n t h => .cons ⟨t, rfl⟩ (wQ h)
section
variable {X : Cx}
theorem V7 : CallR X (.builtin "sorted") (fun xs H Q => ∃ p, ∃ ns : List Int, xs = [.ref p] ∧ SqL X.K H p (ns.map V.int) ∧ ns.length < 64 ∧
  ∀ (ms : List Int) l, ms.Perm ns → ms.Pairwise (· ≤ ·) → H l = none → Q (.ref l) (upd H l (.lst (ms.map V.int)))) := by
 intro pins s σ H xs us Q I r h
 obtain ⟨p, ns, rfl, hp, h64, q⟩ := h
 obtain ⟨u, rfl, rx⟩ := vQ r
 cases rx
 obtain ⟨its, rv, hl, hz⟩ := I.list hp
 have hlen : its.length = ns.length := by have := rv.length; rw [List.length_map] at this; exact this.symm
 refine sorted_ints hl.isList (Wn rv) (by omega) fun out ms a1 a2 a3 => ?_
 obtain ⟨e, he⟩ := sortedAll_at s.heap its out
 exact ⟨.ref _, _, I.laid (a := s.heap.objs.size + 1) (o := .lst (ms.map V.int)) (t' := s.toks) (fun b o h => sortedAll_old h) (Nat.le_succ _) ⟨by rw [List.length_map, a2.length_eq]; exact Nat.le_of_lt (zh (by omega)), out.toList, e, wQ a1, by simpa using he⟩, rfl, q ms _ a2 a3 (I.hok.fresh (Nat.le_succ _))⟩
end
structure FunD (K : PySem.W.Frag) (x qual : Str) (st : Stmt) (f : Addr) (fd : FuncData) : Prop where
 ex : ∃ (oc : Value) (od : Option Addr) (dV kV doc pm : Value) (an : Option Addr) (cdv ct : Value) (osl : Array (Option Value)),
  fd = PySem.W.fnOf x qual (z4 st) (zU st) (zf st) dV kV doc pm an cdv ct ∧ K.lookup f = some ⟨oc, od, .func fd, osl⟩ ∧ PySem.W.codeIn K cdv qual = true
 kp : PySem.W.keepIn K (.ref f) = true
section
variable {P : Program} {w : World} {K : PySem.W.Frag} {mg : Str → Option Value} {base : Heap}
theorem FunD.okx {x qual : Str} {st : Stmt} {f : Addr} {fd : FuncData} {N ps : List Str} {k : Nat} {sp : Sp} (F : FunD K x qual st f fd) (S : FnScope N ps (zf st)) (len : ∀ vs H Q E, sp vs H Q E → vs.length = ps.length)
  (hbody : ∀ (cdv : Value) (A : Around) (outer : List Env) (s : Shared) (H : Hp) (vs : List V) (Q : VK) (E : XK), Room k (A.deeper (envOfC qual (zf st) s.heap.objs.size f cdv)) → sp vs H Q E →
   ∃ t, PSs ((cxR P w K mg base N qual (zf st) f cdv A outer s H E).exg fun cls _ H' => E cls none H') (zU st) t ∧ t { nx := fun _ H' => Q .non H', rt := Q } (start N vs) H) : FnOk P w K mg base (CXr P w) (k + 1) f fd ps sp := by
 obtain ⟨oc, od, dV, kV, doc, pm, an, cdv, ct, osl, rfl, lk, hcd⟩ := F.ex
 refine za1 lk hcd S len fun A outer s H vs Q E hr hsp => ?_
 obtain ⟨t, h, q⟩ := hbody cdv A outer s H vs Q E hr hsp
 refine ⟨t, fun pins s σ H' D I hw => ?_, q⟩
 refine wpAny_mono (h pins s σ H' D (I.wish _) hw) (fun _ _ z => z.unwish) fun e s' z => ?_
 refine wpAny_bind (wpAny_mono (show wpAny _ _ _ _ _ _ from z) (fun _ s1 y1 => wpAny_mono y1 (fun _ s'' y => ?_) fun _ _ y => y.elim) fun _ _ y => y.elim)
 obtain ⟨a, cls, σ2, H2, rfl, J, xx, g⟩ := y
 exact ⟨a, cls, H2, rfl, J.os, J.bare, J.base, J.hok, xx.less (fun p hp => absurd hp (by simp)), g⟩
structure FD (K : PySem.W.Frag) (mg : Str → Option Value) (x : Str) (st : Stmt) (ps : List Str) (dvs : List V) : Prop where
 ex : ∃ f fd ds, FunD K x x st f fd ∧ mg x = some (.ref f) ∧ Binds K fd ps [] ∧ Binds K fd ps ds ∧ Vals dvs ds
theorem FD.cal {x : Str} {st : Stmt} {ps : List Str} {dvs : List V} {k : Nat} {sp : Sp} (h : FD K mg x st ps dvs) (ok : ∀ {f fd}, FunD K x x st f fd → FnOk P w K mg base (CXr P w) k f fd ps sp) :
  Cal P w K mg base x k ps [] sp := let ⟨f, fd, _, F, m, b, _⟩ := h.ex; ⟨f, fd, [], ok F, m, F.kp, b, .nil⟩
end
end L2
namespace L2
open PySem PySem.Spec PySem.Calls PyProof.Rows
theorem Wg : typeLookup (.type "list_reverseiterator") "__len__" = pure none := by rw [typeLookup_type, builtinLookup_eq_fast]; kernel_rfl
theorem zaK : typeLookup (.type "list_reverseiterator") "__length_hint__" = pure (some (.builtin "list_reverseiterator.__length_hint__")) := by rw [typeLookup_type, builtinLookup_eq_fast]; kernel_rfl
theorem Q1 : isSubtype (.type "list_reverseiterator") (.type "list_reverseiterator") = pure true := by rw [isSubtype_type]; kernel_rfl
section
variable {prog : Program} {w : World} {A : Around} {E : Value → Shared → Prop} {s : Shared} {R : Result → Shared → Prop}
theorem zaV {D l : Addr} {i : Int} {Q : Bool → Shared → Prop} (hit : s.heap.IsRevIter D l i) (h : Q false s) : wpAny (model prog w) A (Builtin.List.listLengthHint (.ref D)) Q E s := by
 unfold Builtin.List.listLengthHint
 refine wpAny_bind (wpAny_specialOf hit.typeIs Wg ?_)
 show wpAny _ _ (specialOf (Value.ref D) (Str.ofString "__length_hint__") >>= _) _ _ _
 refine wpAny_bind (wpAny_specialOf hit.typeIs zaK ?_)
 generalize hid : ("list_reverseiterator.__length_hint__" : String) = id0
 wp_delta
 rw [show splitId id0 = some ("list_reverseiterator", "__length_hint__") from by subst hid; decide +kernel]
 subst hid
 refine wpAny_bind (wpAny_isInstance (T := "list_reverseiterator") (b := true) hit.typeIs Q1 ?_)
 refine wpAny_ite_split (fun hab => absurd hab (by decide)) (fun _ => ?_)
 refine wpAny_ite_split (fun _ => ?_) (fun hab => absurd (by decide +kernel) hab)
 exact wpAny_ite_split (fun hab => absurd hab (by decide +kernel)) (fun _ => wpAny_pure h)
theorem Wt {D l : Addr} {items : Array Value} (hh : A.handled = none) (hne : l ≠ D) (hn : items.size ≤ sizeLine) (S : Addr) (res : Value) (c₀ : Nat) (hit : s.heap.IsRevIter D l ((items.size : Int) - 1)) (hl : s.heap.IsList l items) (hSD : S ≠ D) (hSl : S ≠ l)
  (hS : s.heap.get? S = some { cls := .type "list", data := .seq #[] c₀ })
  (hR : ∀ h' tk acc' c', (∀ b o, b ≠ S → b ≠ D → s.heap.get? b = some o → h'.get? b = some o) → h'.get? S = some { cls := .type "list", dict := none, data := .seq acc' c', slots := #[] } → ItemsOf (fun i v => items[items.size - 1 - i]? = some v) acc' items.size → R (.ok (.ret res)) { s with heap := h', toks := tk }) :
  wpAny (model prog w) A.in1 (Builtin.List.listExtendWith (.ref S) (.ref D) res)
   (fun fin s' => match fin with | .done f => R (.ok f) s' | .again c' => c'.quiet = true ∧ codeAny (model prog w) A c' R s') (fun e s' => R (.error e) s') s := by
 have W := (Walks.listRev (prog := prog) (w := w) (A := A.in1) hh D l hne items).toS
 have hSf : S ∉ [D, l] := fun hm => by
  rcases List.mem_cons.mp hm with e | hm
  ·exact hSD e
  ·exact hSl (List.mem_singleton.mp hm)
 unfold Builtin.List.listExtendWith
 refine wpAny_bind (wpAny_typeOf hit.typeIs ?_)
 have h1 : Builtin.List.listSameRef (.ref S) (.ref D) = false := by simp [Builtin.List.listSameRef, hSD]
 have h2 : (Value.type "list_reverseiterator" == Value.type "list") = false := by decide
 have h3 : (Value.type "list_reverseiterator" == Value.type "tuple") = false := by decide
 simp only [h1, h2, h3, Bool.or_false, Bool.false_eq_true, if_false]
 refine wpAny_bind (wpAny_pyIter_revIter hit ?_)
 refine wpAny_bind (wpAny_holding (zaV hit ?_))
 refine wpAny_ite_split (fun hab => absurd hab (by decide)) (fun _ => wpAny_pure ⟨plainId_quiet F.plain_extend_loop _, ?_⟩)
 have hit0 : s.heap.IsRevIter D l ((items.size : Int) - 1 - ((0 : Nat) : Int)) := by simpa using hit
 refine codeAny_extend_loopS W hn S hSf res items.size 0 _ #[] c₀ rfl (Nat.zero_le _) ⟨Nat.zero_le _, hit0, hl⟩ hS (ItemsOf.nil _) fun s' acc' c' hm hS' hacc => ?_
 rw [Moved.eq_with hm]
 refine hR s'.heap s'.toks acc' c' (fun b o hb hd e => hm.heap b o (fun hmem => ?_) e) hS' hacc
 rcases List.mem_cons.mp hmem with e' | hmem
 ·exact hb e'
 ·exact hd (List.mem_singleton.mp hmem)
theorem Qw {D l : Addr} {items : Array Value} (hh : A.handled = none) (hne : l ≠ D) (hn : items.size ≤ sizeLine) (S : Addr) (hit : s.heap.IsRevIter D l ((items.size : Int) - 1)) (hl : s.heap.IsList l items) (hSD : S ≠ D) (hSl : S ≠ l)
  (hS : s.heap.get? S = some { cls := .type "list", data := .seq #[] })
  (hR : ∀ h' tk acc' c', (∀ b o, b ≠ S → b ≠ D → s.heap.get? b = some o → h'.get? b = some o) → h'.get? S = some { cls := .type "list", dict := none, data := .seq acc' c', slots := #[] } → ItemsOf (fun i v => items[items.size - 1 - i]? = some v) acc' items.size → R (.ok (.ret .none)) { s with heap := h', toks := tk }) :
  wpAny (model prog w) A.in1 (Builtin.«list.__init__» ⟨[.ref S, .ref D], []⟩)
   (fun fin s' => match fin with | .done f => R (.ok f) s' | .again c' => c'.quiet = true ∧ codeAny (model prog w) A c' R s') (fun e s' => R (.error e) s') s := by
 show wpAny _ A.in1 (do let old ← Builtin.List.listItems (.ref S); Builtin.List.listUpdate (.ref S) (fun _ => #[]); letGo old.toList.reverse; Builtin.List.listExtendWith (.ref S) (.ref D) .none) _ _ s
 refine wpAny_bind ?_
 unfold Builtin.List.listItems
 refine wpAny_bind (wpAny_seqItems hS rfl (wpAny_pure ?_))
 show wpAny _ A.in1 (updateSeq S (fun _ => #[]) >>= fun _ => letGo (#[] : Array Value).toList.reverse >>= fun _ => Builtin.List.listExtendWith (.ref S) (.ref D) .none) _ _ s
 refine wpAny_bind (wpAny_updateSeq hS rfl ?_)
 have hS₂ := Heap.get?_update_self (Obj.mapSeq (fun _ => (#[] : Array Value))) hS rfl
 have oth : ∀ b o, b ≠ S → s.heap.get? b = some o → (s.heap.update S (Obj.mapSeq (fun _ => (#[] : Array Value)))).get? b = some o :=
  fun b o hb e => (Heap.get?_update_other _ _ (Ne.symm hb)).trans e
 refine wpAny_bind (wpAny_letGo ?_)
 refine Wt (items := items) (l := l) hh hne hn S .none _ (hit.at fun o e => oth _ _ (Ne.symm hSD) e) (hl.at fun o e => oth _ _ (Ne.symm hSl) e) hSD hSl hS₂ fun h' tk acc' c' hk hS' hacc => ?_
 exact hR h' tk acc' c' (fun b o hb hd e => hk b o hb hd (oth b o hb e)) hS' hacc
theorem Qz {D l : Addr} {items : Array Value} {Q : Value → Shared → Prop} (hh : A.handled = none) (hne : l ≠ D) (hn : items.size ≤ sizeLine) (hit : s.heap.IsRevIter D l ((items.size : Int) - 1)) (hl : s.heap.IsList l items)
  (hQ : ∀ h' tk acc' c', (∀ b o, b ≠ D → s.heap.get? b = some o → h'.get? b = some o) → h'.get? s.heap.objs.size = some { cls := .type "list", dict := none, data := .seq acc' c', slots := #[] } → ItemsOf (fun i v => items[items.size - 1 - i]? = some v) acc' items.size → Q (.ref s.heap.objs.size) { s with heap := h', toks := tk }) :
  wpAny (model prog w) A (call (.type "list") [.ref D]) Q E s := by
 have hlD : D < s.heap.objs.size := by obtain ⟨o, e, _⟩ := hit; exact Heap.lt_size e
 have hll : l < s.heap.objs.size := by obtain ⟨o, e, _⟩ := hl; exact Heap.lt_size e
 refine callType_codes (Q₁ := fun obj s₁ => obj = .ref s.heap.objs.size ∧ s₁ = { s with heap := s.heap.push { cls := .type "list", data := .seq #[] } }) F.called_list (F.typeCall_list_1 _) F.entry_list_init
  (code_list_new _ ⟨rfl, rfl⟩) fun obj s₁ h₁ => ?_
 obtain ⟨rfl, rfl⟩ := h₁
 have hS : (s.heap.push { cls := .type "list", data := .seq #[] }).get? s.heap.objs.size = some { cls := .type "list", data := .seq #[] } := Heap.get?_push_size _ rfl
 refine ⟨⟨_, hS, rfl⟩, F.args_list_init_2 _ _, Qw (A := A.in1) (l := l) hh hne hn _ (hit.at fun o e => Heap.get?_push_of_some _ e) (hl.at fun o e => Heap.get?_push_of_some _ e) (Nat.ne_of_gt hlD) (Nat.ne_of_gt hll) hS fun h' tk acc' c' hk hS' hacc => ?_⟩
 exact ⟨rfl, hQ h' tk acc' c' (fun b o hb e => hk b o (Nat.ne_of_lt (Heap.lt_size e)) hb (Heap.get?_push_of_some _ e)) hS' hacc⟩
end
section
variable {X : Cx} {a : Expr} {ta : TA} {p p2 pos pos2 : Pos}
theorem zae {xs : List V} {its : List Value} {acc : Array Value} (r : Vals xs its) (h : ItemsOf (fun i v => its.toArray[its.toArray.size - 1 - i]? = some v) acc its.toArray.size) : Vals xs.reverse acc.toList := by
 have e : acc.toList = its.reverse := by
  apply List.ext_getElem?
  intro i
  have hsz : acc.toList.length = its.length := by simpa using h.1
  by_cases hi : i < its.length
  ·have hi' : i < acc.toList.length := by omega
   rw [List.getElem?_eq_getElem hi', List.getElem?_reverse hi]
   have := h.2 i (acc.toList[i]) (by rw [← Array.getElem?_toList, List.getElem?_eq_getElem hi'])
   simp at this
   exact this.symm
  ·rw [List.getElem?_eq_none (by omega), List.getElem?_eq_none (by simp; omega)]
 rw [e]
 exact r.reverse
def zcF (X : Cx) (ta : TA) : TE := fun σ H Q => X.mg "list" = none ∧ X.mg "reversed" = none ∧ ta σ H fun vs H1 => ∃ l xs, vs = [.ref l] ∧ SqL X.K H1 l xs ∧ ∀ q, H1 q = none → Q (.ref q) (upd H1 q (.lst xs.reverse))
theorem XG : bootBuiltins "reversed" = some (.type "reversed") := by decide +kernel
theorem zbq (hc : X.calm = true) (ha : PA X [a] ta) (hg : Gl X "list" := by rfl) (hg2 : Gl X "reversed" := by rfl)
  (hs : starEach [Expr.Call (.Name "reversed" p2) [a] [] pos2] X.env = [(false, eval (Expr.Call (.Name "reversed" p2) [a] [] pos2) X.env)] := by rfl) (hs2 : starEach [a] X.env = [(false, eval a X.env)] := by rfl) :
  PE X (.Call (.Name "list" p) [.Call (.Name "reversed" p2) [a] [] pos2] [] pos) (zcF X ta) := by
 intro pins s σ H Q I h
 refine Call_ (xV I hg h.1 qX (PyProof.Rows.callWith_type1 ?_ hs rfl))
 rw [hs]
 refine Calls.spliced_cons (Call_ (xV I hg2 h.2.1 XG (PyProof.Rows.callWith_type1 (thn (ha pos2 pins s σ H _ I h.2.2) fun us s1 ⟨vs, H1, I1, r1, q1⟩ => ?_) hs2 rfl)))
 obtain ⟨l, xs, e, hq, q⟩ := q1
 subst e
 obtain ⟨u, rfl, rx⟩ := vQ r1
 cases rx
 obtain ⟨its, rv, hl, hz⟩ := I1.list hq
 have hll : l < s1.heap.objs.size := by obtain ⟨o, e, _⟩ := hl.isList; exact Heap.lt_size e
 have hlen := rv.length
 refine call_reversed_list hl.isList ?_
 refine Calls.spliced_nil ?_
 refine Qz (l := l) (items := its.toArray) (I1.ok.hd hc) (Nat.ne_of_lt hll) (by rw [List.size_toArray, ← hlen]; exact hz) ⟨_, Heap.get?_push_size _ rfl, rfl, rfl⟩ (hl.isList.push _) fun h' tk acc' c' hk hS hit => ?_
 refine ⟨.ref _, _, I1.laid (o := .lst xs.reverse) (t' := tk) (fun b o e => hk b o (Nat.ne_of_lt (Heap.lt_size e)) (Heap.get?_push_of_some _ e)) ?_ ⟨?_, acc'.toList, c', zae rv hit, by simpa using hS⟩, rfl, q _ (I1.hok.fresh ?_)⟩
 ·simp only [Heap.size_push]; exact Nat.le_succ _
 ·rw [List.length_reverse]; exact hz
 ·simp only [Heap.size_push]; exact Nat.le_succ _
end
section
variable {X : Cx}
end
end L2
namespace L2
open PySem PySem.Spec PyProof.Rows
inductive D where
 | non | bl (b : Bool) | int (i : Int) | str (x : Str) | lst (xs : List D) | tup (xs : List D) | ob (C : Addr) (fs : List (Str × D))
inductive Rep (H : Hp) (p : Addr → Prop) : V → D → Prop where
 | non : Rep H p .non .non
 | bl {b : Bool} : Rep H p (.bl b) (.bl b)
 | int {i : Int} : Rep H p (.int i) (.int i)
 | str {x : Str} : Rep H p (.str x) (.str x)
 | lst {l : Addr} {vs : List V} {ds : List D} : p l → H l = some (.lst vs) → vs.length = ds.length → (∀ (i : Nat) v d, vs[i]? = some v → ds[i]? = some d → Rep H p v d) → Rep H p (.ref l) (.lst ds)
 | tup {l : Addr} {vs : List V} {ds : List D} : p l → H l = some (.tup vs) → vs.length = ds.length → (∀ (i : Nat) v d, vs[i]? = some v → ds[i]? = some d → Rep H p v d) → Rep H p (.ref l) (.tup ds)
 | ob {l C dx : Addr} {fs : List (Str × V)} {ds : List (Str × D)} : p l → H l = some (.ins C dx fs) → fs.map (·.1) = ds.map (·.1) → (∀ (i : Nat) f g, fs[i]? = some f → ds[i]? = some g → Rep H p f.2 g.2) → Rep H p (.ref l) (.ob C ds)
theorem Rep.keep {H H' : Hp} {p q : Addr → Prop} (s : ∀ b o, p b → H b = some o → q b ∧ H' b = some o) {v : V} {d : D} (h : Rep H p v d) : Rep H' q v d := by
 induction h with
 | non => exact .non
 | bl => exact .bl
 | int => exact .int
 | str => exact .str
 | lst pl hl e _ ih => exact .lst (s _ _ pl hl).1 (s _ _ pl hl).2 e ih
 | tup pl hl e _ ih => exact .tup (s _ _ pl hl).1 (s _ _ pl hl).2 e ih
 | ob pl hl e _ ih => exact .ob (s _ _ pl hl).1 (s _ _ pl hl).2 e ih
structure Reps (H : Hp) (p : Addr → Prop) (vs : List V) (ds : List D) : Prop where
 len : vs.length = ds.length
 g : ∀ (i : Nat) v d, vs[i]? = some v → ds[i]? = some d → Rep H p v d
section
variable {H H' : Hp} {p q : Addr → Prop} {vs us : List V} {ds es : List D} {v : V} {d : D}
theorem Reps.keep (s : ∀ b o, p b → H b = some o → q b ∧ H' b = some o) (h : Reps H p vs ds) : Reps H' q vs ds := ⟨h.len, fun i v d a b => (h.g i v d a b).keep s⟩
theorem Reps.nil : Reps H p [] [] := ⟨rfl, fun i v d h => by simp at h⟩
theorem Reps.cons (h : Rep H p v d) (k : Reps H p vs ds) : Reps H p (v :: vs) (d :: ds) := ⟨by simp [k.len], fun i u e a b => by
 cases i with
 | zero =>
  have a : v = u := by simpa using a
  have b : d = e := by simpa using b
  rw [← a, ← b]; exact h
 | succ i => exact k.g i u e (by simpa using a) (by simpa using b)⟩
theorem Reps.one (h : Rep H p v d) : Reps H p [v] [d] := .cons h .nil
theorem Reps.append (h : Reps H p vs ds) (k : Reps H p us es) : Reps H p (vs ++ us) (ds ++ es) := by
 refine ⟨by rw [List.length_append, List.length_append, h.len, k.len], fun i v r e1 e2 => ?_⟩
 by_cases hi : i < vs.length
 ·rw [List.getElem?_append_left hi] at e1
  rw [List.getElem?_append_left (by rw [← h.len]; exact hi)] at e2
  exact h.g i v r e1 e2
 ·rw [List.getElem?_append_right (by omega)] at e1
  rw [List.getElem?_append_right (by rw [← h.len]; omega), ← h.len] at e2
  exact k.g _ v r e1 e2
theorem Reps.at (h : Reps H p vs ds) {i : Nat} (e : vs[i]? = some v) : ∃ d, ds[i]? = some d ∧ Rep H p v d := by
 have hi := (List.getElem?_eq_some_iff.mp e).1
 have e2 : ds[i]? = some (ds[i]'(by rw [← h.len]; exact hi)) := List.getElem?_eq_getElem _
 exact ⟨_, e2, h.g i v _ e e2⟩
theorem Reps.of (h : Reps H p vs ds) {i : Nat} (e : ds[i]? = some d) : ∃ v, vs[i]? = some v ∧ Rep H p v d := by
 have hi := (List.getElem?_eq_some_iff.mp e).1
 have e2 : vs[i]? = some (vs[i]'(by rw [h.len]; exact hi)) := List.getElem?_eq_getElem _
 exact ⟨_, e2, h.g i _ d e2 e⟩
theorem Reps.take (h : Reps H p vs ds) (n : Nat) : Reps H p (vs.take n) (ds.take n) := ⟨by rw [List.length_take, List.length_take, h.len], fun i v d a b => by
 rw [List.getElem?_take] at a b
 by_cases hn : i < n
 ·rw [if_pos hn] at a b; exact h.g i v d a b
 ·rw [if_neg hn] at a; cases a⟩
theorem Reps.drop (h : Reps H p vs ds) (n : Nat) : Reps H p (vs.drop n) (ds.drop n) := ⟨by rw [List.length_drop, List.length_drop, h.len], fun i v d a b => by
 rw [List.getElem?_drop] at a b
 exact h.g _ v d a b⟩
theorem Reps.reverse (h : Reps H p vs ds) : Reps H p vs.reverse ds.reverse := ⟨by rw [List.length_reverse, List.length_reverse, h.len], fun i v d a b => by
 have hi : i < vs.length := by have := (List.getElem?_eq_some_iff.mp a).1; rw [List.length_reverse] at this; exact this
 rw [List.getElem?_reverse hi] at a
 rw [List.getElem?_reverse (by rw [← h.len]; exact hi), ← h.len] at b
 exact h.g _ v d a b⟩
theorem Reps.mk' {l : Addr} (h : Reps H p vs ds) (pl : p l) (e : H l = some (.lst vs)) : Rep H p (.ref l) (.lst ds) := .lst pl e h.len h.g
theorem Reps.mkT {l : Addr} (h : Reps H p vs ds) (pl : p l) (e : H l = some (.tup vs)) : Rep H p (.ref l) (.tup ds) := .tup pl e h.len h.g
theorem Rep.lst' (h : Rep H p v (.lst ds)) : ∃ l us, v = .ref l ∧ p l ∧ H l = some (.lst us) ∧ Reps H p us ds := by
 cases h with | lst a b c e => exact ⟨_, _, rfl, a, b, c, e⟩
theorem Rep.tup' (h : Rep H p v (.tup ds)) : ∃ l us, v = .ref l ∧ p l ∧ H l = some (.tup us) ∧ Reps H p us ds := by
 cases h with | tup a b c e => exact ⟨_, _, rfl, a, b, c, e⟩
theorem wJ {f : Str} : ∀ {fs : List (Str × V)} {gs : List (Str × D)}, fs.map (·.1) = gs.map (·.1) → (∀ (i : Nat) x y, fs[i]? = some x → gs[i]? = some y → Rep H p x.2 y.2) →
  (∀ d, gs.lookup f = some d → ∃ u, fs.lookup f = some u ∧ Rep H p u d) ∧ (gs.lookup f = none → fs.lookup f = none)
 | [], [], _, _ => ⟨fun d h => by simp at h, fun _ => rfl⟩
 | [], _ :: _, e, _ => by simp at e
 | _ :: _, [], e, _ => by simp at e
 | (a, u) :: fs, (b, c) :: gs, e, r => by
  have e1 : a = b := by simpa using (List.cons.inj e).1
  subst e1
  have ih := wJ (f := f) (fs := fs) (gs := gs) (List.cons.inj e).2 fun i x y hx hy => r (i + 1) x y (by simpa using hx) (by simpa using hy)
  by_cases hf : f = a
  ·have hb : (f == a) = true := beq_iff_eq.mpr hf
   refine ⟨fun d h => ?_, fun h => ?_⟩
   ·simp only [List.lookup, hb] at h ⊢
    cases h
    exact ⟨_, rfl, r 0 (a, u) (a, c) rfl rfl⟩
   ·simp only [List.lookup, hb] at h
    cases h
  ·have hb : (f == a) = false := beq_eq_false_iff_ne.mpr hf
   simp only [List.lookup, hb]
   exact ih
theorem Rep.ob' {C : Addr} {gs : List (Str × D)} (h : Rep H p v (.ob C gs)) : ∃ l dx fs, v = .ref l ∧ p l ∧ H l = some (.ins C dx fs) ∧ (∀ f d, gs.lookup f = some d → ∃ u, fs.lookup f = some u ∧ Rep H p u d) ∧ (∀ f, gs.lookup f = none → fs.lookup f = none) := by
 cases h with | ob a b c e => exact ⟨_, _, _, rfl, a, b, fun f => (wJ c e).1, fun f => (wJ c e).2⟩
abbrev D.ints (ns : List Int) : D := .lst (ns.map D.int)
theorem reps_ints : ∀ {ns : List Int}, Reps H p (ns.map V.int) (ns.map D.int)
 | [] => .nil
 | _ :: _ => .cons .int reps_ints
theorem Jx : ∀ {ns : List Int} {vs : List V}, Reps H p vs (ns.map D.int) → vs = ns.map V.int
 | [], [], _ => rfl
 | [], _ :: _, h => by have := h.len; simp at this
 | _ :: _, [], h => by have := h.len; simp at this
 | n :: ns, v :: vs, h => by
  have h1 := h.g 0 v (.int n) rfl rfl
  have h2 : Reps H p vs (ns.map D.int) := ⟨by have := h.len; simpa using this, fun i u d a b => h.g (i + 1) u d (by simpa using a) (by simpa using b)⟩
  cases h1
  rw [List.map_cons, Jx h2]
theorem Rep.ints' {ns : List Int} (h : Rep H p v (.ints ns)) : ∃ l, v = .ref l ∧ p l ∧ H l = some (.lst (ns.map V.int)) := by
 obtain ⟨l, us, e, a, b, c⟩ := h.lst'
 rw [Jx c] at b
 exact ⟨l, e, a, b⟩
theorem zX {l : Addr} {ns : List Int} (pl : p l) (e : H l = some (.lst (ns.map V.int))) : Rep H p (.ref l) (.ints ns) := reps_ints.mk' pl e
end
def Off (ms : List Addr) : Addr → Prop := fun b => b ∉ ms
def Fr (ms : List Addr) (H H' : Hp) : Prop := ∀ b o, b ∉ ms → H b = some o → H' b = some o
section
variable {H H' H2 : Hp} {ms ns : List Addr} {x : Addr} {o : HO} {v : V} {d : D} {vs : List V} {ds : List D}
theorem Fr.refl : Fr ms H H := fun _ _ _ h => h
theorem Fr.trans (a : Fr ms H H') (b : Fr ms H' H2) : Fr ms H H2 := fun c o n h => b c o n (a c o n h)
theorem Fr.more (a : Fr ms H H') (s : ∀ b, b ∈ ms → b ∈ ns) : Fr ns H H' := fun b o n h => a b o (fun z => n (s b z)) h
theorem Same.fr (a : Same H H') : Fr ms H H' := fun b o _ h => a b o h
theorem qq (h : x ∈ ms) : Fr ms H (upd H x o) := fun b u n hb => by
 rw [upd_ne (fun z => n (by rw [z]; exact h))]; exact hb
theorem Fr.same (a : Fr ms H H') (h : ∀ m ∈ ms, H m = none) : Same H H' := fun b o hb => a b o (fun z => by rw [h b z] at hb; cases hb) hb
theorem Rep.fr (h : Rep H (Off ms) v d) (s : Fr ms H H') : Rep H' (Off ms) v d := h.keep fun b o pb hb => ⟨pb, s b o pb hb⟩
theorem Reps.fr (h : Reps H (Off ms) vs ds) (s : Fr ms H H') : Reps H' (Off ms) vs ds := h.keep fun b o pb hb => ⟨pb, s b o pb hb⟩
theorem Rep.more (h : Rep H (Off ms) v d) (s : ∀ b, b ∈ ns → b ∈ ms ∨ H b = none) : Rep H (Off ns) v d := h.keep fun b o pb hb => ⟨fun z => (s b z).elim pb (fun q => by rw [q] at hb; cases hb), hb⟩
theorem Reps.more (h : Reps H (Off ms) vs ds) (s : ∀ b, b ∈ ns → b ∈ ms ∨ H b = none) : Reps H (Off ns) vs ds := h.keep fun b o pb hb => ⟨fun z => (s b z).elim pb (fun q => by rw [q] at hb; cases hb), hb⟩
theorem Rep.same (h : Rep H (Off ms) v d) (s : Same H H') : Rep H' (Off ms) v d := h.fr s.fr
theorem Reps.same (h : Reps H (Off ms) vs ds) (s : Same H H') : Reps H' (Off ms) vs ds := h.fr s.fr
theorem Rep.ahead (h : Rep H (Off []) v d) (s : Same H H') (n : ∀ m ∈ ms, H m = none) : Rep H' (Off ms) v d := h.keep fun b o _ hb => ⟨(fun z => nomatch (n b z).symm.trans hb), s b o hb⟩
theorem Reps.ahead (h : Reps H (Off []) vs ds) (s : Same H H') (n : ∀ m ∈ ms, H m = none) : Reps H' (Off ms) vs ds := h.keep fun b o _ hb => ⟨(fun z => nomatch (n b z).symm.trans hb), s b o hb⟩
theorem Rep.all {p : Addr → Prop} (h : Rep H p v d) : Rep H (Off []) v d := h.keep fun b o _ hb => ⟨(fun z => nomatch z), hb⟩
theorem Reps.all {p : Addr → Prop} (h : Reps H p vs ds) : Reps H (Off []) vs ds := h.keep fun b o _ hb => ⟨(fun z => nomatch z), hb⟩
end
theorem fd_small {i j : Int} (h1 : 0 < j) (h2 : j < 1000000) : CFd i j := fd_ok h1 (Nat.lt_of_lt_of_le (show j.natAbs < 2 ^ 20 by omega) (Nat.pow_le_pow_right (by decide) (by decide)))
theorem ZJ {α : Type} {xs : List α} {k : Int} (h0 : 0 ≤ k) (h1 : k < xs.length) : seqIndex? k xs.length = some k.toNat := by
 unfold seqIndex?
 have : ¬ k < 0 := by omega
 simp [this, h0, h1]
theorem qD {K : PySem.W.Frag} {H H' : Hp} {l : Addr} {xs : List V} (s : Same H H') (h : SqL K H l xs) : SqL K H' l xs := s.seq h
def del (H : Hp) (x : Addr) : Hp := fun b => if b = x then none else H b
section
variable {K : PySem.W.Frag} {H : Hp} {Q : VK} {p : Addr → Prop} {v : V} {d : D} {ds : List D} {f : Str}
theorem zbm {C : Addr} {gs : List (Str × D)} {R : V → Prop} (h : Rep H p v (.ob C gs)) (c : Cls K C) (n : NoAttr K C f) (e : gs.lookup f = some d) (q : ∀ u, Rep H p u d → R u) :
  ∃ a C dx fs u, v = .ref a ∧ H a = some (.ins C dx fs) ∧ Cls K C ∧ NoAttr K C f ∧ fs.lookup f = some u ∧ R u := by
 obtain ⟨l, dx, fs, rfl, _, a, b, _⟩ := h.ob'
 obtain ⟨u, e1, r⟩ := b f d e
 exact ⟨l, C, dx, fs, u, rfl, a, c, n, e1, q u r⟩
end
end L2
namespace L2
open PySem PySem.Spec PyProof.Rows
section
variable {X : Cx}
def zcN (K : PySem.W.Frag) : R2 := fun x y H Q => ∃ p xs i v, x = .ref p ∧ y = .int i ∧ SqL K H p xs ∧ 0 ≤ i ∧ atI xs i = some v ∧ Q v H
theorem Z4 : zc1 X (zcN X.K) := by
 intro pins s σ H x y v u Q I rx ry h
 obtain ⟨p, xs, i, z, rfl, rfl, hq, h0, he, q⟩ := h
 cases rx
 obtain ⟨t, rfl⟩ := ry
 obtain ⟨its, r, pl, hz⟩ := I.list hq
 obtain ⟨j, h1, h2, h3, h4, h5⟩ := Zt he
 obtain ⟨w, ew, rw'⟩ := r.get h2
 have hl := r.length
 have hn := wK
 have hj : i.toNat = j := by
  rw [seqIndex_of h0 h5] at h1
  exact Option.some.inj h1
 exact wpAny_getItem_list pl.isList h0 (by omega) (by rw [hj]; simpa using ew) ⟨z, H, I, rw', q⟩
end
inductive Hard : D → Prop where
 | non : Hard .non
 | bl {b : Bool} : Hard (.bl b)
 | int {i : Int} : Hard (.int i)
 | str {x : Str} : Hard (.str x)
 | tup {ds : List D} : (∀ (i : Nat) d, ds[i]? = some d → Hard d) → Hard (.tup ds)
theorem Rep.hard {H : Hp} {p q : Addr → Prop} {v : V} {d : D} (h : Rep H p v d) (hd : Hard d) (k : ∀ b xs, p b → H b = some (.tup xs) → q b) : Rep H q v d := by
 induction h with
 | non => exact .non
 | bl => exact .bl
 | int => exact .int
 | str => exact .str
 | lst pl hl e _ ih => cases hd
 | tup pl hl e _ ih =>
  cases hd with
  | tup hd => exact .tup (k _ _ pl hl) hl e fun i v d a b => ih i v d a b (hd i d b)
 | ob pl hl e _ ih => cases hd
theorem zaF {as : List Addr} (nd : as.Nodup) {i j : Nat} {b : Addr} (h1 : as[i]? = some b) (h2 : as[j]? = some b) : i = j := by
 obtain ⟨hi, e1⟩ := List.getElem?_eq_some_iff.mp h1
 obtain ⟨hj, e2⟩ := List.getElem?_eq_some_iff.mp h2
 have P := List.pairwise_iff_getElem.mp nd
 rcases Nat.lt_trichotomy i j with h | h | h
 ·exact absurd (e1.trans e2.symm) (P i j hi hj h)
 ·exact h
 ·exact absurd (e2.trans e1.symm) (P j i hj hi h)
structure NL (H : Hp) (p : Addr → Prop) (G : Addr) (as : List Addr) (xss : List (List D)) : Prop where
 out : H G = some (.lst (as.map V.ref))
 len : as.length = xss.length
 nd : as.Nodup
 nG : G ∉ as
 g : ∀ (i : Nat) b xs, as[i]? = some b → xss[i]? = some xs → ∃ vs, H b = some (.lst vs) ∧ Reps H p vs xs
section
variable {H H' : Hp} {p q : Addr → Prop} {G : Addr} {as : List Addr} {xss : List (List D)}
theorem NL.keep (h : NL H p G as xss) (s : ∀ b o, (b = G ∨ b ∈ as ∨ p b) → H b = some o → H' b = some o) (sp : ∀ b, p b → H b ≠ none → q b) : NL H' q G as xss := by
 refine ⟨s _ _ (.inl rfl) h.out, h.len, h.nd, h.nG, fun i b xs e1 e2 => ?_⟩
 obtain ⟨vs, h1, h2⟩ := h.g i b xs e1 e2
 exact ⟨vs, s _ _ (.inr (.inl (List.mem_of_getElem? e1))) h1, h2.keep fun c o pc hc => ⟨sp c pc (by rw [hc]; intro z; cases z), s c o (.inr (.inr pc)) hc⟩⟩
theorem NL.same (h : NL H p G as xss) (s : Same H H') : NL H' p G as xss := h.keep (fun b o _ hb => s b o hb) fun _ hp _ => hp
theorem NL.at (h : NL H p G as xss) {i : Nat} {xs : List D} (e : xss[i]? = some xs) : ∃ b vs, as[i]? = some b ∧ H b = some (.lst vs) ∧ Reps H p vs xs := by
 have hi := (List.getElem?_eq_some_iff.mp e).1
 have e2 : as[i]? = some (as[i]'(by rw [h.len]; exact hi)) := List.getElem?_eq_getElem _
 obtain ⟨vs, h1, h2⟩ := h.g i _ xs e2 e
 exact ⟨_, vs, e2, h1, h2⟩
theorem ZS {H : Hp} {p : Addr → Prop} {G : Addr} (h : H G = some (.lst [])) : NL H p G [] [] := ⟨h, rfl, List.nodup_nil, by simp, fun i b xs e => by simp at e⟩
theorem NL.rep (h : NL H p G as xss) : Rep H (Off []) (.ref G) (.lst (xss.map D.lst)) := by
 refine .lst (fun z => nomatch z) h.out (by rw [List.length_map, List.length_map, h.len]) fun i v d e1 e2 => ?_
 rw [List.getElem?_map, Option.map_eq_some_iff] at e1 e2
 obtain ⟨b, e1, rfl⟩ := e1
 obtain ⟨xs, e2, rfl⟩ := e2
 obtain ⟨vs, h1, h2⟩ := h.g i b xs e1 e2
 exact h2.all.mk' (fun z => nomatch z) h1
theorem NL.put {i : Nat} {b : Addr} {vs : List V} {ys : List D} (h : NL H p G as xss) (e : as[i]? = some b) (np : ¬ p b) (r : Reps H p vs ys) : NL (upd H b (.lst vs)) p G as (xss.set i ys) := by
 have hb := List.mem_of_getElem? e
 have nG : G ≠ b := fun z => h.nG (by rw [z]; exact hb)
 have rk : ∀ {us : List V} {zs : List D}, Reps H p us zs → Reps (upd H b (.lst vs)) p us zs := fun r => r.keep fun c o pc hc => ⟨pc, by rw [upd_ne (fun z => np (by rw [← z]; exact pc))]; exact hc⟩
 refine ⟨by rw [upd_ne nG]; exact h.out, by rw [List.length_set, h.len], h.nd, h.nG, fun j c xs e1 e2 => ?_⟩
 by_cases hj : j = i
 ·subst hj
  rw [e] at e1
  cases e1
  have hl : j < xss.length := by rw [← h.len]; exact (List.getElem?_eq_some_iff.mp e).1
  rw [List.getElem?_set_self hl] at e2
  cases e2
  exact ⟨vs, upd_same, rk r⟩
 ·rw [List.getElem?_set_ne (Ne.symm hj)] at e2
  have nc : c ≠ b := fun z => by
   subst z
   exact hj (zaF h.nd e1 e)
  obtain ⟨us, h1, h2⟩ := h.g j c xs e1 e2
  exact ⟨us, by rw [upd_ne nc]; exact h1, rk h2⟩
theorem NL.push {b : Addr} {vs : List V} {ys : List D} (h : NL H p G as xss) (hb : H b = some (.lst vs)) (nb : b ∉ as) (nG : b ≠ G) (np : ¬ p G) (r : Reps H p vs ys) : NL (upd H G (.lst (as.map V.ref ++ [.ref b]))) p G (as ++ [b]) (xss ++ [ys]) := by
 have rk : ∀ {us : List V} {zs : List D}, Reps H p us zs → Reps (upd H G (.lst (as.map V.ref ++ [.ref b]))) p us zs := fun r => r.keep fun c o pc hc => ⟨pc, by rw [upd_ne (fun z => np (by rw [← z]; exact pc))]; exact hc⟩
 refine ⟨by rw [upd_same, List.map_append]; rfl, by simp [h.len], ?_, ?_, fun j c xs e1 e2 => ?_⟩
 ·rw [List.nodup_append]
  refine ⟨h.nd, by simp, ?_⟩
  intro x hx y hy z
  rw [List.mem_singleton.mp hy] at z
  exact nb (by rw [← z]; exact hx)
 ·intro z
  rcases List.mem_append.mp z with z | z
  ·exact h.nG z
  ·exact nG (List.mem_singleton.mp z).symm
 ·by_cases hj : j < as.length
  ·rw [List.getElem?_append_left hj] at e1
   rw [List.getElem?_append_left (by rw [← h.len]; exact hj)] at e2
   obtain ⟨us, h1, h2⟩ := h.g j c xs e1 e2
   have nc : c ≠ G := fun z => h.nG (by rw [← z]; exact List.mem_of_getElem? e1)
   exact ⟨us, by rw [upd_ne nc]; exact h1, rk h2⟩
  ·rw [List.getElem?_append_right (by omega)] at e1
   rw [List.getElem?_append_right (by rw [← h.len]; omega), ← h.len] at e2
   have hj0 : j - as.length = 0 := by have := (List.getElem?_eq_some_iff.mp e1).1; simp at this; omega
   rw [hj0] at e1 e2
   have e1 : b = c := by simpa using e1
   have e2 : ys = xs := by simpa using e2
   subst e1 e2
   exact ⟨vs, by rw [upd_ne nG]; exact hb, rk r⟩
end
def zV (H : Hp) : Addr → Prop := fun b => ∃ xs, H b = some (.tup xs)
theorem NL.tup {H H' : Hp} {G : Addr} {as : List Addr} {xss : List (List D)} (h : NL H (zV H) G as xss) (s : ∀ b o, (b = G ∨ b ∈ as ∨ zV H b) → H b = some o → H' b = some o) : NL H' (zV H') G as xss :=
 h.keep s fun b hb _ => by
  obtain ⟨xs, hx⟩ := hb
  exact ⟨xs, s b _ (.inr (.inr ⟨xs, hx⟩)) hx⟩
theorem NL.isl {H : Hp} {G : Addr} {as : List Addr} {p : Addr → Prop} {xss : List (List D)} (h : NL H p G as xss) {b : Addr} (hb : b ∈ G :: as) : ∃ vs, H b = some (.lst vs) := by
 rcases List.mem_cons.mp hb with rfl | hb
 ·exact ⟨_, h.out⟩
 ·obtain ⟨j, hj⟩ := List.getElem?_of_mem hb
  obtain ⟨vs, h1, _⟩ := h.g j b _ hj (List.getElem?_eq_getElem (by rw [← h.len]; exact (List.getElem?_eq_some_iff.mp hj).1))
  exact ⟨vs, h1⟩
theorem NL.copy {H : Hp} {p : Addr → Prop} {G b : Addr} {as : List Addr} {xss : List (List D)} {vs : List V} {ys : List D} (h : NL H p G as xss) (hb : H b = none) (np : ¬ p G) (r : Reps H p vs ys) :
  upd H b (.lst vs) G = some (.lst (as.map V.ref)) ∧ NL (upd (upd H b (.lst vs)) G (.lst (as.map V.ref ++ [.ref b]))) p G (as ++ [b]) (xss ++ [ys]) := by
 have s3 : Same H (upd H b (.lst vs)) := fun c o hc => by rw [upd_ne (ne_of_none hc hb)]; exact hc
 have nb : b ∉ as := fun z => by
  obtain ⟨us, h1⟩ := h.isl (List.mem_cons_of_mem _ z)
  rw [h1] at hb; cases hb
 have nG : b ≠ G := fun z => by rw [z, h.out] at hb; cases hb
 exact ⟨s3 _ _ h.out, (h.same s3).push upd_same nb nG np (r.keep fun c o pc hc => ⟨pc, s3 _ _ hc⟩)⟩
theorem uc {P : Program} {w : World} {K : PySem.W.Frag} {mg : Str → Option Value} {base : Heap} {x : Str} {k : Nat} {G : List V → Sp → Prop} {ps : List Str} {dvs : List V} {sp : Sp} (c : Cal P w K mg base x k ps dvs sp) (h : G dvs sp) : ∃ ps dvs sp, Cal P w K mg base x k ps dvs sp ∧ G dvs sp := ⟨ps, dvs, sp, c, h⟩
theorem un2 {K : PySem.W.Frag} {H : Hp} {t : Addr} {x y : V} {G : V → V → Prop} (h : H t = some (.tup [x, y])) (q : G x y) : ∃ a xs, V.ref t = .ref a ∧ SqT K H a xs ∧ xs.length = 2 ∧ ∃ v r, xs = v :: r ∧ ∃ v' r', r = v' :: r' ∧ r' = [] ∧ G v v' := ⟨t, _, rfl, SqT.of h, rfl, x, _, rfl, y, _, rfl, rfl, q⟩
theorem ra {K : PySem.W.Frag} {H : Hp} {a C dx : Addr} {fs : List (Str × V)} {v : V} {f : Str} {G : V → Prop} (h : H a = some (.ins C dx fs)) (c : Cls K C) (n : NoAttr K C f) (e : fs.lookup f = some v) (q : G v) : ∃ a' C dx fs v, V.ref a = .ref a' ∧ H a' = some (.ins C dx fs) ∧ Cls K C ∧ NoAttr K C f ∧ fs.lookup f = some v ∧ G v := ⟨a, C, dx, fs, v, rfl, h, c, n, e, q⟩
end L2
namespace L2
open PySem PySem.Spec PyProof.Rows
section
variable {prog : Program} {w : World} {A : Around} {E : Value → Shared → Prop} {s : Shared}
abbrev lit (l : Addr) : Obj := { cls := .type (zaS true), data := .fields #[.ref l, .int 0 0] }
end
section
variable {prog : Program} {w : World} {A : Around} {E : Value → Shared → Prop} {s : Shared}
end
def zdi (K : PySem.W.Frag) (a1 a2 a3 : Addr) : It :=
 ⟨fun i H => ∃ xs ys zs x y u, SqL K H a1 xs ∧ SqL K H a2 ys ∧ SqL K H a3 zs ∧ xs[i]? = some x ∧ ys[i]? = some y ∧ zs[i]? = some u,
   fun i H v H' => ∃ t x y u, H t = none ∧ v = .ref t ∧ (∀ xs, SqL K H a1 xs → xs[i]? = some x) ∧ (∀ ys, SqL K H a2 ys → ys[i]? = some y) ∧ (∀ zs, SqL K H a3 zs → zs[i]? = some u) ∧ H' = upd H t (.tup [x, y, u]),
   fun i H => ∃ xs, SqL K H a1 xs ∧ xs.length ≤ i⟩
def iZip3 (X : Cx) (ta : TA) : TI := fun σ H R => X.mg "zip" = none ∧ ta σ H fun vs H1 => ∃ l1 l2 l3 xs ys zs, vs = [.ref l1, .ref l2, .ref l3] ∧ SqL X.K H1 l1 xs ∧ SqL X.K H1 l2 ys ∧ SqL X.K H1 l3 zs ∧ R (zdi X.K l1 l2 l3) H1
end L2
namespace L2
open PySem PySem.Spec PyProof.Rows
def Itv (K : PySem.W.Frag) (a : Addr) (n : Nat) : It :=
 ⟨fun i H => ∃ xs x, SqL K H a xs ∧ xs.length = n ∧ xs.reverse[i]? = some x, fun i H x H' => H' = H ∧ ∀ xs, SqL K H a xs → xs.reverse[i]? = some x, fun i _ => n ≤ i⟩
def iRev (X : Cx) (ta : TA) : TI := fun σ H R => X.mg "reversed" = none ∧ ta σ H fun vs H1 => ∃ l xs, vs = [.ref l] ∧ SqL X.K H1 l xs ∧ R (Itv X.K l xs.length) H1
section
variable {X : Cx} {pos pos' : Pos} {x : Str}
theorem zo (i : Nat) {e : Expr} {te : TE} (hN : X.N.Nodup) (he : PE X e te) (hi : X.N[i]? = some x := by rfl) (hx : Loc X.env.scope x := by exact Or.inl rfl) (hs : swapsWith e (some (.Name x pos')) pos.line X.env = pure false := by rfl)
  (hf : Or (X.fn x = true) (X.env.scope.names.lookup x = some .local) := by walk_at "p") : PS X (.Assign [.Name x pos'] e pos) (tAsg te (gName i)) := wF hN hi hx he hs hf
theorem zZ (i : Nat) (hN : X.N.Nodup) (hi : X.N[i]? = some x := by rfl) (hx : Loc X.env.scope x := by exact Or.inl rfl) (hf : Or (X.fn x = true) (X.env.scope.names.lookup x = some .local) := by walk_at "p") : PG X (.Name x pos) (gName i) := Jl hN hi hx hf
theorem zF {a b : Expr} {ta tb : TE} (ha : PE X a ta) (hb : PE X b tb) (hs : Vc b := by intro _ _; rfl) : PE X (.Subscript a b pos) (tOp (rIx X.K) ta tb) := zcO zcl ha hb hs
end
end L2
namespace L2
open PySem PySem.Spec PyProof.Rows
section
variable {X : Cx}
end
end L2
namespace L2
open PySem PySem.Spec PyProof.Rows
section
variable {X : Cx} {G : GK} {x y : Str} {np mp pos hpos gpos : Pos} {body su sv : List Stmt} {b₀ c₀ : Stmt} {tb : List (Addr × Obj) → GK → TS} {th ti : List (Addr × Obj) → Addr → TS}
def tTry2 (X : Cx) (x y : Str) (tb : List (Addr × Obj) → GK → TS) (th ti : List (Addr × Obj) → Addr → TS) : TS := fun D σ H => ∃ Dc Ec, X.mg x = some (.ref Dc) ∧ PySem.W.subIn X.K (.ref Dc) (.type "BaseException") = some true ∧ X.mg y = some (.ref Ec) ∧ PySem.W.subIn X.K (.ref Ec) (.type "BaseException") = some true ∧
 ∀ pn, tb pn (fun cls σ' H' => ∃ C, cls = .ref C ∧ ((PySem.W.kitCls X.K (.ref C) (.ref Dc) = some true ∧ ∀ a, H' a = none → th pn a D σ' H') ∨ (PySem.W.kitCls X.K (.ref C) (.ref Dc) = some false ∧ PySem.W.kitCls X.K (.ref C) (.ref Ec) = some true ∧ ∀ a, H' a = none → ti pn a D σ' H'))) D σ H
end
section
variable {X : Cx}
end
end L2
namespace L2
open PySem PySem.Spec PyProof.Rows
section
variable {X : Cx}
def zda (K : PySem.W.Frag) : R2 := fun x y H Q => ∃ p q xs, x = .ref p ∧ y = .ref q ∧ SqL K H p xs ∧ SqL K H q [] ∧ Q (.bl (decide (xs.length = 0))) H
theorem zb9 (hu : X.A.units + 100 < cLine) : OpR X (compareOp .Eq) (zda X.K) := by
 intro pins s σ H x y v u Q I rx ry h
 obtain ⟨p, q, xs, rfl, rfl, h1, h2, k⟩ := h
 by_cases hl : xs.length = 0
 ·have e : xs = [] := List.length_eq_zero_iff.mp hl
  subst e
  exact QF (by omega) pins s σ H _ _ _ _ Q I rx ry ⟨p, q, [], [], rfl, rfl, .inl ⟨h1, h2⟩, rfl, rfl, k⟩
 ·rw [decide_eq_false hl] at k
  cases rx
  cases ry
  obtain ⟨its, r, p, _⟩ := I.list h1
  obtain ⟨its2, r2, p2, _⟩ := I.list h2
  have e1 := r.length
  have e2 := r2.length
  exact SeqAt.RcAt.lists_lengths p.isList p2.isList (by simp only [List.size_toArray]; simp at e2 ⊢; omega) (by omega) _ _ _ _ ⟨.bl false, H, I, rfl, k⟩
end
end L2
namespace L2
section
variable {G : Prop} {A B C D E F H I : Type}
theorem iE2 {k : A → B → Prop} (a : A) (b : B) (p : k a b) : ∃ a b, k a b := ⟨a, b, p⟩
theorem iE3 {k : A → B → C → Prop} (a : A) (b : B) (c : C) (p : k a b c) : ∃ a b c, k a b c := ⟨a, b, c, p⟩
theorem iE4 {k : A → B → C → D → Prop} (a : A) (b : B) (c : C) (d : D) (p : k a b c d) : ∃ a b c d, k a b c d := ⟨a, b, c, d, p⟩
theorem iE5 {k : A → B → C → D → E → Prop} (a : A) (b : B) (c : C) (d : D) (e : E) (p : k a b c d e) : ∃ a b c d e, k a b c d e := ⟨a, b, c, d, e, p⟩
theorem iE6 {k : A → B → C → D → E → F → Prop} (a : A) (b : B) (c : C) (d : D) (e : E) (f : F) (p : k a b c d e f) : ∃ a b c d e f, k a b c d e f := ⟨a, b, c, d, e, f, p⟩
theorem iE7 {k : A → B → C → D → E → F → H → Prop} (a : A) (b : B) (c : C) (d : D) (e : E) (f : F) (g : H) (p : k a b c d e f g) : ∃ a b c d e f g, k a b c d e f g := ⟨a, b, c, d, e, f, g, p⟩
theorem iE8 {k : A → B → C → D → E → F → H → I → Prop} (a : A) (b : B) (c : C) (d : D) (e : E) (f : F) (g : H) (i : I) (p : k a b c d e f g i) : ∃ a b c d e f g i, k a b c d e f g i := ⟨a, b, c, d, e, f, g, i, p⟩
theorem oE1 {k : A → Prop} (h : ∃ a, k a) (w : ∀ a, k a → G) : G := by obtain ⟨a, p⟩ := h; exact w a p
theorem oE2 {k : A → B → Prop} (h : ∃ a b, k a b) (w : ∀ a b, k a b → G) : G := by obtain ⟨a, b, p⟩ := h; exact w a b p
theorem oE3 {k : A → B → C → Prop} (h : ∃ a b c, k a b c) (w : ∀ a b c, k a b c → G) : G := by obtain ⟨a, b, c, p⟩ := h; exact w a b c p
theorem oE4 {k : A → B → C → D → Prop} (h : ∃ a b c d, k a b c d) (w : ∀ a b c d, k a b c d → G) : G := by obtain ⟨a, b, c, d, p⟩ := h; exact w a b c d p
theorem oE5 {k : A → B → C → D → E → Prop} (h : ∃ a b c d e, k a b c d e) (w : ∀ a b c d e, k a b c d e → G) : G := by obtain ⟨a, b, c, d, e, p⟩ := h; exact w a b c d e p
theorem oE6 {k : A → B → C → D → E → F → Prop} (h : ∃ a b c d e f, k a b c d e f) (w : ∀ a b c d e f, k a b c d e f → G) : G := by obtain ⟨a, b, c, d, e, f, p⟩ := h; exact w a b c d e f p
theorem oE7 {k : A → B → C → D → E → F → H → Prop} (h : ∃ a b c d e f g, k a b c d e f g) (w : ∀ a b c d e f g, k a b c d e f g → G) : G := by obtain ⟨a, b, c, d, e, f, g, p⟩ := h; exact w a b c d e f g p
theorem oE8 {k : A → B → C → D → E → F → H → I → Prop} (h : ∃ a b c d e f g i, k a b c d e f g i) (w : ∀ a b c d e f g i, k a b c d e f g i → G) : G := by obtain ⟨a, b, c, d, e, f, g, i, p⟩ := h; exact w a b c d e f g i p
end
section
variable {G A B C D E F H I J : Prop}
theorem iA3 (a : A) (b : B) (c : C) : A ∧ B ∧ C := ⟨a, b, c⟩
theorem iA4 (a : A) (b : B) (c : C) (d : D) : A ∧ B ∧ C ∧ D := ⟨a, b, c, d⟩
theorem iA5 (a : A) (b : B) (c : C) (d : D) (e : E) : A ∧ B ∧ C ∧ D ∧ E := ⟨a, b, c, d, e⟩
theorem iA6 (a : A) (b : B) (c : C) (d : D) (e : E) (f : F) : A ∧ B ∧ C ∧ D ∧ E ∧ F := ⟨a, b, c, d, e, f⟩
theorem iA7 (a : A) (b : B) (c : C) (d : D) (e : E) (f : F) (g : H) : A ∧ B ∧ C ∧ D ∧ E ∧ F ∧ H := ⟨a, b, c, d, e, f, g⟩
theorem iA8 (a : A) (b : B) (c : C) (d : D) (e : E) (f : F) (g : H) (i : I) : A ∧ B ∧ C ∧ D ∧ E ∧ F ∧ H ∧ I := ⟨a, b, c, d, e, f, g, i⟩
theorem iA9 (a : A) (b : B) (c : C) (d : D) (e : E) (f : F) (g : H) (i : I) (j : J) : A ∧ B ∧ C ∧ D ∧ E ∧ F ∧ H ∧ I ∧ J := ⟨a, b, c, d, e, f, g, i, j⟩
theorem oA2 (h : A ∧ B) (k : A → B → G) : G := by obtain ⟨a, b⟩ := h; exact k a b
theorem oA3 (h : A ∧ B ∧ C) (k : A → B → C → G) : G := by obtain ⟨a, b, c⟩ := h; exact k a b c
theorem oA4 (h : A ∧ B ∧ C ∧ D) (k : A → B → C → D → G) : G := by obtain ⟨a, b, c, d⟩ := h; exact k a b c d
theorem oA5 (h : A ∧ B ∧ C ∧ D ∧ E) (k : A → B → C → D → E → G) : G := by obtain ⟨a, b, c, d, e⟩ := h; exact k a b c d e
theorem oA6 (h : A ∧ B ∧ C ∧ D ∧ E ∧ F) (k : A → B → C → D → E → F → G) : G := by obtain ⟨a, b, c, d, e, f⟩ := h; exact k a b c d e f
theorem oA7 (h : A ∧ B ∧ C ∧ D ∧ E ∧ F ∧ H) (k : A → B → C → D → E → F → H → G) : G := by obtain ⟨a, b, c, d, e, f, g⟩ := h; exact k a b c d e f g
theorem oA8 (h : A ∧ B ∧ C ∧ D ∧ E ∧ F ∧ H ∧ I) (k : A → B → C → D → E → F → H → I → G) : G := by obtain ⟨a, b, c, d, e, f, g, i⟩ := h; exact k a b c d e f g i
theorem oA9 (h : A ∧ B ∧ C ∧ D ∧ E ∧ F ∧ H ∧ I ∧ J) (k : A → B → C → D → E → F → H → I → J → G) : G := by obtain ⟨a, b, c, d, e, f, g, i, j⟩ := h; exact k a b c d e f g i j
end
end L2
namespace Mine
theorem za0 {p r : Int} (hp : 0 ≤ p) (hr : 0 < r) : Int.gcd r (p % r) = Int.gcd p r := by
 have e : (p % r).natAbs = p.natAbs % r.natAbs := by
  have h1 : p = (p.natAbs : Int) := by omega
  have h2 : r = (r.natAbs : Int) := by omega
  rw [h1, h2, ← Int.natCast_emod, Int.natAbs_natCast, Int.natAbs_natCast, Int.natAbs_natCast]
 show Nat.gcd r.natAbs (p % r).natAbs = Nat.gcd p.natAbs r.natAbs
 rw [e, Nat.gcd_comm p.natAbs, Nat.gcd_rec r.natAbs p.natAbs, Nat.gcd_comm]
theorem zbD {p : Int} (hp : 0 ≤ p) : (Int.gcd p 0 : Int) = p := by
 rw [Int.gcd_zero_right]; omega
theorem WO {a b : Int} (h : ¬ (a = 0 ∧ b = 0)) : 1 ≤ (Int.gcd a b : Int) := by
 have : 0 < Int.gcd a b := Int.gcd_pos_iff.mpr (by omega)
 omega
end Mine
namespace Mine
structure IsLcm (ns : List Int) (l : Int) : Prop where
 pos : 0 < l
 dv : ∀ n ∈ ns, n ∣ l
 least : ∀ m : Int, (∀ n ∈ ns, n ∣ m) → l ∣ m
theorem IsLcm.nil : IsLcm [] 1 := ⟨by decide, (fun _ h => nomatch h), fun m _ => Int.one_dvd m⟩
theorem zcb {a b : Int} (ha : 0 < a) (hb : 0 < b) : a / (Int.gcd a b : Int) * b = (Nat.lcm a.natAbs b.natAbs : Int) := by
 have g : (Int.gcd a b : Int) ∣ a := Int.gcd_dvd_left ..
 obtain ⟨k, hk⟩ := g
 have gp : 0 < (Int.gcd a b : Int) := by have := WO (a := a) (b := b) (by omega); omega
 have e1 : a / (Int.gcd a b : Int) = k := by
  conv => lhs; rw [hk]
  have hk' := hk
  rw [Int.mul_comm (Int.gcd a b : Int) k]
  have e2 : Int.gcd (k * (Int.gcd a b : Int)) b = Int.gcd a b := by rw [Int.mul_comm, ← hk]
  rw [e2]
  exact Int.mul_ediv_cancel _ (by omega)
 have hkn : 0 < k := by
  rcases (by omega : k ≤ 0 ∨ 0 < k) with h | h
  ·have := Int.mul_nonpos_of_nonneg_of_nonpos (Int.le_of_lt gp) h
   omega
  ·exact h
 have hg : Nat.gcd a.natAbs b.natAbs * Nat.lcm a.natAbs b.natAbs = a.natAbs * b.natAbs := Nat.gcd_mul_lcm ..
 have ea : a.natAbs = Nat.gcd a.natAbs b.natAbs * k.natAbs := by
  have := congrArg Int.natAbs hk
  rw [Int.natAbs_mul, Int.natAbs_natCast] at this
  exact this
 have gp' : 0 < Nat.gcd a.natAbs b.natAbs := by
  have : (Nat.gcd a.natAbs b.natAbs : Int) = (Int.gcd a b : Int) := rfl
  omega
 have e3 : Nat.lcm a.natAbs b.natAbs = k.natAbs * b.natAbs := by
  apply Nat.eq_of_mul_eq_mul_left gp'
  rw [hg, ← Nat.mul_assoc, ← ea]
 rw [e1, e3]
 rw [Int.natCast_mul]
 have h1 : k = (k.natAbs : Int) := by omega
 have h2 : b = (b.natAbs : Int) := by omega
 rw [← h1, ← h2]
theorem ww {a b : Int} (h : a ∣ b) : a.natAbs ∣ b.natAbs := Int.natAbs_dvd_natAbs.mpr h
theorem IsLcm.step {ns : List Int} {l p : Int} (x : IsLcm ns l) (hp : 0 < p) : IsLcm (ns ++ [p]) (l / (Int.gcd l p : Int) * p) := by
 rw [zcb x.pos hp]
 have lp : 0 < l.natAbs := by have := x.pos; omega
 have pp : 0 < p.natAbs := by omega
 refine ⟨?_, fun n hn => ?_, fun m hm => ?_⟩
 ·have := Nat.lcm_pos lp pp
  omega
 ·rcases List.mem_append.mp hn with h | h
  ·have h1 := x.dv n h
   refine Int.dvd_trans h1 ?_
   rw [← Int.natAbs_dvd_natAbs, Int.natAbs_natCast]
   exact Nat.dvd_lcm_left ..
  ·rw [List.mem_singleton.mp h, ← Int.natAbs_dvd_natAbs, Int.natAbs_natCast]
   exact Nat.dvd_lcm_right ..
 ·have h1 := x.least m fun n hn => hm n (List.mem_append_left _ hn)
  have h2 := hm p (List.mem_append_right _ (List.mem_singleton.mpr rfl))
  rw [← Int.natAbs_dvd_natAbs, Int.natAbs_natCast]
  exact Nat.lcm_dvd (ww h1) (ww h2)
theorem Jz {a b : Int} (hb : 0 < b) : (Int.gcd a b : Int) ≤ b := Int.le_of_dvd hb (Int.gcd_dvd_right ..)
end Mine
namespace L2
open PySem PySem.Spec PyProof.Rows
section
variable {X : Cx} {K : PySem.W.Frag} {σ : St} {H : Hp} {Q : VK} {D : Ends}
theorem rd_I {C : Int → Int → Prop} {g : Int → Int → V} {i j : Int} : rI C g (.int i) (.int j) H Q ↔ C i j ∧ Q (g i j) H :=
 ⟨fun ⟨_, _, e1, e2, h⟩ => by cases e1; cases e2; exact h, fun h => ⟨i, j, rfl, rfl, h⟩⟩
theorem rd_I0 {g : Int → Int → V} {i j : Int} : rI0 g (.int i) (.int j) H Q ↔ Q (g i j) H :=
 ⟨fun ⟨_, _, e1, e2, h⟩ => by cases e1; cases e2; exact h, fun h => ⟨i, j, rfl, rfl, h⟩⟩
theorem rd_ipI {f : Int → Int → Int} {i j : Int} : ipI f (.int i) (.int j) H Q ↔ Q (.int (f i j)) H := ⟨fun ⟨_, _, e1, e2, h⟩ => by cases e1; cases e2; exact h, fun h => ⟨i, j, rfl, rfl, h⟩⟩
theorem rd_U {g : Int → V} {i : Int} : rU g (.int i) H Q ↔ Q (g i) H := ⟨fun ⟨_, e, h⟩ => by cases e; exact h, fun h => ⟨i, rfl, h⟩⟩
theorem rd_addI {i j : Int} : WH K (.int i) (.int j) H Q ↔ Q (.int (i + j)) H := by
 constructor
 ·rintro (h | ⟨_, _, e, _⟩ | ⟨_, _, _, _, e, _⟩)
  ·exact rd_I0.mp h
  ·cases e
  ·cases e
 ·intro h; exact .inl (rd_I0.mpr h)
theorem rd_addS {i j : Str} : WH K (.str i) (.str j) H Q ↔ i.length + j.length ≤ sizeLine ∧ Q (.str (i ++ j)) H := by
 constructor
 ·rintro (⟨_, _, e, _⟩ | ⟨_, _, e1, e2, h⟩ | ⟨_, _, _, _, e, _⟩)
  ·cases e
  ·cases e1; cases e2; exact h
  ·cases e
 ·intro h; exact .inr (.inl ⟨i, j, rfl, rfl, h⟩)
theorem rd_var {i : Nat} : zcE i σ H Q ↔ ∃ v, σ[i]? = some (some v) ∧ Q v H := Iff.rfl
def vq : Option (Option V) → (V → Prop) → Prop
 | some (some v), P => P v
 | _, _ => False
def tVq (i : Nat) : TE := fun σ H Q => vq σ[i]? fun v => Q v H
theorem rd_vq {v : V} {P : V → Prop} : vq (some (some v)) P = P v := rfl
theorem zcB : ∀ {o : Option (Option V)} {P : V → Prop}, vq o P → ∃ v, o = some (some v) ∧ P v
 | some (some v), _, h => ⟨v, rfl, h⟩
 | some none, _, h => h.elim
 | none, _, h => h.elim
theorem pq {X : Cx} (i : Nat) {x : Str} {pos : Pos} (hN : X.N[i]? = some x := by rfl) (hv : Vis X.env.scope x := by first | exact Or.inl rfl | exact Or.inr (Or.inl rfl) | exact Or.inr (Or.inr rfl)) (hd : (x == ("__debug__" : Str)) = false := by decide)
  (hcd : (x == ("__classdict__" : Str)) = false := by decide) : PE X (.Name x pos) (tVq i) := fun pins s σ H Q I h => zb2 hN hv hd hcd pins s σ H Q I (zcB h)
theorem rd_varS {v : V} {P : V → Prop} : (∃ u, some (some v) = some (some u) ∧ P u) ↔ P v := ⟨fun ⟨_, e, h⟩ => by cases e; exact h, fun h => ⟨v, rfl, h⟩⟩
theorem rd_test {b : Bool} {P : Bool → Prop} : (∃ k, V.bl b = V.bl k ∧ P k) ↔ P b := ⟨fun ⟨_, e, h⟩ => by cases e; exact h, fun h => ⟨b, rfl, h⟩⟩
theorem rd_truB {b : Bool} {P : Bool → Prop} : (∃ k, zcw K (.bl b) H k ∧ P k) ↔ P b := ⟨fun ⟨_, e, h⟩ => by cases (show _ = b from e); exact h, fun h => ⟨b, rfl, h⟩⟩
theorem rd_eqI {i j : Int} : J2 K (.int i) (.int j) H Q ↔ Q (.bl (decide (i = j))) H := by
 have e : decide (V.int i = V.int j) = decide (i = j) := by simp
 unfold J2 rEq
 rw [e]
 exact ⟨fun h => h.elim (fun h => h.2) (fun h => h.elim (fun ⟨_, _, _, _, z, _⟩ => nomatch z) (fun ⟨_, _, _, _, _, _, z, _⟩ => nomatch z)), fun h => .inl ⟨rfl, h⟩⟩
theorem rd_neI {i j : Int} : Vt K (.int i) (.int j) H Q ↔ Q (.bl (!decide (i = j))) H := by
 have e : decide (V.int i = V.int j) = decide (i = j) := by simp
 unfold Vt rNe
 rw [e]
 exact ⟨fun h => h.elim (fun h => h.2) (fun h => h.elim (fun ⟨_, _, _, _, z, _⟩ => nomatch z) (fun ⟨_, _, _, _, _, _, z, _⟩ => nomatch z)), fun h => .inl ⟨rfl, h⟩⟩
theorem rd_eqS {i j : Str} : J2 K (.str i) (.str j) H Q ↔ Q (.bl (decide (i = j))) H := by
 have e : decide (V.str i = V.str j) = decide (i = j) := by simp
 unfold J2 rEq
 rw [e]
 exact ⟨fun h => h.elim (fun h => h.2) (fun h => h.elim (fun ⟨_, _, _, _, z, _⟩ => nomatch z) (fun ⟨_, _, _, _, _, _, z, _⟩ => nomatch z)), fun h => .inl ⟨rfl, h⟩⟩
theorem rd_eqB {i j : Bool} : J2 K (.bl i) (.bl j) H Q ↔ Q (.bl (decide (i = j))) H := by
 have e : decide (V.bl i = V.bl j) = decide (i = j) := by simp
 unfold J2 rEq
 rw [e]
 exact ⟨fun h => h.elim (fun h => h.2) (fun h => h.elim (fun ⟨_, _, _, _, z, _⟩ => nomatch z) (fun ⟨_, _, _, _, _, _, z, _⟩ => nomatch z)), fun h => .inl ⟨rfl, h⟩⟩
theorem rd_fvI {i : Int} {P : Str → Prop} {R : Str → Prop} : ((∃ j, V.int i = V.int j ∧ j.natAbs.log2 < 1920 ∧ P (toString j)) ∨ (∃ y, V.int i = V.str y ∧ y.length ≤ sizeLine ∧ R y)) ↔ i.natAbs.log2 < 1920 ∧ P (toString i) :=
 ⟨fun h => h.elim (fun ⟨_, e, h⟩ => by cases e; exact h) (fun ⟨_, e, _⟩ => nomatch e), fun h => .inl ⟨i, rfl, h⟩⟩
theorem rd_strS {y : Str} {P : Str → Prop} : (∃ z, V.str y = V.str z ∧ P z) ↔ P y := ⟨fun ⟨_, e, h⟩ => by cases e; exact h, fun h => ⟨y, rfl, h⟩⟩
theorem rd_c0 : ((0 : Nat) : Int) = 0 := rfl
theorem rd_c1 : ((1 : Nat) : Int) = 1 := rfl
theorem rd_c2 : ((2 : Nat) : Int) = 2 := rfl
theorem rd_c3 : ((3 : Nat) : Int) = 3 := rfl
theorem rd_c4 : ((4 : Nat) : Int) = 4 := rfl
theorem rd_c5 : ((5 : Nat) : Int) = 5 := rfl
theorem rd_c6 : ((6 : Nat) : Int) = 6 := rfl
theorem rd_sz0 : (0 ≤ sizeLine) = True := eq_true (by decide)
theorem rd_sz1 : (1 ≤ sizeLine) = True := eq_true (by decide)
theorem rd_sz2 : (2 ≤ sizeLine) = True := eq_true (by decide)
theorem rd_sz3 : (3 ≤ sizeLine) = True := eq_true (by decide)
theorem rd_sz4 : (4 ≤ sizeLine) = True := eq_true (by decide)
theorem rd_sz5 : (5 ≤ sizeLine) = True := eq_true (by decide)
theorem rd_sz6 : (6 ≤ sizeLine) = True := eq_true (by decide)
theorem rd_sz7 : (7 ≤ sizeLine) = True := eq_true (by decide)
theorem xz {p : Addr} {xs : List V} {k : Int} {j : Nat} {v : V} {R : Hp → Prop} (h : H p = some (.lst xs)) (e : ixN xs.length k = some j) (q : R (upd H p (.lst (xs.set j v)))) : zbL (.ref p) (.int k) v H R := ⟨p, xs, k, j, rfl, rfl, h, e, q⟩
theorem wL {n : Nat} {k : Int} (h0 : 0 ≤ k) (h1 : k < n) : ixN n k = some k.toNat := by unfold ixN; rw [if_pos h0, if_pos h1]
theorem rd_sz8 : (8 ≤ sizeLine) = True := eq_true (by decide)
theorem rd_sz9 : (9 ≤ sizeLine) = True := eq_true (by decide)
theorem cx_K {CX : CXT} {P : Program} {w : World} {K : PySem.W.Frag} {mg : Str → Option Value} {base : Heap} {N : List Str} {qual : Str} {scope : Scope} {f : Addr} {cd : Value} {A : Around} {outer : List Env} {s : Shared} {H : Hp} {E : XK} : (Zo CX P w K mg base N qual scope f cd A outer s H E).K = K := rfl
theorem cx_mg {CX : CXT} {P : Program} {w : World} {K : PySem.W.Frag} {mg : Str → Option Value} {base : Heap} {N : List Str} {qual : Str} {scope : Scope} {f : Addr} {cd : Value} {A : Around} {outer : List Env} {s : Shared} {H : Hp} {E : XK} : (Zo CX P w K mg base N qual scope f cd A outer s H E).mg = mg := rfl
theorem cx_prog {CX : CXT} {P : Program} {w : World} {K : PySem.W.Frag} {mg : Str → Option Value} {base : Heap} {N : List Str} {qual : Str} {scope : Scope} {f : Addr} {cd : Value} {A : Around} {outer : List Env} {s : Shared} {H : Hp} {E : XK} : (Zo CX P w K mg base N qual scope f cd A outer s H E).prog = P := rfl
theorem cx_w {CX : CXT} {P : Program} {w : World} {K : PySem.W.Frag} {mg : Str → Option Value} {base : Heap} {N : List Str} {qual : Str} {scope : Scope} {f : Addr} {cd : Value} {A : Around} {outer : List Env} {s : Shared} {H : Hp} {E : XK} : (Zo CX P w K mg base N qual scope f cd A outer s H E).w = w := rfl
theorem cx_base {CX : CXT} {P : Program} {w : World} {K : PySem.W.Frag} {mg : Str → Option Value} {base : Heap} {N : List Str} {qual : Str} {scope : Scope} {f : Addr} {cd : Value} {A : Around} {outer : List Env} {s : Shared} {H : Hp} {E : XK} : (Zo CX P w K mg base N qual scope f cd A outer s H E).base = base := rfl
theorem rd_cpow {n : Int} : zc3 10 n ↔ 0 ≤ n ∧ n ≤ 1000000 := ⟨fun h => ⟨h.1, h.2.1⟩, fun h => ⟨h.1, h.2, by decide⟩⟩
theorem Vs {x y m n : Int} (hx : 0 ≤ x) (hy : 0 ≤ y) (h1 : x < m) (h2 : y < n) : 0 ≤ x * y ∧ x * y < m * n := by
 refine ⟨Int.mul_nonneg hx hy, Int.lt_of_le_of_lt (Int.mul_le_mul_of_nonneg_right (Int.le_of_lt h1) hy) (Int.mul_lt_mul_of_pos_left h2 (by omega))⟩
theorem rd_isiI {i : Int} : Vu K [.int i, .ty "int"] H Q ↔ Q (.bl true) H := by
 refine ⟨fun h => ?_, fun q => ⟨_, _, _, _, rfl, .old (.int i), .inl ⟨_, rfl, Za⟩, q⟩⟩
 obtain ⟨x, c, t, b, e, ty, k, q⟩ := h
 cases e
 rcases k with ⟨u, hu, k⟩ | ⟨_, _, _, e, _⟩
 ·cases hu; cases ty with | old ty => cases ty; rw [Za] at k; cases k; exact q
 ·cases e
theorem rd_isiIB {i : Int} : Vu K [.int i, .ty "bool"] H Q ↔ Q (.bl false) H := by
 refine ⟨fun h => ?_, fun q => ⟨_, _, _, _, rfl, .old (.int i), .inl ⟨_, rfl, ve⟩, q⟩⟩
 obtain ⟨x, c, t, b, e, ty, k, q⟩ := h
 cases e
 rcases k with ⟨u, hu, k⟩ | ⟨_, _, _, e, _⟩
 ·cases hu; cases ty with | old ty => cases ty; rw [ve] at k; cases k; exact q
 ·cases e
theorem rd_isiB {i : Bool} : Vu K [.bl i, .ty "bool"] H Q ↔ Q (.bl true) H := by
 refine ⟨fun h => ?_, fun q => ⟨_, _, _, _, rfl, .old (.bl i), .inl ⟨_, rfl, wy⟩, q⟩⟩
 obtain ⟨x, c, t, b, e, ty, k, q⟩ := h
 cases e
 rcases k with ⟨u, hu, k⟩ | ⟨_, _, _, e, _⟩
 ·cases hu; cases ty with | old ty => cases ty; rw [wy] at k; cases k; exact q
 ·cases e
theorem rd_isiS {i : Str} : Vu K [.str i, .ty "str"] H Q ↔ Q (.bl true) H := by
 refine ⟨fun h => ?_, fun q => ⟨_, _, _, _, rfl, .old (.str i), .inl ⟨_, rfl, vZ⟩, q⟩⟩
 obtain ⟨x, c, t, b, e, ty, k, q⟩ := h
 cases e
 rcases k with ⟨u, hu, k⟩ | ⟨_, _, _, e, _⟩
 ·cases hu; cases ty with | old ty => cases ty; rw [vZ] at k; cases k; exact q
 ·cases e
theorem WN {a : Addr} {xs : List V} (h : H a = some (.tup xs)) (q : Q (.bl true) H) : Vu K [.ref a, .ty "tuple"] H Q := ⟨_, _, _, _, rfl, .old (.tup h), .inl ⟨_, rfl, Xn⟩, q⟩
theorem Jh {a b : Addr} {xs ys : List V} (h1 : SqL K H a xs) (h2 : SqL K H b ys) (hl : xs.length + ys.length ≤ sizeLine) (q : ∀ p, H p = none → Q (.ref p) (upd H p (.lst (xs ++ ys)))) : WH K (.ref a) (.ref b) H Q :=
 .inr (.inr ⟨a, b, xs, ys, rfl, rfl, h1, h2, hl, q⟩)
theorem Q6 {n : Nat} (h : n ≤ 1000) : n ≤ sizeLine := Nat.le_of_lt (zh h)
theorem qg {a : Addr} {xs : List V} {DN : St → Hp → Prop} {B : (St → Hp → Prop) → V → St → Hp → Prop} (Pv : Nat → St → Hp → Prop) (h0 : Pv 0 σ H) (hl : ∀ i σ H, i ≤ xs.length → Pv i σ H → SqL K H a xs)
  (hs : ∀ i x σ H, xs[i]? = some x → Pv i σ H → B (Pv (i + 1)) x σ H) (hd : ∀ σ H, Pv xs.length σ H → DN σ H) :
  ∃ W : Nat → Nat → St → Hp → Prop, (∃ m, W 0 m σ H) ∧ ∀ i m σ H, W i m σ H →
   ((Itl K a).stop i H ∧ DN σ H) ∨ ((Itl K a).go i H ∧ ∃ N : St → Hp → Prop, (∀ σ' H', N σ' H' → ∃ m', m' < m ∧ W (i + 1) m' σ' H') ∧ ∀ x H', (Itl K a).yld i H x H' → B N x σ H') := by
 refine ⟨fun i m σ H => m = xs.length - i ∧ i ≤ xs.length ∧ Pv i σ H, ⟨xs.length, by simp, Nat.zero_le _, h0⟩, ?_⟩
 rintro i m σ H ⟨rfl, hi, p⟩
 have q := hl i σ H hi p
 by_cases hlt : i < xs.length
 ·refine .inr ⟨⟨xs, xs[i], q, by simp [hlt]⟩, Pv (i + 1), fun σ' H' p' => ⟨xs.length - (i + 1), by omega, rfl, hlt, p'⟩, fun x H' y => ?_⟩
  obtain ⟨e, y⟩ := y
  subst e
  exact hs i x σ _ (y xs q) p
 ·have e : i = xs.length := by omega
  subst e
  exact .inl ⟨⟨xs, q, Nat.le_refl _⟩, hd σ H p⟩
theorem Z5 {lo : Int} {n : Nat} {DN : St → Hp → Prop} {B : (St → Hp → Prop) → V → St → Hp → Prop} (Pv : Nat → St → Hp → Prop) (h0 : Pv 0 σ H)
  (hs : ∀ i σ H, i < n → Pv i σ H → B (Pv (i + 1)) (.int (lo + i)) σ H) (hd : ∀ σ H, Pv n σ H → DN σ H) :
  ∃ W : Nat → Nat → St → Hp → Prop, (∃ m, W 0 m σ H) ∧ ∀ i m σ H, W i m σ H →
   ((Itr lo n).stop i H ∧ DN σ H) ∨ ((Itr lo n).go i H ∧ ∃ N : St → Hp → Prop, (∀ σ' H', N σ' H' → ∃ m', m' < m ∧ W (i + 1) m' σ' H') ∧ ∀ x H', (Itr lo n).yld i H x H' → B N x σ H') := by
 refine ⟨fun i m σ H => m = n - i ∧ i ≤ n ∧ Pv i σ H, ⟨n, by simp, Nat.zero_le _, h0⟩, ?_⟩
 rintro i m σ H ⟨rfl, hi, p⟩
 by_cases hlt : i < n
 ·refine .inr ⟨hlt, Pv (i + 1), fun σ' H' p' => ⟨n - (i + 1), by omega, rfl, hlt, p'⟩, fun x H' y => ?_⟩
  obtain ⟨e, y⟩ := y
  subst e y
  exact hs i σ _ hlt p
 ·have e : i = n := by omega
  subst e
  exact .inl ⟨Nat.le_refl _, hd σ H p⟩
theorem rd_l1 {i : Int} {P : Int → Prop} : (∃ j, [V.int i] = [V.int j] ∧ P j) ↔ P i := ⟨fun ⟨_, e, h⟩ => by cases e; exact h, fun h => ⟨i, rfl, h⟩⟩
theorem rd_part {i : Int} {P : Int → Prop} : (∃ j, V.int i = V.int j ∧ P j) ↔ P i := ⟨fun ⟨_, e, h⟩ => by cases e; exact h, fun h => ⟨i, rfl, h⟩⟩
theorem vE {a : Addr} {xs : List V} {lo hi : Option Int} (h : SqL K H a xs) (q : ∀ p, H p = none → Q (.ref p) (upd H p (.lst (vj xs lo hi)))) : zbY K (.ref a) lo hi H Q := ⟨a, xs, rfl, h, q⟩
theorem rd_len {v : V} {P : V → Nat → Prop} : (∃ x n, [v] = [x] ∧ P x n) ↔ ∃ n, P v n := ⟨fun ⟨_, n, e, h⟩ => by cases e; exact ⟨n, h⟩, fun ⟨n, h⟩ => ⟨v, n, rfl, h⟩⟩
theorem upd_keep {a b : Addr} {o u : HO} (h : H b = some u) (ha : H a = none) : upd H a o b = some u := by rw [upd_ne (ne_of_none h ha)]; exact h
theorem zd {a : Addr} {o : HO} (ha : H a = none) : Same H (upd H a o) := fun _ _ h => upd_keep h ha
theorem rd_ixT {a : Addr} {xs : List V} {i : Int} {v : V} (h : H a = some (.tup xs)) (e : atI xs i = some v) (q : Q v H) : rIx K (.ref a) (.int i) H Q := .inr (.inl ⟨a, xs, i, v, rfl, rfl, SqT.of h, e, q⟩)
theorem zz {a : Addr} {xs : List V} {i : Int} {v : V} (h : SqL K H a xs) (e : atI xs i = some v) (q : Q v H) : rIx K (.ref a) (.int i) H Q := .inl ⟨a, xs, i, v, rfl, rfl, h, e, q⟩
theorem zc9 {N0 : St → Hp → Prop} {B : (St → Hp → Prop) → Prop} (h : B N0) : ∃ N : St → Hp → Prop, (∀ σ' H', N σ' H' → N0 σ' H') ∧ B N := ⟨N0, fun _ _ h => h, h⟩
end
end L2
set_option hygiene false
local macro_rules | `(tactic| walk_at "rd") => `(tactic| (simp only [L2.start, List.map_cons, List.map_nil, List.length_cons, List.length_nil, List.cons_append, List.nil_append, L2.tSeq, L2.tAsg, L2.gName, L2.tC, L2.tOp, L2.tUn, L2.tTest, L2.tIfS, L2.tRet, L2.tRetN, L2.tNext, L2.tDrop, L2.tNot, L2.tAnd, L2.tOr, L2.tAndV, L2.tOrV, L2.tNotV, L2.tCons, L2.tNil, L2.tTup, L2.tLst, L2.tBi, L2.tBl,
 L2.tVq, L2.rd_vq, L2.rd_var, L2.rd_varS, L2.rd_I, L2.rd_I0, L2.rd_U, L2.tAug, L2.rd_ipI, L2.rd_addI, L2.rd_addS, L2.rd_test, L2.rd_truB, L2.rd_eqI, L2.rd_neI, L2.rd_eqS, L2.rd_eqB, L2.tFv, L2.tJ0, L2.tJ1, L2.rd_fvI, L2.rd_strS, L2.rd_sz0, L2.rd_sz1, L2.rd_sz2, L2.rd_sz3, L2.rd_sz4, L2.rd_sz5, L2.rd_sz6, L2.rd_sz7, L2.gSub, L2.tCont, L2.tBreak, L2.rd_sz8, L2.rd_sz9, L2.cx_K, L2.cx_mg, L2.cx_prog, L2.cx_w, L2.cx_base, L2.gTup, L2.gCons, L2.gNil, L2.tCl, L2.tGl, L2.tChain, L2.tRaise, L2.tTryAs, L2.tTry2, L2.tNever, L2.sFld, L2.tFld, L2.tMk, L2.tMth, L2.tBM, L2.tBM0, L2.tSl, L2.tNoPart, L2.tPart, L2.rd_part, L2.tSumK, L2.rd_l1, L2.rd_len, L2.tClN, L2.tMkN, L2.tMthN, L2.tBase, L2.tYes, L2.tRg1, L2.tRg2, L2.tIf, L2.cxC_K, L2.cxC_mg, L2.cxC_prog, L2.cxC_w, L2.cxC_base, eq_self, reduceCtorEq, decide_false, Option.getD_some, Option.getD_none,
 List.getElem?_cons_zero, List.getElem?_cons_succ, List.set_cons_zero, List.set_cons_succ, List.replicate, Nat.reduceSub, Nat.reduceAdd, true_and, and_true, List.append_nil, L2.rd_cpow, Int.reduceToNat, Int.reducePow, Int.reduceLT, Int.reduceLE, Int.reduceNeg, L2.fdiv_pos, L2.rd_isiI, L2.rd_isiIB, L2.rd_isiB, L2.rd_isiS, Bool.not_true, Bool.not_false, Bool.false_eq_true, reduceIte, decide_true, decide_eq_true_eq, Bool.true_eq_false, Bool.not_eq_true', decide_eq_false_iff_not, L2.rd_c0, L2.rd_c1, L2.rd_c2, L2.rd_c3, L2.rd_c4, L2.rd_c5, L2.rd_c6, Int.reduceEq, not_true_eq_false, not_false_eq_true, Int.reduceMul, Int.reduceAdd, Int.reduceSub]))
local macro_rules | `(tactic| walk_at "r") => `(tactic| try walk_at "rd")
local macro_rules | `(tactic| walk_at "ixT") => `(tactic| (refine L2.rd_ixT (by assumption) rfl ?_; try walk_at "rd"))
local macro_rules | `(tactic| walk_at "sd") => `(tactic| first | assumption | exact L2.mul_okR (by decide) (by decide) | exact L2.mul_okL (by decide) (by decide) | exact L2.mul_okR (by omega) (by omega) | exact L2.mul_okL (by omega) (by omega) | exact L2.fd_ok (by decide) (by decide +kernel) | decide | omega | exact L2.fd_small (by omega) (by omega))
local macro_rules | `(tactic| walk_at "sds") => `(tactic| repeat (refine And.intro (by walk_at "sd") ?_))
local macro_rules | `(tactic| walk_at "for") => `(tactic| (walk_at "go"; (try simp only [L2.tFor, L2.iSeq, L2.iRng1, L2.iRng2, L2.iRng3, L2.iStr, L2.iEnum, L2.iZip, L2.iZip3, L2.iRev]); try walk_at "rd"))
local macro_rules | `(tactic| walk_at "lc") => `(tactic| (walk_at "go"; (try simp only [L2.tLc, L2.iSeq, L2.stC, L2.iRng1, L2.iRng2, L2.iRng3, L2.iStr, L2.iEnum, L2.iZip, L2.iZip3, L2.iRev]); try walk_at "rd"))
local macro_rules | `(tactic| walk_at "go") => `(tactic| repeat (first | walk_at "rd" | refine And.intro (by assumption) ?_ | refine L2.nxt fun Nq_ hNq_ => ?_ | refine L2.useN (by assumption) ?_))
local macro_rules | `(tactic| walk_at "ne") => `(tactic| first | assumption | exact Ne.symm (by assumption) | exact L2.ne_of_none (by assumption) (by assumption) | exact Ne.symm (L2.ne_of_none (by assumption) (by assumption)))
local macro_rules | `(tactic| walk_at "hp") => `(tactic| first | assumption | exact L2.upd_same | (refine L2.upd_keep ?_ (by assumption); walk_at "hp") | (rw [L2.upd_ne (by walk_at "ne")]; walk_at "hp"))
set_option hygiene false
local macro_rules | `(tactic| walk_at "i") => `(tactic| (intro vs H Q E h; repeat (first | (obtain ⟨rfl, _⟩ := h; rfl) | obtain ⟨_, h⟩ := h)))
local macro_rules | `(tactic| walk_at "j") => `(tactic| intro cdv A outer s H vs Q EX hr h)
local macro_rules | `(tactic| walk_at "k") => `(tactic| intro cdv A outer s H vs Q E hr h)
seal L2.PE L2.PT L2.PA L2.PS L2.PSs L2.PC L2.PG L2.PGs L2.PI L2.PO L2.PK
namespace K25
open PySem L2 Mine
def top (i : Nat) : Stmt := PySem.Challenge.pw_beltshares_k25_alike_states.main.body.getD i (.Pass ⟨0, 0, 0, 0⟩)
local macro_rules | `(tactic| walk_at "sc") => `(tactic| exact ⟨rfl, rfl, rfl, by decide +kernel, rfl, by decide +kernel, by decide +kernel⟩)
abbrev WG : Stmt := top 0
abbrev qN : Stmt := zJ (top 2) 0
theorem Qk : FnScope ["self", "turn", "cells", "sides", "gone"] ["self", "turn", "cells", "sides", "gone"] (zf qN) := by walk_at "sc"
abbrev wa : Stmt := top 3
theorem XS : FnScope ["work", "ware", "kinds"] ["work", "ware"] (zf wa) := by walk_at "sc"
abbrev jR : Stmt := top 5
theorem JU : FnScope ["work", "cells"] ["work", "cells"] (zf jR) := by walk_at "sc"
abbrev jH : Stmt := top 6
theorem Qf : FnScope ["work", "state", "number"] ["work", "state", "number"] (zf jH) := by walk_at "sc"
abbrev jn : Stmt := top 7
theorem JT : FnScope ["work", "state", "beat_place", "kinds", "places"] ["work", "state"] (zf jn) := by walk_at "sc"
abbrev Zp : Stmt := top 8
theorem zan : FnScope ["work", "one", "other"] ["work", "one", "other"] (zf Zp) := by walk_at "sc"
abbrev jZ : Stmt := zJ (top 17) 0
theorem Jc : FnScope ["self", "room", "pace"] ["self", "room", "pace"] (zf jZ) := by walk_at "sc"
abbrev jK : Stmt := top 22
theorem Qi : FnScope ["pace", "least"] ["pace", "least"] (zf jK) := by walk_at "sc"
abbrev jL : Stmt := top 23
theorem Qj : FnScope ["kind"] ["kind"] (zf jL) := by walk_at "sc"
abbrev jI : Stmt := top 24
theorem Qg : FnScope ["belts"] ["belts"] (zf jI) := by walk_at "sc"
abbrev qk : Stmt := zJ (top 25) 0
theorem Jb : FnScope ["self", "ins", "outs"] ["self", "ins", "outs"] (zf qk) := by walk_at "sc"
abbrev wv : Stmt := zJ (top 25) 1
abbrev wu : Stmt := zJ (top 25) 2
abbrev js : Stmt := zJ (top 26) 0
theorem ZE : FnScope ["self", "out", "pace", "kinds", "kind"] ["self", "out", "pace", "kinds"] (zf js) := by walk_at "sc"
abbrev xH : Stmt := zJ (top 26) 1
abbrev qT : Stmt := zJ (top 26) 2
theorem vA : FnScope ["self"] ["self"] (zf qT) := by walk_at "sc"
abbrev jN : Stmt := zJ (top 27) 0
theorem Qm : FnScope ["self", "into", "pace"] ["self", "into", "pace"] (zf jN) := by walk_at "sc"
abbrev xR : Stmt := zJ (top 27) 1
abbrev je : Stmt := zJ (top 27) 2
theorem Zf : FnScope ["self"] ["self"] (zf je) := by walk_at "sc"
abbrev jt : Stmt := zJ (top 28) 0
theorem ZF : FnScope ["self", "into", "outs"] ["self", "into", "outs"] (zf jt) := by walk_at "sc"
abbrev xI : Stmt := zJ (top 28) 1
abbrev qU : Stmt := zJ (top 28) 2
theorem vB : FnScope ["self"] ["self"] (zf qU) := by walk_at "sc"
abbrev qz : Stmt := zJ (top 29) 0
theorem wo : FnScope ["self", "into", "outs"] ["self", "into", "outs"] (zf qz) := by walk_at "sc"
abbrev jy : Stmt := zJ (top 29) 1
abbrev ql : Stmt := zJ (top 29) 2
theorem xL : FnScope ["self"] ["self"] (zf ql) := by walk_at "sc"
abbrev jM : Stmt := zJ (top 30) 0
theorem Ql : FnScope ["self", "into", "outs", "kind"] ["self", "into", "outs", "kind"] (zf jM) := by walk_at "sc"
abbrev xQ : Stmt := zJ (top 30) 1
abbrev jY : Stmt := zJ (top 30) 2
abbrev jd : Stmt := zJ (top 30) 3
theorem Zd : FnScope ["self"] ["self"] (zf jd) := by walk_at "sc"
abbrev ju : Stmt := zJ (top 31) 0
theorem ZG : FnScope ["self", "ins", "out"] ["self", "ins", "out"] (zf ju) := by walk_at "sc"
abbrev xJ : Stmt := zJ (top 31) 1
abbrev qV : Stmt := zJ (top 31) 2
theorem vC : FnScope ["self"] ["self"] (zf qV) := by walk_at "sc"
abbrev wS : Stmt := top 33
theorem Vi : FnScope ["one", "other", "part", "rest", "left"] ["one", "other"] (zf wS) := by walk_at "sc"
abbrev x9 : Stmt := top 34
theorem XR : FnScope ["paces", "number", "pace"] ["paces"] (zf x9) := by walk_at "sc"
abbrev jJ : Stmt := top 38
theorem Qh : FnScope ["belts", "knots"] ["belts", "knots"] (zf jJ) := by walk_at "sc"
abbrev qF : Stmt := top 39
theorem wE : FnScope ["named", "size"] ["named", "size"] (zf qF) := by walk_at "sc"
abbrev ja : Stmt := zJ (top 40) 0
theorem Q8 : FnScope ["self", "belts", "knots", "fed", "taken", "knot"] ["self", "belts", "knots"] (zf ja) := by walk_at "sc"
abbrev wq : Stmt := zJ (top 40) 1
abbrev wT : Stmt := zJ (top 40) 2
abbrev qP : Stmt := zJ (top 40) 3
theorem ZD : FnScope ["self"] ["self"] (zf qP) := by walk_at "sc"
abbrev qI : Stmt := zJ (top 40) 4
theorem Zc : FnScope ["self"] ["self"] (zf qI) := by walk_at "sc"
abbrev jw : Stmt := zJ (top 40) 5
theorem Q9 : FnScope ["self", "paces", "number", "pace"] ["self"] (zf jw) := by walk_at "sc"
abbrev Jd : Stmt := top 42
theorem zbj : FnScope ["_law_script", "_law_k"] ["_law_script", "_law_k"] (zf Jd) := by walk_at "sc"
abbrev xu : Stmt := top 43
theorem JV : FnScope ["_law_cell", "_law_factor"] ["_law_cell", "_law_factor"] (zf xu) := by walk_at "sc"
abbrev wZ : Stmt := top 45
theorem Vp : FnScope ["_law_belts", "_law_number", "_law_span", "_law_room"] ["_law_belts", "_law_number", "_law_span"] (zf wZ) := by walk_at "sc"
abbrev jS : Stmt := top 46
theorem JX : FnScope ["_law_out", "_law_cell", "_law_number", "_law_span", "_law_many", "_law_kinds_here"] ["_law_out", "_law_cell", "_law_number", "_law_span"] (zf jS) := by walk_at "sc"
abbrev wc : Stmt := top 47
theorem XV : FnScope ["_law_into", "_law_number", "_law_span"] ["_law_into", "_law_number", "_law_span"] (zf wc) := by walk_at "sc"
abbrev wV : Stmt := top 48
theorem Vl : FnScope ["_law_knots", "_law_cell", "_law_number", "_law_known", "_law_knot"] ["_law_knots", "_law_cell", "_law_number"] (zf wV) := by walk_at "sc"
abbrev xw : Stmt := top 49
theorem JZ : FnScope ["_law_belts", "_law_ends", "_law_loops", "_law_into", "_law_cell", "_law_span", "_law_number", "_law_ins", "_law_k"] ["_law_belts", "_law_ends", "_law_loops", "_law_into", "_law_cell", "_law_span"] (zf xw) := by walk_at "sc"
abbrev xv : Stmt := top 50
theorem JY : FnScope ["_law_into", "_law_outs", "_law_kind_here", "_law_what"] ["_law_into", "_law_outs", "_law_kind_here", "_law_what"] (zf xv) := by walk_at "sc"
abbrev wW : Stmt := top 51
theorem Vm : FnScope ["_law_belts", "_law_knots", "_law_ends", "_law_loops", "_law_cell", "_law_span", "_law_number", "_law_what", "_law_into", "_law_outs", "_law_many", "_law_k", "_law_factor"] ["_law_belts", "_law_knots", "_law_ends", "_law_loops", "_law_cell", "_law_span"] (zf wW) := by walk_at "sc"
abbrev we : Stmt := top 52
theorem XW : FnScope ["_law_belts", "_law_knots", "_law_ends", "_law_loops", "_law_cell", "_law_span", "_law_k", "_law_loop", "_law_number", "_law_into", "_law_outs", "_law_end"] ["_law_belts", "_law_knots", "_law_ends", "_law_loops", "_law_cell", "_law_span"] (zf we) := by walk_at "sc"
abbrev wU : Stmt := top 53
theorem Vj : FnScope ["_law_script", "_law_first", "_law_number", "_law_span", "_law_many", "_law_belts", "_law_knots", "_law_ends", "_law_loops", "_law_cell", "_law_cut"] ["_law_script"] (zf wU) := by walk_at "sc"
abbrev xh : Stmt := top 54
theorem Vq : FnScope ["_law_work_here", "_law_paces", "_law_knot", "_law_beat_here"] ["_law_work_here"] (zf xh) := by walk_at "sc"
abbrev wb : Stmt := top 55
theorem XU : FnScope ["_law_work_here", "_law_cells_here", "_law_row", "_law_ware", "_law_kinds_here"] ["_law_work_here", "_law_cells_here"] (zf wb) := by walk_at "sc"
abbrev xb : Stmt := top 56
theorem XT : FnScope ["_law_work_here", "_law_state", "_law_beat_here", "_law_counts", "_law_k", "_law_knot", "_law_belts"] ["_law_work_here", "_law_state", "_law_beat_here"] (zf xb) := by walk_at "sc"
abbrev wY : Stmt := top 57
theorem Vo : FnScope ["_law_script", "_law_k"] ["_law_script", "_law_k"] (zf wY) := by walk_at "sc"
abbrev wX : Stmt := top 58
theorem Vn : FnScope ["_law_script", "_law_bound", "_law_number", "_law_cell"] ["_law_script", "_law_bound"] (zf wX) := by walk_at "sc"
abbrev xg : Stmt := top 59
theorem XX : FnScope ["_law_work_here", "_law_script", "_law_given", "_law_sources", "_law_cells_here", "_law_spot", "_law_belt_here", "_law_row", "_law_place", "_law_number", "_law_source_here"] ["_law_work_here", "_law_script", "_law_given"] (zf xg) := by walk_at "sc"
abbrev xf : Stmt := top 60
theorem Vk : FnScope ["_law_work_here", "_law_script", "_law_given", "_law_cells_here", "_law_sides", "_law_gone", "_law_k", "_law_knot", "_law_number", "_law_many", "_law_counts"] ["_law_work_here", "_law_script"] (zf xf) := by walk_at "sc"
abbrev jc : Stmt := top 61
theorem Ja : FnScope ["_law_work_here", "_law_state", "_law_script", "_law_beat_here", "_law_steps", "_law_k", "_law_knot", "_law_cells_here", "_law_row", "_law_gone", "_law_counts", "_law_more"] ["_law_work_here", "_law_state", "_law_script", "_law_beat_here"] (zf jc) := by walk_at "sc"
abbrev qw : Stmt := top 62
theorem Ze : FnScope ["_law_work_here", "_law_state", "_law_old", "_law_spot", "_law_same", "_law_wares", "_law_k", "_law_knot", "_law_kind_here"] ["_law_work_here", "_law_state", "_law_old", "_law_spot", "_law_same"] (zf qw) := by walk_at "sc"
abbrev qY : Stmt := top 63
theorem JW : FnScope ["_law_work_here", "_law_state", "_law_script", "_law_number", "_law_what", "_law_spot", "_law_sources", "_law_source_here", "_law_turn", "_law_cells_here", "_law_sides", "_law_gone", "_law_belt_here", "_law_place", "_law_ware", "_law_k", "_law_knot"] ["_law_work_here", "_law_state", "_law_script"] (zf qY) := by walk_at "sc"
abbrev vW : Stmt := top 64
theorem zbX : FnScope ["_law_script", "_law_work_here", "_law_beat_here", "_law_one", "_law_other", "_law_due", "_law_kept", "_law_first", "_law_second", "_law_found"] ["_law_script"] (zf vW) := by walk_at "sc"
local macro_rules | `(tactic| walk_at "T") => `(tactic| (have m_list := T.m_list; have m_len := T.m_len; have m_tuple := T.m_tuple; have m_sorted := T.m_sorted; have m_range := T.m_range; have m_enumerate := T.m_enumerate; have m_isinstance := T.m_isinstance; have m_reversed := T.m_reversed; have m_all := T.m_all; have m_max := T.m_max; have m_bool := T.m_bool))
structure Ad where
 State : Addr
 WorkError : Addr
 BadBelt : Addr
 BadKnot : Addr
 BadWork : Addr
 Belt : Addr
 Knot : Addr
 Source : Addr
 Drain : Addr
 Parter : Addr
 FirstParter : Addr
 Sieve : Addr
 Joiner : Addr
 Work : Addr
structure Txt (K : PySem.W.Frag) (mg : Str → Option Value) (a : Ad) : Prop where
 h__wall : FA K mg "_wall" WG ["k"]
 h_kind_of : FA K mg "kind_of" wa ["work", "ware"]
 h_kinds_in : FA K mg "kinds_in" jR ["work", "cells"]
 h_kind_place : FA K mg "kind_place" jH ["work", "state", "number"]
 h_shape_of : FA K mg "shape_of" jn ["work", "state"]
 h_alike : FA K mg "alike" Zp ["work", "one", "other"]
 h_check_pace : FA K mg "check_pace" jK ["pace", "least"]
 h_check_kind : FA K mg "check_kind" jL ["kind"]
 h_check_ways : FA K mg "check_ways" jI ["belts"]
 h_common : FA K mg "common" wS ["one", "other"]
 h_lasting : FA K mg "lasting" x9 ["paces"]
 h_check_size : FA K mg "check_size" jJ ["belts", "knots"]
 h_check_each_once : FA K mg "check_each_once" qF ["named", "size"]
 h_L_at : FA K mg "_law_at" Jd ["_law_script", "_law_k"]
 h_L_spread : FA K mg "_law_spread" xu ["_law_cell", "_law_factor"]
 h_L_belt : FA K mg "_law_belt" wZ ["_law_belts", "_law_number", "_law_span"]
 h_L_source : FA K mg "_law_source" jS ["_law_out", "_law_cell", "_law_number", "_law_span"]
 h_L_drain : FA K mg "_law_drain" wc ["_law_into", "_law_number", "_law_span"]
 h_L_kind : FA K mg "_law_kind" wV ["_law_knots", "_law_cell", "_law_number"]
 h_L_joined : FA K mg "_law_joined" xw ["_law_belts", "_law_ends", "_law_loops", "_law_into", "_law_cell", "_law_span"]
 h_L_parted : FA K mg "_law_parted" xv ["_law_into", "_law_outs", "_law_kind_here", "_law_what"]
 h_L_grow : FA K mg "_law_grow" wW ["_law_belts", "_law_knots", "_law_ends", "_law_loops", "_law_cell", "_law_span"]
 h_L_close : FA K mg "_law_close" we ["_law_belts", "_law_knots", "_law_ends", "_law_loops", "_law_cell", "_law_span"]
 h_L_work : FA K mg "_law_work" wU ["_law_script"]
 h_L_beat : FA K mg "_law_beat" xh ["_law_work_here"]
 h_L_kinds : FA K mg "_law_kinds" wb ["_law_work_here", "_law_cells_here"]
 h_L_shape : FA K mg "_law_shape" xb ["_law_work_here", "_law_state", "_law_beat_here"]
 h_L_draw : FA K mg "_law_draw" wY ["_law_script", "_law_k"]
 h_L_fold : FA K mg "_law_fold" wX ["_law_script", "_law_bound"]
 h_L_cells : FA K mg "_law_cells" xg ["_law_work_here", "_law_script", "_law_given"]
 h_L_made : FA K mg "_law_made" xf ["_law_work_here", "_law_script"]
 h_L_shifted : FA K mg "_law_shifted" jc ["_law_work_here", "_law_state", "_law_script", "_law_beat_here"]
 h_L_other_ware : FA K mg "_law_other_ware" qw ["_law_work_here", "_law_state", "_law_old", "_law_spot", "_law_same"]
 h_L_spoilt : FA K mg "_law_spoilt" qY ["_law_work_here", "_law_state", "_law_script"]
 m_list : mg "list" = none
 m_len : mg "len" = none
 m_tuple : mg "tuple" = none
 m_sorted : mg "sorted" = none
 m_range : mg "range" = none
 m_enumerate : mg "enumerate" = none
 m_isinstance : mg "isinstance" = none
 m_reversed : mg "reversed" = none
 m_all : mg "all" = none
 m_max : mg "max" = none
 m_bool : mg "bool" = none
 g_State : mg "State" = some (.ref a.State)
 g_WorkError : mg "WorkError" = some (.ref a.WorkError)
 g_BadBelt : mg "BadBelt" = some (.ref a.BadBelt)
 g_BadKnot : mg "BadKnot" = some (.ref a.BadKnot)
 g_BadWork : mg "BadWork" = some (.ref a.BadWork)
 g_Belt : mg "Belt" = some (.ref a.Belt)
 g_Knot : mg "Knot" = some (.ref a.Knot)
 g_Source : mg "Source" = some (.ref a.Source)
 g_Drain : mg "Drain" = some (.ref a.Drain)
 g_Parter : mg "Parter" = some (.ref a.Parter)
 g_FirstParter : mg "FirstParter" = some (.ref a.FirstParter)
 g_Sieve : mg "Sieve" = some (.ref a.Sieve)
 g_Joiner : mg "Joiner" = some (.ref a.Joiner)
 g_Work : mg "Work" = some (.ref a.Work)
 C_State : Cls K a.State
 N_State_turn : NoAttr K a.State "turn"
 N_State_cells : NoAttr K a.State "cells"
 N_State_sides : NoAttr K a.State "sides"
 N_State_gone : NoAttr K a.State "gone"
 W_State : WI K a.State
 h_State_init : FK K a.State "State.__init__" qN ["self", "turn", "cells", "sides", "gone"]
 C_Belt : Cls K a.Belt
 N_Belt_room : NoAttr K a.Belt "room"
 N_Belt_pace : NoAttr K a.Belt "pace"
 W_Belt : WI K a.Belt
 h_Belt_init : FK K a.Belt "Belt.__init__" jZ ["self", "room", "pace"]
 C_Knot : Cls K a.Knot
 N_Knot_ins : NoAttr K a.Knot "ins"
 N_Knot_outs : NoAttr K a.Knot "outs"
 W_Knot : WI K a.Knot
 h_Knot_init : FK K a.Knot "Knot.__init__" qk ["self", "ins", "outs"]
 b_Knot_init : FB K mg "Knot" "__init__" "Knot.__init__" qk ["self", "ins", "outs"]
 h_Knot_choice : FM K a.Knot "choice" "Knot.choice" wv ["self", "heads", "free", "turn", "side"]
 h_Knot_copied : FM K a.Knot "copied" "Knot.copied" wu ["self"]
 C_Source : Cls K a.Source
 N_Source_pace : NoAttr K a.Source "pace"
 N_Source_kinds : NoAttr K a.Source "kinds"
 N_Source_ins : NoAttr K a.Source "ins"
 N_Source_outs : NoAttr K a.Source "outs"
 W_Source : WI K a.Source
 h_Source_init : FK K a.Source "Source.__init__" js ["self", "out", "pace", "kinds"]
 h_Source_choice : FM K a.Source "choice" "Source.choice" xH ["self", "heads", "free", "turn", "side"]
 h_Source_copied : FM K a.Source "copied" "Source.copied" qT ["self"]
 C_Drain : Cls K a.Drain
 N_Drain_pace : NoAttr K a.Drain "pace"
 N_Drain_ins : NoAttr K a.Drain "ins"
 N_Drain_outs : NoAttr K a.Drain "outs"
 W_Drain : WI K a.Drain
 h_Drain_init : FK K a.Drain "Drain.__init__" jN ["self", "into", "pace"]
 h_Drain_choice : FM K a.Drain "choice" "Drain.choice" xR ["self", "heads", "free", "turn", "side"]
 h_Drain_copied : FM K a.Drain "copied" "Drain.copied" je ["self"]
 C_Parter : Cls K a.Parter
 N_Parter_ins : NoAttr K a.Parter "ins"
 N_Parter_outs : NoAttr K a.Parter "outs"
 W_Parter : WI K a.Parter
 h_Parter_init : FK K a.Parter "Parter.__init__" jt ["self", "into", "outs"]
 h_Parter_choice : FM K a.Parter "choice" "Parter.choice" xI ["self", "heads", "free", "turn", "side"]
 h_Parter_copied : FM K a.Parter "copied" "Parter.copied" qU ["self"]
 C_FirstParter : Cls K a.FirstParter
 N_FirstParter_ins : NoAttr K a.FirstParter "ins"
 N_FirstParter_outs : NoAttr K a.FirstParter "outs"
 W_FirstParter : WI K a.FirstParter
 h_FirstParter_init : FK K a.FirstParter "FirstParter.__init__" qz ["self", "into", "outs"]
 h_FirstParter_choice : FM K a.FirstParter "choice" "FirstParter.choice" jy ["self", "heads", "free", "turn", "side"]
 h_FirstParter_copied : FM K a.FirstParter "copied" "FirstParter.copied" ql ["self"]
 C_Sieve : Cls K a.Sieve
 N_Sieve_kind : NoAttr K a.Sieve "kind"
 N_Sieve_ins : NoAttr K a.Sieve "ins"
 N_Sieve_outs : NoAttr K a.Sieve "outs"
 W_Sieve : WI K a.Sieve
 h_Sieve_init : FK K a.Sieve "Sieve.__init__" jM ["self", "into", "outs", "kind"]
 h_Sieve_choice : FM K a.Sieve "choice" "Sieve.choice" xQ ["self", "heads", "free", "turn", "side"]
 h_Sieve_place_for : FM K a.Sieve "place_for" "Sieve.place_for" jY ["self", "kind"]
 h_Sieve_copied : FM K a.Sieve "copied" "Sieve.copied" jd ["self"]
 C_Joiner : Cls K a.Joiner
 N_Joiner_ins : NoAttr K a.Joiner "ins"
 N_Joiner_outs : NoAttr K a.Joiner "outs"
 W_Joiner : WI K a.Joiner
 h_Joiner_init : FK K a.Joiner "Joiner.__init__" ju ["self", "ins", "out"]
 h_Joiner_choice : FM K a.Joiner "choice" "Joiner.choice" xJ ["self", "heads", "free", "turn", "side"]
 h_Joiner_copied : FM K a.Joiner "copied" "Joiner.copied" qV ["self"]
 C_Work : Cls K a.Work
 N_Work_belts : NoAttr K a.Work "belts"
 N_Work_knots : NoAttr K a.Work "knots"
 W_Work : WI K a.Work
 h_Work_init : FK K a.Work "Work.__init__" ja ["self", "belts", "knots"]
 h_Work_feeder : FM K a.Work "feeder" "Work.feeder" wq ["self", "belt"]
 h_Work_taker : FM K a.Work "taker" "Work.taker" wT ["self", "belt"]
 h_Work_drains : FM K a.Work "drains" "Work.drains" qP ["self"]
 h_Work_sources : FM K a.Work "sources" "Work.sources" qI ["self"]
 h_Work_beat : FM K a.Work "beat" "Work.beat" jw ["self"]
 g_MOST_ROOM : ∃ t, mg "MOST_ROOM" = some (.int 6 t)
 g_MOST_PACE : ∃ t, mg "MOST_PACE" = some (.int 4 t)
 g_MOST_KINDS : ∃ t, mg "MOST_KINDS" = some (.int 6 t)
 g_FEWEST_WAYS : ∃ t, mg "FEWEST_WAYS" = some (.int 2 t)
 g_MOST_WAYS : ∃ t, mg "MOST_WAYS" = some (.int 4 t)
 g_MOST_BELTS : ∃ t, mg "MOST_BELTS" = some (.int 24 t)
 g_MOST_KNOTS : ∃ t, mg "MOST_KNOTS" = some (.int 24 t)
 X_BadBelt : XC K a.BadBelt
 XI_BadBelt : XI K a.BadBelt
 X_BadKnot : XC K a.BadKnot
 XI_BadKnot : XI K a.BadKnot
 X_BadWork : XC K a.BadWork
 XI_BadWork : XI K a.BadWork
 k1_State_Drain : PySem.W.kitOne K (.ref a.State) (.ref a.Drain) = some false
 k1_Belt_Drain : PySem.W.kitOne K (.ref a.Belt) (.ref a.Drain) = some false
 k1_Knot_Drain : PySem.W.kitOne K (.ref a.Knot) (.ref a.Drain) = some false
 k1_Source_Drain : PySem.W.kitOne K (.ref a.Source) (.ref a.Drain) = some false
 k1_Drain_Drain : PySem.W.kitOne K (.ref a.Drain) (.ref a.Drain) = some true
 k1_Parter_Drain : PySem.W.kitOne K (.ref a.Parter) (.ref a.Drain) = some false
 k1_FirstParter_Drain : PySem.W.kitOne K (.ref a.FirstParter) (.ref a.Drain) = some false
 k1_Sieve_Drain : PySem.W.kitOne K (.ref a.Sieve) (.ref a.Drain) = some false
 k1_Joiner_Drain : PySem.W.kitOne K (.ref a.Joiner) (.ref a.Drain) = some false
 k1_Work_Drain : PySem.W.kitOne K (.ref a.Work) (.ref a.Drain) = some false
 k1_State_Source : PySem.W.kitOne K (.ref a.State) (.ref a.Source) = some false
 k1_Belt_Source : PySem.W.kitOne K (.ref a.Belt) (.ref a.Source) = some false
 k1_Knot_Source : PySem.W.kitOne K (.ref a.Knot) (.ref a.Source) = some false
 k1_Source_Source : PySem.W.kitOne K (.ref a.Source) (.ref a.Source) = some true
 k1_Drain_Source : PySem.W.kitOne K (.ref a.Drain) (.ref a.Source) = some false
 k1_Parter_Source : PySem.W.kitOne K (.ref a.Parter) (.ref a.Source) = some false
 k1_FirstParter_Source : PySem.W.kitOne K (.ref a.FirstParter) (.ref a.Source) = some false
 k1_Sieve_Source : PySem.W.kitOne K (.ref a.Sieve) (.ref a.Source) = some false
 k1_Joiner_Source : PySem.W.kitOne K (.ref a.Joiner) (.ref a.Source) = some false
 k1_Work_Source : PySem.W.kitOne K (.ref a.Work) (.ref a.Source) = some false
 k1_State_Parter : PySem.W.kitOne K (.ref a.State) (.ref a.Parter) = some false
 k1_Belt_Parter : PySem.W.kitOne K (.ref a.Belt) (.ref a.Parter) = some false
 k1_Knot_Parter : PySem.W.kitOne K (.ref a.Knot) (.ref a.Parter) = some false
 k1_Source_Parter : PySem.W.kitOne K (.ref a.Source) (.ref a.Parter) = some false
 k1_Drain_Parter : PySem.W.kitOne K (.ref a.Drain) (.ref a.Parter) = some false
 k1_Parter_Parter : PySem.W.kitOne K (.ref a.Parter) (.ref a.Parter) = some true
 k1_FirstParter_Parter : PySem.W.kitOne K (.ref a.FirstParter) (.ref a.Parter) = some false
 k1_Sieve_Parter : PySem.W.kitOne K (.ref a.Sieve) (.ref a.Parter) = some false
 k1_Joiner_Parter : PySem.W.kitOne K (.ref a.Joiner) (.ref a.Parter) = some false
 k1_Work_Parter : PySem.W.kitOne K (.ref a.Work) (.ref a.Parter) = some false
 k1_State_Joiner : PySem.W.kitOne K (.ref a.State) (.ref a.Joiner) = some false
 k1_Belt_Joiner : PySem.W.kitOne K (.ref a.Belt) (.ref a.Joiner) = some false
 k1_Knot_Joiner : PySem.W.kitOne K (.ref a.Knot) (.ref a.Joiner) = some false
 k1_Source_Joiner : PySem.W.kitOne K (.ref a.Source) (.ref a.Joiner) = some false
 k1_Drain_Joiner : PySem.W.kitOne K (.ref a.Drain) (.ref a.Joiner) = some false
 k1_Parter_Joiner : PySem.W.kitOne K (.ref a.Parter) (.ref a.Joiner) = some false
 k1_FirstParter_Joiner : PySem.W.kitOne K (.ref a.FirstParter) (.ref a.Joiner) = some false
 k1_Sieve_Joiner : PySem.W.kitOne K (.ref a.Sieve) (.ref a.Joiner) = some false
 k1_Joiner_Joiner : PySem.W.kitOne K (.ref a.Joiner) (.ref a.Joiner) = some true
 k1_Work_Joiner : PySem.W.kitOne K (.ref a.Work) (.ref a.Joiner) = some false
section
variable {P : Program} {w : World} {K : PySem.W.Frag} {mg : Str → Option Value} {base : Heap} {a : Ad} {f : Addr} {fd : FuncData}
theorem at0 {α : Type} {x : α} {xs : List α} : atI (x :: xs) 0 = some x := by
 have := zK (xs := x :: xs) (j := 0) rfl
 simpa using this
def iv (ns : List Int) : List V := ns.map V.int
def kf (l1 l2 : Addr) : List (Str × V) := z7 "outs" (.ref l2) (z7 "ins" (.ref l1) [])
theorem Wi {l1 l2 : Addr} : (kf l1 l2).length < 1000 := by
 unfold kf; have := j5 "outs" (V.ref l2) (z7 "ins" (.ref l1) []); have := j5 "ins" (V.ref l1) []; simp at *; omega
def Own (H H' : Hp) (y : Addr) : Prop := ∀ b o, b ≠ y → H b = some o → H' b = some o
theorem Same.own {H H' : Hp} {y : Addr} (s : Same H H') : Own H H' y := fun b o _ h => s b o h
theorem Own.trans {H1 H2 H3 : Hp} {y : Addr} (s : Own H1 H2 y) (t : Own H2 H3 y) : Own H1 H3 y := fun b o hb h => t b o hb (s b o hb h)
theorem qW {H : Hp} {y : Addr} {o : HO} : Own H (upd H y o) y := fun b u hb h => by rw [upd_ne hb]; exact h
theorem Own.of_new {H H' : Hp} {y dx : Addr} {o p : HO} (hy : H y = none) (hd : H dx = none) (s : Own (upd (upd H dx o) y p) H' y) : Same H H' := fun b u h =>
 s b u (ne_of_none h hy) (by rw [upd_ne (ne_of_none h hy), upd_ne (ne_of_none h hd)]; exact h)
theorem zI {H : Hp} {p b : Addr} {o : HO} (h : upd H p o b = none) : H b = none := by
 by_cases e : b = p
 ·subst e; rw [upd_same] at h; cases h
 ·rw [upd_ne e] at h; exact h
def ZA (K : PySem.W.Frag) : Sp := fun vs H Q _ => ∃ (y C dx i o : Addr) (xs ys : List V), vs = [.ref y, .ref i, .ref o] ∧ H y = some (.ins C dx []) ∧ Cls K C ∧ NoAttr K C "ins" ∧ NoAttr K C "outs" ∧ SqL K H i xs ∧ SqL K H o ys ∧ i ≠ y ∧ o ≠ y ∧
 ∀ H' l1 l2, Own H H' y → H' y = some (.ins C dx (kf l1 l2)) → H' l1 = some (.lst xs) → H' l2 = some (.lst ys) → H l1 = none → H l2 = none → Q .non H'
theorem WB {H H' : Hp} {y l : Addr} {xs : List V} (h : SqL K H l xs) (s : Own H H' y) (hl : l ≠ y) : SqL K H' l xs := by
 rcases h with h | h
 ·refine .inl ?_
  rcases h with h | ⟨ob, h⟩
  ·exact .inl (s _ _ hl h)
  ·exact .inr ⟨ob, s _ _ hl h⟩
 ·exact .inr h
theorem Jp (T : Txt K mg a) (F : Fun K "__init__" "Knot.__init__" qk f fd) : FnOk P w K mg base (CXr P w) 1 f fd ["self", "ins", "outs"] (ZA K) := by
 refine F.okx Jb ?_ ?_
 ·walk_at "i"
 walk_at "k"
 refine oE7 h fun y C dx i o xs ys z1_ => oA6 z1_ fun z2_ hy hC hN1 hN2 z3_ => oA5 z3_ fun hi ho hiy hoy k => ?_
 clear h
 subst z2_
 walk_at "T"
 refine ⟨_, (zm (jf (pq 0) (jh jv qX (za (pq 1) zb)) rfl)  (ze (jf (pq 0) (jh jv qX (za (pq 2) zb)) rfl))), ?_⟩
 walk_at "go"
 refine iE2 i xs (iA3 rfl (.inl hi) (fun l1 h1 => ?_))
 walk_at "go"
 have y1 : y ≠ l1 := ne_of_none hy h1
 refine iE4 y C dx ([]) (iA6 rfl (upd_keep hy h1) hC hN1 (by decide) ?_)
 walk_at "go"
 have s1 : Own H (upd (upd H l1 (.lst xs)) y (.ins C dx (z7 "ins" (.ref l1) []))) y := (Same.own (zd h1)).trans qW
 refine iE2 o ys (iA3 rfl (.inl (WB ho s1 hoy)) (fun l2 h2 => ?_))
 walk_at "go"
 have y2 : y ≠ l2 := ne_of_none upd_same h2
 have l12 : l1 ≠ l2 := fun z => by
  rw [← z, upd_ne (Ne.symm y1), upd_same] at h2; cases h2
 refine iE4 y C dx _ (iA6 rfl (upd_keep upd_same h2) hC hN2 (by show 1 < 1000; decide) ?_)
 refine k _ l1 l2 (s1.trans ((Same.own (zd h2)).trans qW)) upd_same ?_ ?_ h1 ?_
 ·rw [upd_ne (Ne.symm y1), upd_ne l12, upd_ne (Ne.symm y1), upd_same]
 ·rw [upd_ne (Ne.symm y2), upd_same]
 ·rw [upd_ne (Ne.symm y2), upd_ne (Ne.symm l12)] at h2
  exact h2
theorem b_Knot_init (T : Txt K mg a) : BCal P w K mg base "Knot" "__init__" 1 ["self", "ins", "outs"] [] (ZA K) := T.b_Knot_init.cal (Jp T)
def vS (K : PySem.W.Frag) (a : Ad) : Sp := fun vs H Q E => ∃ (l : Addr) (xs : List V), vs = [.ref l] ∧ SqL K H l xs ∧ if 2 ≤ xs.length ∧ xs.length ≤ 4 then Q .non H else E (.ref a.BadKnot) none H
theorem Qo (T : Txt K mg a) (F : Fun K "check_ways" "check_ways" jI f fd) : FnOk P w K mg base (CXr P w) 1 f fd ["belts"] (vS K a) := by
 refine F.okx Qg ?_ ?_
 ·walk_at "i"
 walk_at "k"
 refine oE2 h fun l xs z1_ => oA3 z1_ fun z2_ hl k => ?_
 clear h
 subst z2_
 walk_at "T"
 refine ⟨_, (ze (zL (jT (jz jW jW qG (zC zO zN (za (pq 0) zb)) qG))  (ze (qQ ⟨rfl, rfl, rfl⟩ rfl (za j7 zb)))  zq)), ?_⟩
 walk_at "go"
 obtain ⟨t1, g1⟩ := T.g_FEWEST_WAYS
 obtain ⟨t2, g2⟩ := T.g_MOST_WAYS
 have bad : ¬ (2 ≤ xs.length ∧ xs.length ≤ 4) → ∃ C, mg "BadKnot" = some (Value.ref C) ∧ XC K C ∧ E (Value.ref C) none H := fun h => by
  rw [if_neg h] at k
  exact ⟨a.BadKnot, iA3 T.g_BadKnot T.X_BadKnot k⟩
 refine iE2 (.int 2) _ (iA3 g1 ⟨_, rfl⟩ ?_)
 walk_at "go"
 refine ⟨_, .inl ⟨_, hl, rfl⟩, ?_⟩
 walk_at "r"
 refine zR (fun h1 => ?_) (fun h1 => bad (by omega))
 refine iE2 (.int 4) _ (iA3 g2 ⟨_, rfl⟩ ?_)
 walk_at "r"
 refine zR (fun h2 => bad (by omega)) (fun h2 => ?_)
 rw [if_pos (by omega)] at k
 exact k
theorem xF (T : Txt K mg a) : Cal P w K mg base "check_ways" 1 ["belts"] [] (vS K a) := T.h_check_ways.cal (Qo T)
def vU (a : Ad) : Sp := fun vs H Q E => ∃ p q : Int, vs = [.int p, .int q] ∧ if q ≤ p ∧ p ≤ 4 then Q .non H else E (.ref a.BadKnot) none H
theorem Qq (T : Txt K mg a) (F : Fun K "check_pace" "check_pace" jK f fd) : FnOk P w K mg base (CXr P w) 1 f fd ["pace", "least"] (vU a) := by
 refine F.okx Qi ?_ ?_
 ·walk_at "i"
 walk_at "k"
 refine oE2 h fun p q z1_ => oA2 z1_ fun z2_ k => ?_
 clear h
 subst z2_
 walk_at "T"
 refine ⟨_, (ze (zL (jT (jz jW jW (pq 1) (pq 0) qG))  (ze (qQ ⟨rfl, rfl, rfl⟩ rfl (za j7 zb)))  zq)), ?_⟩
 walk_at "go"
 obtain ⟨t1, g1⟩ := T.g_MOST_PACE
 have bad : ¬ (q ≤ p ∧ p ≤ 4) → ∃ C, mg "BadKnot" = some (Value.ref C) ∧ XC K C ∧ E (Value.ref C) none H := fun h => by
  rw [if_neg h] at k
  exact ⟨a.BadKnot, iA3 T.g_BadKnot T.X_BadKnot k⟩
 refine zR (fun h1 => ?_) (fun h1 => bad (by omega))
 refine iE2 (.int 4) _ (iA3 g1 ⟨_, rfl⟩ ?_)
 walk_at "go"
 refine zR (fun h2 => bad (by omega)) (fun h2 => ?_)
 rw [if_pos (by omega)] at k
 walk_at "go"
 exact k
theorem vm (T : Txt K mg a) : Cal P w K mg base "check_pace" 1 ["pace", "least"] [] (vU a) := T.h_check_pace.cal (Qq T)
abbrev ji : Int := 1000000000000000000000000000000
def vV (a : Ad) : Sp := fun vs H Q E => ∃ n : Int, vs = [.int n] ∧ if 0 ≤ n ∧ n < ji then Q .non H else E (.ref a.BadKnot) none H
theorem Qr (T : Txt K mg a) (F : Fun K "check_kind" "check_kind" jL f fd) : FnOk P w K mg base (CXr P w) 1 f fd ["kind"] (vV a) := by
 refine F.okx Qj ?_ ?_
 ·walk_at "i"
 walk_at "k"
 obtain ⟨n, rfl, k⟩ := h
 walk_at "T"
 refine ⟨_, (ze (zL (jT (jz jW zaC zc (pq 0) (zi wH zc zc)))  (ze (qQ ⟨rfl, rfl, rfl⟩ rfl (za j7 zb)))  zq)), ?_⟩
 walk_at "go"
 have bad : ¬ (0 ≤ n ∧ n < ji) → ∃ C, mg "BadKnot" = some (Value.ref C) ∧ XC K C ∧ E (Value.ref C) none H := fun h => by
  rw [if_neg h] at k
  exact ⟨a.BadKnot, iA3 T.g_BadKnot T.X_BadKnot k⟩
 refine zR (fun h1 => ?_) (fun h1 => bad (by omega))
 walk_at "go"
 refine zR (fun h2 => bad (by unfold ji; omega)) (fun h2 => ?_)
 rw [if_pos (by unfold ji; omega)] at k
 walk_at "go"
 exact k
theorem vn (T : Txt K mg a) : Cal P w K mg base "check_kind" 1 ["kind"] [] (vV a) := T.h_check_kind.cal (Qr T)
def qM (K : PySem.W.Frag) (C CB : Addr) : Sp := fun vs H Q E => ∃ (y dx o : Addr) (into : V) (ys : List V), vs = [.ref y, into, .ref o] ∧ H y = some (.ins C dx []) ∧ SqL K H o ys ∧ o ≠ y ∧
 if 2 ≤ ys.length ∧ ys.length ≤ 4 then ∀ H' l1 l2, Own H H' y → H' y = some (.ins C dx (kf l1 l2)) → H' l1 = some (.lst [into]) → H' l2 = some (.lst ys) → H l1 = none → H l2 = none → Q .non H' else E (.ref CB) none H
theorem ZO (T : Txt K mg a) (F : Fun K "__init__" "Parter.__init__" jt f fd) : FnOk P w K mg base (CXr P w) 2 f fd ["self", "into", "outs"] (qM K a.Parter a.BadKnot) := by
 refine F.okx ZF ?_ ?_
 ·walk_at "i"
 walk_at "k"
 refine oE5 h fun y dx o into ys z1_ => oA5 z1_ fun z2_ hy ho hoy k => ?_
 clear h
 subst z2_
 walk_at "T"
 refine ⟨_, (zm (zl (zx ⟨rfl, rfl, rfl⟩ hr (za (pq 2) zb)))  (ze (zl (wj ⟨rfl, rfl, rfl⟩ hr (za (pq 0) (za (zE (za (pq 1) zb)) (za (pq 2) zb))))))), ?_⟩
 walk_at "go"
 refine iE3 _ _ _ ⟨xF T, ⟨o, ys, rfl, ho, zR (fun hok => ?_) (fun hok => ?_)⟩⟩
 ·rw [if_pos hok] at k
  walk_at "go"
  refine iE3 _ _ _ ⟨b_Knot_init T, fun p hp => (iE7 y a.Parter dx p o ([into]) ys (iA6 rfl (upd_keep hy hp) T.C_Parter T.N_Parter_ins T.N_Parter_outs (iA5 (SqL.of upd_same) ((zd hp).seq ho) ((ne_of_none hy hp).symm) hoy (fun H' l1 l2 s h1 h2 h3 h4 h5 => ?_))))⟩
  exact k H' l1 l2 ((Same.own (zd hp)).trans s) h1 h2 h3 (zI h4) (zI h5)
 ·rw [if_neg hok] at k
  exact k
theorem Xq (T : Txt K mg a) : KCal P w K mg base "Parter" a.Parter 2 ["self", "into", "outs"] [] (qM K a.Parter a.BadKnot) := T.h_Parter_init.cal T.g_Parter (ZO T)
theorem wp (T : Txt K mg a) (F : Fun K "__init__" "FirstParter.__init__" qz f fd) : FnOk P w K mg base (CXr P w) 2 f fd ["self", "into", "outs"] (qM K a.FirstParter a.BadKnot) := by
 refine F.okx wo ?_ ?_
 ·walk_at "i"
 walk_at "k"
 refine oE5 h fun y dx o into ys z1_ => oA5 z1_ fun z2_ hy ho hoy k => ?_
 clear h
 subst z2_
 walk_at "T"
 refine ⟨_, (zm (zl (zx ⟨rfl, rfl, rfl⟩ hr (za (pq 2) zb)))  (ze (zl (wj ⟨rfl, rfl, rfl⟩ hr (za (pq 0) (za (zE (za (pq 1) zb)) (za (pq 2) zb))))))), ?_⟩
 walk_at "go"
 refine iE3 _ _ _ ⟨xF T, ⟨o, ys, rfl, ho, zR (fun hok => ?_) (fun hok => ?_)⟩⟩
 ·rw [if_pos hok] at k
  walk_at "go"
  refine iE3 _ _ _ ⟨b_Knot_init T, fun p hp => (iE7 y a.FirstParter dx p o ([into]) ys (iA6 rfl (upd_keep hy hp) T.C_FirstParter T.N_FirstParter_ins T.N_FirstParter_outs (iA5 (SqL.of upd_same) ((zd hp).seq ho) ((ne_of_none hy hp).symm) hoy (fun H' l1 l2 s h1 h2 h3 h4 h5 => ?_))))⟩
  exact k H' l1 l2 ((Same.own (zd hp)).trans s) h1 h2 h3 (zI h4) (zI h5)
 ·rw [if_neg hok] at k
  exact k
theorem wz (T : Txt K mg a) : KCal P w K mg base "FirstParter" a.FirstParter 2 ["self", "into", "outs"] [] (qM K a.FirstParter a.BadKnot) := T.h_FirstParter_init.cal T.g_FirstParter (wp T)
def vf (l1 l2 : Addr) (n : Int) : List (Str × V) := z7 "kind" (.int n) (kf l1 l2)
def xO (K : PySem.W.Frag) (C CB : Addr) : Sp := fun vs H Q E => ∃ (y dx o : Addr) (into : V) (ys : List V) (n : Int), vs = [.ref y, into, .ref o, .int n] ∧ H y = some (.ins C dx []) ∧ SqL K H o ys ∧ o ≠ y ∧
 if ys.length = 2 ∧ 0 ≤ n ∧ n < ji then ∀ H' l1 l2, Own H H' y → H' y = some (.ins C dx (vf l1 l2 n)) → H' l1 = some (.lst [into]) → H' l2 = some (.lst ys) → H l1 = none → H l2 = none → Q .non H' else E (.ref CB) none H
theorem Qt (T : Txt K mg a) (F : Fun K "__init__" "Sieve.__init__" jM f fd) : FnOk P w K mg base (CXr P w) 2 f fd ["self", "into", "outs", "kind"] (xO K a.Sieve a.BadKnot) := by
 refine F.okx Ql ?_ ?_
 ·walk_at "i"
 walk_at "k"
 refine oE6 h fun y dx o into ys n z1_ => oA5 z1_ fun z2_ hy ho hoy k => ?_
 clear h
 subst z2_
 walk_at "T"
 refine ⟨_, (zm (zL (zw (ZQ hr.units1) (zC zO zN (za (pq 2) zb)) zc (zy _))  (ze (qQ ⟨rfl, rfl, rfl⟩ rfl (za j7 zb)))  zq)  (zm (zl (zx ⟨rfl, rfl, rfl⟩ hr (za (pq 3) zb)))  (zm (zl (wj ⟨rfl, rfl, rfl⟩ hr (za (pq 0) (za (zE (za (pq 1) zb)) (za (pq 2) zb)))))  (ze (jf (pq 0) (pq 3) rfl))))), ?_⟩
 walk_at "go"
 refine ⟨_, .inl ⟨_, ho, rfl⟩, ?_⟩
 walk_at "go"
 refine zR (fun h1 => ?_) (fun h1 => ?_)
 ·rw [if_neg (by omega)] at k
  exact ⟨a.BadKnot, iA3 T.g_BadKnot T.X_BadKnot k⟩
 ·refine iE3 _ _ _ ⟨vn T, ⟨n, rfl, zR (fun hok => ?_) (fun hok => ?_)⟩⟩
  ·rw [if_pos ⟨by omega, hok⟩] at k
   walk_at "go"
   refine iE3 _ _ _ ⟨b_Knot_init T, fun p hp => (iE7 y a.Sieve dx p o ([into]) ys (iA6 rfl (upd_keep hy hp) T.C_Sieve T.N_Sieve_ins T.N_Sieve_outs (iA5 (SqL.of upd_same) ((zd hp).seq ho) ((ne_of_none hy hp).symm) hoy (fun H' l1 l2 s h1 h2 h3 h4 h5 => ?_))))⟩
   walk_at "go"
   refine iE4 y a.Sieve dx _ (iA6 rfl h1 T.C_Sieve T.N_Sieve_kind Wi ?_)
   exact k _ l1 l2 (((Same.own (zd hp)).trans s).trans qW) upd_same (by rw [upd_ne (vX h2 h1 (by intro z; cases z))]; exact h2) (by rw [upd_ne (vX h3 h1 (by intro z; cases z))]; exact h3) (zI h4) (zI h5)
  ·rw [if_neg (fun z => hok z.2)] at k
   exact k
theorem WL (T : Txt K mg a) : KCal P w K mg base "Sieve" a.Sieve 2 ["self", "into", "outs", "kind"] [] (xO K a.Sieve a.BadKnot) := T.h_Sieve_init.cal T.g_Sieve (Qt T)
def xr (K : PySem.W.Frag) (C CB : Addr) : Sp := fun vs H Q E => ∃ (y dx o : Addr) (out : V) (ys : List V), vs = [.ref y, .ref o, out] ∧ H y = some (.ins C dx []) ∧ SqL K H o ys ∧ o ≠ y ∧
 if 2 ≤ ys.length ∧ ys.length ≤ 4 then ∀ H' l1 l2, Own H H' y → H' y = some (.ins C dx (kf l1 l2)) → H' l1 = some (.lst ys) → H' l2 = some (.lst [out]) → H l1 = none → H l2 = none → Q .non H' else E (.ref CB) none H
theorem ZP (T : Txt K mg a) (F : Fun K "__init__" "Joiner.__init__" ju f fd) : FnOk P w K mg base (CXr P w) 2 f fd ["self", "ins", "out"] (xr K a.Joiner a.BadKnot) := by
 refine F.okx ZG ?_ ?_
 ·walk_at "i"
 walk_at "k"
 refine oE5 h fun y dx o out ys z1_ => oA5 z1_ fun z2_ hy ho hoy k => ?_
 clear h
 subst z2_
 walk_at "T"
 refine ⟨_, (zm (zl (zx ⟨rfl, rfl, rfl⟩ hr (za (pq 1) zb)))  (ze (zl (wj ⟨rfl, rfl, rfl⟩ hr (za (pq 0) (za (pq 1) (za (zE (za (pq 2) zb)) zb))))))), ?_⟩
 walk_at "go"
 refine iE3 _ _ _ ⟨xF T, ⟨o, ys, rfl, ho, zR (fun hok => ?_) (fun hok => ?_)⟩⟩
 ·rw [if_pos hok] at k
  walk_at "go"
  refine iE3 _ _ _ ⟨b_Knot_init T, fun p hp => (iE7 y a.Joiner dx o p ys ([out]) (iA6 rfl (upd_keep hy hp) T.C_Joiner T.N_Joiner_ins T.N_Joiner_outs (iA5 ((zd hp).seq ho) (SqL.of upd_same) hoy ((ne_of_none hy hp).symm) (fun H' l1 l2 s h1 h2 h3 h4 h5 => ?_))))⟩
  exact k H' l1 l2 ((Same.own (zd hp)).trans s) h1 h2 h3 (zI h4) (zI h5)
 ·rw [if_neg hok] at k
  exact k
theorem Xr (T : Txt K mg a) : KCal P w K mg base "Joiner" a.Joiner 2 ["self", "ins", "out"] [] (xr K a.Joiner a.BadKnot) := T.h_Joiner_init.cal T.g_Joiner (ZP T)
def df (l1 l2 : Addr) (p : Int) : List (Str × V) := z7 "pace" (.int p) (kf l1 l2)
theorem w6 (f : Str) (v : V) : ∀ fs : List (Str × V), (z7 f v fs).length ≤ fs.length + 1
 | [] => by simp [z7]
 | (g, x) :: r => by
  unfold z7
  split
  ·simp
  ·have := w6 f v r
   simp; omega
theorem zbB {l1 l2 : Addr} : (kf l1 l2).length ≤ 2 := by
 unfold kf
 have h1 := w6 "outs" (V.ref l2) (z7 "ins" (.ref l1) [])
 have h2 := w6 "ins" (V.ref l1) []
 simp only [List.length_nil] at h2
 omega
theorem zco {l1 l2 : Addr} {p : Int} : (df l1 l2 p).length < 1000 := by
 unfold df
 have h1 := w6 "pace" (V.int p) (kf l1 l2)
 have h2 := zbB (l1 := l1) (l2 := l2)
 omega
def xP (C CB : Addr) : Sp := fun vs H Q E => ∃ (y dx : Addr) (into : V) (p : Int), vs = [.ref y, into, .int p] ∧ H y = some (.ins C dx []) ∧
 if 0 ≤ p ∧ p ≤ 4 then ∀ H' l1 l2, Own H H' y → H' y = some (.ins C dx (df l1 l2 p)) → H' l1 = some (.lst [into]) → H' l2 = some (.lst []) → H l1 = none → H l2 = none → Q .non H' else E (.ref CB) none H
theorem Qu (T : Txt K mg a) (F : Fun K "__init__" "Drain.__init__" jN f fd) : FnOk P w K mg base (CXr P w) 2 f fd ["self", "into", "pace"] (xP a.Drain a.BadKnot) := by
 refine F.okx Qm ?_ ?_
 ·walk_at "i"
 walk_at "k"
 refine oE4 h fun y dx into p z1_ => oA3 z1_ fun z2_ hy k => ?_
 clear h
 subst z2_
 walk_at "T"
 refine ⟨_, (zm (zl (zx ⟨rfl, rfl, rfl⟩ hr (za (pq 2) (za zc zb))))  (zm (zl (wj ⟨rfl, rfl, rfl⟩ hr (za (pq 0) (za (zE (za (pq 1) zb)) (za (zE zb) zb)))))  (ze (jf (pq 0) (pq 2) rfl)))), ?_⟩
 walk_at "go"
 refine iE3 _ _ _ ⟨vm T, ⟨p, 0, rfl, zR (fun hok => ?_) (fun hok => ?_)⟩⟩
 ·rw [if_pos hok] at k
  walk_at "go"
  refine iE3 _ _ _ ⟨b_Knot_init T, fun q1 hq1 q2 hq2 => ?_⟩
  have n12 : q1 ≠ q2 := ne_of_none upd_same hq2
  have hy2 := upd_keep (o := .lst []) (upd_keep (o := .lst [into]) hy hq1) hq2
  refine iE7 y a.Drain dx q1 q2 ([into]) ([]) (iA6 rfl hy2 T.C_Drain T.N_Drain_ins T.N_Drain_outs (iA5 (SqL.of (upd_keep upd_same hq2)) (SqL.of upd_same) ((ne_of_none hy hq1).symm) ((ne_of_none (upd_keep hy hq1) hq2).symm) (fun H' l1 l2 s h1 h2 h3 h4 h5 => ?_)))
  walk_at "go"
  refine iE4 y a.Drain dx _ (iA6 rfl h1 T.C_Drain T.N_Drain_pace Wi ?_)
  exact k _ l1 l2 (((Same.own ((zd hq1).trans (zd hq2))).trans s).trans qW) upd_same (by rw [upd_ne (vX h2 h1 (by intro z; cases z))]; exact h2) (by rw [upd_ne (vX h3 h1 (by intro z; cases z))]; exact h3) (zI (zI h4)) (zI (zI h5))
 ·rw [if_neg hok] at k
  exact k
theorem Jv (T : Txt K mg a) : KCal P w K mg base "Drain" a.Drain 2 ["self", "into", "pace"] [] (xP a.Drain a.BadKnot) := T.h_Drain_init.cal T.g_Drain (Qu T)
def sf (l1 l2 : Addr) (p : Int) (l3 : Addr) : List (Str × V) := z7 "kinds" (.ref l3) (df l1 l2 p)
def x6 (ks : List Int) : Prop := ∀ n ∈ ks, 0 ≤ n ∧ n < ji
def xq (K : PySem.W.Frag) (C CB : Addr) : Sp := fun vs H Q E => ∃ (y dx l : Addr) (out : V) (p : Int) (ks : List Int), vs = [.ref y, out, .int p, .ref l] ∧ H y = some (.ins C dx []) ∧ SqL K H l (ks.map V.int) ∧ l ≠ y ∧
 ((1 ≤ p ∧ p ≤ 4 ∧ 1 ≤ ks.length ∧ ks.length ≤ 6 ∧ x6 ks → ∀ H' l1 l2 l3, Own H H' y → H' y = some (.ins C dx (sf l1 l2 p l3)) → H' l1 = some (.lst []) → H' l2 = some (.lst [out]) → H' l3 = some (.lst (ks.map V.int)) → H l1 = none → H l2 = none → H l3 = none → Q .non H') ∧
   (¬ (1 ≤ p ∧ p ≤ 4 ∧ 1 ≤ ks.length ∧ ks.length ≤ 6 ∧ x6 ks) → E (.ref CB) none H))
theorem ZN (T : Txt K mg a) (F : Fun K "__init__" "Source.__init__" js f fd) : FnOk P w K mg base (CXr P w) 2 f fd ["self", "out", "pace", "kinds"] (xq K a.Source a.BadKnot) := by
 refine F.okx ZE ?_ ?_
 ·walk_at "i"
 walk_at "k"
 refine oE6 h fun y dx l out p ks z1_ => oA6 z1_ fun z2_ hy hl hly kok kbad => ?_
 clear h
 subst z2_
 obtain ⟨t1, g1⟩ := T.g_MOST_KINDS
 walk_at "T"
 refine ⟨_, (zm (zl (zx ⟨rfl, rfl, rfl⟩ hr (za (pq 2) (za zc zb))))  (zm (zL (jT (jz jW jW zc (zC zO zN (za (pq 3) zb)) qG))  (ze (qQ ⟨rfl, rfl, rfl⟩ rfl (za j7 zb)))  zq)  (zm (qc qH rfl (zW (pq 3)) (zZ 4 ZE.nd)  (ze (zl (zx ⟨rfl, rfl, rfl⟩ hr (za (pq 4) zb)))))  (zm (zl (wj ⟨rfl, rfl, rfl⟩ hr (za (pq 0) (za (zE zb) (za (zE (za (pq 1) zb)) zb)))))  (zm (jf (pq 0) (pq 2) rfl)  (ze (jf (pq 0) (jh jv qX (za (pq 3) zb)) rfl))))))), ?_⟩
 walk_at "go"
 refine iE3 _ _ _ ⟨vm T, ⟨p, 1, rfl, zR (fun hp => ?_) (fun hp => kbad fun z => hp ⟨z.1, z.2.1⟩)⟩⟩
 walk_at "go"
 refine ⟨_, .inl ⟨_, hl, rfl⟩, ?_⟩
 rw [List.length_map]
 walk_at "go"
 have bad : ¬ (1 ≤ ks.length ∧ ks.length ≤ 6) → ∃ C, mg "BadKnot" = some (Value.ref C) ∧ XC K C ∧ E (Value.ref C) none H := fun h => ⟨a.BadKnot, T.g_BadKnot, T.X_BadKnot, kbad fun z => h ⟨z.2.2.1, z.2.2.2.1⟩⟩
 refine zR (fun h1 => ?_) (fun h1 => bad (by omega))
 refine iE2 (.int 6) _ (iA3 g1 ⟨_, rfl⟩ ?_)
 walk_at "go"
 refine zR (fun h2 => bad (by omega)) (fun h2 => ?_)
 walk_at "for"
 refine ⟨l, rfl, .inl ⟨⟨_, hl⟩, ?_⟩⟩
 refine qg (K := K) (a := l) (xs := ks.map V.int) (fun i σ H' => ∃ v4, σ = [some (.ref y), some out, some (.int p), some (.ref l), v4] ∧ H' = H ∧ x6 (ks.take i)) ⟨_, iA3 rfl rfl (fun _ h => nomatch h)⟩ (fun i σ H' _ ⟨_, _, e, _⟩ => e ▸ hl) ?_ ?_
 ·intro i x σ H' hi zz_
  refine oE1 zz_ fun v4 z1_ => oA3 z1_ fun z2_ z3_ hk => ?_
  clear zz_
  subst z2_ z3_
  rw [List.getElem?_map, Option.map_eq_some_iff] at hi
  obtain ⟨n, hn, rfl⟩ := hi
  walk_at "go"
  refine iE3 _ _ _ ⟨vn T, ⟨n, rfl, zR (fun hok => ?_) (fun hok => kbad fun z => hok (z.2.2.2.2 n (List.mem_of_getElem? hn)))⟩⟩
  walk_at "go"
  have : x6 (ks.take (i + 1)) := fun m hm => by
   rw [List.take_succ, hn] at hm
   rcases List.mem_append.mp hm with z | z
   ·exact hk m z
   ·have e : m = n := by simpa using z
    rw [e]; exact hok
  first | exact ⟨_, rfl, rfl, this⟩ | exact ⟨_, rfl, this⟩
 ·intro σ H' zz_
  refine oE1 zz_ fun v4 z1_ => oA3 z1_ fun z2_ z3_ hk => ?_
  clear zz_
  subst z2_ z3_
  rw [List.length_map, List.take_length] at hk
  have kok := kok ⟨hp.1, hp.2, by omega, by omega, hk⟩
  walk_at "go"
  refine iE3 _ _ _ ⟨b_Knot_init T, fun q1 hq1 q2 hq2 => ?_⟩
  have hy2 := upd_keep (o := .lst [out]) (upd_keep (o := .lst []) hy hq1) hq2
  have s12 : Same H' (upd (upd H' q1 (.lst [])) q2 (.lst [out])) := (zd hq1).trans (zd hq2)
  refine iE7 y a.Source dx q1 q2 ([]) ([out]) (iA6 rfl hy2 T.C_Source T.N_Source_ins T.N_Source_outs (iA5 (SqL.of (upd_keep upd_same hq2)) (SqL.of upd_same) ((ne_of_none hy hq1).symm) ((ne_of_none (upd_keep hy hq1) hq2).symm) (fun H2 l1 l2 s h1 h2 h3 h4 h5 => ?_)))
  walk_at "go"
  refine iE4 y a.Source dx _ (iA6 rfl h1 T.C_Source T.N_Source_pace Wi ?_)
  walk_at "go"
  have s3 : Own H' (upd H2 y (.ins a.Source dx (df l1 l2 p))) y := ((Same.own s12).trans s).trans qW
  have h2' : upd H2 y (.ins a.Source dx (df l1 l2 p)) l1 = some (.lst []) := by rw [upd_ne (vX h2 h1 (by intro z; cases z))]; exact h2
  have h3' : upd H2 y (.ins a.Source dx (df l1 l2 p)) l2 = some (.lst [out]) := by rw [upd_ne (vX h3 h1 (by intro z; cases z))]; exact h3
  refine iE2 l _ (iA3 rfl (.inl (WB hl s3 hly)) (fun l3 hl3 => ?_))
  walk_at "go"
  have hy3 : upd (upd H2 y (.ins a.Source dx (df l1 l2 p))) l3 (.lst (ks.map V.int)) y = some (.ins a.Source dx (df l1 l2 p)) := upd_keep upd_same hl3
  refine iE4 y a.Source dx _ (iA6 rfl hy3 T.C_Source T.N_Source_kinds zco ?_)
  have n1 : l1 ≠ y := vX h2 h1 (by intro z; cases z)
  have n2 : l2 ≠ y := vX h3 h1 (by intro z; cases z)
  have n3 : l3 ≠ y := (ne_of_none (upd_same (H := H2)) hl3).symm
  refine kok _ l1 l2 l3 ((s3.trans (Same.own (zd hl3))).trans qW) upd_same ?_ ?_ ?_ (zI (zI h4)) (zI (zI h5)) ?_
  ·rw [upd_ne n1]; exact upd_keep h2' hl3
  ·rw [upd_ne n2]; exact upd_keep h3' hl3
  ·rw [upd_ne n3]; exact upd_same
  ·cases e : H' l3 with
   | none => rfl
   | some o => exact absurd (hl3.symm.trans (s3 l3 o n3 e)) (by intro z; cases z)
theorem Xp (T : Txt K mg a) : KCal P w K mg base "Source" a.Source 2 ["self", "out", "pace", "kinds"] [] (xq K a.Source a.BadKnot) := T.h_Source_init.cal T.g_Source (ZN T)
def bf (rm pc : Int) : List (Str × V) := z7 "pace" (.int pc) (z7 "room" (.int rm) [])
abbrev zP (rm pc : Int) : Prop := 1 ≤ rm ∧ rm ≤ 6 ∧ 1 ≤ pc ∧ pc ≤ 4
def wD (C CB : Addr) : Sp := fun vs H Q E => ∃ (y dx : Addr) (rm pc : Int), vs = [.ref y, .int rm, .int pc] ∧ H y = some (.ins C dx []) ∧ if zP rm pc then Q .non (upd H y (.ins C dx (bf rm pc))) else E (.ref CB) none H
theorem Jq (T : Txt K mg a) (F : Fun K "__init__" "Belt.__init__" jZ f fd) : FnOk P w K mg base (CXr P w) 1 f fd ["self", "room", "pace"] (wD a.Belt a.BadBelt) := by
 refine F.okx Jc ?_ ?_
 ·walk_at "i"
 walk_at "k"
 refine oE4 h fun y dx rm pc z1_ => oA3 z1_ fun z2_ hy k => ?_
 clear h
 subst z2_
 obtain ⟨t1, g1⟩ := T.g_MOST_ROOM
 obtain ⟨t2, g2⟩ := T.g_MOST_PACE
 walk_at "T"
 refine ⟨_, (zm (zL (jT (jz jW jW zc (pq 1) qG))  (ze (qQ ⟨rfl, rfl, rfl⟩ rfl (za j7 zb)))  zq)  (zm (zL (jT (jz jW jW zc (pq 2) qG))  (ze (qQ ⟨rfl, rfl, rfl⟩ rfl (za j7 zb)))  zq)  (zm (jf (pq 0) (pq 1) rfl)  (ze (jf (pq 0) (pq 2) rfl))))), ?_⟩
 walk_at "go"
 have bad : ¬ zP rm pc → ∃ C, mg "BadBelt" = some (Value.ref C) ∧ XC K C ∧ E (Value.ref C) none H := fun h => by
  rw [if_neg h] at k
  exact ⟨a.BadBelt, iA3 T.g_BadBelt T.X_BadBelt k⟩
 refine zR (fun h1 => ?_) (fun h1 => bad (by unfold zP; omega))
 refine iE2 (.int 6) _ (iA3 g1 ⟨_, rfl⟩ ?_)
 walk_at "go"
 refine zR (fun h2 => bad (by unfold zP; omega)) (fun h2 => ?_)
 walk_at "go"
 refine zR (fun h3 => ?_) (fun h3 => bad (by unfold zP; omega))
 refine iE2 (.int 4) _ (iA3 g2 ⟨_, rfl⟩ ?_)
 walk_at "go"
 refine zR (fun h4 => bad (by unfold zP; omega)) (fun h4 => ?_)
 rw [if_pos (by unfold zP; omega)] at k
 walk_at "go"
 refine iE4 y a.Belt dx ([]) (iA6 rfl hy T.C_Belt T.N_Belt_room (by decide) ?_)
 walk_at "go"
 refine iE4 y a.Belt dx _ (iA6 rfl upd_same T.C_Belt T.N_Belt_pace (by show 1 < 1000; decide) ?_)
 rw [QY]
 exact k
theorem zaR (T : Txt K mg a) : KCal P w K mg base "Belt" a.Belt 1 ["self", "room", "pace"] [] (wD a.Belt a.BadBelt) := T.h_Belt_init.cal T.g_Belt (Jq T)
theorem qd {H : Hp} {y dx b C : Addr} {u : HO} (hy : H y = none) (hdx : H dx = none) (h : H b = some u) : upd (upd H dx (.own y)) y (.ins C dx []) b = some u := by
 rw [upd_ne (ne_of_none h hy), upd_ne (ne_of_none h hdx)]; exact h
theorem zG {H : Hp} {y dx b : Addr} {o p : HO} (h : upd (upd H dx o) y p b = none) : H b = none := zI (zI h)
theorem zD {H H' : Hp} {b : Addr} (s : Same H H') (h : H' b = none) : H b = none := by
 cases e : H b with
 | none => rfl
 | some o => rw [s b o e] at h; cases h
inductive Wd | source | drain | parter | first | sieve | joiner
deriving DecidableEq
def jr (a : Ad) : Wd → Addr
 | .source => a.Source
 | .drain => a.Drain
 | .parter => a.Parter
 | .first => a.FirstParter
 | .sieve => a.Sieve
 | .joiner => a.Joiner
structure Row where
 wd : Wd
 ins : List Int
 outs : List Int
 pace : Int
 kinds : List Int
def Row.ok (r : Row) : Prop := match r.wd with
 | .source => r.ins = [] ∧ (∃ o, r.outs = [o]) ∧ 1 ≤ r.pace ∧ r.pace ≤ 4 ∧ 1 ≤ r.kinds.length ∧ r.kinds.length ≤ 6 ∧ x6 r.kinds
 | .drain => (∃ i, r.ins = [i]) ∧ r.outs = [] ∧ 0 ≤ r.pace ∧ r.pace ≤ 4
 | .parter => (∃ i, r.ins = [i]) ∧ 2 ≤ r.outs.length ∧ r.outs.length ≤ 4
 | .first => (∃ i, r.ins = [i]) ∧ 2 ≤ r.outs.length ∧ r.outs.length ≤ 4
 | .sieve => (∃ i, r.ins = [i]) ∧ r.outs.length = 2 ∧ ∃ k, r.kinds = [k] ∧ 0 ≤ k ∧ k < ji
 | .joiner => (∃ o, r.outs = [o]) ∧ 2 ≤ r.ins.length ∧ r.ins.length ≤ 4
def Xg (r : Row) : List (Str × D) := match r.wd with
 | .source => [("pace", .int r.pace), ("kinds", .ints r.kinds)]
 | .drain => [("pace", .int r.pace)]
 | .sieve => [("kind", .int (r.kinds.headD 0))]
 | _ => []
def ZX (r : Row) : List (Str × D) := ("ins", .ints r.ins) :: ("outs", .ints r.outs) :: Xg r
def xK (a : Ad) (r : Row) : D := .ob (jr a r.wd) (ZX r)
def wA (a : Ad) (b : Int × Int) : D := .ob a.Belt [("room", .int b.1), ("pace", .int b.2)]
theorem xC {α : Type} {f : Str} {x : α} {r : List (Str × α)} : ((f, x) :: r).lookup f = some x := by simp [List.lookup]
theorem qe {α : Type} {f g : Str} {x : α} {r : List (Str × α)} (h : f ≠ g) : ((g, x) :: r).lookup f = r.lookup f := by
 have hb : (f == g) = false := beq_eq_false_iff_ne.mpr h
 simp [List.lookup, hb]
theorem zbA (r : Row) : (ZX r).lookup ("ins" : Str) = some (.ints r.ins) := xC
theorem zaN (r : Row) : (ZX r).lookup ("outs" : Str) = some (.ints r.outs) := (qe (by decide +kernel)).trans xC
theorem zaM {r : Row} (h : r.wd = .source ∨ r.wd = .drain) : (ZX r).lookup ("pace" : Str) = some (.int r.pace) := by
 refine (qe (by decide +kernel)).trans ((qe (by decide +kernel)).trans ?_)
 unfold Xg
 rcases h with h | h <;> (rw [h]; exact xC)
theorem VO {r : Row} (h : r.wd = .source) : (ZX r).lookup ("kinds" : Str) = some (.ints r.kinds) := by
 refine (qe (by decide +kernel)).trans ((qe (by decide +kernel)).trans ?_)
 unfold Xg
 rw [h]
 exact (qe (by decide +kernel)).trans xC
theorem zaO {r : Row} {k : Int} (h : r.wd = .sieve) (e : r.kinds = [k]) : (ZX r).lookup ("kind" : Str) = some (.int k) := by
 refine (qe (by decide +kernel)).trans ((qe (by decide +kernel)).trans ?_)
 unfold Xg
 rw [h, e]
 exact xC
theorem zcc {r : Row} {f : Str} (h1 : f ≠ "ins") (h2 : f ≠ "outs") (h3 : f ≠ "pace") (h4 : f ≠ "kinds") (h5 : f ≠ "kind") : (ZX r).lookup f = none := by
 refine (qe h1).trans ((qe h2).trans ?_)
 unfold Xg
 split
 ·exact (qe h3).trans (qe h4)
 ·exact qe h3
 ·exact qe h5
 ·rfl
def KnP (a : Ad) (H : Hp) (p : Addr → Prop) (v : V) (r : Row) : Prop := Rep H p v (xK a r)
theorem KnP.keep {H H' : Hp} {p q : Addr → Prop} {v : V} {r : Row} (h : KnP a H p v r) (s : ∀ b o, p b → H b = some o → q b ∧ H' b = some o) : KnP a H' q v r := Rep.keep s h
theorem KnP.inv {H : Hp} {p : Addr → Prop} {v : V} {r : Row} (h : KnP a H p v r) : ∃ y dx l1 l2 l3 fs, v = .ref y ∧ p y ∧ p l1 ∧ p l2 ∧ (r.wd = .source → p l3) ∧ H y = some (.ins (jr a r.wd) dx fs) ∧ fs.lookup ("ins" : Str) = some (.ref l1) ∧ fs.lookup ("outs" : Str) = some (.ref l2) ∧
  fs.lookup ("copied" : Str) = none ∧ H l1 = some (.lst (iv r.ins)) ∧ H l2 = some (.lst (iv r.outs)) ∧ (r.wd = .source → fs.lookup ("kinds" : Str) = some (.ref l3) ∧ H l3 = some (.lst (iv r.kinds))) ∧ ((r.wd = .source ∨ r.wd = .drain) → fs.lookup ("pace" : Str) = some (.int r.pace)) := by
 obtain ⟨y, dx, fs, rfl, py, hy, g1, g2⟩ := Rep.ob' h
 obtain ⟨u1, e1, r1⟩ := g1 _ _ (zbA r)
 obtain ⟨l1, rfl, p1, h1⟩ := r1.ints'
 obtain ⟨u2, e2, r2⟩ := g1 _ _ (zaN r)
 obtain ⟨l2, rfl, p2, h2⟩ := r2.ints'
 have e3 := g2 ("copied" : Str) (zcc (by decide +kernel) (by decide +kernel) (by decide +kernel) (by decide +kernel) (by decide +kernel))
 have pc : (r.wd = .source ∨ r.wd = .drain) → fs.lookup ("pace" : Str) = some (.int r.pace) := fun z => by
  obtain ⟨u, e, ru⟩ := g1 _ _ (zaM z)
  cases ru
  exact e
 by_cases hs : r.wd = .source
 ·obtain ⟨u3, e4, r3⟩ := g1 _ _ (VO hs)
  obtain ⟨l3, rfl, p3, h3⟩ := r3.ints'
  exact ⟨y, dx, l1, l2, l3, fs, rfl, py, p1, p2, fun _ => p3, hy, e1, e2, e3, h1, h2, fun _ => ⟨e4, h3⟩, pc⟩
 ·exact ⟨y, dx, l1, l2, l1, fs, rfl, py, p1, p2, fun z => absurd z hs, hy, e1, e2, e3, h1, h2, fun z => absurd z hs, pc⟩
theorem Xo {l1 l2 : Addr} : kf l1 l2 = ([(("ins" : Str), V.ref l1), (("outs" : Str), V.ref l2)] : List (Str × V)) := by
 unfold kf; simp only [z7]; rw [if_neg (by decide +kernel)]
theorem zbP {l1 l2 : Addr} {n : Int} : df l1 l2 n = ([(("ins" : Str), V.ref l1), (("outs" : Str), V.ref l2), (("pace" : Str), V.int n)] : List (Str × V)) := by
 unfold df; rw [Xo]; simp only [z7]; rw [if_neg (by decide +kernel), if_neg (by decide +kernel)]
theorem zcH {l1 l2 l3 : Addr} {n : Int} : sf l1 l2 n l3 = ([(("ins" : Str), V.ref l1), (("outs" : Str), V.ref l2), (("pace" : Str), V.int n), (("kinds" : Str), V.ref l3)] : List (Str × V)) := by
 unfold sf; rw [zbP]; simp only [z7]; rw [if_neg (by decide +kernel), if_neg (by decide +kernel), if_neg (by decide +kernel)]
theorem zcC {l1 l2 : Addr} {n : Int} : vf l1 l2 n = ([(("ins" : Str), V.ref l1), (("outs" : Str), V.ref l2), (("kind" : Str), V.int n)] : List (Str × V)) := by
 unfold vf; rw [Xo]; simp only [z7]; rw [if_neg (by decide +kernel), if_neg (by decide +kernel)]
theorem xy {H : Hp} {p : Addr → Prop} {l C dx : Addr} {fs : List (Str × V)} {gs : List (Str × D)} (pl : p l) (e : H l = some (.ins C dx fs)) (n : fs.map (·.1) = gs.map (·.1)) (r : Reps H p (fs.map (·.2)) (gs.map (·.2))) : Rep H p (.ref l) (.ob C gs) :=
 .ob pl e n fun i f g hf hg => r.g i f.2 g.2 (by rw [List.getElem?_map, hf]; rfl) (by rw [List.getElem?_map, hg]; rfl)
section
variable {H : Hp} {p : Addr → Prop} {z dz m1 m2 m3 : Addr} {ins outs kinds : List Int} {pace : Int}
theorem QK (q0 : p z) (q1 : p m1) (q2 : p m2) (q3 : p m3) (h0 : H z = some (.ins a.Source dz (sf m1 m2 pace m3))) (h1 : H m1 = some (.lst (iv ins))) (h2 : H m2 = some (.lst (iv outs))) (h3 : H m3 = some (.lst (iv kinds))) : KnP a H p (.ref z) ⟨.source, ins, outs, pace, kinds⟩ := by
 rw [zcH] at h0
 exact xy q0 h0 rfl (.cons (zX q1 h1) (.cons (zX q2 h2) (.cons .int (.cons (zX q3 h3) .nil))))
theorem Xm (q0 : p z) (q1 : p m1) (q2 : p m2) (h0 : H z = some (.ins a.Drain dz (df m1 m2 pace))) (h1 : H m1 = some (.lst (iv ins))) (h2 : H m2 = some (.lst (iv outs))) : KnP a H p (.ref z) ⟨.drain, ins, outs, pace, kinds⟩ := by
 rw [zbP] at h0
 exact xy q0 h0 rfl (.cons (zX q1 h1) (.cons (zX q2 h2) (.cons .int .nil)))
theorem Xk {k : Int} (q0 : p z) (q1 : p m1) (q2 : p m2) (h0 : H z = some (.ins a.Sieve dz (vf m1 m2 k))) (h1 : H m1 = some (.lst (iv ins))) (h2 : H m2 = some (.lst (iv outs))) : KnP a H p (.ref z) ⟨.sieve, ins, outs, pace, [k]⟩ := by
 rw [zcC] at h0
 exact xy q0 h0 rfl (.cons (zX q1 h1) (.cons (zX q2 h2) (.cons .int .nil)))
theorem QL (q0 : p z) (q1 : p m1) (q2 : p m2) (h0 : H z = some (.ins a.Parter dz (kf m1 m2))) (h1 : H m1 = some (.lst (iv ins))) (h2 : H m2 = some (.lst (iv outs))) : KnP a H p (.ref z) ⟨.parter, ins, outs, pace, kinds⟩ := by
 rw [Xo] at h0
 exact xy q0 h0 rfl (.cons (zX q1 h1) (.cons (zX q2 h2) .nil))
theorem Xl (q0 : p z) (q1 : p m1) (q2 : p m2) (h0 : H z = some (.ins a.FirstParter dz (kf m1 m2))) (h1 : H m1 = some (.lst (iv ins))) (h2 : H m2 = some (.lst (iv outs))) : KnP a H p (.ref z) ⟨.first, ins, outs, pace, kinds⟩ := by
 rw [Xo] at h0
 exact xy q0 h0 rfl (.cons (zX q1 h1) (.cons (zX q2 h2) .nil))
theorem QM (q0 : p z) (q1 : p m1) (q2 : p m2) (h0 : H z = some (.ins a.Joiner dz (kf m1 m2))) (h1 : H m1 = some (.lst (iv ins))) (h2 : H m2 = some (.lst (iv outs))) : KnP a H p (.ref z) ⟨.joiner, ins, outs, pace, kinds⟩ := by
 rw [Xo] at h0
 exact xy q0 h0 rfl (.cons (zX q1 h1) (.cons (zX q2 h2) .nil))
end
def BtP (a : Ad) (H : Hp) (p : Addr → Prop) (v : V) (r : Int × Int) : Prop := Rep H p v (wA a r)
theorem BtP.keep {H H' : Hp} {p q : Addr → Prop} {v : V} {r : Int × Int} (h : BtP a H p v r) (s : ∀ b o, p b → H b = some o → q b ∧ H' b = some o) : BtP a H' q v r := Rep.keep s h
theorem zcZ {rm pc : Int} : bf rm pc = ([(("room" : Str), V.int rm), (("pace" : Str), V.int pc)] : List (Str × V)) := by
 unfold bf; simp only [z7]; rw [if_neg (by decide +kernel)]
theorem zbQ {H : Hp} {p : Addr → Prop} {y dx : Addr} {rm pc : Int} (q0 : p y) (h0 : H y = some (.ins a.Belt dx (bf rm pc))) : BtP a H p (.ref y) (rm, pc) := by
 rw [zcZ] at h0
 exact xy q0 h0 rfl (.cons .int (.cons .int .nil))
theorem BtP.inv {H : Hp} {p : Addr → Prop} {v : V} {r : Int × Int} (h : BtP a H p v r) : ∃ y dx fs, v = .ref y ∧ p y ∧ H y = some (.ins a.Belt dx fs) ∧ fs.lookup ("room" : Str) = some (.int r.1) ∧ fs.lookup ("pace" : Str) = some (.int r.2) := by
 obtain ⟨y, dx, fs, rfl, py, hy, g1, g2⟩ := Rep.ob' h
 obtain ⟨u1, e1, r1⟩ := g1 ("room" : Str) _ xC
 obtain ⟨u2, e2, r2⟩ := g1 ("pace" : Str) _ ((qe (by decide +kernel)).trans xC)
 cases r1
 cases r2
 exact ⟨y, dx, fs, rfl, py, hy, e1, e2⟩
structure Kns (a : Ad) (H : Hp) (p : Addr → Prop) (vs : List V) (rs : List Row) : Prop where
 len : vs.length = rs.length
 g : ∀ (i : Nat) v r, vs[i]? = some v → rs[i]? = some r → KnP a H p v r
theorem Kns.keep {H H' : Hp} {p q : Addr → Prop} {vs : List V} {rs : List Row} (h : Kns a H p vs rs) (s : ∀ b o, p b → H b = some o → q b ∧ H' b = some o) : Kns a H' q vs rs := ⟨h.len, fun i v r e1 e2 => (h.g i v r e1 e2).keep s⟩
theorem Kns.nil {H : Hp} {p : Addr → Prop} : Kns a H p [] [] := ⟨rfl, fun i v r h => by simp at h⟩
theorem Kns.append {H : Hp} {p : Addr → Prop} {vs us : List V} {rs qs : List Row} (h : Kns a H p vs rs) (k : Kns a H p us qs) : Kns a H p (vs ++ us) (rs ++ qs) := by
 refine ⟨by rw [List.length_append, List.length_append, h.len, k.len], fun i v r e1 e2 => ?_⟩
 by_cases hi : i < vs.length
 ·rw [List.getElem?_append_left hi] at e1
  rw [List.getElem?_append_left (by rw [← h.len]; exact hi)] at e2
  exact h.g i v r e1 e2
 ·rw [List.getElem?_append_right (by omega)] at e1
  rw [List.getElem?_append_right (by rw [← h.len]; omega), ← h.len] at e2
  exact k.g _ v r e1 e2
theorem Kns.one {H : Hp} {p : Addr → Prop} {v : V} {r : Row} (h : KnP a H p v r) : Kns a H p [v] [r] :=
 ⟨rfl, fun i u q e1 e2 => by
  have hi := (List.getElem?_eq_some_iff.mp e1).1
  have : i = 0 := by simp at hi; omega
  subst this
  have e1 : v = u := by simpa using e1
  have e2 : r = q := by simpa using e2
  rw [← e1, ← e2]; exact h⟩
theorem Kns.at {H : Hp} {p : Addr → Prop} {vs : List V} {rs : List Row} (h : Kns a H p vs rs) {i : Nat} {v : V} (e : vs[i]? = some v) : ∃ r, rs[i]? = some r ∧ KnP a H p v r := by
 have hi := (List.getElem?_eq_some_iff.mp e).1
 have e2 : rs[i]? = some (rs[i]'(by rw [← h.len]; exact hi)) := List.getElem?_eq_getElem _
 exact ⟨_, e2, h.g i v _ e e2⟩
structure Bts (a : Ad) (H : Hp) (p : Addr → Prop) (vs : List V) (rs : List (Int × Int)) : Prop where
 len : vs.length = rs.length
 g : ∀ (i : Nat) v r, vs[i]? = some v → rs[i]? = some r → BtP a H p v r
theorem Bts.keep {H H' : Hp} {p q : Addr → Prop} {vs : List V} {rs : List (Int × Int)} (h : Bts a H p vs rs) (s : ∀ b o, p b → H b = some o → q b ∧ H' b = some o) : Bts a H' q vs rs := ⟨h.len, fun i v r e1 e2 => (h.g i v r e1 e2).keep s⟩
theorem Bts.nil {H : Hp} {p : Addr → Prop} : Bts a H p [] [] := ⟨rfl, fun i v r h => by simp at h⟩
theorem Bts.push {H : Hp} {p : Addr → Prop} {vs : List V} {v : V} {rs : List (Int × Int)} {r : Int × Int} (h : Bts a H p vs rs) (k : BtP a H p v r) : Bts a H p (vs ++ [v]) (rs ++ [r]) := by
 refine ⟨by rw [List.length_append, List.length_append, h.len]; rfl, fun i u q e1 e2 => ?_⟩
 by_cases hi : i < vs.length
 ·rw [List.getElem?_append_left hi] at e1
  rw [List.getElem?_append_left (by rw [← h.len]; exact hi)] at e2
  exact h.g i u q e1 e2
 ·rw [List.getElem?_append_right (by omega)] at e1
  rw [List.getElem?_append_right (by rw [← h.len]; omega), ← h.len] at e2
  have hj := (List.getElem?_eq_some_iff.mp e1).1
  have : i - vs.length = 0 := by simp at hj; omega
  rw [this] at e1 e2
  have e1 : v = u := by simpa using e1
  have e2 : r = q := by simpa using e2
  rw [← e1, ← e2]; exact k
theorem Bts.at {H : Hp} {p : Addr → Prop} {vs : List V} {rs : List (Int × Int)} (h : Bts a H p vs rs) {i : Nat} {v : V} (e : vs[i]? = some v) : ∃ r, rs[i]? = some r ∧ BtP a H p v r := by
 have hi := (List.getElem?_eq_some_iff.mp e).1
 have e2 : rs[i]? = some (rs[i]'(by rw [← h.len]; exact hi)) := List.getElem?_eq_getElem _
 exact ⟨_, e2, h.g i v _ e e2⟩
abbrev New (H : Hp) : Addr → Prop := fun b => H b = none
def qv (a : Ad) (wd : Wd) : Sp := fun vs H Q _ => ∃ (y : Addr) (r : Row) (p : Addr → Prop), vs = [.ref y] ∧ KnP a H p (.ref y) r ∧ r.wd = wd ∧ r.ok ∧ ∀ v H', Same H H' → KnP a H' (New H) v r → Q v H'
theorem Kns.reps {H : Hp} {p : Addr → Prop} {vs : List V} {rs : List Row} (h : Kns a H p vs rs) : Reps H p vs (rs.map (xK a)) := ⟨by rw [h.len, List.length_map], fun i v d e1 e2 => by
 rw [List.getElem?_map, Option.map_eq_some_iff] at e2
 obtain ⟨r, e2, rfl⟩ := e2
 exact h.g i v r e1 e2⟩
theorem Bts.reps {H : Hp} {p : Addr → Prop} {vs : List V} {rs : List (Int × Int)} (h : Bts a H p vs rs) : Reps H p vs (rs.map (wA a)) := ⟨by rw [h.len, List.length_map], fun i v d e1 e2 => by
 rw [List.getElem?_map, Option.map_eq_some_iff] at e2
 obtain ⟨r, e2, rfl⟩ := e2
 exact h.g i v r e1 e2⟩
theorem Kns.of {H : Hp} {p : Addr → Prop} {vs : List V} {rs : List Row} (h : Reps H p vs (rs.map (xK a))) : Kns a H p vs rs := ⟨by rw [h.len, List.length_map], fun i v r e1 e2 => h.g i v _ e1 (by rw [List.getElem?_map, e2]; rfl)⟩
theorem Bts.of {H : Hp} {p : Addr → Prop} {vs : List V} {rs : List (Int × Int)} (h : Reps H p vs (rs.map (wA a))) : Bts a H p vs rs := ⟨by rw [h.len, List.length_map], fun i v r e1 e2 => h.g i v _ e1 (by rw [List.getElem?_map, e2]; rfl)⟩
theorem vG (T : Txt K mg a) (F : Fun K "copied" "Source.copied" qT f fd) : FnOk P w K mg base (CXr P w) 4 f fd ["self"] (qv a .source) := by
 refine F.okx vA ?_ ?_
 ·walk_at "i"
 walk_at "k"
 refine oE3 h fun y z1_ p z2_ => oA5 z2_ fun z3_ hK hw hok k => ?_
 clear h
 obtain ⟨wd, ins, outs, pace, kinds⟩ := z1_
 subst z3_
 cases hw
 have hK0 := hK
 refine oE6 hK.inv fun y' dx l1 l2 l3 fs z1_ => oA9 z1_ fun e p0 p1 p2 p3 h0 e1 e2 z2_ => oA5 z2_ fun e3 h1 h2 h3 h4 => ?_
 cases e
 obtain ⟨hk, hk'⟩ := h3 rfl
 have hp := h4 (.inl rfl)
 refine oA7 hok fun q1 z1_ q3 q4 q5 q6 q7 => ?_
 clear hok
 obtain ⟨ov, q2⟩ := z1_
 simp only at q1 q2
 subst q1 q2
 walk_at "T"
 refine ⟨_, (ze (zA (jm ⟨rfl, rfl, rfl⟩ hr (za (zF (zj (pq 0) rfl) zc) (za (zj (pq 0) rfl) (za (zj (pq 0) rfl) zb)))))), ?_⟩
 walk_at "go"
 refine iE4 a.Source _ _ _ ⟨(Xp T).mono, iE5 y a.Source dx fs _ (iA6 rfl h0 T.C_Source T.N_Source_outs e2 (zz (SqL.of h2) at0 ?_))⟩
 refine ra h0 T.C_Source T.N_Source_pace hp ?_
 refine ra h0 T.C_Source T.N_Source_kinds hk ?_
 intro z dz hz hdz hne
 refine iE6 z dz l3 (.int ov) pace kinds (iA6 rfl upd_same (SqL.of (qd hz hdz hk')) (ne_of_none hk' hz) (fun _ H' m1 m2 m3 s' g1 g2 g3 g4 n1 n2 n3 => ⟨rfl, ?_⟩) (fun hbad => absurd (iA5 q3 q4 q5 q6 q7) hbad))
 exact k _ _ (Own.of_new hz hdz s') (QK (p := New H) (ins := []) (outs := [ov]) hz (zG n1) (zG n2) (zG n3) g1 g2 g3 g4)
theorem Zk (T : Txt K mg a) : MCal P w K mg base a.Source "copied" 4 ["self"] [] (qv a .source) := T.h_Source_copied.cal T.C_Source (vG T)
theorem Zj (T : Txt K mg a) (F : Fun K "copied" "Drain.copied" je f fd) : FnOk P w K mg base (CXr P w) 4 f fd ["self"] (qv a .drain) := by
 refine F.okx Zf ?_ ?_
 ·walk_at "i"
 walk_at "k"
 refine oE3 h fun y z1_ p z2_ => oA5 z2_ fun z3_ hK hw hok k => ?_
 clear h
 obtain ⟨wd, ins, outs, pace, kinds⟩ := z1_
 subst z3_
 cases hw
 have hK0 := hK
 refine oE6 hK.inv fun y' dx l1 l2 l3 fs z1_ => oA9 z1_ fun e p0 p1 p2 p3 h0 e1 e2 z2_ => oA5 z2_ fun e3 h1 h2 h3 h4 => ?_
 cases e
 have hp := h4 (.inr rfl)
 refine oA4 hok fun z1_ q2 q3 q4 => ?_
 clear hok
 obtain ⟨iv', q1⟩ := z1_
 simp only at q1 q2
 subst q1 q2
 walk_at "T"
 refine ⟨_, (ze (zA (jm ⟨rfl, rfl, rfl⟩ hr (za (zF (zj (pq 0) rfl) zc) (za (zj (pq 0) rfl) zb))))), ?_⟩
 walk_at "go"
 refine iE4 a.Drain _ _ _ ⟨(Jv T).mono, iE5 y a.Drain dx fs _ (iA6 rfl h0 T.C_Drain T.N_Drain_ins e1 (zz (SqL.of h1) at0 ?_))⟩
 refine ra h0 T.C_Drain T.N_Drain_pace hp ?_
 intro z dz hz hdz hne
 refine iE4 z dz (.int iv') pace (iA3 rfl upd_same ?_)
 rw [if_pos ⟨q3, q4⟩]
 intro H' m1 m2 s' g1 g2 g3 n1 n2
 exact ⟨rfl, k _ _ (Own.of_new hz hdz s') (Xm (p := New H) (ins := [iv']) (outs := []) hz (zG n1) (zG n2) g1 g2 g3)⟩
theorem ZW (T : Txt K mg a) : MCal P w K mg base a.Drain "copied" 4 ["self"] [] (qv a .drain) := T.h_Drain_copied.cal T.C_Drain (Zj T)
theorem vH (T : Txt K mg a) (F : Fun K "copied" "Parter.copied" qU f fd) : FnOk P w K mg base (CXr P w) 4 f fd ["self"] (qv a .parter) := by
 refine F.okx vB ?_ ?_
 ·walk_at "i"
 walk_at "k"
 refine oE3 h fun y z1_ p z2_ => oA5 z2_ fun z3_ hK hw hok k => ?_
 clear h
 obtain ⟨wd, ins, outs, pace, kinds⟩ := z1_
 subst z3_
 cases hw
 have hK0 := hK
 refine oE6 hK.inv fun y' dx l1 l2 l3 fs z1_ => oA9 z1_ fun e p0 p1 p2 p3 h0 e1 e2 z2_ => oA5 z2_ fun e3 h1 h2 h3 h4 => ?_
 cases e
 obtain ⟨⟨iv', q1⟩, q3, q4⟩ := hok
 simp only at q1 q3 q4
 subst q1
 walk_at "T"
 refine ⟨_, (ze (zA (jm ⟨rfl, rfl, rfl⟩ hr (za (zF (zj (pq 0) rfl) zc) (za (zj (pq 0) rfl) zb))))), ?_⟩
 walk_at "go"
 refine iE4 a.Parter _ _ _ ⟨(Xq T).mono, iE5 y a.Parter dx fs _ (iA6 rfl h0 T.C_Parter T.N_Parter_ins e1 (zz (SqL.of h1) at0 ?_))⟩
 refine ra h0 T.C_Parter T.N_Parter_outs e2 ?_
 intro z dz hz hdz hne
 refine iE5 z dz l2 (.int iv') (iv outs) (iA5 rfl upd_same (SqL.of (qd hz hdz h2)) (ne_of_none h2 hz) ?_)
 rw [if_pos (by rw [iv, List.length_map]; exact ⟨q3, q4⟩)]
 intro H' m1 m2 s' g1 g2 g3 n1 n2
 exact ⟨rfl, k _ _ (Own.of_new hz hdz s') (QL (p := New H) (ins := [iv']) (outs := outs) hz (zG n1) (zG n2) g1 g2 g3)⟩
theorem Zl (T : Txt K mg a) : MCal P w K mg base a.Parter "copied" 4 ["self"] [] (qv a .parter) := T.h_Parter_copied.cal T.C_Parter (vH T)
theorem xM (T : Txt K mg a) (F : Fun K "copied" "FirstParter.copied" ql f fd) : FnOk P w K mg base (CXr P w) 4 f fd ["self"] (qv a .first) := by
 refine F.okx xL ?_ ?_
 ·walk_at "i"
 walk_at "k"
 refine oE3 h fun y z1_ p z2_ => oA5 z2_ fun z3_ hK hw hok k => ?_
 clear h
 obtain ⟨wd, ins, outs, pace, kinds⟩ := z1_
 subst z3_
 cases hw
 have hK0 := hK
 refine oE6 hK.inv fun y' dx l1 l2 l3 fs z1_ => oA9 z1_ fun e p0 p1 p2 p3 h0 e1 e2 z2_ => oA5 z2_ fun e3 h1 h2 h3 h4 => ?_
 cases e
 obtain ⟨⟨iv', q1⟩, q3, q4⟩ := hok
 simp only at q1 q3 q4
 subst q1
 walk_at "T"
 refine ⟨_, (ze (zA (jm ⟨rfl, rfl, rfl⟩ hr (za (zF (zj (pq 0) rfl) zc) (za (zj (pq 0) rfl) zb))))), ?_⟩
 walk_at "go"
 refine iE4 a.FirstParter _ _ _ ⟨(wz T).mono, iE5 y a.FirstParter dx fs _ (iA6 rfl h0 T.C_FirstParter T.N_FirstParter_ins e1 (zz (SqL.of h1) at0 ?_))⟩
 refine ra h0 T.C_FirstParter T.N_FirstParter_outs e2 ?_
 intro z dz hz hdz hne
 refine iE5 z dz l2 (.int iv') (iv outs) (iA5 rfl upd_same (SqL.of (qd hz hdz h2)) (ne_of_none h2 hz) ?_)
 rw [if_pos (by rw [iv, List.length_map]; exact ⟨q3, q4⟩)]
 intro H' m1 m2 s' g1 g2 g3 n1 n2
 exact ⟨rfl, k _ _ (Own.of_new hz hdz s') (Xl (p := New H) (ins := [iv']) (outs := outs) hz (zG n1) (zG n2) g1 g2 g3)⟩
theorem xU (T : Txt K mg a) : MCal P w K mg base a.FirstParter "copied" 4 ["self"] [] (qv a .first) := T.h_FirstParter_copied.cal T.C_FirstParter (xM T)
theorem Zh (T : Txt K mg a) (F : Fun K "copied" "Sieve.copied" jd f fd) : FnOk P w K mg base (CXr P w) 4 f fd ["self"] (qv a .sieve) := by
 refine F.okx Zd ?_ ?_
 ·walk_at "i"
 walk_at "k"
 refine oE3 h fun y z1_ p z2_ => oA5 z2_ fun z3_ hK hw hok k => ?_
 clear h
 obtain ⟨wd, ins, outs, pace, kinds⟩ := z1_
 subst z3_
 cases hw
 have hK0 := hK
 refine oE6 hK.inv fun y' dx l1 l2 l3 fs z1_ => oA9 z1_ fun e p0 p1 p2 p3 h0 e1 e2 z2_ => oA5 z2_ fun e3 h1 h2 h3 h4 => ?_
 cases e
 refine oA3 hok fun z1_ q3 z2_ => oE1 z2_ fun kk z3_ => oA3 z3_ fun q4 q5 q6 => ?_
 clear hok
 obtain ⟨iv', q1⟩ := z1_
 simp only at q1 q3 q4
 subst q1 q4
 walk_at "T"
 refine ⟨_, (ze (zA (jm ⟨rfl, rfl, rfl⟩ hr (za (zF (zj (pq 0) rfl) zc) (za (zj (pq 0) rfl) (za (zj (pq 0) rfl) zb)))))), ?_⟩
 walk_at "go"
 refine iE4 a.Sieve _ _ _ ⟨(WL T).mono, iE5 y a.Sieve dx fs _ (iA6 rfl h0 T.C_Sieve T.N_Sieve_ins e1 (zz (SqL.of h1) at0 ?_))⟩
 refine ra h0 T.C_Sieve T.N_Sieve_outs e2 ?_
 refine zbm hK0 T.C_Sieve T.N_Sieve_kind (zaO rfl rfl) fun u ru => ?_
 cases ru
 intro z dz hz hdz hne
 refine iE6 z dz l2 (.int iv') (iv outs) kk (iA5 rfl upd_same (SqL.of (qd hz hdz h2)) (ne_of_none h2 hz) ?_)
 rw [if_pos (by rw [iv, List.length_map]; exact ⟨q3, q5, q6⟩)]
 intro H' m1 m2 s' g1 g2 g3 n1 n2
 exact ⟨rfl, k _ _ (Own.of_new hz hdz s') (Xk (p := New H) (ins := [iv']) (outs := outs) hz (zG n1) (zG n2) g1 g2 g3)⟩
theorem ZV (T : Txt K mg a) : MCal P w K mg base a.Sieve "copied" 4 ["self"] [] (qv a .sieve) := T.h_Sieve_copied.cal T.C_Sieve (Zh T)
theorem vI (T : Txt K mg a) (F : Fun K "copied" "Joiner.copied" qV f fd) : FnOk P w K mg base (CXr P w) 4 f fd ["self"] (qv a .joiner) := by
 refine F.okx vC ?_ ?_
 ·walk_at "i"
 walk_at "k"
 refine oE3 h fun y z1_ p z2_ => oA5 z2_ fun z3_ hK hw hok k => ?_
 clear h
 obtain ⟨wd, ins, outs, pace, kinds⟩ := z1_
 subst z3_
 cases hw
 have hK0 := hK
 refine oE6 hK.inv fun y' dx l1 l2 l3 fs z1_ => oA9 z1_ fun e p0 p1 p2 p3 h0 e1 e2 z2_ => oA5 z2_ fun e3 h1 h2 h3 h4 => ?_
 cases e
 obtain ⟨⟨ov, q1⟩, q3, q4⟩ := hok
 simp only at q1 q3 q4
 subst q1
 walk_at "T"
 refine ⟨_, (ze (zA (jm ⟨rfl, rfl, rfl⟩ hr (za (zj (pq 0) rfl) (za (zF (zj (pq 0) rfl) zc) zb))))), ?_⟩
 walk_at "go"
 refine iE4 a.Joiner _ _ _ ⟨(Xr T).mono, iE5 y a.Joiner dx fs _ (iA6 rfl h0 T.C_Joiner T.N_Joiner_ins e1 ?_)⟩
 refine ra h0 T.C_Joiner T.N_Joiner_outs e2 (zz (SqL.of h2) at0 ?_)
 intro z dz hz hdz hne
 refine iE5 z dz l1 (.int ov) (iv ins) (iA5 rfl upd_same (SqL.of (qd hz hdz h1)) (ne_of_none h1 hz) ?_)
 rw [if_pos (by rw [iv, List.length_map]; exact ⟨q3, q4⟩)]
 intro H' m1 m2 s' g1 g2 g3 n1 n2
 exact ⟨rfl, k _ _ (Own.of_new hz hdz s') (QM (p := New H) (ins := ins) (outs := [ov]) hz (zG n1) (zG n2) g1 g2 g3)⟩
theorem Zm (T : Txt K mg a) : MCal P w K mg base a.Joiner "copied" 4 ["self"] [] (qv a .joiner) := T.h_Joiner_copied.cal T.C_Joiner (vI T)
theorem CT (T : Txt K mg a) (wd : Wd) : Cls K (jr a wd) := by
 cases wd
 ·exact T.C_Source
 ·exact T.C_Drain
 ·exact T.C_Parter
 ·exact T.C_FirstParter
 ·exact T.C_Sieve
 ·exact T.C_Joiner
theorem NI (T : Txt K mg a) (wd : Wd) : NoAttr K (jr a wd) "ins" := by
 cases wd
 ·exact T.N_Source_ins
 ·exact T.N_Drain_ins
 ·exact T.N_Parter_ins
 ·exact T.N_FirstParter_ins
 ·exact T.N_Sieve_ins
 ·exact T.N_Joiner_ins
theorem NO (T : Txt K mg a) (wd : Wd) : NoAttr K (jr a wd) "outs" := by
 cases wd
 ·exact T.N_Source_outs
 ·exact T.N_Drain_outs
 ·exact T.N_Parter_outs
 ·exact T.N_FirstParter_outs
 ·exact T.N_Sieve_outs
 ·exact T.N_Joiner_outs
theorem WT (T : Txt K mg a) (wd : Wd) : WI K (jr a wd) := by
 cases wd
 ·exact T.W_Source
 ·exact T.W_Drain
 ·exact T.W_Parter
 ·exact T.W_FirstParter
 ·exact T.W_Sieve
 ·exact T.W_Joiner
theorem zaJ (T : Txt K mg a) (wd : Wd) : MCal P w K mg base (jr a wd) "copied" 4 ["self"] [] (qv a wd) := by
 cases wd
 ·exact Zk T
 ·exact ZW T
 ·exact Zl T
 ·exact xU T
 ·exact ZV T
 ·exact Zm T
theorem QD : ∀ (xs ys : List Int), xs.Perm ys → xs.Pairwise (· ≤ ·) → ys.Pairwise (· ≤ ·) → xs = ys
 | [], ys, h, _, _ => (List.nil_perm.mp h).symm
 | x :: xs, [], h, _, _ => absurd h.length_eq (by simp)
 | x :: xs, y :: ys, h, hx, hy => by
  have e : x = y := by
   have h1 : y ∈ x :: xs := h.mem_iff.mpr (by simp)
   have h2 : x ∈ y :: ys := h.mem_iff.mp (by simp)
   rcases List.mem_cons.mp h1 with e | m1
   ·exact e.symm
   rcases List.mem_cons.mp h2 with e | m2
   ·exact e
   have := (List.pairwise_cons.mp hx).1 y m1
   have := (List.pairwise_cons.mp hy).1 x m2
   omega
  subst e
  rw [QD xs ys h.cons_inv (List.pairwise_cons.mp hx).2 (List.pairwise_cons.mp hy).2]
def rgI (n : Nat) : List Int := (List.range n).map fun (i : Nat) => (i : Int)
theorem XZ (n : Nat) : (rgI n).Pairwise (· ≤ ·) := by
 unfold rgI
 rw [List.pairwise_map]
 exact List.pairwise_lt_range.imp fun {i j} h => by omega
theorem zbk (n : Nat) : rgL 0 n = iv (rgI n) := by
 simp [rgL, iv, rgI, List.map_map, Function.comp_def]
theorem ZC : ∀ ms ns : List Int, jQ (iv ms) (iv ns) = decide (ms = ns)
 | [], [] => rfl
 | [], _ :: _ => rfl
 | _ :: _, [] => rfl
 | m :: ms, n :: ns => by
  show (eqV (.int m) (.int n) && jQ (iv ms) (iv ns)) = _
  rw [ZC ms ns]
  by_cases e : m = n
  ·subst e; simp [eqV]
  ·simp [eqV, e]
theorem WQ (ns : List Int) : (iv ns).all xn = true := List.all_eq_true.mpr fun x hx => by
 obtain ⟨n, _, rfl⟩ := List.mem_map.mp hx
 rfl
theorem zbl {H : Hp} {Q : VK} {p q : Addr} {ms ns : List Int} (h1 : SqL K H p (iv ms)) (h2 : SqL K H q (iv ns)) (k : Q (.bl (!decide (ms = ns))) H) : Vt K (.ref p) (.ref q) H Q :=
 .inr (.inl ⟨p, q, iv ms, iv ns, rfl, rfl, .inl ⟨h1, h2⟩, WQ ms, WQ ns, by rw [ZC]; exact k⟩)
def vT (K : PySem.W.Frag) (a : Ad) : Sp := fun vs H Q E => ∃ (bl kl : Addr) (xs ys : List V), vs = [.ref bl, .ref kl] ∧ SqL K H bl xs ∧ SqL K H kl ys ∧ if (1 ≤ xs.length ∧ xs.length ≤ 24) ∧ 1 ≤ ys.length ∧ ys.length ≤ 24 then Q .non H else E (.ref a.BadWork) none H
theorem Qp (T : Txt K mg a) (F : Fun K "check_size" "check_size" jJ f fd) : FnOk P w K mg base (CXr P w) 1 f fd ["belts", "knots"] (vT K a) := by
 refine F.okx Qh ?_ ?_
 ·walk_at "i"
 walk_at "k"
 refine oE4 h fun bl kl xs ys z1_ => oA4 z1_ fun z2_ h1 h2 k => ?_
 clear h
 subst z2_
 obtain ⟨t1, g1⟩ := T.g_MOST_BELTS
 obtain ⟨t2, g2⟩ := T.g_MOST_KNOTS
 walk_at "T"
 refine ⟨_, (zm (zL (jT (jz jW jW zc (zC zO zN (za (pq 0) zb)) qG))  (ze (qQ ⟨rfl, rfl, rfl⟩ rfl (za j7 zb)))  zq)  (ze (zL (jT (jz jW jW zc (zC zO zN (za (pq 1) zb)) qG))  (ze (qQ ⟨rfl, rfl, rfl⟩ rfl (za j7 zb)))  zq))), ?_⟩
 walk_at "go"
 have bad : ¬ ((1 ≤ xs.length ∧ xs.length ≤ 24) ∧ 1 ≤ ys.length ∧ ys.length ≤ 24) → ∃ C, mg "BadWork" = some (Value.ref C) ∧ XC K C ∧ E (Value.ref C) none H := fun h => by
  rw [if_neg h] at k
  exact ⟨a.BadWork, iA3 T.g_BadWork T.X_BadWork k⟩
 refine ⟨_, .inl ⟨_, h1, rfl⟩, ?_⟩
 walk_at "go"
 refine zR (fun b1 => ?_) (fun b1 => bad (by omega))
 refine iE2 (.int 24) _ (iA3 g1 ⟨_, rfl⟩ ?_)
 walk_at "go"
 refine zR (fun b2 => bad (by omega)) (fun b2 => ?_)
 walk_at "go"
 refine ⟨_, .inl ⟨_, h2, rfl⟩, ?_⟩
 walk_at "go"
 refine zR (fun b3 => ?_) (fun b3 => bad (by omega))
 refine iE2 (.int 24) _ (iA3 g2 ⟨_, rfl⟩ ?_)
 walk_at "go"
 refine zR (fun b4 => bad (by omega)) (fun b4 => ?_)
 rw [if_pos (by omega)] at k
 walk_at "go"
 exact k
theorem JH (T : Txt K mg a) : Cal P w K mg base "check_size" 1 ["belts", "knots"] [] (vT K a) := T.h_check_size.cal (Qp T)
def ZB (K : PySem.W.Frag) (a : Ad) : Sp := fun vs H Q E => ∃ (l : Addr) (ns : List Int) (n : Nat), vs = [.ref l, .int n] ∧ SqL K H l (iv ns) ∧ ns.length < 64 ∧ n ≤ 1000 ∧ (ns.Perm (rgI n) → ∀ H', Same H H' → Q .non H') ∧ (¬ ns.Perm (rgI n) → ∀ H', Same H H' → E (.ref a.BadWork) none H')
theorem wI (T : Txt K mg a) (F : Fun K "check_each_once" "check_each_once" qF f fd) : FnOk P w K mg base (CXr P w) 1 f fd ["named", "size"] (ZB K a) := by
 refine F.okx wE ?_ ?_
 ·walk_at "i"
 walk_at "k"
 refine oE3 h fun l ns n z1_ => oA6 z1_ fun z2_ hl h64 hn kok kbad => ?_
 clear h
 subst z2_
 walk_at "T"
 refine ⟨_, (ze (zL (zw (ZQ hr.units1) (zC V7 V6 (za (pq 0) zb)) (jh (zbc rfl) qX (za (zb3 (za (pq 1) zb)) zb)) (zy _))  (ze (qQ ⟨rfl, rfl, rfl⟩ rfl (za j7 zb)))  zq)), ?_⟩
 walk_at "go"
 refine iE2 l ns (iA4 rfl hl h64 (fun ms q1 hp hs hq1 => ?_))
 walk_at "go"
 intro q2 hq2
 refine iE3 q2 0 n (iA4 rfl upd_same (iA5 (by omega) (by omega) (by omega) (by omega) (by omega)) (fun q3 hq3 => ?_))
 rw [show ((n : Int) - 0).toNat = n by omega, zbk]
 walk_at "go"
 have sm : Same H (upd (upd (upd H q1 (.lst (iv ms))) q2 (.rng 0 n)) q3 (.lst (iv (rgI n)))) := (zd hq1).trans ((zd hq2).trans (zd hq3))
 refine zbl (ms := ms) (ns := rgI n) (SqL.of (upd_keep (upd_keep upd_same hq2) hq3)) (SqL.of upd_same) ?_
 walk_at "go"
 refine zR (fun b1 => ?_) (fun b1 => ?_)
 ·refine ⟨a.BadWork, iA3 T.g_BadWork T.X_BadWork (kbad (fun z => b1 (QD _ _ (hp.trans z) hs (XZ n))) _ sm)⟩
 ·walk_at "go"
  refine kok ?_ _ sm
  have e : ms = rgI n := Decidable.of_not_not b1
  rw [← e]
  exact hp.symm
theorem j6 (T : Txt K mg a) : Cal P w K mg base "check_each_once" 1 ["named", "size"] [] (ZB K a) := T.h_check_each_once.cal (wI T)
def jG (rs : List Row) : List Int := rs.flatMap Row.outs
def qr (rs : List Row) : List Int := rs.flatMap Row.ins
def wf (l1 l2 : Addr) : List (Str × V) := z7 "knots" (.ref l2) (z7 "belts" (.ref l1) [])
def vv (bs : List (Int × Int)) (rs : List Row) : Prop := ((1 ≤ bs.length ∧ bs.length ≤ 24) ∧ 1 ≤ rs.length ∧ rs.length ≤ 24) ∧ (jG rs).Perm (rgI bs.length) ∧ (qr rs).Perm (rgI bs.length)
def wC (K : PySem.W.Frag) (a : Ad) : Sp := fun vs H Q E => ∃ (y dx bl kl : Addr) (bvs kvs : List V) (bs : List (Int × Int)) (rs : List Row) (p : Addr → Prop), vs = [.ref y, .ref bl, .ref kl] ∧ H y = some (.ins a.Work dx []) ∧ bl ≠ y ∧ kl ≠ y ∧ (∀ b, p b → b ≠ y) ∧
 H bl = some (.lst bvs) ∧ H kl = some (.lst kvs) ∧ Bts a H p bvs bs ∧ Kns a H p kvs rs ∧ (∀ b ∈ bs, zP b.1 b.2) ∧ (∀ r ∈ rs, r.ok) ∧ (jG rs).length < 64 ∧ (qr rs).length < 64 ∧ bs.length ≤ 1000 ∧
 (vv bs rs → ∀ H' l1 l2 bvs' kvs', Own H H' y → H' y = some (.ins a.Work dx (wf l1 l2)) → H' l1 = some (.lst bvs') → H' l2 = some (.lst kvs') → Bts a H' (New H) bvs' bs → Kns a H' (New H) kvs' rs → H l1 = none → H l2 = none → Q .non H') ∧
 (¬ vv bs rs → ∀ H', Same H H' → E (.ref a.BadWork) none H')
theorem Wr {rs : List Row} {i : Nat} {r : Row} (h : rs[i]? = some r) : jG (rs.take (i + 1)) = jG (rs.take i) ++ r.outs := by
 unfold jG; rw [List.take_add_one, h, List.flatMap_append]; simp
theorem QZ {rs : List Row} {i : Nat} {r : Row} (h : rs[i]? = some r) : qr (rs.take (i + 1)) = qr (rs.take i) ++ r.ins := by
 unfold qr; rw [List.take_add_one, h, List.flatMap_append]; simp
theorem jO (f : Row → List Int) (rs : List Row) (i : Nat) : ((rs.take i).flatMap f).length ≤ (rs.flatMap f).length := by
 conv => rhs; rw [← List.take_append_drop i rs, List.flatMap_append, List.length_append]
 omega
theorem Wk (xs ys : List Int) : iv xs ++ iv ys = iv (xs ++ ys) := by rw [iv, iv, iv, List.map_append]
theorem Jm (T : Txt K mg a) (F : Fun K "__init__" "Work.__init__" ja f fd) : FnOk P w K mg base (CXr P w) 5 f fd ["self", "belts", "knots"] (wC K a) := by
 refine F.okx Q8 ?_ ?_
 ·walk_at "i"
 walk_at "k"
 refine oE5 h fun y dx bl kl bvs z1_ => oE4 z1_ fun kvs bs rs p z2_ => oA9 z2_ fun z3_ hy nby nky hpy hb hk hB z4_ => oA8 z4_ fun hKs hbo hro h64 h64' hlb kok kbad => ?_
 clear h
 subst z3_
 walk_at "T"
 refine ⟨_, (zg (zl (zx ⟨rfl, rfl, rfl⟩ hr (za (pq 1) (za (pq 2) zb))))  (zg (zo 3 Q8.nd (zE zb))  (zg (zo 4 Q8.nd (zE zb))  (zg (qc qH rfl (zW (pq 2)) (zZ 5 Q8.nd)  (zg (zl (z5 PySem.F.plainAttrs_list PySem.F.slot_list_extend PySem.F.type_list_extend xj (pq 3) (za (zj (pq 5) rfl) zb)))  (ze (zl (z5 PySem.F.plainAttrs_list PySem.F.slot_list_extend PySem.F.type_list_extend xj (pq 4) (za (zj (pq 5) rfl) zb))))))  (zg (zl (zx ⟨rfl, rfl, rfl⟩ hr (za (pq 3) (za (zC zO zN (za (pq 1) zb)) zb))))  (zg (zl (zx ⟨rfl, rfl, rfl⟩ hr (za (pq 4) (za (zC zO zN (za (pq 1) zb)) zb))))  (zg (jf (pq 0) (j4 (vars := ["belt"]) (caps := []) (N := ["belt"]) (ON := ["self", "belts", "knots", "fed", "taken", "knot"]) (osc := zf ja) rfl rfl (by first | decide +kernel | kernel_rfl) rfl rfl (zW (pq 1)) (fun s H fp pins => (zZ 0 (show (["belt"] : List Str).Nodup from by decide +kernel))) (fun s H fp pins => z6) (fun s H fp pins => (zb4 hr (za (zj (pq 0) rfl) (za (zj (pq 0) rfl) zb))))) rfl)  (ze (jf (pq 0) (j4 (vars := ["knot"]) (caps := []) (N := ["knot"]) (ON := ["self", "belts", "knots", "fed", "taken", "knot"]) (osc := zf ja) rfl rfl (by first | decide +kernel | kernel_rfl) rfl rfl (zW (pq 2)) (fun s H fp pins => (zZ 0 (show (["knot"] : List Str).Nodup from by decide +kernel))) (fun s H fp pins => z6) (fun s H fp pins => (zay hr (pq 0)))) rfl))))))))), ?_⟩
 walk_at "go"
 refine uc (JH T).mono (iE4 bl kl bvs kvs (iA4 rfl (SqL.of hb) (SqL.of hk) (zR (fun b1 => ?_) (fun b1 => ?_))))
 rotate_left
 ·refine kbad (fun z => b1 ?_) H (Same.refl _)
  rw [hB.len, hKs.len]; exact z.1
 rw [hB.len, hKs.len] at b1
 walk_at "go"
 intro fl hfl
 walk_at "go"
 intro tl htl
 have nft : fl ≠ tl := ne_of_none upd_same htl
 have htl0 : H tl = none := zI htl
 walk_at "for"
 walk_at "go"
 have s2 : Same H (upd (upd H fl (.lst [])) tl (.lst [])) := (zd hfl).trans (zd htl)
 refine ⟨kl, rfl, .inl ⟨⟨_, SqL.of (s2 _ _ hk)⟩, ?_⟩⟩
 let M1_ : Nat → St → Hp → Prop := fun i σ H' => ∃ v5, σ = [some (.ref y), some (.ref bl), some (.ref kl), some (.ref fl), some (.ref tl), v5] ∧ Same H H' ∧ H' fl = some (.lst (iv (jG (rs.take i)))) ∧ H' tl = some (.lst (iv (qr (rs.take i))))
 refine qg (K := K) (a := kl) (xs := kvs) M1_ ⟨_, iA4 rfl s2 (upd_keep upd_same htl) upd_same⟩ (fun i σ H' _ ⟨_, _, s, _⟩ => SqL.of (s _ _ hk)) ?_ ?_
 ·intro i x σ H' hi zz_
  refine oE1 zz_ fun v5 z1_ => oA4 z1_ fun z2_ s3 e1 e2 => ?_
  clear zz_
  subst z2_
  obtain ⟨r, hr', hKn0⟩ := hKs.at hi
  refine oE6 hKn0.inv fun y1 dx1 l1 l2 l3 fs z1_ => oA9 z1_ fun z2_ p0 p1 p2 p3 h0 f1 f2 z3_ => oA5 z3_ fun f3 h1 h2 h3 h4 => ?_
  subst z2_
  have L1 := jO Row.outs rs i
  have L2' := jO Row.ins rs i
  have L3 := jO Row.outs rs (i + 1)
  have L4 := jO Row.ins rs (i + 1)
  have E1 := Wr hr'
  have E2 := QZ hr'
  have n1 : ∀ {b : Addr} {o : HO}, H b = some o → b ≠ fl := fun h => ne_of_none h hfl
  have n2 : ∀ {b : Addr} {o : HO}, H b = some o → b ≠ tl := fun h => ne_of_none h htl0
  walk_at "go"
  refine ⟨.inl ⟨rfl, _, SqL.of e1⟩, iE5 y1 (jr a r.wd) dx1 fs _ (iA6 rfl (s3 _ _ h0) (CT T _) (NO T _) f2 ?_)⟩
  refine iE4 fl l2 _ _ (iA6 rfl rfl e1 (s3 _ _ h2) ?_ ?_)
  ·refine Nat.le_of_lt (zh ?_)
   have := congrArg List.length E1
   rw [List.length_append] at this
   rw [iv, iv, List.length_map, List.length_map]
   unfold jG at this h64 ⊢
   omega
  walk_at "go"
  have e2' : upd H' fl (.lst (iv (jG (rs.take i)) ++ iv r.outs)) tl = some (.lst (iv (qr (rs.take i)))) := by rw [upd_ne (Ne.symm nft)]; exact e2
  refine ⟨.inl ⟨rfl, _, SqL.of e2'⟩, iE5 y1 (jr a r.wd) dx1 fs _ (iA6 rfl ?_ (CT T _) (NI T _) f1 ?_)⟩
  ·rw [upd_ne (n1 h0)]; exact s3 _ _ h0
  refine iE4 tl l1 _ (iv r.ins) (iA6 rfl rfl e2' ?_ ?_ ?_)
  ·rw [upd_ne (n1 h1)]; exact s3 _ _ h1
  ·refine Nat.le_of_lt (zh ?_)
   have := congrArg List.length E2
   rw [List.length_append] at this
   rw [iv, iv, List.length_map, List.length_map]
   unfold qr at this h64' ⊢
   omega
  refine ⟨_, iA4 rfl (fun b o hb => ?_) ?_ ?_⟩
  ·rw [upd_ne (n2 hb), upd_ne (n1 hb)]; exact s3 _ _ hb
  ·rw [upd_ne nft, upd_same, E1, Wk]
  ·rw [upd_same, E2, Wk]
 ·intro σ H1 zz_
  refine oE1 zz_ fun v5 z1_ => oA4 z1_ fun z2_ s3 e1 e2 => ?_
  clear zz_
  subst z2_
  rw [hKs.len, List.take_length] at e1 e2
  walk_at "go"
  refine uc (j6 T).mono ⟨m_len, ⟨_, ⟨.inl ⟨_, SqL.of (s3 _ _ hb), rfl⟩, ?_⟩⟩⟩
  rw [hB.len]
  refine iE3 fl (jG rs) bs.length (iA6 rfl (SqL.of e1) h64 hlb (fun g1 H2 s4 => ?_) (fun g1 H2 s4 => kbad (fun z => g1 z.2.1) _ (s3.trans s4)))
  walk_at "go"
  refine uc (j6 T).mono ⟨m_len, ⟨_, ⟨.inl ⟨_, SqL.of (s4 _ _ (s3 _ _ hb)), rfl⟩, ?_⟩⟩⟩
  rw [hB.len]
  refine iE3 tl (qr rs) bs.length (iA6 rfl (SqL.of (s4 _ _ e2)) h64' hlb (fun g2 H3 s5 => ?_) (fun g2 H3 s5 => kbad (fun z => g2 z.2.2) _ (s3.trans (s4.trans s5))))
  have kok := kok ⟨b1, g1, g2⟩
  have s6 := s3.trans (s4.trans s5)
  clear s3 s4 s5 e1 e2
  clear g1 g2
  walk_at "go"
  walk_at "lc"
  walk_at "go"
  refine ⟨bl, rfl, .inl ⟨⟨_, SqL.of (s6 _ _ hb)⟩, fun _ _ _ _ acc hacc => ?_⟩⟩
  have nacc : H acc = none := zD s6 hacc
  let M2_ : Nat → St → Hp → Prop := fun i σ H' => ∃ v us, σ = [v] ∧ Same H3 H' ∧ H' acc = some (.lst us) ∧ Bts a H' (fun b => H3 b = none ∧ b ≠ acc) us (bs.take i)
  refine qg (K := K) (a := bl) (xs := bvs) M2_ (iE2 _ ([]) (iA4 rfl (zd hacc) upd_same (by rw [List.take_zero]; exact .nil))) (fun i σ H' _ ⟨_, _, _, s, _⟩ => SqL.of (s _ _ (s6 _ _ hb))) ?_ ?_
  ·intro i x σ H' hi zz_
   refine oE2 zz_ fun v us z1_ => oA4 z1_ fun z2_ s7 e1 hU => ?_
   clear zz_
   subst z2_
   obtain ⟨⟨rm, pc⟩, hr', hBt0⟩ := hB.at hi
   refine oE3 hBt0.inv fun y1 dx1 fs z1_ => oA5 z1_ fun z2_ p0 h0 f1 f2 => ?_
   subst z2_
   have hok := hbo _ (List.mem_of_getElem? hr')
   have hil : i < bs.length := (List.getElem?_eq_some_iff.mp hr').1
   have h0' := s7 _ _ (s6 _ _ h0)
   walk_at "go"
   refine iE4 a.Belt _ _ _ ⟨(zaR T).mono, iE5 y1 a.Belt dx1 fs _ (iA6 rfl h0' T.C_Belt T.N_Belt_room f1 (iE5 y1 a.Belt dx1 fs _ (iA6 rfl h0' T.C_Belt T.N_Belt_pace f2 ?_)))⟩
   intro z dz hz hdz hne
   refine iE4 z dz rm pc (iA3 rfl upd_same ?_)
   rw [if_pos hok, QY]
   have sN : Same H' (upd (upd H' dz (.own z)) z (.ins a.Belt dz (bf rm pc))) := fun b o h => by rw [upd_ne (ne_of_none h hz), upd_ne (ne_of_none h hdz)]; exact h
   have hz' : upd (upd H' dz (.own z)) z (.ins a.Belt dz (bf rm pc)) z = some (.ins a.Belt dz (bf rm pc)) := upd_same
   generalize upd (upd H' dz (.own z)) z (.ins a.Belt dz (bf rm pc)) = H4 at sN hz' ⊢
   have hzn : z ≠ acc := fun q => by rw [q, e1] at hz; cases hz
   refine ⟨rfl, ⟨_, iA3 (sN _ _ e1) (zh (by have := hU.len; rw [List.length_take] at this; omega)) (iE2 _ (us ++ [.ref z]) (iA4 rfl (fun b o hb => ?_) upd_same ?_))⟩⟩
   ·rw [upd_ne (ne_of_none hb hacc)]; exact sN _ _ (s7 _ _ hb)
   ·rw [List.take_add_one, hr']
    refine Bts.push (hU.keep fun b o hp hb => ⟨hp, by rw [upd_ne hp.2]; exact sN _ _ hb⟩) (zbQ (p := fun b => H3 b = none ∧ b ≠ acc) ⟨zD s7 hz, hzn⟩ (by rw [upd_ne hzn]; exact hz'))
  ·intro σ H4 zz_
   refine oE2 zz_ fun v us z1_ => oA4 z1_ fun z2_ s7 e1 hU => ?_
   clear zz_
   subst z2_
   rw [hB.len, List.take_length] at hU
   have s8 := s6.trans s7
   have nacy : acc ≠ y := (ne_of_none hy nacc).symm
   walk_at "go"
   refine iE4 y a.Work dx ([]) (iA6 rfl (s8 _ _ hy) T.C_Work T.N_Work_belts (by decide) ?_)
   have o9 : Own H (upd H4 y (.ins a.Work dx (z7 "belts" (.ref acc) []))) y := (Same.own s8).trans qW
   have hy9 : upd H4 y (.ins a.Work dx (z7 "belts" (.ref acc) [])) y = some (.ins a.Work dx (z7 "belts" (.ref acc) [])) := upd_same
   have e9 : upd H4 y (.ins a.Work dx (z7 "belts" (.ref acc) [])) acc = some (.lst us) := by rw [upd_ne nacy]; exact e1
   have hU9 : Bts a (upd H4 y (.ins a.Work dx (z7 "belts" (.ref acc) []))) (fun b => H b = none ∧ b ≠ y) us bs := hU.keep fun b o hp hb => by
    have q1 : H b = none := zD s6 hp.1
    have q2 : b ≠ y := (ne_of_none hy q1).symm
    exact ⟨⟨q1, q2⟩, by rw [upd_ne q2]; exact hb⟩
   generalize upd H4 y (.ins a.Work dx (z7 "belts" (.ref acc) [])) = H5 at o9 hy9 e9 hU9 ⊢
   walk_at "go"
   walk_at "lc"
   walk_at "go"
   refine ⟨kl, rfl, .inl ⟨⟨_, SqL.of (o9 _ _ nky hk)⟩, fun _ _ _ _ ac2 hac2 => ?_⟩⟩
   let M3_ : Nat → St → Hp → Prop := fun i σ H' => ∃ v us2, σ = [v] ∧ Same H5 H' ∧ H' ac2 = some (.lst us2) ∧ Kns a H' (fun b => H5 b = none ∧ b ≠ ac2) us2 (rs.take i)
   refine qg (K := K) (a := kl) (xs := kvs) M3_ (iE2 _ ([]) (iA4 rfl (zd hac2) upd_same (by rw [List.take_zero]; exact .nil))) (fun i σ H' _ ⟨_, _, _, s, _⟩ => SqL.of (s _ _ (o9 _ _ nky hk))) ?_ ?_
   ·intro i x σ H' hi zz_
    refine oE2 zz_ fun v us2 z1_ => oA4 z1_ fun z2_ s10 e2 hV => ?_
    clear zz_
    subst z2_
    obtain ⟨r, hr', hKn⟩ := hKs.at hi
    have hok := hro _ (List.mem_of_getElem? hr')
    have hil : i < rs.length := (List.getElem?_eq_some_iff.mp hr').1
    have hKn' : KnP a H' p x r := hKn.keep fun b o hp hb => ⟨hp, s10 _ _ (o9 _ _ (hpy b hp) hb)⟩
    refine oE6 hKn'.inv fun y1 dx1 l1 l2 l3 fs z1_ => oA9 z1_ fun z2_ p0 p1 p2 p3 h0 f1 f2 z3_ => oA5 z3_ fun f3 h1 h2 h3 h4 => ?_
    subst z2_
    walk_at "go"
    refine iE7 y1 (jr a r.wd) dx1 fs _ _ _ (iA5 rfl h0 f3 ((zaJ T r.wd).mono) ?_)
    refine iE3 y1 r p (iA5 rfl hKn' rfl hok (fun v' H6 s11 hN => ?_))
    refine ⟨_, iA3 (s11 _ _ e2) (zh (by have := hV.len; rw [List.length_take] at this; omega)) (iE2 _ (us2 ++ [v']) (iA4 rfl (fun b o hb => ?_) upd_same ?_))⟩
    ·rw [upd_ne (ne_of_none hb hac2)]; exact s11 _ _ (s10 _ _ hb)
    ·rw [List.take_add_one, hr']
     refine Kns.append (hV.keep fun b o hp hb => ⟨hp, by rw [upd_ne hp.2]; exact s11 _ _ hb⟩) (Kns.one (hN.keep fun b o hp hb => ?_))
     have q2 : b ≠ ac2 := fun z => by rw [z] at hp; rw [New, e2] at hp; cases hp
     exact ⟨⟨zD s10 hp, q2⟩, by rw [upd_ne q2]; exact hb⟩
   ·intro σ H6 zz_
    refine oE2 zz_ fun v us2 z1_ => oA4 z1_ fun z2_ s10 e2 hV => ?_
    clear zz_
    subst z2_
    rw [hKs.len, List.take_length] at hV
    have hy10 := s10 _ _ hy9
    walk_at "go"
    refine iE4 y a.Work dx _ (iA6 rfl hy10 T.C_Work T.N_Work_knots (by show 1 < 1000; decide) ?_)
    have n2y : ac2 ≠ y := fun z => by rw [z, hy9] at hac2; cases hac2
    have ho : ∀ b, H5 b = none → b ≠ y → H b = none := fun b h1 h2 => by
     cases e : H b with
     | none => rfl
     | some o => rw [o9 b o h2 e] at h1; cases h1
    refine kok _ acc ac2 us us2 ((o9.trans (Same.own s10)).trans qW) upd_same ?_ ?_ ?_ ?_ nacc (ho _ hac2 n2y)
    ·rw [upd_ne nacy]; exact s10 _ _ e9
    ·rw [upd_ne n2y]; exact e2
    ·exact hU9.keep fun b o hp hb => ⟨hp.1, by rw [upd_ne hp.2]; exact s10 _ _ hb⟩
    ·refine hV.keep fun b o hp hb => ?_
     have q : b ≠ y := fun z => by rw [z, hy9] at hp; cases hp.1
     exact ⟨ho b hp.1 q, by rw [upd_ne q]; exact hb⟩
theorem zci (T : Txt K mg a) : KCal P w K mg base "Work" a.Work 5 ["self", "belts", "knots"] [] (wC K a) := T.h_Work_init.cal T.g_Work (Jm T)
def zcY (b : Int × Int) : D := .tup [.int b.1, .int b.2]
theorem Jf (n : Nat) : (rgI n).length = n := by simp [rgI]
theorem J0 (n : Nat) : rgI (n + 1) = rgI n ++ [(n : Int)] := by simp [rgI, List.range_succ]
theorem zk (ns : List Int) : (iv ns).length = ns.length := by rw [iv, List.length_map]
theorem vh {ns : List Int} {i : Nat} {x : V} (h : (iv ns)[i]? = some x) : ∃ n, ns[i]? = some n ∧ x = .int n := by
 rw [iv, List.getElem?_map, Option.map_eq_some_iff] at h
 obtain ⟨n, h1, h2⟩ := h
 exact ⟨n, h1, h2.symm⟩
theorem jq {ns : List Int} {i : Nat} {n : Int} (h : ns[i]? = some n) : (iv ns)[i]? = some (.int n) := by rw [iv, List.getElem?_map, h]; rfl
theorem ZY (ns : List Int) (k : Nat) : (iv ns).eraseIdx k = iv (ns.eraseIdx k) := by
 induction ns generalizing k with
 | nil => simp [iv]
 | cons n ns ih =>
  cases k with
  | zero => simp [iv]
  | succ k => simpa [iv] using ih k
theorem z3 (ns : List Int) (n : Int) : iv ns ++ [.int n] = iv (ns ++ [n]) := by simp [iv]
abbrev ms4 (L R E B : Addr) : List Addr := [L, R, E, B]
structure WInv (bs : List (Int × Int)) (rs : List Row) (es ks : List Int) : Prop where
 tk : (qr rs ++ es).Perm (rgI bs.length)
 fd : (jG rs ++ ks).Perm (rgI bs.length)
 ro : ∀ r ∈ rs, r.ok
 bo : ∀ b ∈ bs, zP b.1 b.2
theorem Ws (rs : List Row) (r : Row) : jG (rs ++ [r]) = jG rs ++ r.outs := by simp [jG]
theorem Q0 (rs : List Row) (r : Row) : qr (rs ++ [r]) = qr rs ++ r.ins := by simp [qr]
theorem WY {us : List V} {n : Nat} (h : us.length = n + 1) : ∃ a vs, us = a :: vs ∧ vs.length = n := by
 cases us with
 | nil => cases h
 | cons a vs => exact ⟨a, vs, rfl, Nat.succ.inj h⟩
theorem two_of {us : List V} (h : us.length = 2) : ∃ a b, us = [a, b] := by
 obtain ⟨a, _, rfl, h1⟩ := WY h
 obtain ⟨b, _, rfl, h2⟩ := WY h1
 exact ⟨a, b, by rw [List.length_eq_zero_iff.mp h2]⟩
theorem w9 : ∀ {es : List Int} {j : Nat} {y : Int}, es[j]? = some y → (y :: es.eraseIdx j).Perm es
 | [], _, _, h => by simp at h
 | e :: es, 0, y, h => by
  have h : e = y := by simpa using h
  subst h
  simp
 | e :: es, j + 1, y, h => by
  have ih := w9 (es := es) (j := j) (y := y) (by simpa using h)
  rw [List.eraseIdx_cons_succ]
  exact (List.Perm.swap e y _).trans (ih.cons e)
theorem in3 (x a b c : Int) : inV (.int x) [.int a, .int b, .int c] = decide (x = a ∨ x = b ∨ x = c) := by
 simp only [inV, List.any_cons, List.any_nil, eqV, Bool.or_false]
 by_cases h1 : x = a
 ·simp [h1]
 ·by_cases h2 : x = b
  ·simp [h2]
  ·by_cases h3 : x = c
   ·simp [h3]
   ·simp [h1, h2, h3, Ne.symm h1, Ne.symm h2, Ne.symm h3]
theorem WR {α : Type} {xs : List α} {i : Nat} {x : α} (h : xs[i]? = some x) : xs.drop i = x :: xs.drop (i + 1) := by
 obtain ⟨hi, rfl⟩ := List.getElem?_eq_some_iff.mp h
 exact List.drop_eq_getElem_cons hi
theorem jA {H : Hp} {p : Addr → Prop} {v : V} {b : Int × Int} (h : Rep H p v (zcY b)) : ∃ t, v = .ref t ∧ H t = some (.tup [.int b.1, .int b.2]) := by
 obtain ⟨t, us, rfl, _, ht, rr⟩ := Rep.tup' h
 have g := rr.g
 obtain ⟨x0, x1, rfl⟩ := two_of rr.len
 have a0 := g 0 x0 _ rfl rfl
 have a1 := g 1 x1 _ rfl rfl
 cases a0
 cases a1
 exact ⟨t, rfl, ht⟩
def qp (a : Ad) (bs : List (Int × Int)) (rs : List Row) : D := .ob a.Work [("belts", .lst (bs.map (wA a))), ("knots", .lst (rs.map (xK a)))]
theorem zcA {l1 l2 : Addr} : wf l1 l2 = ([(("belts" : Str), V.ref l1), (("knots" : Str), V.ref l2)] : List (Str × V)) := by
 unfold wf; simp only [z7]; rw [if_neg (by decide +kernel)]
theorem zab {a : Ad} {bs : List (Int × Int)} {rs : List Row} : ([("belts", .lst (bs.map (wA a))), ("knots", .lst (rs.map (xK a)))] : List (Str × D)).lookup ("belts" : Str) = some (.lst (bs.map (wA a))) := xC
theorem zaa {a : Ad} {bs : List (Int × Int)} {rs : List Row} : ([("belts", .lst (bs.map (wA a))), ("knots", .lst (rs.map (xK a)))] : List (Str × D)).lookup ("knots" : Str) = some (.lst (rs.map (xK a))) := (qe (by decide +kernel)).trans xC
theorem zcz {a : Ad} {bs : List (Int × Int)} {rs : List Row} {f : Str} (h1 : f ≠ "belts") (h2 : f ≠ "knots") : ([("belts", .lst (bs.map (wA a))), ("knots", .lst (rs.map (xK a)))] : List (Str × D)).lookup f = none := (qe h1).trans (qe h2)
section
variable {H : Hp} {z dz : Addr} {Q : VK} {EX : XK}
theorem zby {rm pc : Int} (hz : H z = none) (hdz : H dz = none) (ok : zP rm pc) (k : ∀ H', Same H H' → BtP a H' (New H) (.ref z) (rm, pc) → Q .non H') : wD a.Belt a.BadBelt [.ref z, .int rm, .int pc] (upd (upd H dz (.own z)) z (.ins a.Belt dz [])) Q EX := by
 refine ⟨z, dz, rm, pc, rfl, upd_same, ?_⟩
 rw [if_pos ok, QY]
 exact k _ (fun b o h => by rw [upd_ne (ne_of_none h hz), upd_ne (ne_of_none h hdz)]; exact h) (zbQ hz upd_same)
theorem Xh {y pc : Int} (hz : H z = none) (hdz : H dz = none) (h0 : 0 ≤ pc) (h4 : pc ≤ 4) (k : ∀ H', Same H H' → KnP a H' (New H) (.ref z) ⟨.drain, [y], [], pc, []⟩ → Q .non H') : xP a.Drain a.BadKnot [.ref z, .int y, .int pc] (upd (upd H dz (.own z)) z (.ins a.Drain dz [])) Q EX := by
 refine ⟨z, dz, .int y, pc, rfl, upd_same, ?_⟩
 rw [if_pos ⟨h0, h4⟩]
 intro H' m1 m2 s' g1 g2 g3 n1 n2
 exact k _ (Own.of_new hz hdz s') (Xm (p := New H) (ins := [y]) (outs := []) hz (zG n1) (zG n2) g1 g2 g3)
theorem VJ {l : Addr} {y pc : Int} {kd : List Int} (hz : H z = none) (hdz : H dz = none) (hl : H l = some (.lst (iv kd))) (h1 : 1 ≤ pc) (h4 : pc ≤ 4) (k1 : 1 ≤ kd.length) (k6 : kd.length ≤ 6) (kk : x6 kd) (k : ∀ H', Same H H' → KnP a H' (New H) (.ref z) ⟨.source, [], [y], pc, kd⟩ → Q .non H') : xq K a.Source a.BadKnot [.ref z, .int y, .int pc, .ref l] (upd (upd H dz (.own z)) z (.ins a.Source dz [])) Q EX := by
 refine ⟨z, dz, l, .int y, pc, kd, rfl, upd_same, SqL.of (qd hz hdz hl), ne_of_none hl hz, fun _ H' m1 m2 m3 s' g1 g2 g3 g4 n1 n2 n3 => ?_, fun hbad => absurd ⟨h1, h4, k1, k6, kk⟩ hbad⟩
 exact k _ (Own.of_new hz hdz s') (QK (p := New H) (ins := []) (outs := [y]) hz (zG n1) (zG n2) (zG n3) g1 g2 g3 g4)
theorem VL {l : Addr} {y : Int} {outs : List Int} (hz : H z = none) (hdz : H dz = none) (hl : H l = some (.lst (iv outs))) (h2 : 2 ≤ outs.length) (h4 : outs.length ≤ 4) (k : ∀ H', Same H H' → KnP a H' (New H) (.ref z) ⟨.parter, [y], outs, 0, []⟩ → Q .non H') : qM K a.Parter a.BadKnot [.ref z, .int y, .ref l] (upd (upd H dz (.own z)) z (.ins a.Parter dz [])) Q EX := by
 refine ⟨z, dz, l, .int y, iv outs, rfl, upd_same, SqL.of (qd hz hdz hl), ne_of_none hl hz, ?_⟩
 rw [if_pos (by rw [zk]; exact ⟨h2, h4⟩)]
 intro H' m1 m2 s' g1 g2 g3 n1 n2
 exact k _ (Own.of_new hz hdz s') (QL (p := New H) (ins := [y]) (outs := outs) hz (zG n1) (zG n2) g1 g2 g3)
theorem zaH {l : Addr} {y : Int} {outs : List Int} (hz : H z = none) (hdz : H dz = none) (hl : H l = some (.lst (iv outs))) (h2 : 2 ≤ outs.length) (h4 : outs.length ≤ 4) (k : ∀ H', Same H H' → KnP a H' (New H) (.ref z) ⟨.first, [y], outs, 0, []⟩ → Q .non H') : qM K a.FirstParter a.BadKnot [.ref z, .int y, .ref l] (upd (upd H dz (.own z)) z (.ins a.FirstParter dz [])) Q EX := by
 refine ⟨z, dz, l, .int y, iv outs, rfl, upd_same, SqL.of (qd hz hdz hl), ne_of_none hl hz, ?_⟩
 rw [if_pos (by rw [zk]; exact ⟨h2, h4⟩)]
 intro H' m1 m2 s' g1 g2 g3 n1 n2
 exact k _ (Own.of_new hz hdz s') (Xl (p := New H) (ins := [y]) (outs := outs) hz (zG n1) (zG n2) g1 g2 g3)
theorem zaG {l : Addr} {y kk : Int} {outs : List Int} (hz : H z = none) (hdz : H dz = none) (hl : H l = some (.lst (iv outs))) (h2 : outs.length = 2) (k0 : 0 ≤ kk) (k1 : kk < ji) (k : ∀ H', Same H H' → KnP a H' (New H) (.ref z) ⟨.sieve, [y], outs, 0, [kk]⟩ → Q .non H') : xO K a.Sieve a.BadKnot [.ref z, .int y, .ref l, .int kk] (upd (upd H dz (.own z)) z (.ins a.Sieve dz [])) Q EX := by
 refine ⟨z, dz, l, .int y, iv outs, kk, rfl, upd_same, SqL.of (qd hz hdz hl), ne_of_none hl hz, ?_⟩
 rw [if_pos (by rw [zk]; exact ⟨h2, k0, k1⟩)]
 intro H' m1 m2 s' g1 g2 g3 n1 n2
 exact k _ (Own.of_new hz hdz s') (Xk (p := New H) (ins := [y]) (outs := outs) hz (zG n1) (zG n2) g1 g2 g3)
theorem VM {l : Addr} {y : Int} {ins : List Int} (hz : H z = none) (hdz : H dz = none) (hl : H l = some (.lst (iv ins))) (h2 : 2 ≤ ins.length) (h4 : ins.length ≤ 4) (k : ∀ H', Same H H' → KnP a H' (New H) (.ref z) ⟨.joiner, ins, [y], 0, []⟩ → Q .non H') : xr K a.Joiner a.BadKnot [.ref z, .ref l, .int y] (upd (upd H dz (.own z)) z (.ins a.Joiner dz [])) Q EX := by
 refine ⟨z, dz, l, .int y, iv ins, rfl, upd_same, SqL.of (qd hz hdz hl), ne_of_none hl hz, ?_⟩
 rw [if_pos (by rw [zk]; exact ⟨h2, h4⟩)]
 intro H' m1 m2 s' g1 g2 g3 n1 n2
 exact k _ (Own.of_new hz hdz s') (QM (p := New H) (ins := ins) (outs := [y]) hz (zG n1) (zG n2) g1 g2 g3)
end
theorem WInv.knot {bs : List (Int × Int)} {rs : List Row} {es ks es' ks' : List Int} {r : Row} (h : WInv bs rs es ks) (pe : (r.ins ++ es').Perm es) (pk : (r.outs ++ ks').Perm ks) (ok : r.ok) : WInv bs (rs ++ [r]) es' ks' := by
 refine ⟨?_, ?_, fun x hx => ?_, h.bo⟩
 ·rw [Q0, List.append_assoc]; exact (List.Perm.append_left _ pe).trans h.tk
 ·rw [Ws, List.append_assoc]; exact (List.Perm.append_left _ pk).trans h.fd
 ·rcases List.mem_append.mp hx with hx | hx
  ·exact h.ro x hx
  ·rw [List.mem_singleton.mp hx]; exact ok
theorem WInv.perm {bs : List (Int × Int)} {rs : List Row} {es ks es' ks' : List Int} (h : WInv bs rs es ks) (pe : es'.Perm es) (pk : ks'.Perm ks) : WInv bs rs es' ks' := ⟨(List.Perm.append_left _ pe).trans h.tk, (List.Perm.append_left _ pk).trans h.fd, h.ro, h.bo⟩
theorem WInv.belt {bs : List (Int × Int)} {rs : List Row} {es ks : List Int} {b : Int × Int} (h : WInv bs rs es ks) (hb : zP b.1 b.2) : WInv (bs ++ [b]) rs (es ++ [(bs.length : Int)]) (ks ++ [(bs.length : Int)]) := by
 refine ⟨?_, ?_, h.ro, fun x hx => ?_⟩
 ·rw [List.length_append, List.length_singleton, J0, ← List.append_assoc]
  exact List.Perm.append_right _ h.tk
 ·rw [List.length_append, List.length_singleton, J0, ← List.append_assoc]
  exact List.Perm.append_right _ h.fd
 ·rcases List.mem_append.mp hx with hx | hx
  ·exact h.bo x hx
  ·rw [List.mem_singleton.mp hx]; exact hb
structure GS (a : Ad) (ms : List Addr) (H0 H : Hp) (L R E B : Addr) (bs : List (Int × Int)) (rs : List Row) (es ks : List Int) : Prop where
 f : Fr (ms4 L R E B) H0 H
 nLR : L ≠ R
 nLE : L ≠ E
 nLB : L ≠ B
 nRE : R ≠ E
 nRB : R ≠ B
 nEB : E ≠ B
 m : ∀ b ∈ ms4 L R E B, b ∈ ms
 hs : ∀ b ∈ ms, ∃ xs, H b = some (.lst xs)
 hL : ∃ bvs, H L = some (.lst bvs) ∧ Reps H (Off ms) bvs (bs.map (wA a))
 hR : ∃ rvs, H R = some (.lst rvs) ∧ Reps H (Off ms) rvs (rs.map (xK a))
 hE : H E = some (.lst (iv es))
 hB : H B = some (.lst (iv ks))
section
variable {ms : List Addr} {H0 H H' : Hp} {L R E B : Addr} {bs bs' : List (Int × Int)} {rs rs' : List Row} {es ks es' ks' : List Int}
theorem GS.same (w : GS a ms H0 H L R E B bs rs es ks) (s : Same H H') : GS a ms H0 H' L R E B bs rs es ks := by
 obtain ⟨bvs, h1, r1⟩ := w.hL
 obtain ⟨rvs, h2, r2⟩ := w.hR
 exact { w with f := w.f.trans s.fr, hs := fun b hb => by obtain ⟨xs, h⟩ := w.hs b hb; exact ⟨xs, s _ _ h⟩, hL := ⟨bvs, s _ _ h1, r1.same s⟩, hR := ⟨rvs, s _ _ h2, r2.same s⟩, hE := s _ _ w.hE, hB := s _ _ w.hB }
theorem GS.off (w : GS a ms H0 H L R E B bs rs es ks) {x : Addr} (h : H x = none) : x ∉ ms := fun z => by
 obtain ⟨xs, hx⟩ := w.hs x z
 rw [hx] at h; cases h
theorem GS.here (w : GS a ms H0 H L R E B bs rs es ks) : GS a ms H H L R E B bs rs es ks := { w with f := Fr.refl }
theorem GS.trans (w : GS a ms H0 H L R E B bs rs es ks) (v : GS a ms H H' L R E B bs' rs' es' ks') : GS a ms H0 H' L R E B bs' rs' es' ks' := { v with f := w.f.trans v.f }
theorem Z1 {x : Addr} {xs : List V} (h : ∀ b ∈ ms, ∃ xs, H b = some (.lst xs)) : ∀ b ∈ ms, ∃ ys, upd H x (.lst xs) b = some (.lst ys) := fun b hb => by
 by_cases e : b = x
 ·subst e; exact ⟨_, upd_same⟩
 ·obtain ⟨ys, h⟩ := h b hb
  exact ⟨ys, by rw [upd_ne e]; exact h⟩
theorem GS.setE (w : GS a ms H0 H L R E B bs rs es ks) (es' : List Int) : GS a ms H0 (upd H E (.lst (iv es'))) L R E B bs rs es' ks := by
 obtain ⟨bvs, h1, r1⟩ := w.hL
 obtain ⟨rvs, h2, r2⟩ := w.hR
 have f : Fr ms H (upd H E (.lst (iv es'))) := qq (w.m E (by simp))
 exact { w with f := w.f.trans (qq (by simp)), hs := Z1 w.hs, hL := ⟨bvs, by rw [upd_ne w.nLE]; exact h1, r1.fr f⟩, hR := ⟨rvs, by rw [upd_ne w.nRE]; exact h2, r2.fr f⟩, hE := upd_same, hB := by rw [upd_ne w.nEB.symm]; exact w.hB }
theorem GS.setB (w : GS a ms H0 H L R E B bs rs es ks) (ks' : List Int) : GS a ms H0 (upd H B (.lst (iv ks'))) L R E B bs rs es ks' := by
 obtain ⟨bvs, h1, r1⟩ := w.hL
 obtain ⟨rvs, h2, r2⟩ := w.hR
 have f : Fr ms H (upd H B (.lst (iv ks'))) := qq (w.m B (by simp))
 exact { w with f := w.f.trans (qq (by simp)), hs := Z1 w.hs, hL := ⟨bvs, by rw [upd_ne w.nLB]; exact h1, r1.fr f⟩, hR := ⟨rvs, by rw [upd_ne w.nRB]; exact h2, r2.fr f⟩, hE := by rw [upd_ne w.nEB]; exact w.hE, hB := upd_same }
theorem GS.setX (w : GS a ms H0 H L R E B bs rs es ks) {x : Addr} {xs : List V} (hx : x ∈ ms) (nx : x ∉ ms4 L R E B) (h0 : H0 x = none) : GS a ms H0 (upd H x (.lst xs)) L R E B bs rs es ks := by
 obtain ⟨bvs, h1, r1⟩ := w.hL
 obtain ⟨rvs, h2, r2⟩ := w.hR
 have f : Fr ms H (upd H x (.lst xs)) := qq hx
 have n : ∀ b ∈ ms4 L R E B, b ≠ x := fun b hb z => nx (by rw [← z]; exact hb)
 refine { w with f := fun b o nb hb => ?_, hs := Z1 w.hs, hL := ⟨bvs, by rw [upd_ne (n L (by simp))]; exact h1, r1.fr f⟩, hR := ⟨rvs, by rw [upd_ne (n R (by simp))]; exact h2, r2.fr f⟩, hE := by rw [upd_ne (n E (by simp))]; exact w.hE, hB := by rw [upd_ne (n B (by simp))]; exact w.hB }
 rw [upd_ne (fun z => by rw [z, h0] at hb; cases hb)]
 exact w.f b o nb hb
theorem GS.ext (w : GS a ms H0 H L R E B bs rs es ks) {x : Addr} {xs : List V} (hx : H x = none) : GS a (x :: ms) H0 (upd H x (.lst xs)) L R E B bs rs es ks ∧ x ∉ ms4 L R E B := by
 have w1 := w.same (zd (o := .lst xs) hx)
 have nx := w.off hx
 obtain ⟨bvs, h1, r1⟩ := w.hL
 obtain ⟨rvs, h2, r2⟩ := w.hR
 have s := zd (o := .lst xs) hx
 have mo : ∀ b ∈ x :: ms, b ∈ ms ∨ H b = none := fun b hb => by
  rcases List.mem_cons.mp hb with rfl | hb
  ·exact .inr hx
  ·exact .inl hb
 refine ⟨{ w1 with m := fun b hb => List.mem_cons_of_mem _ (w.m b hb), hs := fun b hb => ?_, hL := ⟨bvs, s _ _ h1, (r1.more mo).same s⟩, hR := ⟨rvs, s _ _ h2, (r2.more mo).same s⟩ }, fun z => nx (w.m x z)⟩
 rcases List.mem_cons.mp hb with rfl | hb
 ·exact ⟨_, upd_same⟩
 ·exact w1.hs b hb
theorem GS.less {x : Addr} (w : GS a (x :: ms) H0 H L R E B bs rs es ks) (nx : x ∉ ms4 L R E B) : GS a ms H0 H L R E B bs rs es ks := by
 obtain ⟨bvs, h1, r1⟩ := w.hL
 obtain ⟨rvs, h2, r2⟩ := w.hR
 have mo : ∀ b ∈ ms, b ∈ x :: ms ∨ H b = none := fun b hb => .inl (List.mem_cons_of_mem _ hb)
 refine { w with m := fun b hb => ?_, hs := fun b hb => w.hs b (List.mem_cons_of_mem _ hb), hL := ⟨bvs, h1, r1.more mo⟩, hR := ⟨rvs, h2, r2.more mo⟩ }
 rcases List.mem_cons.mp (w.m b hb) with rfl | h
 ·exact absurd hb nx
 ·exact h
theorem GS.addL (w : GS a ms H0 H L R E B bs rs es ks) {H1 : Hp} {v : V} {b : Int × Int} {bvs : List V} (e : H L = some (.lst bvs)) (s : Same H H1) (q : BtP a H1 (New H) v b) : GS a ms H0 (upd H1 L (.lst (bvs ++ [v]))) L R E B (bs ++ [b]) rs es ks ∧ bvs.length = bs.length := by
 have w1 := w.same s
 obtain ⟨bvs', h1, r1⟩ := w1.hL
 rw [s _ _ e] at h1
 cases h1
 obtain ⟨rvs, h2, r2⟩ := w1.hR
 have f : Fr ms H1 (upd H1 L (.lst (bvs ++ [v]))) := qq (w.m L (by simp))
 refine ⟨{ w1 with f := w1.f.trans (qq (by simp)), hs := Z1 w1.hs, hL := ⟨_, upd_same, ?_⟩, hR := ⟨rvs, by rw [upd_ne w.nLR.symm]; exact h2, r2.fr f⟩, hE := by rw [upd_ne w.nLE.symm]; exact w1.hE, hB := by rw [upd_ne w.nLB.symm]; exact w1.hB }, by rw [r1.len, List.length_map]⟩
 rw [List.map_append]
 exact (r1.fr f).append (.one (Rep.fr (q.keep fun b o hb ho => ⟨w.off hb, ho⟩) f))
theorem GS.addR (w : GS a ms H0 H L R E B bs rs es ks) {H1 : Hp} {v : V} {r : Row} {rvs : List V} (e : H R = some (.lst rvs)) (s : Same H H1) (q : KnP a H1 (Off ms) v r) : GS a ms H0 (upd H1 R (.lst (rvs ++ [v]))) L R E B bs (rs ++ [r]) es ks ∧ rvs.length = rs.length := by
 have w1 := w.same s
 obtain ⟨bvs, h1, r1⟩ := w1.hL
 obtain ⟨rvs', h2, r2⟩ := w1.hR
 rw [s _ _ e] at h2
 cases h2
 have f : Fr ms H1 (upd H1 R (.lst (rvs ++ [v]))) := qq (w.m R (by simp))
 refine ⟨{ w1 with f := w1.f.trans (qq (by simp)), hs := Z1 w1.hs, hL := ⟨bvs, by rw [upd_ne w.nLR]; exact h1, r1.fr f⟩, hR := ⟨_, upd_same, ?_⟩, hE := by rw [upd_ne w.nRE.symm]; exact w1.hE, hB := by rw [upd_ne w.nRB.symm]; exact w1.hB }, by rw [r2.len, List.length_map]⟩
 rw [List.map_append]
 exact (r2.fr f).append (.one (Rep.fr q f))
theorem GS.newK (w : GS a ms H0 H L R E B bs rs es ks) {H1 : Hp} {v : V} {r : Row} (q : KnP a H1 (New H) v r) : KnP a H1 (Off ms) v r := q.keep fun b o hb ho => ⟨w.off hb, ho⟩
end
theorem wm {A C P G : Prop} [Decidable A] (p : A ∨ C → P) (g : ¬ A → (C → P) → G) : if A then P else G := by
 by_cases a : A
 ·rw [if_pos a]; exact p (.inl a)
 ·rw [if_neg a]; exact g a fun c => p (.inr c)
theorem w4 {α : Type} (xs : List α) (k : Nat) : (xs.drop k ++ xs.take k).Perm xs := by
 refine List.perm_append_comm.trans ?_
 rw [List.take_append_drop]
theorem Xw (xs : List V) (k : Nat) (h : k ≤ xs.length) : vj xs (some (k : Int)) none = xs.drop k := by
 unfold vj
 rw [HT.sIx_nat, HT.sIx_none, Nat.min_eq_left h]
 exact List.take_of_length_le (by rw [List.length_drop]; omega)
theorem Z8 (xs : List V) (n : Nat) : vj xs none (some (n : Int)) = xs.take n := by
 have h := HT.sIx_nat xs.length xs.length n
 unfold vj
 rw [HT.sIx_none, h, Nat.sub_zero, List.drop_zero]
 by_cases e : n ≤ xs.length
 ·rw [Nat.min_eq_left e]
 ·rw [Nat.min_eq_right (by omega), List.take_length, List.take_of_length_le (by omega)]
theorem zcq (ns : List Int) (m : Nat) : ∃ cs : List Int, vj (iv ns) (some 1) (some (1 + (m : Int))) = iv cs ∧ cs.length ≤ m := by
 unfold vj
 rw [show (1 : Int) + (m : Int) = ((1 + m : Nat) : Int) by omega, show (some (1 : Int)) = some ((1 : Nat) : Int) from rfl, HT.sIx_nat, HT.sIx_nat, zk]
 refine ⟨(ns.drop (min 1 ns.length)).take (min (1 + m) ns.length - min 1 ns.length), by simp [iv], ?_⟩
 rw [List.length_take]
 omega
theorem zbx {H : Hp} {z dz L R : Addr} {Q : VK} {EX : XK} {bvs rvs : List V} {bs : List (Int × Int)} {rs : List Row} {p q : Addr → Prop} (hz : H z = none) (hdz : H dz = none) (hL : H L = some (.lst bvs)) (hR : H R = some (.lst rvs)) (rB : Reps H p bvs (bs.map (wA a))) (rK : Reps H q rvs (rs.map (xK a))) (wok : vv bs rs) (bo : ∀ b ∈ bs, zP b.1 b.2) (ro : ∀ r ∈ rs, r.ok)
  (k : ∀ H', Same H H' → Rep H' (Off []) (.ref z) (qp a bs rs) → Q .non H') : wC K a [.ref z, .ref L, .ref R] (upd (upd H dz (.own z)) z (.ins a.Work dz [])) Q EX := by
 have lb := wok.1.1.2
 refine ⟨z, dz, L, R, bvs, rvs, bs, rs, fun b => b ≠ z, rfl, upd_same, ne_of_none hL hz, ne_of_none hR hz, fun _ h => h, qd hz hdz hL, qd hz hdz hR,
  (Bts.of rB).keep fun b o _ hb => ⟨ne_of_none hb hz, qd hz hdz hb⟩, (Kns.of rK).keep fun b o _ hb => ⟨ne_of_none hb hz, qd hz hdz hb⟩, bo, ro, by rw [wok.2.1.length_eq, Jf]; omega, by rw [wok.2.2.length_eq, Jf]; omega, by omega, fun _ H4 m1 m2 bv kv o4 g0 g1 g2 gB gK n1 n2 => ?_, fun y => absurd wok y⟩
 refine k _ (Own.of_new hz hdz o4) ?_
 rw [zcA] at g0
 exact xy (fun z => nomatch z) g0 rfl (.cons (gB.reps.all.mk' (fun z => nomatch z) g1) (.cons (gK.reps.all.mk' (fun z => nomatch z) g2) .nil))
theorem WInv.work {bs : List (Int × Int)} {rs rs' : List Row} (h : WInv bs rs [] []) (pm : rs'.Perm rs) (b24 : bs.length ≤ 24) (r1 : 1 ≤ rs.length) (r24 : rs.length ≤ 24) : vv bs rs' ∧ (∀ r ∈ rs', r.ok) := by
 have tk := h.tk
 have fd := h.fd
 rw [List.append_nil] at tk fd
 have pl := pm.length_eq
 have b1 : 1 ≤ bs.length := by
  obtain ⟨r, rs0, rfl⟩ := List.exists_cons_of_ne_nil (List.ne_nil_of_length_pos (by omega : 0 < rs.length))
  have ok := h.ro r (by simp)
  have lt := tk.length_eq
  have lf := fd.length_eq
  rw [Jf] at lt lf
  have e1 : (qr (r :: rs0)).length = r.ins.length + (qr rs0).length := by simp [qr]
  have e2 : (jG (r :: rs0)).length = r.outs.length + (jG rs0).length := by simp [jG]
  have : 1 ≤ r.ins.length + r.outs.length := by
   obtain ⟨wd, ins, outs, pc, kd⟩ := r
   cases wd
   ·obtain ⟨_, ⟨o, q⟩, _⟩ := ok; simp only at q; subst q; simp
   ·obtain ⟨⟨o, q⟩, _⟩ := ok; simp only at q; subst q; simp
   ·obtain ⟨⟨o, q⟩, _⟩ := ok; simp only at q; subst q; simp
   ·obtain ⟨⟨o, q⟩, _⟩ := ok; simp only at q; subst q; simp
   ·obtain ⟨⟨o, q⟩, _⟩ := ok; simp only at q; subst q; simp
   ·obtain ⟨⟨o, q⟩, _⟩ := ok; simp only at q; subst q; simp
  omega
 refine ⟨⟨⟨⟨b1, b24⟩, by omega, by omega⟩, ?_, ?_⟩, fun r hr => h.ro r (pm.mem_iff.mp hr)⟩
 ·exact (pm.flatMap_right _).trans fd
 ·exact (pm.flatMap_right _).trans tk
def QR (ns : List Int) (k : Nat) : Int := ns.getD k 0
def zak (K : PySem.W.Frag) : Sp := fun vs H Q _ => ∃ (l : Addr) (ns : List Int) (k : Nat), vs = [.ref l, .int k] ∧ SqL K H l (ns.map V.int) ∧ Q (.int (QR ns k)) H
theorem zbt (T : Txt K mg a) (F : Fun K "_law_at" "_law_at" Jd f fd) : FnOk P w K mg base (CXr P w) 1 f fd ["_law_script", "_law_k"] (zak K) := by
 refine F.okx zbj ?_ ?_
 ·walk_at "i"
 walk_at "k"
 obtain ⟨l, ns, n, rfl, hl, k⟩ := h
 walk_at "T"
 refine ⟨_, (zm (zL (zw zaC (pq 1) (zC zO zN (za (pq 0) zb)) (zy _))  (ze (zA (zF (pq 0) (pq 1))))  zq)  (ze (zA zc))), ?_⟩
 walk_at "go"
 refine ⟨_, .inl ⟨_, hl, rfl⟩, ?_⟩
 walk_at "r"
 rw [List.length_map]
 refine zR (fun h => ?_) (fun h => ?_)
 ·have h : n < ns.length := by omega
  refine zz hl (zK (by rw [List.getElem?_map, List.getElem?_eq_getElem h]; rfl)) ?_
  have e : ns[n] = QR ns n := by simp [QR, h]
  rw [e]; exact k
 ·have e : QR ns n = 0 := by
   have h : ns.length ≤ n := by omega
   simp [QR, h]
  rw [e] at k
  walk_at "r"
  exact k
theorem zbb (T : Txt K mg a) : Cal P w K mg base "_law_at" 1 ["_law_script", "_law_k"] [] (zak K) := T.h_L_at.cal (zbt T)
def xp (c f : Int) : Int := (c % 2147483647 + 1) * f % 2147483647
theorem qZ (c f : Int) : 0 ≤ xp c f := Int.emod_nonneg _ (by decide)
theorem Vg (c f : Int) : xp c f < 2147483647 := Int.emod_lt_of_pos _ (by decide)
def JL : Sp := fun vs H Q _ => ∃ c f : Int, vs = [.int c, .int f] ∧ 0 ≤ f ∧ f < 2147483647 ∧ Q (.int (xp c f)) H
theorem J8 (T : Txt K mg a) (F : Fun K "_law_spread" "_law_spread" xu f fd) : FnOk P w K mg base (CXr P w) 1 f fd ["_law_cell", "_law_factor"] JL := by
 refine F.okx JV ?_ ?_
 ·walk_at "i"
 walk_at "k"
 obtain ⟨c, n, rfl, h0, h1, k⟩ := h
 walk_at "T"
 refine ⟨_, (ze (zA (zi zr (zi jE (zi zM (zi zr (pq 0) zc) zc) (pq 1)) zc))), ?_⟩
 walk_at "r"
 exact ⟨mul_okR (by omega) (by omega), k⟩
theorem qL (T : Txt K mg a) : Cal P w K mg base "_law_spread" 1 ["_law_cell", "_law_factor"] [] JL := T.h_L_spread.cal (J8 T)
def zal (a : Ad) : Sp := fun vs H Q _ => ∃ (L : Addr) (bvs : List V) (n sp : Int), vs = [.ref L, .int n, .int sp] ∧ 0 ≤ n ∧ 1 ≤ sp ∧ sp ≤ 4 ∧ H L = some (.lst bvs) ∧ bvs.length ≤ 100 ∧
 ∀ rm pc z H1, zP rm pc → Same H H1 → BtP a H1 (New H) (.ref z) (rm, pc) → Q (.int bvs.length) (upd H1 L (.lst (bvs ++ [.ref z])))
theorem VG (T : Txt K mg a) (F : Fun K "_law_belt" "_law_belt" wZ f fd) : FnOk P w K mg base (CXr P w) 3 f fd ["_law_belts", "_law_number", "_law_span"] (zal a) := by
 refine F.okx Vp ?_ ?_
 ·walk_at "i"
 walk_at "j"
 obtain ⟨L, bvs, n, sp, rfl, n0, p1, p4, hL, lb, k⟩ := h
 walk_at "T"
 refine ⟨_, (zm (zo 3 Vp.nd (zi zM zc (zi zr (pq 1) zc)))  (zB (zL (PW.pt (pw_and (zw (qx hr.units1) (zi zr (zi zH (pq 1) zc) zc) zc (zy _)) (pw_and1 (zw zaC (zC zO zN (za (pq 0) zb)) zc (zy _)))))  (ze (zo 3 Vp.nd (zi zM (pq 3) zc)))  zq)  (zm (zl (z5 PySem.F.plainAttrs_list PySem.F.slot_list_append PySem.F.type_list_append zu (pq 0) (za (jm ⟨rfl, rfl, rfl⟩ hr (za (pq 3) (za (zi zM zc (zi zr (zi zH (pq 1) zc) (pq 2))) zb))) zb)))  (ze (zA (zi zb5 (zC zO zN (za (pq 0) zb)) zc)))))), ?_⟩
 walk_at "go"
 have z0 := Int.emod_nonneg n (show (3 : Int) ≠ 0 by decide)
 have z1 := Int.emod_lt_of_pos n (show (0 : Int) < 3 by decide)
 refine cut (fun σ' H' => ∃ rm : Int, σ' = [some (.ref L), some (.int n), some (.int sp), some (.int rm)] ∧ H' = H ∧ 1 ≤ rm ∧ rm ≤ 6) ?_ ?_
 ·walk_at "go"
  refine ⟨fd_ok (by decide) (by decide +kernel), zR (fun _ => ⟨m_len, _, .inl ⟨_, SqL.of hL, rfl⟩, zR (fun _ => ⟨_, iA3 rfl (by omega) (by omega)⟩) (fun _ => ⟨_, iA3 rfl (by omega) (by omega)⟩)⟩) (fun _ => ⟨_, iA3 rfl (by omega) (by omega)⟩)⟩
 rintro σ' H' ⟨rm, rfl, rfl, r1, r6⟩
 walk_at "go"
 have y0 := Int.emod_nonneg (n / 24) (show (sp : Int) ≠ 0 by omega)
 have y1 := Int.emod_lt_of_pos (n / 24) (show (0 : Int) < sp by omega)
 refine ⟨.inl ⟨rfl, _, SqL.of hL⟩, a.Belt, _, _, _, (zaR T).mono, fd_ok (by decide) (by decide +kernel), by omega, ?_⟩
 intro z dz hz hdz hne
 refine zby hz hdz ⟨r1, r6, by omega, by omega⟩ fun H1 s1 q1 => ⟨rfl, ?_⟩
 refine ⟨L, bvs, _, rfl, rfl, s1 _ _ hL, zh (by omega), ?_⟩
 have k := k rm _ z H1 ⟨r1, r6, by omega, by omega⟩ s1 q1
 have e : upd H1 L (.lst (bvs ++ [.ref z])) L = some (.lst (bvs ++ [.ref z])) := upd_same
 generalize upd H1 L (.lst (bvs ++ [.ref z])) = H2 at k e ⊢
 walk_at "go"
 refine ⟨_, .inl ⟨_, SqL.of e, rfl⟩, ?_⟩
 rw [List.length_append, List.length_singleton, show (((bvs.length + 1 : Nat) : Int) - 1) = bvs.length by omega]
 exact k
theorem xZ (T : Txt K mg a) : Cal P w K mg base "_law_belt" 3 ["_law_belts", "_law_number", "_law_span"] [] (zal a) := T.h_L_belt.cal (VG T)
def WD (a : Ad) : Sp := fun vs H Q _ => ∃ y n sp : Int, vs = [.int y, .int n, .int sp] ∧ 0 ≤ n ∧ 1 ≤ sp ∧ sp ≤ 4 ∧ ∀ v H' pc, Same H H' → 0 ≤ pc → pc ≤ 4 → KnP a H' (New H) v ⟨.drain, [y], [], pc, []⟩ → Q v H'
theorem X8 (T : Txt K mg a) (F : Fun K "_law_drain" "_law_drain" wc f fd) : FnOk P w K mg base (CXr P w) 4 f fd ["_law_into", "_law_number", "_law_span"] (WD a) := by
 refine F.okx XV ?_ ?_
 ·walk_at "i"
 walk_at "j"
 obtain ⟨y, n, sp, rfl, n0, p1, p4, k⟩ := h
 walk_at "T"
 refine ⟨_, (zm (zL (zw (qx hr.units1) (zi zr (pq 1) zc) zc (zy _))  (ze (zA (jm ⟨rfl, rfl, rfl⟩ hr (za (pq 0) (za zc zb)))))  zq)  (ze (zA (jm ⟨rfl, rfl, rfl⟩ hr (za (pq 0) (za (zi zM zc (zi zr (zi zH (pq 1) zc) (pq 2))) zb)))))), ?_⟩
 walk_at "go"
 refine zR (fun _ => ?_) (fun _ => ?_)
 ·walk_at "go"
  refine ⟨a.Drain, _, _, _, (Jv T).mono, ?_⟩
  intro z dz hz hdz hne
  exact Xh hz hdz (by decide) (by decide) fun H1 s1 q1 => ⟨rfl, k _ _ _ s1 (by decide) (by decide) q1⟩
 ·walk_at "go"
  have y0 := Int.emod_nonneg (n / 8) (show (sp : Int) ≠ 0 by omega)
  have y1 := Int.emod_lt_of_pos (n / 8) (show (0 : Int) < sp by omega)
  refine ⟨a.Drain, _, _, _, (Jv T).mono, fd_ok (by decide) (by decide +kernel), by omega, ?_⟩
  intro z dz hz hdz hne
  exact Xh hz hdz (by omega) (by omega) fun H1 s1 q1 => ⟨rfl, k _ _ _ s1 (by omega) (by omega) q1⟩
theorem QT (T : Txt K mg a) : Cal P w K mg base "_law_drain" 4 ["_law_into", "_law_number", "_law_span"] [] (WD a) := T.h_L_drain.cal (X8 T)
theorem zbz {n u : Int} (u0 : 1 ≤ u) (u6 : u ≤ 6) : ∃ m : Int, atI [V.int 1, .int 1, .int 2, .int 2, .int 3, .int u] (n % 6) = some (.int m) ∧ 1 ≤ m ∧ m ≤ 6 := by
 have h0 := Int.emod_nonneg n (show (6 : Int) ≠ 0 by decide)
 have h1 := Int.emod_lt_of_pos n (show (0 : Int) < 6 by decide)
 generalize n % 6 = j at h0 h1 ⊢
 have : j = 0 ∨ j = 1 ∨ j = 2 ∨ j = 3 ∨ j = 4 ∨ j = 5 := by omega
 rcases this with rfl | rfl | rfl | rfl | rfl | rfl
 ·exact ⟨1, rfl, by decide, by decide⟩
 ·exact ⟨1, rfl, by decide, by decide⟩
 ·exact ⟨2, rfl, by decide, by decide⟩
 ·exact ⟨2, rfl, by decide, by decide⟩
 ·exact ⟨3, rfl, by decide, by decide⟩
 ·exact ⟨u, rfl, u0, u6⟩
def JN (a : Ad) : Sp := fun vs H Q _ => ∃ y c n sp : Int, vs = [.int y, .int c, .int n, .int sp] ∧ 0 ≤ n ∧ 1 ≤ sp ∧ sp ≤ 4 ∧ ∀ v H' pc kd, Same H H' → 1 ≤ pc → pc ≤ 4 → 1 ≤ kd.length → kd.length ≤ 6 → x6 kd → KnP a H' (New H) v ⟨.source, [], [y], pc, kd⟩ → Q v H'
theorem Xa (T : Txt K mg a) (F : Fun K "_law_source" "_law_source" jS f fd) : FnOk P w K mg base (CXr P w) 4 f fd ["_law_out", "_law_cell", "_law_number", "_law_span"] (JN a) := by
 refine F.okx JX ?_ ?_
 ·walk_at "i"
 walk_at "j"
 obtain ⟨y, c, n, sp, rfl, n0, p1, p4, k⟩ := h
 walk_at "T"
 refine ⟨_, (zg (zo 4 JX.nd (zF (zE (za zc (za zc (za zc (za zc (za zc (za (zi zM zc (zi zr (zi zH (pq 2) zc) zc)) zb))))))) (zi zr (pq 2) zc)))  (zB (zL (zw (qx hr.units1) (zi zr (zi zH (pq 2) zc) zc) zc (zy _))  (ze (wF (i := 1) JX.nd rfl (Or.inr rfl) (zi zr (pq 1) zc)))  zq)  (zg (xS (i := 5) JX.nd rfl (Or.inl rfl) (vars := ["_law_k"]) (caps := [1, 2]) (N := ["_law_k", "_law_cell", "_law_number"]) (ON := ["_law_out", "_law_cell", "_law_number", "_law_span", "_law_many", "_law_kinds_here"]) (osc := zf jS) rfl rfl (by first | decide +kernel | kernel_rfl) rfl rfl (wG (za (pq 4) zb)) (fun s H fp pins => (zZ 0 (show (["_law_k", "_law_cell", "_law_number"] : List Str).Nodup from by decide +kernel))) (fun s H fp pins => z6) (fun s H fp pins => (zi zr (zi zM (pq 1) (zi jE (pq 0) (zi zr (zi zH (pq 2) zc) zc))) (zi wH zc zc))))  (ze (zA (jm ⟨rfl, rfl, rfl⟩ hr (za (pq 0) (za (zi zM zc (zi zr (zi zH (pq 2) zc) (pq 3))) (za (pq 5) zb))))))))), ?_⟩
 walk_at "go"
 have u0 := Int.emod_nonneg (n / 6) (show (6 : Int) ≠ 0 by decide)
 have u1 := Int.emod_lt_of_pos (n / 6) (show (0 : Int) < 6 by decide)
 obtain ⟨m, em, m1, m6⟩ := zbz (n := n) (u := 1 + n / 6 % 6) (by omega) (by omega)
 refine ⟨fd_ok (by decide) (by decide +kernel), fun q hq => zz (SqL.of upd_same) em ?_⟩
 have s1 := zd (o := .lst [V.int 1, .int 1, .int 2, .int 2, .int 3, .int (1 + n / 6 % 6)]) hq
 generalize upd H q (.lst [V.int 1, .int 1, .int 2, .int 2, .int 3, .int (1 + n / 6 % 6)]) = H1 at s1 ⊢
 clear em u0 u1
 walk_at "go"
 refine cut (fun σ' H' => ∃ c : Int, σ' = [some (.int y), some (.int c), some (.int n), some (.int sp), some (.int m), none] ∧ H' = H1) ?_ ?_
 ·walk_at "go"
  walk_at "sds"
  walk_at "go"
  exact zR (fun _ => ⟨_, rfl⟩) (fun _ => ⟨_, rfl⟩)
 rintro σ' H2 ⟨c2, rfl, rfl⟩
 walk_at "lc"
 walk_at "go"
 refine ⟨by omega, by omega, fun _ _ _ _ acc hacc => ?_⟩
 refine Z5 (n := m.toNat) (fun i σ H' => ∃ v ks, σ = [v, some (.int c2), some (.int n)] ∧ Same H2 H' ∧ ks.length = i ∧ x6 ks ∧ H' acc = some (.lst (iv ks))) ⟨_, [], rfl, zd hacc, rfl, (fun _ z => nomatch z), upd_same⟩ ?_ ?_
 ·rintro i σ H3 hi ⟨v, ks, rfl, s3, lk, hkk, ha⟩
  walk_at "go"
  have w0 := Int.emod_nonneg (n / 36) (show (3 : Int) ≠ 0 by decide)
  have w1 := Int.emod_lt_of_pos (n / 36) (show (0 : Int) < 3 by decide)
  refine ⟨fd_ok (by decide) (by decide +kernel), mul_okR (by omega) (by omega), ?_⟩
  walk_at "go"
  have x0 := Int.emod_nonneg (c2 + (0 + (i : Int)) * (n / 36 % 3)) (show (1000000000000000000000000000000 : Int) ≠ 0 by decide)
  have x1 := Int.emod_lt_of_pos (c2 + (0 + (i : Int)) * (n / 36 % 3)) (show (0 : Int) < 1000000000000000000000000000000 by decide)
  generalize (c2 + (0 + (i : Int)) * (n / 36 % 3)) % 1000000000000000000000000000000 = kk at x0 x1 ⊢
  refine ⟨_, ha, zh (by rw [zk]; omega), _, ks ++ [kk], rfl, (fun b o hb => by rw [upd_ne (ne_of_none hb hacc)]; exact s3 b o hb), by simp [lk], ?_, by rw [upd_same, z3]⟩
  intro z hz
  rcases List.mem_append.mp hz with hz | hz
  ·exact hkk z hz
  ·rw [List.mem_singleton.mp hz]; exact ⟨x0, x1⟩
 rintro σ H3 ⟨v, ks, rfl, s3, lk, hkk, ha⟩
 walk_at "go"
 have y0 := Int.emod_nonneg (n / 108) (show (sp : Int) ≠ 0 by omega)
 have y1 := Int.emod_lt_of_pos (n / 108) (show (0 : Int) < sp by omega)
 refine ⟨a.Source, _, _, _, (Xp T).mono, fd_ok (by decide) (by decide +kernel), by omega, ?_⟩
 intro z dz hz hdz hne
 have s13 := s1.trans s3
 refine VJ hz hdz ha (by omega) (by omega) (by omega) (by omega) hkk fun H4 s4 q4 => ⟨rfl, k _ _ _ _ (s13.trans s4) (by omega) (by omega) (by omega) (by omega) hkk (q4.keep fun b o hb ho => ⟨zD s13 hb, ho⟩)⟩
theorem Qb (T : Txt K mg a) : Cal P w K mg base "_law_source" 4 ["_law_out", "_law_cell", "_law_number", "_law_span"] [] (JN a) := T.h_L_source.cal (Xa T)
theorem Qx (T : Txt K mg a) (wd : Wd) : PySem.W.kitOne K (.ref (jr a wd)) (.ref a.Source) = some (decide (wd = .source)) := by
 cases wd
 ·exact T.k1_Source_Source
 ·exact T.k1_Drain_Source
 ·exact T.k1_Parter_Source
 ·exact T.k1_FirstParter_Source
 ·exact T.k1_Sieve_Source
 ·exact T.k1_Joiner_Source
def zag (a : Ad) : Sp := fun vs H Q _ => ∃ (R : Addr) (rvs : List V) (rs : List Row) (c n : Int) (p : Addr → Prop), vs = [.ref R, .int c, .int n] ∧ H R = some (.lst rvs) ∧ Reps H p rvs (rs.map (xK a)) ∧ (∀ r ∈ rs, r.ok) ∧ rs.length ≤ 60 ∧ 0 ≤ n ∧ ∀ H' kk, Same H H' → 0 ≤ kk → kk < ji → Q (.int kk) H'
theorem VC (T : Txt K mg a) (F : Fun K "_law_kind" "_law_kind" wV f fd) : FnOk P w K mg base (CXr P w) 1 f fd ["_law_knots", "_law_cell", "_law_number"] (zag a) := by
 refine F.okx Vl ?_ ?_
 ·walk_at "i"
 walk_at "j"
 obtain ⟨R, rvs, rs, c, n, p, rfl, hR, rR, ro, lr, n0, k⟩ := h
 have lR : rvs.length = rs.length := by rw [rR.len, List.length_map]
 walk_at "T"
 refine ⟨_, (zm (zo 3 Vl.nd (zE (za (zi zr (pq 1) (zi wH zc zc)) zb)))  (zB (qc qH rfl (zW (pq 0)) (zZ 4 Vl.nd)  (ze (zL (zT (zC qC zt (za (pq 4) (za qG zb))) (fun _ => rfl))  (ze (zl (z5 PySem.F.plainAttrs_list PySem.F.slot_list_extend PySem.F.type_list_extend xj (pq 3) (za (zj (pq 4) rfl) zb))))  zq)))  (ze (zA (zF (pq 3) (zi zr (pq 2) (zC zO zN (za (pq 3) zb)))))))), ?_⟩
 walk_at "go"
 have x0 := Int.emod_nonneg c (show (1000000000000000000000000000000 : Int) ≠ 0 by decide)
 have x1 := Int.emod_lt_of_pos c (show (0 : Int) < 1000000000000000000000000000000 by decide)
 intro I hI
 have s1 := zd (o := .lst [V.int (c % 1000000000000000000000000000000)]) hI
 have hI1 : upd H I (.lst [V.int (c % 1000000000000000000000000000000)]) I = some (.lst (iv [c % 1000000000000000000000000000000])) := upd_same
 generalize upd H I (.lst [V.int (c % 1000000000000000000000000000000)]) = H1 at s1 hI1 ⊢
 generalize c % 1000000000000000000000000000000 = k0 at x0 x1 hI1
 refine cut (fun σ' H' => ∃ (v4 : Option V) (ks : List Int), σ' = [some (.ref R), some (.int c), some (.int n), some (.ref I), v4] ∧ Same H H' ∧ H' I = some (.lst (iv ks)) ∧ 1 ≤ ks.length ∧ ks.length ≤ 1 + 6 * rs.length ∧ x6 ks) ?_ ?_
 ·walk_at "for"
  walk_at "go"
  refine ⟨R, rfl, .inl ⟨⟨_, SqL.of (s1 _ _ hR)⟩, ?_⟩⟩
  refine qg (K := K) (a := R) (xs := rvs) (fun i σ H' => ∃ (v4 : Option V) (ks : List Int), σ = [some (.ref R), some (.int c), some (.int n), some (.ref I), v4] ∧ Same H H' ∧ H' I = some (.lst (iv ks)) ∧ 1 ≤ ks.length ∧ ks.length ≤ 1 + 6 * i ∧ x6 ks) ⟨_, [k0], rfl, s1, hI1, Nat.le_refl _, Nat.le_refl _, fun z hz => by rw [List.mem_singleton.mp hz]; exact ⟨x0, x1⟩⟩ (fun i σ H' _ h => by obtain ⟨_, _, _, s, _⟩ := h; exact SqL.of (s _ _ hR)) ?_ ?_
  ·rintro i x σ H2 hi ⟨v4, ks, rfl, s2, hI2, k1, k6, kk⟩
   obtain ⟨d, hd, rx⟩ := rR.at hi
   rw [List.getElem?_map, Option.map_eq_some_iff] at hd
   obtain ⟨r, hr', rfl⟩ := hd
   have hil := (List.getElem?_eq_some_iff.mp hr').1
   have ok := ro r (List.mem_of_getElem? hr')
   obtain ⟨y1, dx1, m1, m2, m3, fs1, rfl, _, _, _, _, g0, f1, f2, _, g1, g2, g3, _⟩ := KnP.inv rx
   walk_at "go"
   refine ⟨.ref a.Source, _, T.g_Source, rfl, _, _, _, _, rfl, (WT T r.wd).ty (CT T r.wd) (s2 _ _ g0), .inl ⟨_, rfl, Qx T r.wd⟩, ?_⟩
   walk_at "go"
   refine zR (fun b => ?_) (fun b => ⟨_, ks, rfl, s2, hI2, k1, by omega, kk⟩)
   obtain ⟨f3, h3⟩ := g3 b
   have ok : r.kinds.length ≤ 6 ∧ x6 r.kinds := by
    unfold Row.ok at ok
    rw [b] at ok
    exact ⟨ok.2.2.2.2.2.1, ok.2.2.2.2.2.2⟩
   rw [b] at g0
   refine ⟨.inl ⟨rfl, _, SqL.of hI2⟩, y1, a.Source, dx1, fs1, _, rfl, s2 _ _ g0, T.C_Source, T.N_Source_kinds, f3, ?_⟩
   refine ⟨I, m3, iv ks, iv r.kinds, rfl, rfl, hI2, s2 _ _ h3, ?_, ?_⟩
   ·rw [zk, zk]
    exact Nat.le_of_lt (zh (by omega))
   refine ⟨_, ks ++ r.kinds, rfl, (fun b o hb => by rw [upd_ne (ne_of_none hb hI)]; exact s2 b o hb), by rw [upd_same]; simp [iv], by simp; omega, by simp; omega, fun z hz => ?_⟩
   rcases List.mem_append.mp hz with hz | hz
   ·exact kk z hz
   ·exact ok.2 z hz
  ·rintro σ H2 ⟨v4, ks, rfl, s2, hI2, k1, k6, kk⟩
   rw [lR] at k6
   exact ⟨v4, ks, rfl, s2, hI2, k1, k6, kk⟩
 rintro σ' H2 ⟨v4, ks, rfl, s2, hI2, k1, k6, kk⟩
 walk_at "go"
 refine ⟨_, .inl ⟨_, SqL.of hI2, rfl⟩, ?_⟩
 rw [zk]
 refine ⟨by omega, ?_⟩
 have v0 := Int.emod_nonneg n (show (ks.length : Int) ≠ 0 by omega)
 have v1 := Int.emod_lt_of_pos n (show (0 : Int) < (ks.length : Int) by omega)
 obtain ⟨j, ej⟩ : ∃ j : Nat, n % (ks.length : Int) = j := ⟨(n % (ks.length : Int)).toNat, by omega⟩
 rw [ej] at v1 ⊢
 obtain ⟨y, hy⟩ : ∃ y, ks[j]? = some y := ⟨ks[j]'(by omega), List.getElem?_eq_getElem _⟩
 refine zz (SqL.of hI2) (zK (jq hy)) ?_
 have := kk y (List.mem_of_getElem? hy)
 exact k _ y s2 this.1 this.2
theorem XD (T : Txt K mg a) : Cal P w K mg base "_law_kind" 1 ["_law_knots", "_law_cell", "_law_number"] [] (zag a) := T.h_L_kind.cal (VC T)
def zbS (n : Int) : Wd := if n = 0 then .first else if n = 1 then .sieve else .parter
def QE (y kk wt : Int) (outs : List Int) : Row := ⟨zbS wt, [y], outs, 0, if wt = 1 then [kk] else []⟩
theorem J5 {y kk wt : Int} {outs : List Int} (h2 : 2 ≤ outs.length) (h4 : outs.length ≤ 4) (h1 : wt = 1 → outs.length = 2) (k0 : 0 ≤ kk) (k1 : kk < ji) : (QE y kk wt outs).ok := by
 unfold QE zbS Row.ok
 by_cases z : wt = 0
 ·subst z
  exact ⟨⟨_, rfl⟩, h2, h4⟩
 ·by_cases o : wt = 1
  ·subst o
   exact ⟨⟨_, rfl⟩, h1 rfl, kk, rfl, k0, k1⟩
  ·simp only [if_neg z, if_neg o]
   exact ⟨⟨_, rfl⟩, h2, h4⟩
def JO (a : Ad) : Sp := fun vs H Q _ => ∃ (y kk wt : Int) (O : Addr) (outs : List Int), vs = [.int y, .ref O, .int kk, .int wt] ∧ H O = some (.lst (iv outs)) ∧ 2 ≤ outs.length ∧ outs.length ≤ 4 ∧ (wt = 1 → outs.length = 2) ∧ 0 ≤ kk ∧ kk < ji ∧ ∀ v H', Same H H' → KnP a H' (New H) v (QE y kk wt outs) → Q v H'
theorem Xb (T : Txt K mg a) (F : Fun K "_law_parted" "_law_parted" xv f fd) : FnOk P w K mg base (CXr P w) 4 f fd ["_law_into", "_law_outs", "_law_kind_here", "_law_what"] (JO a) := by
 refine F.okx JY ?_ ?_
 ·walk_at "i"
 walk_at "j"
 obtain ⟨y, kk, wt, O, outs, rfl, hO, o2, o4, o1, k0, k1, k⟩ := h
 walk_at "T"
 refine ⟨_, (zm (zL (zw (qx hr.units1) (pq 3) zc (zy _))  (ze (zA (jm ⟨rfl, rfl, rfl⟩ hr (za (pq 0) (za (pq 1) zb)))))  zq)  (zm (zL (zw (qx hr.units1) (pq 3) zc (zy _))  (ze (zA (jm ⟨rfl, rfl, rfl⟩ hr (za (pq 0) (za (xi vz (pq 1) va (xA zc)) (za (pq 2) zb))))))  zq)  (ze (zA (jm ⟨rfl, rfl, rfl⟩ hr (za (pq 0) (za (pq 1) zb))))))), ?_⟩
 walk_at "go"
 refine zR (fun b => ?_) (fun b => ?_)
 ·subst b
  walk_at "go"
  refine ⟨a.FirstParter, _, _, _, (wz T).mono, ?_⟩
  intro z dz hz hdz hne
  exact zaH hz hdz hO o2 o4 fun H1 s1 q1 => ⟨rfl, k _ _ s1 q1⟩
 walk_at "go"
 refine zR (fun b1 => ?_) (fun b1 => ?_)
 ·subst b1
  walk_at "go"
  refine ⟨a.Sieve, _, _, _, (WL T).mono, vE (SqL.of hO) fun q hq => ?_⟩
  have s1 := zd (o := .lst (iv outs)) hq
  rw [show vj (iv outs) none (some 2) = iv outs from (Z8 (iv outs) 2).trans (List.take_of_length_le (by rw [zk]; have := o1 rfl; omega))]
  have hq1 : upd H q (.lst (iv outs)) q = some (.lst (iv outs)) := upd_same
  generalize upd H q (.lst (iv outs)) = H1 at s1 hq1 ⊢
  intro z dz hz hdz hne
  exact zaG hz hdz hq1 (o1 rfl) k0 k1 fun H2 s2 q2 => ⟨rfl, k _ _ (s1.trans s2) (q2.keep fun b o hb ho => ⟨zD s1 hb, ho⟩)⟩
 walk_at "go"
 refine ⟨a.Parter, _, _, _, (Xq T).mono, ?_⟩
 intro z dz hz hdz hne
 refine VL hz hdz hO o2 o4 fun H1 s1 q1 => ⟨rfl, k _ _ s1 ?_⟩
 unfold QE zbS
 rw [if_neg b, if_neg b1, if_neg b1]
 exact q1
theorem Qc (T : Txt K mg a) : Cal P w K mg base "_law_parted" 4 ["_law_into", "_law_outs", "_law_kind_here", "_law_what"] [] (JO a) := T.h_L_parted.cal (Xb T)
theorem zca {H : Hp} {Q : VK} {p q : Addr} {xs : List Int} (h1 : H p = some (.lst (iv xs))) (h2 : H q = some (.lst [])) (k : Q (.bl (!decide (xs = []))) H) : Vt K (.ref p) (.ref q) H Q := by
 refine .inr (.inl ⟨p, q, iv xs, [], rfl, rfl, .inl ⟨SqL.of h1, SqL.of h2⟩, by simp [iv, xn], rfl, ?_⟩)
 cases xs with
 | nil => exact k
 | cons x xs => exact k
theorem za2 {H : Hp} {Q : VK} {p q : Addr} {xs : List Int} (h1 : H p = some (.lst (iv xs))) (h2 : H q = some (.lst [])) (k : Q (.bl (decide (xs = []))) H) : J2 K (.ref p) (.ref q) H Q := by
 refine .inr (.inl ⟨p, q, iv xs, [], rfl, rfl, .inl ⟨SqL.of h1, SqL.of h2⟩, by simp [iv, xn], rfl, ?_⟩)
 cases xs with
 | nil => exact k
 | cons x xs => exact k
theorem vt {xs : List Int} {y : Int} : atI (iv (xs ++ [y])) (-1) = some (.int y) := by
 rw [show iv (xs ++ [y]) = iv xs ++ [V.int y] by simp [iv]]
 unfold atI ixN
 rw [if_neg (by decide), List.length_append, List.length_singleton, if_pos (by omega), show (-1 + (((iv xs).length + 1 : Nat) : Int)).toNat = (iv xs).length by omega]
 simp
def JR (a : Ad) : Sp := fun vs H Q _ => ∃ (ms : List Addr) (L R En B : Addr) (bs : List (Int × Int)) (rs : List Row) (es ks : List Int) (y c sp : Int), vs = [.ref L, .ref En, .ref B, .int y, .int c, .int sp] ∧ GS a ms H H L R En B bs rs es ks ∧ WInv bs rs (y :: es) ks ∧ 1 ≤ sp ∧ sp ≤ 4 ∧ bs.length ≤ 60 ∧ es.length ≤ 60 ∧ ks.length ≤ 60 ∧
 ∀ v H' bs' es' ks' r, GS a ms H H' L R En B bs' rs es' ks' → KnP a H' (Off ms) v r → WInv bs' (rs ++ [r]) es' ks' → bs'.length + ks'.length ≤ bs.length + ks.length + 3 → es'.length + ks'.length ≤ es.length + ks.length + 2 → Q v H'
theorem Xc (T : Txt K mg a) (F : Fun K "_law_joined" "_law_joined" xw f fd) : FnOk P w K mg base (CXr P w) 4 f fd ["_law_belts", "_law_ends", "_law_loops", "_law_into", "_law_cell", "_law_span"] (JR a) := by
 refine F.okx JZ ?_ ?_
 ·walk_at "i"
 walk_at "j"
 obtain ⟨ms, L, R, E, B, bs, rs, es, ks, y, c, sp, rfl, W, I0, p1, p4, lb, le, lk, k⟩ := h
 walk_at "T"
 refine ⟨_, (zg (zo 6 JZ.nd (zx ⟨rfl, rfl, rfl⟩ hr (za (pq 4) (za zc zb))))  (zg (zo 7 JZ.nd (zE (za (pq 3) zb)))  (zB (qc qH rfl (wG (za (zi zr (pq 6) zc) zb)) (zZ 8 JZ.nd)  (ze (zL (zw (ZQ hr.units1) (pq 1) (zE zb) (zy _))  (ze (zl (z5 PySem.F.plainAttrs_list PySem.F.slot_list_append PySem.F.type_list_append zu (pq 7) (za (z5 PySem.F.plainAttrs_list PySem.F.slot_list_pop PySem.F.type_list_pop ZT (pq 1) (za (zi zr (zi zH (pq 6) zc) (zC zO zN (za (pq 1) zb))) zb)) zb))))  zq)))  (zB (zL (zw (qx hr.units1) (zC zO zN (za (pq 7) zb)) zc (zy _))  (zg (zl (z5 PySem.F.plainAttrs_list PySem.F.slot_list_append PySem.F.type_list_append zu (pq 2) (za (zx ⟨rfl, rfl, rfl⟩ hr (za (pq 0) (za (zx ⟨rfl, rfl, rfl⟩ hr (za (pq 4) (za zc zb))) (za (pq 5) zb)))) zb)))  (ze (zl (z5 PySem.F.plainAttrs_list PySem.F.slot_list_append PySem.F.type_list_append zu (pq 7) (za (zF (pq 2) (J3 Zu zc)) zb)))))  zq)  (zB (zL (zw (qx hr.units1) (zi zr (zi zH (pq 6) zc) zc) zc (zy _))  (ze (zo 7 JZ.nd (zi zM (xi vz (pq 7) (xA zc) va) (xi vz (pq 7) va (xA zc)))))  zq)  (zg (zl (z5 PySem.F.plainAttrs_list PySem.F.slot_list_append PySem.F.type_list_append zu (pq 1) (za (zx ⟨rfl, rfl, rfl⟩ hr (za (pq 0) (za (zi zH (pq 6) zc) (za (pq 5) zb)))) zb)))  (ze (zA (jm ⟨rfl, rfl, rfl⟩ hr (za (pq 7) (za (zF (pq 1) (J3 Zu zc)) zb))))))))))), ?_⟩
 walk_at "go"
 refine uc (qL T).mono ⟨c, _, rfl, by decide, by decide, ?_⟩
 have n0 := qZ c 1618033989
 generalize xp c 1618033989 = nu at n0 ⊢
 walk_at "go"
 intro I hI
 obtain ⟨W1, nI⟩ := W.ext (xs := [V.int y]) hI
 have hI1 : upd H I (.lst [V.int y]) I = some (.lst (iv [y])) := upd_same
 generalize upd H I (.lst [V.int y]) = H1 at W1 hI1 ⊢
 have mI : I ∈ I :: ms := by simp
 have nu0 := Int.emod_nonneg nu (show (4 : Int) ≠ 0 by decide)
 have nu1 := Int.emod_lt_of_pos nu (show (0 : Int) < 4 by decide)
 walk_at "go"
 refine cut (fun σ' H' => ∃ (v8 : Option V) (ins es2 : List Int), σ' = [some (.ref L), some (.ref E), some (.ref B), some (.int y), some (.int c), some (.int sp), some (.int nu), some (.ref I), v8] ∧ GS a (I :: ms) H H' L R E B bs rs es2 ks ∧ H' I = some (.lst (iv ins)) ∧ (ins ++ es2).Perm (y :: es) ∧ 1 ≤ ins.length ∧ ins.length ≤ 4) ?_ ?_
 ·walk_at "for"
  walk_at "go"
  refine ⟨by omega, by omega, ?_⟩
  refine Z5 (n := (nu % 4).toNat) (fun i σ' H' => ∃ (v8 : Option V) (ins es2 : List Int), σ' = [some (.ref L), some (.ref E), some (.ref B), some (.int y), some (.int c), some (.int sp), some (.int nu), some (.ref I), v8] ∧ GS a (I :: ms) H H' L R E B bs rs es2 ks ∧ H' I = some (.lst (iv ins)) ∧ (ins ++ es2).Perm (y :: es) ∧ 1 ≤ ins.length ∧ ins.length ≤ 1 + i) ⟨_, [y], es, rfl, W1, hI1, List.Perm.refl _, Nat.le_refl _, Nat.le_refl _⟩ ?_ ?_
  ·clear W1 hI1
   rintro i σ' H3 hi ⟨v8, ins, es2, rfl, W3, hI3, p3, i1, ii⟩
   have pl := p3.length_eq
   rw [List.length_append, List.length_cons] at pl
   walk_at "go"
   intro q hq
   have sq := zd (o := .lst []) hq
   have W4 := W3.same sq
   have hI4 := sq _ _ hI3
   refine zca W4.hE (upd_same) ?_
   generalize upd H3 q (.lst []) = H4 at W4 hI4 ⊢
   clear W3 hI3 hq sq
   walk_at "go"
   refine zR (fun b => ?_) (fun b => ⟨_, ins, es2, rfl, W4, hI4, p3, i1, by omega⟩)
   have el : (0 : Int) < es2.length := by
    rcases Nat.eq_zero_or_pos es2.length with z | z
    ·exact absurd (List.length_eq_zero_iff.mp z) (by simpa using b)
    ·omega
   refine ⟨.inl ⟨rfl, _, SqL.of hI4⟩, .inl ⟨rfl, _, SqL.of W4.hE⟩, fd_ok (by decide) (by decide +kernel), m_len, _, .inl ⟨_, SqL.of W4.hE, rfl⟩, ?_⟩
   rw [zk]
   refine ⟨el, ?_⟩
   have v0 := Int.emod_nonneg (nu / 4) (show (es2.length : Int) ≠ 0 by omega)
   have v1 := Int.emod_lt_of_pos (nu / 4) el
   generalize nu / 4 % (es2.length : Int) = jj at v0 v1 ⊢
   obtain ⟨y2, hy⟩ : ∃ y, es2[jj.toNat]? = some y := ⟨es2[jj.toNat]'(by omega), List.getElem?_eq_getElem _⟩
   refine ⟨E, iv es2, jj, jj.toNat, .int y2, rfl, rfl, W4.hE, by omega, by omega, ZJ v0 (by rw [zk]; exact v1), jq hy, ?_⟩
   rw [ZY]
   have W5 := W4.setE (es2.eraseIdx jj.toNat)
   have p5 := w9 hy
   have nIE : I ≠ E := fun z => nI (by rw [z]; simp)
   have hI5 : upd H4 E (.lst (iv (es2.eraseIdx jj.toNat))) I = some (.lst (iv ins)) := by rw [upd_ne nIE]; exact hI4
   generalize upd H4 E (.lst (iv (es2.eraseIdx jj.toNat))) = H5 at W5 hI5 ⊢
   generalize es2.eraseIdx jj.toNat = es3 at p5 W5 ⊢
   refine ⟨I, _, _, rfl, rfl, hI5, zh (by rw [zk]; omega), ?_⟩
   rw [z3]
   refine ⟨_, ins ++ [y2], es3, rfl, W5.setX mI nI hI, upd_same, ?_, by simp, by simp; omega⟩
   rw [List.append_assoc]
   exact (List.Perm.append_left _ p5).trans p3
  ·rintro σ' H3 ⟨v8, ins, es2, rfl, W3, hI3, p3, i1, ii⟩
   exact ⟨v8, ins, es2, rfl, W3, hI3, p3, i1, by omega⟩
 clear W1 hI1
 rintro σ' H2 ⟨v8, ins, es2, rfl, W2, hI2, p2, i1, i4⟩
 have I2 : WInv bs rs (ins ++ es2) ks := I0.perm p2 (List.Perm.refl _)
 have pl := p2.length_eq
 rw [List.length_append, List.length_cons] at pl
 clear I0 p2
 walk_at "go"
 refine cut (fun σ' H' => ∃ (bs1 : List (Int × Int)) (ins ks1 : List Int), σ' = [some (.ref L), some (.ref E), some (.ref B), some (.int y), some (.int c), some (.int sp), some (.int nu), some (.ref I), v8] ∧ GS a (I :: ms) H H' L R E B bs1 rs es2 ks1 ∧ H' I = some (.lst (iv ins)) ∧ WInv bs1 rs (ins ++ es2) ks1 ∧ 2 ≤ ins.length ∧ ins.length ≤ 4 ∧ bs1.length + ks1.length ≤ bs.length + ks.length + 2 ∧ ks1.length ≤ ks.length + 1 ∧ bs1.length ≤ bs.length + 1) ?_ ?_
 ·walk_at "go"
  refine ⟨_, .inl ⟨_, SqL.of hI2, rfl⟩, ?_⟩
  rw [zk]
  walk_at "go"
  refine zR (fun b => ?_) (fun b => ⟨bs, ins, ks, W2, hI2, I2, by omega, i4, by omega, by omega, by omega⟩)
  obtain ⟨bv, hL, rL⟩ := W2.hL
  have lL : bv.length = bs.length := by rw [rL.len, List.length_map]
  walk_at "go"
  refine ⟨.inl ⟨rfl, _, SqL.of W2.hB⟩, _, _, _, (xZ T).mono, _, _, _, (qL T).mono, c, _, rfl, by decide, by decide, ?_⟩
  refine ⟨L, bv, _, sp, rfl, qZ _ _, p1, p4, hL, by omega, fun rm pc z H3 bk s3 q3 => ?_⟩
  obtain ⟨W3, _⟩ := W2.addL hL s3 q3
  rw [lL]
  have nIL : I ≠ L := fun z => nI (by rw [z]; simp)
  have hI3 : upd H3 L (.lst (bv ++ [.ref z])) I = some (.lst (iv ins)) := by rw [upd_ne nIL]; exact s3 _ _ hI2
  generalize upd H3 L (.lst (bv ++ [.ref z])) = H4 at W3 hI3 ⊢
  have I3 := I2.belt (b := (rm, pc)) bk
  refine ⟨B, _, _, rfl, rfl, W3.hB, zh (by rw [zk]; omega), ?_⟩
  rw [z3]
  have W4 := W3.setB (ks ++ [(bs.length : Int)])
  have nIB : I ≠ B := fun z => nI (by rw [z]; simp)
  have hI4 : upd H4 B (.lst (iv (ks ++ [(bs.length : Int)]))) I = some (.lst (iv ins)) := by rw [upd_ne nIB]; exact hI3
  generalize upd H4 B (.lst (iv (ks ++ [(bs.length : Int)]))) = H5 at W4 hI4 ⊢
  walk_at "go"
  refine ⟨.inl ⟨rfl, _, SqL.of hI4⟩, zz (SqL.of W4.hB) vt ?_⟩
  refine ⟨I, _, _, rfl, rfl, hI4, zh (by rw [zk]; omega), ?_⟩
  rw [z3]
  refine ⟨bs ++ [(rm, pc)], ins ++ [(bs.length : Int)], ks ++ [(bs.length : Int)], W4.setX mI nI hI, upd_same, I3.perm ?_ (List.Perm.refl _), by simp; omega, by simp; omega, by simp; omega, by simp, by simp⟩
  rw [List.append_assoc, List.append_assoc]
  exact List.Perm.append_left _ List.perm_append_comm
 have e2l : es2.length ≤ es.length := by omega
 clear W2 hI2 I2 i1 i4
 rintro σ' H3 ⟨bs1, ins, ks1, rfl, W3, hI3, I3, i2, i4, q1, q2, q3⟩
 walk_at "go"
 refine cut (fun σ' H' => ∃ (J : Addr) (ins : List Int), σ' = [some (.ref L), some (.ref E), some (.ref B), some (.int y), some (.int c), some (.int sp), some (.int nu), some (.ref J), v8] ∧ GS a ms H H' L R E B bs1 rs es2 ks1 ∧ H' J = some (.lst (iv ins)) ∧ J ∉ ms4 L R E B ∧ WInv bs1 rs (ins ++ es2) ks1 ∧ 2 ≤ ins.length ∧ ins.length ≤ 4) ?_ ?_
 ·walk_at "go"
  walk_at "sds"
  walk_at "go"
  refine zR (fun b => ?_) (fun b => ⟨I, ins, rfl, W3.less nI, hI3, nI, I3, i2, i4⟩)
  walk_at "go"
  refine vE (SqL.of hI3) fun j1 hj1 => ?_
  rw [show vj (iv ins) (some 1) none = iv (ins.drop 1) from (Xw (iv ins) 1 (by rw [zk]; omega)).trans (by simp [iv])]
  have a1 := zd (o := .lst (iv (ins.drop 1))) hj1
  refine vE (SqL.of (a1 _ _ hI3)) fun j2 hj2 => ?_
  rw [show vj (iv ins) none (some 1) = iv (ins.take 1) from (Z8 (iv ins) 1).trans (by simp [iv])]
  have a2 := zd (o := .lst (iv (ins.take 1))) hj2
  refine Jh (SqL.of (a2 _ _ upd_same)) (SqL.of upd_same) (Q6 (by rw [zk, zk, List.length_drop, List.length_take]; omega)) fun j3 hj3 => ?_
  have a3 := zd (o := .lst (iv (ins.drop 1) ++ iv (ins.take 1))) hj3
  have sA := (a1.trans a2).trans a3
  have W4 := W3.same sA
  have n3 := (W3.same (a1.trans a2)).off hj3
  refine ⟨j3, ins.drop 1 ++ ins.take 1, rfl, W4.less nI, by rw [upd_same]; simp [iv], fun z => n3 (List.mem_cons_of_mem _ ?_), I3.perm (List.Perm.append_right _ (w4 ins 1)) (List.Perm.refl _), by rw [(w4 ins 1).length_eq]; exact i2, by rw [(w4 ins 1).length_eq]; exact i4⟩
  exact W.m _ z
 clear W3 hI3 I3 i2 i4
 rintro σ' H4 ⟨J, ins, rfl, W4, hJ4, nJ, I4, i2, i4⟩
 obtain ⟨bv, hL, rL⟩ := W4.hL
 have lL : bv.length = bs1.length := by rw [rL.len, List.length_map]
 walk_at "go"
 refine ⟨.inl ⟨rfl, _, SqL.of W4.hE⟩, _, _, _, (xZ T).mono, fd_ok (by decide) (by decide +kernel), ?_⟩
 refine ⟨L, bv, _, sp, rfl, Int.ediv_nonneg n0 (by decide), p1, p4, hL, by omega, fun rm pc z H5 bk s5 q5 => ?_⟩
 obtain ⟨W5, _⟩ := W4.addL hL s5 q5
 rw [lL]
 have nJL : J ≠ L := fun z => nJ (by rw [z]; simp)
 have hJ5 : upd H5 L (.lst (bv ++ [.ref z])) J = some (.lst (iv ins)) := by rw [upd_ne nJL]; exact s5 _ _ hJ4
 generalize upd H5 L (.lst (bv ++ [.ref z])) = H6 at W5 hJ5 ⊢
 have I5 := I4.belt (b := (rm, pc)) bk
 refine ⟨E, _, _, rfl, rfl, W5.hE, zh (by rw [zk]; omega), ?_⟩
 rw [z3]
 have W6 := W5.setE (es2 ++ [(bs1.length : Int)])
 have nJE : J ≠ E := fun z => nJ (by rw [z]; simp)
 have hJ6 : upd H6 E (.lst (iv (es2 ++ [(bs1.length : Int)]))) J = some (.lst (iv ins)) := by rw [upd_ne nJE]; exact hJ5
 generalize upd H6 E (.lst (iv (es2 ++ [(bs1.length : Int)]))) = H7 at W6 hJ6 ⊢
 walk_at "go"
 refine ⟨a.Joiner, _, _, _, (Xr T).mono, zz (SqL.of W6.hE) vt ?_⟩
 intro z dz hz hdz hne
 refine VM hz hdz hJ6 i2 i4 fun H8 s8 q8 => ⟨rfl, ?_⟩
 refine k _ H8 (bs1 ++ [(rm, pc)]) (es2 ++ [(bs1.length : Int)]) ks1 ⟨.joiner, ins, [(bs1.length : Int)], 0, []⟩ (W6.same s8) (W6.newK q8) (I5.knot ?_ List.perm_append_comm ⟨⟨_, rfl⟩, i2, i4⟩) (by simp; omega) (by simp; omega)
 rw [List.append_assoc]
theorem Ww (T : Txt K mg a) : Cal P w K mg base "_law_joined" 4 ["_law_belts", "_law_ends", "_law_loops", "_law_into", "_law_cell", "_law_span"] [] (JR a) := T.h_L_joined.cal (Xc T)
def HasS (rs : List Row) : Prop := ∃ r ∈ rs, r.wd = .source
theorem HasS.snoc {rs : List Row} {r : Row} (h : HasS rs) : HasS (rs ++ [r]) := by
 obtain ⟨x, hx, e⟩ := h
 exact ⟨x, List.mem_append_left _ hx, e⟩
theorem VS {rs : List Row} {r : Row} (h : r.wd = .source) : HasS (rs ++ [r]) := ⟨r, by simp, h⟩
theorem HasS.perm {rs rs' : List Row} (h : HasS rs) (p : rs'.Perm rs) : HasS rs' := by
 obtain ⟨x, hx, e⟩ := h
 exact ⟨x, p.mem_iff.mpr hx, e⟩
abbrev stG (L R E B : Addr) (c sp nu : Int) (v8 v9 v10 v11 v12 : Option V) : St := [some (.ref L), some (.ref R), some (.ref E), some (.ref B), some (.int c), some (.int sp), some (.int nu), some (.int (nu % 9)), v8, v9, v10, v11, v12]
theorem zcm {k : Nat} (h : k < 4) : ∃ m : Int, atI [V.int 941083987, .int 1726512289, .int 1999483721, .int 1103527591] (0 + (k : Int)) = some (.int m) ∧ 0 ≤ m ∧ m < 2147483647 := by
 match k, h with
 | 0, _ => exact ⟨_, rfl, by decide, by decide⟩
 | 1, _ => exact ⟨_, rfl, by decide, by decide⟩
 | 2, _ => exact ⟨_, rfl, by decide, by decide⟩
 | 3, _ => exact ⟨_, rfl, by decide, by decide⟩
theorem zbw {n : Int} : ∃ m : Int, atI [V.int 0, .int 0, .int 1, .int 2] (n % 4) = some (.int m) ∧ 0 ≤ m ∧ m ≤ 2 := by
 have h0 := Int.emod_nonneg n (show (4 : Int) ≠ 0 by decide)
 have h1 := Int.emod_lt_of_pos n (show (0 : Int) < 4 by decide)
 generalize n % 4 = j at h0 h1 ⊢
 have : j = 0 ∨ j = 1 ∨ j = 2 ∨ j = 3 := by omega
 rcases this with rfl | rfl | rfl | rfl <;> exact ⟨_, rfl, by decide, by decide⟩
def zah (a : Ad) : Sp := fun vs H Q _ => ∃ (ms : List Addr) (L R En B : Addr) (bs : List (Int × Int)) (rs : List Row) (es ks : List Int) (c sp : Int), vs = [.ref L, .ref R, .ref En, .ref B, .int c, .int sp] ∧ GS a ms H H L R En B bs rs es ks ∧ WInv bs rs es ks ∧ 1 ≤ sp ∧ sp ≤ 4 ∧ bs.length ≤ 50 ∧ rs.length ≤ 50 ∧ es.length ≤ 50 ∧ ks.length ≤ 50 ∧
 ∀ H' bs' rs' es' ks', GS a ms H H' L R En B bs' rs' es' ks' → WInv bs' rs' es' ks' → bs'.length + ks'.length ≤ bs.length + ks.length + 4 → rs'.length + es'.length + ks'.length ≤ rs.length + es.length + ks.length + 4 → (es = [] → bs'.length + ks'.length ≤ bs.length + ks.length + 1 ∧ rs'.length + es'.length + ks'.length ≤ rs.length + es.length + ks.length + 2) → 1 ≤ rs'.length → (es = [] ∨ HasS rs → HasS rs') → Q .non H'
theorem VD (T : Txt K mg a) (F : Fun K "_law_grow" "_law_grow" wW f fd) : FnOk P w K mg base (CXr P w) 5 f fd ["_law_belts", "_law_knots", "_law_ends", "_law_loops", "_law_cell", "_law_span"] (zah a) := by
 refine F.okx Vm ?_ ?_
 ·walk_at "i"
 walk_at "j"
 refine oE8 h fun ms L R E B bs rs es z1_ => oE3 z1_ fun ks c sp z2_ => oA6 z2_ fun z3_ W I0 p1 p4 z4_ => oA5 z4_ fun lb lr le lk k => ?_
 clear h
 subst z3_
 walk_at "T"
 refine ⟨_, (zg (zo 6 Vm.nd (zx ⟨rfl, rfl, rfl⟩ hr (za (pq 4) (za zc zb))))  (zg (zo 7 Vm.nd (zi zr (pq 6) zc))  (zg (zL (PW.pt (pw_or (zw (qx hr.units1) (pq 2) (zE zb) (zy _)) (pw_or1 (zw QG (pq 7) zc (zy _)))))  (zg (zl (z5 PySem.F.plainAttrs_list PySem.F.slot_list_append PySem.F.type_list_append zu (pq 2) (za (zx ⟨rfl, rfl, rfl⟩ hr (za (pq 0) (za (zi zH (pq 6) zc) (za (pq 5) zb)))) zb)))  (zg (zl (z5 PySem.F.plainAttrs_list PySem.F.slot_list_append PySem.F.type_list_append zu (pq 1) (za (zx ⟨rfl, rfl, rfl⟩ hr (za (zF (pq 2) (J3 Zu zc)) (za (pq 4) (za (zi zH (pq 6) zc) (za (pq 5) zb))))) zb)))  (ze (zA jV))))  zq)  (zg (zo 8 Vm.nd (z5 PySem.F.plainAttrs_list PySem.F.slot_list_pop PySem.F.type_list_pop ZT (pq 2) (za (zi zr (zi zH (pq 6) zc) (zC zO zN (za (pq 2) zb))) zb)))  (zB (zL (zw (qx hr.units1) (pq 7) zc (zy _))  (ze (zl (z5 PySem.F.plainAttrs_list PySem.F.slot_list_append PySem.F.type_list_append zu (pq 1) (za (zx ⟨rfl, rfl, rfl⟩ hr (za (pq 8) (za (zi zH (pq 6) zc) (za (pq 5) zb)))) zb))))  (ze (zL (zw QG (pq 7) zc (zy _))  (ze (zl (z5 PySem.F.plainAttrs_list PySem.F.slot_list_append PySem.F.type_list_append zu (pq 1) (za (zx ⟨rfl, rfl, rfl⟩ hr (za (pq 0) (za (pq 2) (za (pq 3) (za (pq 8) (za (pq 4) (za (pq 5) zb))))))) zb))))  (zg (zo 9 Vm.nd (zE zb))  (zg (zo 10 Vm.nd zc)  (zB (zL (zw (ZQ hr.units1) (pq 7) zc (zy _))  (ze (zo 10 Vm.nd (zi zM zc (zF (zE (za zc (za zc (za zc (za zc zb))))) (zi zr (zi zH (pq 6) zc) zc)))))  zq)  (zB (qc qH rfl (wG (za (pq 10) zb)) (zZ 11 Vm.nd)  (zg (zo 12 Vm.nd (zF (zE (za zc (za zc (za zc (za zc zb))))) (pq 11)))  (ze (zl (z5 PySem.F.plainAttrs_list PySem.F.slot_list_append PySem.F.type_list_append zu (pq 9) (za (zx ⟨rfl, rfl, rfl⟩ hr (za (pq 0) (za (zx ⟨rfl, rfl, rfl⟩ hr (za (pq 4) (za (pq 12) zb))) (za (pq 5) zb)))) zb))))))  (zg (zl (z5 PySem.F.plainAttrs_list PySem.F.slot_list_extend PySem.F.type_list_extend xj (pq 2) (za (pq 9) zb)))  (ze (zl (z5 PySem.F.plainAttrs_list PySem.F.slot_list_append PySem.F.type_list_append zu (pq 1) (za (zx ⟨rfl, rfl, rfl⟩ hr (za (pq 8) (za (pq 9) (za (zx ⟨rfl, rfl, rfl⟩ hr (za (pq 1) (za (pq 4) (za (zi zH (pq 6) zc) zb)))) (za (pq 7) zb))))) zb))))))))))))  (ze (zA jV))))))), ?_⟩
 walk_at "go"
 refine uc (qL T).mono (iE2 c _ (iA4 rfl (by decide) (by decide) ?_))
 have n0 := qZ c 1530421987
 generalize xp c 1530421987 = nu at n0 ⊢
 walk_at "go"
 intro q hq
 have sq := zd (o := .lst []) hq
 have W1 := W.same sq
 refine za2 W1.hE upd_same ?_
 generalize upd H q (.lst []) = H1 at W1 ⊢
 clear sq hq
 walk_at "go"
 refine wm (C := 6 < nu % 9) (fun z => ?_) (fun a0 hp => ?_)
 ·obtain ⟨bv, hL, rL⟩ := W1.hL
  have lL : bv.length = bs.length := by rw [rL.len, List.length_map]
  walk_at "go"
  refine ⟨.inl ⟨rfl, _, SqL.of W1.hE⟩, iE3 _ _ _ (iA3 ((xZ T).mono) (fd_ok (by decide) (by decide +kernel)) ?_)⟩
  refine iE4 L bv _ sp (iA7 rfl (Int.ediv_nonneg n0 (by decide)) p1 p4 hL (by omega) (fun rm pc z H3 bk s3 q3 => ?_))
  obtain ⟨W3, _⟩ := W1.addL hL s3 q3
  rw [lL]
  generalize upd H3 L (.lst (bv ++ [.ref z])) = H4 at W3 ⊢
  have I3 := I0.belt (b := (rm, pc)) bk
  refine iE3 E _ _ (iA5 rfl rfl W3.hE (zh (by rw [zk]; omega)) ?_)
  rw [z3]
  have W4 := W3.setE (es ++ [(bs.length : Int)])
  generalize upd H4 E (.lst (iv (es ++ [(bs.length : Int)]))) = H5 at W4 ⊢
  obtain ⟨rv, hR, rR⟩ := W4.hR
  have lR : rv.length = rs.length := by rw [rR.len, List.length_map]
  walk_at "go"
  refine ⟨.inl ⟨rfl, _, SqL.of hR⟩, iE3 _ _ _ ⟨(Qb T).mono, zz (SqL.of W4.hE) vt ⟨fd_ok (by decide) (by decide +kernel), ?_⟩⟩⟩
  refine iE4 _ c _ sp (iA5 rfl (Int.ediv_nonneg n0 (by decide)) p1 p4 (fun v H6 pc' kd s6 c1 c4 d1 d6 dk q6 => ?_))
  obtain ⟨W6, _⟩ := W4.addR hR s6 (W4.newK q6)
  refine iE3 R _ _ (iA5 rfl rfl (s6 _ _ hR) (zh (by omega)) ?_)
  walk_at "go"
  exact k _ _ _ _ _ W6 (I3.knot (r := ⟨.source, [], [(bs.length : Int)], pc', kd⟩) (List.Perm.refl _) List.perm_append_comm (iA7 rfl ⟨_, rfl⟩ c1 c4 d1 d6 dk)) (by simp; omega) (by simp; omega) (fun _ => ⟨by simp; omega, by simp; omega⟩) (by simp) (fun _ => VS rfl)
 refine zR (fun z => hp z) (fun n8 => ?_)
 clear hp
 have el : (0 : Int) < es.length := by
  rcases Nat.eq_zero_or_pos es.length with z | z
  ·exact absurd (List.length_eq_zero_iff.mp z) a0
  ·omega
 have k := fun H' bs' (rs' : List Row) es' ks' a b c d (e : 1 ≤ rs'.length) (f : HasS rs → HasS rs') => k H' bs' rs' es' ks' a b c d (fun z => absurd z a0) e (fun z => z.elim (fun z => absurd z a0) f)
 walk_at "go"
 refine iA4 (.inl ⟨rfl, _, SqL.of W1.hE⟩) (fd_ok (by decide) (by decide +kernel)) m_len ⟨_, ⟨.inl ⟨_, SqL.of W1.hE, rfl⟩, ?_⟩⟩
 rw [zk]
 refine ⟨el, ?_⟩
 have v0 := Int.emod_nonneg (nu / 9) (show (es.length : Int) ≠ 0 by omega)
 have v1 := Int.emod_lt_of_pos (nu / 9) el
 generalize nu / 9 % (es.length : Int) = jj at v0 v1 ⊢
 obtain ⟨y, hy⟩ : ∃ y, es[jj.toNat]? = some y := ⟨es[jj.toNat]'(by omega), List.getElem?_eq_getElem _⟩
 refine iE5 E (iv es) jj jj.toNat (.int y) (iA8 rfl rfl W1.hE (by omega) (by omega) (ZJ v0 (by rw [zk]; exact v1)) (jq hy) ?_)
 rw [ZY]
 have W2 := W1.setE (es.eraseIdx jj.toNat)
 have pp := w9 hy
 have pl := pp.length_eq
 rw [List.length_cons] at pl
 have I2 := I0.perm pp (List.Perm.refl _)
 generalize upd H1 E (.lst (iv (es.eraseIdx jj.toNat))) = H2 at W2 ⊢
 generalize es.eraseIdx jj.toNat = es1 at pp pl W2 I2 ⊢
 clear W W1 I0 pp
 obtain ⟨rv, hR, rR⟩ := W2.hR
 have lR : rv.length = rs.length := by rw [rR.len, List.length_map]
 walk_at "go"
 refine cut (fun σ' H' => ∃ (v9 v10 v11 v12 : Option V) (bs' : List (Int × Int)) (rs' : List Row) (es' ks' : List Int), σ' = stG L R E B c sp nu (some (.int y)) v9 v10 v11 v12 ∧ GS a ms H H' L R E B bs' rs' es' ks' ∧ WInv bs' rs' es' ks' ∧ bs'.length + ks'.length ≤ bs.length + ks.length + 4 ∧ rs'.length + es'.length + ks'.length ≤ rs.length + es.length + ks.length + 4 ∧ 1 ≤ rs'.length ∧ (HasS rs → HasS rs')) ?_ ?_
 ·walk_at "go"
  refine zR (fun w7 => ?_) (fun w7 => ?_)
  ·walk_at "go"
   refine ⟨.inl ⟨rfl, _, SqL.of hR⟩, iE3 _ _ _ (iA3 ((QT T).mono) (fd_ok (by decide) (by decide +kernel)) ?_)⟩
   refine iE3 y _ sp (iA5 rfl (Int.ediv_nonneg n0 (by decide)) p1 p4 (fun v H3 pc s3 c0 c4 q3 => ?_))
   obtain ⟨W3, _⟩ := W2.addR hR s3 (W2.newK q3)
   refine iE3 R _ _ (iA5 rfl rfl (s3 _ _ hR) (zh (by omega)) (iE8 _ _ _ _ bs _ es1 ks (iA7 rfl W3 (I2.knot (r := ⟨.drain, [y], [], pc, []⟩) (List.Perm.refl _) (List.Perm.refl _) (iA4 ⟨_, rfl⟩ rfl c0 c4)) (by omega) (by simp; omega) (by simp) HasS.snoc)))
  walk_at "go"
  refine zR (fun w3 => ?_) (fun w3 => ?_)
  ·walk_at "go"
   refine ⟨.inl ⟨rfl, _, SqL.of hR⟩, iE3 _ _ _ ⟨(Ww T).mono, ⟨ms, L, R, E, B, bs, rs, es1, ks, y, c, sp, rfl, W2.here, I2, p1, p4, by omega, by omega, by omega, fun v H3 bs' es' ks' r W3 q3 I3 l1 l2 => ?_⟩⟩⟩
   have W3 := W2.trans W3
   obtain ⟨rv3, hR3, rR3⟩ := W3.hR
   obtain ⟨W4, _⟩ := W3.addR hR3 (Same.refl _) q3
   have lR3 : rv3.length = rs.length := by rw [rR3.len, List.length_map]
   refine iE3 R _ _ (iA5 rfl rfl hR3 (zh (by omega)) (iE8 _ _ _ _ bs' _ es' ks' (iA7 rfl W4 I3 (by omega) (by simp; omega) (by simp) HasS.snoc)))
  walk_at "go"
  intro O hO
  obtain ⟨W3, nO⟩ := W2.ext (xs := []) hO
  have hO3 : upd H2 O (.lst []) O = some (.lst (iv [])) := upd_same
  have hO0 : H O = none := by
   cases e : H O with
   | none => rfl
   | some u => rw [W2.f O u nO e] at hO; cases hO
  generalize upd H2 O (.lst []) = H3 at W3 hO3 ⊢
  have mO : O ∈ O :: ms := by simp
  walk_at "go"
  refine cut (fun σ' H' => ∃ (v10 : Nat), σ' = stG L R E B c sp nu (some (.int y)) (some (.ref O)) (some (.int v10)) none none ∧ GS a (O :: ms) H H' L R E B bs rs es1 ks ∧ H' O = some (.lst (iv [])) ∧ 2 ≤ v10 ∧ v10 ≤ 4 ∧ (nu % 9 = 1 → v10 = 2)) ?_ ?_
  ·walk_at "go"
   refine zR (fun w1 => ?_) (fun w1 => ⟨2, iA6 rfl W3 hO3 (by decide) (by decide) (fun _ => rfl)⟩)
   refine oE1 (zbw (n := nu / 216)) fun m z1_ => oA3 z1_ fun em m0 m2 => ?_
   walk_at "go"
   intro q hq
   refine ⟨fd_ok (by decide) (by decide +kernel), zz (SqL.of upd_same) em ?_⟩
   have sq := zd (o := .lst [V.int 0, .int 0, .int 1, .int 2]) hq
   walk_at "go"
   refine ⟨(2 + m).toNat, iA6 ?_ (W3.same sq) (sq _ _ hO3) (by omega) (by omega) (fun z => absurd z w1)⟩
   rw [show (((2 + m).toNat : Nat) : Int) = 2 + m by omega]
  clear W3 hO3
  intro σ' H4 zz_
  refine oE1 zz_ fun mn z1_ => oA6 z1_ fun z2_ W4 hO4 m2 m4 m1 => ?_
  clear zz_
  subst z2_
  walk_at "go"
  refine cut (fun σ' H' => ∃ (v11 v12 : Option V) (bs' : List (Int × Int)) (outs : List Int), σ' = stG L R E B c sp nu (some (.int y)) (some (.ref O)) (some (.int mn)) v11 v12 ∧ GS a (O :: ms) H H' L R E B bs' rs es1 ks ∧ H' O = some (.lst (iv outs)) ∧ WInv bs' rs (y :: (es1 ++ outs)) (ks ++ outs) ∧ outs.length = mn ∧ bs'.length = bs.length + mn) ?_ ?_
  ·walk_at "for"
   walk_at "go"
   refine ⟨by omega, by omega, ?_⟩
   refine Z5 (n := (mn : Int).toNat) (fun i σ' H' => ∃ (v11 v12 : Option V) (bs' : List (Int × Int)) (outs : List Int), σ' = stG L R E B c sp nu (some (.int y)) (some (.ref O)) (some (.int mn)) v11 v12 ∧ GS a (O :: ms) H H' L R E B bs' rs es1 ks ∧ H' O = some (.lst (iv outs)) ∧ WInv bs' rs (y :: (es1 ++ outs)) (ks ++ outs) ∧ outs.length = i ∧ bs'.length = bs.length + i) (iE4 _ _ bs ([]) (iA6 rfl W4 hO4 (by rw [List.append_nil, List.append_nil]; exact I2) rfl rfl)) ?_ ?_
   ·clear W4 hO4
    intro i σ' H5 hi zz_
    refine oE4 zz_ fun v11 v12 bs' outs z1_ => oA6 z1_ fun z2_ W5 hO5 I5 lo lb' => ?_
    clear zz_
    subst z2_
    have hi4 : i < 4 := by omega
    refine oE1 (zcm hi4) fun fa z1_ => oA3 z1_ fun efa f0 f1 => ?_
    walk_at "go"
    intro q hq
    refine zz (SqL.of upd_same) efa ?_
    have sq := zd (o := .lst [V.int 941083987, .int 1726512289, .int 1999483721, .int 1103527591]) hq
    have W6 := W5.same sq
    have hO6 := sq _ _ hO5
    generalize upd H5 q (.lst [V.int 941083987, .int 1726512289, .int 1999483721, .int 1103527591]) = H6 at W6 hO6 ⊢
    clear W5 hO5 sq hq efa
    obtain ⟨bv, hL, rL⟩ := W6.hL
    have lL : bv.length = bs'.length := by rw [rL.len, List.length_map]
    walk_at "go"
    refine ⟨.inl ⟨rfl, _, SqL.of hO6⟩, iE3 _ _ _ ⟨(xZ T).mono, iE3 _ _ _ ⟨(qL T).mono, ⟨c, fa, rfl, f0, f1, ?_⟩⟩⟩⟩
    refine iE4 L bv _ sp (iA7 rfl (qZ _ _) p1 p4 hL (by omega) (fun rm pc z H7 bk s7 q7 => ?_))
    obtain ⟨W7, _⟩ := W6.addL hL s7 q7
    rw [lL]
    have nOL : O ≠ L := fun z => nO (by rw [z]; simp)
    have hO7 : upd H7 L (.lst (bv ++ [.ref z])) O = some (.lst (iv outs)) := by rw [upd_ne nOL]; exact s7 _ _ hO6
    generalize upd H7 L (.lst (bv ++ [.ref z])) = H8 at W7 hO7 ⊢
    have I7 := I5.belt (b := (rm, pc)) bk
    refine iE3 O _ _ (iA5 rfl rfl hO7 (zh (by rw [zk]; omega)) ?_)
    rw [z3]
    refine iE4 _ _ (bs' ++ [(rm, pc)]) (outs ++ [(bs'.length : Int)]) (iA6 rfl (W7.setX mO nO hO0) upd_same ?_ (by simp [lo]) (by simp [lb']; omega))
    rw [← List.append_assoc, ← List.append_assoc]
    exact I7
   ·intro σ' H5 zz_
    refine oE4 zz_ fun v11 v12 bs' outs z1_ => oA6 z1_ fun z2_ W5 hO5 I5 lo lb' => ?_
    clear zz_
    subst z2_
    exact iE4 v11 v12 bs' outs (iA6 rfl W5 hO5 I5 (by omega) (by omega))
  clear W4 hO4
  intro σ' H5 zz_
  refine oE4 zz_ fun v11 v12 bs' outs z1_ => oA6 z1_ fun z2_ W5 hO5 I5 lo lb' => ?_
  clear zz_
  subst z2_
  walk_at "go"
  refine ⟨.inl ⟨rfl, _, SqL.of W5.hE⟩, iE4 E O (iv es1) (iv outs) (iA6 rfl rfl W5.hE hO5 ?_ ?_)⟩
  ·rw [zk, zk]; exact Nat.le_of_lt (zh (by omega))
  rw [show iv es1 ++ iv outs = iv (es1 ++ outs) by simp [iv]]
  have W6 := W5.setE (es1 ++ outs)
  have nOE : O ≠ E := fun z => nO (by rw [z]; simp)
  have hO6 : upd H5 E (.lst (iv (es1 ++ outs))) O = some (.lst (iv outs)) := by rw [upd_ne nOE]; exact hO5
  generalize upd H5 E (.lst (iv (es1 ++ outs))) = H6 at W6 hO6 ⊢
  have W7 := W6.less nO
  obtain ⟨rv7, hR7, rR7⟩ := W7.hR
  have lR7 : rv7.length = rs.length := by rw [rR7.len, List.length_map]
  walk_at "go"
  refine ⟨.inl ⟨rfl, _, SqL.of hR7⟩, iE3 _ _ _ ⟨(Qc T).mono, iE3 _ _ _ (iA3 ((XD T).mono) (fd_ok (by decide) (by decide +kernel)) ?_)⟩⟩
  refine iE6 R rv7 rs c _ _ (iA7 rfl hR7 rR7 I5.ro (by omega) (Int.ediv_nonneg n0 (by decide)) (fun H8 kk s8 k0 k1 => ?_))
  refine iE5 y kk (nu % 9) O outs (iA8 rfl (s8 _ _ hO6) (by omega) (by omega) (fun z => by rw [lo]; exact m1 z) k0 k1 (fun v H9 s9 q9 => ?_))
  have s79 := s8.trans s9
  have q9 : KnP a H9 (New H6) v (QE y kk (nu % 9) outs) := q9.keep fun b o hb ho => ⟨zD s8 hb, ho⟩
  obtain ⟨W9, _⟩ := W7.addR hR7 s79 (W7.newK q9)
  refine iE3 R _ _ (iA5 rfl rfl (s79 _ _ hR7) (zh (by omega)) ?_)
  refine iE8 _ _ _ _ bs' _ (es1 ++ outs) ks (iA7 rfl W9 (I5.knot (List.Perm.refl _) List.perm_append_comm (J5 (by omega) (by omega) (fun z => by rw [lo]; exact m1 z) k0 k1)) (by omega) (by simp; omega) (by simp) HasS.snoc)
 intro σ' H3 zz_
 refine oE8 zz_ fun v9 v10 v11 v12 bs' rs' es' ks' z1_ => oA7 z1_ fun z2_ W3 I3 l1 l2 r1 hS => ?_
 clear zz_
 subst z2_
 walk_at "go"
 exact k _ _ _ _ _ W3 I3 l1 l2 r1 hS
theorem XE (T : Txt K mg a) : Cal P w K mg base "_law_grow" 5 ["_law_belts", "_law_knots", "_law_ends", "_law_loops", "_law_cell", "_law_span"] [] (zah a) := T.h_L_grow.cal (VD T)
abbrev stC (L R E B : Addr) (c sp : Int) (v6 v7 v8 v9 v10 v11 : Option V) : St := [some (.ref L), some (.ref R), some (.ref E), some (.ref B), some (.int c), some (.int sp), v6, v7, v8, v9, v10, v11]
def WE (a : Ad) : Sp := fun vs H Q _ => ∃ (ms : List Addr) (L R En B : Addr) (bs : List (Int × Int)) (rs : List Row) (es ks : List Int) (c sp : Int), vs = [.ref L, .ref R, .ref En, .ref B, .int c, .int sp] ∧ GS a ms H H L R En B bs rs es ks ∧ WInv bs rs es ks ∧ 1 ≤ sp ∧ sp ≤ 4 ∧ bs.length + ks.length ≤ 24 ∧ rs.length + es.length + ks.length ≤ 24 ∧
 ∀ H' bs' rs' es', GS a ms H H' L R En B bs' rs' es' ks → WInv bs' rs' [] [] → bs'.length ≤ bs.length + ks.length → rs'.length ≤ rs.length + es.length + ks.length → rs.length ≤ rs'.length → (HasS rs → HasS rs') → Q .non H'
theorem X9 (T : Txt K mg a) (F : Fun K "_law_close" "_law_close" we f fd) : FnOk P w K mg base (CXr P w) 5 f fd ["_law_belts", "_law_knots", "_law_ends", "_law_loops", "_law_cell", "_law_span"] (WE a) := by
 refine F.okx XW ?_ ?_
 ·walk_at "i"
 walk_at "j"
 refine oE8 h fun ms L R E B bs rs es z1_ => oE3 z1_ fun ks c sp z2_ => oA8 z2_ fun z3_ W I0 p1 p4 lb lr k => ?_
 clear h
 subst z3_
 walk_at "T"
 refine ⟨_, (zB (qc qH rfl (zY (za (pq 3) zb)) (jU (n := 2) rfl (zQ (zZ 6 XW.nd) (zQ (zZ 7 XW.nd) jg)))  (zg (zo 8 XW.nd (zx ⟨rfl, rfl, rfl⟩ hr (za (zi zM (pq 4) (zi jE (pq 6) (pq 6))) (za zc zb))))  (ze (zL (zw (qx hr.units1) (pq 2) (zE zb) (zy _))  (ze (zl (z5 PySem.F.plainAttrs_list PySem.F.slot_list_append PySem.F.type_list_append zu (pq 1) (za (zx ⟨rfl, rfl, rfl⟩ hr (za (pq 7) (za (pq 4) (za (pq 8) (za (pq 5) zb))))) zb))))  (zg (zo 9 XW.nd (z5 PySem.F.plainAttrs_list PySem.F.slot_list_pop PySem.F.type_list_pop ZT (pq 2) (za (zi zr (pq 8) (zC zO zN (za (pq 2) zb))) zb)))  (zg (zl (z5 PySem.F.plainAttrs_list PySem.F.slot_list_append PySem.F.type_list_append zu (pq 2) (za (zx ⟨rfl, rfl, rfl⟩ hr (za (pq 0) (za (zi zH (pq 8) zc) (za (pq 5) zb)))) zb)))  (zg (zo 10 XW.nd (zE (za (pq 7) (za (zF (pq 2) (J3 Zu zc)) zb))))  (zB (zL (zw (qx hr.units1) (zi zr (zi zH (pq 8) zc) zc) zc (zy _))  (ze (zo 10 XW.nd (zE (za (zF (pq 2) (J3 Zu zc)) (za (pq 7) zb)))))  zq)  (ze (zl (z5 PySem.F.plainAttrs_list PySem.F.slot_list_append PySem.F.type_list_append zu (pq 1) (za (zx ⟨rfl, rfl, rfl⟩ hr (za (pq 9) (za (pq 10) (za (zx ⟨rfl, rfl, rfl⟩ hr (za (pq 1) (za (pq 4) (za (zi zH (pq 8) zc) zb)))) (za (zi zr (zi zH (pq 8) zc) zc) zb))))) zb))))))))))))  (ze (qc qH rfl (zY (za (pq 2) zb)) (jU (n := 2) rfl (zQ (zZ 6 XW.nd) (zQ (zZ 11 XW.nd) jg)))  (ze (zl (z5 PySem.F.plainAttrs_list PySem.F.slot_list_append PySem.F.type_list_append zu (pq 1) (za (zx ⟨rfl, rfl, rfl⟩ hr (za (pq 11) (za (zx ⟨rfl, rfl, rfl⟩ hr (za (zi zM (pq 4) (zi jE (pq 6) (pq 6))) (za zc zb))) (za (pq 5) zb)))) zb))))))), ?_⟩
 walk_at "go"
 refine cut (fun σ' H' => ∃ (v6 v7 v8 v9 v10 : Option V) (bs1 : List (Int × Int)) (rs1 : List Row) (es1 : List Int), σ' = stC L R E B c sp v6 v7 v8 v9 v10 none ∧ GS a ms H H' L R E B bs1 rs1 es1 ks ∧ WInv bs1 rs1 es1 [] ∧ bs1.length ≤ bs.length + ks.length ∧ rs1.length + es1.length ≤ rs.length + es.length + ks.length ∧ rs.length ≤ rs1.length ∧ (HasS rs → HasS rs1)) ?_ ?_
 ·walk_at "for"
  walk_at "go"
  refine iE2 B _ (iA3 rfl W.hB ?_)
  refine xX (K := K) (a := B) (xs := iv ks) (fun i σ H' => ∃ (v6 v7 v8 v9 v10 : Option V) (bs1 : List (Int × Int)) (rs1 : List Row) (es1 : List Int), σ = stC L R E B c sp v6 v7 v8 v9 v10 none ∧ GS a ms H H' L R E B bs1 rs1 es1 ks ∧ WInv bs1 rs1 es1 (ks.drop i) ∧ bs1.length ≤ bs.length + i ∧ rs1.length + es1.length ≤ rs.length + es.length + i ∧ rs.length ≤ rs1.length ∧ (HasS rs → HasS rs1))
   ⟨_, _, _, _, _, bs, rs, es, rfl, W, I0, Nat.le_refl _, Nat.le_refl _, Nat.le_refl _, fun z => z⟩ (fun i σ H' _ h => by obtain ⟨_, _, _, _, _, _, _, _, _, W, _⟩ := h; exact SqL.of W.hB) ?_ ?_
  ·clear W I0
   intro i x t σ H1 hi ht zz_
   refine oE8 zz_ fun v6 v7 v8 v9 v10 bs1 rs1 es1 z1_ => oA7 z1_ fun z2_ W1 I1 l1 l2 l3 l4 => ?_
   clear zz_
   subst z2_
   obtain ⟨yl, hyl, rfl⟩ := vh hi
   have hil := (List.getElem?_eq_some_iff.mp hyl).1
   rw [WR hyl] at I1
   have s2 := zd (o := .tup [.int i, .int yl]) ht
   have W2 := W1.same s2
   refine un2 upd_same ?_
   generalize upd H1 t (.tup [.int i, .int yl]) = H2 at W2 ⊢
   clear W1 s2 ht
   walk_at "go"
   refine uc (qL T).mono ⟨mul_okR (by omega) (by omega), iE2 _ _ (iA4 rfl (by decide) (by decide) ?_)⟩
   have n0 := qZ (c + (i : Int) * i) 1726512289
   generalize xp (c + (i : Int) * i) 1726512289 = nu at n0 ⊢
   walk_at "go"
   intro q hq
   have W3 := W2.same (zd (o := .lst []) hq)
   refine za2 W3.hE upd_same ?_
   generalize upd H2 q (.lst []) = H3 at W3 ⊢
   clear W2 hq
   obtain ⟨rv, hR, rR⟩ := W3.hR
   have lR : rv.length = rs1.length := by rw [rR.len, List.length_map]
   walk_at "go"
   refine zR (fun z => ?_) (fun z => ?_)
   ·walk_at "go"
    refine ⟨.inl ⟨rfl, _, SqL.of hR⟩, iE3 _ _ _ ⟨(Qb T).mono, ⟨yl, c, nu, sp, rfl, n0, p1, p4, fun v H4 pc kd s4 c1 c4 d1 d6 dk q4 => ?_⟩⟩⟩
    obtain ⟨W4, _⟩ := W3.addR hR s4 (W3.newK q4)
    refine iE3 R _ _ (iA5 rfl rfl (s4 _ _ hR) (zh (by omega)) ?_)
    exact iE8 _ _ _ _ _ bs1 _ es1 (iA7 rfl W4 (I1.knot (r := ⟨.source, [], [yl], pc, kd⟩) (List.Perm.refl _) (List.Perm.refl _) (iA7 rfl ⟨_, rfl⟩ c1 c4 d1 d6 dk)) (by omega) (by simp; omega) (by simp; omega) (fun z => (l4 z).snoc))
   have el : (0 : Int) < es1.length := by
    rcases Nat.eq_zero_or_pos es1.length with y | y
    ·exact absurd (List.length_eq_zero_iff.mp y) z
    ·omega
   walk_at "go"
   refine iA3 (.inl ⟨rfl, _, SqL.of W3.hE⟩) m_len ⟨_, ⟨.inl ⟨_, SqL.of W3.hE, rfl⟩, ?_⟩⟩
   rw [zk]
   refine ⟨el, ?_⟩
   have v0 := Int.emod_nonneg nu (show (es1.length : Int) ≠ 0 by omega)
   have v1 := Int.emod_lt_of_pos nu el
   generalize nu % (es1.length : Int) = jj at v0 v1 ⊢
   obtain ⟨y, hy⟩ : ∃ y, es1[jj.toNat]? = some y := ⟨es1[jj.toNat]'(by omega), List.getElem?_eq_getElem _⟩
   refine iE5 E (iv es1) jj jj.toNat (.int y) (iA8 rfl rfl W3.hE (by omega) (by omega) (ZJ v0 (by rw [zk]; exact v1)) (jq hy) ?_)
   rw [ZY]
   have W4 := W3.setE (es1.eraseIdx jj.toNat)
   have pp := w9 hy
   have pl := pp.length_eq
   rw [List.length_cons] at pl
   have I2 := I1.perm pp (List.Perm.refl _)
   generalize upd H3 E (.lst (iv (es1.eraseIdx jj.toNat))) = H4 at W4 ⊢
   generalize es1.eraseIdx jj.toNat = es2 at pp pl W4 I2 ⊢
   clear W3 I1 pp rR hR lR
   obtain ⟨bv, hL, rL⟩ := W4.hL
   have lL : bv.length = bs1.length := by rw [rL.len, List.length_map]
   walk_at "go"
   refine ⟨.inl ⟨rfl, _, SqL.of W4.hE⟩, iE3 _ _ _ (iA3 ((xZ T).mono) (fd_ok (by decide) (by decide +kernel)) ?_)⟩
   refine iE4 L bv _ sp (iA7 rfl (Int.ediv_nonneg n0 (by decide)) p1 p4 hL (by omega) (fun rm pc z H5 bk s5 q5 => ?_))
   obtain ⟨W5, _⟩ := W4.addL hL s5 q5
   rw [lL]
   generalize upd H5 L (.lst (bv ++ [.ref z])) = H6 at W5 ⊢
   have I5 := I2.belt (b := (rm, pc)) bk
   refine iE3 E _ _ (iA5 rfl rfl W5.hE (zh (by rw [zk]; omega)) ?_)
   rw [z3]
   have W6 := W5.setE (es2 ++ [(bs1.length : Int)])
   generalize upd H6 E (.lst (iv (es2 ++ [(bs1.length : Int)]))) = H7 at W6 ⊢
   clear W5 W4 hL rL lL
   walk_at "go"
   refine zz (SqL.of W6.hE) vt fun O hO => ?_
   have W7 := W6.same (zd (o := .lst [V.int yl, .int (bs1.length : Int)]) hO)
   have hO7 : upd H7 O (.lst [V.int yl, .int (bs1.length : Int)]) O = some (.lst (iv [yl, (bs1.length : Int)])) := upd_same
   generalize upd H7 O (.lst [V.int yl, .int (bs1.length : Int)]) = H8 at W7 hO7 ⊢
   clear W6 hO
   walk_at "go"
   refine cut (fun σ' H' => ∃ (O : Addr) (outs : List Int), σ' = stC L R E B c sp (some (.int i)) (some (.int yl)) (some (.int nu)) (some (.int y)) (some (.ref O)) none ∧ GS a ms H H' L R E B (bs1 ++ [(rm, pc)]) rs1 (es2 ++ [(bs1.length : Int)]) ks ∧ H' O = some (.lst (iv outs)) ∧ outs.Perm [yl, (bs1.length : Int)]) ?_ ?_
   ·walk_at "go"
    walk_at "sds"
    walk_at "go"
    refine zR (fun b => ?_) (fun b => (iE2 O _ (iA4 rfl W7 hO7 (List.Perm.refl _))))
    walk_at "go"
    refine zz (SqL.of W7.hE) vt fun O2 hO2 => ?_
    walk_at "go"
    exact iE2 O2 ([(bs1.length : Int), yl]) (iA4 rfl (W7.same (zd hO2)) upd_same (List.Perm.swap _ _ _))
   clear W7 hO7
   intro σ' H9 zz_
   refine oE2 zz_ fun O outs z1_ => oA4 z1_ fun z2_ W8 hO8 po => ?_
   clear zz_
   subst z2_
   have lo : outs.length = 2 := po.length_eq
   obtain ⟨rv, hR, rR⟩ := W8.hR
   have lR : rv.length = rs1.length := by rw [rR.len, List.length_map]
   walk_at "go"
   refine ⟨.inl ⟨rfl, _, SqL.of hR⟩, iE3 _ _ _ ⟨(Qc T).mono, iE3 _ _ _ (iA3 ((XD T).mono) (fd_ok (by decide) (by decide +kernel)) ?_)⟩⟩
   refine iE6 R rv rs1 c _ _ (iA7 rfl hR rR I5.ro (by omega) (Int.ediv_nonneg n0 (by decide)) (fun H10 kk s10 k0 k1 => ?_))
   refine ⟨fd_ok (by decide) (by decide +kernel), ?_⟩
   refine iE5 y kk (nu / 48 % 3) O outs (iA8 rfl (s10 _ _ hO8) (by omega) (by omega) (fun z => lo) k0 k1 (fun v H11 s11 q11 => ?_))
   have s9 := s10.trans s11
   have q11 : KnP a H11 (New H9) v (QE y kk (nu / 48 % 3) outs) := q11.keep fun b o hb ho => ⟨zD s10 hb, ho⟩
   obtain ⟨W11, _⟩ := W8.addR hR s9 (W8.newK q11)
   refine iE3 R _ _ (iA5 rfl rfl (s9 _ _ hR) (zh (by omega)) ?_)
   refine iE8 _ _ _ _ _ _ _ (es2 ++ [(bs1.length : Int)]) (iA7 rfl W11 (I5.knot (ks' := ks.drop (i + 1)) (List.Perm.refl _) ?_ (J5 (by omega) (by omega) (fun _ => lo) k0 k1)) (by simp; omega) (by simp; omega) (by simp; omega) (fun z => (l4 z).snoc))
   refine (List.Perm.append_right _ po).trans ?_
   exact List.Perm.cons _ List.perm_append_comm
  ·intro σ H1 zz_
   refine oE8 zz_ fun v6 v7 v8 v9 v10 bs1 rs1 es1 z1_ => oA7 z1_ fun z2_ W1 I1 l1 l2 l3 l4 => ?_
   clear zz_
   subst z2_
   rw [zk] at I1 l1 l2
   rw [List.drop_length] at I1
   exact iE8 _ _ _ _ _ bs1 rs1 es1 (iA7 rfl W1 I1 l1 l2 l3 l4)
 clear W I0
 intro σ' H1 zz_
 refine oE8 zz_ fun v6 v7 v8 v9 v10 bs1 rs1 es1 z1_ => oA7 z1_ fun z2_ W1 I1 l1 l2 l3 l4 => ?_
 clear zz_
 subst z2_
 walk_at "for"
 walk_at "go"
 refine iE2 E _ (iA3 rfl W1.hE ?_)
 refine xX (K := K) (a := E) (xs := iv es1) (fun i σ H' => ∃ (v6 v11 : Option V) (rs2 : List Row), σ = stC L R E B c sp v6 v7 v8 v9 v10 v11 ∧ GS a ms H H' L R E B bs1 rs2 es1 ks ∧ WInv bs1 rs2 (es1.drop i) [] ∧ rs2.length + (es1.length - i) ≤ rs1.length + es1.length ∧ rs1.length ≤ rs2.length ∧ (HasS rs1 → HasS rs2))
  ⟨_, _, rs1, rfl, W1, I1, by omega, Nat.le_refl _, fun z => z⟩ (fun i σ H' _ h => by obtain ⟨_, _, _, _, W, _⟩ := h; exact SqL.of W.hE) ?_ ?_
 ·clear W1 I1
  intro i x t σ H2 hi ht zz_
  refine oE3 zz_ fun v6 v11 rs2 z1_ => oA6 z1_ fun z2_ W2 I2 m1 m2 m3 => ?_
  clear zz_
  subst z2_
  obtain ⟨y, hy, rfl⟩ := vh hi
  have hil := (List.getElem?_eq_some_iff.mp hy).1
  rw [WR hy] at I2
  have s3 := zd (o := .tup [.int i, .int y]) ht
  have W3 := W2.same s3
  refine un2 upd_same ?_
  generalize upd H2 t (.tup [.int i, .int y]) = H3 at W3 ⊢
  clear W2 s3 ht
  obtain ⟨rv, hR, rR⟩ := W3.hR
  have lR : rv.length = rs2.length := by rw [rR.len, List.length_map]
  walk_at "go"
  refine ⟨.inl ⟨rfl, _, SqL.of hR⟩, iE3 _ _ _ ⟨(QT T).mono, iE3 _ _ _ (iA3 ((qL T).mono) (mul_okR (by omega) (by omega)) ⟨_, _, rfl, by decide, by decide, ?_⟩)⟩⟩
  refine iE3 y _ sp (iA5 rfl (qZ _ _) p1 p4 (fun v H4 pc s4 c0 c4 q4 => ?_))
  obtain ⟨W4, _⟩ := W3.addR hR s4 (W3.newK q4)
  refine iE3 R _ _ (iA5 rfl rfl (s4 _ _ hR) (zh (by omega)) ?_)
  exact iE3 _ _ _ (iA6 rfl W4 (I2.knot (r := ⟨.drain, [y], [], pc, []⟩) (List.Perm.refl _) (List.Perm.refl _) (iA4 ⟨_, rfl⟩ rfl c0 c4)) (by simp; omega) (by simp; omega) (fun z => (m3 z).snoc))
 ·intro σ H2 zz_
  refine oE3 zz_ fun v6 v11 rs2 z1_ => oA6 z1_ fun z2_ W2 I2 m1 m2 m3 => ?_
  clear zz_
  subst z2_
  rw [zk] at I2 m1
  rw [List.drop_length] at I2
  walk_at "go"
  exact k _ _ _ _ W2 I2 l1 (by omega) (by omega) fun z => m3 (l4 z)
theorem V4 (T : Txt K mg a) : Cal P w K mg base "_law_close" 5 ["_law_belts", "_law_knots", "_law_ends", "_law_loops", "_law_cell", "_law_span"] [] (WE a) := T.h_L_close.cal (X9 T)
abbrev stK (l : Addr) (c nu : Int) (v4 v9 v10 v11 v12 v13 v14 : Option V) : St := [some (.ref l), some (.int c), some (.int nu), some (.int (1 + nu % 4)), v4, v9, v10, v11, v12, v13, v14]
def Zy (K : PySem.W.Frag) (a : Ad) : Sp := fun vs H Q _ => ∃ (l : Addr) (ns : List Int), vs = [.ref l] ∧ SqL K H l (iv ns) ∧ ∀ v H' bs rs, Same H H' → Rep H' (Off []) v (qp a bs rs) → vv bs rs → (∀ b ∈ bs, zP b.1 b.2) → (∀ r ∈ rs, r.ok) → HasS rs → Q v H'
theorem Wo {K : PySem.W.Frag} {a : Ad} {vs : List V} {H : Hp} {Q : VK} {E : XK} (l : Addr) (ns : List Int) (q0 : vs = [.ref l]) (q1 : SqL K H l (iv ns)) (q2 : ∀ v H' bs rs, Same H H' → Rep H' (Off []) v (qp a bs rs) → vv bs rs → (∀ b ∈ bs, zP b.1 b.2) → (∀ r ∈ rs, r.ok) → HasS rs → Q v H') : Zy K a vs H Q E := ⟨l, ns, q0, q1, q2⟩
theorem VA (T : Txt K mg a) (F : Fun K "_law_work" "_law_work" wU f fd) : FnOk P w K mg base (CXr P w) 7 f fd ["_law_script"] (Zy K a) := by
 refine F.okx Vj ?_ ?_
 ·walk_at "i"
 walk_at "j"
 refine oE2 h fun l ns z1_ => oA3 z1_ fun z2_ hl k => ?_
 clear h
 subst z2_
 walk_at "T"
 refine ⟨_, (zg (zo 1 Vj.nd (zx ⟨rfl, rfl, rfl⟩ hr (za (pq 0) (za zc zb))))  (zg (zo 2 Vj.nd (zx ⟨rfl, rfl, rfl⟩ hr (za (pq 1) (za zc zb))))  (zg (zo 3 Vj.nd (zi zM zc (zi zr (pq 2) zc)))  (zg (zo 4 Vj.nd (zi zM zc (zi zr (zi zH (pq 2) zc) zc)))  (zB (zL (zw (qx hr.units1) (zi zr (zi zH (pq 2) zc) zc) zc (zy _))  (ze (zo 4 Vj.nd (zi zM (pq 4) zc)))  zq)  (zg (zo 5 Vj.nd (zE zb))  (zg (zo 6 Vj.nd (zE zb))  (zg (zo 7 Vj.nd (zE zb))  (zg (zo 8 Vj.nd (zE zb))  (zB (qc qH rfl (zW (xi vz (pq 0) (xA zc) (xA (zi zM zc (pq 4))))) (zZ 9 Vj.nd)  (ze (zl (zx ⟨rfl, rfl, rfl⟩ hr (za (pq 5) (za (pq 6) (za (pq 7) (za (pq 8) (za (pq 9) (za (pq 3) zb))))))))))  (zB (zL (zw (zb9 hr.units1) (pq 6) (zE zb) (zy _))  (ze (zl (zx ⟨rfl, rfl, rfl⟩ hr (za (pq 5) (za (pq 6) (za (pq 7) (za (pq 8) (za (pq 1) (za (pq 3) zb)))))))))  zq)  (zg (zl (zx ⟨rfl, rfl, rfl⟩ hr (za (pq 5) (za (pq 6) (za (pq 7) (za (pq 8) (za (pq 1) (za (pq 3) zb))))))))  (zg (zo 10 Vj.nd (zi zr (zi zH (pq 2) zc) (zC zO zN (za (pq 6) zb))))  (zg (zo 6 Vj.nd (zi zM (xi vz (pq 6) (xA (pq 10)) va) (xi vz (pq 6) va (xA (pq 10)))))  (zB (zL (zw (qx hr.units1) (zi zr (zi zH (pq 2) zc) zc) zc (zy _))  (ze (zo 6 Vj.nd (zbq rfl (za (pq 6) zb))))  zq)  (ze (zA (jm ⟨rfl, rfl, rfl⟩ hr (za (pq 5) (za (pq 6) zb)))))))))))))))))))), ?_⟩
 walk_at "go"
 refine uc (zbb T).mono (iE3 l ns 0 (iA3 rfl hl ?_))
 generalize QR ns 0 = c
 walk_at "go"
 refine uc (qL T).mono (iE2 c _ (iA4 rfl (by decide) (by decide) ?_))
 have n0 := qZ c 1873046521
 generalize xp c 1873046521 = nu at n0 ⊢
 have s0 := Int.emod_nonneg nu (show (4 : Int) ≠ 0 by decide)
 have s1 := Int.emod_lt_of_pos nu (show (0 : Int) < 4 by decide)
 have m0 := Int.emod_nonneg (nu / 4) (show (4 : Int) ≠ 0 by decide)
 have m1 := Int.emod_lt_of_pos (nu / 4) (show (0 : Int) < 4 by decide)
 walk_at "go"
 walk_at "sds"
 walk_at "go"
 let M1_ : St → Hp → Prop := fun σ' H' => ∃ m : Nat, σ' = stK l c nu (some (.int m)) none none none none none none ∧ H' = H ∧ m ≤ 6
 refine cut M1_ ?_ ?_
 ·walk_at "go"
  walk_at "sds"
  walk_at "go"
  refine zR (fun _ => ?_) (fun _ => ?_)
  ·walk_at "go"
   refine ⟨(1 + nu / 4 % 4 + 2).toNat, iA3 ?_ rfl (by omega)⟩
   rw [show (((1 + nu / 4 % 4 + 2).toNat : Nat) : Int) = 1 + nu / 4 % 4 + 2 by omega]
  ·refine ⟨(1 + nu / 4 % 4).toNat, iA3 ?_ rfl (by omega)⟩
   rw [show (((1 + nu / 4 % 4).toNat : Nat) : Int) = 1 + nu / 4 % 4 by omega]
 intro σ' H' zz_
 refine oE1 zz_ fun mn z1_ => oA3 z1_ fun z2_ z3_ m6 => ?_
 clear zz_
 subst z2_ z3_
 clear m0 m1
 walk_at "go"
 intro L hL
 walk_at "go"
 intro R hR
 walk_at "go"
 intro E hE
 walk_at "go"
 intro B hB
 have sH := (((zd (o := .lst []) hL).trans (zd (o := .lst []) hR)).trans (zd (o := .lst []) hE)).trans (zd (o := .lst []) hB)
 have nw : ∀ m ∈ ms4 L R E B, H' m = none := fun m hm => by
  simp only [List.mem_cons, List.not_mem_nil, or_false] at hm
  rcases hm with rfl | rfl | rfl | rfl
  ·exact hL
  ·exact zI hR
  ·exact zI (zI hE)
  ·exact zI (zI (zI hB))
 have e1 := upd_keep (o := .lst []) (upd_keep (o := .lst []) (upd_keep (o := .lst []) (upd_same (H := H') (a := L) (o := .lst [])) hR) hE) hB
 have e2 := upd_keep (o := .lst []) (upd_keep (o := .lst []) (upd_same (H := upd H' L (.lst [])) (a := R) (o := .lst [])) hE) hB
 have e3 := upd_keep (o := .lst []) (upd_same (H := upd (upd H' L (.lst [])) R (.lst [])) (a := E) (o := .lst [])) hB
 have e4 : upd (upd (upd (upd H' L (.lst [])) R (.lst [])) E (.lst [])) B (.lst []) B = some (.lst []) := upd_same
 have W0 : GS a (ms4 L R E B) (upd (upd (upd (upd H' L (.lst [])) R (.lst [])) E (.lst [])) B (.lst [])) (upd (upd (upd (upd H' L (.lst [])) R (.lst [])) E (.lst [])) B (.lst [])) L R E B [] [] [] [] :=
  ⟨Fr.refl, ne_of_none upd_same hR, ne_of_none (upd_keep upd_same hR) hE, ne_of_none (upd_keep (upd_keep upd_same hR) hE) hB, ne_of_none upd_same hE, ne_of_none (upd_keep upd_same hE) hB, ne_of_none upd_same hB, fun _ h => h, fun m hm => by
   simp only [List.mem_cons, List.not_mem_nil, or_false] at hm
   rcases hm with rfl | rfl | rfl | rfl
   ·exact ⟨_, e1⟩
   ·exact ⟨_, e2⟩
   ·exact ⟨_, e3⟩
   ·exact ⟨_, e4⟩, ⟨[], e1, .nil⟩, ⟨[], e2, .nil⟩, e3, e4⟩
 generalize upd (upd (upd (upd H' L (.lst [])) R (.lst [])) E (.lst [])) B (.lst []) = H1 at sH W0 ⊢
 clear e1 e2 e3 e4 hL hR hE hB
 walk_at "go"
 let M2_ : St → Hp → Prop := fun σ' H2 => ∃ (v13 : Option V) (bs : List (Int × Int)) (rs : List Row) (es ks : List Int), σ' = stK l c nu (some (.int mn)) (some (.ref L)) (some (.ref R)) (some (.ref E)) (some (.ref B)) v13 none ∧ GS a (ms4 L R E B) H1 H2 L R E B bs rs es ks ∧ WInv bs rs es ks ∧ (rs.length = 0 → bs.length + ks.length = 0 ∧ es = []) ∧ (rs.length = 0 ∨ HasS rs) ∧ bs.length + ks.length ≤ 21 ∧ rs.length + es.length + ks.length ≤ 22
 refine cut M2_ ?_ ?_
 ·walk_at "for"
  walk_at "go"
  refine vE (qD sH hl) fun p hp => ?_
  obtain ⟨cs, ecs, lcs⟩ := zcq ns mn
  rw [ecs]
  have W1 := W0.same (zd (o := .lst (iv cs)) hp)
  have np := W0.off hp
  have gp : upd H1 p (.lst (iv cs)) p = some (.lst (iv cs)) := upd_same
  generalize upd H1 p (.lst (iv cs)) = H2 at W1 gp ⊢
  refine ⟨p, rfl, .inl ⟨⟨_, SqL.of gp⟩, ?_⟩⟩
  let M3_ : Nat → St → Hp → Prop := fun i σ' H2 => ∃ (v13 : Option V) (bs : List (Int × Int)) (rs : List Row) (es ks : List Int), σ' = stK l c nu (some (.int mn)) (some (.ref L)) (some (.ref R)) (some (.ref E)) (some (.ref B)) v13 none ∧ GS a (ms4 L R E B) H1 H2 L R E B bs rs es ks ∧ H2 p = some (.lst (iv cs)) ∧ WInv bs rs es ks ∧ (i = 0 → bs.length + ks.length = 0 ∧ rs.length = 0 ∧ es = []) ∧ (1 ≤ i → bs.length + ks.length + 3 ≤ 4 * i ∧ rs.length + es.length + ks.length + 2 ≤ 4 * i ∧ 1 ≤ rs.length) ∧ (i = 0 ∨ HasS rs)
  refine qg (K := K) (a := p) (xs := iv cs) M3_
   ⟨_, [], [], [], [], rfl, W1, gp, ⟨List.Perm.refl _, List.Perm.refl _, (fun _ z => nomatch z), (fun _ z => nomatch z)⟩, fun _ => ⟨rfl, rfl, rfl⟩, (fun z => absurd z (by decide)), .inl rfl⟩ (fun i σ H' _ h => by obtain ⟨_, _, _, _, _, _, _, g, _⟩ := h; exact SqL.of g) ?_ ?_
  ·clear W1 gp
   intro i x σ' H3 hi zz_
   refine oE5 zz_ fun v13 bs rs es ks z1_ => oA7 z1_ fun z2_ W gp I0 i0 i1 i2 => ?_
   clear zz_
   subst z2_
   obtain ⟨y, hy, rfl⟩ := vh hi
   have hil := (List.getElem?_eq_some_iff.mp hy).1
   have z : i = 0 ∨ 1 ≤ i := by omega
   have bb : bs.length ≤ 21 ∧ rs.length ≤ 22 ∧ es.length ≤ 22 ∧ ks.length ≤ 22 := by
    rcases z with z | z
    ·obtain ⟨q1, q2, rfl⟩ := i0 z
     exact iA4 (by omega) (by omega) (by simp) (by omega)
    ·have := i1 z
     omega
   walk_at "go"
   refine uc (XE T).mono (iE8 _ L R E B bs rs es (iE3 ks y _ (iA6 rfl W.here I0 (by omega) (by omega) (iA5 (by omega) (by omega) (by omega) (by omega) (fun H4 bs2 rs2 es2 ks2 W2 I2 l1 l2 l3 r1 hS => ?_)))))
   walk_at "go"
   refine iE5 _ bs2 rs2 es2 ks2 (iA7 rfl (W.trans W2) (W2.f _ _ np gp) I2 (fun z => nomatch z) (fun _ => ?_) (.inr (hS (i2.imp (fun z => (i0 z).2.2) fun z => z))))
   rcases z with z | z
   ·obtain ⟨q1, q2, q3⟩ := i0 z
    obtain ⟨n1, n2⟩ := l3 q3
    subst q3
    simp only [List.length_nil] at n2
    omega
   ·have := i1 z
    omega
  ·intro σ' H3 zz_
   refine oE5 zz_ fun v13 bs rs es ks z1_ => oA7 z1_ fun z2_ W gp I0 i0 i1 i2 => ?_
   clear zz_
   subst z2_
   rw [zk] at i0 i1 i2
   have z : cs.length = 0 ∨ 1 ≤ cs.length := by omega
   refine iE5 v13 bs rs es ks (iA7 rfl W I0 (fun r0 => ?_) ?_ ?_ ?_)
   ·rcases z with z | z
    ·exact ⟨(i0 z).1, (i0 z).2.2⟩
    ·have := i1 z; omega
   ·rcases i2 with z | z
    ·exact .inl (i0 z).2.1
    ·exact .inr z
   ·rcases z with z | z
    ·have := i0 z; omega
    ·have := i1 z; omega
   ·rcases z with z | z
    ·obtain ⟨q1, q2, rfl⟩ := i0 z
     simp only [List.length_nil]
     omega
    ·have := i1 z; omega
 clear W0
 intro σ' H2 zz_
 refine oE5 zz_ fun v13 bs rs es ks z1_ => oA7 z1_ fun z2_ W I0 r0 rS l1 l2 => ?_
 clear zz_
 subst z2_
 walk_at "go"
 let M4_ : St → Hp → Prop := fun σ' H2 => ∃ (bs : List (Int × Int)) (rs : List Row) (es ks : List Int), σ' = stK l c nu (some (.int mn)) (some (.ref L)) (some (.ref R)) (some (.ref E)) (some (.ref B)) v13 none ∧ GS a (ms4 L R E B) H1 H2 L R E B bs rs es ks ∧ WInv bs rs es ks ∧ 1 ≤ rs.length ∧ HasS rs ∧ bs.length + ks.length ≤ 24 ∧ rs.length + es.length + ks.length ≤ 24
 refine cut M4_ ?_ ?_
 ·walk_at "go"
  intro q hq
  have W1 := W.same (zd (o := .lst []) hq)
  obtain ⟨rv, hR, rR⟩ := W1.hR
  have lR : rv.length = rs.length := by rw [rR.len, List.length_map]
  refine iE3 R q rv (iA5 rfl rfl (SqL.of hR) (SqL.of upd_same) ?_)
  rw [lR]
  generalize upd H2 q (.lst []) = H3 at W1 hR rR ⊢
  walk_at "go"
  refine zR (fun z => ?_) (fun z => (iE4 bs rs es ks (iA7 rfl W1 I0 (by omega) (rS.resolve_left (by omega)) (by omega) (by omega))))
  obtain ⟨q1, rfl⟩ := r0 z
  simp only [List.length_nil] at l2
  walk_at "go"
  refine uc (XE T).mono (iE8 _ L R E B bs rs ([]) (iE3 ks c _ (iA6 rfl W1.here I0 (by omega) (by omega) (iA5 (by omega) (by omega) (by simp) (by omega) (fun H4 bs2 rs2 es2 ks2 W2 I2 _ _ l3 r1 hS => ?_)))))
  obtain ⟨n1, n2⟩ := l3 rfl
  simp only [List.length_nil] at n2
  exact iE4 bs2 rs2 es2 ks2 (iA7 rfl (W1.trans W2) I2 r1 (hS (.inl rfl)) (by omega) (by omega))
 clear W I0 r0 rS l1 l2
 intro σ' H2 zz_
 refine oE4 zz_ fun bs rs es ks z1_ => oA7 z1_ fun z2_ W I0 r1 hS l1 l2 => ?_
 clear zz_
 subst z2_
 walk_at "go"
 refine uc (V4 T).mono (iE8 _ L R E B bs rs es (iE3 ks c _ (iA8 rfl W.here I0 (by omega) (by omega) l1 l2 (fun H3 bs' rs' es' W2 I2 lb lr rr hS' => ?_))))
 have W3 := W.trans W2
 have sK : Same H' H3 := (sH.fr.trans W3.f).same nw
 obtain ⟨bv, hL, rL⟩ := W3.hL
 obtain ⟨rv, hR, rR⟩ := W3.hR
 have lR : rv.length = rs'.length := by rw [rR.len, List.length_map]
 clear W W2 I0
 walk_at "go"
 refine iA3 (fd_ok (by decide) (by decide +kernel)) m_len ⟨_, ⟨.inl ⟨_, SqL.of hR, rfl⟩, ?_⟩⟩
 rw [lR]
 refine ⟨by omega, ?_⟩
 have w0 := Int.emod_nonneg (nu / 64) (show (rs'.length : Int) ≠ 0 by omega)
 have w1 := Int.emod_lt_of_pos (nu / 64) (show (0 : Int) < (rs'.length : Int) by omega)
 obtain ⟨ct, ect⟩ : ∃ m : Nat, nu / 64 % (rs'.length : Int) = m := ⟨(nu / 64 % (rs'.length : Int)).toNat, by omega⟩
 rw [ect] at w1 ⊢
 clear w0 ect
 walk_at "go"
 refine vE (SqL.of hR) fun q1 hq1 => ?_
 rw [Xw rv ct (by omega)]
 have a1 := zd (o := .lst (rv.drop ct)) hq1
 refine vE (SqL.of (a1 _ _ hR)) fun q2 hq2 => ?_
 rw [Z8 rv ct]
 have a2 := zd (o := .lst (rv.take ct)) hq2
 refine Jh (SqL.of (a2 _ _ upd_same)) (SqL.of upd_same) (Q6 (by rw [List.length_drop, List.length_take]; omega)) fun q3 hq3 => ?_
 have a3 := zd (o := .lst (rv.drop ct ++ rv.take ct)) hq3
 have sA := (a1.trans a2).trans a3
 have g3 : upd (upd (upd H3 q1 (.lst (rv.drop ct))) q2 (.lst (rv.take ct))) q3 (.lst (rv.drop ct ++ rv.take ct)) q3 = some (.lst (rv.drop ct ++ rv.take ct)) := upd_same
 generalize upd (upd (upd H3 q1 (.lst (rv.drop ct))) q2 (.lst (rv.take ct))) q3 _ = H4 at sA g3 ⊢
 clear a1 a2 a3 hq1 hq2 hq3
 have tr : ∀ {H1 H2 : Hp} {p : Addr → Prop} {vs : List V} {ds : List D}, Reps H1 p vs ds → Same H1 H2 → Reps H2 (fun _ => True) vs ds := fun r s => r.keep fun b o _ hb => ⟨trivial, s b o hb⟩
 have b2 := tr ((rR.drop ct).append (rR.take ct)) sA
 rw [← List.map_drop, ← List.map_take, ← List.map_append] at b2
 have pm := w4 rs' ct
 generalize rs'.drop ct ++ rs'.take ct = rs3 at b2 pm
 generalize rv.drop ct ++ rv.take ct = rv3 at b2 g3
 have rL4 := tr rL sA
 have hL4 := sA _ _ hL
 have sK4 := sK.trans sA
 clear sA hL rL hR rR lR
 walk_at "go"
 let M5_ : St → Hp → Prop := fun σ' H5 => ∃ (R' : Addr) (rv' : List V) (rs2 : List Row), σ' = stK l c nu (some (.int mn)) (some (.ref L)) (some (.ref R')) (some (.ref E)) (some (.ref B)) v13 (some (.int ct)) ∧ Same H4 H5 ∧ H5 R' = some (.lst rv') ∧ Reps H5 (fun _ => True) rv' (rs2.map (xK a)) ∧ rs2.Perm rs'
 refine cut M5_ ?_ ?_
 ·walk_at "go"
  walk_at "sds"
  walk_at "go"
  refine zR (fun z => ?_) (fun z => (iE3 q3 rv3 rs3 (iA5 rfl (Same.refl _) g3 b2 pm)))
  walk_at "go"
  refine iE2 q3 _ (iA3 rfl (SqL.of g3) (fun q hq => ?_))
  have b3 := tr b2.reverse (zd (o := .lst rv3.reverse) hq)
  rw [← List.map_reverse] at b3
  walk_at "go"
  exact iE3 q _ _ (iA5 rfl (zd hq) upd_same b3 ((List.reverse_perm _).trans pm))
 intro σ' H5 zz_
 refine oE3 zz_ fun R' rv' rs2 z1_ => oA5 z1_ fun z2_ s5 hR5 rR5 pm2 => ?_
 clear zz_
 subst z2_
 obtain ⟨wok, ro⟩ := I2.work pm2 (by omega) (by omega) (by omega)
 walk_at "go"
 refine iE4 a.Work _ _ _ ⟨(zci T).mono, ?_⟩
 intro z dz hz hdz _
 exact zbx hz hdz (s5 _ _ hL4) hR5 (tr rL4 s5) rR5 wok I2.bo ro fun H11 s11 r11 => ⟨rfl, k _ _ _ _ ((sK4.trans s5).trans s11) r11 wok I2.bo ro ((hS' hS).perm pm2)⟩
theorem za8 (T : Txt K mg a) : Cal P w K mg base "_law_work" 7 ["_law_script"] [] (Zy K a) := T.h_L_work.cal (VA T)
abbrev qS := Option (Int × Int)
def z8 : qS → D
 | none => .non
 | some (s, n) => .tup [.int s, .int n]
theorem VT (x : qS) : Hard (z8 x) := by
 cases x with
 | none => exact .non
 | some x =>
  refine .tup fun i d h => ?_
  have : d ∈ [D.int x.1, D.int x.2] := List.mem_of_getElem? h
  simp at this
  rcases this with rfl | rfl <;> exact .int
structure PSt where
 turn : Int
 cells : List (List qS)
 sides : List Int
 gone : List (List Int)
abbrev zn (cs : List (List qS)) : List (List D) := cs.map fun c => c.map z8
abbrev qf (gs : List (List Int)) : List (List D) := gs.map fun g => g.map D.int
def stF (st : PSt) : List (Str × D) := [("turn", .int st.turn), ("cells", .lst ((zn st.cells).map D.lst)), ("sides", .ints st.sides), ("gone", .lst ((qf st.gone).map D.lst))]
def zcp (a : Ad) (st : PSt) : D := .ob a.State (stF st)
def sff (t : Int) (lc ls lg : Addr) : List (Str × V) := [(("turn" : Str), V.int t), (("cells" : Str), V.ref lc), (("sides" : Str), V.ref ls), (("gone" : Str), V.ref lg)]
theorem zc7 {t : Int} : z7 "turn" (.int t) [] = ([(("turn" : Str), V.int t)] : List (Str × V)) := rfl
theorem zc6 {t : Int} {lc : Addr} : z7 "cells" (.ref lc) [(("turn" : Str), V.int t)] = ([(("turn" : Str), V.int t), (("cells" : Str), V.ref lc)] : List (Str × V)) := by
 simp only [z7]; rw [if_neg (by decide +kernel)]
theorem zc5 {t : Int} {lc ls : Addr} : z7 "sides" (.ref ls) [(("turn" : Str), V.int t), (("cells" : Str), V.ref lc)] = ([(("turn" : Str), V.int t), (("cells" : Str), V.ref lc), (("sides" : Str), V.ref ls)] : List (Str × V)) := by
 simp only [z7]; rw [if_neg (by decide +kernel), if_neg (by decide +kernel)]
theorem zc4 {t : Int} {lc ls lg : Addr} : z7 "gone" (.ref lg) [(("turn" : Str), V.int t), (("cells" : Str), V.ref lc), (("sides" : Str), V.ref ls)] = sff t lc ls lg := by
 unfold sff; simp only [z7]; rw [if_neg (by decide +kernel), if_neg (by decide +kernel), if_neg (by decide +kernel)]
structure SN where
 dx : Addr
 lc : Addr
 ls : Addr
 lg : Addr
 acs : List Addr
 ags : List Addr
def SN.all (n : SN) : List Addr := n.ls :: n.lc :: n.lg :: (n.acs ++ n.ags)
structure StO (a : Ad) (H : Hp) (y : Addr) (n : SN) (st : PSt) : Prop where
 hy : H y = some (.ins a.State n.dx (sff st.turn n.lc n.ls n.lg))
 hc : NL H (zV H) n.lc n.acs (zn st.cells)
 hs : H n.ls = some (.lst (iv st.sides))
 hg : NL H (zV H) n.lg n.ags (qf st.gone)
 nd : n.all.Nodup
theorem StO.rep {H : Hp} {y : Addr} {n : SN} {st : PSt} (h : StO a H y n st) : Rep H (Off []) (.ref y) (zcp a st) :=
 xy (fun z => nomatch z) h.hy rfl (.cons .int (.cons h.hc.rep (.cons (zX (fun z => nomatch z) h.hs) (.cons h.hg.rep .nil))))
theorem StO.same {H H' : Hp} {y : Addr} {n : SN} {st : PSt} (h : StO a H y n st) (s : Same H H') : StO a H' y n st :=
 ⟨s _ _ h.hy, h.hc.keep (fun b o _ hb => s b o hb) (fun b ⟨xs, hx⟩ _ => ⟨xs, s _ _ hx⟩), s _ _ h.hs, h.hg.keep (fun b o _ hb => s b o hb) (fun b ⟨xs, hx⟩ _ => ⟨xs, s _ _ hx⟩), h.nd⟩
def xN (a : Ad) : Sp := fun vs H Q _ => ∃ (y dx : Addr) (vc vs' vg : V) (st : PSt) (p : Addr → Prop), vs = [.ref y, .int st.turn, vc, vs', vg] ∧ H y = some (.ins a.State dx []) ∧ (∀ b, p b → b ≠ y) ∧
 Rep H p vc (.lst ((zn st.cells).map D.lst)) ∧ Rep H p vs' (.ints st.sides) ∧ Rep H p vg (.lst ((qf st.gone).map D.lst)) ∧ st.cells.length ≤ 100 ∧ st.gone.length ≤ 100 ∧
 ∀ H' n, n.dx = dx → Own H H' y → StO a H' y n st → (∀ b ∈ n.all, H b = none) → Q .non H'
theorem J1 {H : Hp} {p : Addr → Prop} {vs : List V} {ds : List D} (h : Reps H p vs ds) (hd : ∀ d ∈ ds, Hard d) : Reps H (zV H) vs ds :=
 ⟨h.len, fun i v d e1 e2 => (h.g i v d e1 e2).hard (hd d (List.mem_of_getElem? e2)) fun b xs _ hb => ⟨xs, hb⟩⟩
theorem Wp (c : List qS) : ∀ d ∈ c.map z8, Hard d := fun d hd => by
 obtain ⟨x, _, rfl⟩ := List.mem_map.mp hd
 exact VT x
theorem VU (c : List Int) : ∀ d ∈ c.map D.int, Hard d := fun d hd => by
 obtain ⟨x, _, rfl⟩ := List.mem_map.mp hd
 exact .int
theorem Qs (T : Txt K mg a) (F : Fun K "__init__" "State.__init__" qN f fd) : FnOk P w K mg base (CXr P w) 1 f fd ["self", "turn", "cells", "sides", "gone"] (xN a) := by
 refine F.okx Qk ?_ ?_
 ·walk_at "i"
 walk_at "j"
 refine oE7 h fun y dx vc vs' vg st p z1_ => oA9 z1_ fun z2_ hy hp rc rs rg lc lg k => ?_
 clear h
 subst z2_
 refine oE2 rc.lst' fun c0 ucs z1_ => oA4 z1_ fun z2_ pc0 hc0 rcs => ?_
 subst z2_
 refine oE1 rs.ints' fun s0 z1_ => oA3 z1_ fun z2_ ps0 hs0 => ?_
 subst z2_
 have hs0 : H s0 = some (.lst (iv st.sides)) := hs0
 refine oE2 rg.lst' fun g0 ugs z1_ => oA4 z1_ fun z2_ pg0 hg0 rgs => ?_
 subst z2_
 have lcs : ucs.length = st.cells.length := by rw [rcs.len, List.length_map, List.length_map]
 have lgs : ugs.length = st.gone.length := by rw [rgs.len, List.length_map, List.length_map]
 walk_at "T"
 refine ⟨_, (zg (jf (pq 0) (pq 1) rfl)  (zg (jf (pq 0) (j4 (vars := ["belt_cells"]) (caps := []) (N := ["belt_cells"]) (ON := ["self", "turn", "cells", "sides", "gone"]) (osc := zf qN) rfl rfl (by first | decide +kernel | kernel_rfl) rfl rfl (zW (pq 2)) (fun s H fp pins => (zZ 0 (show (["belt_cells"] : List Str).Nodup from by decide +kernel))) (fun s H fp pins => z6) (fun s H fp pins => (jh jv qX (za (pq 0) zb)))) rfl)  (zg (jf (pq 0) (jh jv qX (za (pq 3) zb)) rfl)  (ze (jf (pq 0) (j4 (vars := ["counts"]) (caps := []) (N := ["counts"]) (ON := ["self", "turn", "cells", "sides", "gone"]) (osc := zf qN) rfl rfl (by first | decide +kernel | kernel_rfl) rfl rfl (zW (pq 4)) (fun s H fp pins => (zZ 0 (show (["counts"] : List Str).Nodup from by decide +kernel))) (fun s H fp pins => z6) (fun s H fp pins => (jh jv qX (za (pq 0) zb)))) rfl))))), ?_⟩
 walk_at "go"
 refine iE4 y a.State dx ([]) (iA6 rfl hy T.C_State T.N_State_turn (by decide) ?_)
 rw [zc7]
 have o1 : Own H (upd H y (.ins a.State dx [(("turn" : Str), V.int st.turn)])) y := qW
 have y1 : upd H y (.ins a.State dx [(("turn" : Str), V.int st.turn)]) y = some (.ins a.State dx [(("turn" : Str), V.int st.turn)]) := upd_same
 generalize upd H y (.ins a.State dx [(("turn" : Str), V.int st.turn)]) = H1 at o1 y1 ⊢
 have kp : ∀ b, zV H b → H b ≠ none → b ≠ y := fun b ⟨xs, hx⟩ _ z => by rw [z, hy] at hx; cases hx
 walk_at "lc"
 walk_at "go"
 refine ⟨c0, rfl, .inl ⟨⟨_, SqL.of (o1 _ _ (hp _ pc0) hc0)⟩, fun _ _ _ _ acc hacc => ?_⟩⟩
 let M1_ : Nat → St → Hp → Prop := fun i σ H' => ∃ (v0 : Option V) (as : List Addr), σ = [v0] ∧ Same H1 H' ∧ NL H' (zV H) acc as (zn (st.cells.take i)) ∧ ∀ b ∈ as, H1 b = none
 refine qg (K := K) (a := c0) (xs := ucs) M1_ (iE2 _ ([]) (iA4 rfl (zd hacc) (by rw [List.take_zero]; exact ZS upd_same) (by simp))) (fun i σ H' _ h => by obtain ⟨_, _, _, s, _⟩ := h; exact SqL.of (s _ _ (o1 _ _ (hp _ pc0) hc0))) ?_ ?_
 ·intro i x σ H2 hi zz_
  refine oE2 zz_ fun v0 as z1_ => oA4 z1_ fun z2_ s2 nl fr => ?_
  clear zz_
  subst z2_
  obtain ⟨d, hd, rx⟩ := rcs.at hi
  rw [List.getElem?_map, List.getElem?_map] at hd
  obtain ⟨c, hc⟩ : ∃ c, st.cells[i]? = some c := by
   cases e : st.cells[i]? with
   | none => rw [e] at hd; cases hd
   | some c => exact ⟨c, rfl⟩
  rw [hc] at hd
  cases hd
  refine oE2 (Rep.lst' rx) fun li vi z1_ => oA4 z1_ fun z2_ pli hli ri => ?_
  subst z2_
  have hil := (List.getElem?_eq_some_iff.mp hc).1
  have hli2 := s2 _ _ (o1 _ _ (hp _ pli) hli)
  walk_at "go"
  refine iE2 li _ (iA3 rfl (.inl (SqL.of hli2)) (fun b hb => ?_))
  have nb : b ∉ as := fun z => by
   obtain ⟨j, hj⟩ := List.getElem?_of_mem z
   obtain ⟨vs, h1, _⟩ := nl.g j b _ hj (List.getElem?_eq_getElem (by rw [← nl.len]; exact (List.getElem?_eq_some_iff.mp hj).1))
   rw [h1] at hb; cases hb
  have nG : b ≠ acc := fun z => by rw [z, nl.out] at hb; cases hb
  have s3 : Same H2 (upd H2 b (.lst vi)) := zd hb
  have ac3 := upd_keep (o := .lst vi) nl.out hb
  refine ⟨_, iA3 ac3 (zh (by rw [List.length_map, nl.len, List.length_map, List.length_take]; omega)) ?_⟩
  have ri3 : Reps (upd H2 b (.lst vi)) (zV H) vi (c.map z8) := (J1 ri (Wp c)).keep fun z o pz hz => ⟨pz, s3 _ _ (s2 _ _ (o1 _ _ (kp z pz (by rw [hz]; intro q; cases q)) hz))⟩
  have nl3 := (nl.same s3).push (b := b) (vs := vi) (ys := c.map z8) upd_same nb nG (fun ⟨xs, hx⟩ => by
   have := o1 _ _ (kp acc ⟨xs, hx⟩ (by rw [hx]; intro q; cases q)) hx
   rw [hacc] at this; cases this) ri3
  refine iE2 _ (as ++ [b]) (iA4 rfl ?_ ?_ ?_)
  ·exact fun z o hz => by rw [upd_ne (ne_of_none hz hacc)]; exact s3 _ _ (s2 _ _ hz)
  ·rw [List.take_add_one, hc]
   rw [show zn (st.cells.take i ++ (some c).toList) = zn (st.cells.take i) ++ [c.map z8] by simp [zn]]
   exact nl3
  ·intro z hz
   rcases List.mem_append.mp hz with hz | hz
   ·exact fr z hz
   ·rw [List.mem_singleton.mp hz]; exact zD s2 hb
 intro σ H2 zz_
 refine oE2 zz_ fun v0 acs z1_ => oA4 z1_ fun z2_ s2 nlc frc => ?_
 clear zz_
 subst z2_
 rw [lcs, List.take_length] at nlc
 have y2 := s2 _ _ y1
 walk_at "go"
 refine iE4 y a.State dx _ (iA6 rfl y2 T.C_State T.N_State_cells (by simp) ?_)
 rw [zc6]
 have nay : acc ≠ y := fun z => by rw [z, y1] at hacc; cases hacc
 have hx0 : ∀ {z : Addr}, H1 z = none → z ≠ y ∧ H z = none := fun {z} hz => by
  have n1 : z ≠ y := fun q => by rw [q, y1] at hz; cases hz
  refine ⟨n1, ?_⟩
  cases e : H z with
  | none => rfl
  | some o => rw [o1 z o n1 e] at hz; cases hz
 have o3 : Own H (upd H2 y (.ins a.State dx [(("turn" : Str), V.int st.turn), (("cells" : Str), V.ref acc)])) y := (o1.trans (Same.own s2)).trans qW
 have y3 : upd H2 y (.ins a.State dx [(("turn" : Str), V.int st.turn), (("cells" : Str), V.ref acc)]) y = some (.ins a.State dx [(("turn" : Str), V.int st.turn), (("cells" : Str), V.ref acc)]) := upd_same
 have nl3 : NL (upd H2 y (.ins a.State dx [(("turn" : Str), V.int st.turn), (("cells" : Str), V.ref acc)])) (zV H) acc acs (zn st.cells) := nlc.keep (fun z o hz ho => by
  refine (upd_ne (fun q => ?_)).trans ho
  rcases hz with h | h | h
  ·exact nay (h.symm.trans q)
  ·exact (hx0 (frc z h)).1 q
  ·obtain ⟨xs, hx⟩ := h
   rw [q, hy] at hx; cases hx) fun _ hp _ => hp
 generalize upd H2 y (.ins a.State dx [(("turn" : Str), V.int st.turn), (("cells" : Str), V.ref acc)]) = H3 at o3 y3 nl3 ⊢
 walk_at "go"
 refine iE2 s0 _ (iA3 rfl (.inl (SqL.of (o3 _ _ (hp _ ps0) hs0))) (fun ls hls => ?_))
 walk_at "go"
 have y4 := upd_keep (o := .lst (iv st.sides)) y3 hls
 refine iE4 y a.State dx _ (iA6 rfl y4 T.C_State T.N_State_sides (by simp) ?_)
 rw [zc5]
 have nlsy : ls ≠ y := fun z => by rw [z, y3] at hls; cases hls
 have hls0 : H ls = none := by
  cases e : H ls with
  | none => rfl
  | some o => rw [o3 ls o nlsy e] at hls; cases hls
 have o5 : Own H (upd (upd H3 ls (.lst (iv st.sides))) y (.ins a.State dx [(("turn" : Str), V.int st.turn), (("cells" : Str), V.ref acc), (("sides" : Str), V.ref ls)])) y := (o3.trans (Same.own (zd hls))).trans qW
 have y5 : upd (upd H3 ls (.lst (iv st.sides))) y (.ins a.State dx [(("turn" : Str), V.int st.turn), (("cells" : Str), V.ref acc), (("sides" : Str), V.ref ls)]) y = some (.ins a.State dx [(("turn" : Str), V.int st.turn), (("cells" : Str), V.ref acc), (("sides" : Str), V.ref ls)]) := upd_same
 have nl5 : NL (upd (upd H3 ls (.lst (iv st.sides))) y (.ins a.State dx [(("turn" : Str), V.int st.turn), (("cells" : Str), V.ref acc), (("sides" : Str), V.ref ls)])) (zV H) acc acs (zn st.cells) := nl3.keep (fun z o hz ho => by
  refine (upd_ne (fun q => ?_)).trans (upd_keep ho hls)
  rcases hz with h | h | h
  ·exact nay (h.symm.trans q)
  ·exact (hx0 (frc z h)).1 q
  ·obtain ⟨xs, hx⟩ := h
   rw [q, hy] at hx; cases hx) fun _ hp _ => hp
 have ls5 : upd (upd H3 ls (.lst (iv st.sides))) y (.ins a.State dx [(("turn" : Str), V.int st.turn), (("cells" : Str), V.ref acc), (("sides" : Str), V.ref ls)]) ls = some (.lst (iv st.sides)) := by rw [upd_ne nlsy]; exact upd_same
 have nlsa : ls ∉ acc :: acs := fun z => by
  rcases List.mem_cons.mp z with h | h
  ·rw [h, nl3.out] at hls; cases hls
  ·obtain ⟨j, hj⟩ := List.getElem?_of_mem h
   obtain ⟨vs, h1, _⟩ := nl3.g j ls _ hj (List.getElem?_eq_getElem (by rw [← nl3.len]; exact (List.getElem?_eq_some_iff.mp hj).1))
   rw [h1] at hls; cases hls
 generalize upd (upd H3 ls (.lst (iv st.sides))) y (.ins a.State dx [(("turn" : Str), V.int st.turn), (("cells" : Str), V.ref acc), (("sides" : Str), V.ref ls)]) = H5 at o5 y5 nl5 ls5 ⊢
 clear nl3 o3 y3 hls y4
 walk_at "lc"
 walk_at "go"
 refine ⟨g0, rfl, .inl ⟨⟨_, SqL.of (o5 _ _ (hp _ pg0) hg0)⟩, fun _ _ _ _ ag hag => ?_⟩⟩
 let M2_ : Nat → St → Hp → Prop := fun i σ H' => ∃ (v0 : Option V) (as : List Addr), σ = [v0] ∧ Same H5 H' ∧ NL H' (zV H) ag as (qf (st.gone.take i)) ∧ ∀ b ∈ as, H5 b = none
 refine qg (K := K) (a := g0) (xs := ugs) M2_ (iE2 _ ([]) (iA4 rfl (zd hag) (by rw [List.take_zero]; exact ZS upd_same) (by simp))) (fun i σ H' _ h => by obtain ⟨_, _, _, s, _⟩ := h; exact SqL.of (s _ _ (o5 _ _ (hp _ pg0) hg0))) ?_ ?_
 ·intro i x σ H2 hi zz_
  refine oE2 zz_ fun v0 as z1_ => oA4 z1_ fun z2_ s2 nl fr => ?_
  clear zz_
  subst z2_
  obtain ⟨d, hd, rx⟩ := rgs.at hi
  rw [List.getElem?_map, List.getElem?_map] at hd
  obtain ⟨c, hc⟩ : ∃ c, st.gone[i]? = some c := by
   cases e : st.gone[i]? with
   | none => rw [e] at hd; cases hd
   | some c => exact ⟨c, rfl⟩
  rw [hc] at hd
  cases hd
  refine oE2 (Rep.lst' rx) fun li vi z1_ => oA4 z1_ fun z2_ pli hli ri => ?_
  subst z2_
  have hil := (List.getElem?_eq_some_iff.mp hc).1
  have hli2 := s2 _ _ (o5 _ _ (hp _ pli) hli)
  walk_at "go"
  refine iE2 li _ (iA3 rfl (.inl (SqL.of hli2)) (fun b hb => ?_))
  have nb : b ∉ as := fun z => by
   obtain ⟨j, hj⟩ := List.getElem?_of_mem z
   obtain ⟨vs, h1, _⟩ := nl.g j b _ hj (List.getElem?_eq_getElem (by rw [← nl.len]; exact (List.getElem?_eq_some_iff.mp hj).1))
   rw [h1] at hb; cases hb
  have nG : b ≠ ag := fun z => by rw [z, nl.out] at hb; cases hb
  have s3 : Same H2 (upd H2 b (.lst vi)) := zd hb
  have ac3 := upd_keep (o := .lst vi) nl.out hb
  refine ⟨_, iA3 ac3 (zh (by rw [List.length_map, nl.len, List.length_map, List.length_take]; omega)) ?_⟩
  have ri3 : Reps (upd H2 b (.lst vi)) (zV H) vi (c.map D.int) := (J1 ri (VU c)).keep fun z o pz hz => ⟨pz, s3 _ _ (s2 _ _ (o5 _ _ (kp z pz (by rw [hz]; intro q; cases q)) hz))⟩
  have nl3 := (nl.same s3).push (b := b) (vs := vi) (ys := c.map D.int) upd_same nb nG (fun ⟨xs, hx⟩ => by
   have := o5 _ _ (kp ag ⟨xs, hx⟩ (by rw [hx]; intro q; cases q)) hx
   rw [hag] at this; cases this) ri3
  refine iE2 _ (as ++ [b]) (iA4 rfl ?_ ?_ ?_)
  ·exact fun z o hz => by rw [upd_ne (ne_of_none hz hag)]; exact s3 _ _ (s2 _ _ hz)
  ·rw [List.take_add_one, hc]
   rw [show qf (st.gone.take i ++ (some c).toList) = qf (st.gone.take i) ++ [c.map D.int] by simp [qf]]
   exact nl3
  ·intro z hz
   rcases List.mem_append.mp hz with hz | hz
   ·exact fr z hz
   ·rw [List.mem_singleton.mp hz]; exact zD s2 hb
 intro σ H6 zz_
 refine oE2 zz_ fun v0' ags z1_ => oA4 z1_ fun z2_ s6 nlg frg => ?_
 clear zz_
 subst z2_
 rw [lgs, List.take_length] at nlg
 have y6 := s6 _ _ y5
 walk_at "go"
 refine iE4 y a.State dx _ (iA6 rfl y6 T.C_State T.N_State_gone (by simp) ?_)
 rw [zc4]
 have hx5 : ∀ {z : Addr}, H5 z = none → z ≠ y ∧ H z = none := fun {z} hz => by
  have n1 : z ≠ y := fun q => by rw [q, y5] at hz; cases hz
  refine ⟨n1, ?_⟩
  cases e : H z with
  | none => rfl
  | some o => rw [o5 z o n1 e] at hz; cases hz
 have ngy := (hx5 hag).1
 have o7 : Own H (upd H6 y (.ins a.State dx (sff st.turn acc ls ag))) y := (o5.trans (Same.own s6)).trans qW
 have tp : ∀ b, zV H b → H b ≠ none → zV (upd H6 y (.ins a.State dx (sff st.turn acc ls ag))) b := fun b ⟨xs, hx⟩ hn => ⟨xs, o7 _ _ (kp b ⟨xs, hx⟩ hn) hx⟩
 have inA : ∀ z, z ∈ acc :: acs → ∃ o, H5 z = some o := fun z hz => by
  rcases List.mem_cons.mp hz with h | h
  ·exact ⟨_, h ▸ nl5.out⟩
  ·obtain ⟨j, hj⟩ := List.getElem?_of_mem h
   obtain ⟨vs, h1, _⟩ := nl5.g j z _ hj (List.getElem?_eq_getElem (by rw [← nl5.len]; exact (List.getElem?_eq_some_iff.mp hj).1))
   exact ⟨_, h1⟩
 refine k _ ⟨dx, acc, ls, ag, acs, ags⟩ rfl o7 ⟨upd_same, ?_, ?_, ?_, ?_⟩ ?_
 ·exact (nl5.same s6).keep (fun z o hz ho => by
   refine (upd_ne (fun q => ?_)).trans ho
   rcases hz with h | h | h
   ·exact nay (h.symm.trans q)
   ·exact (hx0 (frc z h)).1 q
   ·obtain ⟨xs, hx⟩ := h
    rw [q, hy] at hx; cases hx) fun b hb hn => by
    obtain ⟨xs, hx⟩ := hb
    exact tp b ⟨xs, hx⟩ (by rw [hx]; intro q; cases q)
 ·show upd H6 y _ ls = _
  rw [upd_ne nlsy]; exact s6 _ _ ls5
 ·exact nlg.keep (fun z o hz ho => by
   refine (upd_ne (fun q => ?_)).trans ho
   rcases hz with h | h | h
   ·exact ngy (h.symm.trans q)
   ·exact (hx5 (frg z h)).1 q
   ·obtain ⟨xs, hx⟩ := h
    rw [q, hy] at hx; cases hx) fun b hb hn => by
    obtain ⟨xs, hx⟩ := hb
    exact tp b ⟨xs, hx⟩ (by rw [hx]; intro q; cases q)
 ·show (ls :: acc :: ag :: (acs ++ ags)).Nodup
  have ls5' : ∀ z, H5 z = none → z ≠ ls := fun z hz q => by rw [q, ls5] at hz; cases hz
  rw [List.nodup_cons, List.nodup_cons, List.nodup_cons]
  refine iA4 (fun z => ?_) (fun z => ?_) (fun z => ?_) ?_
  ·rcases List.mem_cons.mp z with h | z
   ·exact nlsa (h ▸ List.mem_cons_self ..)
   rcases List.mem_cons.mp z with h | z
   ·exact ls5' ag hag h.symm
   rcases List.mem_append.mp z with z | z
   ·exact nlsa (List.mem_cons_of_mem _ z)
   ·exact ls5' ls (frg ls z) rfl
  ·rcases List.mem_cons.mp z with h | z
   ·rw [← h, nl5.out] at hag; cases hag
   rcases List.mem_append.mp z with z | z
   ·exact nl5.nG z
   ·have := frg acc z; rw [nl5.out] at this; cases this
  ·rcases List.mem_append.mp z with z | z
   ·obtain ⟨o, ho⟩ := inA ag (List.mem_cons_of_mem _ z); rw [hag] at ho; cases ho
   ·exact nlg.nG z
  ·rw [List.nodup_append]
   refine ⟨nl5.nd, nlg.nd, fun u hu v hv q => ?_⟩
   subst q
   obtain ⟨o, ho⟩ := inA u (List.mem_cons_of_mem _ hu)
   rw [frg u hv] at ho; cases ho
 ·intro b hb
  rcases List.mem_cons.mp hb with rfl | hb
  ·exact hls0
  rcases List.mem_cons.mp hb with rfl | hb
  ·exact (hx0 hacc).2
  rcases List.mem_cons.mp hb with rfl | hb
  ·exact (hx5 hag).2
  rcases List.mem_append.mp hb with hb | hb
  ·exact (hx0 (frc b hb)).2
  ·exact (hx5 (frg b hb)).2
theorem Ju (T : Txt K mg a) : KCal P w K mg base "State" a.State 1 ["self", "turn", "cells", "sides", "gone"] [] (xN a) := T.h_State_init.cal T.g_State (Qs T)
theorem qj {H : Hp} {p : Addr → Prop} {v : V} {bs : List (Int × Int)} {rs : List Row} (h : Rep H p v (qp a bs rs)) : ∃ y dx fs l1 l2 bvs kvs, v = .ref y ∧ H y = some (.ins a.Work dx fs) ∧ fs.lookup ("belts" : Str) = some (.ref l1) ∧ fs.lookup ("knots" : Str) = some (.ref l2) ∧
  H l1 = some (.lst bvs) ∧ H l2 = some (.lst kvs) ∧ Bts a H p bvs bs ∧ Kns a H p kvs rs ∧ ∀ f : Str, f ≠ "belts" → f ≠ "knots" → fs.lookup f = none := by
 refine oE3 (Rep.ob' h) fun y dx fs z1_ => oA5 z1_ fun z2_ py hy g1 g2 => ?_
 subst z2_
 obtain ⟨u1, e1, r1⟩ := g1 _ _ zab
 obtain ⟨u2, e2, r2⟩ := g1 _ _ zaa
 refine oE2 r1.lst' fun l1 bvs z1_ => oA4 z1_ fun z2_ _ h1 b1 => ?_
 subst z2_
 refine oE2 r2.lst' fun l2 kvs z1_ => oA4 z1_ fun z2_ _ h2 b2 => ?_
 subst z2_
 exact iE7 y dx fs l1 l2 bvs kvs (iA9 rfl hy e1 e2 h1 h2 (.of b1) (.of b2) (fun f n1 n2 => g2 f (zcz n1 n2)))
def xW (ks : List Int) (n : Int) : Int := ks.getD (n % (ks.length : Int)).toNat 0
theorem QN {ks : List Int} (n : Int) (h : 0 < ks.length) : atI (iv ks) (n % (ks.length : Int)) = some (.int (xW ks n)) := by
 have h0 := Int.emod_nonneg n (show (ks.length : Int) ≠ 0 by omega)
 have h1 := Int.emod_lt_of_pos n (show (0 : Int) < ks.length by omega)
 unfold xW
 generalize n % (ks.length : Int) = m at h0 h1 ⊢
 have hlt : m.toNat < ks.length := by omega
 have e : m = (m.toNat : Int) := by omega
 have := zK (jq (List.getElem?_eq_getElem hlt))
 rw [← e] at this
 rw [this]
 simp [hlt]
theorem zad {H : Hp} {p : Addr → Prop} {v : V} {s n : Int} (h : Rep H p v (.tup [.int s, .int n])) : ∃ t, v = .ref t ∧ H t = some (.tup [.int s, .int n]) := jA (b := (s, n)) h
theorem wl {H : Hp} {p : Addr → Prop} {kvs : List V} {rs : List Row} {j : Nat} {r : Row} (hK : Kns a H p kvs rs) (h : rs[j]? = some r) : ∃ kv, kvs[j]? = some kv ∧ KnP a H p kv r := by
 have hj := (List.getElem?_eq_some_iff.mp h).1
 have e : kvs[j]? = some (kvs[j]'(by rw [hK.len]; exact hj)) := List.getElem?_eq_getElem _
 exact ⟨_, e, hK.g j _ r e h⟩
def JQ (a : Ad) : Sp := fun vs H Q _ => ∃ (v vwr : V) (bs : List (Int × Int)) (rs : List Row) (p q : Addr → Prop) (s : Nat) (n : Int) (r : Row), vs = [v, vwr] ∧ Rep H p v (qp a bs rs) ∧ Rep H q vwr (.tup [.int s, .int n]) ∧ rs[s]? = some r ∧ r.wd = .source ∧ 0 < r.kinds.length ∧ Q (.int (xW r.kinds n)) H
theorem X5 (T : Txt K mg a) (F : Fun K "kind_of" "kind_of" wa f fd) : FnOk P w K mg base (CXr P w) 1 f fd ["work", "ware"] (JQ a) := by
 refine F.okx XS ?_ ?_
 ·walk_at "i"
 walk_at "j"
 refine oE5 h fun v vwr bs rs p z1_ => oE4 z1_ fun q sc n r z2_ => oA7 z2_ fun z3_ hv hw hr' hs hk k => ?_
 clear h
 subst z3_
 refine oE7 (qj hv) fun y dx fs l1 l2 bvs kvs z1_ => oA9 z1_ fun z2_ hy e1 e2 h1 h2 hB hK no => ?_
 subst z2_
 obtain ⟨t, rfl, ht⟩ := zad hw
 obtain ⟨kv, hkv, hKn⟩ := wl hK hr'
 refine oE6 hKn.inv fun y1 dx1 m1 m2 m3 fs1 z1_ => oA9 z1_ fun z2_ _ _ _ _ g0 _ _ z3_ => oA5 z3_ fun _ _ _ g3 _ => ?_
 subst z2_
 obtain ⟨g3a, g3b⟩ := g3 hs
 walk_at "T"
 refine ⟨_, (zm (zo 2 XS.nd (zj (zF (zj (pq 0) rfl) (zF (pq 1) zc)) rfl))  (ze (zA (zF (pq 2) (zi zr (zF (pq 1) zc) (zC zO zN (za (pq 2) zb))))))), ?_⟩
 walk_at "go"
 refine ra hy T.C_Work T.N_Work_knots e2 (rd_ixT ht at0 (zz (SqL.of h2) (zK hkv) ?_))
 refine iE5 y1 (jr a r.wd) dx1 fs1 _ (iA6 rfl g0 (CT T _) (by rw [hs]; exact T.N_Source_kinds) g3a ?_)
 walk_at "go"
 refine rd_ixT ht rfl ?_
 walk_at "go"
 refine ⟨_, .inl ⟨_, SqL.of g3b, rfl⟩, ?_⟩
 rw [zk]
 walk_at "go"
 exact ⟨by omega, zz (SqL.of g3b) (QN n hk) k⟩
theorem V3 (T : Txt K mg a) : Cal P w K mg base "kind_of" 1 ["work", "ware"] [] (JQ a) := T.h_kind_of.cal (X5 T)
def jF (r : Row) : List Int := List.replicate (max r.ins.length r.outs.length) 0
theorem zaI (m n : Nat) : (if (n : Int) > (m : Int) then (n : Int) else (m : Int)) = ((max m n : Nat) : Int) := by
 by_cases h : (n : Int) > (m : Int)
 ·rw [if_pos h]; omega
 ·rw [if_neg h]; omega
theorem zaq {r : Row} (h : r.ok) : r.ins.length ≤ 4 ∧ r.outs.length ≤ 4 := by
 obtain ⟨wd, ins, outs, pc, ks⟩ := r
 cases wd
 ·obtain ⟨h1, ⟨o, h2⟩, _⟩ := h; simp only at h1 h2; subst h1 h2; simp
 ·obtain ⟨⟨o, h1⟩, h2, _⟩ := h; simp only at h1 h2; subst h1 h2; simp
 ·obtain ⟨⟨o, h1⟩, _, h2⟩ := h; simp only at h1 h2; subst h1; exact ⟨by simp, h2⟩
 ·obtain ⟨⟨o, h1⟩, _, h2⟩ := h; simp only at h1 h2; subst h1; exact ⟨by simp, h2⟩
 ·obtain ⟨⟨o, h1⟩, h2, _⟩ := h; simp only at h1 h2; subst h1; exact ⟨by simp, by show outs.length ≤ 4; omega⟩
 ·obtain ⟨⟨o, h1⟩, _, h2⟩ := h; simp only at h1 h2; subst h1; exact ⟨h2, by simp⟩
def zc0 (a : Ad) (H H' : Hp) (v : V) (st : PSt) : Prop := ∃ y n, v = .ref y ∧ StO a H' y n st ∧ H y = none ∧ H n.dx = none ∧ ∀ b ∈ n.all, H b = none
theorem ZU (T : Txt K mg a) {H : Hp} {st : PSt} {vc vs' vg : V} {Q : Addr → Hp → Prop} {E : XK} {p : Addr → Prop} (rc : Rep H p vc (.lst ((zn st.cells).map D.lst))) (rs : Rep H p vs' (.ints st.sides)) (rg : Rep H p vg (.lst ((qf st.gone).map D.lst))) (lc : st.cells.length ≤ 100) (lg : st.gone.length ≤ 100)
  (k : ∀ y H', Same H H' → zc0 a H H' (.ref y) st → Q y H') : ∀ (x dx : Addr), H x = none → H dx = none → dx ≠ x → xN a [.ref x, .int st.turn, vc, vs', vg] (upd (upd H dx (.own x)) x (.ins a.State dx [])) (fun v H2 => v = .non ∧ Q x H2) E := by
 intro y dy hy hdy hne
 have kp : ∀ b o, p b → H b = some o → b ≠ y ∧ upd (upd H dy (.own y)) y (.ins a.State dy []) b = some o := fun b o _ hb => ⟨ne_of_none hb hy, qd hy hdy hb⟩
 refine iE7 y dy vc vs' vg st (fun b => b ≠ y) (iA9 rfl upd_same (fun _ h => h) (rc.keep kp) (rs.keep kp) (rg.keep kp) lc lg (fun H' n en o so fr => ⟨rfl, ?_⟩))
 exact k _ _ (Own.of_new hy hdy o) (iE2 y n (iA5 rfl so hy (by rw [en]; exact hdy) (fun b hb => zG (fr b hb))))
theorem jC {X : Cx} : CallR X (.type "tuple") (fun xs H Q => ∃ p ys, xs = [.ref p] ∧ ((SqL X.K H p ys ∧ ∀ l, H l = none → Q (.ref l) (upd H l (.tup ys))) ∨ (SqT X.K H p ys ∧ Q (.ref p) H))) := Qy
def oiV : Option Int → V
 | none => .non
 | some n => .int n
theorem Xd (x : Option Int) : xn (oiV x) = true := by cases x <;> rfl
theorem zb8 (x y : Option Int) : eqV (oiV x) (oiV y) = decide (x = y) := by
 cases x with
 | none => cases y <;> simp [oiV, eqV]
 | some a =>
  cases y with
  | none => simp [oiV, eqV]
  | some b =>
   show (a == b) = decide (some a = some b)
   by_cases e : a = b <;> simp [e]
theorem zcv {κ : Type} [DecidableEq κ] {xs ys : List κ} : ((List.range (min xs.length ys.length)).all (fun j => decide (xs[j]? = ys[j]?)) && xs.length == ys.length) = decide (xs = ys) := by
 by_cases e : xs = ys
 ·subst e
  simp
 ·rw [decide_eq_false e]
  by_cases hl : xs.length = ys.length
  ·have : ¬ (List.range (min xs.length ys.length)).all (fun j => decide (xs[j]? = ys[j]?)) = true := fun z => e (List.ext_getElem? fun j => by
    rw [List.all_eq_true] at z
    by_cases hj : j < xs.length
    ·exact of_decide_eq_true (z j (List.mem_range.mpr (by omega)))
    ·rw [List.getElem?_eq_none (by omega), List.getElem?_eq_none (by omega)])
   simp only [Bool.not_eq_true] at this
   rw [this]
   rfl
  ·have : (xs.length == ys.length) = false := beq_eq_false_iff_ne.mpr hl
   rw [this, Bool.and_false]
abbrev ShK := Option Int × List (List (Option Int)) × List (Option Int) × List (Option Int)
def oiD : Option Int → D
 | none => .non
 | some n => .int n
def shD (k : ShK) : D := .tup [oiD k.1, .tup (k.2.1.map fun r => .tup (r.map oiD)), .tup (k.2.2.1.map oiD), .tup (k.2.2.2.map oiD)]
def qy (rs : List Row) (x : qS) : Prop := ∀ s n, x = some (s, n) → ∃ (j : Nat) (r : Row), s = j ∧ rs[j]? = some r ∧ r.wd = .source ∧ True
def j8 (rs : List Row) (gss : List (List Int)) : Prop := gss.length = rs.length ∧ ∀ (i : Nat) r g, rs[i]? = some r → gss[i]? = some g → g.length = (jF r).length ∧ True
def jl (bs : List (Int × Int)) (rs : List Row) (css : List (List qS)) : Prop := css.length = bs.length ∧ ∀ (i : Nat) b c, bs[i]? = some b → css[i]? = some c → c.length = b.1.toNat ∧ ∀ x ∈ c, qy rs x
structure stWf (bs : List (Int × Int)) (rs : List Row) (st : PSt) : Prop where
 co : jl bs rs st.cells
 go : j8 rs st.gone
 so : st.sides.length = rs.length
theorem vk (r : Row) : (jF r).length = max r.ins.length r.outs.length := by unfold jF; rw [List.length_replicate]
theorem jB {r : Row} (h : r.ok) : 1 ≤ (jF r).length ∧ (jF r).length ≤ 4 := by
 have l := zaq h
 rw [vk]
 refine ⟨?_, by omega⟩
 obtain ⟨wd, ins, outs, pc, kd⟩ := r
 cases wd
 ·obtain ⟨_, ⟨o, q⟩, _⟩ := h; simp only at q; subst q; simp; omega
 ·obtain ⟨⟨o, q⟩, _⟩ := h; simp only at q; subst q; simp; omega
 ·obtain ⟨⟨o, q⟩, _⟩ := h; simp only at q; subst q; simp; omega
 ·obtain ⟨⟨o, q⟩, _⟩ := h; simp only at q; subst q; simp; omega
 ·obtain ⟨⟨o, q⟩, _⟩ := h; simp only at q; subst q; simp; omega
 ·obtain ⟨⟨o, q⟩, _⟩ := h; simp only at q; subst q; simp; omega
def JS : Sp := fun vs H Q _ => ∃ a b : Int, vs = [.int a, .int b] ∧ 0 ≤ a ∧ 0 ≤ b ∧ Q (.int (Int.gcd a b : Int)) H
theorem Vz (F : Fun K "common" "common" wS f fd) : FnOk P w K mg base (CXr P w) 1 f fd ["one", "other"] JS := by
 refine F.okx Vi ?_ ?_
 ·walk_at "i"
 walk_at "k"
 obtain ⟨a, b, rfl, ha, hb, k⟩ := h
 refine ⟨_, (zm (zo 2 Vi.nd (pq 0))  (zm (zo 3 Vi.nd (pq 1))  (zm (zaw qH (zw QG (pq 3) zc (zy _))  (zm (zo 4 Vi.nd (zi zr (pq 2) (pq 3)))  (zm (zo 2 Vi.nd (pq 3))  (ze (zo 3 Vi.nd (pq 4))))))  (ze (zA (pq 2)))))), ?_⟩
 walk_at "r"
 refine ⟨fun m σ H' => ∃ p r v, σ = [some (.int a), some (.int b), some (.int p), some (.int r), v] ∧ H' = H ∧ 0 ≤ p ∧ 0 ≤ r ∧ Int.gcd p r = Int.gcd a b ∧ m = r.toNat, ⟨_, a, b, none, rfl, rfl, ha, hb, rfl, rfl⟩, ?_⟩
 rintro m σ H' ⟨p, r, v, rfl, rfl, hp, hr', hg, rfl⟩
 walk_at "r"
 refine zR (fun h => ?_) (fun h => ?_)
 ·refine zc9 ?_
  have h1 := Int.emod_nonneg p (show r ≠ 0 by omega)
  have h2 := Int.emod_lt_of_pos p h
  exact ⟨h, _, by omega, r, p % r, _, rfl, rfl, hr', h1, (za0 hp h).trans hg, rfl⟩
 ·have e : r = 0 := by omega
  subst e
  have e2 := zbD hp
  rw [hg] at e2
  rw [← e2]
  exact k
def Pac (ns : List Int) : Prop := ∀ n ∈ ns, 0 < n ∧ n ≤ 1000000000000
theorem Pac.nil : Pac [] := fun _ h => nomatch h
theorem Pac.snoc {ns : List Int} {n : Int} (h : Pac ns) (h1 : 0 < n) (h2 : n ≤ 1000000000000) : Pac (ns ++ [n]) := fun k hk => by
 rcases List.mem_append.mp hk with z | z
 ·exact h k z
 ·rw [List.mem_singleton.mp z]; exact ⟨h1, h2⟩
theorem Pac.at {ns : List Int} (h : Pac ns) {i : Nat} {x : V} (e : (ns.map V.int)[i]? = some x) : ∃ n, x = .int n ∧ 0 < n ∧ n ≤ 1000000000000 ∧ n ∈ ns ∧ ns.take (i + 1) = ns.take i ++ [n] := by
 rw [List.getElem?_map, Option.map_eq_some_iff] at e
 obtain ⟨n, hn, rfl⟩ := e
 have hm := List.mem_of_getElem? hn
 refine ⟨n, rfl, (h n hm).1, (h n hm).2, hm, ?_⟩
 rw [List.take_succ, hn]
 rfl
def QC (K : PySem.W.Frag) : Sp := fun vs H Q _ => ∃ (l : Addr) (ns : List Int), vs = [.ref l] ∧ SqL K H l (ns.map V.int) ∧ Pac ns ∧ ∀ L, IsLcm ns L → Q (.int L) H
theorem za7 (T : Txt K mg a) : Cal P w K mg base "common" 1 ["one", "other"] [] JS := T.h_common.cal Vz
theorem X4 (T : Txt K mg a) (F : Fun K "lasting" "lasting" x9 f fd) : FnOk P w K mg base (CXr P w) 2 f fd ["paces"] (QC K) := by
 refine F.okx XR ?_ ?_
 ·walk_at "i"
 walk_at "k"
 obtain ⟨l, ns, rfl, hl, hn, k⟩ := h
 refine ⟨_, (zm (zo 1 XR.nd zc)  (zm (qc qH rfl (zW (pq 0)) (zZ 2 XR.nd)  (ze (zo 1 XR.nd (zi jE (zi zH (pq 1) (zx ⟨rfl, rfl, rfl⟩ hr (za (pq 1) (za (pq 2) zb)))) (pq 2)))))  (ze (zA (pq 1))))), ?_⟩
 walk_at "go"
 walk_at "for"
 refine ⟨l, rfl, .inl ⟨⟨_, hl⟩, ?_⟩⟩
 refine qg (K := K) (a := l) (xs := ns.map V.int) (fun i σ H' => ∃ (m : Int) (v : Option V), σ = [some (V.ref l), some (V.int m), v] ∧ H' = H ∧ IsLcm (ns.take i) m) ⟨1, none, rfl, rfl, IsLcm.nil⟩ (fun i σ H' _ ⟨_, _, _, e, _⟩ => e ▸ hl) ?_ ?_
 ·rintro i x σ H1 hi ⟨m, v, rfl, rfl, hm⟩
  obtain ⟨p, rfl, p0, p1, _, ht⟩ := hn.at hi
  walk_at "r"
  have g0 : (0 : Int) < (Int.gcd m p : Int) := by have := WO (a := m) (b := p) (by omega); omega
  have g1 : (Int.gcd m p : Int) ≤ p := Jz p0
  refine ⟨_, _, _, za7 T, m, p, rfl, Int.le_of_lt hm.pos, Int.le_of_lt p0, ?_⟩
  walk_at "r"
  refine ⟨fd_ok g0 ?_, mul_okR (by omega) (by omega), ?_⟩
  ·have : (1000000000000 : Nat) < 2 ^ 8999 := by decide +kernel
   omega
  ·rw [fdiv_pos g0, ht]
   exact ⟨_, _, rfl, hm.step p0⟩
 ·rintro σ H1 ⟨m, v, rfl, rfl, hm⟩
  rw [List.length_map, List.take_length] at hm
  walk_at "r"
  exact k m hm
theorem V2 (T : Txt K mg a) : Cal P w K mg base "lasting" 2 ["paces"] [] (QC K) := T.h_lasting.cal (X4 T)
theorem IsLcm.ex : ∀ {ns : List Int}, Pac ns → ∃ L, IsLcm ns L := fun {ns} h => by
 have : ∀ k, k ≤ ns.length → ∃ L, IsLcm (ns.take k) L := fun k => by
  induction k with
  | zero => exact fun _ => ⟨1, IsLcm.nil⟩
  | succ k ih =>
   intro hk
   obtain ⟨L, hL⟩ := ih (by omega)
   have e : ns.take (k + 1) = ns.take k ++ [ns[k]] := by rw [List.take_succ, List.getElem?_eq_getElem (by omega)]; rfl
   rw [e]
   exact ⟨_, hL.step (h _ (List.getElem_mem _)).1⟩
 have := this ns.length (Nat.le_refl _)
 rwa [List.take_length] at this
theorem zcU (T : Txt K mg a) (wd : Wd) : PySem.W.kitOne K (.ref (jr a wd)) (.ref a.Drain) = some (decide (wd = .drain)) := by
 cases wd
 ·exact T.k1_Source_Drain
 ·exact T.k1_Drain_Drain
 ·exact T.k1_Parter_Drain
 ·exact T.k1_FirstParter_Drain
 ·exact T.k1_Sieve_Drain
 ·exact T.k1_Joiner_Drain
def qB (wd : Wd) (rs : List Row) (n : Nat) : List Int := ((List.range n).filter fun i => decide (rs[i]?.map Row.wd = some wd)).map fun (i : Nat) => (i : Int)
theorem z9 {wd : Wd} {rs : List Row} {n : Nat} {r : Row} (h : rs[n]? = some r) : qB wd rs (n + 1) = qB wd rs n ++ if r.wd = wd then [(n : Int)] else [] := by
 unfold qB
 rw [List.range_succ, List.filter_append, List.map_append]
 congr 1
 by_cases e : r.wd = wd <;> simp [h, e]
def zp (wd : Wd) (rs : List Row) : List Int := qB wd rs rs.length
theorem qJ (wd : Wd) (rs : List Row) (n : Nat) : (qB wd rs n).length ≤ n := by
 unfold qB
 rw [List.length_map]
 exact Nat.le_trans (List.length_filter_le _ _) (by simp)
theorem xk {wd : Wd} {rs : List Row} {m : Int} (h : m ∈ zp wd rs) : ∃ (i : Nat) (r : Row), m = i ∧ rs[i]? = some r ∧ r.wd = wd := by
 unfold zp qB at h
 obtain ⟨i, hi, rfl⟩ := List.mem_map.mp h
 rw [List.mem_filter] at hi
 have h2 := of_decide_eq_true hi.2
 rw [Option.map_eq_some_iff] at h2
 obtain ⟨r, h3, h4⟩ := h2
 exact iE2 i r (iA3 rfl h3 h4)
theorem ZR {wd : Wd} {rs : List Row} {i : Nat} {r : Row} (h : rs[i]? = some r) (hw : r.wd = wd) : (i : Int) ∈ zp wd rs := by
 unfold zp qB
 refine List.mem_map.mpr ⟨i, List.mem_filter.mpr ⟨List.mem_range.mpr (List.getElem?_eq_some_iff.mp h).1, ?_⟩, rfl⟩
 rw [h]
 exact decide_eq_true (by rw [← hw]; rfl)
def Q3 (a : Ad) (wd : Wd) : Sp := fun vs H Q _ => ∃ (v : V) (bs : List (Int × Int)) (rs : List Row) (p : Addr → Prop), vs = [v] ∧ Rep H p v (qp a bs rs) ∧ rs.length ≤ 100 ∧ ∀ q H', Same H H' → H q = none → H' q = some (.lst (iv (zp wd rs))) → Q (.ref q) H'
theorem ZM (T : Txt K mg a) (F : Fun K "drains" "Work.drains" qP f fd) : FnOk P w K mg base (CXr P w) 1 f fd ["self"] (Q3 a .drain) := by
 refine F.okx ZD ?_ ?_
 ·walk_at "i"
 walk_at "j"
 obtain ⟨v, bs, rs, p, rfl, hv, l100, k⟩ := h
 obtain ⟨y, dx, fs, l1, l2, bvs, kvs, rfl, hy, e1, e2, h1, h2, hB, hK, no⟩ := qj hv
 walk_at "T"
 refine ⟨_, (ze (zA (j4 (vars := ["number", "knot"]) (caps := []) (N := ["number", "knot"]) (ON := ["self"]) (osc := zf qP) rfl rfl (by first | decide +kernel | kernel_rfl) rfl rfl (zY (za (zj (pq 0) rfl) zb)) (fun s H fp pins => (jU (n := 2) rfl (zQ (zZ 0 (show (["number", "knot"] : List Str).Nodup from by decide +kernel)) (zQ (zZ 1 (show (["number", "knot"] : List Str).Nodup from by decide +kernel)) jg)))) (fun s H fp pins => (vb (zT (zC qC zt (za (pq 1) (za qG zb))) (fun _ => rfl)))) (fun s H fp pins => (pq 0))))), ?_⟩
 walk_at "go"
 walk_at "lc"
 walk_at "go"
 refine ra hy T.C_Work T.N_Work_knots e2 ⟨l2, _, rfl, h2, fun _ _ _ _ acc hacc => ?_⟩
 refine xX (K := K) (a := l2) (xs := kvs) (fun i σ H' => ∃ (v0 v1 : Option V), σ = [v0, v1] ∧ Same H H' ∧ H' acc = some (.lst (iv (qB .drain rs i)))) ⟨_, _, rfl, zd hacc, upd_same⟩ (fun i σ H' _ h => by obtain ⟨_, _, _, s, _⟩ := h; exact SqL.of (s _ _ h2)) ?_ ?_
 ·rintro i x t σ H' hi ht ⟨v0, v1, rfl, s7, e1'⟩
  obtain ⟨r, hr', hKn⟩ := hK.at hi
  obtain ⟨y1, dx1, m1, m2, m3, fs1, rfl, _, _, _, _, g0, f1, f2, _, g1, g2, _, _⟩ := hKn.inv
  have hil := (List.getElem?_eq_some_iff.mp hr').1
  have s8 := s7.trans (zd (o := .tup [.int i, .ref y1]) ht)
  have e8 := upd_keep (o := .tup [.int i, .ref y1]) e1' ht
  refine un2 upd_same ?_
  generalize upd H' t (.tup [.int i, .ref y1]) = H8 at s8 e8 ⊢
  walk_at "go"
  refine ⟨.ref a.Drain, _, T.g_Drain, rfl, _, _, _, _, rfl, (WT T r.wd).ty (CT T r.wd) (s8 _ _ g0), .inl ⟨_, rfl, zcU T r.wd⟩, ?_⟩
  walk_at "go"
  refine zR (fun b => ?_) (fun b => ?_)
  ·refine ⟨_, e8, zh (by have := qJ .drain rs i; rw [zk]; omega), _, _, rfl, (fun b o hb => by rw [upd_ne (ne_of_none hb hacc)]; exact s8 b o hb), ?_⟩
   rw [upd_same, z9 hr', if_pos b, z3]
  ·exact ⟨_, _, rfl, s8, by rw [z9 hr', if_neg b, List.append_nil]; exact e8⟩
 rintro σ H2 ⟨v0, v1, rfl, s2, ha⟩
 rw [hK.len] at ha
 exact k _ _ s2 hacc ha
theorem Qv (T : Txt K mg a) : MCal P w K mg base a.Work "drains" 1 ["self"] [] (Q3 a .drain) := T.h_Work_drains.cal T.C_Work (ZM T)
theorem Zg (T : Txt K mg a) (F : Fun K "sources" "Work.sources" qI f fd) : FnOk P w K mg base (CXr P w) 1 f fd ["self"] (Q3 a .source) := by
 refine F.okx Zc ?_ ?_
 ·walk_at "i"
 walk_at "j"
 obtain ⟨v, bs, rs, p, rfl, hv, l100, k⟩ := h
 obtain ⟨y, dx, fs, l1, l2, bvs, kvs, rfl, hy, e1, e2, h1, h2, hB, hK, no⟩ := qj hv
 walk_at "T"
 refine ⟨_, (ze (zA (j4 (vars := ["number", "knot"]) (caps := []) (N := ["number", "knot"]) (ON := ["self"]) (osc := zf qI) rfl rfl (by first | decide +kernel | kernel_rfl) rfl rfl (zY (za (zj (pq 0) rfl) zb)) (fun s H fp pins => (jU (n := 2) rfl (zQ (zZ 0 (show (["number", "knot"] : List Str).Nodup from by decide +kernel)) (zQ (zZ 1 (show (["number", "knot"] : List Str).Nodup from by decide +kernel)) jg)))) (fun s H fp pins => (vb (zT (zC qC zt (za (pq 1) (za qG zb))) (fun _ => rfl)))) (fun s H fp pins => (pq 0))))), ?_⟩
 walk_at "go"
 walk_at "lc"
 walk_at "go"
 refine ra hy T.C_Work T.N_Work_knots e2 ⟨l2, _, rfl, h2, fun _ _ _ _ acc hacc => ?_⟩
 refine xX (K := K) (a := l2) (xs := kvs) (fun i σ H' => ∃ (v0 v1 : Option V), σ = [v0, v1] ∧ Same H H' ∧ H' acc = some (.lst (iv (qB .source rs i)))) ⟨_, _, rfl, zd hacc, upd_same⟩ (fun i σ H' _ h => by obtain ⟨_, _, _, s, _⟩ := h; exact SqL.of (s _ _ h2)) ?_ ?_
 ·rintro i x t σ H' hi ht ⟨v0, v1, rfl, s7, e1'⟩
  obtain ⟨r, hr', hKn⟩ := hK.at hi
  obtain ⟨y1, dx1, m1, m2, m3, fs1, rfl, _, _, _, _, g0, f1, f2, _, g1, g2, _, _⟩ := hKn.inv
  have hil := (List.getElem?_eq_some_iff.mp hr').1
  have s8 := s7.trans (zd (o := .tup [.int i, .ref y1]) ht)
  have e8 := upd_keep (o := .tup [.int i, .ref y1]) e1' ht
  refine un2 upd_same ?_
  generalize upd H' t (.tup [.int i, .ref y1]) = H8 at s8 e8 ⊢
  walk_at "go"
  refine ⟨.ref a.Source, _, T.g_Source, rfl, _, _, _, _, rfl, (WT T r.wd).ty (CT T r.wd) (s8 _ _ g0), .inl ⟨_, rfl, Qx T r.wd⟩, ?_⟩
  walk_at "go"
  refine zR (fun b => ?_) (fun b => ?_)
  ·refine ⟨_, e8, zh (by have := qJ .source rs i; rw [zk]; omega), _, _, rfl, (fun b o hb => by rw [upd_ne (ne_of_none hb hacc)]; exact s8 b o hb), ?_⟩
   rw [upd_same, z9 hr', if_pos b, z3]
  ·exact ⟨_, _, rfl, s8, by rw [z9 hr', if_neg b, List.append_nil]; exact e8⟩
 rintro σ H2 ⟨v0, v1, rfl, s2, ha⟩
 rw [hK.len] at ha
 exact k _ _ s2 hacc ha
theorem xT (T : Txt K mg a) : MCal P w K mg base a.Work "sources" 1 ["self"] [] (Q3 a .source) := T.h_Work_sources.cal T.C_Work (Zg T)
def xG (bs : List (Int × Int)) (rs : List Row) (n : Int) : Prop := (∃ b ∈ bs, b.2 = n) ∨ ∃ r ∈ rs, (r.wd = .source ∨ r.wd = .drain) ∧ r.pace = n ∧ 0 < n
theorem ZH {r : Row} (h : r.ok) (hw : r.wd = .source ∨ r.wd = .drain) : 0 ≤ r.pace ∧ r.pace ≤ 4 := by
 obtain ⟨wd, ins, outs, pc, ks⟩ := r
 rcases hw with hw | hw
 ·simp only at hw; subst hw; have h1 := h.2.2.1; have h2 := h.2.2.2.1; simp only at h1 h2; exact ⟨by show 0 ≤ pc; omega, h2⟩
 ·simp only at hw; subst hw; exact ⟨h.2.2.1, h.2.2.2⟩
def zam (a : Ad) : Sp := fun vs H Q _ => ∃ (v : V) (bs : List (Int × Int)) (rs : List Row) (p : Addr → Prop), vs = [v] ∧ Rep H p v (qp a bs rs) ∧ bs.length ≤ 100 ∧ rs.length ≤ 100 ∧ (∀ b ∈ bs, zP b.1 b.2) ∧ (∀ r ∈ rs, r.ok) ∧
 ∀ L ns H', IsLcm ns L → (∀ n, n ∈ ns ↔ xG bs rs n) → Same H H' → Q (.int L) H'
theorem Jn (T : Txt K mg a) (F : Fun K "beat" "Work.beat" jw f fd) : FnOk P w K mg base (CXr P w) 3 f fd ["self"] (zam a) := by
 refine F.okx Q9 ?_ ?_
 ·walk_at "i"
 walk_at "j"
 obtain ⟨v, bs, rs, p, rfl, hv, lb, lr, bo, ro, k⟩ := h
 have hv0 := hv
 obtain ⟨y, dx, fs, l1, l2, bvs, kvs, rfl, hy, e1, e2, h1, h2, hB, hK, no⟩ := qj hv
 walk_at "T"
 refine ⟨_, (zm (xS (i := 1) Q9.nd rfl (Or.inl rfl) (vars := ["belt"]) (caps := []) (N := ["belt"]) (ON := ["self", "paces", "number", "pace"]) (osc := zf jw) rfl rfl (by first | decide +kernel | kernel_rfl) rfl rfl (zW (zj (pq 0) rfl)) (fun s H fp pins => (zZ 0 (show (["belt"] : List Str).Nodup from by decide +kernel))) (fun s H fp pins => z6) (fun s H fp pins => (zj (pq 0) rfl)))  (zm (qc qH rfl (zW (zi zM (Zr ⟨rfl, rfl, rfl⟩ hr (pq 0)) (Zr ⟨rfl, rfl, rfl⟩ hr (pq 0)))) (zZ 2 Q9.nd)  (zm (zo 3 Q9.nd (zj (zF (zj (pq 0) rfl) (pq 2)) rfl))  (ze (zL (zw QG (pq 3) zc (zy _))  (ze (zl (z5 PySem.F.plainAttrs_list PySem.F.slot_list_append PySem.F.type_list_append zu (pq 1) (za (pq 3) zb))))  zq))))  (ze (zA (zx ⟨rfl, rfl, rfl⟩ hr (za (pq 1) zb)))))), ?_⟩
 walk_at "go"
 walk_at "lc"
 walk_at "go"
 refine ra hy T.C_Work T.N_Work_belts e1 ⟨l1, rfl, .inl ⟨⟨_, SqL.of h1⟩, fun _ _ _ _ acc hacc => ?_⟩⟩
 refine qg (K := K) (a := l1) (xs := bvs) (fun i σ H' => ∃ (v0 : Option V), σ = [v0] ∧ Same H H' ∧ H' acc = some (.lst (iv ((bs.take i).map (·.2))))) ⟨_, rfl, zd hacc, by rw [List.take_zero]; exact upd_same⟩ (fun i σ H' _ h => by obtain ⟨_, _, s, _⟩ := h; exact SqL.of (s _ _ h1)) ?_ ?_
 ·rintro i x σ H' hi ⟨v0, rfl, s7, e7⟩
  obtain ⟨b, hr', hBt⟩ := hB.at hi
  obtain ⟨y1, dx1, fs1, rfl, _, g0, f1, f2⟩ := hBt.inv
  have hil := (List.getElem?_eq_some_iff.mp hr').1
  walk_at "go"
  refine ra (s7 _ _ g0) T.C_Belt T.N_Belt_pace f2 ?_
  refine ⟨_, e7, zh (by rw [zk, List.length_map, List.length_take]; omega), _, rfl, (fun b o hb => by rw [upd_ne (ne_of_none hb hacc)]; exact s7 b o hb), ?_⟩
  rw [upd_same, List.take_add_one, hr', List.map_append, z3]
  rfl
 rintro σ H2 ⟨v0, rfl, s2, ha⟩
 rw [hB.len, List.take_length] at ha
 walk_at "go"
 walk_at "for"
 walk_at "go"
 refine ⟨y, a.Work, dx, fs, _, _, _, rfl, s2 _ _ hy, no _ (by decide +kernel) (by decide +kernel), (xT T).mono, ?_⟩
 refine ⟨_, bs, rs, p, rfl, hv0.keep fun b o pb hb => ⟨pb, s2 _ _ hb⟩, lr, fun q1 H3 s3 n1 hq1 => ?_⟩
 refine ⟨y, a.Work, dx, fs, _, _, _, rfl, s3 _ _ (s2 _ _ hy), no _ (by decide +kernel) (by decide +kernel), (Qv T).mono, ?_⟩
 refine ⟨_, bs, rs, p, rfl, hv0.keep fun b o pb hb => ⟨pb, s3 _ _ (s2 _ _ hb)⟩, lr, fun q2 H4 s4 n2 hq2 => ?_⟩
 have l3 := qJ .source rs rs.length
 have l4 := qJ .drain rs rs.length
 refine Jh (SqL.of (s4 _ _ hq1)) (SqL.of hq2) (Q6 (by rw [zk, zk]; show (qB _ _ _).length + (qB _ _ _).length ≤ _; omega)) fun q3 hq3 => ?_
 rw [Wk]
 have s5 : Same H (upd H4 q3 (.lst (iv (zp .source rs ++ zp .drain rs)))) := ((s2.trans s3).trans s4).trans (zd hq3)
 have ha5 : upd H4 q3 (.lst (iv (zp .source rs ++ zp .drain rs))) acc = some (.lst (iv (bs.map (·.2)))) := upd_keep (s4 _ _ (s3 _ _ ha)) hq3
 have hq5 : upd H4 q3 (.lst (iv (zp .source rs ++ zp .drain rs))) q3 = some (.lst (iv (zp .source rs ++ zp .drain rs))) := upd_same
 have nq : q3 ≠ acc := (ne_of_none (s4 _ _ (s3 _ _ ha)) hq3).symm
 have hq0 : H q3 = none := zD ((s2.trans s3).trans s4) hq3
 generalize upd H4 q3 (.lst (iv (zp .source rs ++ zp .drain rs))) = H5 at s5 ha5 hq5 ⊢
 refine ⟨q3, rfl, .inl ⟨⟨_, SqL.of hq5⟩, ?_⟩⟩
 refine qg (K := K) (a := q3) (xs := iv (zp .source rs ++ zp .drain rs)) (fun i σ H' => ∃ (v2 v3 : Option V) (ns : List Int), σ = [some (.ref y), some (.ref acc), v2, v3] ∧ Same H H' ∧ H' q3 = some (.lst (iv (zp .source rs ++ zp .drain rs))) ∧ H' acc = some (.lst (iv ns)) ∧ Pac ns ∧ ns.length ≤ bs.length + i ∧ ∀ n, n ∈ ns ↔ n ∈ bs.map (·.2) ∨ ∃ (m : Nat) (r : Row), (m : Int) ∈ (zp .source rs ++ zp .drain rs).take i ∧ rs[m]? = some r ∧ r.pace = n ∧ 0 < n)
  ⟨_, _, bs.map (·.2), rfl, s5, hq5, ha5, ?_, by simp, ?_⟩ (fun i σ H' _ h => by obtain ⟨_, _, _, _, _, h, _⟩ := h; exact SqL.of h) ?_ ?_
 ·intro n hn
  obtain ⟨b, hb, rfl⟩ := List.mem_map.mp hn
  have := bo b hb
  exact ⟨by have := this.2.2.1; omega, by have := this.2.2.2; omega⟩
 ·intro n
  simp
 ·rintro i x σ H6 hi ⟨v2, v3, ns, rfl, s6, hq6, ha6, pn, ln, mem⟩
  obtain ⟨m, hm, rfl⟩ := vh hi
  have hmm := List.mem_of_getElem? hm
  have hil := (List.getElem?_eq_some_iff.mp hm).1
  have hlen : (zp .source rs ++ zp .drain rs).length ≤ 200 := by
   rw [List.length_append]
   show (qB _ _ _).length + (qB _ _ _).length ≤ _
   omega
  obtain ⟨j, r, rfl, hr', hw⟩ : ∃ (j : Nat) (r : Row), m = j ∧ rs[j]? = some r ∧ (r.wd = .source ∨ r.wd = .drain) := by
   rcases List.mem_append.mp hmm with z | z
   ·obtain ⟨j, r, q1, q2, q3⟩ := xk z; exact ⟨j, r, q1, q2, .inl q3⟩
   ·obtain ⟨j, r, q1, q2, q3⟩ := xk z; exact ⟨j, r, q1, q2, .inr q3⟩
  have hp := ZH (ro r (List.mem_of_getElem? hr')) hw
  obtain ⟨kv, hkv, hKn⟩ : ∃ kv, kvs[j]? = some kv ∧ KnP a H p kv r := by
   have hj := (List.getElem?_eq_some_iff.mp hr').1
   have e : kvs[j]? = some (kvs[j]'(by rw [hK.len]; exact hj)) := List.getElem?_eq_getElem _
   exact ⟨_, e, hK.g j _ r e hr'⟩
  obtain ⟨y1, dx1, m1, m2, m3, fs1, rfl, _, _, _, _, g0, _, _, _, _, _, _, fp⟩ := hKn.inv
  walk_at "go"
  refine ra (s6 _ _ hy) T.C_Work T.N_Work_knots e2 (zz (SqL.of (s6 _ _ h2)) (zK hkv) ?_)
  have NP : NoAttr K (jr a r.wd) "pace" := by
   rcases hw with z | z
   ·rw [z]; exact T.N_Source_pace
   ·rw [z]; exact T.N_Drain_pace
  refine ⟨y1, jr a r.wd, dx1, fs1, _, rfl, s6 _ _ g0, CT T _, NP, fp hw, ?_⟩
  walk_at "go"
  have tk : (zp .source rs ++ zp .drain rs).take (i + 1) = (zp .source rs ++ zp .drain rs).take i ++ [(j : Int)] := by rw [List.take_add_one, hm]; rfl
  refine zR (fun b => ?_) (fun b => ?_)
  ·walk_at "go"
   refine ⟨.inl ⟨rfl, _, SqL.of ha6⟩, acc, _, _, rfl, rfl, ha6, zh (by rw [zk]; omega), ?_⟩
   rw [z3]
   refine ⟨_, _, ns ++ [r.pace], rfl, (fun b o hb => by rw [upd_ne (ne_of_none hb hacc)]; exact s6 b o hb), by rw [upd_ne nq]; exact hq6, upd_same, pn.snoc b (by omega), by simp; omega, fun n => ?_⟩
   rw [List.mem_append, mem n, List.mem_singleton, tk]
   constructor
   ·rintro ((h | ⟨m', r', h1, h2, h3, h4⟩) | h)
    ·exact .inl h
    ·exact .inr ⟨m', r', List.mem_append_left _ h1, h2, h3, h4⟩
    ·subst h
     exact .inr ⟨j, r, List.mem_append_right _ (List.mem_singleton.mpr rfl), hr', rfl, b⟩
   ·rintro (h | ⟨m', r', h1, h2, h3, h4⟩)
    ·exact .inl (.inl h)
    ·rcases List.mem_append.mp h1 with h1 | h1
     ·exact .inl (.inr ⟨m', r', h1, h2, h3, h4⟩)
     ·have e : m' = j := by have := List.mem_singleton.mp h1; omega
      subst e
      rw [hr'] at h2
      cases h2
      exact .inr h3.symm
  ·refine ⟨_, _, ns, rfl, s6, hq6, ha6, pn, by omega, fun n => ?_⟩
   rw [mem n, tk]
   constructor
   ·rintro (h | ⟨m', r', h1, h2, h3, h4⟩)
    ·exact .inl h
    ·exact .inr ⟨m', r', List.mem_append_left _ h1, h2, h3, h4⟩
   ·rintro (h | ⟨m', r', h1, h2, h3, h4⟩)
    ·exact .inl h
    ·rcases List.mem_append.mp h1 with h1 | h1
     ·exact .inr ⟨m', r', h1, h2, h3, h4⟩
     ·have e : m' = j := by have := List.mem_singleton.mp h1; omega
      subst e
      rw [hr'] at h2
      cases h2
      omega
 ·rintro σ H6 ⟨v2, v3, ns, rfl, s6, hq6, ha6, pn, ln, mem⟩
  rw [zk, List.take_length] at mem
  walk_at "go"
  refine uc (V2 T).mono ⟨acc, ns, rfl, SqL.of ha6, pn, fun L hL => k L ns _ hL (fun n => ?_) s6⟩
  rw [mem n]
  unfold xG
  constructor
  ·rintro (h | ⟨m', r', h1, h2, h3, h4⟩)
   ·obtain ⟨b, hb, e⟩ := List.mem_map.mp h
    exact .inl ⟨b, hb, e⟩
   ·refine .inr ⟨r', List.mem_of_getElem? h2, ?_, h3, h4⟩
    rcases List.mem_append.mp h1 with z | z
    ·obtain ⟨j, r, q1, q2, q3⟩ := xk z
     have e : m' = j := by omega
     subst e
     rw [h2] at q2
     cases q2
     exact .inl q3
    ·obtain ⟨j, r, q1, q2, q3⟩ := xk z
     have e : m' = j := by omega
     subst e
     rw [h2] at q2
     cases q2
     exact .inr q3
  ·rintro (⟨b, hb, e⟩ | ⟨r, hr', hw, h3, h4⟩)
   ·exact .inl (List.mem_map.mpr ⟨b, hb, e⟩)
   ·obtain ⟨m', hm'⟩ := List.getElem?_of_mem hr'
    refine .inr ⟨m', r, ?_, hm', h3, h4⟩
    rcases hw with hw | hw
    ·exact List.mem_append_left _ (ZR hm' hw)
    ·exact List.mem_append_right _ (ZR hm' hw)
theorem Xj (T : Txt K mg a) : MCal P w K mg base a.Work "beat" 3 ["self"] [] (zam a) := T.h_Work_beat.cal T.C_Work (Jn T)
theorem wM {H : Hp} {p : Addr → Prop} {G : Addr} {ags : List Addr} {gss : List (List Int)} {i : Nat} {g : List Int} (h : NL H p G ags (qf gss)) (e : gss[i]? = some g) : ∃ b, ags[i]? = some b ∧ H b = some (.lst (iv g)) := by
 obtain ⟨b, vs, h1, h2, h3⟩ := h.at (i := i) (xs := g.map D.int) (by rw [qf, List.getElem?_map, e]; rfl)
 rw [Jx h3] at h2
 exact ⟨b, h1, h2⟩
def kdW (rs : List Row) (x : Int × Int) : Int := xW ((rs[x.1.toNat]?.map Row.kinds).getD []) x.2
def qh (rs : List Row) (c : List qS) : List (Option Int) := c.map fun wr => wr.map (kdW rs)
def x8 (a : Ad) : Sp := fun vs H Q _ => ∃ (vw : V) (cb : Addr) (us : List V) (bs : List (Int × Int)) (rs : List Row) (c : List qS) (p q : Addr → Prop), vs = [vw, .ref cb] ∧ Rep H p vw (qp a bs rs) ∧ H cb = some (.lst us) ∧ Reps H q us (c.map z8) ∧ (∀ wr ∈ c, qy rs wr) ∧ (∀ r ∈ rs, r.ok) ∧ c.length ≤ 6 ∧ ∀ t H', Same H H' → H t = none → H' t = some (.tup ((qh rs c).map oiV)) → Q (.ref t) H'
theorem J7 (T : Txt K mg a) (F : Fun K "kinds_in" "kinds_in" jR f fd) : FnOk P w K mg base (CXr P w) 2 f fd ["work", "cells"] (x8 a) := by
 refine F.okx JU ?_ ?_
 ·walk_at "i"
 walk_at "j"
 obtain ⟨vw, cb, us, bs, rs, c, p, q, rfl, hw, hcb, rus, wk, ro, c6, k⟩ := h
 have lu : us.length = c.length := by rw [rus.len, List.length_map]
 walk_at "T"
 refine ⟨_, (ze (zA (jh jC qR (za (j4 (vars := ["ware"]) (caps := [0]) (N := ["ware", "work"]) (ON := ["work", "cells"]) (osc := zf jR) rfl rfl (by first | decide +kernel | kernel_rfl) rfl rfl (zW (pq 1)) (fun s H fp pins => (zZ 0 (show (["ware", "work"] : List Str).Nodup from by decide +kernel))) (fun s H fp pins => z6) (fun s H fp pins => (J4 (zw X2 (pq 0) jV (zy _)) jV (vF hr (za (pq 1) (za (pq 0) zb)))))) zb)))), ?_⟩
 walk_at "lc"
 walk_at "go"
 refine ⟨cb, rfl, .inl ⟨⟨_, SqL.of hcb⟩, fun _ _ _ _ acc hacc => ?_⟩⟩
 refine qg (K := K) (a := cb) (xs := us) (fun j σ H' => ∃ (v0 : Option V), σ = [v0, some vw] ∧ Same H H' ∧ H' acc = some (.lst ((qh rs (c.take j)).map oiV))) ⟨_, rfl, zd hacc, upd_same⟩ (fun i σ H' _ h => by obtain ⟨_, _, s, _⟩ := h; exact SqL.of (s _ _ hcb)) ?_ ?_
 ·rintro j v σ H1 hj ⟨v0, rfl, s1, ha⟩
  obtain ⟨d, hd, rv⟩ := rus.at hj
  rw [List.getElem?_map, Option.map_eq_some_iff] at hd
  obtain ⟨wr, hwr, rfl⟩ := hd
  have hjl := (List.getElem?_eq_some_iff.mp hwr).1
  have e : (qh rs (c.take (j + 1))).map oiV = (qh rs (c.take j)).map oiV ++ [oiV (wr.map (kdW rs))] := by
   rw [List.take_add_one, hwr]
   simp [qh]
  have lk : ((qh rs (c.take j)).map oiV).length ≤ 6 := by simp [qh]; omega
  have sn : ∀ (x : V), Same H (upd H1 acc (.lst ((qh rs (c.take j)).map oiV ++ [x]))) := fun x b o hb => by rw [upd_ne (ne_of_none hb hacc)]; exact s1 b o hb
  cases wr with
  | none =>
   have rv : Rep H q v .non := rv
   cases rv
   walk_at "go"
   exact ⟨_, ha, zh (by omega), _, rfl, sn _, by rw [upd_same, e]; rfl⟩
  | some x =>
   obtain ⟨tx, rfl, htx⟩ := jA (b := x) rv
   obtain ⟨jj, r, e1, hr', hs, _⟩ := wk _ (List.mem_of_getElem? hwr) x.1 x.2 rfl
   have kp : 0 < r.kinds.length := by
    have ok := ro r (List.mem_of_getElem? hr')
    unfold Row.ok at ok
    rw [hs] at ok
    have := ok.2.2.2.2.1
    omega
   have hw1 : Rep H1 p vw (qp a bs rs) := hw.keep fun b o hb ho => ⟨hb, s1 _ _ ho⟩
   have rx : Rep H1 q (.ref tx) (.tup [.int jj, .int x.2]) := by
    have := rv.keep (H' := H1) (q := q) fun b o hb ho => ⟨hb, s1 _ _ ho⟩
    have e2 : z8 (some x) = .tup [.int x.1, .int x.2] := rfl
    rw [e2, e1] at this
    exact this
   walk_at "go"
   refine uc (V3 T).mono ⟨vw, .ref tx, bs, rs, p, q, jj, x.2, r, rfl, hw1, rx, hr', hs, kp, ?_⟩
   refine ⟨_, ha, zh (by omega), _, rfl, sn _, ?_⟩
   rw [upd_same, e]
   show _ = some (HO.lst (_ ++ [V.int (kdW rs x)]))
   unfold kdW
   rw [e1, Int.toNat_natCast, hr']
   rfl
 rintro σ H1 ⟨v0, rfl, s1, ha⟩
 rw [lu, List.take_length] at ha
 refine ⟨acc, _, rfl, .inl ⟨SqL.of ha, fun t ht => ?_⟩⟩
 exact k t _ (s1.trans (zd ht)) (zD s1 ht) upd_same
theorem Wu (T : Txt K mg a) : Cal P w K mg base "kinds_in" 2 ["work", "cells"] [] (x8 a) := T.h_kinds_in.cal (J7 T)
def vN (bs : List (Int × Int)) (rs : List Row) (L : Int) : Prop := ∃ ns, IsLcm ns L ∧ ∀ n, n ∈ ns ↔ xG bs rs n
theorem zbd {bs : List (Int × Int)} {rs : List Row} {L L' : Int} (h : vN bs rs L) (h' : vN bs rs L') : L = L' := by
 obtain ⟨ns, i, m⟩ := h
 obtain ⟨ns', i', m'⟩ := h'
 have d : L ∣ L' := i.least _ fun n hn => i'.dv n ((m' n).mpr ((m n).mp hn))
 have d' : L' ∣ L := i'.least _ fun n hn => i.dv n ((m n).mpr ((m' n).mp hn))
 exact Int.dvd_antisymm (Int.le_of_lt i.pos) (Int.le_of_lt i'.pos) d d'
open Classical in
noncomputable def beatL (bs : List (Int × Int)) (rs : List Row) : Int := if h : ∃ L, vN bs rs L then Classical.choose h else 1
theorem XH {bs : List (Int × Int)} {rs : List Row} {L : Int} (h : vN bs rs L) : L = beatL bs rs := by
 unfold beatL
 rw [dif_pos ⟨L, h⟩]
 exact zbd h (Classical.choose_spec (⟨L, h⟩ : ∃ L, vN bs rs L))
def qA (rs : List Row) (st : PSt) (j : Int) : Int := match rs[j.toNat]? with
 | some r => (st.gone.getD j.toNat []).headD 0 % (r.kinds.length : Int)
 | none => 0
noncomputable def shapeF (bs : List (Int × Int)) (rs : List Row) (st : PSt) : ShK := (some (st.turn % beatL bs rs), st.cells.map (qh rs), st.sides.map some, (zp .source rs).map fun j => some (qA rs st j))
def vR (a : Ad) : Sp := fun vs H Q _ => ∃ (vw : V) (y : Addr) (n : SN) (j : Nat) (bs : List (Int × Int)) (rs : List Row) (st : PSt) (r : Row) (p : Addr → Prop), vs = [vw, .ref y, .int j] ∧ Rep H p vw (qp a bs rs) ∧ StO a H y n st ∧ rs[j]? = some r ∧ r.wd = .source ∧ r.ok ∧ stWf bs rs st ∧ Q (.int (qA rs st j)) H
theorem Qn (T : Txt K mg a) (F : Fun K "kind_place" "kind_place" jH f fd) : FnOk P w K mg base (CXr P w) 1 f fd ["work", "state", "number"] (vR a) := by
 refine F.okx Qf ?_ ?_
 ·walk_at "i"
 walk_at "j"
 obtain ⟨vw, y, n, j, bs, rs, st, r, p, rfl, hv, so, hr', hs, ok, wf, k⟩ := h
 obtain ⟨yw, dx, fs, l1, l2, bvs, kvs, rfl, hy, e1, e2, h1, h2, hB, hK, no⟩ := qj hv
 obtain ⟨kv, hkv, hKn⟩ := wl hK hr'
 obtain ⟨y1, dx1, m1, m2, m3, fs1, rfl, _, _, _, _, g0, _, _, _, _, _, g3, _⟩ := hKn.inv
 obtain ⟨g3a, g3b⟩ := g3 hs
 have kp : 0 < r.kinds.length := by
  unfold Row.ok at ok
  rw [hs] at ok
  have := ok.2.2.2.2.1
  omega
 have hj := (List.getElem?_eq_some_iff.mp hr').1
 obtain ⟨g, hg⟩ : ∃ g, st.gone[j]? = some g := ⟨_, List.getElem?_eq_getElem (by rw [wf.go.1]; exact hj)⟩
 have q1 := (wf.go.2 j r g hr' hg).1
 have cp := jB ok
 obtain ⟨gh, gs, rfl⟩ := List.exists_cons_of_ne_nil (List.ne_nil_of_length_pos (by omega : 0 < g.length))
 obtain ⟨bG, hbG, hgG⟩ := wM so.hg hg
 have hmap : (n.ags.map V.ref)[j]? = some (.ref bG) := by rw [List.getElem?_map, hbG]; rfl
 have ek : qA rs st j = gh % (r.kinds.length : Int) := by
  unfold qA
  rw [Int.toNat_natCast, hr', List.getD_eq_getElem?_getD, hg]
  rfl
 rw [ek] at k
 walk_at "T"
 refine ⟨_, (ze (zA (zi zr (zF (zF (zj (pq 1) rfl) (pq 2)) zc) (zC zO zN (za (zj (zF (zj (pq 0) rfl) (pq 2)) rfl) zb))))), ?_⟩
 walk_at "go"
 refine ra so.hy T.C_State T.N_State_gone rfl (zz (SqL.of so.hg.out) (zK hmap) (zz (SqL.of hgG) at0 ?_))
 walk_at "go"
 refine ra hy T.C_Work T.N_Work_knots e2 (zz (SqL.of h2) (zK hkv) ?_)
 refine ⟨y1, jr a r.wd, dx1, fs1, _, rfl, g0, CT T _, by rw [hs]; exact T.N_Source_kinds, g3a, ?_⟩
 refine ⟨_, .inl ⟨_, SqL.of g3b, rfl⟩, ?_⟩
 rw [zk]
 walk_at "go"
 exact ⟨by omega, k⟩
theorem JF (T : Txt K mg a) : Cal P w K mg base "kind_place" 1 ["work", "state", "number"] [] (vR a) := T.h_kind_place.cal (Qn T)
theorem Jg {H : Hp} {p : Addr → Prop} : ∀ c : List (Option Int), Reps H p (c.map oiV) (c.map oiD)
 | [] => .nil
 | none :: c => .cons .non (Jg c)
 | some n :: c => .cons .int (Jg c)
theorem vD {H : Hp} {t : Addr} {c : List (Option Int)} (h : H t = some (.tup (c.map oiV))) : Rep H (zV H) (.ref t) (.tup (c.map oiD)) := (Jg c).mkT ⟨_, h⟩ h
theorem qu {H H' : Hp} {v : V} {d : D} (r : Rep H (zV H) v d) (s : Same H H') : Rep H' (zV H') v d := r.keep fun b o ⟨xs, hx⟩ hb => ⟨⟨xs, s _ _ hx⟩, s _ _ hb⟩
theorem qt {H H' : Hp} {vs : List V} {ds : List D} (r : Reps H (zV H) vs ds) (s : Same H H') : Reps H' (zV H') vs ds := r.keep fun b o ⟨xs, hx⟩ hb => ⟨⟨xs, s _ _ hx⟩, s _ _ hb⟩
theorem zaD {wd : Wd} {rs : List Row} {m : Int} (h : m ∈ zp wd rs) : ∃ (j : Nat) (r : Row), m = j ∧ rs[j]? = some r ∧ r.wd = wd := by
 unfold zp qB at h
 obtain ⟨j, hj, rfl⟩ := List.mem_map.mp h
 obtain ⟨h1, h2⟩ := List.mem_filter.mp hj
 have h2 := of_decide_eq_true h2
 obtain ⟨r, hr, e⟩ := Option.map_eq_some_iff.mp h2
 exact ⟨j, r, rfl, hr, e⟩
def Q2 (a : Ad) : Sp := fun vs H Q _ => ∃ (vw : V) (y : Addr) (n : SN) (bs : List (Int × Int)) (rs : List Row) (st : PSt) (p : Addr → Prop), vs = [vw, .ref y] ∧ Rep H p vw (qp a bs rs) ∧ StO a H y n st ∧ stWf bs rs st ∧ bs.length ≤ 24 ∧ rs.length ≤ 24 ∧ (∀ b ∈ bs, zP b.1 b.2) ∧ (∀ r ∈ rs, r.ok) ∧ ∀ t H', Same H H' → Rep H' (zV H') (.ref t) (shD (shapeF bs rs st)) → Q (.ref t) H'
theorem xl {a : Ad} {vs : List V} {H : Hp} {Q : VK} {E : XK} (vw : V) (y : Addr) (n : SN) (bs : List (Int × Int)) (rs : List Row) (st : PSt) (p : Addr → Prop) (q0 : vs = [vw, .ref y]) (q1 : Rep H p vw (qp a bs rs)) (q2 : StO a H y n st) (q3 : stWf bs rs st) (q4 : bs.length ≤ 24) (q5 : rs.length ≤ 24) (q6 : (∀ b ∈ bs, zP b.1 b.2)) (q7 : (∀ r ∈ rs, r.ok)) (q8 : ∀ t H', Same H H' → Rep H' (zV H') (.ref t) (shD (shapeF bs rs st)) → Q (.ref t) H') : Q2 a vs H Q E := ⟨vw, y, n, bs, rs, st, p, q0, q1, q2, q3, q4, q5, q6, q7, q8⟩
theorem J6 (T : Txt K mg a) (F : Fun K "shape_of" "shape_of" jn f fd) : FnOk P w K mg base (CXr P w) 4 f fd ["work", "state"] (Q2 a) := by
 refine F.okx JT ?_ ?_
 ·walk_at "i"
 walk_at "j"
 obtain ⟨vw, y, n, bs, rs, st, p, rfl, hv, so, wf, b24, r24, bo, ro, k⟩ := h
 obtain ⟨yw, dx, fs, l1, l2, bvs, kvs, rfl, hy, e1, e2, h1, h2, hB, hK, no⟩ := qj hv
 walk_at "T"
 refine ⟨_, (zm (zo 2 JT.nd (zi zr (zj (pq 1) rfl) (Zr ⟨rfl, rfl, rfl⟩ hr (pq 0))))  (zm (zo 3 JT.nd (jh jC qR (za (j4 (vars := ["cells"]) (caps := [0]) (N := ["cells", "work"]) (ON := ["work", "state", "beat_place", "kinds", "places"]) (osc := zf jn) rfl rfl (by first | decide +kernel | kernel_rfl) rfl rfl (zW (zj (pq 1) rfl)) (fun s H fp pins => (zZ 0 (show (["cells", "work"] : List Str).Nodup from by decide +kernel))) (fun s H fp pins => z6) (fun s H fp pins => (vF hr (za (pq 1) (za (pq 0) zb))))) zb)))  (zm (zo 4 JT.nd (jh jC qR (za (j4 (vars := ["number"]) (caps := [0, 1]) (N := ["number", "work", "state"]) (ON := ["work", "state", "beat_place", "kinds", "places"]) (osc := zf jn) rfl rfl (by first | decide +kernel | kernel_rfl) rfl rfl (zW (Zr ⟨rfl, rfl, rfl⟩ hr (pq 0))) (fun s H fp pins => (zZ 0 (show (["number", "work", "state"] : List Str).Nodup from by decide +kernel))) (fun s H fp pins => z6) (fun s H fp pins => (vF hr (za (pq 1) (za (pq 2) (za (pq 0) zb)))))) zb)))  (ze (zA (ZL (za (pq 2) (za (pq 3) (za (jh jC qR (za (zj (pq 1) rfl) zb)) (za (pq 4) zb)))))))))), ?_⟩
 walk_at "go"
 refine ra so.hy T.C_State T.N_State_turn rfl ?_
 refine ⟨yw, a.Work, dx, fs, _, _, _, rfl, hy, no _ (by decide +kernel) (by decide +kernel), (Xj T).mono, ?_⟩
 refine ⟨.ref yw, bs, rs, p, rfl, hv, by omega, by omega, bo, ro, fun L ns H1 il im s1 => ?_⟩
 have lp := il.pos
 have eL := XH ⟨ns, il, im⟩
 walk_at "go"
 rw [eL]
 clear il im lp eL
 have so1 := so.same s1
 have hv1 : Rep H1 p (.ref yw) (qp a bs rs) := hv.keep fun b o hb ho => ⟨hb, s1 _ _ ho⟩
 have lc : n.acs.length = st.cells.length := by rw [so.hc.len, zn, List.length_map]
 have lcb : st.cells.length = bs.length := wf.co.1
 walk_at "lc"
 walk_at "go"
 refine ra so1.hy T.C_State T.N_State_cells rfl ⟨n.lc, rfl, .inl ⟨⟨_, SqL.of so1.hc.out⟩, fun _ _ _ _ acc hacc => ?_⟩⟩
 refine qg (K := K) (a := n.lc) (xs := n.acs.map V.ref) (fun i σ H' => ∃ (v0 : Option V) (us : List V), σ = [v0, some (.ref yw)] ∧ Same H1 H' ∧ H' acc = some (.lst us) ∧ us.length = i ∧ Reps H' (zV H') us ((st.cells.take i).map fun c => .tup ((qh rs c).map oiD))) ⟨_, [], rfl, zd hacc, upd_same, rfl, .nil⟩ (fun i σ H' _ h => by obtain ⟨_, _, _, s, _⟩ := h; exact SqL.of (s _ _ so1.hc.out)) ?_ ?_
 ·rintro i x σ H2 hi ⟨v0, us, rfl, s2, ha, lu, ru⟩
  rw [List.getElem?_map, Option.map_eq_some_iff] at hi
  obtain ⟨cb, hcb, rfl⟩ := hi
  have hil : i < st.cells.length := by rw [← lc]; exact (List.getElem?_eq_some_iff.mp hcb).1
  obtain ⟨c, ec⟩ : ∃ c, st.cells[i]? = some c := ⟨_, List.getElem?_eq_getElem hil⟩
  obtain ⟨vs, hvs, rvs⟩ := so1.hc.g i cb _ hcb (show (zn st.cells)[i]? = some (c.map z8) by rw [zn, List.getElem?_map, ec]; rfl)
  obtain ⟨b, hb⟩ : ∃ b, bs[i]? = some b := ⟨_, List.getElem?_eq_getElem (by rw [← wf.co.1]; exact hil)⟩
  obtain ⟨lc6, wk⟩ := wf.co.2 i b c hb ec
  have bk := (bo b (List.mem_of_getElem? hb)).2.1
  walk_at "go"
  refine uc (Wu T).mono ⟨.ref yw, cb, vs, bs, rs, c, p, _, rfl, hv1.keep (fun b o hb ho => ⟨hb, s2 _ _ ho⟩), s2 _ _ hvs, rvs.keep (fun b o hb ho => ⟨hb, s2 _ _ ho⟩), wk, ro, by omega, fun t H3 s3 nt ht => ?_⟩
  have nta : ∀ b, zV H3 b → b ≠ acc := fun b ⟨xs, hx⟩ z => by rw [z, s3 _ _ ha] at hx; cases hx
  refine ⟨_, s3 _ _ ha, zh (by omega), _, us ++ [.ref t], rfl, (fun b o hb => by rw [upd_ne (ne_of_none hb hacc)]; exact s3 _ _ (s2 b o hb)), upd_same, by simp [lu], ?_⟩
  rw [List.take_add_one, ec, List.map_append]
  refine ((qt ru s3).append (.one (vD ht))).keep fun b o tb hb => ?_
  have ne := nta b tb
  obtain ⟨xs, hx⟩ := tb
  exact ⟨⟨xs, by rw [upd_ne ne]; exact hx⟩, by rw [upd_ne ne]; exact hb⟩
 rintro σ H2 ⟨v0, us, rfl, s2, ha, lu, ru⟩
 rw [List.length_map, lc, List.take_length] at ru
 refine ⟨acc, _, rfl, .inl ⟨SqL.of ha, fun t1 ht1 => ?_⟩⟩
 have s3 := zd (o := .tup us) ht1
 have ru3 := qt ru s3
 have hT1 : upd H2 t1 (.tup us) t1 = some (.tup us) := upd_same
 have s13 := s2.trans s3
 generalize upd H2 t1 (.tup us) = H3 at s3 ru3 hT1 s13 ⊢
 have r1 : Rep H3 (zV H3) (.ref t1) (.tup ((st.cells.map (qh rs)).map fun r => .tup (r.map oiD))) := by
  rw [List.map_map]
  exact ru3.mkT ⟨_, hT1⟩ hT1
 clear ru ru3 ha hT1 s2 s3
 have so3 := so1.same s13
 have hv3 : Rep H3 p (.ref yw) (qp a bs rs) := hv1.keep fun b o hb ho => ⟨hb, s13 _ _ ho⟩
 walk_at "go"
 refine ⟨yw, a.Work, dx, fs, _, _, _, rfl, s13 _ _ (s1 _ _ hy), no _ (by decide +kernel) (by decide +kernel), (xT T).mono, ?_⟩
 refine ⟨.ref yw, bs, rs, p, rfl, hv3, by omega, fun q H4 s4 nq hq => ?_⟩
 have ln := qJ .source rs rs.length
 have so4 := so3.same s4
 have hv4 : Rep H4 p (.ref yw) (qp a bs rs) := hv3.keep fun b o hb ho => ⟨hb, s4 _ _ ho⟩
 refine ⟨q, rfl, .inl ⟨⟨_, SqL.of hq⟩, fun _ _ _ _ ac2 hac2 => ?_⟩⟩
 refine qg (K := K) (a := q) (xs := iv (zp .source rs)) (fun i σ H' => ∃ (v0 : Option V), σ = [v0, some (.ref yw), some (.ref y)] ∧ Same H4 H' ∧ H' ac2 = some (.lst ((((zp .source rs).take i).map fun j => some (qA rs st j)).map oiV))) ⟨_, rfl, zd hac2, upd_same⟩ (fun i σ H' _ h => by obtain ⟨_, _, s, _⟩ := h; exact SqL.of (s _ _ hq)) ?_ ?_
 ·rintro i x σ H5 hi ⟨v0, rfl, s5, ha⟩
  obtain ⟨m, hm, rfl⟩ := vh hi
  have hil := (List.getElem?_eq_some_iff.mp hm).1
  obtain ⟨jj, r, rfl, hr', hs⟩ := zaD (List.mem_of_getElem? hm)
  have ln : (zp .source rs).length ≤ rs.length := ln
  walk_at "go"
  refine uc (JF T).mono ⟨.ref yw, y, n, jj, bs, rs, st, r, p, rfl, hv4.keep (fun b o hb ho => ⟨hb, s5 _ _ ho⟩), so4.same s5, hr', hs, ro r (List.mem_of_getElem? hr'), wf, ?_⟩
  refine ⟨_, ha, zh (by rw [List.length_map, List.length_map, List.length_take]; omega), _, rfl, (fun b o hb => by rw [upd_ne (ne_of_none hb hac2)]; exact s5 b o hb), ?_⟩
  rw [upd_same, List.take_add_one, hm]
  simp [oiV]
 rintro σ H5 ⟨v0, rfl, s5, ha⟩
 rw [zk, List.take_length] at ha
 refine ⟨ac2, _, rfl, .inl ⟨SqL.of ha, fun t2 ht2 => ?_⟩⟩
 have s6 := zd (o := .tup (((zp .source rs).map fun j => some (qA rs st j)).map oiV)) ht2
 have hT2 : upd H5 t2 (.tup (((zp .source rs).map fun j => some (qA rs st j)).map oiV)) t2 = some (.tup (((zp .source rs).map fun j => some (qA rs st j)).map oiV)) := upd_same
 have s36 := (s4.trans s5).trans s6
 generalize upd H5 t2 (.tup (((zp .source rs).map fun j => some (qA rs st j)).map oiV)) = H6 at s36 hT2 ⊢
 have so6 := so3.same s36
 walk_at "go"
 refine ra so6.hy T.C_State T.N_State_sides rfl ⟨n.ls, _, rfl, .inl ⟨SqL.of so6.hs, fun t3 ht3 => ?_⟩⟩
 intro t4 ht4
 have s7 := zd (o := .tup (iv st.sides)) ht3
 have hT3 : upd H6 t3 (.tup (iv st.sides)) t3 = some (.tup ((st.sides.map some).map oiV)) := by rw [upd_same, List.map_map]; rfl
 generalize upd H6 t3 (.tup (iv st.sides)) = H7 at s7 hT3 ht4 ⊢
 have s8 := zd (o := .tup [.int (st.turn % beatL bs rs), .ref t1, .ref t3, .ref t2]) ht4
 have hT4 : upd H7 t4 (.tup [.int (st.turn % beatL bs rs), .ref t1, .ref t3, .ref t2]) t4 = some (.tup [.int (st.turn % beatL bs rs), .ref t1, .ref t3, .ref t2]) := upd_same
 generalize upd H7 t4 (.tup [.int (st.turn % beatL bs rs), .ref t1, .ref t3, .ref t2]) = H8 at s8 hT4 ⊢
 refine k t4 H8 ((s1.trans s13).trans (s36.trans (s7.trans s8))) ?_
 exact Reps.mkT (vs := [.int (st.turn % beatL bs rs), .ref t1, .ref t3, .ref t2]) (.cons .int (.cons (qu r1 (s36.trans (s7.trans s8))) (.cons (qu (vD hT3) s8) (.cons (qu (vD hT2) (s7.trans s8)) .nil)))) ⟨_, hT4⟩ hT4
theorem jX (T : Txt K mg a) : Cal P w K mg base "shape_of" 4 ["work", "state"] [] (Q2 a) := T.h_shape_of.cal (J6 T)
theorem WK {H : Hp} {p : Addr → Prop} {x : Option Int} {u : V} (h : Rep H p u (oiD x)) : u = oiV x := by
 cases x with
 | none => have h : Rep H p u .non := h; cases h; rfl
 | some n => have h : Rep H p u (.int n) := h; cases h; rfl
theorem WW {H : Hp} {p q : Addr → Prop} {n : Nat} {x y : Option Int} {u v : V} (h1 : Rep H p u (oiD x)) (h2 : Rep H q v (oiD y)) : DE K H n u v (decide (x = y)) := by
 rw [← zb8, WK h1, WK h2]
 exact .flat (Xd x) (Xd y)
theorem Jr {H : Hp} {p q : Addr → Prop} {x y : Option Int} {u : V} (h1 : Rep H p u (oiD x)) (h2 : Rep H q u (oiD y)) : x = y := by
 have e := (WK h1).symm.trans (WK h2)
 cases x <;> cases y <;> simp_all [oiV]
theorem zar {α : Type} {H : Hp} {p q : Addr → Prop} {f : α → D} {us : List V} {xs ys : List α} (hj : ∀ x y u, Rep H p u (f x) → Rep H q u (f y) → x = y) (h1 : Reps H p us (xs.map f)) (h2 : Reps H q us (ys.map f)) : xs = ys := by
 have l1 := h1.len
 have l2 := h2.len
 rw [List.length_map] at l1 l2
 refine List.ext_getElem (by omega) fun i a b => ?_
 have e : us[i]? = some (us[i]'(by omega)) := List.getElem?_eq_getElem _
 exact hj _ _ _ (h1.g i _ _ e (by rw [List.getElem?_map, List.getElem?_eq_getElem a]; rfl)) (h2.g i _ _ e (by rw [List.getElem?_map, List.getElem?_eq_getElem b]; rfl))
theorem Wz {α : Type} {H : Hp} {p q : Addr → Prop} {f : α → D} {u : V} {xs ys : List α} (hj : ∀ x y u, Rep H p u (f x) → Rep H q u (f y) → x = y) (h1 : Rep H p u (.tup (xs.map f))) (h2 : Rep H q u (.tup (ys.map f))) : xs = ys := by
 refine oE2 h1.tup' fun l us z1_ => oA4 z1_ fun z2_ _ hl ru => ?_
 subst z2_
 refine oE2 h2.tup' fun m vs z1_ => oA4 z1_ fun e _ hm rv => ?_
 cases e
 rw [hl] at hm
 cases hm
 exact zar hj ru rv
theorem JB {α : Type} [DecidableEq α] {H : Hp} {p q : Addr → Prop} {n : Nat} {f : α → D} {xs ys : List α} {u v : V} (hi : ∀ x y u v, Rep H p u (f x) → Rep H q v (f y) → DE K H n u v (decide (x = y))) (hj : ∀ x y u, Rep H p u (f x) → Rep H q u (f y) → x = y) (h1 : Rep H p u (.tup (xs.map f))) (h2 : Rep H q v (.tup (ys.map f))) : DE K H (n + 1) u v (decide (xs = ys)) := by
 have h1' := h1
 refine oE2 h1.tup' fun l us z1_ => oA4 z1_ fun z2_ _ hl ru => ?_
 subst z2_
 refine oE2 h2.tup' fun m vs z1_ => oA4 z1_ fun z2_ _ hm rv => ?_
 subst z2_
 have lu := ru.len
 have lv := rv.len
 rw [List.length_map] at lu lv
 by_cases e : l = m
 ·subst e
  rw [decide_eq_true (Wz hj h1' h2)]
  exact .same
 ·have := DE.tuples (K := K) (n := n) (e := fun j => decide (xs[j]? = ys[j]?)) e (SqT.of hl) (SqT.of hm) fun j x y hx hy => by
   obtain ⟨d, hd, r1⟩ := ru.at hx
   obtain ⟨d', hd', r2⟩ := rv.at hy
   rw [List.getElem?_map, Option.map_eq_some_iff] at hd hd'
   obtain ⟨x', e1, rfl⟩ := hd
   obtain ⟨y', e2, rfl⟩ := hd'
   show DE K H n x y (decide (xs[j]? = ys[j]?))
   rw [e1, e2, show decide (some x' = some y') = decide (x' = y') by simp]
   exact hi x' y' x y r1 r2
  rw [lu, lv, zcv] at this
  exact this
def qE (b0 b1 b2 b3 : Bool) : Nat → Bool
 | 0 => b0
 | 1 => b1
 | 2 => b2
 | _ => b3
theorem zb0 (k1 k2 : ShK) : ((List.range (min 4 4)).all (qE (decide (k1.1 = k2.1)) (decide (k1.2.1 = k2.2.1)) (decide (k1.2.2.1 = k2.2.2.1)) (decide (k1.2.2.2 = k2.2.2.2))) && (4 == 4)) = decide (k1 = k2) := by
 obtain ⟨a, b, c, d⟩ := k1
 obtain ⟨a', b', c', d'⟩ := k2
 show ((decide (a = a') && (decide (b = b') && (decide (c = c') && (decide (d = d') && true)))) && true) = _
 simp
theorem Zq {H : Hp} {Q : VK} {p q : Addr → Prop} {k1 k2 : ShK} {u v : V} (neg : Bool) (h1 : Rep H p u (shD k1)) (h2 : Rep H q v (shD k2)) (k : Q (.bl (if neg then !decide (k1 = k2) else decide (k1 = k2))) H) : zav K neg u v H Q := by
 refine oE2 (Rep.tup' h1) fun l us z1_ => oA4 z1_ fun z2_ _ hl ru => ?_
 subst z2_
 refine oE2 (Rep.tup' h2) fun m vs z1_ => oA4 z1_ fun z2_ _ hm rv => ?_
 subst z2_
 have lu : us.length = 4 := ru.len
 have lv : vs.length = 4 := rv.len
 refine iE6 l m us vs 2 (qE (decide (k1.1 = k2.1)) (decide (k1.2.1 = k2.2.1)) (decide (k1.2.2.1 = k2.2.2.1)) (decide (k1.2.2.2 = k2.2.2.2))) (iA5 rfl rfl (by decide) (fun j x y hx hy => ?_) (.inr ⟨SqT.of hl, SqT.of hm, ?_⟩))
 ·have hj := (List.getElem?_eq_some_iff.mp hx).1
  match j, hj, hx, hy with
  | 0, _, hx, hy => exact WW (ru.g 0 x _ hx rfl) (rv.g 0 y _ hy rfl)
  | 1, _, hx, hy => exact JB (f := fun r : List (Option Int) => .tup (r.map oiD)) (fun _ _ _ _ a b => JB (fun _ _ _ _ a b => WW a b) (fun _ _ _ a b => Jr a b) a b) (fun _ _ _ a b => Wz (fun _ _ _ a b => Jr a b) a b) (ru.g 1 x _ hx rfl) (rv.g 1 y _ hy rfl)
  | 2, _, hx, hy => exact JB (n := 1) (fun _ _ _ _ a b => WW a b) (fun _ _ _ a b => Jr a b) (ru.g 2 x _ hx rfl) (rv.g 2 y _ hy rfl)
  | 3, _, hx, hy => exact JB (n := 1) (fun _ _ _ _ a b => WW a b) (fun _ _ _ a b => Jr a b) (ru.g 3 x _ hx rfl) (rv.g 3 y _ hy rfl)
  | j + 4, hj, _, _ => omega
 ·rw [lu, lv, zb0]
  exact k
def Q5 (a : Ad) : Sp := fun vs H Q _ => ∃ (vw : V) (y1 y2 : Addr) (n1 n2 : SN) (bs : List (Int × Int)) (rs : List Row) (s1 s2 : PSt) (p : Addr → Prop), vs = [vw, .ref y1, .ref y2] ∧ Rep H p vw (qp a bs rs) ∧ StO a H y1 n1 s1 ∧ StO a H y2 n2 s2 ∧ stWf bs rs s1 ∧ stWf bs rs s2 ∧ bs.length ≤ 24 ∧ rs.length ≤ 24 ∧ (∀ b ∈ bs, zP b.1 b.2) ∧ (∀ r ∈ rs, r.ok) ∧ ∀ H', Same H H' → Q (.bl (decide (shapeF bs rs s1 = shapeF bs rs s2))) H'
theorem vK {a : Ad} {vs : List V} {H : Hp} {Q : VK} {E : XK} (vw : V) (y1 y2 : Addr) (n1 n2 : SN) (bs : List (Int × Int)) (rs : List Row) (s1 s2 : PSt) (p : Addr → Prop) (q0 : vs = [vw, .ref y1, .ref y2]) (q1 : Rep H p vw (qp a bs rs)) (q2 : StO a H y1 n1 s1) (q3 : StO a H y2 n2 s2) (q4 : stWf bs rs s1) (q5 : stWf bs rs s2) (q6 : bs.length ≤ 24) (q7 : rs.length ≤ 24) (q8 : (∀ b ∈ bs, zP b.1 b.2)) (q9 : (∀ r ∈ rs, r.ok)) (q10 : ∀ H', Same H H' → Q (.bl (decide (shapeF bs rs s1 = shapeF bs rs s2))) H') : Q5 a vs H Q E := ⟨vw, y1, y2, n1, n2, bs, rs, s1, s2, p, q0, q1, q2, q3, q4, q5, q6, q7, q8, q9, q10⟩
theorem zaB (T : Txt K mg a) (F : Fun K "alike" "alike" Zp f fd) : FnOk P w K mg base (CXr P w) 5 f fd ["work", "one", "other"] (Q5 a) := by
 refine F.okx zan ?_ ?_
 ·walk_at "i"
 walk_at "j"
 refine oE8 h fun vw y1 y2 n1 n2 bs rs s1 z1_ => oE2 z1_ fun s2 p z2_ => oA9 z2_ fun z3_ hv so1 so2 w1 w2 b24 r24 z4_ => oA3 z4_ fun bo ro k => ?_
 clear h
 subst z3_
 walk_at "T"
 refine ⟨_, (ze (zA (wg (qx hr.units1) (zx ⟨rfl, rfl, rfl⟩ hr (za (pq 0) (za (pq 1) zb))) (zx ⟨rfl, rfl, rfl⟩ hr (za (pq 0) (za (pq 2) zb))) (zy _)))), ?_⟩
 walk_at "go"
 refine uc (jX T).mono (xl vw y1 n1 bs rs s1 p rfl hv so1 w1 b24 r24 bo ro (fun t1 H1 e1 r1 => ?_))
 refine uc (jX T).mono (xl vw y2 n2 bs rs s2 p rfl (hv.keep (fun b o hb ho => ⟨hb, e1 _ _ ho⟩)) (so2.same e1) w2 b24 r24 bo ro (fun t2 H2 e2 r2 => ?_))
 exact .inr (.inr (Zq false (qu r1 e2) r2 (k _ (e1.trans e2))))
theorem JI (T : Txt K mg a) : Cal P w K mg base "alike" 5 ["work", "one", "other"] [] (Q5 a) := T.h_alike.cal (zaB T)
def six (L : Int) : Prop := L = 1 ∨ L = 2 ∨ L = 3 ∨ L = 4 ∨ L = 6 ∨ L = 12
theorem zbW {L : Int} (p : 0 < L) (d : L ∣ 12) : six L := by
 have l := Int.le_of_dvd (by decide) d
 obtain ⟨q, hq⟩ := d
 have h : L = 1 ∨ L = 2 ∨ L = 3 ∨ L = 4 ∨ L = 5 ∨ L = 6 ∨ L = 7 ∨ L = 8 ∨ L = 9 ∨ L = 10 ∨ L = 11 ∨ L = 12 := by omega
 unfold six
 rcases h with rfl | rfl | rfl | rfl | rfl | rfl | rfl | rfl | rfl | rfl | rfl | rfl <;> omega
theorem zbe {L d : Int} {i : Nat} (h : six L) (e : ([1, 2, 3, 4, 6] : List Int)[i]? = some d) (no : ∀ x ∈ ([1, 2, 3, 4, 6] : List Int).take i, ¬ L ∣ x) (y : L ∣ d) : d = L := by
 match i, e with
 | 0, e => cases e; rcases h with rfl | rfl | rfl | rfl | rfl | rfl <;> revert y no <;> decide
 | 1, e => cases e; rcases h with rfl | rfl | rfl | rfl | rfl | rfl <;> revert y no <;> decide
 | 2, e => cases e; rcases h with rfl | rfl | rfl | rfl | rfl | rfl <;> revert y no <;> decide
 | 3, e => cases e; rcases h with rfl | rfl | rfl | rfl | rfl | rfl <;> revert y no <;> decide
 | 4, e => cases e; rcases h with rfl | rfl | rfl | rfl | rfl | rfl <;> revert y no <;> decide
 | i + 5, e => simp at e
theorem V8 {L : Int} (h : six L) (no : ∀ x ∈ ([1, 2, 3, 4, 6] : List Int), ¬ L ∣ x) : L = 12 := by
 rcases h with rfl | rfl | rfl | rfl | rfl | rfl <;> revert no <;> decide
theorem zcJ {g n : Int} {m : Nat} (h : 0 < m) : ∃ d : Nat, d < m ∧ (g + d) % (m : Int) = n % (m : Int) := by
 have h0 := Int.emod_nonneg (n - g) (show (m : Int) ≠ 0 by omega)
 have h1 := Int.emod_lt_of_pos (n - g) (show (0 : Int) < m by omega)
 refine ⟨((n - g) % (m : Int)).toNat, by omega, ?_⟩
 rw [Int.toNat_of_nonneg h0, Int.add_emod_emod]
 congr 1
 omega
theorem all_dv {b : Int} {ns : List Int} : (ns.map fun n => decide (b % n = 0)).all id = true ↔ ∀ n ∈ ns, n ∣ b := by
 rw [List.all_eq_true]
 constructor
 ·intro h n hn
  have := h _ (List.mem_map.mpr ⟨n, hn, rfl⟩)
  exact Int.dvd_of_emod_eq_zero (of_decide_eq_true this)
 ·intro h x hx
  obtain ⟨n, hn, rfl⟩ := List.mem_map.mp hx
  exact decide_eq_true (Int.emod_eq_zero_of_dvd (h n hn))
theorem zdc (n : Nat) : (if (n : Int) > 1 then (n : Int) else 1) = ((max 1 n : Nat) : Int) := by
 by_cases h : (n : Int) > 1
 ·rw [if_pos h]; omega
 ·rw [if_neg h]; omega
theorem zdb {n : Int} (h : 0 ≤ n) (h4 : n ≤ 4) : ∃ m : Int, (if n > 1 then n else 1) = m ∧ 1 ≤ m ∧ m ≤ 4 ∧ ∀ d : Int, m ∣ d ↔ (0 < n → n ∣ d) := by
 by_cases z : n > 1
 ·rw [if_pos z]; exact ⟨n, rfl, by omega, h4, fun d => ⟨fun x _ => x, fun x => x (by omega)⟩⟩
 ·rw [if_neg z]
  refine ⟨1, iA4 rfl (by omega) (by omega) (fun d => ⟨fun _ p => ?_, fun _ => Int.one_dvd d⟩)⟩
  rw [show n = 1 by omega]; exact Int.one_dvd d
theorem zcS (T : Txt K mg a) (wd : Wd) : PySem.W.kitOne K (.ref (jr a wd)) (.ref a.Parter) = some (decide (wd = .parter)) := by
 cases wd
 ·exact T.k1_Source_Parter
 ·exact T.k1_Drain_Parter
 ·exact T.k1_Parter_Parter
 ·exact T.k1_FirstParter_Parter
 ·exact T.k1_Sieve_Parter
 ·exact T.k1_Joiner_Parter
theorem zcT (T : Txt K mg a) (wd : Wd) : PySem.W.kitOne K (.ref (jr a wd)) (.ref a.Joiner) = some (decide (wd = .joiner)) := by
 cases wd
 ·exact T.k1_Source_Joiner
 ·exact T.k1_Drain_Joiner
 ·exact T.k1_Parter_Joiner
 ·exact T.k1_FirstParter_Joiner
 ·exact T.k1_Sieve_Joiner
 ·exact T.k1_Joiner_Joiner
def zaj (K : PySem.W.Frag) : Sp := fun vs H Q _ => ∃ (l : Addr) (ns : List Int) (k : Nat), vs = [.ref l, .int k] ∧ SqL K H l (iv ns) ∧ k ≤ 10000 ∧ ∀ n, 0 ≤ n → n < 2147483647 → Q (.int n) H
theorem VF (T : Txt K mg a) (F : Fun K "_law_draw" "_law_draw" wY f fd) : FnOk P w K mg base (CXr P w) 2 f fd ["_law_script", "_law_k"] (zaj K) := by
 refine F.okx Vo ?_ ?_
 ·walk_at "i"
 walk_at "j"
 refine oE3 h fun l ns kn z1_ => oA4 z1_ fun z2_ hl lk k => ?_
 clear h
 subst z2_
 walk_at "T"
 refine ⟨_, (ze (zA (zx ⟨rfl, rfl, rfl⟩ hr (za (zi zM (zx ⟨rfl, rfl, rfl⟩ hr (za (pq 0) (za (zi zr (pq 1) (zC (wn rfl) JJ (za zc (za (zC zO zN (za (pq 0) zb)) zb)))) zb))) (zi jE (pq 1) (pq 1))) (za zc zb))))), ?_⟩
 walk_at "go"
 refine uc (qL T).mono (uc (zbb T).mono (iA3 m_max m_len ⟨_, ⟨.inl ⟨_, hl, rfl⟩, iE2 _ _ ⟨rfl, ?_⟩⟩⟩))
 rw [zdc]
 have v0 := Int.emod_nonneg (kn : Int) (show ((max 1 (iv ns).length : Nat) : Int) ≠ 0 by omega)
 obtain ⟨j, ej⟩ : ∃ j : Nat, (kn : Int) % ((max 1 (iv ns).length : Nat) : Int) = j := ⟨((kn : Int) % ((max 1 (iv ns).length : Nat) : Int)).toNat, by omega⟩
 rw [ej]
 refine ⟨by omega, iE3 l ns j (iA4 rfl hl (mul_okR (by omega) (by omega)) ?_)⟩
 walk_at "go"
 exact iE2 _ _ (iA4 rfl (by decide) (by decide) (k _ (qZ _ _) (Vg _ _)))
theorem xo (T : Txt K mg a) : Cal P w K mg base "_law_draw" 2 ["_law_script", "_law_k"] [] (zaj K) := T.h_L_draw.cal (VF T)
def zai (K : PySem.W.Frag) : Sp := fun vs H Q _ => ∃ (l : Addr) (ns : List Int) (b : Int), vs = [.ref l, .int b] ∧ SqL K H l (iv ns) ∧ 0 < b ∧ ∀ n, 0 ≤ n → Q (.int n) H
theorem VE (T : Txt K mg a) (F : Fun K "_law_fold" "_law_fold" wX f fd) : FnOk P w K mg base (CXr P w) 1 f fd ["_law_script", "_law_bound"] (zai K) := by
 refine F.okx Vn ?_ ?_
 ·walk_at "i"
 walk_at "j"
 obtain ⟨l, ns, b, rfl, hl, b0, k⟩ := h
 walk_at "T"
 refine ⟨_, (zm (zo 2 Vn.nd zc)  (zm (qc qH rfl (zW (pq 0)) (zZ 3 Vn.nd)  (ze (zo 2 Vn.nd (zi zr (zi zM (zi jE (pq 2) zc) (pq 3)) (pq 1)))))  (ze (zA (pq 2))))), ?_⟩
 walk_at "go"
 walk_at "for"
 refine ⟨l, rfl, .inl ⟨⟨_, hl⟩, ?_⟩⟩
 refine qg (K := K) (a := l) (xs := iv ns) (fun i σ H' => ∃ (m : Int) (v : Option V), σ = [some (.ref l), some (.int b), some (.int m), v] ∧ H' = H ∧ 0 ≤ m) ⟨0, none, rfl, rfl, by decide⟩ (fun i σ H' _ ⟨_, _, _, e, _⟩ => e ▸ hl) ?_ ?_
 ·rintro i x σ H1 hi ⟨m, v, rfl, rfl, m0⟩
  obtain ⟨c, hc, rfl⟩ := vh hi
  walk_at "go"
  refine ⟨mul_okR (by decide) (by decide), ?_⟩
  walk_at "go"
  exact ⟨_, _, rfl, Int.emod_nonneg _ (by omega)⟩
 ·rintro σ H1 ⟨m, v, rfl, rfl, m0⟩
  walk_at "go"
  exact k _ m0
theorem XF (T : Txt K mg a) : Cal P w K mg base "_law_fold" 1 ["_law_script", "_law_bound"] [] (zai K) := T.h_L_fold.cal (VE T)
def Dv (bs : List (Int × Int)) (rs : List Row) (d : Int) : Prop := ∀ n, xG bs rs n → n ∣ d
theorem Dv.snoc {bs : List (Int × Int)} {rs : List Row} {r : Row} {d : Int} : Dv bs (rs ++ [r]) d ↔ Dv bs rs d ∧ ((r.wd = .source ∨ r.wd = .drain) → 0 < r.pace → r.pace ∣ d) := by
 constructor
 ·intro h
  refine ⟨fun n hn => h n ?_, fun hw hp => h _ (.inr ⟨r, iA4 (by simp) hw rfl hp⟩)⟩
  rcases hn with hn | ⟨x, hx, q⟩
  ·exact .inl hn
  ·exact .inr ⟨x, List.mem_append_left _ hx, q⟩
 ·rintro ⟨h, g⟩ n (hn | ⟨x, hx, hw, rfl, hp⟩)
  ·exact h n (.inl hn)
  ·rcases List.mem_append.mp hx with hx | hx
   ·exact h _ (.inr ⟨x, iA4 hx hw rfl hp⟩)
   ·rw [List.mem_singleton.mp hx] at hw hp ⊢
    exact g hw hp
section
variable {bs : List (Int × Int)} {rs : List Row}
theorem Zb {n : Int} (bo : ∀ b ∈ bs, zP b.1 b.2) (ro : ∀ r ∈ rs, r.ok) (h : xG bs rs n) : 0 < n ∧ n ≤ 4 := by
 rcases h with ⟨b, hb, rfl⟩ | ⟨r, hr, hw, rfl, hp⟩
 ·have h := bo b hb
  exact ⟨by have := h.2.2.1; omega, h.2.2.2⟩
 ·exact ⟨hp, (ZH (ro r hr) hw).2⟩
theorem zbH (bo : ∀ b ∈ bs, zP b.1 b.2) (ro : ∀ r ∈ rs, r.ok) : ∃ L, vN bs rs L := by
 have hm : ∀ n, n ∈ (bs.map (·.2) ++ (rs.filter fun r => decide ((r.wd = .source ∨ r.wd = .drain) ∧ 0 < r.pace)).map Row.pace) ↔ xG bs rs n := fun n => by
  simp only [List.mem_append, List.mem_map, List.mem_filter, decide_eq_true_eq, xG]
  constructor
  ·rintro (⟨b, hb, e⟩ | ⟨r, ⟨hr, hw, hp⟩, e⟩)
   ·exact .inl ⟨b, hb, e⟩
   ·exact .inr ⟨r, iA4 hr hw e (by rw [← e]; exact hp)⟩
  ·rintro (⟨b, hb, e⟩ | ⟨r, hr, hw, e, hp⟩)
   ·exact .inl ⟨b, hb, e⟩
   ·exact .inr ⟨r, ⟨hr, hw, by rw [e]; exact hp⟩, e⟩
 obtain ⟨L, hL⟩ := IsLcm.ex (ns := bs.map (·.2) ++ (rs.filter fun r => decide ((r.wd = .source ∨ r.wd = .drain) ∧ 0 < r.pace)).map Row.pace) fun n hn => by
  have b4 := Zb bo ro ((hm n).mp hn)
  omega
 exact iE2 L _ ⟨hL, hm⟩
theorem wP (bo : ∀ b ∈ bs, zP b.1 b.2) (ro : ∀ r ∈ rs, r.ok) : 0 < beatL bs rs ∧ ∀ d, beatL bs rs ∣ d ↔ Dv bs rs d := by
 obtain ⟨L, hL⟩ := zbH bo ro
 rw [← XH hL]
 obtain ⟨ns, il, im⟩ := hL
 exact ⟨il.pos, fun d => ⟨fun h n hn => Int.dvd_trans (il.dv n ((im n).mpr hn)) h, fun h => il.least d fun n hn => h n ((im n).mp hn)⟩⟩
theorem V9 (bo : ∀ b ∈ bs, zP b.1 b.2) (ro : ∀ r ∈ rs, r.ok) : six (beatL bs rs) := by
 obtain ⟨p, h⟩ := wP bo ro
 refine zbW p ((h 12).mpr fun n hn => ?_)
 have b4 := Zb bo ro hn
 have : n = 1 ∨ n = 2 ∨ n = 3 ∨ n = 4 := by omega
 rcases this with rfl | rfl | rfl | rfl <;> decide
end
def Q4 (a : Ad) : Sp := fun vs H Q _ => ∃ (vw : V) (bs : List (Int × Int)) (rs : List Row) (p : Addr → Prop), vs = [vw] ∧ Rep H p vw (qp a bs rs) ∧ bs.length ≤ 24 ∧ rs.length ≤ 24 ∧ (∀ b ∈ bs, zP b.1 b.2) ∧ (∀ r ∈ rs, r.ok) ∧ ∀ H', Same H H' → Q (.int (beatL bs rs)) H'
theorem VQ {a : Ad} {vs : List V} {H : Hp} {Q : VK} {E : XK} (vw : V) (bs : List (Int × Int)) (rs : List Row) (p : Addr → Prop) (q0 : vs = [vw]) (q1 : Rep H p vw (qp a bs rs)) (q2 : bs.length ≤ 24) (q3 : rs.length ≤ 24) (q4 : (∀ b ∈ bs, zP b.1 b.2)) (q5 : (∀ r ∈ rs, r.ok)) (q6 : ∀ H', Same H H' → Q (.int (beatL bs rs)) H') : Q4 a vs H Q E := ⟨vw, bs, rs, p, q0, q1, q2, q3, q4, q5, q6⟩
theorem VH (T : Txt K mg a) (F : Fun K "_law_beat" "_law_beat" xh f fd) : FnOk P w K mg base (CXr P w) 1 f fd ["_law_work_here"] (Q4 a) := by
 refine F.okx Vq ?_ ?_
 ·walk_at "i"
 walk_at "j"
 refine oE4 h fun v bs rs p z1_ => oA7 z1_ fun z2_ hv lb lr bo ro k => ?_
 clear h
 subst z2_
 refine oE7 (qj hv) fun y dx fs l1 l2 bvs kvs z1_ => oA9 z1_ fun z2_ hy e1 e2 h1 h2 hB hK no => ?_
 subst z2_
 obtain ⟨bp, bd⟩ := wP bo ro
 have b6 := V9 bo ro
 generalize beatL bs rs = L at bp bd b6 k
 walk_at "T"
 refine ⟨_, (zg (xS (i := 1) Vq.nd rfl (Or.inl rfl) (vars := ["_law_belt_here"]) (caps := []) (N := ["_law_belt_here"]) (ON := ["_law_work_here", "_law_paces", "_law_knot", "_law_beat_here"]) (osc := zf xh) rfl rfl (by first | decide +kernel | kernel_rfl) rfl rfl (zW (zj (pq 0) rfl)) (fun s H fp pins => (zZ 0 (show (["_law_belt_here"] : List Str).Nodup from by decide +kernel))) (fun s H fp pins => z6) (fun s H fp pins => (zj (pq 0) rfl)))  (zB (qc qH rfl (zW (zj (pq 0) rfl)) (zZ 2 Vq.nd)  (ze (zL (PW.pt (pw_or (zT (zC qC zt (za (pq 2) (za qG zb))) (fun _ => rfl)) (pw_or1 (zT (zC qC zt (za (pq 2) (za qG zb))) (fun _ => rfl)))))  (ze (zl (z5 PySem.F.plainAttrs_list PySem.F.slot_list_append PySem.F.type_list_append zu (pq 1) (za (zC (wn rfl) JJ (za zc (za (zj (pq 2) rfl) zb))) zb))))  zq)))  (zB (qc qH rfl (zW (zE (za zc (za zc (za zc (za zc (za zc zb))))))) (Jl (i := 3) Vq.nd rfl (Or.inr rfl))  (ze (zL (zT (zC (zcu rfl) zcs (za (j4 (vars := ["_law_pace"]) (caps := [3]) (N := ["_law_pace", "_law_beat_here"]) (ON := ["_law_work_here", "_law_paces", "_law_knot", "_law_beat_here"]) (osc := zf xh) rfl rfl (by first | decide +kernel | kernel_rfl) rfl rfl (zW (pq 1)) (fun s H fp pins => (zZ 0 (show (["_law_pace", "_law_beat_here"] : List Str).Nodup from by decide +kernel))) (fun s H fp pins => z6) (fun s H fp pins => (wg (qx hr.units1) (zi zr (pq 1) (pq 0)) zc (zy _)))) zb)) (fun _ => rfl))  (ze (zA (pq 3)))  zq)))  (ze (zA zc))))), ?_⟩
 walk_at "go"
 walk_at "lc"
 walk_at "go"
 refine ra hy T.C_Work T.N_Work_belts e1 ⟨l1, rfl, .inl ⟨⟨_, SqL.of h1⟩, fun _ _ _ _ acc hacc => ?_⟩⟩
 refine qg (K := K) (a := l1) (xs := bvs) (fun i σ H' => ∃ (v0 : Option V), σ = [v0] ∧ Same H H' ∧ H' acc = some (.lst (iv ((bs.take i).map (·.2))))) ⟨_, iA3 rfl (zd hacc) (by rw [List.take_zero]; exact upd_same)⟩ (fun i σ H' _ h => by obtain ⟨_, _, s, _⟩ := h; exact SqL.of (s _ _ h1)) ?_ ?_
 ·intro i x σ H' hi zz_
  refine oE1 zz_ fun v0 z1_ => oA3 z1_ fun z2_ s7 e7 => ?_
  clear zz_
  subst z2_
  obtain ⟨b, hr', hBt⟩ := hB.at hi
  refine oE3 hBt.inv fun y1 dx1 fs1 z1_ => oA5 z1_ fun z2_ _ g0 f1 f2 => ?_
  subst z2_
  have hil := (List.getElem?_eq_some_iff.mp hr').1
  walk_at "go"
  refine ra (s7 _ _ g0) T.C_Belt T.N_Belt_pace f2 ?_
  refine ⟨_, iA3 e7 (zh (by rw [zk, List.length_map, List.length_take]; omega)) ⟨_, iA3 rfl (fun b o hb => by rw [upd_ne (ne_of_none hb hacc)]; exact s7 b o hb) ?_⟩⟩
  rw [upd_same, List.take_add_one, hr', List.map_append, z3]
  rfl
 intro σ H2 zz_
 refine oE1 zz_ fun v0 z1_ => oA3 z1_ fun z2_ s2 ha => ?_
 clear zz_
 subst z2_
 rw [hB.len, List.take_length] at ha
 walk_at "go"
 refine cut (fun σ' H' => ∃ (v2 : Option V) (ns : List Int), σ' = [some (.ref y), some (.ref acc), v2, none] ∧ Same H H' ∧ H' acc = some (.lst (iv ns)) ∧ ns.length ≤ 48 ∧ (∀ n ∈ ns, 1 ≤ n ∧ n ≤ 4) ∧ ∀ d, (∀ n ∈ ns, n ∣ d) ↔ Dv bs rs d) ?_ ?_
 ·walk_at "for"
  walk_at "go"
  refine ra (s2 _ _ hy) T.C_Work T.N_Work_knots e2 ⟨l2, rfl, .inl ⟨⟨_, SqL.of (s2 _ _ h2)⟩, ?_⟩⟩
  refine qg (K := K) (a := l2) (xs := kvs) (fun i σ H' => ∃ (v2 : Option V) (ns : List Int), σ = [some (.ref y), some (.ref acc), v2, none] ∧ Same H H' ∧ H' acc = some (.lst (iv ns)) ∧ ns.length ≤ bs.length + i ∧ (∀ n ∈ ns, 1 ≤ n ∧ n ≤ 4) ∧ ∀ d, (∀ n ∈ ns, n ∣ d) ↔ Dv bs (rs.take i) d) (iE2 _ (bs.map (·.2)) (iA6 rfl s2 ha (by simp) ?_ ?_)) (fun i σ H' _ h => by obtain ⟨_, _, _, s, _⟩ := h; exact SqL.of (s _ _ h2)) ?_ ?_
  ·intro n hn
   obtain ⟨b, hb, rfl⟩ := List.mem_map.mp hn
   have h := bo b hb
   exact ⟨h.2.2.1, h.2.2.2⟩
  ·intro d
   constructor
   ·rintro h n (⟨b, hb, rfl⟩ | ⟨r, hr, _⟩)
    ·exact h _ (List.mem_map.mpr ⟨b, hb, rfl⟩)
    ·exact absurd hr (by simp)
   ·intro h n hn
    obtain ⟨b, hb, rfl⟩ := List.mem_map.mp hn
    exact h _ (.inl ⟨b, hb, rfl⟩)
  ·intro i x σ H6 hi zz_
   refine oE2 zz_ fun v2 ns z1_ => oA6 z1_ fun z2_ s6 ha6 ln pn dn => ?_
   clear zz_
   subst z2_
   obtain ⟨r, hr', hKn⟩ := hK.at hi
   refine oE6 hKn.inv fun y1 dx1 m1 m2 m3 fs1 z1_ => oA9 z1_ fun z2_ _ _ _ _ g0 _ _ z3_ => oA5 z3_ fun _ _ _ _ fp => ?_
   subst z2_
   have hil := (List.getElem?_eq_some_iff.mp hr').1
   have tk : rs.take (i + 1) = rs.take i ++ [r] := by rw [List.take_add_one, hr']; rfl
   walk_at "go"
   refine iE2 (.ref a.Source) _ (iA3 T.g_Source rfl (iE4 _ _ _ _ (iA4 rfl ((WT T r.wd).ty (CT T r.wd) (s6 _ _ g0)) (.inl ⟨_, rfl, Qx T r.wd⟩) ?_)))
   walk_at "go"
   refine wm (C := r.wd = .drain) (fun hw => ?_) (fun n1 hp => ?_)
   ·have hp := ZH (ro r (List.mem_of_getElem? hr')) hw
    have NP : NoAttr K (jr a r.wd) "pace" := by
     rcases hw with z | z
     ·rw [z]; exact T.N_Source_pace
     ·rw [z]; exact T.N_Drain_pace
    refine oE1 (zdb hp.1 hp.2) fun m z1_ => oA4 z1_ fun em m1 m4 md => ?_
    walk_at "go"
    refine iA3 (.inl ⟨rfl, _, SqL.of ha6⟩) m_max (iE5 y1 (jr a r.wd) dx1 fs1 _ (iA6 rfl (s6 _ _ g0) (CT T _) NP (fp hw) (iE2 _ _ ⟨rfl, ?_⟩)))
    rw [em]
    refine iE3 acc _ _ (iA5 rfl rfl ha6 (zh (by rw [zk]; omega)) ?_)
    rw [z3]
    refine iE2 _ (ns ++ [m]) (iA6 rfl (fun b o hb => by rw [upd_ne (ne_of_none hb hacc)]; exact s6 b o hb) upd_same (by simp; omega) (fun n hn => ?_) (fun d => ?_))
    ·rcases List.mem_append.mp hn with hn | hn
     ·exact pn n hn
     ·rw [List.mem_singleton.mp hn]; exact ⟨m1, m4⟩
    ·rw [tk, Dv.snoc, ← dn d]
     constructor
     ·intro h
      exact ⟨fun n hn => h n (List.mem_append_left _ hn), fun _ => (md d).mp (h m (by simp))⟩
     ·rintro ⟨h, g⟩ n hn
      rcases List.mem_append.mp hn with hn | hn
      ·exact h n hn
      ·rw [List.mem_singleton.mp hn]; exact (md d).mpr (g hw)
   walk_at "go"
   refine iE2 (.ref a.Drain) _ (iA3 T.g_Drain rfl (iE4 _ _ _ _ (iA4 rfl ((WT T r.wd).ty (CT T r.wd) (s6 _ _ g0)) (.inl ⟨_, rfl, zcU T r.wd⟩) ?_)))
   walk_at "go"
   refine zR (fun z => hp z) (fun n2 => (iE2 _ ns (iA6 rfl s6 ha6 (by omega) pn (fun d => ?_))))
   rw [tk, Dv.snoc, ← dn d]
   exact ⟨fun h => ⟨h, fun z => absurd z (fun z => z.elim n1 n2)⟩, fun h => h.1⟩
  ·intro σ H6 zz_
   refine oE2 zz_ fun v2 ns z1_ => oA6 z1_ fun z2_ s6 ha6 ln pn dn => ?_
   clear zz_
   subst z2_
   rw [hK.len] at ln dn
   rw [List.take_length] at dn
   exact iE2 _ ns (iA6 rfl s6 ha6 (by omega) pn dn)
 clear ha s2
 intro σ' H3 zz_
 refine oE2 zz_ fun v2 ns z1_ => oA6 z1_ fun z2_ s3 ha3 ln pn dn => ?_
 clear zz_
 subst z2_
 have dv : ∀ d, (∀ n ∈ ns, n ∣ d) ↔ L ∣ d := fun d => (dn d).trans (bd d).symm
 walk_at "go"
 refine cut (fun σ' H' => ∃ (v3 : Option V), σ' = [some (.ref y), some (.ref acc), v2, v3] ∧ Same H H' ∧ L = 12) ?_ ?_
 ·walk_at "for"
  walk_at "go"
  intro B hB'
  have sB := zd (o := .lst [V.int 1, .int 2, .int 3, .int 4, .int 6]) hB'
  have hB3 : upd H3 B (.lst [V.int 1, .int 2, .int 3, .int 4, .int 6]) B = some (.lst (iv [1, 2, 3, 4, 6])) := upd_same
  have s4 := s3.trans sB
  have ha4 := sB _ _ ha3
  generalize upd H3 B (.lst [V.int 1, .int 2, .int 3, .int 4, .int 6]) = H4 at s4 ha4 hB3 ⊢
  clear s3 ha3 sB hB'
  refine ⟨B, rfl, .inl ⟨⟨_, SqL.of hB3⟩, ?_⟩⟩
  refine qg (K := K) (a := B) (xs := iv [1, 2, 3, 4, 6]) (fun i σ H' => ∃ (v3 : Option V), σ = [some (.ref y), some (.ref acc), v2, v3] ∧ Same H H' ∧ Same H4 H' ∧ ∀ x ∈ ([1, 2, 3, 4, 6] : List Int).take i, ¬ L ∣ x) ⟨_, iA4 rfl s4 (Same.refl _) (fun x hx => by simp at hx)⟩ (fun i σ H' _ h => by obtain ⟨_, _, _, s, _⟩ := h; exact SqL.of (s _ _ hB3)) ?_ ?_
  ·intro i x σ H5 hi zz_
   refine oE1 zz_ fun v3 z1_ => oA4 z1_ fun z2_ s5 t5 no => ?_
   clear zz_
   subst z2_
   obtain ⟨d, hd, rfl⟩ := vh hi
   walk_at "go"
   walk_at "lc"
   walk_at "go"
   refine ⟨acc, rfl, .inl ⟨⟨_, SqL.of (t5 _ _ ha4)⟩, fun _ _ _ _ ac hac => ?_⟩⟩
   refine qg (K := K) (a := acc) (xs := iv ns) (fun j σ H' => ∃ (v0 : Option V), σ = [v0, some (.int d)] ∧ Same H5 H' ∧ H' ac = some (.lst (((ns.take j).map fun n => decide (d % n = 0)).map V.bl))) ⟨_, iA3 rfl (zd hac) upd_same⟩ (fun j σ H' _ h => by obtain ⟨_, _, s, _⟩ := h; exact SqL.of (s _ _ (t5 _ _ ha4))) ?_ ?_
   ·intro j z σ H6 hj zz_
    refine oE1 zz_ fun v0 z1_ => oA3 z1_ fun z2_ s6 h6 => ?_
    clear zz_
    subst z2_
    obtain ⟨n, hn, rfl⟩ := vh hj
    have hjl := (List.getElem?_eq_some_iff.mp hn).1
    have n1 := (pn n (List.mem_of_getElem? hn)).1
    walk_at "go"
    refine ⟨_, iA3 h6 (zh (by rw [List.length_map, List.length_map, List.length_take]; omega)) ⟨_, iA3 rfl (fun b o hb => by rw [upd_ne (ne_of_none hb hac)]; exact s6 b o hb) ?_⟩⟩
    rw [upd_same, List.take_add_one, hn]
    simp
   intro σ H6 zz_
   refine oE1 zz_ fun v0 z1_ => oA3 z1_ fun z2_ s6 h6 => ?_
   clear zz_
   subst z2_
   rw [zk, List.take_length] at h6
   refine iE2 ac _ (iA3 rfl h6 ?_)
   walk_at "go"
   refine zR (fun z => ?_) (fun z => ?_)
   ·have z := (dv d).mp (all_dv.mp z)
    walk_at "go"
    rw [zbe b6 hd no z]
    exact k _ (s5.trans s6)
   ·refine ⟨_, iA4 rfl (s5.trans s6) (t5.trans s6) (fun x hx => ?_)⟩
    rw [List.take_add_one, hd] at hx
    rcases List.mem_append.mp hx with hx | hx
    ·exact no x hx
    ·rw [show x = d by simpa using hx]
     exact fun q => z (all_dv.mpr ((dv d).mpr q))
  ·intro σ H5 zz_
   refine oE1 zz_ fun v3 z1_ => oA4 z1_ fun z2_ s5 t5 no => ?_
   clear zz_
   subst z2_
   exact ⟨_, iA3 rfl s5 (V8 b6 no)⟩
 intro σ' H5 zz_
 refine oE1 zz_ fun v3 z1_ => oA3 z1_ fun z2_ s5 z3_ => ?_
 clear zz_
 subst z2_ z3_
 walk_at "go"
 exact k _ s5
theorem zba (T : Txt K mg a) : Cal P w K mg base "_law_beat" 1 ["_law_work_here"] [] (Q4 a) := T.h_L_beat.cal (VH T)
theorem X7 (T : Txt K mg a) (F : Fun K "_law_kinds" "_law_kinds" wb f fd) : FnOk P w K mg base (CXr P w) 1 f fd ["_law_work_here", "_law_cells_here"] (x8 a) := by
 refine F.okx XU ?_ ?_
 ·walk_at "i"
 walk_at "j"
 refine oE8 h fun vw cb us bs rs c p q z1_ => oA8 z1_ fun z2_ hw hcb rus wk ro c6 k => ?_
 clear h
 subst z2_
 have lu : us.length = c.length := by rw [rus.len, List.length_map]
 refine oE7 (qj hw) fun yw dx fs l1 l2 bvs kvs z1_ => oA9 z1_ fun z2_ hy e1 e2 h1 h2 hB hK no => ?_
 subst z2_
 walk_at "T"
 refine ⟨_, (zg (zo 2 XU.nd (zE zb))  (zB (qc qH rfl (zW (pq 1)) (zZ 3 XU.nd)  (ze (zL (zw X2 (pq 3) jV (zy _))  (ze (zl (z5 PySem.F.plainAttrs_list PySem.F.slot_list_append PySem.F.type_list_append zu (pq 2) (za jV zb))))  (zg (zo 4 XU.nd (zj (zF (zj (pq 0) rfl) (zF (pq 3) zc)) rfl))  (ze (zl (z5 PySem.F.plainAttrs_list PySem.F.slot_list_append PySem.F.type_list_append zu (pq 2) (za (zF (pq 4) (zi zr (zF (pq 3) zc) (zC zO zN (za (pq 4) zb)))) zb))))))))  (ze (zA (jh jC qR (za (pq 2) zb)))))), ?_⟩
 walk_at "go"
 intro R hR
 have sR := zd (o := .lst []) hR
 have hR1 : upd H R (.lst []) R = some (.lst ((qh rs (c.take 0)).map oiV)) := upd_same
 generalize upd H R (.lst []) = H1 at sR hR1 ⊢
 walk_at "go"
 refine cut (fun σ' H' => ∃ (v3 v4 : Option V), σ' = [some (.ref yw), some (.ref cb), some (.ref R), v3, v4] ∧ Same H H' ∧ H' R = some (.lst ((qh rs c).map oiV))) ?_ ?_
 ·walk_at "for"
  walk_at "go"
  refine ⟨cb, rfl, .inl ⟨⟨_, SqL.of (sR _ _ hcb)⟩, ?_⟩⟩
  refine qg (K := K) (a := cb) (xs := us) (fun j σ H' => ∃ (v3 v4 : Option V), σ = [some (.ref yw), some (.ref cb), some (.ref R), v3, v4] ∧ Same H H' ∧ H' R = some (.lst ((qh rs (c.take j)).map oiV))) (iE2 _ _ (iA3 rfl sR hR1)) (fun i σ H' _ h => by obtain ⟨_, _, _, s, _⟩ := h; exact SqL.of (s _ _ hcb)) ?_ ?_
  ·intro j v σ H2 hj zz_
   refine oE2 zz_ fun v3 v4 z1_ => oA3 z1_ fun z2_ s2 ha => ?_
   clear zz_
   subst z2_
   obtain ⟨d, hd, rv⟩ := rus.at hj
   rw [List.getElem?_map, Option.map_eq_some_iff] at hd
   obtain ⟨wr, hwr, rfl⟩ := hd
   have hjl := (List.getElem?_eq_some_iff.mp hwr).1
   have e : (qh rs (c.take (j + 1))).map oiV = (qh rs (c.take j)).map oiV ++ [oiV (wr.map (kdW rs))] := by
    rw [List.take_add_one, hwr]
    simp [qh]
   have lk : ((qh rs (c.take j)).map oiV).length ≤ 6 := by simp [qh]; omega
   have sn : ∀ (x : V), Same H (upd H2 R (.lst ((qh rs (c.take j)).map oiV ++ [x]))) := fun x b o hb => by rw [upd_ne (ne_of_none hb hR)]; exact s2 b o hb
   cases wr with
   | none =>
    have rv : Rep H q v .non := rv
    cases rv
    walk_at "go"
    exact ⟨.inl ⟨rfl, _, SqL.of ha⟩, iE3 R _ _ (iA5 rfl rfl ha (zh (by omega)) (iE2 _ _ (iA3 rfl (sn _) (by rw [upd_same, e]; rfl))))⟩
   | some x =>
    obtain ⟨tx, rfl, htx⟩ := jA (b := x) rv
    refine oE2 (wk _ (List.mem_of_getElem? hwr) x.1 x.2 rfl) fun jj r z1_ => oA4 z1_ fun ej hr' hs _ => ?_
    obtain ⟨kv, hkv, hKn⟩ := wl hK hr'
    refine oE6 hKn.inv fun y1 dx1 m1 m2 m3 fs1 z1_ => oA9 z1_ fun z2_ _ _ _ _ g0 _ _ z3_ => oA5 z3_ fun _ _ _ g3 _ => ?_
    subst z2_
    obtain ⟨g3a, g3b⟩ := g3 hs
    have kp : 0 < r.kinds.length := by
     have ok := ro r (List.mem_of_getElem? hr')
     unfold Row.ok at ok
     rw [hs] at ok
     have := ok.2.2.2.2.1
     omega
    have htx2 := s2 _ _ htx
    rw [ej] at htx2
    walk_at "go"
    refine ra (s2 _ _ hy) T.C_Work T.N_Work_knots e2 (rd_ixT htx2 at0 (zz (SqL.of (s2 _ _ h2)) (zK hkv) ?_))
    refine iE5 y1 (jr a r.wd) dx1 fs1 _ (iA6 rfl (s2 _ _ g0) (CT T _) (by rw [hs]; exact T.N_Source_kinds) g3a ?_)
    walk_at "go"
    refine ⟨.inl ⟨rfl, _, SqL.of ha⟩, rd_ixT htx2 rfl ?_⟩
    walk_at "go"
    refine ⟨_, .inl ⟨_, SqL.of (s2 _ _ g3b), rfl⟩, ?_⟩
    rw [zk]
    walk_at "go"
    refine ⟨by omega, zz (SqL.of (s2 _ _ g3b)) (QN x.2 kp) ?_⟩
    refine iE3 R _ _ (iA5 rfl rfl ha (zh (by omega)) (iE2 _ _ (iA3 rfl (sn _) ?_)))
    rw [upd_same, e]
    show _ = some (HO.lst (_ ++ [V.int (kdW rs x)]))
    unfold kdW
    rw [ej, Int.toNat_natCast, hr']
    rfl
  ·intro σ H2 zz_
   refine oE2 zz_ fun v3 v4 z1_ => oA3 z1_ fun z2_ s2 ha => ?_
   clear zz_
   subst z2_
   rw [lu, List.take_length] at ha
   exact iE2 _ _ (iA3 rfl s2 ha)
 intro σ' H2 zz_
 refine oE2 zz_ fun v3 v4 z1_ => oA3 z1_ fun z2_ s2 ha => ?_
 clear zz_
 subst z2_
 walk_at "go"
 refine iE2 R _ ⟨rfl, .inl ⟨SqL.of ha, fun t ht => ?_⟩⟩
 exact k t _ (s2.trans (zd ht)) (zD s2 ht) upd_same
theorem vM (T : Txt K mg a) : Cal P w K mg base "_law_kinds" 1 ["_law_work_here", "_law_cells_here"] [] (x8 a) := T.h_L_kinds.cal (X7 T)
def Zz (a : Ad) : Sp := fun vs H Q _ => ∃ (vw : V) (y : Addr) (n : SN) (bs : List (Int × Int)) (rs : List Row) (st : PSt) (p : Addr → Prop), vs = [vw, .ref y, .int (beatL bs rs)] ∧ Rep H p vw (qp a bs rs) ∧ StO a H y n st ∧ stWf bs rs st ∧ bs.length ≤ 24 ∧ rs.length ≤ 24 ∧ (∀ b ∈ bs, zP b.1 b.2) ∧ (∀ r ∈ rs, r.ok) ∧ ∀ t H', Same H H' → Rep H' (zV H') (.ref t) (shD (shapeF bs rs st)) → Q (.ref t) H'
theorem Z0 {a : Ad} {vs : List V} {H : Hp} {Q : VK} {E : XK} (vw : V) (y : Addr) (n : SN) (bs : List (Int × Int)) (rs : List Row) (st : PSt) (p : Addr → Prop) (q0 : vs = [vw, .ref y, .int (beatL bs rs)]) (q1 : Rep H p vw (qp a bs rs)) (q2 : StO a H y n st) (q3 : stWf bs rs st) (q4 : bs.length ≤ 24) (q5 : rs.length ≤ 24) (q6 : (∀ b ∈ bs, zP b.1 b.2)) (q7 : (∀ r ∈ rs, r.ok)) (q8 : ∀ t H', Same H H' → Rep H' (zV H') (.ref t) (shD (shapeF bs rs st)) → Q (.ref t) H') : Zz a vs H Q E := ⟨vw, y, n, bs, rs, st, p, q0, q1, q2, q3, q4, q5, q6, q7, q8⟩
theorem X6 (T : Txt K mg a) (F : Fun K "_law_shape" "_law_shape" xb f fd) : FnOk P w K mg base (CXr P w) 2 f fd ["_law_work_here", "_law_state", "_law_beat_here"] (Zz a) := by
 refine F.okx XT ?_ ?_
 ·walk_at "i"
 walk_at "j"
 refine oE7 h fun vw y n bs rs st p z1_ => oA9 z1_ fun z2_ hv so wf b24 r24 bo ro k => ?_
 clear h
 subst z2_
 refine oE7 (qj hv) fun yw dx fs l1 l2 bvs kvs z1_ => oA9 z1_ fun z2_ hy e1 e2 h1 h2 hB hK no => ?_
 subst z2_
 have bp := (wP bo ro).1
 have lc : n.acs.length = st.cells.length := by rw [so.hc.len, zn, List.length_map]
 have lcb : st.cells.length = bs.length := wf.co.1
 walk_at "T"
 refine ⟨_, (zg (zo 3 XT.nd (zE zb))  (zB (qc qH rfl (zY (za (zj (pq 0) rfl) zb)) (jU (n := 2) rfl (zQ (zZ 4 XT.nd) (zQ (zZ 5 XT.nd) jg)))  (ze (zL (zT (zC qC zt (za (pq 5) (za qG zb))) (fun _ => rfl))  (ze (zl (z5 PySem.F.plainAttrs_list PySem.F.slot_list_append PySem.F.type_list_append zu (pq 3) (za (zi zr (zF (zF (zj (pq 1) rfl) (pq 4)) zc) (zC zO zN (za (zj (pq 5) rfl) zb))) zb))))  zq)))  (zg (zo 6 XT.nd (jh jC qR (za (j4 (vars := ["_law_cells_here"]) (caps := [0]) (N := ["_law_cells_here", "_law_work_here"]) (ON := ["_law_work_here", "_law_state", "_law_beat_here", "_law_counts", "_law_k", "_law_knot", "_law_belts"]) (osc := zf xb) rfl rfl (by first | decide +kernel | kernel_rfl) rfl rfl (zW (zj (pq 1) rfl)) (fun s H fp pins => (zZ 0 (show (["_law_cells_here", "_law_work_here"] : List Str).Nodup from by decide +kernel))) (fun s H fp pins => z6) (fun s H fp pins => (vF hr (za (pq 1) (za (pq 0) zb))))) zb)))  (ze (zA (ZL (za (zi zr (zj (pq 1) rfl) (pq 2)) (za (pq 6) (za (jh jC qR (za (zj (pq 1) rfl) zb)) (za (jh jC qR (za (pq 3) zb)) zb)))))))))), ?_⟩
 walk_at "go"
 intro C hC
 have sC := zd (o := .lst []) hC
 have hC1 : upd H C (.lst []) C = some (.lst (((qB .source rs 0).map fun j => some (qA rs st j)).map oiV)) := upd_same
 generalize upd H C (.lst []) = H1 at sC hC1 ⊢
 walk_at "go"
 refine cut (fun σ' H' => ∃ (v4 v5 : Option V), σ' = [some (.ref yw), some (.ref y), some (.int (beatL bs rs)), some (.ref C), v4, v5, none] ∧ Same H H' ∧ H' C = some (.lst (((zp .source rs).map fun j => some (qA rs st j)).map oiV))) ?_ ?_
 ·walk_at "for"
  walk_at "go"
  refine ra (sC _ _ hy) T.C_Work T.N_Work_knots e2 (iE2 l2 _ (iA3 rfl (sC _ _ h2) ?_))
  refine xX (K := K) (a := l2) (xs := kvs) (fun i σ H' => ∃ (v4 v5 : Option V), σ = [some (.ref yw), some (.ref y), some (.int (beatL bs rs)), some (.ref C), v4, v5, none] ∧ Same H H' ∧ H' C = some (.lst (((qB .source rs i).map fun j => some (qA rs st j)).map oiV))) (iE2 _ _ (iA3 rfl sC hC1)) (fun i σ H' _ h => by obtain ⟨_, _, _, s, _⟩ := h; exact SqL.of (s _ _ h2)) ?_ ?_
  ·intro i x t σ H2 hi ht zz_
   refine oE2 zz_ fun v4 v5 z1_ => oA3 z1_ fun z2_ s2 ha => ?_
   clear zz_
   subst z2_
   obtain ⟨r, hr', hKn⟩ := hK.at hi
   refine oE6 hKn.inv fun y1 dx1 m1 m2 m3 fs1 z1_ => oA9 z1_ fun z2_ _ _ _ _ g0 _ _ z3_ => oA5 z3_ fun _ _ _ g3 _ => ?_
   subst z2_
   have hil := (List.getElem?_eq_some_iff.mp hr').1
   have s3 := s2.trans (zd (o := .tup [.int i, .ref y1]) ht)
   have ha3 := upd_keep (o := .tup [.int i, .ref y1]) ha ht
   refine un2 upd_same ?_
   generalize upd H2 t (.tup [.int i, .ref y1]) = H3 at s3 ha3 ⊢
   clear s2 ha ht
   walk_at "go"
   refine iE2 (.ref a.Source) _ (iA3 T.g_Source rfl (iE4 _ _ _ _ (iA4 rfl ((WT T r.wd).ty (CT T r.wd) (s3 _ _ g0)) (.inl ⟨_, rfl, Qx T r.wd⟩) ?_)))
   walk_at "go"
   refine zR (fun b => ?_) (fun b => (iE2 _ _ (iA3 rfl s3 (by rw [z9 hr', if_neg b, List.append_nil]; exact ha3))))
   obtain ⟨g3a, g3b⟩ := g3 b
   have ok := ro r (List.mem_of_getElem? hr')
   have kp : 0 < r.kinds.length := by
    unfold Row.ok at ok
    rw [b] at ok
    have := ok.2.2.2.2.1
    omega
   obtain ⟨g, hg⟩ : ∃ g, st.gone[i]? = some g := ⟨_, List.getElem?_eq_getElem (by rw [wf.go.1]; exact hil)⟩
   have q1 := (wf.go.2 i r g hr' hg).1
   have cp := jB ok
   obtain ⟨gh, gs, rfl⟩ := List.exists_cons_of_ne_nil (List.ne_nil_of_length_pos (by omega : 0 < g.length))
   have so3 := so.same s3
   obtain ⟨bG, hbG, hgG⟩ := wM so3.hg hg
   have hmap : (n.ags.map V.ref)[i]? = some (.ref bG) := by rw [List.getElem?_map, hbG]; rfl
   have ek : qA rs st i = gh % (r.kinds.length : Int) := by
    unfold qA
    rw [Int.toNat_natCast, hr', List.getD_eq_getElem?_getD, hg]
    rfl
   walk_at "go"
   refine ⟨.inl ⟨rfl, _, SqL.of ha3⟩, iE5 y a.State n.dx _ _ (iA6 rfl so3.hy T.C_State T.N_State_gone rfl (zz (SqL.of so3.hg.out) (zK hmap) (zz (SqL.of hgG) at0 ?_)))⟩
   walk_at "go"
   refine iE5 y1 (jr a r.wd) dx1 fs1 _ (iA6 rfl (s3 _ _ g0) (CT T _) (by rw [b]; exact T.N_Source_kinds) g3a ⟨_, ⟨.inl ⟨_, SqL.of (s3 _ _ g3b), rfl⟩, ?_⟩⟩)
   rw [zk]
   walk_at "go"
   refine ⟨by omega, iE3 C _ _ (iA5 rfl rfl ha3 (zh (by have := qJ .source rs i; rw [List.length_map, List.length_map]; omega)) (iE2 _ _ (iA3 rfl (fun b o hb => by rw [upd_ne (ne_of_none hb hC)]; exact s3 b o hb) ?_)))⟩
   rw [upd_same, z9 hr', if_pos b, List.map_append, List.map_append]
   show _ = some (HO.lst (_ ++ [V.int (qA rs st i)]))
   rw [ek]
  ·intro σ H2 zz_
   refine oE2 zz_ fun v4 v5 z1_ => oA3 z1_ fun z2_ s2 ha => ?_
   clear zz_
   subst z2_
   rw [hK.len] at ha
   exact iE2 _ _ (iA3 rfl s2 ha)
 clear sC hC1
 intro σ' H2 zz_
 refine oE2 zz_ fun v4 v5 z1_ => oA3 z1_ fun z2_ s1 hC2 => ?_
 clear zz_
 subst z2_
 have so1 := so.same s1
 have hv1 : Rep H2 p (.ref yw) (qp a bs rs) := hv.keep fun b o hb ho => ⟨hb, s1 _ _ ho⟩
 walk_at "go"
 walk_at "lc"
 walk_at "go"
 refine ra so1.hy T.C_State T.N_State_cells rfl ⟨n.lc, rfl, .inl ⟨⟨_, SqL.of so1.hc.out⟩, fun _ _ _ _ acc hacc => ?_⟩⟩
 refine qg (K := K) (a := n.lc) (xs := n.acs.map V.ref) (fun i σ H' => ∃ (v0 : Option V) (us : List V), σ = [v0, some (.ref yw)] ∧ Same H2 H' ∧ H' acc = some (.lst us) ∧ us.length = i ∧ Reps H' (zV H') us ((st.cells.take i).map fun c => .tup ((qh rs c).map oiD))) (iE2 _ ([]) (iA5 rfl (zd hacc) upd_same rfl (.nil))) (fun i σ H' _ h => by obtain ⟨_, _, _, s, _⟩ := h; exact SqL.of (s _ _ so1.hc.out)) ?_ ?_
 ·intro i x σ H3 hi zz_
  refine oE2 zz_ fun v0 us z1_ => oA5 z1_ fun z2_ s2 ha lu ru => ?_
  clear zz_
  subst z2_
  rw [List.getElem?_map, Option.map_eq_some_iff] at hi
  obtain ⟨cb, hcb, rfl⟩ := hi
  have hil : i < st.cells.length := by rw [← lc]; exact (List.getElem?_eq_some_iff.mp hcb).1
  obtain ⟨c, ec⟩ : ∃ c, st.cells[i]? = some c := ⟨_, List.getElem?_eq_getElem hil⟩
  obtain ⟨vs, hvs, rvs⟩ := so1.hc.g i cb _ hcb (show (zn st.cells)[i]? = some (c.map z8) by rw [zn, List.getElem?_map, ec]; rfl)
  obtain ⟨b, hb⟩ : ∃ b, bs[i]? = some b := ⟨_, List.getElem?_eq_getElem (by rw [← wf.co.1]; exact hil)⟩
  obtain ⟨lc6, wk⟩ := wf.co.2 i b c hb ec
  have bk := (bo b (List.mem_of_getElem? hb)).2.1
  walk_at "go"
  refine uc (vM T).mono (iE8 (.ref yw) cb vs bs rs c p _ (iA8 rfl (hv1.keep (fun b o hb ho => ⟨hb, s2 _ _ ho⟩)) (s2 _ _ hvs) (rvs.keep (fun b o hb ho => ⟨hb, s2 _ _ ho⟩)) wk ro (by omega) (fun t H4 s3 nt ht => ?_)))
  have nta : ∀ b, zV H4 b → b ≠ acc := fun b ⟨xs, hx⟩ z => by rw [z, s3 _ _ ha] at hx; cases hx
  refine ⟨_, iA3 (s3 _ _ ha) (zh (by omega)) (iE2 _ (us ++ [.ref t]) (iA5 rfl (fun b o hb => by rw [upd_ne (ne_of_none hb hacc)]; exact s3 _ _ (s2 b o hb)) upd_same (by simp [lu]) ?_))⟩
  rw [List.take_add_one, ec, List.map_append]
  refine ((qt ru s3).append (.one (vD ht))).keep fun b o tb hb => ?_
  have ne := nta b tb
  obtain ⟨xs, hx⟩ := tb
  exact ⟨⟨xs, by rw [upd_ne ne]; exact hx⟩, by rw [upd_ne ne]; exact hb⟩
 intro σ H3 zz_
 refine oE2 zz_ fun v0 us z1_ => oA5 z1_ fun z2_ s2 ha lu ru => ?_
 clear zz_
 subst z2_
 rw [List.length_map, lc, List.take_length] at ru
 refine iE2 acc _ ⟨rfl, .inl ⟨SqL.of ha, fun t1 ht1 => ?_⟩⟩
 have s3 := zd (o := .tup us) ht1
 have ru3 := qt ru s3
 have hT1 : upd H3 t1 (.tup us) t1 = some (.tup us) := upd_same
 have s13 := s2.trans s3
 generalize upd H3 t1 (.tup us) = H4 at s3 ru3 hT1 s13 ⊢
 have r1 : Rep H4 (zV H4) (.ref t1) (.tup ((st.cells.map (qh rs)).map fun r => .tup (r.map oiD))) := by
  rw [List.map_map]
  exact ru3.mkT ⟨_, hT1⟩ hT1
 clear ru ru3 ha hT1 s2 s3
 have so6 := so1.same s13
 have hC6 := s13 _ _ hC2
 walk_at "go"
 refine ra so6.hy T.C_State T.N_State_turn rfl ?_
 walk_at "go"
 refine ra so6.hy T.C_State T.N_State_sides rfl (iE2 n.ls _ ⟨rfl, .inl ⟨SqL.of so6.hs, fun t3 ht3 => ?_⟩⟩)
 have s7 := zd (o := .tup (iv st.sides)) ht3
 have hT3 : upd H4 t3 (.tup (iv st.sides)) t3 = some (.tup ((st.sides.map some).map oiV)) := by rw [upd_same, List.map_map]; rfl
 have hC7 := s7 _ _ hC6
 generalize upd H4 t3 (.tup (iv st.sides)) = H7 at s7 hT3 hC7 ⊢
 walk_at "go"
 refine iE2 C _ ⟨rfl, .inl ⟨SqL.of hC7, fun t2 ht2 => ?_⟩⟩
 have s8 := zd (o := .tup (((zp .source rs).map fun j => some (qA rs st j)).map oiV)) ht2
 have hT2 : upd H7 t2 (.tup (((zp .source rs).map fun j => some (qA rs st j)).map oiV)) t2 = some (.tup (((zp .source rs).map fun j => some (qA rs st j)).map oiV)) := upd_same
 generalize upd H7 t2 (.tup (((zp .source rs).map fun j => some (qA rs st j)).map oiV)) = H8 at s8 hT2 ⊢
 intro t4 ht4
 have s9 := zd (o := .tup [.int (st.turn % beatL bs rs), .ref t1, .ref t3, .ref t2]) ht4
 have hT4 : upd H8 t4 (.tup [.int (st.turn % beatL bs rs), .ref t1, .ref t3, .ref t2]) t4 = some (.tup [.int (st.turn % beatL bs rs), .ref t1, .ref t3, .ref t2]) := upd_same
 generalize upd H8 t4 (.tup [.int (st.turn % beatL bs rs), .ref t1, .ref t3, .ref t2]) = H9 at s9 hT4 ⊢
 refine k t4 H9 ((s1.trans s13).trans (s7.trans (s8.trans s9))) ?_
 exact Reps.mkT (vs := [.int (st.turn % beatL bs rs), .ref t1, .ref t3, .ref t2]) (.cons .int (.cons (qu r1 (s7.trans (s8.trans s9))) (.cons (qu (vD hT3) (s8.trans s9)) (.cons (qu (vD hT2) s9) .nil)))) ⟨_, hT4⟩ hT4
theorem QS (T : Txt K mg a) : Cal P w K mg base "_law_shape" 2 ["_law_work_here", "_law_state", "_law_beat_here"] [] (Zz a) := T.h_L_shape.cal (X6 T)
theorem frS {H0 H H' : Hp} {ms : List Addr} (s : Same H0 H) (f : Fr ms H H') (n : ∀ m ∈ ms, H0 m = none) : Same H0 H' := (s.fr.trans f).same n
theorem Wj (gs : List Int) (j : Nat) (z : Int) : (iv gs).set j (.int z) = iv (gs.set j z) := by simp [iv, List.map_set]
theorem Xe {rs : List Row} (h : HasS rs) : 0 < (zp .source rs).length := by
 obtain ⟨r, hr, e⟩ := h
 obtain ⟨i, hi⟩ := List.getElem?_of_mem hr
 exact List.length_pos_of_mem (ZR hi e)
theorem WP {H : Hp} {ms : List Addr} {x : Addr} {o : HO} {H2 : Hp} (f : Fr ms H2 H) (hx : H2 x = none) : Fr ms H2 (upd H x o) := fun b u nb hb => by rw [upd_ne (ne_of_none hb hx)]; exact f b u nb hb
theorem Qa {bs : List (Int × Int)} {rs : List Row} {css : List (List qS)} {b : Int × Int} {c : List qS} (h : jl bs rs css) (l : c.length = b.1.toNat) (wk : ∀ x ∈ c, qy rs x) : jl (bs ++ [b]) rs (css ++ [c]) := by
 refine ⟨by simp [h.1], fun j b2 c2 e1 e2 => ?_⟩
 by_cases hj : j < css.length
 ·rw [List.getElem?_append_left hj] at e2
  rw [List.getElem?_append_left (by rw [← h.1]; exact hj)] at e1
  exact h.2 j b2 c2 e1 e2
 ·rw [List.getElem?_append_right (by omega)] at e2
  rw [List.getElem?_append_right (by rw [← h.1]; omega), ← h.1] at e1
  have j0 : j - css.length = 0 := by have := (List.getElem?_eq_some_iff.mp e2).1; simp at this; omega
  rw [j0] at e1 e2
  have e1 : b = b2 := by simpa using e1
  have e2 : c = c2 := by simpa using e2
  subst e1 e2
  exact ⟨l, wk⟩
theorem QQ {rs : List Row} : jl [] rs [] := ⟨rfl, fun _ _ _ h => by simp at h⟩
abbrev JD (y l g S C : Addr) (v5 v6 v7 v8 v9 v10 : Option V) : St := [some (.ref y), some (.ref l), some (.ref g), some (.ref S), some (.ref C), v5, v6, v7, v8, v9, v10]
def WF (K : PySem.W.Frag) (a : Ad) : Sp := fun vs H Q _ => ∃ (vw : V) (l g : Addr) (ns gs : List Int) (bs : List (Int × Int)) (rs : List Row) (H0 : Hp), vs = [vw, .ref l, .ref g] ∧ Same H0 H ∧ H0 g = none ∧ Rep H0 (Off []) vw (qp a bs rs) ∧ SqL K H0 l (iv ns) ∧ H g = some (.lst (iv gs)) ∧ gs.length = rs.length ∧ bs.length ≤ 24 ∧ rs.length ≤ 24 ∧ (∀ b ∈ bs, zP b.1 b.2) ∧ HasS rs ∧
 ∀ C css gs' H', Same H0 H' → H' g = some (.lst (iv gs')) → gs'.length = rs.length → Rep H' (Off []) (.ref C) (.lst ((zn css).map D.lst)) → jl bs rs css → Q (.ref C) H'
theorem Wa (T : Txt K mg a) (F : Fun K "_law_cells" "_law_cells" xg f fd) : FnOk P w K mg base (CXr P w) 3 f fd ["_law_work_here", "_law_script", "_law_given"] (WF K a) := by
 refine F.okx XX ?_ ?_
 ·walk_at "i"
 walk_at "j"
 refine oE8 h fun vw l g ns gs bs rs H0 z1_ => oA9 z1_ fun z2_ s0 g0 hw hl hg lg b24 z3_ => oA4 z3_ fun r24 bo hS k => ?_
 clear h
 subst z2_
 refine oE7 (qj hw) fun yw dx fs l1 l2 bvs kvs z1_ => oA9 z1_ fun z2_ hy e1 e2 h1 h2 hB hK no => ?_
 subst z2_
 have lsrc := Xe hS
 walk_at "T"
 refine ⟨_, (zg (xS (i := 3) XX.nd rfl (Or.inl rfl) (vars := ["_law_k", "_law_knot"]) (caps := []) (N := ["_law_k", "_law_knot"]) (ON := ["_law_work_here", "_law_script", "_law_given", "_law_sources", "_law_cells_here", "_law_spot", "_law_belt_here", "_law_row", "_law_place", "_law_number", "_law_source_here"]) (osc := zf xg) rfl rfl (by first | decide +kernel | kernel_rfl) rfl rfl (zY (za (zj (pq 0) rfl) zb)) (fun s H fp pins => (jU (n := 2) rfl (zQ (zZ 0 (show (["_law_k", "_law_knot"] : List Str).Nodup from by decide +kernel)) (zQ (zZ 1 (show (["_law_k", "_law_knot"] : List Str).Nodup from by decide +kernel)) jg)))) (fun s H fp pins => (vb (zT (zC qC zt (za (pq 1) (za qG zb))) (fun _ => rfl)))) (fun s H fp pins => (pq 0)))  (zg (zo 4 XX.nd (zE zb))  (zg (zo 5 XX.nd zc)  (zB (qc qH rfl (zW (zj (pq 0) rfl)) (zZ 6 XX.nd)  (zg (zo 7 XX.nd (zE zb))  (zB (qc qH rfl (wG (za (zj (pq 6) rfl) zb)) (zZ 8 XX.nd)  (zg (zo 9 XX.nd (zx ⟨rfl, rfl, rfl⟩ hr (za (pq 1) (za (pq 5) zb))))  (zg (zb1 (i := 5) XX.nd rfl (Or.inl rfl) zc Jw)  (ze (zL (zw (qx hr.units1) (zi zr (pq 9) zc) zc (zy _))  (ze (zl (z5 PySem.F.plainAttrs_list PySem.F.slot_list_append PySem.F.type_list_append zu (pq 7) (za jV zb))))  (zg (zo 10 XX.nd (zF (pq 3) (zi zr (zi zH (pq 9) zc) (zC zO zN (za (pq 3) zb)))))  (zg (zl (z5 PySem.F.plainAttrs_list PySem.F.slot_list_append PySem.F.type_list_append zu (pq 7) (za (ZL (za (pq 10) (za (zF (pq 2) (pq 10)) zb))) zb)))  (ze (Ji (pq 2) (pq 10) Z4 (zi zM zc (zi zr (zi zH (pq 9) zc) zc)) Jw jP)))))))))  (ze (zl (z5 PySem.F.plainAttrs_list PySem.F.slot_list_append PySem.F.type_list_append zu (pq 4) (za (pq 7) zb)))))))  (ze (zA (pq 4))))))), ?_⟩
 walk_at "go"
 walk_at "lc"
 walk_at "go"
 refine ra (s0 _ _ hy) T.C_Work T.N_Work_knots e2 (iE2 l2 _ (iA3 rfl (s0 _ _ h2) (fun _ _ _ _ S hSn => ?_)))
 let M1_ : Nat → St → Hp → Prop := fun i σ H' => ∃ (v0 v1 : Option V), σ = [v0, v1] ∧ Same H H' ∧ H' S = some (.lst (iv (qB .source rs i)))
 refine xX (K := K) (a := l2) (xs := kvs) M1_ (iE2 _ _ (iA3 rfl (zd hSn) upd_same)) (fun i σ H' _ h => by obtain ⟨_, _, _, s, _⟩ := h; exact SqL.of (s _ _ (s0 _ _ h2))) ?_ ?_
 ·intro i x t σ H' hi ht zz_
  refine oE2 zz_ fun v0 v1 z1_ => oA3 z1_ fun z2_ s7 e1' => ?_
  clear zz_
  subst z2_
  obtain ⟨r, hr', hKn⟩ := hK.at hi
  refine oE6 hKn.inv fun y1 dx1 m1 m2 m3 fs1 z1_ => oA9 z1_ fun z2_ _ _ _ _ q0 _ _ z3_ => oA5 z3_ fun _ _ _ _ _ => ?_
  subst z2_
  have hil := (List.getElem?_eq_some_iff.mp hr').1
  have s8 := s7.trans (zd (o := .tup [.int i, .ref y1]) ht)
  have e8 := upd_keep (o := .tup [.int i, .ref y1]) e1' ht
  refine un2 upd_same ?_
  generalize upd H' t (.tup [.int i, .ref y1]) = H8 at s8 e8 ⊢
  walk_at "go"
  refine iE2 (.ref a.Source) _ (iA3 T.g_Source rfl (iE4 _ _ _ _ (iA4 rfl ((WT T r.wd).ty (CT T r.wd) (s8 _ _ (s0 _ _ q0))) (.inl ⟨_, rfl, Qx T r.wd⟩) ?_)))
  walk_at "go"
  refine zR (fun b => ?_) (fun b => ?_)
  ·refine ⟨_, iA3 e8 (zh (by have := qJ .source rs i; rw [zk]; omega)) (iE2 _ _ (iA3 rfl (fun b o hb => by rw [upd_ne (ne_of_none hb hSn)]; exact s8 b o hb) ?_))⟩
   rw [upd_same, z9 hr', if_pos b, z3]
  ·exact iE2 _ _ (iA3 rfl s8 (by rw [z9 hr', if_neg b, List.append_nil]; exact e8))
 intro σ H1 zz_
 refine oE2 zz_ fun v0 v1 z1_ => oA3 z1_ fun z2_ s1 ha => ?_
 clear zz_
 subst z2_
 rw [hK.len] at ha
 have ha : H1 S = some (.lst (iv (zp .source rs))) := ha
 walk_at "go"
 intro C hC
 have s2 := s1.trans (zd (o := .lst []) hC)
 have s02 := s0.trans s2
 have hg2 := s2 _ _ hg
 have hS2 := upd_keep (o := .lst []) ha hC
 have hC2 : upd H1 C (.lst []) C = some (.lst []) := upd_same
 have C0 : H0 C = none := zD (s0.trans s1) hC
 have nSC : S ≠ C := ne_of_none ha hC
 have nSg : S ≠ g := (ne_of_none hg hSn).symm
 have ngC : g ≠ C := ne_of_none (s1 _ _ hg) hC
 have n0 : ∀ m ∈ [g, C], H0 m = none := fun m hm => by
  simp only [List.mem_cons, List.not_mem_nil, or_false] at hm
  rcases hm with rfl | rfl
  ·exact g0
  ·exact C0
 have oS : S ∉ [g, C] := by simp [nSg, nSC]
 generalize upd H1 C (.lst []) = H2 at s2 s02 hg2 hS2 hC2 ⊢
 clear hg ha s1 s2 hC hSn
 walk_at "go"
 let M2_ : St → Hp → Prop := fun σ' H' => ∃ (v5 v6 v7 v8 v9 v10 : Option V) (us : List V) (gs : List Int) (css : List (List qS)), σ' = JD yw l g S C v5 v6 v7 v8 v9 v10 ∧ Fr [g, C] H2 H' ∧ H' g = some (.lst (iv gs)) ∧ gs.length = rs.length ∧ H' C = some (.lst us) ∧ Reps H' (Off [g, C]) us ((zn css).map D.lst) ∧ jl bs rs css
 refine cut M2_ ?_ ?_
 ·walk_at "for"
  walk_at "go"
  refine ra (s02 _ _ hy) T.C_Work T.N_Work_belts e1 ⟨l1, rfl, .inl ⟨⟨_, SqL.of (s02 _ _ h1)⟩, ?_⟩⟩
  let M3_ : Nat → St → Hp → Prop := fun i σ H' => ∃ (sp : Nat) (v6 v7 v8 v9 v10 : Option V) (us : List V) (gs : List Int) (css : List (List qS)), σ = JD yw l g S C (some (.int sp)) v6 v7 v8 v9 v10 ∧ sp ≤ 6 * i ∧ Fr [g, C] H2 H' ∧ H' g = some (.lst (iv gs)) ∧ gs.length = rs.length ∧ H' C = some (.lst us) ∧ Reps H' (Off [g, C]) us ((zn css).map D.lst) ∧ jl (bs.take i) rs css
  refine qg (K := K) (a := l1) (xs := bvs) M3_ (iE5 0 _ _ _ _ (iE4 _ ([]) gs ([]) (iA8 rfl (by omega) Fr.refl hg2 lg hC2 (.nil) QQ))) (fun i σ H' _ h => by obtain ⟨_, _, _, _, _, _, _, _, _, _, _, f, _⟩ := h; exact SqL.of (frS s02 f n0 _ _ h1)) ?_ ?_
  ·intro i x σ H3 hi zz_
   refine oE5 zz_ fun sp v6 v7 v8 v9 z1_ => oE4 z1_ fun v10 us gs css z2_ => oA8 z2_ fun z3_ hsp f3 hg3 lg3 hC3 ru3 co => ?_
   clear zz_
   subst z3_
   obtain ⟨b, hb', hBt⟩ := hB.at hi
   refine oE3 hBt.inv fun y1 dx1 fs1 z1_ => oA5 z1_ fun z2_ _ q0 f1 f2 => ?_
   subst z2_
   have hil := (List.getElem?_eq_some_iff.mp hb').1
   have bk := bo b (List.mem_of_getElem? hb')
   have bk1 := bk.1
   have bk6 := bk.2.1
   have lus : us.length ≤ i := by rw [ru3.len, List.length_map, List.length_map, co.1, List.length_take]; omega
   walk_at "go"
   intro Ln hLn
   have sL := zd (o := .lst []) hLn
   have L2n : H2 Ln = none := by
    cases e : H2 Ln with
    | none => rfl
    | some o =>
     by_cases z : Ln ∈ [g, C]
     ·simp only [List.mem_cons, List.not_mem_nil, or_false] at z
      rcases z with rfl | rfl
      ·rw [hg3] at hLn; cases hLn
      ·rw [hC3] at hLn; cases hLn
     ·rw [f3 _ _ z e] at hLn; cases hLn
   have nLg : Ln ≠ g := (ne_of_none hg3 hLn).symm
   have nLC : Ln ≠ C := (ne_of_none hC3 hLn).symm
   have ru4 : Reps (upd H3 Ln (.lst [])) (Off [g, C, Ln]) us ((zn css).map D.lst) := (ru3.more (ns := [g, C, Ln]) fun b hb => by
    simp only [List.mem_cons, List.not_mem_nil, or_false] at hb
    rcases hb with rfl | rfl | rfl
    ·exact .inl (by simp)
    ·exact .inl (by simp)
    ·exact .inr hLn).same sL
   have f4 := f3.trans (Same.fr (ms := [g, C]) sL)
   have hg4 := sL _ _ hg3
   have hC4 := sL _ _ hC3
   have hL4 : upd H3 Ln (.lst []) Ln = some (.lst []) := upd_same
   generalize upd H3 Ln (.lst []) = H4 at f4 hg4 hC4 hL4 ru4 ⊢
   clear f3 hg3 hC3 ru3 sL hLn
   walk_at "go"
   let M4_ : St → Hp → Prop := fun σ' H' => ∃ (sp : Nat) (v8 v9 v10 : Option V) (ws : List V) (gs : List Int) (c : List qS), σ' = JD yw l g S C (some (.int sp)) (some (.ref y1)) (some (.ref Ln)) v8 v9 v10 ∧ sp ≤ 6 * i + 6 ∧ Fr [g, C] H2 H' ∧ H' g = some (.lst (iv gs)) ∧ gs.length = rs.length ∧ H' C = some (.lst us) ∧ Reps H' (Off [g, C, Ln]) us ((zn css).map D.lst) ∧ H' Ln = some (.lst ws) ∧ Reps H' (Off [g, C, Ln]) ws (c.map z8) ∧ c.length = b.1.toNat ∧ ∀ x ∈ c, qy rs x
   refine cut M4_ ?_ ?_
   ·walk_at "for"
    walk_at "go"
    refine ra (frS s02 f4 n0 _ _ q0) T.C_Belt T.N_Belt_room f1 ?_
    walk_at "go"
    refine ⟨by omega, by omega, ?_⟩
    let M5_ : Nat → St → Hp → Prop := fun j σ H' => ∃ (v8 v9 v10 : Option V) (ws : List V) (gs : List Int) (c : List qS), σ = JD yw l g S C (some (.int ((sp + j : Nat) : Int))) (some (.ref y1)) (some (.ref Ln)) v8 v9 v10 ∧ Fr [g, C] H2 H' ∧ H' g = some (.lst (iv gs)) ∧ gs.length = rs.length ∧ H' C = some (.lst us) ∧ Reps H' (Off [g, C, Ln]) us ((zn css).map D.lst) ∧ H' Ln = some (.lst ws) ∧ Reps H' (Off [g, C, Ln]) ws (c.map z8) ∧ c.length = j ∧ ∀ x ∈ c, qy rs x
    refine Z5 (n := b.1.toNat) M5_ (iE6 _ _ _ ([]) gs ([]) (iA6 rfl f4 hg4 lg3 hC4 (iA5 ru4 hL4 (.nil) rfl (by simp)))) ?_ ?_
    ·clear f4 hg4 hC4 hL4 ru4
     intro j σ H5 hj zz_
     refine oE6 zz_ fun v8 v9 v10 ws gs c z1_ => oA6 z1_ fun z2_ f5 hg5 lg5 hC5 z3_ => oA5 z3_ fun ru5 hL5 rw5 lc wk => ?_
     clear zz_
     subst z2_
     have s5 := frS s02 f5 n0
     have lw : ws.length = j := by rw [rw5.len, List.length_map, lc]
     walk_at "go"
     refine uc (xo T).mono (iE3 l ns (sp + j) (iA4 rfl (qD s5 hl) (by omega) (fun sd d0 d1 => ?_)))
     walk_at "go"
     have e : ((sp + j : Nat) : Int) + 1 = ((sp + (j + 1) : Nat) : Int) := by omega
     rw [e]
     refine zR (fun _ => ?_) (fun _ => ?_)
     ·have fm : Fr [g, C, Ln] H5 (upd H5 Ln (.lst (ws ++ [.non]))) := qq (by simp)
      walk_at "go"
      refine ⟨.inl ⟨rfl, _, SqL.of hL5⟩, iE3 Ln _ _ (iA5 rfl rfl hL5 (zh (by omega)) ?_)⟩
      refine iE6 _ _ _ _ gs (c ++ [none]) (iA6 rfl (WP f5 L2n) (by rw [upd_ne nLg.symm]; exact hg5) lg5 (by rw [upd_ne nLC.symm]; exact hC5) (iA5 (ru5.fr fm) upd_same ?_ (by simp [lc]) (fun x hx => ?_)))
      ·rw [List.map_append]
       exact (rw5.fr fm).append (.one .non)
      ·rcases List.mem_append.mp hx with hx | hx
       ·exact wk x hx
       ·rw [List.mem_singleton.mp hx]
        intro s n z
        cases z
     have hS5 := f5 _ _ oS hS2
     walk_at "go"
     refine ⟨fd_ok (by decide) (by decide +kernel), ?_⟩
     walk_at "go"
     refine ⟨_, .inl ⟨_, SqL.of hS5, rfl⟩, ?_⟩
     rw [zk]
     walk_at "go"
     have sl : (0 : Int) < (zp .source rs).length := by omega
     refine ⟨sl, ?_⟩
     have v0 := Int.emod_nonneg (sd / 3) (show ((zp .source rs).length : Int) ≠ 0 by omega)
     have v1 := Int.emod_lt_of_pos (sd / 3) sl
     generalize sd / 3 % ((zp .source rs).length : Int) = jj at v0 v1 ⊢
     obtain ⟨sv, hsv⟩ : ∃ y, (zp .source rs)[jj.toNat]? = some y := ⟨(zp .source rs)[jj.toNat]'(by omega), List.getElem?_eq_getElem _⟩
     refine oE2 (xk (List.mem_of_getElem? hsv)) fun j0 r0 z1_ => oA3 z1_ fun z2_ hr0 hw0 => ?_
     subst z2_
     have hix : atI (iv (zp .source rs)) jj = some (.int j0) := by
      have := zK (jq hsv)
      rw [show ((jj.toNat : Nat) : Int) = jj by omega] at this
      exact this
     refine zz (SqL.of hS5) hix ?_
     have hj0 := (List.getElem?_eq_some_iff.mp hr0).1
     obtain ⟨gj, hgj⟩ : ∃ y, gs[j0]? = some y := ⟨gs[j0]'(by omega), List.getElem?_eq_getElem _⟩
     walk_at "go"
     refine ⟨.inl ⟨rfl, _, SqL.of hL5⟩, zz (SqL.of hg5) (zK (jq hgj)) ?_⟩
     walk_at "go"
     intro tw htw
     have st := zd (o := .tup [.int j0, .int gj]) htw
     have hw6 : upd H5 tw (.tup [.int j0, .int gj]) tw = some (.tup [.int j0, .int gj]) := upd_same
     have f6 := f5.trans (Same.fr (ms := [g, C]) st)
     have hg6 := st _ _ hg5
     have hC6 := st _ _ hC5
     have hL6 := st _ _ hL5
     have ru6 := ru5.same st
     have rw6 := rw5.same st
     have oT : Off [g, C, Ln] tw := fun z => by
      simp only [List.mem_cons, List.not_mem_nil, or_false] at z
      rcases z with rfl | rfl | rfl
      ·rw [hg5] at htw; cases htw
      ·rw [hC5] at htw; cases htw
      ·rw [hL5] at htw; cases htw
     generalize upd H5 tw (.tup [.int j0, .int gj]) = H6 at hw6 f6 hg6 hC6 hL6 ru6 rw6 ⊢
     clear f5 hg5 hC5 hL5 ru5 rw5 st htw hS5 s5
     refine iE3 Ln _ _ (iA5 rfl rfl hL6 (zh (by omega)) ?_)
     have fm : Fr [g, C, Ln] H6 (upd H6 Ln (.lst (ws ++ [.ref tw]))) := qq (by simp)
     have f7 : Fr [g, C] H2 (upd H6 Ln (.lst (ws ++ [.ref tw]))) := WP f6 L2n
     have hg7 : upd H6 Ln (.lst (ws ++ [.ref tw])) g = some (.lst (iv gs)) := by rw [upd_ne nLg.symm]; exact hg6
     have hC7 : upd H6 Ln (.lst (ws ++ [.ref tw])) C = some (.lst us) := by rw [upd_ne nLC.symm]; exact hC6
     have hL7 : upd H6 Ln (.lst (ws ++ [.ref tw])) Ln = some (.lst (ws ++ [.ref tw])) := upd_same
     have ru7 := ru6.fr fm
     have rw7 : Reps (upd H6 Ln (.lst (ws ++ [.ref tw]))) (Off [g, C, Ln]) (ws ++ [.ref tw]) ((c ++ [some ((j0 : Int), gj)]).map z8) := by
      rw [List.map_append]
      exact (rw6.append (.one (Reps.mkT (vs := [.int j0, .int gj]) (.cons .int (.cons .int .nil)) oT hw6))).fr fm
     generalize upd H6 Ln (.lst (ws ++ [.ref tw])) = H7 at f7 hg7 hC7 hL7 ru7 rw7 ⊢
     clear f6 hg6 hC6 hL6 ru6 rw6 fm hw6
     walk_at "go"
     unfold WA
     walk_at "go"
     refine iE4 g _ (j0 : Int) _ (iA6 rfl rfl (SqL.of hg7) (by omega) (zK (jq hgj)) ?_)
     walk_at "go"
     refine ⟨fd_ok (by decide) (by decide +kernel), ?_⟩
     walk_at "go"
     refine xz hg7 (wL (by omega) (by rw [zk]; omega)) ?_
     rw [Int.toNat_natCast, Wj]
     generalize gj + (1 + sd / 48 % 3) = gz
     have fg : Fr [g, C, Ln] H7 (upd H7 g (.lst (iv (gs.set j0 gz)))) := qq (by simp)
     refine iE6 _ _ _ _ (gs.set j0 gz) _ (iA6 rfl (f7.trans (qq (by simp))) upd_same (by rw [List.length_set]; exact lg5) (by rw [upd_ne ngC.symm]; exact hC7) (iA5 (ru7.fr fg) (by rw [upd_ne nLg]; exact hL7) (rw7.fr fg) (by simp [lc]) (fun x hx => ?_)))
     rcases List.mem_append.mp hx with hx | hx
     ·exact wk x hx
     ·rw [List.mem_singleton.mp hx]
      intro s n z
      cases z
      exact iE2 j0 r0 (iA4 rfl hr0 hw0 trivial)
    ·intro σ H5 zz_
     refine oE6 zz_ fun v8 v9 v10 ws gs c z1_ => oA6 z1_ fun z2_ f5 hg5 lg5 hC5 z3_ => oA5 z3_ fun ru5 hL5 rw5 lc wk => ?_
     clear zz_
     subst z2_
     exact iE7 _ _ _ _ ws gs c (iA9 rfl (by omega) f5 hg5 lg5 hC5 ru5 hL5 (iA3 rw5 lc wk))
   clear f4 hg4 hC4 hL4 ru4
   intro σ' H5 zz_
   refine oE7 zz_ fun sp2 v8 v9 v10 ws gs c z1_ => oA9 z1_ fun z2_ hsp2 f5 hg5 lg5 hC5 ru5 hL5 z3_ => oA3 z3_ fun rw5 lc wk => ?_
   clear zz_
   subst z2_
   have fm : Fr [g, C] H5 (upd H5 C (.lst (us ++ [.ref Ln]))) := qq (by simp)
   have lo : ∀ b ∈ [g, C], b ∈ [g, C, Ln] ∨ H5 b = none := fun b hb => .inl (by simp only [List.mem_cons, List.not_mem_nil, or_false] at hb ⊢; exact hb.imp id .inl)
   walk_at "go"
   refine ⟨.inl ⟨rfl, _, SqL.of hC5⟩, iE3 C _ _ (iA5 rfl rfl hC5 (zh (by omega)) ?_)⟩
   refine iE5 sp2 _ _ _ _ (iE4 _ _ gs (css ++ [c]) (iA8 rfl (by omega) (f5.trans fm) (by rw [upd_ne ngC]; exact hg5) lg5 upd_same ?_ ?_))
   ·rw [show (zn (css ++ [c])).map D.lst = (zn css).map D.lst ++ [.lst (c.map z8)] by simp [zn]]
    exact ((ru5.more lo).append (.one ((rw5.more lo).mk' (by simp [Off, nLg, nLC]) hL5))).fr fm
   ·rw [List.take_add_one, hb']
    exact Qa co lc wk
  ·intro σ H4 zz_
   refine oE5 zz_ fun sp v6 v7 v8 v9 z1_ => oE4 z1_ fun v10 us gs css z2_ => oA8 z2_ fun z3_ hsp f3 hg3 lg3 hC3 ru3 co => ?_
   clear zz_
   subst z3_
   rw [hB.len, List.take_length] at co
   exact iE5 _ _ _ _ _ (iE4 _ us gs css (iA7 rfl f3 hg3 lg3 hC3 ru3 co))
 intro σ' H4 zz_
 refine oE5 zz_ fun v5 v6 v7 v8 v9 z1_ => oE4 z1_ fun v10 us gs css z2_ => oA7 z2_ fun z3_ f3 hg3 lg3 hC3 ru3 co => ?_
 clear zz_
 subst z3_
 walk_at "go"
 exact k C css gs H4 (frS s02 f3 n0) hg3 lg3 (ru3.all.mk' (fun z => nomatch z) hC3) co
theorem V5 (T : Txt K mg a) : Cal P w K mg base "_law_cells" 3 ["_law_work_here", "_law_script", "_law_given"] [] (WF K a) := T.h_L_cells.cal (Wa T)
theorem QO {rs : List Row} {gss : List (List Int)} {r : Row} {g : List Int} (h : j8 rs gss) (l : g.length = (jF r).length) : j8 (rs ++ [r]) (gss ++ [g]) := by
 refine ⟨by simp [h.1], fun j b2 c2 e1 e2 => ?_⟩
 by_cases hj : j < gss.length
 ·rw [List.getElem?_append_left hj] at e2
  rw [List.getElem?_append_left (by rw [← h.1]; exact hj)] at e1
  exact h.2 j b2 c2 e1 e2
 ·rw [List.getElem?_append_right (by omega)] at e2
  rw [List.getElem?_append_right (by rw [← h.1]; omega), ← h.1] at e1
  have j0 : j - gss.length = 0 := by have := (List.getElem?_eq_some_iff.mp e2).1; simp at this; omega
  rw [j0] at e1 e2
  have e1 : r = b2 := by simpa using e1
  have e2 : g = c2 := by simpa using e2
  subst e1 e2
  exact ⟨l, trivial⟩
theorem Xt : j8 [] [] := ⟨rfl, fun _ _ _ h => by simp at h⟩
theorem zaf {r : Row} (ok : r.ok) (h : r.wd = .source) : (jF r).length = 1 := by
 rw [vk]
 unfold Row.ok at ok
 rw [h] at ok
 obtain ⟨h1, ⟨o, h2⟩, _⟩ := ok
 rw [h1, h2]
 rfl
abbrev Jt (y l g C S G : Addr) (v6 v7 v8 v9 v10 : Option V) : St := [some (.ref y), some (.ref l), some (.ref g), some (.ref C), some (.ref S), some (.ref G), v6, v7, v8, v9, v10]
def XO (K : PySem.W.Frag) (a : Ad) : Sp := fun vs H Q _ => ∃ (vw : V) (l : Addr) (ns : List Int) (bs : List (Int × Int)) (rs : List Row), vs = [vw, .ref l] ∧ Rep H (Off []) vw (qp a bs rs) ∧ SqL K H l (iv ns) ∧ bs.length ≤ 24 ∧ rs.length ≤ 24 ∧ (∀ b ∈ bs, zP b.1 b.2) ∧ (∀ r ∈ rs, r.ok) ∧ HasS rs ∧ ∀ y n st H', Same H H' → StO a H' y n st → stWf bs rs st → Q (.ref y) H'
theorem zaU {K : PySem.W.Frag} {a : Ad} {vs : List V} {H : Hp} {Q : VK} {E : XK} (vw : V) (l : Addr) (ns : List Int) (bs : List (Int × Int)) (rs : List Row) (q0 : vs = [vw, .ref l]) (q1 : Rep H (Off []) vw (qp a bs rs)) (q2 : SqL K H l (iv ns)) (q3 : bs.length ≤ 24) (q4 : rs.length ≤ 24) (q5 : (∀ b ∈ bs, zP b.1 b.2)) (q6 : (∀ r ∈ rs, r.ok)) (q7 : HasS rs) (q8 : ∀ y n st H', Same H H' → StO a H' y n st → stWf bs rs st → Q (.ref y) H') : XO K a vs H Q E := ⟨vw, l, ns, bs, rs, q0, q1, q2, q3, q4, q5, q6, q7, q8⟩
theorem VB (T : Txt K mg a) (F : Fun K "_law_made" "_law_made" xf f fd) : FnOk P w K mg base (CXr P w) 4 f fd ["_law_work_here", "_law_script"] (XO K a) := by
 refine F.okx Vk ?_ ?_
 ·walk_at "i"
 walk_at "j"
 refine oE5 h fun vw l ns bs rs z1_ => oA9 z1_ fun z2_ hw hl b24 r24 bo ro hS k => ?_
 clear h
 subst z2_
 refine oE7 (qj hw) fun yw dx fs l1 l2 bvs kvs z1_ => oA9 z1_ fun z2_ hy e1 e2 h1 h2 hB hK no => ?_
 subst z2_
 have lK := hK.len
 walk_at "T"
 refine ⟨_, (zg (xS (i := 2) Vk.nd rfl (Or.inl rfl) (vars := ["_law_k"]) (caps := [1]) (N := ["_law_k", "_law_script"]) (ON := ["_law_work_here", "_law_script", "_law_given", "_law_cells_here", "_law_sides", "_law_gone", "_law_k", "_law_knot", "_law_number", "_law_many", "_law_counts"]) (osc := zf xf) rfl rfl (by first | decide +kernel | kernel_rfl) rfl rfl (wG (za (zC zO zN (za (zj (pq 0) rfl) zb)) zb)) (fun s H fp pins => (zZ 0 (show (["_law_k", "_law_script"] : List Str).Nodup from by decide +kernel))) (fun s H fp pins => z6) (fun s H fp pins => (zi zH (vF hr (za (pq 1) (za (zi wH zc zc) zb))) (zi zM (pq 0) zc))))  (zg (zo 3 Vk.nd (zx ⟨rfl, rfl, rfl⟩ hr (za (pq 0) (za (pq 1) (za (pq 2) zb)))))  (zg (zo 4 Vk.nd (zE zb))  (zg (zo 5 Vk.nd (zE zb))  (zB (qc qH rfl (zY (za (zj (pq 0) rfl) zb)) (jU (n := 2) rfl (zQ (zZ 6 Vk.nd) (zQ (zZ 7 Vk.nd) jg)))  (zg (wF (i := 8) Vk.nd rfl (Or.inr rfl) (zx ⟨rfl, rfl, rfl⟩ hr (za (pq 1) (za (zi zM zc (pq 6)) zb))))  (zg (zo 9 Vk.nd (zC (wn rfl) JJ (za (zC zO zN (za (zj (pq 7) rfl) zb)) (za (zC zO zN (za (zj (pq 7) rfl) zb)) zb))))  (zB (zL (PW.pt (pw_or (zT (zC qC zt (za (pq 7) (za qG zb))) (fun _ => rfl)) (pw_or1 (zT (zC qC zt (za (pq 7) (za qG zb))) (fun _ => rfl)))))  (ze (zl (z5 PySem.F.plainAttrs_list PySem.F.slot_list_append PySem.F.type_list_append zu (pq 4) (za (zi zr (pq 8) (pq 9)) zb))))  (ze (zl (z5 PySem.F.plainAttrs_list PySem.F.slot_list_append PySem.F.type_list_append zu (pq 4) (za zc zb)))))  (zg (xS (i := 10) Vk.nd rfl (Or.inl rfl) (vars := ["_law_b"]) (caps := [8]) (N := ["_law_b", "_law_number"]) (ON := ["_law_work_here", "_law_script", "_law_given", "_law_cells_here", "_law_sides", "_law_gone", "_law_k", "_law_knot", "_law_number", "_law_many", "_law_counts"]) (osc := zf xf) rfl rfl (by first | decide +kernel | kernel_rfl) rfl rfl (wG (za (pq 9) zb)) (fun s H fp pins => (zZ 0 (show (["_law_b", "_law_number"] : List Str).Nodup from by decide +kernel))) (fun s H fp pins => z6) (fun s H fp pins => (zi jE (pq 1) (zi zM (pq 0) zc))))  (zB (zL (zT (zC qC zt (za (pq 7) (za qG zb))) (fun _ => rfl))  (ze (zo 10 Vk.nd (zE (za (zF (pq 2) (pq 6)) zb))))  zq)  (ze (zl (z5 PySem.F.plainAttrs_list PySem.F.slot_list_append PySem.F.type_list_append zu (pq 5) (za (pq 10) zb))))))))))  (ze (zA (jm ⟨rfl, rfl, rfl⟩ hr (za (zx ⟨rfl, rfl, rfl⟩ hr (za (pq 1) (za (zi wH zc zc) zb))) (za (pq 3) (za (pq 4) (za (pq 5) zb)))))))))))), ?_⟩
 walk_at "go"
 walk_at "lc"
 walk_at "go"
 refine ra hy T.C_Work T.N_Work_knots e2 ⟨_, .inl ⟨_, SqL.of h2, rfl⟩, ?_⟩
 rw [lK]
 walk_at "go"
 refine ⟨by omega, by omega, fun _ _ _ _ g hg => ?_⟩
 let M1_ : Nat → St → Hp → Prop := fun i σ H' => ∃ (v0 : Option V) (gs : List Int), σ = [v0, some (.ref l)] ∧ Same H H' ∧ H' g = some (.lst (iv gs)) ∧ gs.length = i
 refine Z5 (n := ((rs.length : Nat) : Int).toNat) M1_ (iE2 _ ([]) (iA4 rfl (zd hg) upd_same rfl)) ?_ ?_
 ·intro i σ H1 hi zz_
  refine oE2 zz_ fun v0 gs z1_ => oA4 z1_ fun z2_ s1 hg1 lgs => ?_
  clear zz_
  subst z2_
  walk_at "go"
  refine uc (XF T).mono (iE3 l ns _ (iA4 rfl (qD s1 hl) (by decide) (fun m m0 => ?_)))
  walk_at "go"
  refine ⟨fd_small (by omega) (by omega), ⟨_, iA3 hg1 (zh (by rw [zk]; omega)) (iE2 _ (gs ++ [_]) (iA4 rfl (fun b o hb => by rw [upd_ne (ne_of_none hb hg)]; exact s1 b o hb) (by rw [upd_same, z3]) (by simp [lgs])))⟩⟩
 intro σ H1 zz_
 refine oE2 zz_ fun v0 gs z1_ => oA4 z1_ fun z2_ s1 hg1 lgs => ?_
 clear zz_
 subst z2_
 walk_at "go"
 refine uc (V5 T).mono (iE8 (.ref yw) l g ns gs bs rs H (iA9 rfl s1 hg hw hl hg1 (by omega) b24 (iA4 r24 bo hS (fun C css gs' H2 s2 hg2 lg2 rC co => ?_))))
 clear hg1 lgs s1
 walk_at "go"
 intro S hSn
 walk_at "go"
 intro G hGn
 have nSG : S ≠ G := ne_of_none upd_same hGn
 have s3 := (zd (o := .lst []) hSn).trans (zd (o := .lst []) hGn)
 have n2 : ∀ m ∈ [S, G], H2 m = none := fun m hm => by
  simp only [List.mem_cons, List.not_mem_nil, or_false] at hm
  rcases hm with rfl | rfl
  ·exact hSn
  ·exact zI hGn
 have n0 : ∀ m ∈ [S, G], H m = none := fun m hm => zD s2 (n2 m hm)
 have rC3 := rC.ahead s3 n2
 have hg3 := s3 _ _ hg2
 have ogS : g ∉ [S, G] := fun z => by rw [n2 g z] at hg2; cases hg2
 have hS3 : upd (upd H2 S (.lst [])) G (.lst []) S = some (.lst []) := by rw [upd_ne nSG]; exact upd_same
 have hG3 : upd (upd H2 S (.lst [])) G (.lst []) G = some (.lst []) := upd_same
 have sH3 := s2.trans s3
 generalize upd (upd H2 S (.lst [])) G (.lst []) = H3 at s3 rC3 hg3 hS3 hG3 sH3 ⊢
 clear hSn hGn n2 rC hg2 s2 s3
 walk_at "go"
 let M2_ : St → Hp → Prop := fun σ' H' => ∃ (v6 v7 v8 v9 v10 : Option V) (us : List V) (sds : List Int) (gss : List (List Int)), σ' = Jt yw l g C S G v6 v7 v8 v9 v10 ∧ Fr [S, G] H3 H' ∧ H' S = some (.lst (iv sds)) ∧ sds.length = rs.length ∧ H' G = some (.lst us) ∧ Reps H' (Off [S, G]) us ((qf gss).map D.lst) ∧ j8 rs gss
 refine cut M2_ ?_ ?_
 ·walk_at "for"
  walk_at "go"
  refine ra (sH3 _ _ hy) T.C_Work T.N_Work_knots e2 (iE2 l2 _ (iA3 rfl (sH3 _ _ h2) ?_))
  let M3_ : Nat → St → Hp → Prop := fun i σ H' => ∃ (v6 v7 v8 v9 v10 : Option V) (us : List V) (sds : List Int) (gss : List (List Int)), σ = Jt yw l g C S G v6 v7 v8 v9 v10 ∧ Fr [S, G] H3 H' ∧ H' S = some (.lst (iv sds)) ∧ sds.length = i ∧ H' G = some (.lst us) ∧ Reps H' (Off [S, G]) us ((qf gss).map D.lst) ∧ j8 (rs.take i) gss
  refine xX (K := K) (a := l2) (xs := kvs) M3_ (iE8 _ _ _ _ _ ([]) ([]) ([]) (iA7 rfl Fr.refl hS3 rfl hG3 (.nil) Xt)) (fun i σ H' _ h => by obtain ⟨_, _, _, _, _, _, _, _, _, f, _⟩ := h; exact SqL.of (frS sH3 f n0 _ _ h2)) ?_ ?_
  ·intro i x t σ H4 hi ht zz_
   refine oE8 zz_ fun v6 v7 v8 v9 v10 us sds gss z1_ => oA7 z1_ fun z2_ f4 hS4 ls4 hG4 ru4 go4 => ?_
   clear zz_
   subst z2_
   obtain ⟨r, hr', hKn⟩ := hK.at hi
   refine oE6 hKn.inv fun y1 dx1 m1 m2 m3 fs1 z1_ => oA9 z1_ fun z2_ _ _ _ _ q0 qa qb z3_ => oA5 z3_ fun _ qi qo _ _ => ?_
   subst z2_
   have hil := (List.getElem?_eq_some_iff.mp hr').1
   have ok := ro r (List.mem_of_getElem? hr')
   have cl := vk r
   have cp := jB ok
   have lu : us.length ≤ i := by rw [ru4.len, List.length_map, List.length_map, go4.1, List.length_take]; omega
   have st := zd (o := .tup [.int i, .ref y1]) ht
   refine un2 upd_same ?_
   have f5 := f4.trans (Same.fr (ms := [S, G]) st)
   have hS5 := st _ _ hS4
   have hG5 := st _ _ hG4
   have ru5 := ru4.same st
   generalize upd H4 t (.tup [.int i, .ref y1]) = H5 at f5 hS5 hG5 ru5 ⊢
   clear f4 hS4 hG4 ru4 st ht
   have s5 := frS sH3 f5 n0
   walk_at "go"
   refine uc (xo T).mono (iE3 l ns (1000 + i) (iA4 (by simp) (qD s5 hl) (by omega) (fun nu nu0 nu1 => ?_)))
   walk_at "go"
   refine ra (s5 _ _ q0) (CT T _) (NI T _) qa ⟨_, iA3 (.inl ⟨_, SqL.of (s5 _ _ qi), rfl⟩) m_len (iE5 y1 (jr a r.wd) dx1 fs1 _ (iA6 rfl (s5 _ _ q0) (CT T _) (NO T _) qb ⟨_, ⟨.inl ⟨_, SqL.of (s5 _ _ qo), rfl⟩, iE2 _ _ ⟨rfl, ?_⟩⟩⟩))⟩
   rw [zk, zk, zaI, ← cl]
   walk_at "go"
   let M4_ : St → Hp → Prop := fun σ' H' => ∃ sd : Int, σ' = Jt yw l g C S G (some (.int i)) (some (.ref y1)) (some (.int nu)) (some (.int ((jF r).length : Int))) v10 ∧ H' = upd H5 S (.lst (iv (sds ++ [sd])))
   refine cut M4_ ?_ ?_
   ·walk_at "go"
    refine iE2 (.ref a.Parter) _ (iA3 T.g_Parter rfl (iE4 _ _ _ _ (iA4 rfl ((WT T r.wd).ty (CT T r.wd) (s5 _ _ q0)) (.inl ⟨_, rfl, zcS T r.wd⟩) ?_)))
    walk_at "go"
    refine wm (C := r.wd = .joiner) (fun _ => ?_) (fun _ hp => ?_)
    ·walk_at "go"
     refine ⟨.inl ⟨rfl, _, SqL.of hS5⟩, by omega, S, _, _, rfl, rfl, hS5, zh (by rw [zk]; omega), nu % ((jF r).length : Int), rfl, ?_⟩
     rw [z3]
    walk_at "go"
    refine iE2 (.ref a.Joiner) _ (iA3 T.g_Joiner rfl (iE4 _ _ _ _ (iA4 rfl ((WT T r.wd).ty (CT T r.wd) (s5 _ _ q0)) (.inl ⟨_, rfl, zcT T r.wd⟩) ?_)))
    walk_at "go"
    refine zR (fun z => hp z) (fun _ => ?_)
    walk_at "go"
    refine ⟨.inl ⟨rfl, _, SqL.of hS5⟩, S, _, _, rfl, rfl, hS5, zh (by rw [zk]; omega), 0, rfl, ?_⟩
    rw [z3]
   rintro σ' H6 ⟨sd, rfl, rfl⟩
   have f6 : Fr [S, G] H3 (upd H5 S (.lst (iv (sds ++ [sd])))) := f5.trans (qq (by simp))
   have hS6 : upd H5 S (.lst (iv (sds ++ [sd]))) S = some (.lst (iv (sds ++ [sd]))) := upd_same
   have hG6 : upd H5 S (.lst (iv (sds ++ [sd]))) G = some (.lst us) := by rw [upd_ne nSG.symm]; exact hG5
   have ru6 := ru5.fr (qq (o := .lst (iv (sds ++ [sd]))) (x := S) (by simp))
   generalize upd H5 S (.lst (iv (sds ++ [sd]))) = H6 at f6 hS6 hG6 ru6 ⊢
   clear f5 hS5 hG5 ru5 s5
   have s6 := frS sH3 f6 n0
   walk_at "go"
   walk_at "lc"
   walk_at "go"
   refine ⟨by omega, by omega, fun _ _ _ _ Z hZ => ?_⟩
   let M5_ : Nat → St → Hp → Prop := fun j σ H' => ∃ (v0 : Option V) (cn : List Int), σ = [v0, some (.int nu)] ∧ Same H6 H' ∧ H' Z = some (.lst (iv cn)) ∧ cn.length = j
   refine Z5 (n := (((jF r).length : Nat) : Int).toNat) M5_ (iE2 _ ([]) (iA4 rfl (zd hZ) upd_same rfl)) ?_ ?_
   ·intro j σ H7 hj zz_
    refine oE2 zz_ fun v0 cn z1_ => oA4 z1_ fun z2_ s7 hZ7 lcn => ?_
    clear zz_
    subst z2_
    walk_at "go"
    refine ⟨mul_okR (by omega) (by omega), ⟨_, iA3 hZ7 (zh (by rw [zk]; omega)) (iE2 _ (cn ++ [_]) (iA4 rfl (fun b o hb => by rw [upd_ne (ne_of_none hb hZ)]; exact s7 b o hb) (by rw [upd_same, z3]) (by simp [lcn])))⟩⟩
   intro σ H7 zz_
   refine oE2 zz_ fun v0 cn z1_ => oA4 z1_ fun z2_ s7 hZ7 lcn => ?_
   clear zz_
   subst z2_
   walk_at "go"
   let M6_ : St → Hp → Prop := fun σ' H' => ∃ (Z : Addr) (cn : List Int), σ' = Jt yw l g C S G (some (.int i)) (some (.ref y1)) (some (.int nu)) (some (.int ((jF r).length : Int))) (some (.ref Z)) ∧ Same H6 H' ∧ H' Z = some (.lst (iv cn)) ∧ cn.length = (jF r).length ∧ H6 Z = none
   refine cut M6_ ?_ ?_
   ·walk_at "go"
    refine iE2 (.ref a.Source) _ (iA3 T.g_Source rfl (iE4 _ _ _ _ (iA4 rfl ((WT T r.wd).ty (CT T r.wd) (s7 _ _ (s6 _ _ q0))) (.inl ⟨_, rfl, Qx T r.wd⟩) ?_)))
    walk_at "go"
    refine zR (fun b => ?_) (fun b => (iE2 Z cn (iA5 rfl s7 hZ7 (by omega) hZ)))
    obtain ⟨gi, hgi⟩ : ∃ y, gs'[i]? = some y := ⟨gs'[i]'(by omega), List.getElem?_eq_getElem _⟩
    walk_at "go"
    refine zz (SqL.of (s7 _ _ (f6 _ _ ogS hg3))) (zK (jq hgi)) fun Z2 hZ2 => ?_
    walk_at "go"
    exact iE2 Z2 ([gi]) (iA5 rfl (s7.trans (zd hZ2)) upd_same (by rw [zaf ok b]; rfl) (zD s7 hZ2))
   clear hZ7 lcn s7 hZ
   intro σ' H8 zz_
   refine oE2 zz_ fun Z cn z1_ => oA5 z1_ fun z2_ s8 hZ8 lcn Z6 => ?_
   clear zz_
   subst z2_
   have fm : Fr [S, G] H8 (upd H8 G (.lst (us ++ [.ref Z]))) := qq (by simp)
   have oZ : Off [S, G] Z := fun z => by
    simp only [List.mem_cons, List.not_mem_nil, or_false] at z
    rcases z with rfl | rfl
    ·rw [hS6] at Z6; cases Z6
    ·rw [hG6] at Z6; cases Z6
   walk_at "go"
   refine ⟨.inl ⟨rfl, _, SqL.of (s8 _ _ hG6)⟩, iE3 G _ _ (iA5 rfl rfl (s8 _ _ hG6) (zh (by omega)) ?_)⟩
   refine iE8 _ _ _ _ _ (us ++ [.ref Z]) (sds ++ [sd]) (gss ++ [cn]) (iA7 rfl ((f6.trans s8.fr).trans fm) (by rw [upd_ne nSG]; exact s8 _ _ hS6) (by simp [ls4]) upd_same ?_ ?_)
   ·rw [show (qf (gss ++ [cn])).map D.lst = (qf gss).map D.lst ++ [.ints cn] by simp [qf]]
    exact ((ru6.same s8).append (.one (zX oZ hZ8))).fr fm
   ·rw [List.take_add_one, hr']
    exact QO go4 lcn
  ·intro σ H4 zz_
   refine oE8 zz_ fun v6 v7 v8 v9 v10 us sds gss z1_ => oA7 z1_ fun z2_ f4 hS4 ls4 hG4 ru4 go4 => ?_
   clear zz_
   subst z2_
   rw [lK] at ls4 go4
   rw [List.take_length] at go4
   exact iE8 _ _ _ _ _ us sds gss (iA7 rfl f4 hS4 ls4 hG4 ru4 go4)
 intro σ' H4 zz_
 refine oE8 zz_ fun v6 v7 v8 v9 v10 us sds gss z1_ => oA7 z1_ fun z2_ f4 hS4 ls4 hG4 ru4 go4 => ?_
 clear zz_
 subst z2_
 have s4 := frS sH3 f4 n0
 walk_at "go"
 refine iE4 a.State _ _ _ ⟨(Ju T).mono, iE3 _ _ _ ⟨(XF T).mono, ⟨l, ns, _, rfl, qD s4 hl, by decide, fun tn _ => ?_⟩⟩⟩
 refine ZU T (st := ⟨tn, css, sds, gss⟩) (rC3.fr f4).all (zX (p := Off []) (fun z => nomatch z) hS4) (ru4.all.mk' (fun z => nomatch z) hG4) (by show css.length ≤ 100; rw [co.1]; omega) (by show gss.length ≤ 100; rw [go4.1]; omega) fun y H5 s5 sn => ?_
 refine oE2 sn fun y' n z1_ => oA3 z1_ fun e so _ => ?_
 clear sn
 cases e
 exact k y n _ H5 (s4.trans s5) so ⟨co, go4, ls4⟩
theorem za9 (T : Txt K mg a) : Cal P w K mg base "_law_made" 4 ["_law_work_here", "_law_script"] [] (XO K a) := T.h_L_made.cal (VB T)
abbrev xt (y s l : Addr) (bt : Int) (Sp : Addr) (v5 v6 v7 v8 v9 v10 v11 : Option V) : St := [some (.ref y), some (.ref s), some (.ref l), some (.int bt), some (.ref Sp), v5, v6, v7, v8, v9, v10, v11]
def vy (K : PySem.W.Frag) (a : Ad) : Sp := fun vs H Q _ => ∃ (vw : V) (y l : Addr) (n : SN) (bt : Int) (ns : List Int) (bs : List (Int × Int)) (rs : List Row) (st : PSt), vs = [vw, .ref y, .ref l, .int bt] ∧ Rep H (Off []) vw (qp a bs rs) ∧ StO a H y n st ∧ stWf bs rs st ∧ SqL K H l (iv ns) ∧ bs.length ≤ 24 ∧ rs.length ≤ 24 ∧ (∀ b ∈ bs, zP b.1 b.2) ∧ (∀ r ∈ rs, r.ok) ∧ ∀ y n st H', Same H H' → StO a H' y n st → stWf bs rs st → Q (.ref y) H'
theorem Xs {K : PySem.W.Frag} {a : Ad} {vs : List V} {H : Hp} {Q : VK} {E : XK} (vw : V) (y l : Addr) (n : SN) (bt : Int) (ns : List Int) (bs : List (Int × Int)) (rs : List Row) (st : PSt) (q0 : vs = [vw, .ref y, .ref l, .int bt]) (q1 : Rep H (Off []) vw (qp a bs rs)) (q2 : StO a H y n st) (q3 : stWf bs rs st) (q4 : SqL K H l (iv ns)) (q5 : bs.length ≤ 24) (q6 : rs.length ≤ 24) (q7 : (∀ b ∈ bs, zP b.1 b.2)) (q8 : (∀ r ∈ rs, r.ok)) (q9 : ∀ y n st H', Same H H' → StO a H' y n st → stWf bs rs st → Q (.ref y) H') : vy K a vs H Q E := ⟨vw, y, l, n, bt, ns, bs, rs, st, q0, q1, q2, q3, q4, q5, q6, q7, q8, q9⟩
theorem Jo (T : Txt K mg a) (F : Fun K "_law_shifted" "_law_shifted" jc f fd) : FnOk P w K mg base (CXr P w) 3 f fd ["_law_work_here", "_law_state", "_law_script", "_law_beat_here"] (vy K a) := by
 refine F.okx Ja ?_ ?_
 ·walk_at "i"
 walk_at "j"
 refine oE5 h fun vw y l n bt z1_ => oE4 z1_ fun ns bs rs st z2_ => oA6 z2_ fun z3_ hw so wf hl z4_ => oA5 z4_ fun b24 r24 bo ro k => ?_
 clear h
 subst z3_
 refine oE7 (qj hw) fun yw dx fs l1 l2 bvs kvs z1_ => oA9 z1_ fun z2_ hy e1 e2 h1 h2 hB hK no => ?_
 subst z2_
 have lK := hK.len
 have lc : n.acs.length = st.cells.length := by rw [so.hc.len, zn, List.length_map]
 have lgn : n.ags.length = st.gone.length := by rw [so.hg.len, qf, List.length_map]
 have lcb : st.cells.length = bs.length := wf.co.1
 have lgr : st.gone.length = rs.length := wf.go.1
 walk_at "T"
 refine ⟨_, (zg (wF (i := 4) Ja.nd rfl (Or.inr rfl) (zE zb))  (zB (qc qH rfl (zY (za (zj (pq 0) rfl) zb)) (jU (n := 2) rfl (zQ (zZ 5 Ja.nd) (zQ (zZ 6 Ja.nd) jg)))  (zg (zl (z5 PySem.F.plainAttrs_list PySem.F.slot_list_append PySem.F.type_list_append zu (pq 4) (za zc zb)))  (ze (zL (zT (zC qC zt (za (pq 6) (za qG zb))) (fun _ => rfl))  (ze (Jj (zi jE (zi jE (zC zO zN (za (zj (pq 6) rfl) zb)) (zi zr (zx ⟨rfl, rfl, rfl⟩ hr (za (pq 2) (za (zi zM zc (pq 5)) zb))) (zi wH zc zc))) (zi zM zc (zi jE (pq 5) (zi wH zc zc)))) (Jk (pq 4) (pq 5) jP)))  zq))))  (zg (zo 7 Ja.nd (zE zb))  (zB (qc qH rfl (zW (zj (pq 1) rfl)) (zZ 8 Ja.nd)  (ze (zl (z5 PySem.F.plainAttrs_list PySem.F.slot_list_append PySem.F.type_list_append zu (pq 7) (za (j4 (vars := ["_law_ware"]) (caps := [4]) (N := ["_law_ware", "_law_steps"]) (ON := ["_law_work_here", "_law_state", "_law_script", "_law_beat_here", "_law_steps", "_law_k", "_law_knot", "_law_cells_here", "_law_row", "_law_gone", "_law_counts", "_law_more"]) (osc := zf jc) rfl rfl (by first | decide +kernel | kernel_rfl) rfl rfl (zW (pq 8)) (fun s H fp pins => (zZ 0 (show (["_law_ware", "_law_steps"] : List Str).Nodup from by decide +kernel))) (fun s H fp pins => z6) (fun s H fp pins => (J4 (zw X2 (pq 0) jV (zy _)) jV (ZL (za (zF (pq 0) zc) (za (zi zM (zF (pq 0) zc) (zF (pq 1) (zF (pq 0) zc))) zb)))))) zb)))))  (zg (zo 9 Ja.nd (zE zb))  (zB (qc qH rfl (zY (za (zj (pq 1) rfl) zb)) (jU (n := 2) rfl (zQ (zZ 5 Ja.nd) (zQ (zZ 10 Ja.nd) jg)))  (zg (wF (i := 11) Ja.nd rfl (Or.inr rfl) (zi zr (zx ⟨rfl, rfl, rfl⟩ hr (za (pq 2) (za (zi zM zc (pq 5)) zb))) zc))  (zB (zL (zT (zC qC zt (za (zF (zj (pq 0) rfl) (pq 5)) (za qG zb))) (fun _ => rfl))  (ze (wF (i := 11) Ja.nd rfl (Or.inr rfl) (zF (pq 4) (pq 5))))  zq)  (ze (zl (z5 PySem.F.plainAttrs_list PySem.F.slot_list_append PySem.F.type_list_append zu (pq 9) (za (j4 (vars := ["_law_count"]) (caps := [11]) (N := ["_law_count", "_law_more"]) (ON := ["_law_work_here", "_law_state", "_law_script", "_law_beat_here", "_law_steps", "_law_k", "_law_knot", "_law_cells_here", "_law_row", "_law_gone", "_law_counts", "_law_more"]) (osc := zf jc) rfl rfl (by first | decide +kernel | kernel_rfl) rfl rfl (zW (pq 10)) (fun s H fp pins => (zZ 0 (show (["_law_count", "_law_more"] : List Str).Nodup from by decide +kernel))) (fun s H fp pins => z6) (fun s H fp pins => (zi zM (pq 0) (pq 1)))) zb)))))))  (ze (zA (jm ⟨rfl, rfl, rfl⟩ hr (za (zi zM (zj (pq 1) rfl) (zi jE (pq 3) (zx ⟨rfl, rfl, rfl⟩ hr (za (pq 2) (za zc zb))))) (za (pq 7) (za (zj (pq 1) rfl) (za (pq 9) zb))))))))))))), ?_⟩
 walk_at "go"
 intro Sp hSn
 have s1 := zd (o := .lst []) hSn
 have hS1 : upd H Sp (.lst []) Sp = some (.lst (iv [])) := upd_same
 generalize upd H Sp (.lst []) = H1 at s1 hS1 ⊢
 walk_at "go"
 let M1_ : St → Hp → Prop := fun σ' H' => ∃ (v5 v6 : Option V) (sts : List Int), σ' = xt yw y l bt Sp v5 v6 none none none none none ∧ Same H H' ∧ H' Sp = some (.lst (iv sts)) ∧ sts.length = rs.length
 refine cut M1_ ?_ ?_
 ·walk_at "for"
  walk_at "go"
  refine ra (s1 _ _ hy) T.C_Work T.N_Work_knots e2 (iE2 l2 _ (iA3 rfl (s1 _ _ h2) ?_))
  let M2_ : Nat → St → Hp → Prop := fun i σ H' => ∃ (v5 v6 : Option V) (sts : List Int), σ = xt yw y l bt Sp v5 v6 none none none none none ∧ Same H H' ∧ H' Sp = some (.lst (iv sts)) ∧ sts.length = i
  refine xX (K := K) (a := l2) (xs := kvs) M2_ (iE3 _ _ ([]) (iA4 rfl s1 hS1 rfl)) (fun i σ H' _ h => by obtain ⟨_, _, _, _, s, _⟩ := h; exact SqL.of (s _ _ h2)) ?_ ?_
  ·clear s1 hS1
   intro i x t σ H4 hi ht zz_
   refine oE3 zz_ fun v5 v6 sts z1_ => oA4 z1_ fun z2_ s4 hS4 ls => ?_
   clear zz_
   subst z2_
   obtain ⟨r, hr', hKn⟩ := hK.at hi
   refine oE6 hKn.inv fun y1 dx1 m1 m2 m3 fs1 z1_ => oA9 z1_ fun z2_ _ _ _ _ q0 _ _ z3_ => oA5 z3_ fun _ _ _ g3 _ => ?_
   subst z2_
   have hil := (List.getElem?_eq_some_iff.mp hr').1
   have st' := zd (o := .tup [.int i, .ref y1]) ht
   refine un2 upd_same ?_
   have s5 := s4.trans st'
   have hS5 := st' _ _ hS4
   generalize upd H4 t (.tup [.int i, .ref y1]) = H5 at s5 hS5 ⊢
   clear s4 hS4 st' ht
   walk_at "go"
   refine ⟨.inl ⟨rfl, _, SqL.of hS5⟩, iE3 Sp _ _ (iA5 rfl rfl hS5 (zh (by rw [zk]; omega)) ?_)⟩
   rw [z3]
   have s6 : Same H (upd H5 Sp (.lst (iv (sts ++ [0])))) := fun b o hb => by rw [upd_ne (ne_of_none hb hSn)]; exact s5 b o hb
   have hS6 : upd H5 Sp (.lst (iv (sts ++ [0]))) Sp = some (.lst (iv (sts ++ [0]))) := upd_same
   generalize upd H5 Sp (.lst (iv (sts ++ [0]))) = H6 at s6 hS6 ⊢
   clear s5 hS5
   walk_at "go"
   refine iE2 (.ref a.Source) _ (iA3 T.g_Source rfl (iE4 _ _ _ _ (iA4 rfl ((WT T r.wd).ty (CT T r.wd) (s6 _ _ q0)) (.inl ⟨_, rfl, Qx T r.wd⟩) ?_)))
   walk_at "go"
   refine zR (fun b => ?_) (fun b => (iE3 _ _ _ (iA4 rfl s6 hS6 (by simp [ls]))))
   obtain ⟨g3a, g3b⟩ := g3 b
   have k6 : r.kinds.length ≤ 6 := by
    have ok := ro r (List.mem_of_getElem? hr')
    unfold Row.ok at ok
    rw [b] at ok
    exact ok.2.2.2.2.2.1
   walk_at "go"
   refine iE5 y1 (jr a r.wd) dx1 fs1 _ (iA6 rfl (s6 _ _ q0) (CT T _) (by rw [b]; exact T.N_Source_kinds) g3a ⟨_, ⟨.inl ⟨_, SqL.of (s6 _ _ g3b), rfl⟩, ?_⟩⟩)
   rw [zk]
   refine uc (xo T).mono (iE3 l ns (2000 + i) (iA4 (by simp) (qD s6 hl) (by omega) (fun dn d0 d1 => ?_)))
   walk_at "go"
   have z0 := Int.emod_nonneg dn (show (1000000000 : Int) ≠ 0 by decide)
   have z1 := Int.emod_lt_of_pos dn (show (0 : Int) < 1000000000 by decide)
   generalize dn % 1000000000 = dz at z0 z1 ⊢
   obtain ⟨p0, p1⟩ := Vs (x := (r.kinds.length : Int)) (y := dz) (m := 7) (n := 1000000000) (by omega) z0 (by omega) z1
   refine iA4 (mul_okR (by omega) (by omega)) (mul_okL (by omega) (by omega)) (mul_okL (by omega) (by omega)) ?_
   refine xz hS6 (wL (by omega) (by rw [zk]; simp; omega)) ?_
   rw [Int.toNat_natCast, Wj]
   exact iE3 _ _ _ (iA4 rfl (fun b o hb => by rw [upd_ne (ne_of_none hb hSn)]; exact s6 b o hb) upd_same (by simp [ls]))
  ·intro σ H4 zz_
   refine oE3 zz_ fun v5 v6 sts z1_ => oA4 z1_ fun z2_ s4 hS4 ls => ?_
   clear zz_
   subst z2_
   exact iE3 _ _ sts (iA4 rfl s4 hS4 (by omega))
 clear s1 hS1 hSn
 intro σ' H1 zz_
 refine oE3 zz_ fun v5 v6 sts z1_ => oA4 z1_ fun z2_ s1 hS1 lst => ?_
 clear zz_
 subst z2_
 walk_at "go"
 intro C hC
 have s2 := s1.trans (zd (o := .lst []) hC)
 have hS2 := upd_keep (o := .lst []) hS1 hC
 have hC2 : upd H1 C (.lst []) C = some (.lst []) := upd_same
 have C0 : H C = none := zD s1 hC
 have nSC : Sp ≠ C := ne_of_none hS1 hC
 have n0 : ∀ m ∈ [C], H m = none := fun m hm => by rw [List.mem_singleton.mp hm]; exact C0
 generalize upd H1 C (.lst []) = H2 at s2 hS2 hC2 ⊢
 clear s1 hS1 hC
 walk_at "go"
 let M3_ : St → Hp → Prop := fun σ' H' => ∃ (v8 : Option V) (us : List V) (css : List (List qS)), σ' = xt yw y l bt Sp v5 v6 (some (.ref C)) v8 none none none ∧ Fr [C] H2 H' ∧ H' C = some (.lst us) ∧ Reps H' (Off [C]) us ((zn css).map D.lst) ∧ jl bs rs css
 refine cut M3_ ?_ ?_
 ·walk_at "for"
  walk_at "go"
  have so2 := so.same s2
  refine ra so2.hy T.C_State T.N_State_cells rfl ⟨n.lc, rfl, .inl ⟨⟨_, SqL.of so2.hc.out⟩, ?_⟩⟩
  let M4_ : Nat → St → Hp → Prop := fun i σ H' => ∃ (v8 : Option V) (us : List V) (css : List (List qS)), σ = xt yw y l bt Sp v5 v6 (some (.ref C)) v8 none none none ∧ Fr [C] H2 H' ∧ H' C = some (.lst us) ∧ Reps H' (Off [C]) us ((zn css).map D.lst) ∧ jl (bs.take i) rs css
  refine qg (K := K) (a := n.lc) (xs := n.acs.map V.ref) M4_ (iE3 _ ([]) ([]) (iA5 rfl Fr.refl hC2 (.nil) QQ)) (fun i σ H' _ h => by obtain ⟨_, _, _, _, f, _⟩ := h; exact SqL.of (frS s2 f n0 _ _ so.hc.out)) ?_ ?_
  ·clear so2 hC2
   intro i x σ H3 hi zz_
   refine oE3 zz_ fun v8 us css z1_ => oA5 z1_ fun z2_ f3 hC3 ru3 co => ?_
   clear zz_
   subst z2_
   rw [List.getElem?_map, Option.map_eq_some_iff] at hi
   obtain ⟨cb, hcb, rfl⟩ := hi
   have hil : i < st.cells.length := by rw [← lc]; exact (List.getElem?_eq_some_iff.mp hcb).1
   obtain ⟨c, ec⟩ : ∃ c, st.cells[i]? = some c := ⟨_, List.getElem?_eq_getElem hil⟩
   obtain ⟨vs, hvs, rvs⟩ := so.hc.g i cb _ hcb (show (zn st.cells)[i]? = some (c.map z8) by rw [zn, List.getElem?_map, ec]; rfl)
   obtain ⟨b, hb⟩ : ∃ b, bs[i]? = some b := ⟨_, List.getElem?_eq_getElem (by rw [← lcb]; exact hil)⟩
   obtain ⟨lc6, wk⟩ := wf.co.2 i b c hb ec
   have bk := (bo b (List.mem_of_getElem? hb)).2.1
   have lv : vs.length = c.length := by rw [rvs.len, List.length_map]
   have s3 := frS s2 f3 n0
   have hS3 := f3 _ _ (by simp [nSC]) hS2
   have lus : us.length ≤ i := by rw [ru3.len, List.length_map, List.length_map, co.1, List.length_take]; omega
   walk_at "go"
   walk_at "lc"
   walk_at "go"
   refine ⟨.inl ⟨rfl, _, SqL.of hC3⟩, ⟨cb, ⟨rfl, .inl ⟨⟨_, SqL.of (s3 _ _ hvs)⟩, fun _ _ _ _ Z hZ => ?_⟩⟩⟩⟩
   have nZC : Z ≠ C := (ne_of_none hC3 hZ).symm
   let M5_ : Nat → St → Hp → Prop := fun j σ H' => ∃ (v0 : Option V) (ws : List V) (c' : List qS), σ = [v0, some (.ref Sp)] ∧ Same H3 H' ∧ H' Z = some (.lst ws) ∧ Reps H' (Off [C, Z]) ws (c'.map z8) ∧ c'.length = j ∧ ∀ x ∈ c', qy rs x
   refine qg (K := K) (a := cb) (xs := vs) M5_ (iE3 _ ([]) ([]) (iA6 rfl (zd hZ) upd_same (.nil) rfl (by simp))) (fun j σ H' _ h => by obtain ⟨_, _, _, _, s, _⟩ := h; exact SqL.of (s _ _ (s3 _ _ hvs))) ?_ ?_
   ·intro j v σ H4 hj zz_
    refine oE3 zz_ fun v0 ws c' z1_ => oA6 z1_ fun z2_ s4 hZ4 rw4 lc' wk' => ?_
    clear zz_
    subst z2_
    obtain ⟨d, hd, rv⟩ := rvs.at hj
    rw [List.getElem?_map, Option.map_eq_some_iff] at hd
    obtain ⟨wr, hwr, rfl⟩ := hd
    have hjl := (List.getElem?_eq_some_iff.mp hwr).1
    have lw : ws.length = j := by rw [rw4.len, List.length_map, lc']
    have snZ : ∀ {H5 : Hp} {o : HO}, Same H3 H5 → Same H3 (upd H5 Z o) := fun s b o hb => by rw [upd_ne (ne_of_none hb hZ)]; exact s b o hb
    cases wr with
    | none =>
     have rv : Rep H (zV H) v .non := rv
     cases rv
     walk_at "go"
     have fm : Fr [C, Z] H4 (upd H4 Z (.lst (ws ++ [.non]))) := qq (by simp)
     refine ⟨_, iA3 hZ4 (zh (by omega)) (iE3 _ _ (c' ++ [none]) (iA6 rfl (snZ s4) upd_same ?_ (by simp [lc']) (fun x hx => ?_)))⟩
     ·rw [List.map_append]
      exact (rw4.fr fm).append (.one .non)
     ·rcases List.mem_append.mp hx with hx | hx
      ·exact wk' x hx
      ·rw [List.mem_singleton.mp hx]
       intro s n z
       cases z
    | some x =>
     obtain ⟨tx, rfl, htx⟩ := jA (b := x) rv
     refine oE2 (wk _ (List.mem_of_getElem? hwr) x.1 x.2 rfl) fun jj r z1_ => oA4 z1_ fun ej hr' hs _ => ?_
     have hjj := (List.getElem?_eq_some_iff.mp hr').1
     have htx4 := s4 _ _ (s3 _ _ htx)
     rw [ej] at htx4
     obtain ⟨sj, hsj⟩ : ∃ z, sts[jj]? = some z := ⟨sts[jj]'(by omega), List.getElem?_eq_getElem _⟩
     walk_at "go"
     refine rd_ixT htx4 at0 ?_
     refine rd_ixT htx4 rfl ?_
     refine rd_ixT htx4 at0 ?_
     refine zz (SqL.of (s4 _ _ hS3)) (zK (jq hsj)) ?_
     walk_at "go"
     intro tw htw
     have st' := zd (o := .tup [.int jj, .int (x.2 + sj)]) htw
     have hw5 : upd H4 tw (.tup [.int jj, .int (x.2 + sj)]) tw = some (.tup [.int jj, .int (x.2 + sj)]) := upd_same
     have oT : Off [C, Z] tw := fun z => by
      simp only [List.mem_cons, List.not_mem_nil, or_false] at z
      rcases z with rfl | rfl
      ·rw [s4 _ _ hC3] at htw; cases htw
      ·rw [hZ4] at htw; cases htw
     have s5 := s4.trans st'
     have hZ5 := st' _ _ hZ4
     have rw5 := rw4.same st'
     generalize upd H4 tw (.tup [.int jj, .int (x.2 + sj)]) = H5 at hw5 s5 hZ5 rw5 ⊢
     have fm : Fr [C, Z] H5 (upd H5 Z (.lst (ws ++ [.ref tw]))) := qq (by simp)
     refine ⟨_, iA3 hZ5 (zh (by omega)) (iE3 _ _ (c' ++ [some ((jj : Int), x.2 + sj)]) (iA6 rfl (snZ s5) upd_same ?_ (by simp [lc']) (fun z hz => ?_)))⟩
     ·rw [List.map_append]
      exact (rw5.append (.one (Reps.mkT (vs := [.int jj, .int (x.2 + sj)]) (.cons .int (.cons .int .nil)) oT hw5))).fr fm
     ·rcases List.mem_append.mp hz with hz | hz
      ·exact wk' z hz
      ·rw [List.mem_singleton.mp hz]
       intro s n q
       cases q
       exact iE2 jj r (iA4 rfl hr' hs trivial)
   intro σ H4 zz_
   refine oE3 zz_ fun v0 ws c' z1_ => oA6 z1_ fun z2_ s4 hZ4 rw4 lc' wk' => ?_
   clear zz_
   subst z2_
   have fm : Fr [C] H4 (upd H4 C (.lst (us ++ [.ref Z]))) := qq (by simp)
   have lo : ∀ b ∈ [C], b ∈ [C, Z] ∨ H4 b = none := fun b hb => .inl (by simp [List.mem_singleton.mp hb])
   refine iE3 C _ _ (iA5 rfl rfl (s4 _ _ hC3) (zh (by omega)) ?_)
   refine iE3 _ _ (css ++ [c']) (iA5 rfl ((f3.trans s4.fr).trans fm) upd_same ?_ ?_)
   ·rw [show (zn (css ++ [c'])).map D.lst = (zn css).map D.lst ++ [.lst (c'.map z8)] by simp [zn]]
    exact ((ru3.same s4).append (.one ((rw4.more lo).mk' (by simp [Off, nZC]) hZ4))).fr fm
   ·rw [List.take_add_one, hb]
    exact Qa co (by omega) wk'
  ·intro σ H3 zz_
   refine oE3 zz_ fun v8 us css z1_ => oA5 z1_ fun z2_ f3 hC3 ru3 co => ?_
   clear zz_
   subst z2_
   rw [List.length_map, lc, lcb, List.take_length] at co
   exact iE3 _ us css (iA5 rfl f3 hC3 ru3 co)
 clear hC2
 intro σ' H3 zz_
 refine oE3 zz_ fun v8 us css z1_ => oA5 z1_ fun z2_ f3 hC3 ru3 co => ?_
 clear zz_
 subst z2_
 have s3 := frS s2 f3 n0
 have hS3 := f3 _ _ (by simp [nSC]) hS2
 have rC3 : Rep H3 (Off []) (.ref C) (.lst ((zn css).map D.lst)) := ru3.all.mk' (fun z => nomatch z) hC3
 clear ru3 f3 hC3 hS2 s2 n0
 walk_at "go"
 intro G hG
 have s4 := s3.trans (zd (o := .lst []) hG)
 have hS4 := upd_keep (o := .lst []) hS3 hG
 have rC4 := rC3.ahead (ms := [G]) (zd (o := .lst []) hG) (fun m hm => by rw [List.mem_singleton.mp hm]; exact hG)
 have hG4 : upd H3 G (.lst []) G = some (.lst []) := upd_same
 have n0 : ∀ m ∈ [G], H m = none := fun m hm => by rw [List.mem_singleton.mp hm]; exact zD s3 hG
 have nSG : Sp ≠ G := ne_of_none hS3 hG
 generalize upd H3 G (.lst []) = H4 at s4 hS4 rC4 hG4 ⊢
 clear s3 hS3 rC3 hG
 walk_at "go"
 let M6_ : St → Hp → Prop := fun σ' H' => ∃ (v5 v10 v11 : Option V) (us : List V) (gss : List (List Int)), σ' = xt yw y l bt Sp v5 v6 (some (.ref C)) v8 (some (.ref G)) v10 v11 ∧ Fr [G] H4 H' ∧ H' G = some (.lst us) ∧ Reps H' (Off [G]) us ((qf gss).map D.lst) ∧ j8 rs gss
 refine cut M6_ ?_ ?_
 ·walk_at "for"
  walk_at "go"
  have so4 := so.same s4
  refine ra so4.hy T.C_State T.N_State_gone rfl (iE2 n.lg _ (iA3 rfl so4.hg.out ?_))
  let M7_ : Nat → St → Hp → Prop := fun i σ H' => ∃ (v5 v10 v11 : Option V) (us : List V) (gss : List (List Int)), σ = xt yw y l bt Sp v5 v6 (some (.ref C)) v8 (some (.ref G)) v10 v11 ∧ Fr [G] H4 H' ∧ H' G = some (.lst us) ∧ Reps H' (Off [G]) us ((qf gss).map D.lst) ∧ j8 (rs.take i) gss
  refine xX (K := K) (a := n.lg) (xs := n.ags.map V.ref) M7_ (iE5 _ _ _ ([]) ([]) (iA5 rfl Fr.refl hG4 (.nil) Xt)) (fun i σ H' _ h => by obtain ⟨_, _, _, _, _, _, f, _⟩ := h; exact SqL.of (frS s4 f n0 _ _ so.hg.out)) ?_ ?_
  ·clear so4 hG4
   intro i x t σ H5 hi ht zz_
   refine oE5 zz_ fun v5 v10 v11 us gss z1_ => oA5 z1_ fun z2_ f5 hG5 ru5 go5 => ?_
   clear zz_
   subst z2_
   rw [List.getElem?_map, Option.map_eq_some_iff] at hi
   obtain ⟨gb, hgb, rfl⟩ := hi
   have hil : i < st.gone.length := by rw [← lgn]; exact (List.getElem?_eq_some_iff.mp hgb).1
   obtain ⟨g, eg⟩ : ∃ g, st.gone[i]? = some g := ⟨_, List.getElem?_eq_getElem hil⟩
   obtain ⟨gb', hgb', hgG⟩ := wM so.hg eg
   rw [hgb] at hgb'
   cases hgb'
   obtain ⟨r, hr'⟩ : ∃ r, rs[i]? = some r := ⟨_, List.getElem?_eq_getElem (by rw [← lgr]; exact hil)⟩
   have hir := (List.getElem?_eq_some_iff.mp hr').1
   have gl := (wf.go.2 i r g hr' eg).1
   have cp := jB (ro r (List.mem_of_getElem? hr'))
   obtain ⟨kv, hkv, hKn⟩ := wl hK hr'
   refine oE6 hKn.inv fun y1 dx1 m1 m2 m3 fs1 z1_ => oA9 z1_ fun z2_ _ _ _ _ q0 _ _ z3_ => oA5 z3_ fun _ _ _ _ _ => ?_
   subst z2_
   obtain ⟨si, hsi⟩ : ∃ z, sts[i]? = some z := ⟨sts[i]'(by omega), List.getElem?_eq_getElem _⟩
   have lus : us.length ≤ i := by rw [ru5.len, List.length_map, List.length_map, go5.1, List.length_take]; omega
   have st' := zd (o := .tup [.int i, .ref gb]) ht
   refine un2 upd_same ?_
   have f6 := f5.trans (Same.fr (ms := [G]) st')
   have hG6 := st' _ _ hG5
   have ru6 := ru5.same st'
   generalize upd H5 t (.tup [.int i, .ref gb]) = H6 at f6 hG6 ru6 ⊢
   clear f5 hG5 ru5 st' ht
   have s6 := frS s4 f6 n0
   have hS6 := f6 _ _ (by simp [nSG]) hS4
   walk_at "go"
   refine uc (xo T).mono (iE3 l ns (3000 + i) (iA4 (by simp) (qD s6 hl) (by omega) (fun dn d0 d1 => ?_)))
   walk_at "go"
   let M8_ : St → Hp → Prop := fun σ' H' => ∃ mo : Int, σ' = xt yw y l bt Sp (some (.int i)) v6 (some (.ref C)) v8 (some (.ref G)) (some (.ref gb)) (some (.int mo)) ∧ H' = H6
   refine cut M8_ ?_ ?_
   ·walk_at "go"
    refine ra (s6 _ _ hy) T.C_Work T.N_Work_knots e2 (zz (SqL.of (s6 _ _ h2)) (zK hkv) ?_)
    walk_at "go"
    refine iE2 (.ref a.Source) _ (iA3 T.g_Source rfl (iE4 _ _ _ _ (iA4 rfl ((WT T r.wd).ty (CT T r.wd) (s6 _ _ q0)) (.inl ⟨_, rfl, Qx T r.wd⟩) ?_)))
    walk_at "go"
    refine zR (fun _ => ?_) (fun _ => ⟨_, rfl, rfl⟩)
    walk_at "go"
    refine zz (SqL.of hS6) (zK (jq hsi)) ?_
    walk_at "go"
    exact ⟨_, rfl, rfl⟩
   rintro σ' H7 ⟨mo, rfl, rfl⟩
   walk_at "go"
   walk_at "lc"
   walk_at "go"
   refine ⟨.inl ⟨rfl, _, SqL.of hG6⟩, ⟨gb, ⟨rfl, .inl ⟨⟨_, SqL.of (s6 _ _ hgG)⟩, fun _ _ _ _ Z hZ => ?_⟩⟩⟩⟩
   have nZG : Z ≠ G := (ne_of_none hG6 hZ).symm
   let M9_ : Nat → St → Hp → Prop := fun j σ H' => ∃ (v0 : Option V) (cn : List Int), σ = [v0, some (.int mo)] ∧ Same H7 H' ∧ H' Z = some (.lst (iv cn)) ∧ cn.length = j
   refine qg (K := K) (a := gb) (xs := iv g) M9_ (iE2 _ ([]) (iA4 rfl (zd hZ) upd_same rfl)) (fun j σ H' _ h => by obtain ⟨_, _, _, s, _⟩ := h; exact SqL.of (s _ _ (s6 _ _ hgG))) ?_ ?_
   ·intro j v σ H8 hj zz_
    refine oE2 zz_ fun v0 cn z1_ => oA4 z1_ fun z2_ s8 hZ8 lcn => ?_
    clear zz_
    subst z2_
    obtain ⟨z, hz, rfl⟩ := vh hj
    have hjl := (List.getElem?_eq_some_iff.mp hz).1
    walk_at "go"
    refine ⟨_, iA3 hZ8 (zh (by rw [zk]; omega)) (iE2 _ (cn ++ [_]) (iA4 rfl (fun b o hb => by rw [upd_ne (ne_of_none hb hZ)]; exact s8 b o hb) (by rw [upd_same, z3]) (by simp [lcn])))⟩
   intro σ H8 zz_
   refine oE2 zz_ fun v0 cn z1_ => oA4 z1_ fun z2_ s8 hZ8 lcn => ?_
   clear zz_
   subst z2_
   rw [zk] at lcn
   have fm : Fr [G] H8 (upd H8 G (.lst (us ++ [.ref Z]))) := qq (by simp)
   refine iE3 G _ _ (iA5 rfl rfl (s8 _ _ hG6) (zh (by omega)) ?_)
   refine iE5 _ _ _ (us ++ [.ref Z]) (gss ++ [cn]) (iA5 rfl ((f6.trans s8.fr).trans fm) upd_same ?_ ?_)
   ·rw [show (qf (gss ++ [cn])).map D.lst = (qf gss).map D.lst ++ [.ints cn] by simp [qf]]
    exact ((ru6.same s8).append (.one (zX (by simp [Off, nZG]) hZ8))).fr fm
   ·rw [List.take_add_one, hr']
    exact QO go5 (by omega)
  ·intro σ H5 zz_
   refine oE5 zz_ fun v5 v10 v11 us gss z1_ => oA5 z1_ fun z2_ f5 hG5 ru5 go5 => ?_
   clear zz_
   subst z2_
   rw [List.length_map, lgn, lgr, List.take_length] at go5
   exact iE5 _ _ _ us gss (iA5 rfl f5 hG5 ru5 go5)
 clear hG4
 intro σ' H5 zz_
 refine oE5 zz_ fun v5' v10 v11 us gss z1_ => oA5 z1_ fun z2_ f5 hG5 ru5 go5 => ?_
 clear zz_
 subst z2_
 have s5 := frS s4 f5 n0
 have so5 := so.same s5
 walk_at "go"
 refine iE4 a.State _ _ _ ⟨(Ju T).mono, iE5 y a.State n.dx _ _ (iA6 rfl so5.hy T.C_State T.N_State_turn rfl ?_)⟩
 refine uc (xo T).mono (iE3 l ns 4000 (iA4 rfl (qD s5 hl) (by omega) (fun dn d0 d1 => ?_)))
 walk_at "go"
 refine ⟨mul_okR (by omega) (by omega), ?_⟩
 walk_at "go"
 refine ra so5.hy T.C_State T.N_State_sides rfl ?_
 refine ZU T (st := ⟨st.turn + bt * dn, css, st.sides, gss⟩) (rC4.fr f5).all (zX (p := Off []) (fun z => nomatch z) so5.hs) (ru5.all.mk' (fun z => nomatch z) hG5) (by show css.length ≤ 100; rw [co.1]; omega) (by show gss.length ≤ 100; rw [go5.1]; omega) fun y' H6 s6 sn => ?_
 refine oE2 sn fun y2 n2 z1_ => oA3 z1_ fun e so6 _ => ?_
 clear sn
 cases e
 exact k y' n2 _ H6 (s5.trans s6) so6 ⟨co, go5, wf.so⟩
theorem XB (T : Txt K mg a) : Cal P w K mg base "_law_shifted" 3 ["_law_work_here", "_law_state", "_law_script", "_law_beat_here"] [] (vy K a) := T.h_L_shifted.cal (Jo T)
theorem Zv {H : Hp} {x : Addr} {us zs : List V} {vs : List V} {ds : List D} (hx : H x = some (.lst us)) (r : Reps H (zV H) vs ds) : Reps (upd H x (.lst zs)) (zV (upd H x (.lst zs))) vs ds := r.keep fun b o ⟨xs, hb⟩ ho => by
 have nb : b ≠ x := fun z => by rw [z, hx] at hb; cases hb
 exact ⟨⟨xs, by rw [upd_ne nb]; exact hb⟩, by rw [upd_ne nb]; exact ho⟩
theorem zc8 (x y : Int) : jQ [V.int x] [V.int y] = decide (x = y) := by
 by_cases e : x = y <;> simp [jQ, eqV, e]
def Xu (st : PSt) (j : Nat) : Int := (st.gone.getD j []).headD 0
theorem zaQ {rs : List Row} {j : Nat} {r : Row} {n : Int} (h : rs[j]? = some r) : kdW rs ((j : Int), n) = xW r.kinds n := by
 unfold kdW
 rw [Int.toNat_natCast, h]
 rfl
theorem Wh {ks : List Int} {m n : Int} (h : m % (ks.length : Int) = n % (ks.length : Int)) : xW ks m = xW ks n := by
 unfold xW
 rw [h]
theorem vx {r : Row} (ok : r.ok) (h : r.wd = .source) : 1 ≤ r.kinds.length ∧ r.kinds.length ≤ 6 := by
 unfold Row.ok at ok
 rw [h] at ok
 exact ⟨ok.2.2.2.2.1, ok.2.2.2.2.2.1⟩
abbrev dW (x : Int × Int) : D := z8 (some x)
abbrev vd (y s : Addr) (vo : V) (sp : Int) (sm : Bool) (W : Addr) (v6 v7 v8 : Option V) : St := [some (.ref y), some (.ref s), some vo, some (.int sp), some (.bl sm), some (.ref W), v6, v7, v8]
def WC (a : Ad) : Sp := fun vs H Q _ => ∃ (vw vo : V) (y : Addr) (n : SN) (ow : qS) (sp : Int) (sm : Bool) (bs : List (Int × Int)) (rs : List Row) (st : PSt) (q : Addr → Prop), vs = [vw, .ref y, vo, .int sp, .bl sm] ∧ Rep H (Off []) vw (qp a bs rs) ∧ StO a H y n st ∧ stWf bs rs st ∧ Rep H q vo (z8 ow) ∧ qy rs ow ∧ rs.length ≤ 24 ∧ (∀ r ∈ rs, r.ok) ∧ HasS rs ∧ ∀ v x H', Same H H' → Rep H' (zV H') v (dW x) → qy rs (some x) → Q v H'
theorem Zi (T : Txt K mg a) (F : Fun K "_law_other_ware" "_law_other_ware" qw f fd) : FnOk P w K mg base (CXr P w) 2 f fd ["_law_work_here", "_law_state", "_law_old", "_law_spot", "_law_same"] (WC a) := by
 refine F.okx Ze ?_ ?_
 ·walk_at "i"
 walk_at "j"
 refine oE8 h fun vw vo y n ow sp sm bs z1_ => oE3 z1_ fun rs st q z2_ => oA6 z2_ fun z3_ hw so wf ro' z4_ => oA5 z4_ fun wko r24 ro hS k => ?_
 clear h
 subst z3_
 have hw0 := hw
 refine oE7 (qj hw) fun yw dx fs l1 l2 bvs kvs z1_ => oA9 z1_ fun z2_ hy e1 e2 h1 h2 hB hK no => ?_
 subst z2_
 have lK := hK.len
 walk_at "T"
 refine ⟨_, (zg (zo 5 Ze.nd (zE zb))  (zB (qc qH rfl (zY (za (zj (pq 0) rfl) zb)) (jU (n := 2) rfl (zQ (Jl (i := 6) Ze.nd rfl (Or.inr rfl)) (zQ (zZ 7 Ze.nd) jg)))  (ze (zL (zT (zC qC zt (za (pq 7) (za qG zb))) (fun _ => rfl))  (ze (zl (z5 PySem.F.plainAttrs_list PySem.F.slot_list_extend PySem.F.type_list_extend xj (pq 5) (za (j4 (vars := ["_law_d"]) (caps := [6, 1]) (N := ["_law_d", "_law_k", "_law_state"]) (ON := ["_law_work_here", "_law_state", "_law_old", "_law_spot", "_law_same", "_law_wares", "_law_k", "_law_knot", "_law_kind_here"]) (osc := zf qw) rfl rfl (by first | decide +kernel | kernel_rfl) rfl rfl (wG (za (zC zO zN (za (zj (pq 7) rfl) zb)) zb)) (fun s H fp pins => (zZ 0 (show (["_law_d", "_law_k", "_law_state"] : List Str).Nodup from by decide +kernel))) (fun s H fp pins => z6) (fun s H fp pins => (ZL (za (pq 1) (za (zi zM (zF (zF (zj (pq 2) rfl) (pq 1)) zc) (pq 0)) zb))))) zb))))  zq)))  (zB (zL (PW.pt (pw_and (zT (pq 4) (fun _ => rfl)) (pw_and1 (zw zbr (pq 2) jV (zy _)))))  (zg (wF (i := 8) Ze.nd rfl (Or.inr rfl) (zx ⟨rfl, rfl, rfl⟩ hr (za (pq 0) (za (zE (za (pq 2) zb)) zb))))  (ze (xS (i := 5) Ze.nd rfl (Or.inl rfl) (vars := ["_law_ware"]) (caps := [8, 0]) (N := ["_law_ware", "_law_kind_here", "_law_work_here"]) (ON := ["_law_work_here", "_law_state", "_law_old", "_law_spot", "_law_same", "_law_wares", "_law_k", "_law_knot", "_law_kind_here"]) (osc := zf qw) rfl rfl (by first | decide +kernel | kernel_rfl) rfl rfl (zW (pq 5)) (fun s H fp pins => (zZ 0 (show (["_law_ware", "_law_kind_here", "_law_work_here"] : List Str).Nodup from by decide +kernel))) (fun s H fp pins => (vb (zw (qx hr.units1) (vF hr (za (pq 2) (za (zE (za (pq 0) zb)) zb))) (pq 1) (zy _)))) (fun s H fp pins => (pq 0)))))  zq)  (ze (zA (zF (pq 5) (zi zr (pq 3) (zC zO zN (za (pq 5) zb))))))))), ?_⟩
 walk_at "go"
 intro W hWn
 have s1 := zd (o := .lst []) hWn
 have hW1 : upd H W (.lst []) W = some (.lst []) := upd_same
 generalize upd H W (.lst []) = H1 at s1 hW1 ⊢
 walk_at "go"
 let M1_ : St → Hp → Prop := fun σ' H' => ∃ (v6 v7 : Option V) (us : List V) (xs : List (Int × Int)), σ' = vd yw y vo sp sm W v6 v7 none ∧ Same H H' ∧ H' W = some (.lst us) ∧ Reps H' (zV H') us (xs.map dW) ∧ xs.length ≤ 144 ∧ (∀ x ∈ xs, qy rs (some x)) ∧ ∀ (j : Nat) r, rs[j]? = some r → r.wd = .source → ∀ d : Nat, d < r.kinds.length → ((j : Int), Xu st j + d) ∈ xs
 refine cut M1_ ?_ ?_
 ·walk_at "for"
  walk_at "go"
  refine ra (s1 _ _ hy) T.C_Work T.N_Work_knots e2 (iE2 l2 _ (iA3 rfl (s1 _ _ h2) ?_))
  let M2_ : Nat → St → Hp → Prop := fun i σ H' => ∃ (v6 v7 : Option V) (us : List V) (xs : List (Int × Int)), σ = vd yw y vo sp sm W v6 v7 none ∧ Same H H' ∧ H' W = some (.lst us) ∧ Reps H' (zV H') us (xs.map dW) ∧ xs.length ≤ 6 * i ∧ (∀ x ∈ xs, qy rs (some x)) ∧ ∀ (j : Nat) r, j < i → rs[j]? = some r → r.wd = .source → ∀ d : Nat, d < r.kinds.length → ((j : Int), Xu st j + d) ∈ xs
  refine xX (K := K) (a := l2) (xs := kvs) M2_ (iE4 _ _ ([]) ([]) (iA7 rfl s1 hW1 (.nil) (by simp) (by simp) (fun j r hj => absurd hj (Nat.not_lt_zero _)))) (fun i σ H' _ h => by obtain ⟨_, _, _, _, _, s, _⟩ := h; exact SqL.of (s _ _ h2)) ?_ ?_
  ·clear s1 hW1
   intro i x t σ H4 hi ht zz_
   refine oE4 zz_ fun v6 v7 us xs z1_ => oA7 z1_ fun z2_ s4 hW4 ru4 lx wk al => ?_
   clear zz_
   subst z2_
   obtain ⟨r, hr', hKn⟩ := hK.at hi
   refine oE6 hKn.inv fun y1 dx1 m1 m2 m3 fs1 z1_ => oA9 z1_ fun z2_ _ _ _ _ q0 _ _ z3_ => oA5 z3_ fun _ _ _ g3 _ => ?_
   subst z2_
   have hil := (List.getElem?_eq_some_iff.mp hr').1
   have ok := ro r (List.mem_of_getElem? hr')
   have st' := zd (o := .tup [.int i, .ref y1]) ht
   refine un2 upd_same ?_
   have s5 := s4.trans st'
   have hW5 := st' _ _ hW4
   have ru5 := qt ru4 st'
   generalize upd H4 t (.tup [.int i, .ref y1]) = H5 at s5 hW5 ru5 ⊢
   clear s4 hW4 ru4 st' ht
   have lu : us.length = xs.length := by rw [ru5.len, List.length_map]
   walk_at "go"
   refine iE2 (.ref a.Source) _ (iA3 T.g_Source rfl (iE4 _ _ _ _ (iA4 rfl ((WT T r.wd).ty (CT T r.wd) (s5 _ _ q0)) (.inl ⟨_, rfl, Qx T r.wd⟩) ?_)))
   walk_at "go"
   refine zR (fun b => ?_) (fun b => (iE4 _ _ us xs (iA7 rfl s5 hW5 ru5 (by omega) wk (fun j r2 hj hr2 hs => ?_))))
   ·obtain ⟨g3a, g3b⟩ := g3 b
    have kk := vx ok b
    obtain ⟨g, hg⟩ : ∃ g, st.gone[i]? = some g := ⟨_, List.getElem?_eq_getElem (by rw [wf.go.1]; exact hil)⟩
    have q1 := (wf.go.2 i r g hr' hg).1
    have cp := jB ok
    obtain ⟨gh, gs, rfl⟩ := List.exists_cons_of_ne_nil (List.ne_nil_of_length_pos (by omega : 0 < g.length))
    obtain ⟨bG, hbG, hgG⟩ := wM so.hg hg
    have hmap : (n.ags.map V.ref)[i]? = some (.ref bG) := by rw [List.getElem?_map, hbG]; rfl
    have eg : Xu st i = gh := by unfold Xu; rw [List.getD_eq_getElem?_getD, hg]; rfl
    walk_at "go"
    walk_at "lc"
    walk_at "go"
    refine iA4 (.inl ⟨rfl, _, SqL.of hW5⟩) m_range m_len (iE5 y1 (jr a r.wd) dx1 fs1 _ (iA6 rfl (s5 _ _ q0) (CT T _) (by rw [b]; exact T.N_Source_kinds) g3a ⟨_, ⟨.inl ⟨_, SqL.of (s5 _ _ g3b), rfl⟩, ?_⟩⟩))
    rw [zk]
    refine ⟨by omega, by omega, fun _ _ _ _ Z hZ => ?_⟩
    let M3_ : Nat → St → Hp → Prop := fun j σ H' => ∃ (v0 : Option V) (ws : List V), σ = [v0, some (.int i), some (.ref y)] ∧ Same H5 H' ∧ H' Z = some (.lst ws) ∧ Reps H' (zV H') ws (((List.range j).map fun d : Nat => ((i : Int), gh + d)).map dW)
    refine Z5 (n := ((r.kinds.length : Nat) : Int).toNat) M3_ (iE2 _ ([]) (iA4 rfl (zd hZ) upd_same (.nil))) ?_ ?_
    ·intro j σ H6 hj zz_
     refine oE2 zz_ fun v0 ws z1_ => oA4 z1_ fun z2_ s6 hZ6 rw6 => ?_
     clear zz_
     subst z2_
     have so6 := so.same (s5.trans s6)
     have lw : ws.length = j := by rw [rw6.len, List.length_map, List.length_map, List.length_range]
     walk_at "go"
     refine ra so6.hy T.C_State T.N_State_gone rfl (zz (SqL.of so6.hg.out) (zK hmap) (zz (SqL.of (s6 _ _ (s5 _ _ hgG))) at0 ?_))
     walk_at "go"
     intro tw htw
     have st' := zd (o := .tup [.int i, .int (gh + (0 + (j : Int)))]) htw
     have hw7 : upd H6 tw (.tup [.int i, .int (gh + (0 + (j : Int)))]) tw = some (.tup [.int i, .int (gh + (0 + (j : Int)))]) := upd_same
     have rw7 := qt rw6 st'
     have hZ7 := st' _ _ hZ6
     generalize upd H6 tw (.tup [.int i, .int (gh + (0 + (j : Int)))]) = H7 at st' hw7 rw7 hZ7 ⊢
     refine ⟨_, iA3 hZ7 (zh (by omega)) (iE2 _ (ws ++ [.ref tw]) (iA4 rfl (fun b o hb => by rw [upd_ne (ne_of_none hb hZ)]; exact st' _ _ (s6 b o hb)) upd_same ?_))⟩
     rw [List.range_succ, List.map_append, List.map_append]
     refine Zv hZ7 (rw7.append (.one ?_))
     show Rep H7 (zV H7) (.ref tw) (.tup [.int i, .int (gh + (j : Int))])
     rw [Int.zero_add] at hw7
     exact Reps.mkT (vs := [.int i, .int (gh + (j : Int))]) (.cons .int (.cons .int .nil)) ⟨_, hw7⟩ hw7
    intro σ H6 zz_
    refine oE2 zz_ fun v0 ws z1_ => oA4 z1_ fun z2_ s6 hZ6 rw6 => ?_
    clear zz_
    subst z2_
    rw [Int.toNat_natCast] at rw6
    have lw : ws.length = r.kinds.length := by rw [rw6.len, List.length_map, List.length_map, List.length_range]
    have hW6 := s6 _ _ hW5
    refine iE4 W Z us ws (iA6 rfl rfl hW6 hZ6 (Nat.le_of_lt (zh (by omega))) ?_)
    refine iE4 _ _ (us ++ ws) (xs ++ (List.range r.kinds.length).map (fun d : Nat => ((i : Int), gh + d))) (iA7 rfl (fun b o hb => by rw [upd_ne (ne_of_none hb hWn)]; exact s6 _ _ (s5 b o hb)) upd_same ?_ (by simp; omega) (fun x hx => ?_) (fun j r2 hj hr2 hs d hd => ?_))
    ·rw [List.map_append]
     exact Zv hW6 ((qt ru5 s6).append rw6)
    ·rcases List.mem_append.mp hx with hx | hx
     ·exact wk x hx
     ·obtain ⟨d, _, rfl⟩ := List.mem_map.mp hx
      intro s n z
      cases z
      exact iE2 i r (iA4 rfl hr' b trivial)
    ·by_cases e : j = i
     ·subst e
      rw [hr'] at hr2
      cases hr2
      rw [eg]
      exact List.mem_append_right _ (List.mem_map.mpr ⟨d, List.mem_range.mpr hd, rfl⟩)
     ·exact List.mem_append_left _ (al j r2 (by omega) hr2 hs d hd)
   ·by_cases e : j = i
    ·subst e
     rw [hr'] at hr2
     cases hr2
     exact absurd hs b
    ·exact al j r2 (by omega) hr2 hs
  ·intro σ H4 zz_
   refine oE4 zz_ fun v6 v7 us xs z1_ => oA7 z1_ fun z2_ s4 hW4 ru4 lx wk al => ?_
   clear zz_
   subst z2_
   rw [lK] at lx al
   exact iE4 _ _ us xs (iA7 rfl s4 hW4 ru4 (by omega) wk (fun j r hr2 => al j r (List.getElem?_eq_some_iff.mp hr2).1 hr2))
 clear s1 hW1 hWn
 intro σ' H2 zz_
 refine oE4 zz_ fun v6 v7 us xs z1_ => oA7 z1_ fun z2_ s2 hW2 ru2 lx wk al => ?_
 clear zz_
 subst z2_
 have x0 : 0 < xs.length := by
  obtain ⟨r, hr, hs⟩ := hS
  obtain ⟨j, hj⟩ := List.getElem?_of_mem hr
  have kk := vx (ro r hr) hs
  exact List.length_pos_of_mem (al j r hj hs 0 (by omega))
 have lu : us.length = xs.length := by rw [ru2.len, List.length_map]
 walk_at "go"
 let M4_ : St → Hp → Prop := fun σ' H' => ∃ (W : Addr) (v8 : Option V) (us : List V) (xs : List (Int × Int)), σ' = vd yw y vo sp sm W v6 v7 v8 ∧ Same H H' ∧ H' W = some (.lst us) ∧ Reps H' (zV H') us (xs.map dW) ∧ 0 < xs.length ∧ ∀ x ∈ xs, qy rs (some x)
 refine cut M4_ ?_ ?_
 ·have skip : ∃ (W' : Addr) (v8 : Option V) (us : List V) (xs : List (Int × Int)), vd yw y vo sp sm W v6 v7 none = vd yw y vo sp sm W' v6 v7 v8 ∧ Same H H2 ∧ H2 W' = some (.lst us) ∧ Reps H2 (zV H2) us (xs.map dW) ∧ 0 < xs.length ∧ ∀ x ∈ xs, qy rs (some x) := ⟨W, _, us, xs, rfl, s2, hW2, ru2, x0, wk⟩
  cases sm with
  | false =>
   walk_at "go"
   exact skip
  | true =>
   cases ow with
   | none =>
    have rv : Rep H q vo .non := ro'
    cases rv
    walk_at "go"
    exact skip
   | some ox =>
    clear skip
    obtain ⟨tx, rfl, htx⟩ := jA (b := ox) ro'
    refine oE2 (wko ox.1 ox.2 rfl) fun jo rr z1_ => oA4 z1_ fun ejo hro hso _ => ?_
    walk_at "go"
    refine uc (vM T).mono (fun p hp => ?_)
    have s3 := s2.trans (zd (o := .lst [.ref tx]) hp)
    have ru3 := qt ru2 (zd (o := .lst [.ref tx]) hp)
    have hW3 := upd_keep (o := .lst [.ref tx]) hW2 hp
    have hp3 : upd H2 p (.lst [.ref tx]) p = some (.lst [.ref tx]) := upd_same
    generalize upd H2 p (.lst [.ref tx]) = H3 at s3 ru3 hW3 hp3 ⊢
    refine iE8 (.ref yw) p ([.ref tx]) bs rs ([some ox]) _ q (iA8 rfl (hw0.same s3) hp3 (.one (ro'.keep fun b o hb ho => ⟨hb, s3 _ _ ho⟩)) (fun x hx => by rw [List.mem_singleton.mp hx]; exact wko) ro (by simp) (fun tk H4 s4 nt htk => ?_))
    have s4' := s3.trans s4
    have ru4 := qt ru3 s4
    have hW4 := s4 _ _ hW3
    have htk : H4 tk = some (.tup [.int (kdW rs ox)]) := htk
    clear s4 ru3 hW3 s3 hp3 hp
    walk_at "go"
    walk_at "lc"
    walk_at "go"
    refine ⟨W, rfl, .inl ⟨⟨_, SqL.of hW4⟩, fun _ _ _ _ Z hZ => ?_⟩⟩
    let M5_ : Nat → St → Hp → Prop := fun j σ H' => ∃ (v0 : Option V) (ws : List V) (zs : List (Int × Int)), σ = [v0, some (.ref tk), some (.ref yw)] ∧ Same H4 H' ∧ H' Z = some (.lst ws) ∧ Reps H' (zV H') ws (zs.map dW) ∧ zs.length ≤ j ∧ (∀ x ∈ zs, qy rs (some x)) ∧ ∀ x ∈ xs.take j, kdW rs x = kdW rs ox → 0 < zs.length
    refine qg (K := K) (a := W) (xs := us) M5_ (iE3 _ ([]) ([]) (iA7 rfl (zd hZ) upd_same (.nil) (by simp) (by simp) (fun x hx => by simp at hx))) (fun j σ H' _ h => by obtain ⟨_, _, _, _, s, _⟩ := h; exact SqL.of (s _ _ hW4)) ?_ ?_
    ·intro j v σ H5 hj zz_
     refine oE3 zz_ fun v0 ws zs z1_ => oA7 z1_ fun z2_ s5 hZ5 rw5 lz wkz alz => ?_
     clear zz_
     subst z2_
     obtain ⟨d, hd, rv⟩ := ru4.at hj
     rw [List.getElem?_map, Option.map_eq_some_iff] at hd
     obtain ⟨xx, hxx, rfl⟩ := hd
     have hjl := (List.getElem?_eq_some_iff.mp hxx).1
     have wkx := wk xx (List.mem_of_getElem? hxx)
     have lw : ws.length = zs.length := by rw [rw5.len, List.length_map]
     have rv5 := qu rv s5
     walk_at "go"
     refine uc (vM T).mono (fun p hp => ?_)
     have sp' := zd (o := .lst [v]) hp
     have hp6 : upd H5 p (.lst [v]) p = some (.lst [v]) := upd_same
     generalize upd H5 p (.lst [v]) = H6 at sp' hp6 ⊢
     refine iE8 (.ref yw) p ([v]) bs rs ([some xx]) _ _ (iA8 rfl (hw0.same ((s4'.trans s5).trans sp')) hp6 (.one (qu rv5 sp')) (fun x hx => by rw [List.mem_singleton.mp hx]; exact wkx) ro (by simp) (fun tz H7 s7 nt htz => ?_))
     have htz : H7 tz = some (.tup [.int (kdW rs xx)]) := htz
     have s57 := sp'.trans s7
     have hZ7 := s57 _ _ hZ5
     have rw7 := qt rw5 s57
     have rv7 := qu rv5 s57
     have s47 := s5.trans s57
     refine .inr (.inl (iE4 tz tk _ _ (iA6 rfl rfl (.inr ⟨SqT.of htz, SqT.of (s47 _ _ htk)⟩) rfl rfl ?_)))
     rw [zc8]
     walk_at "go"
     refine zR (fun z => ?_) (fun z => ?_)
     ·refine ⟨_, iA3 hZ7 (zh (by omega)) (iE3 _ (ws ++ [v]) (zs ++ [xx]) (iA7 rfl (fun b o hb => by rw [upd_ne (ne_of_none hb hZ)]; exact s47 b o hb) upd_same ?_ (by simp; omega) (fun x hx => ?_) (fun x _ _ => by simp)))⟩
      ·rw [List.map_append]
       exact Zv hZ7 (rw7.append (.one rv7))
      ·rcases List.mem_append.mp hx with hx | hx
       ·exact wkz x hx
       ·rw [List.mem_singleton.mp hx]; exact wkx
     ·refine iE3 _ ws zs (iA7 rfl s47 hZ7 rw7 (by omega) wkz (fun x hx e => ?_))
      rw [List.take_add_one, hxx] at hx
      rcases List.mem_append.mp hx with hx | hx
      ·exact alz x hx e
      ·rw [show x = xx by simpa using hx] at e
       exact absurd e z
    intro σ H5 zz_
    refine oE3 zz_ fun v0 ws zs z1_ => oA7 z1_ fun z2_ s5 hZ5 rw5 lz wkz alz => ?_
    clear zz_
    subst z2_
    rw [lu, List.take_length] at alz
    walk_at "go"
    refine iE4 Z _ ws zs (iA6 rfl (s4'.trans s5) hZ5 rw5 ?_ wkz)
    have kk := vx (ro rr (List.mem_of_getElem? hro)) hso
    obtain ⟨d, hd, ed⟩ := zcJ (g := Xu st jo) (n := ox.2) (m := rr.kinds.length) (by omega)
    refine alz _ (al jo rr hro hso d hd) ?_
    rw [zaQ hro, Wh ed, ← zaQ hro, ← ejo]
 clear hW2 ru2 lx wk al x0 lu s2
 intro σ' H3 zz_
 refine oE4 zz_ fun W v8 us xs z1_ => oA6 z1_ fun z2_ s3 hW3 ru3 x0 wk => ?_
 clear zz_
 subst z2_
 have lu : us.length = xs.length := by rw [ru3.len, List.length_map]
 walk_at "go"
 refine ⟨_, .inl ⟨_, SqL.of hW3, rfl⟩, ?_⟩
 rw [lu]
 walk_at "go"
 refine ⟨by omega, ?_⟩
 have v0 := Int.emod_nonneg sp (show (xs.length : Int) ≠ 0 by omega)
 have v1 := Int.emod_lt_of_pos sp (show (0 : Int) < xs.length by omega)
 obtain ⟨j, ej⟩ : ∃ j : Nat, sp % (xs.length : Int) = j := ⟨(sp % (xs.length : Int)).toNat, by omega⟩
 rw [ej] at v1 ⊢
 obtain ⟨x, hx⟩ : ∃ x, xs[j]? = some x := ⟨xs[j]'(by omega), List.getElem?_eq_getElem _⟩
 obtain ⟨v, hv, rv⟩ := ru3.of (i := j) (d := dW x) (by rw [List.getElem?_map, hx]; rfl)
 exact zz (SqL.of hW3) (zK hv) (k v x H3 s3 rv (wk x (List.mem_of_getElem? hx)))
theorem Qd (T : Txt K mg a) : Cal P w K mg base "_law_other_ware" 2 ["_law_work_here", "_law_state", "_law_old", "_law_spot", "_law_same"] [] (WC a) := T.h_L_other_ware.cal (Zi T)
theorem Reps.setAt {H : Hp} {p : Addr → Prop} {vs : List V} {ds : List D} {j : Nat} {v : V} {d : D} (h : Reps H p vs ds) (q : Rep H p v d) : Reps H p (vs.set j v) (ds.set j d) := by
 refine ⟨by rw [List.length_set, List.length_set, h.len], fun i x y a b => ?_⟩
 rw [List.getElem?_set] at a b
 by_cases e : j = i
 ·rw [if_pos e] at a b
  by_cases g : j < vs.length
  ·rw [if_pos g] at a; rw [if_pos (h.len ▸ g)] at b
   cases a; cases b; exact q
  ·rw [if_neg g] at a; cases a
 ·rw [if_neg e] at a b
  exact h.g i x y a b
theorem Wy {H : Hp} {x : Addr} {us vs : List V} (hx : H x = some (.lst us)) {b : Addr} (h : zV H b) : zV (upd H x (.lst vs)) b := by
 obtain ⟨xs, hb⟩ := h
 exact ⟨xs, by rw [upd_ne (fun z => by rw [z, hx] at hb; cases hb)]; exact hb⟩
section
variable {H H' : Hp} {C : Addr} {as : List Addr} {css : List (List qS)}
theorem NLC.put {i : Nat} {b : Addr} {c' : List qS} {vs : List V} (h : NL H (zV H) C as (zn css)) (e : as[i]? = some b) (r : Reps H (zV H) vs (c'.map z8)) : NL (upd H b (.lst vs)) (zV (upd H b (.lst vs))) C as (zn (css.set i c')) := by
 obtain ⟨us, hu⟩ := h.isl (List.mem_cons_of_mem _ (List.mem_of_getElem? e))
 have ntb : ¬ zV H b := fun ⟨xs, hx⟩ => by rw [hu] at hx; cases hx
 have := h.put (vs := vs) (ys := c'.map z8) e ntb r
 rw [show zn (css.set i c') = (zn css).set i (c'.map z8) by simp [zn, List.map_set]]
 exact this.keep (fun _ _ _ hc => hc) fun c hc _ => Wy hu hc
theorem NLC.cell {i : Nat} {c : List qS} (h : NL H (zV H) C as (zn css)) (e : css[i]? = some c) : ∃ b vs, as[i]? = some b ∧ H b = some (.lst vs) ∧ Reps H (zV H) vs (c.map z8) := h.at (by rw [zn, List.getElem?_map, e]; rfl)
end
structure OW (H : Hp) (C SD G : Addr) (cs ags : List Addr) (st : PSt) : Prop where
 nc : NL H (zV H) C cs (zn st.cells)
 hs : H SD = some (.lst (iv st.sides))
 ng : NL H (zV H) G ags (qf st.gone)
 nd : (SD :: C :: G :: (cs ++ ags)).Nodup
section
variable {H H' : Hp} {C SD G : Addr} {cs ags : List Addr} {st : PSt}
theorem OW.same (h : OW H C SD G cs ags st) (s : Same H H') : OW H' C SD G cs ags st := ⟨h.nc.tup fun b o _ hb => s b o hb, s _ _ h.hs, h.ng.tup fun b o _ hb => s b o hb, h.nd⟩
theorem OW.nds (h : OW H C SD G cs ags st) : (SD ≠ C ∧ SD ≠ G ∧ SD ∉ cs ∧ SD ∉ ags) ∧ (C ≠ G ∧ C ∉ cs ∧ C ∉ ags) ∧ (G ∉ cs ∧ G ∉ ags) ∧ ∀ x ∈ cs, x ∉ ags := by
 have nd := h.nd
 simp only [List.nodup_cons, List.mem_cons, List.mem_append, not_or] at nd
 refine oA4 nd fun z1_ z2_ z3_ n10 => ?_
 clear nd
 obtain ⟨n1, n2, n3, n4⟩ := z1_
 obtain ⟨n5, n6, n7⟩ := z2_
 obtain ⟨n8, n9⟩ := z3_
 exact iA4 (iA4 n1 n2 n3 n4) ⟨n5, n6, n7⟩ ⟨n8, n9⟩ (fun x hx hy => (List.nodup_append.mp n10).2.2 x hx x hy rfl)
theorem Zw {b x : Addr} {us : List V} (hb : H b = some (.lst us)) (t : zV H x) : x ≠ b := fun z => by
 obtain ⟨xs, hx⟩ := t
 rw [z, hb] at hx; cases hx
theorem OW.putC {i : Nat} {b : Addr} {c' : List qS} {vs : List V} (h : OW H C SD G cs ags st) (e : cs[i]? = some b) (r : Reps H (zV H) vs (c'.map z8)) : OW (upd H b (.lst vs)) C SD G cs ags { st with cells := st.cells.set i c' } := by
 have hb := List.mem_of_getElem? e
 obtain ⟨us, hu⟩ := h.nc.isl (List.mem_cons_of_mem _ hb)
 refine oA4 h.nds fun z1_ _ z2_ n10 => ?_
 obtain ⟨n1, n2, n3, n4⟩ := z1_
 obtain ⟨n8, n9⟩ := z2_
 refine ⟨NLC.put h.nc e r, by rw [upd_ne (fun z => n3 (by rw [z]; exact hb))]; exact h.hs, h.ng.tup fun x o c hx => ?_, h.nd⟩
 rw [upd_ne ?_]
 ·exact hx
 ·rcases c with rfl | c | c
  ·exact fun z => n8 (by rw [z]; exact hb)
  ·exact fun z => n10 b hb (by rw [← z]; exact c)
  ·exact Zw hu c
theorem OW.putG {i : Nat} {b : Addr} {g' : List Int} (h : OW H C SD G cs ags st) (e : ags[i]? = some b) : OW (upd H b (.lst (iv g'))) C SD G cs ags { st with gone := st.gone.set i g' } := by
 have hb := List.mem_of_getElem? e
 obtain ⟨us, hu⟩ := h.ng.isl (List.mem_cons_of_mem _ hb)
 refine oA4 h.nds fun z1_ z2_ _ n10 => ?_
 obtain ⟨n1, n2, n3, n4⟩ := z1_
 obtain ⟨n5, n6, n7⟩ := z2_
 refine ⟨h.nc.tup fun x o c hx => ?_, by rw [upd_ne (fun z => n4 (by rw [z]; exact hb))]; exact h.hs, ?_, h.nd⟩
 ·rw [upd_ne ?_]
  ·exact hx
  ·rcases c with rfl | c | c
   ·exact fun z => n7 (by rw [z]; exact hb)
   ·exact fun z => n10 x c (by rw [z]; exact hb)
   ·exact Zw hu c
 ·have := h.ng.put (vs := iv g') (ys := g'.map D.int) e (fun z => Zw hu z rfl) reps_ints
  rw [show qf (st.gone.set i g') = (qf st.gone).set i (g'.map D.int) by simp [qf, List.map_set]]
  exact this.keep (fun _ _ _ hc => hc) fun c hc _ => Wy hu hc
theorem OW.putS {s' : List Int} (h : OW H C SD G cs ags st) : OW (upd H SD (.lst (iv s'))) C SD G cs ags { st with sides := s' } := by
 refine oA4 h.nds fun z1_ _ _ _ => ?_
 obtain ⟨n1, n2, n3, n4⟩ := z1_
 have hs := h.hs
 refine ⟨h.nc.tup fun x o c hx => ?_, upd_same, h.ng.tup fun x o c hx => ?_, h.nd⟩
 ·rw [upd_ne ?_]
  ·exact hx
  ·rcases c with rfl | c | c
   ·exact Ne.symm n1
   ·exact fun z => n3 (by rw [← z]; exact c)
   ·exact Zw hs c
 ·rw [upd_ne ?_]
  ·exact hx
  ·rcases c with rfl | c | c
   ·exact Ne.symm n2
   ·exact fun z => n4 (by rw [← z]; exact c)
   ·exact Zw hs c
end
theorem vL {H1 H' : Hp} {acc b : Addr} {as : List Addr} {xss : List (List D)} {vs : List V} {ys : List D} (s : Same H1 H') (ha : H1 acc = none) (nl : NL H' (zV H1) acc as xss) (fr : ∀ b ∈ as, H1 b = none) (hb : H' b = none) (r : Reps H1 (zV H1) vs ys) : upd H' b (.lst vs) acc = some (.lst (as.map V.ref)) ∧ Same H1 (upd (upd H' b (.lst vs)) acc (.lst (as.map V.ref ++ [.ref b]))) ∧ NL (upd (upd H' b (.lst vs)) acc (.lst (as.map V.ref ++ [.ref b]))) (zV H1) acc (as ++ [b]) (xss ++ [ys]) ∧ ∀ c ∈ as ++ [b], H1 c = none := by
 obtain ⟨e, n⟩ := nl.copy hb (fun ⟨xs, hx⟩ => by rw [ha] at hx; cases hx) (r.keep fun c o pc hc => ⟨pc, s _ _ hc⟩)
 refine iA4 e (fun c o hc => ?_) n (fun c hc => ?_)
 ·rw [upd_ne (ne_of_none hc ha), upd_ne (ne_of_none (s _ _ hc) hb)]
  exact s c o hc
 ·rcases List.mem_append.mp hc with hc | hc
  ·exact fr c hc
  ·rw [List.mem_singleton.mp hc]; exact zD s hb
theorem Wb {H1 H' : Hp} {G : Addr} {as : List Addr} {xss : List (List D)} (h : NL H' (zV H1) G as xss) (s : Same H1 H') : NL H' (zV H') G as xss := h.keep (fun _ _ _ hb => hb) fun b ⟨xs, hx⟩ _ => ⟨xs, s _ _ hx⟩
theorem V1 {bs : List (Int × Int)} {rs : List Row} {css : List (List qS)} {i : Nat} {c c' : List qS} (h : jl bs rs css) (e : css[i]? = some c) (l : c'.length = c.length) (wk : ∀ x ∈ c', qy rs x) : jl bs rs (css.set i c') := by
 refine ⟨by rw [List.length_set]; exact h.1, fun j b x h1 h2 => ?_⟩
 by_cases hj : j = i
 ·subst hj
  rw [List.getElem?_set_self (List.getElem?_eq_some_iff.mp e).1] at h2
  cases h2
  exact ⟨by rw [l]; exact (h.2 j b c h1 e).1, wk⟩
 ·rw [List.getElem?_set_ne (Ne.symm hj)] at h2
  exact h.2 j b x h1 h2
theorem zaX {rs : List Row} {gss : List (List Int)} {i : Nat} {g g' : List Int} (h : j8 rs gss) (e : gss[i]? = some g) (l : g'.length = g.length) : j8 rs (gss.set i g') := by
 refine ⟨by rw [List.length_set]; exact h.1, fun j r x h1 h2 => ?_⟩
 by_cases hj : j = i
 ·subst hj
  rw [List.getElem?_set_self (List.getElem?_eq_some_iff.mp e).1] at h2
  cases h2
  exact ⟨by rw [l]; exact (h.2 j r g h1 e).1, trivial⟩
 ·rw [List.getElem?_set_ne (Ne.symm hj)] at h2
  exact h.2 j r x h1 h2
theorem zac {rs : List Row} {c : List qS} {j : Nat} {x : qS} (h : ∀ x ∈ c, qy rs x) (hx : qy rs x) : ∀ z ∈ c.set j x, qy rs z := fun z hz => by
 rcases List.mem_or_eq_of_mem_set hz with q | q
 ·exact h z q
 ·rw [q]; exact hx
theorem Vd {rs : List Row} : qy rs none := fun s n z => by cases z
structure SP (H H' : Hp) (C SD G : Addr) (cs ags : List Addr) (bs : List (Int × Int)) (rs : List Row) (st : PSt) : Prop where
 sm : Same H H'
 ow : OW H' C SD G cs ags st
 wf : stWf bs rs st
 nw : ∀ b ∈ SD :: C :: G :: (cs ++ ags), H b = none
section
variable {H H' H2 : Hp} {C SD G : Addr} {cs ags : List Addr} {bs : List (Int × Int)} {rs : List Row} {st : PSt}
theorem SP.same (h : SP H H' C SD G cs ags bs rs st) (s : Same H' H2) : SP H H2 C SD G cs ags bs rs st := ⟨h.sm.trans s, h.ow.same s, h.wf, h.nw⟩
theorem SP.over (h : SP H H' C SD G cs ags bs rs st) {b : Addr} {o : HO} (hb : b ∈ SD :: C :: G :: (cs ++ ags)) : Same H (upd H' b o) := fun c u hc => by rw [upd_ne (ne_of_none hc (h.nw b hb))]; exact h.sm c u hc
theorem SP.putC {i : Nat} {b : Addr} {c : List qS} {vs : List V} {j : Nat} {v : V} {x : qS} (h : SP H H' C SD G cs ags bs rs st) (e : cs[i]? = some b) (ec : st.cells[i]? = some c) (r : Reps H' (zV H') vs (c.map z8)) (rx : Rep H' (zV H') v (z8 x)) (wx : qy rs x) : SP H (upd H' b (.lst (vs.set j v))) C SD G cs ags bs rs { st with cells := st.cells.set i (c.set j x) } := by
 obtain ⟨b', hb'⟩ : ∃ b', bs[i]? = some b' := ⟨_, List.getElem?_eq_getElem (by rw [← h.wf.co.1]; exact (List.getElem?_eq_some_iff.mp ec).1)⟩
 refine ⟨h.over (by simp [List.mem_of_getElem? e]), h.ow.putC e ?_, ⟨V1 h.wf.co ec (by rw [List.length_set]) (zac (h.wf.co.2 i b' c hb' ec).2 wx), h.wf.go, h.wf.so⟩, h.nw⟩
 rw [List.map_set]
 exact Reps.setAt r rx
theorem SP.putG {i : Nat} {b : Addr} {g g' : List Int} (h : SP H H' C SD G cs ags bs rs st) (e : ags[i]? = some b) (eg : st.gone[i]? = some g) (l : g'.length = g.length) : SP H (upd H' b (.lst (iv g'))) C SD G cs ags bs rs { st with gone := st.gone.set i g' } :=
 ⟨h.over (by simp [List.mem_of_getElem? e]), h.ow.putG e, ⟨h.wf.co, zaX h.wf.go eg l, h.wf.so⟩, h.nw⟩
theorem SP.putS {s' : List Int} (h : SP H H' C SD G cs ags bs rs st) (l : s'.length = st.sides.length) : SP H (upd H' SD (.lst (iv s'))) C SD G cs ags bs rs { st with sides := s' } :=
 ⟨h.over (by simp), h.ow.putS, ⟨h.wf.co, h.wf.go, by rw [← h.wf.so]; exact l⟩, h.nw⟩
end
abbrev wR (y s l : Addr) (nu : Int) (S : Addr) (sh tn : Int) (C SD G : Addr) (jb jp : Nat) (v14 v15 v16 : Option V) : St := [some (.ref y), some (.ref s), some (.ref l), some (.int nu), some (.int (nu % 9)), some (.int (nu / 9)), some (.ref S), some (.int sh), some (.int tn), some (.ref C), some (.ref SD), some (.ref G), some (.int jb), some (.int jp), v14, v15, v16]
def JM (K : PySem.W.Frag) (a : Ad) : Sp := fun vs H Q _ => ∃ (vw : V) (y l : Addr) (n : SN) (ns : List Int) (bs : List (Int × Int)) (rs : List Row) (st : PSt), vs = [vw, .ref y, .ref l] ∧ Rep H (Off []) vw (qp a bs rs) ∧ StO a H y n st ∧ stWf bs rs st ∧ SqL K H l (iv ns) ∧ 1 ≤ bs.length ∧ bs.length ≤ 24 ∧ rs.length ≤ 24 ∧ (∀ b ∈ bs, zP b.1 b.2) ∧ (∀ r ∈ rs, r.ok) ∧ HasS rs ∧ ∀ y n st H', Same H H' → StO a H' y n st → stWf bs rs st → Q (.ref y) H'
theorem J9 (T : Txt K mg a) (F : Fun K "_law_spoilt" "_law_spoilt" qY f fd) : FnOk P w K mg base (CXr P w) 3 f fd ["_law_work_here", "_law_state", "_law_script"] (JM K a) := by
 refine F.okx JW ?_ ?_
 ·walk_at "i"
 walk_at "j"
 refine oE8 h fun vw y l n ns bs rs st z1_ => oA9 z1_ fun z2_ hw so wf hl b1 b24 r24 z3_ => oA4 z3_ fun bo ro hS k => ?_
 clear h
 subst z2_
 have hw0 := hw
 refine oE7 (qj hw) fun yw dx fs l1 l2 bvs kvs z1_ => oA9 z1_ fun z2_ hy e1 e2 h1 h2 hB hK no => ?_
 subst z2_
 have lK := hK.len
 have lc : n.acs.length = st.cells.length := by rw [so.hc.len, zn, List.length_map]
 have lgn : n.ags.length = st.gone.length := by rw [so.hg.len, qf, List.length_map]
 have lcb : st.cells.length = bs.length := wf.co.1
 have lgr : st.gone.length = rs.length := wf.go.1
 have lsrc := Xe hS
 walk_at "T"
 refine ⟨_, (zg (zo 3 JW.nd (zx ⟨rfl, rfl, rfl⟩ hr (za (pq 2) (za zc zb))))  (zg (zo 4 JW.nd (zi zr (pq 3) zc))  (zg (zo 5 JW.nd (zi zH (pq 3) zc))  (zg (xS (i := 6) JW.nd rfl (Or.inl rfl) (vars := ["_law_k", "_law_knot"]) (caps := []) (N := ["_law_k", "_law_knot"]) (ON := ["_law_work_here", "_law_state", "_law_script", "_law_number", "_law_what", "_law_spot", "_law_sources", "_law_source_here", "_law_turn", "_law_cells_here", "_law_sides", "_law_gone", "_law_belt_here", "_law_place", "_law_ware", "_law_k", "_law_knot"]) (osc := zf qY) rfl rfl (by first | decide +kernel | kernel_rfl) rfl rfl (zY (za (zj (pq 0) rfl) zb)) (fun s H fp pins => (jU (n := 2) rfl (zQ (zZ 0 (show (["_law_k", "_law_knot"] : List Str).Nodup from by decide +kernel)) (zQ (zZ 1 (show (["_law_k", "_law_knot"] : List Str).Nodup from by decide +kernel)) jg)))) (fun s H fp pins => (vb (zT (zC qC zt (za (pq 1) (za qG zb))) (fun _ => rfl)))) (fun s H fp pins => (pq 0)))  (zg (zo 7 JW.nd (zF (pq 6) (zi zr (zi zH (pq 5) zc) (zC zO zN (za (pq 6) zb)))))  (zg (zo 8 JW.nd (zj (pq 1) rfl))  (zg (xS (i := 9) JW.nd rfl (Or.inl rfl) (vars := ["_law_row"]) (caps := []) (N := ["_law_row"]) (ON := ["_law_work_here", "_law_state", "_law_script", "_law_number", "_law_what", "_law_spot", "_law_sources", "_law_source_here", "_law_turn", "_law_cells_here", "_law_sides", "_law_gone", "_law_belt_here", "_law_place", "_law_ware", "_law_k", "_law_knot"]) (osc := zf qY) rfl rfl (by first | decide +kernel | kernel_rfl) rfl rfl (zW (zj (pq 1) rfl)) (fun s H fp pins => (zZ 0 (show (["_law_row"] : List Str).Nodup from by decide +kernel))) (fun s H fp pins => z6) (fun s H fp pins => (jh jv qX (za (pq 0) zb))))  (zg (zo 10 JW.nd (jh jv qX (za (zj (pq 1) rfl) zb)))  (zg (xS (i := 11) JW.nd rfl (Or.inl rfl) (vars := ["_law_counts"]) (caps := []) (N := ["_law_counts"]) (ON := ["_law_work_here", "_law_state", "_law_script", "_law_number", "_law_what", "_law_spot", "_law_sources", "_law_source_here", "_law_turn", "_law_cells_here", "_law_sides", "_law_gone", "_law_belt_here", "_law_place", "_law_ware", "_law_k", "_law_knot"]) (osc := zf qY) rfl rfl (by first | decide +kernel | kernel_rfl) rfl rfl (zW (zj (pq 1) rfl)) (fun s H fp pins => (zZ 0 (show (["_law_counts"] : List Str).Nodup from by decide +kernel))) (fun s H fp pins => z6) (fun s H fp pins => (jh jv qX (za (pq 0) zb))))  (zg (zo 12 JW.nd (zi zr (pq 5) (zC zO zN (za (pq 9) zb))))  (zg (zo 13 JW.nd (zi zr (zi zH (pq 5) zc) (zC zO zN (za (zF (pq 9) (pq 12)) zb))))  (zB (zL (zw (qx hr.units1) (pq 4) zc (zy _))  (ze (zo 8 JW.nd (zi zM (zi zM (pq 8) zc) (zi zr (pq 5) zc))))  zq)  (zB (zL (zw (qx hr.units1) (pq 4) zc (zy _))  (ze (Jj jV (Jk (zF (pq 9) (pq 12)) (pq 13) jP)))  zq)  (zB (zL (PW.pt (pw_or (zw (qx hr.units1) (pq 4) zc (zy _)) (pw_or (zw (qx hr.units1) (pq 4) zc (zy _)) (pw_or1 (zw QG (pq 4) zc (zy _))))))  (zg (zo 14 JW.nd (zx ⟨rfl, rfl, rfl⟩ hr (za (pq 0) (za (pq 1) (za (zF (zF (pq 9) (pq 12)) (pq 13)) (za (zi zH (pq 5) zc) (za (wg QG (pq 4) zc (zy _)) zb)))))))  (zg (Jj (pq 14) (Jk (zF (pq 9) (pq 12)) (pq 13) jP))  (ze (Ji (zF (pq 11) (zF (pq 14) zc)) zc Z4 (zC zO zN (za (zj (zF (zj (pq 0) rfl) (zF (pq 14) zc)) rfl) zb)) Jw jP))))  zq)  (zB (zL (zw (qx hr.units1) (pq 4) zc (zy _))  (zg (zo 15 JW.nd (zi zr (pq 5) (zC zO zN (za (pq 10) zb))))  (zg (zo 16 JW.nd (zF (zj (pq 0) rfl) (pq 15)))  (ze (zL (PW.pt (pw_or (zT (zC qC zt (za (pq 16) (za qG zb))) (fun _ => rfl)) (pw_or1 (zT (zC qC zt (za (pq 16) (za qG zb))) (fun _ => rfl)))))  (ze (Jj (zi zr (zi zM (zF (pq 10) (pq 15)) zc) (zC (wn rfl) JJ (za (zC zO zN (za (zj (pq 16) rfl) zb)) (za (zC zO zN (za (zj (pq 16) rfl) zb)) zb)))) (Jk (pq 10) (pq 15) jP)))  zq))))  zq)  (zB (zL (zw (qx hr.units1) (pq 4) zc (zy _))  (ze (Ji (zF (pq 11) (pq 7)) zc Z4 (zi zM zc (zi zr (pq 5) zc)) Jw jP))  zq)  (ze (zA (jm ⟨rfl, rfl, rfl⟩ hr (za (pq 8) (za (pq 9) (za (pq 10) (za (pq 11) zb))))))))))))))))))))))), ?_⟩
 walk_at "go"
 refine uc (xo T).mono (iE3 l ns 5000 (iA4 rfl hl (by omega) (fun nu u0 u1 => ?_)))
 walk_at "go"
 refine ⟨fd_ok (by decide) (by decide +kernel), ?_⟩
 walk_at "go"
 walk_at "lc"
 walk_at "go"
 refine ra hy T.C_Work T.N_Work_knots e2 (iE2 l2 _ (iA3 rfl h2 (fun _ _ _ _ S hSn => ?_)))
 let M1_ : Nat → St → Hp → Prop := fun i σ H' => ∃ (v0 v1 : Option V), σ = [v0, v1] ∧ Same H H' ∧ H' S = some (.lst (iv (qB .source rs i)))
 refine xX (K := K) (a := l2) (xs := kvs) M1_ (iE2 _ _ (iA3 rfl (zd hSn) upd_same)) (fun i σ H' _ h => by obtain ⟨_, _, _, s, _⟩ := h; exact SqL.of (s _ _ h2)) ?_ ?_
 ·intro i x t σ H' hi ht zz_
  refine oE2 zz_ fun v0 v1 z1_ => oA3 z1_ fun z2_ s7 e1' => ?_
  clear zz_
  subst z2_
  obtain ⟨r, hr', hKn⟩ := hK.at hi
  refine oE6 hKn.inv fun y1 dx1 m1 m2 m3 fs1 z1_ => oA9 z1_ fun z2_ _ _ _ _ q0 _ _ z3_ => oA5 z3_ fun _ _ _ _ _ => ?_
  subst z2_
  have hil := (List.getElem?_eq_some_iff.mp hr').1
  have s8 := s7.trans (zd (o := .tup [.int i, .ref y1]) ht)
  have e8 := upd_keep (o := .tup [.int i, .ref y1]) e1' ht
  refine un2 upd_same ?_
  generalize upd H' t (.tup [.int i, .ref y1]) = H8 at s8 e8 ⊢
  walk_at "go"
  refine iE2 (.ref a.Source) _ (iA3 T.g_Source rfl (iE4 _ _ _ _ (iA4 rfl ((WT T r.wd).ty (CT T r.wd) (s8 _ _ q0)) (.inl ⟨_, rfl, Qx T r.wd⟩) ?_)))
  walk_at "go"
  refine zR (fun b => ?_) (fun b => ?_)
  ·refine ⟨_, iA3 e8 (zh (by have := qJ .source rs i; rw [zk]; omega)) (iE2 _ _ (iA3 rfl (fun b o hb => by rw [upd_ne (ne_of_none hb hSn)]; exact s8 b o hb) ?_))⟩
   rw [upd_same, z9 hr', if_pos b, z3]
  ·exact iE2 _ _ (iA3 rfl s8 (by rw [z9 hr', if_neg b, List.append_nil]; exact e8))
 intro σ H1 zz_
 refine oE2 zz_ fun v0 v1 z1_ => oA3 z1_ fun z2_ s1 hS1 => ?_
 clear zz_
 subst z2_
 rw [lK] at hS1
 have hS1 : H1 S = some (.lst (iv (zp .source rs))) := hS1
 walk_at "go"
 refine ⟨fd_ok (by decide) (by decide +kernel), ?_⟩
 walk_at "go"
 refine ⟨_, .inl ⟨_, SqL.of hS1, rfl⟩, ?_⟩
 rw [zk]
 walk_at "go"
 have sl : (0 : Int) < (zp .source rs).length := by omega
 refine ⟨sl, ?_⟩
 have w0 := Int.emod_nonneg (nu / 9 / 144) (show ((zp .source rs).length : Int) ≠ 0 by omega)
 have w1 := Int.emod_lt_of_pos (nu / 9 / 144) sl
 generalize nu / 9 / 144 % ((zp .source rs).length : Int) = jj at w0 w1 ⊢
 obtain ⟨sv, hsv⟩ : ∃ y, (zp .source rs)[jj.toNat]? = some y := ⟨(zp .source rs)[jj.toNat]'(by omega), List.getElem?_eq_getElem _⟩
 refine oE2 (xk (List.mem_of_getElem? hsv)) fun j0 r0 z1_ => oA3 z1_ fun z2_ hr0 hw0' => ?_
 subst z2_
 have hix : atI (iv (zp .source rs)) jj = some (.int j0) := by
  have := zK (jq hsv)
  rw [show ((jj.toNat : Nat) : Int) = jj by omega] at this
  exact this
 refine zz (SqL.of hS1) hix ?_
 clear hix hsv w0 w1 sl
 have so1 := so.same s1
 walk_at "go"
 refine ra so1.hy T.C_State T.N_State_turn rfl ?_
 walk_at "go"
 walk_at "lc"
 walk_at "go"
 refine ra so1.hy T.C_State T.N_State_cells rfl ⟨n.lc, rfl, .inl ⟨⟨_, SqL.of so1.hc.out⟩, fun _ _ _ _ C hC => ?_⟩⟩
 let M2_ : Nat → St → Hp → Prop := fun i σ H' => ∃ (v0 : Option V) (as : List Addr), σ = [v0] ∧ Same H1 H' ∧ NL H' (zV H1) C as (zn (st.cells.take i)) ∧ ∀ b ∈ as, H1 b = none
 refine qg (K := K) (a := n.lc) (xs := n.acs.map V.ref) M2_ (iE2 _ ([]) (iA4 rfl (zd hC) (by rw [List.take_zero]; exact ZS upd_same) (by simp))) (fun i σ H' _ h => by obtain ⟨_, _, _, s, _⟩ := h; exact SqL.of (s _ _ so1.hc.out)) ?_ ?_
 ·intro i x σ H2 hi zz_
  refine oE2 zz_ fun v0 as z1_ => oA4 z1_ fun z2_ s2 nl fr => ?_
  clear zz_
  subst z2_
  rw [List.getElem?_map, Option.map_eq_some_iff] at hi
  obtain ⟨cb, hcb, rfl⟩ := hi
  have hil : i < st.cells.length := by rw [← lc]; exact (List.getElem?_eq_some_iff.mp hcb).1
  obtain ⟨c, ec⟩ : ∃ c, st.cells[i]? = some c := ⟨_, List.getElem?_eq_getElem hil⟩
  obtain ⟨vs, hvs, rvs⟩ := so1.hc.g i cb _ hcb (show (zn st.cells)[i]? = some (c.map z8) by rw [zn, List.getElem?_map, ec]; rfl)
  walk_at "go"
  refine iE2 cb _ (iA3 rfl (.inl (SqL.of (s2 _ _ hvs))) (fun b hb => ?_))
  refine oA4 (vL s2 hC nl fr hb rvs) fun c1 c2 c3 c4 => ?_
  refine ⟨_, iA3 c1 (zh (by rw [List.length_map, nl.len, List.length_map, List.length_take]; omega)) (iE2 _ (as ++ [b]) (iA4 rfl c2 ?_ c4))⟩
  rw [List.take_add_one, ec, show zn (st.cells.take i ++ (some c).toList) = zn (st.cells.take i) ++ [c.map z8] by simp [zn]]
  exact c3
 intro σ H2 zz_
 refine oE2 zz_ fun v0' cs z1_ => oA4 z1_ fun z2_ s2 nlC frC => ?_
 clear zz_
 subst z2_
 rw [List.length_map, lc, List.take_length] at nlC
 have nlC := Wb nlC s2
 have so2 := so1.same s2
 have C0 : H C = none := zD s1 hC
 walk_at "go"
 refine ra so2.hy T.C_State T.N_State_sides rfl (iE2 n.ls _ (iA3 rfl (.inl (SqL.of so2.hs)) (fun SD hSD => ?_)))
 have s3' := zd (o := .lst (iv st.sides)) hSD
 have s3 := s2.trans s3'
 have nlC3 := nlC.tup (H' := upd H2 SD (.lst (iv st.sides))) fun b o _ hb => s3' b o hb
 have hSD3 : upd H2 SD (.lst (iv st.sides)) SD = some (.lst (iv st.sides)) := upd_same
 have SD1 : H1 SD = none := zD s2 hSD
 have nSC : SD ∉ C :: cs := fun z => by obtain ⟨us, hu⟩ := nlC.isl z; rw [hu] at hSD; cases hSD
 generalize upd H2 SD (.lst (iv st.sides)) = H3 at s3 nlC3 hSD3 ⊢
 clear nlC s2 s3' hSD so2
 have so3 := so1.same s3
 walk_at "go"
 walk_at "lc"
 walk_at "go"
 refine ra so3.hy T.C_State T.N_State_gone rfl ⟨n.lg, rfl, .inl ⟨⟨_, SqL.of so3.hg.out⟩, fun _ _ _ _ G hG => ?_⟩⟩
 let M3_ : Nat → St → Hp → Prop := fun i σ H' => ∃ (v0 : Option V) (as : List Addr), σ = [v0] ∧ Same H3 H' ∧ NL H' (zV H3) G as (qf (st.gone.take i)) ∧ ∀ b ∈ as, H3 b = none
 refine qg (K := K) (a := n.lg) (xs := n.ags.map V.ref) M3_ (iE2 _ ([]) (iA4 rfl (zd hG) (by rw [List.take_zero]; exact ZS upd_same) (by simp))) (fun i σ H' _ h => by obtain ⟨_, _, _, s, _⟩ := h; exact SqL.of (s _ _ so3.hg.out)) ?_ ?_
 ·intro i x σ H4 hi zz_
  refine oE2 zz_ fun v0 as z1_ => oA4 z1_ fun z2_ s4 nl fr => ?_
  clear zz_
  subst z2_
  rw [List.getElem?_map, Option.map_eq_some_iff] at hi
  obtain ⟨gb, hgb, rfl⟩ := hi
  have hil : i < st.gone.length := by rw [← lgn]; exact (List.getElem?_eq_some_iff.mp hgb).1
  obtain ⟨g, eg⟩ : ∃ g, st.gone[i]? = some g := ⟨_, List.getElem?_eq_getElem hil⟩
  obtain ⟨gb', hgb', hgG⟩ := wM so3.hg eg
  rw [hgb] at hgb'
  cases hgb'
  walk_at "go"
  refine iE2 gb _ (iA3 rfl (.inl (SqL.of (s4 _ _ hgG))) (fun b hb => ?_))
  refine oA4 (vL s4 hG nl fr hb (reps_ints (ns := g))) fun c1 c2 c3 c4 => ?_
  refine ⟨_, iA3 c1 (zh (by rw [List.length_map, nl.len, List.length_map, List.length_take]; omega)) (iE2 _ (as ++ [b]) (iA4 rfl c2 ?_ c4))⟩
  rw [List.take_add_one, eg, show qf (st.gone.take i ++ (some g).toList) = qf (st.gone.take i) ++ [g.map D.int] by simp [qf]]
  exact c3
 intro σ H4 zz_
 refine oE2 zz_ fun v0'' ags z1_ => oA4 z1_ fun z2_ s4 nlG frG => ?_
 clear zz_
 subst z2_
 rw [List.length_map, lgn, List.take_length] at nlG
 have nlG := Wb nlG s4
 have P0 : SP H H4 C SD G cs ags bs rs st := by
  have sH3 := s1.trans s3
  have in3 : ∀ z, z ∈ SD :: C :: cs → ∃ o, H3 z = some o := fun z hz => by
   rcases List.mem_cons.mp hz with rfl | hz
   ·exact ⟨_, hSD3⟩
   ·obtain ⟨us, hu⟩ := nlC3.isl hz; exact ⟨_, hu⟩
  have out : ∀ z, z ∈ SD :: C :: cs → z ≠ G ∧ z ∉ ags := fun z hz => by
   obtain ⟨o, ho⟩ := in3 z hz
   exact ⟨(fun q => by rw [q, hG] at ho; cases ho), (fun q => by rw [frG z q] at ho; cases ho)⟩
  refine ⟨sH3.trans s4, ⟨nlC3.tup fun b o _ hb => s4 b o hb, s4 _ _ hSD3, nlG, ?_⟩, wf, fun b hb => ?_⟩
  ·simp only [List.nodup_cons, List.mem_cons, List.mem_append, not_or, List.nodup_append]
   refine iA6 (iA4 (fun z => nSC (by simp [z])) ((out SD (by simp)).1) (fun z => nSC (by simp [z])) ((out SD (by simp)).2)) ⟨(out C (by simp)).1, nlC3.nG, (out C (by simp)).2⟩ ⟨fun z => (out G (by simp [z])).1 rfl, nlG.nG⟩ nlC3.nd nlG.nd (fun u hu v hv q => ?_)
   exact (out u (by simp [hu])).2 (by rw [q]; exact hv)
  ·rcases List.mem_cons.mp hb with rfl | hb
   ·exact zD s1 SD1
   rcases List.mem_cons.mp hb with rfl | hb
   ·exact C0
   rcases List.mem_cons.mp hb with rfl | hb
   ·exact zD sH3 hG
   rcases List.mem_append.mp hb with hb | hb
   ·exact zD s1 (frC b hb)
   ·exact zD sH3 (frG b hb)
 have hS4 := s4 _ _ (s3 _ _ hS1)
 clear nlG nlC3 frG frC nSC SD1 C0 hSD3 hG s4 s3 s1 so3 so1 hS1 hSn hC
 have oc := P0.ow.nc.len
 rw [zn, List.length_map] at oc
 walk_at "go"
 refine ⟨_, .inl ⟨_, SqL.of P0.ow.nc.out, rfl⟩, ?_⟩
 rw [List.length_map, oc]
 walk_at "go"
 refine ⟨by omega, ?_⟩
 have v0 := Int.emod_nonneg (nu / 9) (show (st.cells.length : Int) ≠ 0 by omega)
 have v1 := Int.emod_lt_of_pos (nu / 9) (show (0 : Int) < st.cells.length by omega)
 obtain ⟨jb, ejb⟩ : ∃ j : Nat, nu / 9 % (st.cells.length : Int) = j := ⟨(nu / 9 % (st.cells.length : Int)).toNat, by omega⟩
 rw [ejb] at v1 ⊢
 clear v0 ejb
 obtain ⟨c, ec⟩ : ∃ c, st.cells[jb]? = some c := ⟨_, List.getElem?_eq_getElem (by omega)⟩
 obtain ⟨b, hb⟩ : ∃ b, bs[jb]? = some b := ⟨_, List.getElem?_eq_getElem (by omega)⟩
 obtain ⟨lcr, _⟩ := wf.co.2 jb b c hb ec
 have bk := (bo b (List.mem_of_getElem? hb)).1
 refine oE2 (NLC.cell P0.ow.nc ec) fun cb vs z1_ => oA3 z1_ fun hcb hvs rvs => ?_
 have hmapC : (cs.map V.ref)[jb]? = some (.ref cb) := by rw [List.getElem?_map, hcb]; rfl
 have lv : vs.length = c.length := by rw [rvs.len, List.length_map]
 walk_at "go"
 refine ⟨fd_ok (by decide) (by decide +kernel), ?_⟩
 walk_at "go"
 refine zz (SqL.of P0.ow.nc.out) (zK hmapC) ⟨_, .inl ⟨_, SqL.of hvs, rfl⟩, ?_⟩
 rw [lv]
 walk_at "go"
 refine ⟨by omega, ?_⟩
 have v2 := Int.emod_nonneg (nu / 9 / 24) (show (c.length : Int) ≠ 0 by omega)
 have v3 := Int.emod_lt_of_pos (nu / 9 / 24) (show (0 : Int) < c.length by omega)
 obtain ⟨jp, ejp⟩ : ∃ j : Nat, nu / 9 / 24 % (c.length : Int) = j := ⟨(nu / 9 / 24 % (c.length : Int)).toNat, by omega⟩
 rw [ejp] at v3 ⊢
 clear v2 ejp lv
 walk_at "go"
 let M4_ : St → Hp → Prop := fun σ' H' => ∃ tn : Int, σ' = wR yw y l nu S j0 tn C SD G jb jp none none none ∧ H' = H4
 refine cut M4_ ?_ ?_
 ·walk_at "go"
  exact zR (fun _ => ⟨_, rfl, rfl⟩) (fun _ => ⟨_, rfl, rfl⟩)
 rintro σ' H5 ⟨tn, rfl, rfl⟩
 walk_at "go"
 let M5_ : St → Hp → Prop := fun σ' H' => ∃ (st' : PSt) (c : List qS), σ' = wR yw y l nu S j0 tn C SD G jb jp none none none ∧ SP H H' C SD G cs ags bs rs st' ∧ st'.cells[jb]? = some c ∧ jp < c.length
 refine cut M5_ ?_ ?_
 ·walk_at "go"
  refine zR (fun _ => ?_) (fun _ => ⟨st, c, rfl, P0, ec, by omega⟩)
  refine oE2 (NLC.cell P0.ow.nc ec) fun cb vs z1_ => oA3 z1_ fun hcb' hvs rvs => ?_
  rw [hcb] at hcb'
  cases hcb'
  have lv : vs.length = c.length := by rw [rvs.len, List.length_map]
  have P1 := P0.putC (j := jp) hcb ec rvs .non Vd
  walk_at "go"
  refine zz (SqL.of P0.ow.nc.out) (zK hmapC) (xz hvs (wL (by omega) (by omega)) ?_)
  rw [Int.toNat_natCast]
  exact ⟨_, c.set jp none, rfl, P1, List.getElem?_set_self (by omega), by simp; omega⟩
 clear P0 ec lcr oc v3 hS4
 intro σ' H5 zz_
 refine oE2 zz_ fun st2 c2 z1_ => oA4 z1_ fun z2_ P2 ec2 jp2 => ?_
 clear zz_
 subst z2_
 walk_at "go"
 let M6_ : St → Hp → Prop := fun σ' H' => ∃ (v14 : Option V) (st' : PSt), σ' = wR yw y l nu S j0 tn C SD G jb jp v14 none none ∧ SP H H' C SD G cs ags bs rs st'
 refine cut M6_ ?_ ?_
 ·refine oE2 (NLC.cell P2.ow.nc ec2) fun cb vs z1_ => oA3 z1_ fun hcb' hvs rvs => ?_
  rw [hcb] at hcb'
  cases hcb'
  have lv : vs.length = c2.length := by rw [rvs.len, List.length_map]
  obtain ⟨vp, hvp⟩ : ∃ z, vs[jp]? = some z := ⟨vs[jp]'(by omega), List.getElem?_eq_getElem _⟩
  obtain ⟨d, hd, rvp⟩ := rvs.at hvp
  rw [List.getElem?_map, Option.map_eq_some_iff] at hd
  obtain ⟨wr, hwr, rfl⟩ := hd
  have wkp := (P2.wf.co.2 jb b c2 hb ec2).2 wr (List.mem_of_getElem? hwr)
  have hmapC : (cs.map V.ref)[jb]? = some (.ref cb) := by rw [List.getElem?_map, hcb]; rfl
  walk_at "go"
  refine wm (C := nu % 9 = 4 ∨ 6 < nu % 9) (fun _ => ?_) (fun _ hp => ?_)
  ·walk_at "go"
   refine uc (Qd T).mono (zz (SqL.of P2.ow.nc.out) (zK hmapC) (zz (SqL.of hvs) (zK hvp) ?_))
   walk_at "go"
   refine ⟨fd_ok (by decide) (by decide +kernel), ?_⟩
   walk_at "go"
   refine iE8 (.ref yw) vp y n wr _ _ bs (iE3 rs st _ (iA6 rfl (hw0.same P2.sm) (so.same P2.sm) wf rvp (iA5 wkp r24 ro hS (fun v x H6 s6 rv wkx => ?_))))
   have P3 := P2.same s6
   obtain ⟨tv, rfl, htv⟩ := jA (b := x) rv
   refine oE2 (wkx x.1 x.2 rfl) fun jx rx z1_ => oA4 z1_ fun ejx hrx hsx _ => ?_
   rw [ejx] at htv
   have hvs6 := s6 _ _ hvs
   have rvs6 := qt rvs s6
   have P4 := P3.putC (j := jp) hcb ec2 rvs6 rv wkx
   walk_at "go"
   refine zz (SqL.of P3.ow.nc.out) (zK hmapC) (xz hvs6 (wL (by omega) (by omega)) ?_)
   rw [Int.toNat_natCast]
   have nvc : tv ≠ cb := fun z => by rw [z, hvs6] at htv; cases htv
   have htv7 : upd H6 cb (.lst (vs.set jp (.ref tv))) tv = some (.tup [.int jx, .int x.2]) := by rw [upd_ne nvc]; exact htv
   generalize upd H6 cb (.lst (vs.set jp (.ref tv))) = H7 at P4 htv7 ⊢
   clear P3 hvs6 rvs6 rv htv
   have hjx := (List.getElem?_eq_some_iff.mp hrx).1
   obtain ⟨g, hg⟩ : ∃ g, st2.gone[jx]? = some g := ⟨_, List.getElem?_eq_getElem (by rw [P2.wf.go.1]; exact hjx)⟩
   have q1 := (P2.wf.go.2 jx rx g hrx hg).1
   have cp := jB (ro rx (List.mem_of_getElem? hrx))
   obtain ⟨gh, gs, rfl⟩ := List.exists_cons_of_ne_nil (List.ne_nil_of_length_pos (by omega : 0 < g.length))
   obtain ⟨bG, hbG, hgG⟩ := wM P4.ow.ng (show st2.gone[jx]? = some (gh :: gs) from hg)
   have hmapG : (ags.map V.ref)[jx]? = some (.ref bG) := by rw [List.getElem?_map, hbG]; rfl
   obtain ⟨kv, hkv, hKn⟩ := wl hK hrx
   refine oE6 hKn.inv fun y1 dx1 m1 m2 m3 fs1 z1_ => oA9 z1_ fun z2_ _ _ _ _ q0 _ _ z3_ => oA5 z3_ fun _ _ _ g3 _ => ?_
   subst z2_
   obtain ⟨g3a, g3b⟩ := g3 hsx
   have sm := P4.sm
   walk_at "go"
   unfold WA
   walk_at "go"
   refine rd_ixT htv7 at0 (zz (SqL.of P4.ow.ng.out) (zK hmapG) ?_)
   refine iE4 bG _ 0 _ (iA6 rfl rfl (SqL.of hgG) (by decide) at0 ?_)
   walk_at "go"
   refine ra (sm _ _ hy) T.C_Work T.N_Work_knots e2 (rd_ixT htv7 at0 (zz (SqL.of (sm _ _ h2)) (zK hkv) ?_))
   refine iE5 y1 (jr a rx.wd) dx1 fs1 _ (iA6 rfl (sm _ _ q0) (CT T _) (by rw [hsx]; exact T.N_Source_kinds) g3a ⟨_, ⟨.inl ⟨_, SqL.of (sm _ _ g3b), rfl⟩, ?_⟩⟩)
   walk_at "go"
   refine xz hgG (wL (by decide) (by simp [iv])) ?_
   generalize gh + ((iv rx.kinds).length : Int) = gz
   have e5 : (iv (gh :: gs)).set (Int.toNat 0) (.int gz) = iv (gz :: gs) := by simp [iv]
   rw [e5]
   exact iE2 _ _ ⟨rfl, P4.putG (g' := gz :: gs) hbG hg rfl⟩
  walk_at "go"
  refine wm (C := 6 < nu % 9) (fun z => hp z) (fun _ hp => ?_)
  walk_at "go"
  exact zR (fun z => hp z) (fun _ => (iE2 _ st2 ⟨rfl, P2⟩))
 clear P2 ec2 jp2
 intro σ' H6 zz_
 refine oE2 zz_ fun v14 st3 z1_ => oA2 z1_ fun z2_ P3 => ?_
 clear zz_
 subst z2_
 walk_at "go"
 let M7_ : St → Hp → Prop := fun σ' H' => ∃ (v15 v16 : Option V) (st' : PSt), σ' = wR yw y l nu S j0 tn C SD G jb jp v14 v15 v16 ∧ SP H H' C SD G cs ags bs rs st'
 refine cut M7_ ?_ ?_
 ·walk_at "go"
  refine zR (fun _ => ?_) (fun _ => (iE3 _ _ st3 ⟨rfl, P3⟩))
  have ls := P3.wf.so
  have lr : 0 < rs.length := by
   obtain ⟨r, hr, _⟩ := hS
   exact List.length_pos_of_mem hr
  walk_at "go"
  refine ⟨_, .inl ⟨_, SqL.of P3.ow.hs, rfl⟩, ?_⟩
  rw [zk, ls]
  walk_at "go"
  refine ⟨by omega, ?_⟩
  have z0 := Int.emod_nonneg (nu / 9) (show (rs.length : Int) ≠ 0 by omega)
  have z1 := Int.emod_lt_of_pos (nu / 9) (show (0 : Int) < rs.length by omega)
  obtain ⟨jk, ejk⟩ : ∃ j : Nat, nu / 9 % (rs.length : Int) = j := ⟨(nu / 9 % (rs.length : Int)).toNat, by omega⟩
  rw [ejk] at z1 ⊢
  clear z0 ejk
  obtain ⟨r, hr'⟩ : ∃ r, rs[jk]? = some r := ⟨_, List.getElem?_eq_getElem (by omega)⟩
  obtain ⟨kv, hkv, hKn⟩ := wl hK hr'
  refine oE6 hKn.inv fun y1 dx1 m1 m2 m3 fs1 z1_ => oA9 z1_ fun z2_ _ _ _ _ q0 qa qb z3_ => oA5 z3_ fun _ qi qo _ _ => ?_
  subst z2_
  have cp := jB (ro r (List.mem_of_getElem? hr'))
  have cl := vk r
  obtain ⟨sj, hsj⟩ : ∃ z, st3.sides[jk]? = some z := ⟨_, List.getElem?_eq_getElem (by omega)⟩
  have sm := P3.sm
  walk_at "go"
  refine ra (sm _ _ hy) T.C_Work T.N_Work_knots e2 (zz (SqL.of (sm _ _ h2)) (zK hkv) ?_)
  walk_at "go"
  refine iE2 (.ref a.Parter) _ (iA3 T.g_Parter rfl (iE4 _ _ _ _ (iA4 rfl ((WT T r.wd).ty (CT T r.wd) (sm _ _ q0)) (.inl ⟨_, rfl, zcS T r.wd⟩) ?_)))
  walk_at "go"
  refine wm (C := r.wd = .joiner) (fun _ => ?_) (fun _ hp => ?_)
  ·walk_at "go"
   refine zz (SqL.of P3.ow.hs) (zK (jq hsj)) ?_
   walk_at "go"
   refine ra (sm _ _ q0) (CT T _) (NI T _) qa ⟨_, iA3 (.inl ⟨_, SqL.of (sm _ _ qi), rfl⟩) m_len (iE5 y1 (jr a r.wd) dx1 fs1 _ (iA6 rfl (sm _ _ q0) (CT T _) (NO T _) qb ⟨_, ⟨.inl ⟨_, SqL.of (sm _ _ qo), rfl⟩, iE2 _ _ ⟨rfl, ?_⟩⟩⟩))⟩
   rw [zk, zk, zaI, ← cl]
   walk_at "go"
   refine ⟨by omega, xz P3.ow.hs (wL (by omega) (by rw [zk]; omega)) ?_⟩
   rw [Int.toNat_natCast, Wj]
   exact iE3 _ _ _ ⟨rfl, P3.putS (by rw [List.length_set])⟩
  walk_at "go"
  refine iE2 (.ref a.Joiner) _ (iA3 T.g_Joiner rfl (iE4 _ _ _ _ (iA4 rfl ((WT T r.wd).ty (CT T r.wd) (sm _ _ q0)) (.inl ⟨_, rfl, zcT T r.wd⟩) ?_)))
  walk_at "go"
  exact zR (fun z => hp z) (fun _ => (iE3 _ _ st3 ⟨rfl, P3⟩))
 clear P3
 intro σ' H7 zz_
 refine oE3 zz_ fun v15 v16 st4 z1_ => oA2 z1_ fun z2_ P4 => ?_
 clear zz_
 subst z2_
 walk_at "go"
 let M8_ : St → Hp → Prop := fun σ' H' => ∃ (st' : PSt), σ' = wR yw y l nu S j0 tn C SD G jb jp v14 v15 v16 ∧ SP H H' C SD G cs ags bs rs st'
 refine cut M8_ ?_ ?_
 ·walk_at "go"
  refine zR (fun _ => ?_) (fun _ => ⟨st4, rfl, P4⟩)
  have hj0 := (List.getElem?_eq_some_iff.mp hr0).1
  obtain ⟨g, hg⟩ : ∃ g, st4.gone[j0]? = some g := ⟨_, List.getElem?_eq_getElem (by rw [P4.wf.go.1]; exact hj0)⟩
  have q1 := (P4.wf.go.2 j0 r0 g hr0 hg).1
  have cp := jB (ro r0 (List.mem_of_getElem? hr0))
  obtain ⟨gh, gs, rfl⟩ := List.exists_cons_of_ne_nil (List.ne_nil_of_length_pos (by omega : 0 < g.length))
  obtain ⟨bG, hbG, hgG⟩ := wM P4.ow.ng hg
  have hmapG : (ags.map V.ref)[j0]? = some (.ref bG) := by rw [List.getElem?_map, hbG]; rfl
  walk_at "go"
  unfold WA
  walk_at "go"
  refine zz (SqL.of P4.ow.ng.out) (zK hmapG) ?_
  refine iE4 bG _ 0 _ (iA6 rfl rfl (SqL.of hgG) (by decide) at0 ?_)
  walk_at "go"
  refine xz hgG (wL (by decide) (by simp [iv])) ?_
  generalize gh + (1 + nu / 9 % 6) = gz
  have e5 : (iv (gh :: gs)).set (Int.toNat 0) (.int gz) = iv (gz :: gs) := by simp [iv]
  rw [e5]
  exact ⟨_, rfl, P4.putG (g' := gz :: gs) hbG hg rfl⟩
 clear P4
 rintro σ' H8 ⟨st5, rfl, P5⟩
 walk_at "go"
 refine iE4 a.State _ _ _ ⟨(Ju T).mono, ?_⟩
 refine ZU T (st := ⟨tn, st5.cells, st5.sides, st5.gone⟩) P5.ow.nc.rep (zX (p := Off []) (fun z => nomatch z) P5.ow.hs) P5.ow.ng.rep (by show st5.cells.length ≤ 100; rw [P5.wf.co.1]; omega) (by show st5.gone.length ≤ 100; rw [P5.wf.go.1]; omega) fun y' H9 s9 sn => ?_
 refine oE2 sn fun y2 n2 z1_ => oA3 z1_ fun e so9 _ => ?_
 clear sn
 cases e
 exact k y' n2 _ H9 (P5.sm.trans s9) so9 ⟨P5.wf.co, P5.wf.go, P5.wf.so⟩
theorem Wv (T : Txt K mg a) : Cal P w K mg base "_law_spoilt" 3 ["_law_work_here", "_law_state", "_law_script"] [] (JM K a) := T.h_L_spoilt.cal (J9 T)
theorem JC {H : Hp} {n : Nat} {x : V} (h : xn x = true) (e : eqV x x = true) : DE K H n x x true := e ▸ .flat h h
theorem zbE {H : Hp} {t1 t2 : Addr} {x : Int × Int} (h1 : H t1 = some (.tup [.int x.1, .int x.2])) (h2 : H t2 = some (.tup [.int x.1, .int x.2])) : DE K H 1 (.ref t1) (.ref t2) true := by
 by_cases e : t1 = t2
 ·rw [e]; exact .same
 ·refine DE.tuples (n := 0) (e := fun _ => true) e (SqT.of h1) (SqT.of h2) fun j u v hu hv => ?_
  rw [hu] at hv
  cases hv
  have : u ∈ [V.int x.1, V.int x.2] := List.mem_of_getElem? hu
  simp only [List.mem_cons, List.not_mem_nil, or_false] at this
  rcases this with rfl | rfl
  ·exact JC rfl (by simp [eqV])
  ·exact JC rfl (by simp [eqV])
theorem za5 {H : Hp} {n : Nat} {p q : Addr} {xs ys : List V} (h1 : H p = some (.lst xs)) (h2 : H q = some (.lst ys)) (hl : xs.length = ys.length) (hd : ∀ (j : Nat) x y, xs[j]? = some x → ys[j]? = some y → DE K H n x y true) : DE K H (n + 1) (.ref p) (.ref q) true := by
 by_cases e : p = q
 ·subst e; exact .same
 ·have := DE.lists (n := n) (e := fun _ => true) e (SqL.of h1) (SqL.of h2) hl hd
  rw [List.all_eq_true.mpr (fun _ _ => rfl)] at this
  exact this
theorem za4 {H : Hp} {p q : Addr → Prop} {vs ws : List V} {c : List qS} (h1 : Reps H p vs (c.map z8)) (h2 : Reps H q ws (c.map z8)) (j : Nat) (x y : V) (e1 : vs[j]? = some x) (e2 : ws[j]? = some y) : DE K H 1 x y true := by
 obtain ⟨d, hd, r1⟩ := h1.at e1
 have r2 := h2.g j y d e2 hd
 rw [List.getElem?_map, Option.map_eq_some_iff] at hd
 obtain ⟨wr, _, rfl⟩ := hd
 cases wr with
 | none =>
  have r1 : Rep H p x .non := r1
  have r2 : Rep H q y .non := r2
  cases r1
  cases r2
  exact JC rfl rfl
 | some z =>
  obtain ⟨t1, rfl, h1⟩ := jA (b := z) r1
  obtain ⟨t2, rfl, h2⟩ := jA (b := z) r2
  exact zbE h1 h2
theorem zbF {H : Hp} {p q : Addr → Prop} {G G' : Addr} {as as' : List Addr} {cs : List (List qS)} {j : Nat} {x y : V} (h1 : NL H p G as (zn cs)) (h2 : NL H q G' as' (zn cs)) (e1 : (as.map V.ref)[j]? = some x) (e2 : (as'.map V.ref)[j]? = some y) : DE K H 2 x y true := by
 rw [List.getElem?_map, Option.map_eq_some_iff] at e1 e2
 obtain ⟨b1, e1, rfl⟩ := e1
 obtain ⟨b2, e2, rfl⟩ := e2
 have hj : j < cs.length := by have := (List.getElem?_eq_some_iff.mp e1).1; rw [h1.len, zn, List.length_map] at this; exact this
 have ec : (zn cs)[j]? = some (cs[j].map z8) := by rw [zn, List.getElem?_map, List.getElem?_eq_getElem hj]; rfl
 obtain ⟨vs, g1, r1⟩ := h1.g j b1 _ e1 ec
 obtain ⟨ws, g2, r2⟩ := h2.g j b2 _ e2 ec
 exact za5 g1 g2 (by rw [r1.len, r2.len]) (za4 r1 r2)
theorem zbu {X : Cx} : OpR X (compareOp .IsNot) (fun x y H Q => ∃ c d, x = .bl c ∧ y = .bl d ∧ Q (.bl (c != d)) H) := by
 intro pins s σ H x y v u Q I rx ry h
 refine oE2 h fun c d z1_ => oA3 z1_ fun z2_ z3_ q => ?_
 clear h
 subst z2_ z3_
 cases rx
 cases ry
 exact PyProof.Rows.isnot_bool (zS I q rfl)
theorem zat {H : Hp} {Q : VK} {i j : Bool} (q : Q (.bl (!decide (i = j))) H) : Vt K (.bl i) (.bl j) H Q := .inl ⟨rfl, by
 rw [show decide (V.bl i = V.bl j) = decide (i = j) by simp]
 exact q⟩
def JP (K : PySem.W.Frag) : Sp := fun vs H Q _ => ∃ (l : Addr) (ns : List Int), vs = [.ref l] ∧ SqL K H l (ns.map V.int) ∧ ns.length ≤ 63 ∧ ∀ H', Q (.bl true) H'
theorem zb7 (T : Txt K mg a) (F : Fun K "law" "law" vW f fd) : FnOk P w K mg base (CXr P w) 8 f fd ["_law_script"] (JP K) := by
 refine F.okx zbX ?_ ?_
 ·walk_at "i"
 walk_at "j"
 refine oE2 h fun l ns z1_ => oA4 z1_ fun z2_ hl hn k => ?_
 clear h
 subst z2_
 walk_at "T"
 refine ⟨_, (zg (zo 1 zbX.nd (zx ⟨rfl, rfl, rfl⟩ hr (za (pq 0) zb)))  (zg (zo 2 zbX.nd (zx ⟨rfl, rfl, rfl⟩ hr (za (pq 1) zb)))  (zg (zo 3 zbX.nd (zx ⟨rfl, rfl, rfl⟩ hr (za (pq 1) (za (pq 0) zb))))  (zg (zo 4 zbX.nd (zx ⟨rfl, rfl, rfl⟩ hr (za (pq 1) (za (zx ⟨rfl, rfl, rfl⟩ hr (za (pq 1) (za (pq 3) (za (pq 0) (za (pq 2) zb))))) (za (pq 0) zb)))))  (zg (zo 5 zbX.nd (wg (qx hr.units1) (zx ⟨rfl, rfl, rfl⟩ hr (za (pq 1) (za (pq 3) (za (pq 2) zb)))) (zx ⟨rfl, rfl, rfl⟩ hr (za (pq 1) (za (pq 4) (za (pq 2) zb)))) (zy _)))  (zg (xS (i := 6) zbX.nd rfl (Or.inl rfl) (vars := ["_law_row"]) (caps := []) (N := ["_law_row"]) (ON := ["_law_script", "_law_work_here", "_law_beat_here", "_law_one", "_law_other", "_law_due", "_law_kept", "_law_first", "_law_second", "_law_found"]) (osc := zf vW) rfl rfl (by first | decide +kernel | kernel_rfl) rfl rfl (zW (zj (pq 3) rfl)) (fun s H fp pins => (zZ 0 (show (["_law_row"] : List Str).Nodup from by decide +kernel))) (fun s H fp pins => z6) (fun s H fp pins => (jh jv qX (za (pq 0) zb))))  (zg (zo 7 zbX.nd (zx ⟨rfl, rfl, rfl⟩ hr (za (pq 1) (za (pq 3) zb))))  (zg (zo 8 zbX.nd (zx ⟨rfl, rfl, rfl⟩ hr (za (pq 1) (za (pq 4) zb))))  (zg (zL (PW.pt (pw_or (jT (zT (zC qC zt (za (pq 7) (za (zax qR) zb))) (fun _ => rfl))) (pw_or (jT (zT (zC qC zt (za (pq 8) (za (zax qR) zb))) (fun _ => rfl))) (pw_or1 (zw (ZQ hr.units1) (wg (qx hr.units1) (pq 7) (pq 8) (zy _)) (pq 5) (zy _))))))  (ze (zA WJ))  zq)  (zB (qc qH rfl (zW (zE (za (zx ⟨rfl, rfl, rfl⟩ hr (za (pq 1) (za (pq 3) (za (pq 4) zb)))) (za (zx ⟨rfl, rfl, rfl⟩ hr (za (pq 1) (za (pq 4) (za (pq 3) zb)))) zb)))) (zZ 9 zbX.nd)  (ze (zL (PW.pt (pw_or (jT (zT (zC qC zt (za (pq 9) (za (zax zbG) zb))) (fun _ => rfl))) (pw_or1 (zw (ZQ hr.units1) (pq 9) (pq 5) (zy _)))))  (ze (zA WJ))  zq)))  (zg (zL (PW.pt (pw_or (zw zbu (zx ⟨rfl, rfl, rfl⟩ hr (za (pq 1) (za (pq 3) (za (pq 3) zb)))) WJ (zy _)) (pw_or1 (zw (ZQ hr.units1) (zx ⟨rfl, rfl, rfl⟩ hr (za (pq 1) (za (pq 3) zb))) (pq 7) (zy _)))))  (ze (zA WJ))  zq)  (ze (zA (wg (qx hr.units1) (zj (pq 3) rfl) (pq 6) (zy _))))))))))))))), ?_⟩
 walk_at "go"
 refine uc (za8 T).mono (Wo l ns rfl hl (fun vw H1 bs rs s1 hw wok bo ro hS => ?_))
 have b1 := wok.1.1.1
 have b24 := wok.1.1.2
 have r24 := wok.1.2.2
 have hl1 := qD s1 hl
 clear s1 hl hn
 walk_at "go"
 refine uc (zba T).mono (VQ vw bs rs _ rfl hw b24 r24 bo ro (fun H2 s2 => ?_))
 have hw2 := hw.same s2
 have hl2 := qD s2 hl1
 clear hw hl1 s2
 walk_at "go"
 refine uc (za9 T).mono (zaU vw l ns bs rs rfl hw2 hl2 b24 r24 bo ro hS (fun y1 n1 st1 H3 s3 so1 wf1 => ?_))
 have hw3 := hw2.same s3
 have hl3 := qD s3 hl2
 clear hw2 hl2 s3
 walk_at "go"
 refine uc (Wv T).mono (uc (XB T).mono (Xs vw y1 l n1 _ ns bs rs st1 rfl hw3 so1 wf1 hl3 b24 r24 bo ro (fun y0 n0 st0 H4 s4 so0 wf0 => ?_)))
 refine iE8 vw y0 l n0 ns bs rs st0 (iA9 rfl (hw3.same s4) so0 wf0 (qD s4 hl3) b1 b24 r24 (iA4 bo ro hS (fun y2 n2 st2 H5 s5 so2 wf2 => ?_)))
 have s35 := s4.trans s5
 have hw5 := hw3.same s35
 have so15 := so1.same s35
 clear hw3 hl3 s4 s5 so0 wf0 so1 s35
 walk_at "go"
 refine uc (QS T).mono (Z0 vw y1 n1 bs rs st1 _ rfl hw5 so15 wf1 b24 r24 bo ro (fun t1 H6 s6 r1 => ?_))
 refine uc (QS T).mono (Z0 vw y2 n2 bs rs st2 _ rfl (hw5.same s6) (so2.same s6) wf2 b24 r24 bo ro (fun t2 H7 s7 r2 => ?_))
 refine .inr (.inr (Zq false (qu r1 s7) r2 ?_))
 have s67 := s6.trans s7
 have hw7 := hw5.same s67
 have so17 := so15.same s67
 have so27 := so2.same s67
 clear hw5 so15 so2 s6 s7 s67 r1 r2
 have lc : n1.acs.length = st1.cells.length := by rw [so17.hc.len, zn, List.length_map]
 have lcb : st1.cells.length = bs.length := wf1.co.1
 walk_at "go"
 walk_at "lc"
 walk_at "go"
 refine ra so17.hy T.C_State T.N_State_cells rfl ⟨n1.lc, rfl, .inl ⟨⟨_, SqL.of so17.hc.out⟩, fun _ _ _ _ C hC => ?_⟩⟩
 let M1_ : Nat → St → Hp → Prop := fun i σ H' => ∃ (v0 : Option V) (as : List Addr), σ = [v0] ∧ Same H7 H' ∧ NL H' (zV H7) C as (zn (st1.cells.take i)) ∧ ∀ b ∈ as, H7 b = none
 refine qg (K := K) (a := n1.lc) (xs := n1.acs.map V.ref) M1_ (iE2 _ ([]) (iA4 rfl (zd hC) (by rw [List.take_zero]; exact ZS upd_same) (by simp))) (fun i σ H' _ h => by obtain ⟨_, _, _, s, _⟩ := h; exact SqL.of (s _ _ so17.hc.out)) ?_ ?_
 ·intro i x σ H8 hi zz_
  refine oE2 zz_ fun v0 as z1_ => oA4 z1_ fun z2_ s8 nl fr => ?_
  clear zz_
  subst z2_
  rw [List.getElem?_map, Option.map_eq_some_iff] at hi
  obtain ⟨cb, hcb, rfl⟩ := hi
  have hil : i < st1.cells.length := by rw [← lc]; exact (List.getElem?_eq_some_iff.mp hcb).1
  obtain ⟨c, ec⟩ : ∃ c, st1.cells[i]? = some c := ⟨_, List.getElem?_eq_getElem hil⟩
  obtain ⟨vs, hvs, rvs⟩ := so17.hc.g i cb _ hcb (show (zn st1.cells)[i]? = some (c.map z8) by rw [zn, List.getElem?_map, ec]; rfl)
  walk_at "go"
  refine iE2 cb _ (iA3 rfl (.inl (SqL.of (s8 _ _ hvs))) (fun b hb => ?_))
  refine oA4 (vL s8 hC nl fr hb rvs) fun c1 c2 c3 c4 => ?_
  refine ⟨_, iA3 c1 (zh (by rw [List.length_map, nl.len, List.length_map, List.length_take]; omega)) (iE2 _ (as ++ [b]) (iA4 rfl c2 ?_ c4))⟩
  rw [List.take_add_one, ec, show zn (st1.cells.take i ++ (some c).toList) = zn (st1.cells.take i) ++ [c.map z8] by simp [zn]]
  exact c3
 intro σ H8 zz_
 refine oE2 zz_ fun v0 cs z1_ => oA4 z1_ fun z2_ s8 nlC _ => ?_
 clear zz_
 subst z2_
 rw [List.length_map, lc, List.take_length] at nlC
 have nlC := Wb nlC s8
 have hw8 := hw7.same s8
 have so18 := so17.same s8
 have so28 := so27.same s8
 clear hw7 so17 so27 s8 hC
 walk_at "go"
 refine uc (jX T).mono (xl vw y1 n1 bs rs st1 _ rfl hw8 so18 wf1 b24 r24 bo ro (fun t1 H9 s9 r1 => ?_))
 walk_at "go"
 refine uc (jX T).mono (xl vw y2 n2 bs rs st2 _ rfl (hw8.same s9) (so28.same s9) wf2 b24 r24 bo ro (fun t2 H10 s10 r2 => ?_))
 have r1 := qu r1 s10
 have s8' := s9.trans s10
 have hw10 := hw8.same s8'
 have so110 := so18.same s8'
 have so210 := so28.same s8'
 have nlC10 := nlC.tup (H' := H10) fun b o _ hb => s8' b o hb
 clear hw8 so18 so28 nlC s9 s10 s8'
 refine oE2 (Rep.tup' r1) fun _ us1 z1_ => oA4 z1_ fun e1 _ ht1 _ => ?_
 refine oE2 (Rep.tup' r2) fun _ us2 z1_ => oA4 z1_ fun e2 _ ht2 _ => ?_
 cases e1
 cases e2
 walk_at "go"
 refine WN ht1 ?_
 walk_at "go"
 refine WN ht2 ?_
 walk_at "go"
 refine .inr (.inr (Zq false r1 r2 ?_))
 refine zat ?_
 generalize hdu : decide (shapeF bs rs st1 = shapeF bs rs st2) = du
 walk_at "go"
 let M2_ : St → Hp → Prop := fun σ' H' => ∃ (v9 : Option V), σ' = [some (.ref l), some vw, some (.int (beatL bs rs)), some (.ref y1), some (.ref y2), some (.bl du), some (.ref C), some (.ref t1), some (.ref t2), v9] ∧ Same H10 H'
 refine cut M2_ ?_ ?_
 ·walk_at "for"
  walk_at "go"
  refine uc (JI T).mono (vK vw y1 y2 n1 n2 bs rs st1 st2 _ rfl hw10 so110 so210 wf1 wf2 b24 r24 bo ro (fun H11 s11 => ?_))
  refine uc (JI T).mono (vK vw y2 y1 n2 n1 bs rs st2 st1 _ rfl (hw10.same s11) (so210.same s11) (so110.same s11) wf2 wf1 b24 r24 bo ro (fun H12 s12 => ?_))
  rw [show decide (shapeF bs rs st2 = shapeF bs rs st1) = decide (shapeF bs rs st1 = shapeF bs rs st2) by rw [decide_eq_decide]; exact eq_comm, hdu]
  intro B hB
  have s13 := (s11.trans s12).trans (zd (o := .lst [V.bl du, .bl du]) hB)
  have hB13 : upd H12 B (.lst [V.bl du, .bl du]) B = some (.lst [V.bl du, .bl du]) := upd_same
  generalize upd H12 B (.lst [V.bl du, .bl du]) = H13 at s13 hB13 ⊢
  refine ⟨B, rfl, .inl ⟨⟨_, SqL.of hB13⟩, ?_⟩⟩
  let M3_ : Nat → St → Hp → Prop := fun i σ H' => ∃ (v9 : Option V), σ = [some (.ref l), some vw, some (.int (beatL bs rs)), some (.ref y1), some (.ref y2), some (.bl du), some (.ref C), some (.ref t1), some (.ref t2), v9] ∧ H' = H13
  refine qg (K := K) (a := B) (xs := [V.bl du, .bl du]) M3_ ⟨_, rfl, rfl⟩ (fun i σ H' _ h => by obtain ⟨_, _, rfl⟩ := h; exact SqL.of hB13) ?_ ?_
  ·rintro i x σ H14 hi ⟨v9, rfl, rfl⟩
   have ex : x = .bl du := by
    match i, hi with
    | 0, hi => cases hi; rfl
    | 1, hi => cases hi; rfl
   subst ex
   walk_at "go"
   refine zat ?_
   walk_at "go"
   exact ⟨_, rfl, rfl⟩
  ·rintro σ H14 ⟨v9, rfl, rfl⟩
   exact ⟨_, rfl, s13⟩
 rintro σ' H11 ⟨v9, rfl, s11⟩
 walk_at "go"
 refine uc (JI T).mono (vK vw y1 y1 n1 n1 bs rs st1 st1 _ rfl (hw10.same s11) (so110.same s11) (so110.same s11) wf1 wf1 b24 r24 bo ro (fun H12 s12 => ?_))
 refine iE2 _ _ (iA3 rfl rfl ?_)
 walk_at "go"
 refine uc (jX T).mono (xl vw y1 n1 bs rs st1 _ rfl (hw10.same (s11.trans s12)) (so110.same (s11.trans s12)) wf1 b24 r24 bo ro (fun t3 H13 s13 r3 => ?_))
 have sE := (s11.trans s12).trans s13
 refine .inr (.inr (Zq true r3 (qu r1 sE) ?_))
 have so113 := so110.same sE
 have nlC13 := nlC10.tup (H' := H13) fun b o _ hb => sE b o hb
 walk_at "go"
 refine ra so113.hy T.C_State T.N_State_cells rfl ?_
 refine .inr (.inr (iE6 n1.lc C _ _ 2 (fun _ => true) (iA5 rfl rfl (by decide) (fun j x y' hx hy => ?_) (.inl (iA4 (SqL.of so113.hc.out) (SqL.of nlC13.out) (by rw [List.length_map, List.length_map, so113.hc.len, nlC13.len]) ?_)))))
 ·exact zbF so113.hc nlC13 hx hy
 ·rw [List.all_eq_true.mpr (fun _ _ => rfl)]
  exact k _
theorem top_ok (T : Txt K mg a) (F : Fun K "law" "law" vW f fd) : FnOk P w K mg base (CXr P w) 8 f fd ["_law_script"] (JP K) := zb7 T F
end
theorem VX {α : Type} {n : Nat} {P : List α → Prop} (us : List α) (hl : us.length = n + 1) (h : ∀ a vs, vs.length = n → P (a :: vs)) : P us := by
 cases us with
 | nil => cases hl
 | cons a vs => exact h a vs (Nat.succ.inj hl)
theorem ey0 {α : Type} {P : List α → Prop} (us : List α) (hl : us.length = 0) (h : P []) : P us := by
 cases us with
 | nil => exact h
 | cons => cases hl
theorem ey1 {α : Type} {P : List α → Prop} (us : List α) (hl : us.length = 1) (h : ∀ a0, P [a0]) : P us := VX us hl fun a0 _ l => ey0 (P := fun z => P (a0 :: z)) _ l (h a0)
theorem ex1 {fn : FuncData} {ps : List Str} (us : List Value) (hl : us.length = 1) (h : ∀ a0, bindArgs fn ⟨[a0], []⟩ = pure (ps.zip [a0])) : bindArgs fn ⟨us, []⟩ = pure (ps.zip us) := ey1 (P := fun z => bindArgs fn ⟨z, []⟩ = pure (ps.zip z)) us hl h
theorem ey2 {α : Type} {P : List α → Prop} (us : List α) (hl : us.length = 2) (h : ∀ a0 a1, P [a0, a1]) : P us := VX us hl fun a0 _ l => ey1 (P := fun z => P (a0 :: z)) _ l fun a1 => h a0 a1
theorem ex2 {fn : FuncData} {ps : List Str} (us : List Value) (hl : us.length = 2) (h : ∀ a0 a1, bindArgs fn ⟨[a0, a1], []⟩ = pure (ps.zip [a0, a1])) : bindArgs fn ⟨us, []⟩ = pure (ps.zip us) := ey2 (P := fun z => bindArgs fn ⟨z, []⟩ = pure (ps.zip z)) us hl h
theorem ey3 {α : Type} {P : List α → Prop} (us : List α) (hl : us.length = 3) (h : ∀ a0 a1 a2, P [a0, a1, a2]) : P us := VX us hl fun a0 _ l => ey2 (P := fun z => P (a0 :: z)) _ l fun a1 a2 => h a0 a1 a2
theorem ex3 {fn : FuncData} {ps : List Str} (us : List Value) (hl : us.length = 3) (h : ∀ a0 a1 a2, bindArgs fn ⟨[a0, a1, a2], []⟩ = pure (ps.zip [a0, a1, a2])) : bindArgs fn ⟨us, []⟩ = pure (ps.zip us) := ey3 (P := fun z => bindArgs fn ⟨z, []⟩ = pure (ps.zip z)) us hl h
theorem ey4 {α : Type} {P : List α → Prop} (us : List α) (hl : us.length = 4) (h : ∀ a0 a1 a2 a3, P [a0, a1, a2, a3]) : P us := VX us hl fun a0 _ l => ey3 (P := fun z => P (a0 :: z)) _ l fun a1 a2 a3 => h a0 a1 a2 a3
theorem ex4 {fn : FuncData} {ps : List Str} (us : List Value) (hl : us.length = 4) (h : ∀ a0 a1 a2 a3, bindArgs fn ⟨[a0, a1, a2, a3], []⟩ = pure (ps.zip [a0, a1, a2, a3])) : bindArgs fn ⟨us, []⟩ = pure (ps.zip us) := ey4 (P := fun z => bindArgs fn ⟨z, []⟩ = pure (ps.zip z)) us hl h
theorem ey5 {α : Type} {P : List α → Prop} (us : List α) (hl : us.length = 5) (h : ∀ a0 a1 a2 a3 a4, P [a0, a1, a2, a3, a4]) : P us := VX us hl fun a0 _ l => ey4 (P := fun z => P (a0 :: z)) _ l fun a1 a2 a3 a4 => h a0 a1 a2 a3 a4
theorem ex5 {fn : FuncData} {ps : List Str} (us : List Value) (hl : us.length = 5) (h : ∀ a0 a1 a2 a3 a4, bindArgs fn ⟨[a0, a1, a2, a3, a4], []⟩ = pure (ps.zip [a0, a1, a2, a3, a4])) : bindArgs fn ⟨us, []⟩ = pure (ps.zip us) := ey5 (P := fun z => bindArgs fn ⟨z, []⟩ = pure (ps.zip z)) us hl h
theorem ey6 {α : Type} {P : List α → Prop} (us : List α) (hl : us.length = 6) (h : ∀ a0 a1 a2 a3 a4 a5, P [a0, a1, a2, a3, a4, a5]) : P us := VX us hl fun a0 _ l => ey5 (P := fun z => P (a0 :: z)) _ l fun a1 a2 a3 a4 a5 => h a0 a1 a2 a3 a4 a5
theorem ex6 {fn : FuncData} {ps : List Str} (us : List Value) (hl : us.length = 6) (h : ∀ a0 a1 a2 a3 a4 a5, bindArgs fn ⟨[a0, a1, a2, a3, a4, a5], []⟩ = pure (ps.zip [a0, a1, a2, a3, a4, a5])) : bindArgs fn ⟨us, []⟩ = pure (ps.zip us) := ey6 (P := fun z => bindArgs fn ⟨z, []⟩ = pure (ps.zip z)) us hl h
abbrev FHy (K : PySem.W.Frag) (x : Str) (st : Stmt) : Prop := ∃ (f : Addr) (oc : Value) (od an : Option Addr) (osl : Array (Option Value)) (kV doc pm cdv ct : Value), PySem.W.nsIn K mainGlobals x = some (some (.ref f)) ∧ K.lookup f = some ⟨oc, od, .func (PySem.W.fnOf x x (z4 st) (zU st) (zf st) .none kV doc pm an cdv ct), osl⟩ ∧ PySem.W.codeIn K cdv x = true ∧ PySem.W.keepIn K (.ref f) = true
theorem fhy {K : PySem.W.Frag} {x : Str} {st : Stmt} {f : Addr} {oc : Value} {od an : Option Addr} {osl : Array (Option Value)} {kV doc pm cdv ct : Value} (a : PySem.W.nsIn K mainGlobals x = some (some (.ref f))) (l : K.lookup f = some ⟨oc, od, .func (PySem.W.fnOf x x (z4 st) (zU st) (zf st) .none kV doc pm an cdv ct), osl⟩) (c : PySem.W.codeIn K cdv x = true) (k : PySem.W.keepIn K (.ref f) = true) : FHy K x st := ⟨_, _, _, _, _, _, _, _, _, _, a, l, c, k⟩
theorem qO {K : PySem.W.Frag} {mg : Str → Option Value} {h : Heap} {x : Str} {st : Stmt} {ps : List Str} (X : K.In h) (G : h.Ns mainGlobals mg) (y : FHy K x st) (hb : ∀ (kV doc pm : Value) (an : Option Addr) (cdv ct : Value) (us : List Value), us.length = ps.length → bindArgs (PySem.W.fnOf x x (z4 st) (zU st) (zf st) .none kV doc pm an cdv ct) ⟨us, []⟩ = pure (ps.zip us)) : FA K mg x st ps := by
 obtain ⟨_, _, _, _, _, _, _, _, _, _, a, l, c, k⟩ := y
 exact zcX X G a l c k hb
abbrev CHy (K : PySem.W.Frag) (C : Addr) : Prop := PySem.W.plainGet K C Str.empty = true ∧ PySem.W.hasDictIn K C = true ∧ PySem.W.plainOver K C = true ∧ PySem.W.findIn K (.ref C) "__setattr__" = some (some (.builtin "object.__setattr__")) ∧ PySem.W.makesIn K C = true ∧ PySem.W.keepIn K (.ref C) = true ∧ PySem.W.findIn K (.ref C) "__class__" = some (some (.builtin "object.__class__")) ∧ PySem.W.mroIn K C (.type "object") = some true
theorem CHy.c {K : PySem.W.Frag} {C : Addr} (h : CHy K C) : Cls K C := ⟨h.1, h.2.1, h.2.2.1, h.2.2.2.1⟩
theorem CHy.w {K : PySem.W.Frag} {C : Addr} (h : CHy K C) (g : PySem.W.specialIn K (.builtin "object.__class__") "__get__" = some (some (.builtin "getset_descriptor.__get__"))) (t : PySem.W.takesIn K (.builtin "object.__class__") = some true) : WI K C := ⟨h.2.2.2.2.2.2.1, h.2.2.2.2.2.2.2, g, t⟩
abbrev MHy (K : PySem.W.Frag) (C : Addr) (m q : Str) (st : Stmt) : Prop := ∃ (f : Addr) (oc : Value) (od an : Option Addr) (osl : Array (Option Value)) (kV doc pm cdv ct : Value), PySem.W.findIn K (.ref C) m = some (some (.ref f)) ∧ PySem.W.isFn K (.ref f) = true ∧ K.lookup f = some ⟨oc, od, .func (PySem.W.fnOf m q (z4 st) (zU st) (zf st) .none kV doc pm an cdv ct), osl⟩ ∧ PySem.W.codeIn K cdv q = true ∧ PySem.W.keepIn K (.ref f) = true
theorem mhy {K : PySem.W.Frag} {C : Addr} {m q : Str} {st : Stmt} {f : Addr} {oc : Value} {od an : Option Addr} {osl : Array (Option Value)} {kV doc pm cdv ct : Value} (a : PySem.W.findIn K (.ref C) m = some (some (.ref f))) (i : PySem.W.isFn K (.ref f) = true) (l : K.lookup f = some ⟨oc, od, .func (PySem.W.fnOf m q (z4 st) (zU st) (zf st) .none kV doc pm an cdv ct), osl⟩) (c : PySem.W.codeIn K cdv q = true) (k : PySem.W.keepIn K (.ref f) = true) : MHy K C m q st := ⟨_, _, _, _, _, _, _, _, _, _, a, i, l, c, k⟩
theorem xm {K : PySem.W.Frag} {C : Addr} {m q : Str} {st : Stmt} {ps : List Str} (y : MHy K C m q st) (hb : ∀ (kV doc pm : Value) (an : Option Addr) (cdv ct : Value) (us : List Value), us.length = ps.length → bindArgs (PySem.W.fnOf m q (z4 st) (zU st) (zf st) .none kV doc pm an cdv ct) ⟨us, []⟩ = pure (ps.zip us)) : FM K C m q st ps := by
 obtain ⟨_, _, _, _, _, _, _, _, _, _, a, i, l, c, k⟩ := y
 exact zcV a i l c k hb
theorem JA {K : PySem.W.Frag} {C : Addr} {q : Str} {st : Stmt} {ps : List Str} (z : CHy K C) (y : MHy K C "__init__" q st) (hb : ∀ (kV doc pm : Value) (an : Option Addr) (cdv ct : Value) (us : List Value), us.length = ps.length → bindArgs (PySem.W.fnOf "__init__" q (z4 st) (zU st) (zf st) .none kV doc pm an cdv ct) ⟨us, []⟩ = pure (ps.zip us)) : FK K C q st ps := by
 obtain ⟨_, _, _, _, _, _, _, _, _, _, a, i, l, c, k⟩ := y
 exact zbO z.2.2.2.2.1 z.2.2.2.2.2.1 a i l c k hb
theorem all_mk {l : PySem.W.OpenLaw} {w : World} {K : PySem.W.Frag} {h : Heap} {mg : Str → Option Value} {fa fL x_State x_WorkError x_BadBelt x_BadKnot x_BadWork x_Belt x_Knot x_Source x_Drain x_Parter x_FirstParter x_Sieve x_Joiner x_Work fKnot_init : Addr} (X : K.In h) (G : h.Ns mainGlobals mg) (hfa : mg "law" = some (.ref fa))
  {odL anL odKnot_init anKnot_init : Option Addr} {slL slKnot_init : Array (Option Value)} {ocL kVL dcL pmL cdL ctL ocKnot_init kVKnot_init dcKnot_init pmKnot_init cdKnot_init ctKnot_init : Value}
  {t_MOST_ROOM t_MOST_PACE t_MOST_KINDS t_FEWEST_WAYS t_MOST_WAYS t_MOST_BELTS t_MOST_KNOTS : Tok}
  (h0 : FHy K "_wall" WG)
  (h1 : FHy K "kind_of" wa)
  (h2 : FHy K "kinds_in" jR)
  (h3 : FHy K "kind_place" jH)
  (h4 : FHy K "shape_of" jn)
  (h5 : FHy K "alike" Zp)
  (h6 : FHy K "check_pace" jK)
  (h7 : FHy K "check_kind" jL)
  (h8 : FHy K "check_ways" jI)
  (h9 : FHy K "common" wS)
  (h10 : FHy K "lasting" x9)
  (h11 : FHy K "check_size" jJ)
  (h12 : FHy K "check_each_once" qF)
  (h13 : FHy K "_law_at" Jd)
  (h14 : FHy K "_law_spread" xu)
  (h15 : FHy K "_law_belt" wZ)
  (h16 : FHy K "_law_source" jS)
  (h17 : FHy K "_law_drain" wc)
  (h18 : FHy K "_law_kind" wV)
  (h19 : FHy K "_law_joined" xw)
  (h20 : FHy K "_law_parted" xv)
  (h21 : FHy K "_law_grow" wW)
  (h22 : FHy K "_law_close" we)
  (h23 : FHy K "_law_work" wU)
  (h24 : FHy K "_law_beat" xh)
  (h25 : FHy K "_law_kinds" wb)
  (h26 : FHy K "_law_shape" xb)
  (h27 : FHy K "_law_draw" wY)
  (h28 : FHy K "_law_fold" wX)
  (h29 : FHy K "_law_cells" xg)
  (h30 : FHy K "_law_made" xf)
  (h31 : FHy K "_law_shifted" jc)
  (h32 : FHy K "_law_other_ware" qw)
  (h33 : FHy K "_law_spoilt" qY)
  (aL : PySem.W.nsIn K mainGlobals "law" = some (some (.ref fL))) (lL : K.lookup fL = some ⟨ocL, odL, .func (PySem.W.fnOf "law" "law" (z4 vW) (zU vW) (zf vW) .none kVL dcL pmL anL cdL ctL), slL⟩) (cL : PySem.W.codeIn K cdL "law" = true) (kL : PySem.W.keepIn K (.ref fL) = true)
  (z_list : PySem.W.nsIn K mainGlobals "list" = some none)
  (z_len : PySem.W.nsIn K mainGlobals "len" = some none)
  (z_tuple : PySem.W.nsIn K mainGlobals "tuple" = some none)
  (z_sorted : PySem.W.nsIn K mainGlobals "sorted" = some none)
  (z_range : PySem.W.nsIn K mainGlobals "range" = some none)
  (z_enumerate : PySem.W.nsIn K mainGlobals "enumerate" = some none)
  (z_isinstance : PySem.W.nsIn K mainGlobals "isinstance" = some none)
  (z_reversed : PySem.W.nsIn K mainGlobals "reversed" = some none)
  (z_all : PySem.W.nsIn K mainGlobals "all" = some none)
  (z_max : PySem.W.nsIn K mainGlobals "max" = some none)
  (z_bool : PySem.W.nsIn K mainGlobals "bool" = some none)
  (ag_State : PySem.W.nsIn K mainGlobals "State" = some (some (.ref x_State)))
  (ag_WorkError : PySem.W.nsIn K mainGlobals "WorkError" = some (some (.ref x_WorkError)))
  (ag_BadBelt : PySem.W.nsIn K mainGlobals "BadBelt" = some (some (.ref x_BadBelt)))
  (ag_BadKnot : PySem.W.nsIn K mainGlobals "BadKnot" = some (some (.ref x_BadKnot)))
  (ag_BadWork : PySem.W.nsIn K mainGlobals "BadWork" = some (some (.ref x_BadWork)))
  (ag_Belt : PySem.W.nsIn K mainGlobals "Belt" = some (some (.ref x_Belt)))
  (ag_Knot : PySem.W.nsIn K mainGlobals "Knot" = some (some (.ref x_Knot)))
  (ag_Source : PySem.W.nsIn K mainGlobals "Source" = some (some (.ref x_Source)))
  (ag_Drain : PySem.W.nsIn K mainGlobals "Drain" = some (some (.ref x_Drain)))
  (ag_Parter : PySem.W.nsIn K mainGlobals "Parter" = some (some (.ref x_Parter)))
  (ag_FirstParter : PySem.W.nsIn K mainGlobals "FirstParter" = some (some (.ref x_FirstParter)))
  (ag_Sieve : PySem.W.nsIn K mainGlobals "Sieve" = some (some (.ref x_Sieve)))
  (ag_Joiner : PySem.W.nsIn K mainGlobals "Joiner" = some (some (.ref x_Joiner)))
  (ag_Work : PySem.W.nsIn K mainGlobals "Work" = some (some (.ref x_Work)))
  (hc_State : CHy K x_State)
  (nf_turn_State : NoAttr K x_State "turn")
  (nf_cells_State : NoAttr K x_State "cells")
  (nf_sides_State : NoAttr K x_State "sides")
  (nf_gone_State : NoAttr K x_State "gone")
  (h_State_init : MHy K x_State "__init__" "State.__init__" qN)
  (hc_Belt : CHy K x_Belt)
  (nf_room_Belt : NoAttr K x_Belt "room")
  (nf_pace_Belt : NoAttr K x_Belt "pace")
  (h_Belt_init : MHy K x_Belt "__init__" "Belt.__init__" jZ)
  (hc_Knot : CHy K x_Knot)
  (nf_ins_Knot : NoAttr K x_Knot "ins")
  (nf_outs_Knot : NoAttr K x_Knot "outs")
  (aKnot_init : PySem.W.findIn K (.ref x_Knot) "__init__" = some (some (.ref fKnot_init))) (iKnot_init : PySem.W.isFn K (.ref fKnot_init) = true) (lKnot_init : K.lookup fKnot_init = some ⟨ocKnot_init, odKnot_init, .func (PySem.W.fnOf "__init__" "Knot.__init__" (z4 qk) (zU qk) (zf qk) .none kVKnot_init dcKnot_init pmKnot_init anKnot_init cdKnot_init ctKnot_init), slKnot_init⟩) (cKnot_init : PySem.W.codeIn K cdKnot_init "Knot.__init__" = true) (kKnot_init : PySem.W.keepIn K (.ref fKnot_init) = true)
  (bga_Knot_init : PySem.W.specialIn K (.ref x_Knot) "__getattribute__" = some (some (.builtin "type.__getattribute__")))
  (brd_Knot_init : PySem.W.readsIn K x_Knot (.type "type") = true)
  (bfc_Knot_init : PySem.W.findCls K (.ref x_Knot) (.type "type") "__init__" = some (.val (.ref fKnot_init)))
  (h_Knot_choice : MHy K x_Knot "choice" "Knot.choice" wv)
  (h_Knot_copied : MHy K x_Knot "copied" "Knot.copied" wu)
  (hc_Source : CHy K x_Source)
  (nf_pace_Source : NoAttr K x_Source "pace")
  (nf_kinds_Source : NoAttr K x_Source "kinds")
  (nf_ins_Source : NoAttr K x_Source "ins")
  (nf_outs_Source : NoAttr K x_Source "outs")
  (h_Source_init : MHy K x_Source "__init__" "Source.__init__" js)
  (h_Source_choice : MHy K x_Source "choice" "Source.choice" xH)
  (h_Source_copied : MHy K x_Source "copied" "Source.copied" qT)
  (hc_Drain : CHy K x_Drain)
  (nf_pace_Drain : NoAttr K x_Drain "pace")
  (nf_ins_Drain : NoAttr K x_Drain "ins")
  (nf_outs_Drain : NoAttr K x_Drain "outs")
  (h_Drain_init : MHy K x_Drain "__init__" "Drain.__init__" jN)
  (h_Drain_choice : MHy K x_Drain "choice" "Drain.choice" xR)
  (h_Drain_copied : MHy K x_Drain "copied" "Drain.copied" je)
  (hc_Parter : CHy K x_Parter)
  (nf_ins_Parter : NoAttr K x_Parter "ins")
  (nf_outs_Parter : NoAttr K x_Parter "outs")
  (h_Parter_init : MHy K x_Parter "__init__" "Parter.__init__" jt)
  (h_Parter_choice : MHy K x_Parter "choice" "Parter.choice" xI)
  (h_Parter_copied : MHy K x_Parter "copied" "Parter.copied" qU)
  (hc_FirstParter : CHy K x_FirstParter)
  (nf_ins_FirstParter : NoAttr K x_FirstParter "ins")
  (nf_outs_FirstParter : NoAttr K x_FirstParter "outs")
  (h_FirstParter_init : MHy K x_FirstParter "__init__" "FirstParter.__init__" qz)
  (h_FirstParter_choice : MHy K x_FirstParter "choice" "FirstParter.choice" jy)
  (h_FirstParter_copied : MHy K x_FirstParter "copied" "FirstParter.copied" ql)
  (hc_Sieve : CHy K x_Sieve)
  (nf_kind_Sieve : NoAttr K x_Sieve "kind")
  (nf_ins_Sieve : NoAttr K x_Sieve "ins")
  (nf_outs_Sieve : NoAttr K x_Sieve "outs")
  (h_Sieve_init : MHy K x_Sieve "__init__" "Sieve.__init__" jM)
  (h_Sieve_choice : MHy K x_Sieve "choice" "Sieve.choice" xQ)
  (h_Sieve_place_for : MHy K x_Sieve "place_for" "Sieve.place_for" jY)
  (h_Sieve_copied : MHy K x_Sieve "copied" "Sieve.copied" jd)
  (hc_Joiner : CHy K x_Joiner)
  (nf_ins_Joiner : NoAttr K x_Joiner "ins")
  (nf_outs_Joiner : NoAttr K x_Joiner "outs")
  (h_Joiner_init : MHy K x_Joiner "__init__" "Joiner.__init__" ju)
  (h_Joiner_choice : MHy K x_Joiner "choice" "Joiner.choice" xJ)
  (h_Joiner_copied : MHy K x_Joiner "copied" "Joiner.copied" qV)
  (hc_Work : CHy K x_Work)
  (nf_belts_Work : NoAttr K x_Work "belts")
  (nf_knots_Work : NoAttr K x_Work "knots")
  (h_Work_init : MHy K x_Work "__init__" "Work.__init__" ja)
  (h_Work_feeder : MHy K x_Work "feeder" "Work.feeder" wq)
  (h_Work_taker : MHy K x_Work "taker" "Work.taker" wT)
  (h_Work_drains : MHy K x_Work "drains" "Work.drains" qP)
  (h_Work_sources : MHy K x_Work "sources" "Work.sources" qI)
  (h_Work_beat : MHy K x_Work "beat" "Work.beat" jw)
  (wgn : PySem.W.specialIn K (.builtin "object.__class__") "__get__" = some (some (.builtin "getset_descriptor.__get__"))) (wtk : PySem.W.takesIn K (.builtin "object.__class__") = some true)
  (ac_MOST_ROOM : PySem.W.nsIn K mainGlobals "MOST_ROOM" = some (some (.int 6 t_MOST_ROOM)))
  (ac_MOST_PACE : PySem.W.nsIn K mainGlobals "MOST_PACE" = some (some (.int 4 t_MOST_PACE)))
  (ac_MOST_KINDS : PySem.W.nsIn K mainGlobals "MOST_KINDS" = some (some (.int 6 t_MOST_KINDS)))
  (ac_FEWEST_WAYS : PySem.W.nsIn K mainGlobals "FEWEST_WAYS" = some (some (.int 2 t_FEWEST_WAYS)))
  (ac_MOST_WAYS : PySem.W.nsIn K mainGlobals "MOST_WAYS" = some (some (.int 4 t_MOST_WAYS)))
  (ac_MOST_BELTS : PySem.W.nsIn K mainGlobals "MOST_BELTS" = some (some (.int 24 t_MOST_BELTS)))
  (ac_MOST_KNOTS : PySem.W.nsIn K mainGlobals "MOST_KNOTS" = some (some (.int 24 t_MOST_KNOTS)))
  (xq_BadBelt : PySem.W.excIn K x_BadBelt bmV "ValueError.__new__" = true)
  (xga_BadBelt : PySem.W.findIn K (.ref x_BadBelt) "__getattribute__" = some (some (.builtin "BaseException.__getattribute__")))
  (xgt_BadBelt : PySem.W.findIn K (.ref x_BadBelt) "__getattr__" = some none)
  (xcl_BadBelt : PySem.W.findIn K (.ref x_BadBelt) "__class__" = some (some (.builtin "object.__class__")))
  (xhd_BadBelt : PySem.W.hasDictIn K x_BadBelt = true)
  (xmo_BadBelt : PySem.W.mroIn K x_BadBelt (.type "object") = some true)
  (xmb_BadBelt : PySem.W.subIn K (.ref x_BadBelt) (.type "BaseException") = some true)
  (xq_BadKnot : PySem.W.excIn K x_BadKnot bmV "ValueError.__new__" = true)
  (xga_BadKnot : PySem.W.findIn K (.ref x_BadKnot) "__getattribute__" = some (some (.builtin "BaseException.__getattribute__")))
  (xgt_BadKnot : PySem.W.findIn K (.ref x_BadKnot) "__getattr__" = some none)
  (xcl_BadKnot : PySem.W.findIn K (.ref x_BadKnot) "__class__" = some (some (.builtin "object.__class__")))
  (xhd_BadKnot : PySem.W.hasDictIn K x_BadKnot = true)
  (xmo_BadKnot : PySem.W.mroIn K x_BadKnot (.type "object") = some true)
  (xmb_BadKnot : PySem.W.subIn K (.ref x_BadKnot) (.type "BaseException") = some true)
  (xq_BadWork : PySem.W.excIn K x_BadWork bmV "ValueError.__new__" = true)
  (xga_BadWork : PySem.W.findIn K (.ref x_BadWork) "__getattribute__" = some (some (.builtin "BaseException.__getattribute__")))
  (xgt_BadWork : PySem.W.findIn K (.ref x_BadWork) "__getattr__" = some none)
  (xcl_BadWork : PySem.W.findIn K (.ref x_BadWork) "__class__" = some (some (.builtin "object.__class__")))
  (xhd_BadWork : PySem.W.hasDictIn K x_BadWork = true)
  (xmo_BadWork : PySem.W.mroIn K x_BadWork (.type "object") = some true)
  (xmb_BadWork : PySem.W.subIn K (.ref x_BadWork) (.type "BaseException") = some true)
  (xgn : PySem.W.specialIn K (.builtin "object.__class__") "__get__" = some (some (.builtin "getset_descriptor.__get__")))
  (xtk : PySem.W.takesIn K (.builtin "object.__class__") = some true)
  (k1_State_Drain : PySem.W.kitOne K (.ref x_State) (.ref x_Drain) = some false)
  (k1_Belt_Drain : PySem.W.kitOne K (.ref x_Belt) (.ref x_Drain) = some false)
  (k1_Knot_Drain : PySem.W.kitOne K (.ref x_Knot) (.ref x_Drain) = some false)
  (k1_Source_Drain : PySem.W.kitOne K (.ref x_Source) (.ref x_Drain) = some false)
  (k1_Drain_Drain : PySem.W.kitOne K (.ref x_Drain) (.ref x_Drain) = some true)
  (k1_Parter_Drain : PySem.W.kitOne K (.ref x_Parter) (.ref x_Drain) = some false)
  (k1_FirstParter_Drain : PySem.W.kitOne K (.ref x_FirstParter) (.ref x_Drain) = some false)
  (k1_Sieve_Drain : PySem.W.kitOne K (.ref x_Sieve) (.ref x_Drain) = some false)
  (k1_Joiner_Drain : PySem.W.kitOne K (.ref x_Joiner) (.ref x_Drain) = some false)
  (k1_Work_Drain : PySem.W.kitOne K (.ref x_Work) (.ref x_Drain) = some false)
  (k1_State_Source : PySem.W.kitOne K (.ref x_State) (.ref x_Source) = some false)
  (k1_Belt_Source : PySem.W.kitOne K (.ref x_Belt) (.ref x_Source) = some false)
  (k1_Knot_Source : PySem.W.kitOne K (.ref x_Knot) (.ref x_Source) = some false)
  (k1_Source_Source : PySem.W.kitOne K (.ref x_Source) (.ref x_Source) = some true)
  (k1_Drain_Source : PySem.W.kitOne K (.ref x_Drain) (.ref x_Source) = some false)
  (k1_Parter_Source : PySem.W.kitOne K (.ref x_Parter) (.ref x_Source) = some false)
  (k1_FirstParter_Source : PySem.W.kitOne K (.ref x_FirstParter) (.ref x_Source) = some false)
  (k1_Sieve_Source : PySem.W.kitOne K (.ref x_Sieve) (.ref x_Source) = some false)
  (k1_Joiner_Source : PySem.W.kitOne K (.ref x_Joiner) (.ref x_Source) = some false)
  (k1_Work_Source : PySem.W.kitOne K (.ref x_Work) (.ref x_Source) = some false)
  (k1_State_Parter : PySem.W.kitOne K (.ref x_State) (.ref x_Parter) = some false)
  (k1_Belt_Parter : PySem.W.kitOne K (.ref x_Belt) (.ref x_Parter) = some false)
  (k1_Knot_Parter : PySem.W.kitOne K (.ref x_Knot) (.ref x_Parter) = some false)
  (k1_Source_Parter : PySem.W.kitOne K (.ref x_Source) (.ref x_Parter) = some false)
  (k1_Drain_Parter : PySem.W.kitOne K (.ref x_Drain) (.ref x_Parter) = some false)
  (k1_Parter_Parter : PySem.W.kitOne K (.ref x_Parter) (.ref x_Parter) = some true)
  (k1_FirstParter_Parter : PySem.W.kitOne K (.ref x_FirstParter) (.ref x_Parter) = some false)
  (k1_Sieve_Parter : PySem.W.kitOne K (.ref x_Sieve) (.ref x_Parter) = some false)
  (k1_Joiner_Parter : PySem.W.kitOne K (.ref x_Joiner) (.ref x_Parter) = some false)
  (k1_Work_Parter : PySem.W.kitOne K (.ref x_Work) (.ref x_Parter) = some false)
  (k1_State_Joiner : PySem.W.kitOne K (.ref x_State) (.ref x_Joiner) = some false)
  (k1_Belt_Joiner : PySem.W.kitOne K (.ref x_Belt) (.ref x_Joiner) = some false)
  (k1_Knot_Joiner : PySem.W.kitOne K (.ref x_Knot) (.ref x_Joiner) = some false)
  (k1_Source_Joiner : PySem.W.kitOne K (.ref x_Source) (.ref x_Joiner) = some false)
  (k1_Drain_Joiner : PySem.W.kitOne K (.ref x_Drain) (.ref x_Joiner) = some false)
  (k1_Parter_Joiner : PySem.W.kitOne K (.ref x_Parter) (.ref x_Joiner) = some false)
  (k1_FirstParter_Joiner : PySem.W.kitOne K (.ref x_FirstParter) (.ref x_Joiner) = some false)
  (k1_Sieve_Joiner : PySem.W.kitOne K (.ref x_Sieve) (.ref x_Joiner) = some false)
  (k1_Joiner_Joiner : PySem.W.kitOne K (.ref x_Joiner) (.ref x_Joiner) = some true)
  (k1_Work_Joiner : PySem.W.kitOne K (.ref x_Work) (.ref x_Joiner) = some false)
  : ∃ fd : FuncData, (∀ (s : Shared) (v : Value), BindsTo s fd ⟨[v], []⟩ [("_law_script", v)]) ∧ ∀ base : Heap, K.In base → base.Ns mainGlobals mg → FnOk l.prog w K mg base (CXr l.prog w) 8 fa fd ["_law_script"] (JP K) := by
 have e := hfa.symm.trans (PySem.W.mg_of X G aL)
 cases e
 have T : Txt K mg ⟨x_State, x_WorkError, x_BadBelt, x_BadKnot, x_BadWork, x_Belt, x_Knot, x_Source, x_Drain, x_Parter, x_FirstParter, x_Sieve, x_Joiner, x_Work⟩ := {
  h__wall := qO X G h0 fun _ _ _ _ _ _ us hl => ex1 us hl fun _ => rfl
  h_kind_of := qO X G h1 fun _ _ _ _ _ _ us hl => ex2 us hl fun _ _ => rfl
  h_kinds_in := qO X G h2 fun _ _ _ _ _ _ us hl => ex2 us hl fun _ _ => rfl
  h_kind_place := qO X G h3 fun _ _ _ _ _ _ us hl => ex3 us hl fun _ _ _ => rfl
  h_shape_of := qO X G h4 fun _ _ _ _ _ _ us hl => ex2 us hl fun _ _ => rfl
  h_alike := qO X G h5 fun _ _ _ _ _ _ us hl => ex3 us hl fun _ _ _ => rfl
  h_check_pace := qO X G h6 fun _ _ _ _ _ _ us hl => ex2 us hl fun _ _ => rfl
  h_check_kind := qO X G h7 fun _ _ _ _ _ _ us hl => ex1 us hl fun _ => rfl
  h_check_ways := qO X G h8 fun _ _ _ _ _ _ us hl => ex1 us hl fun _ => rfl
  h_common := qO X G h9 fun _ _ _ _ _ _ us hl => ex2 us hl fun _ _ => rfl
  h_lasting := qO X G h10 fun _ _ _ _ _ _ us hl => ex1 us hl fun _ => rfl
  h_check_size := qO X G h11 fun _ _ _ _ _ _ us hl => ex2 us hl fun _ _ => rfl
  h_check_each_once := qO X G h12 fun _ _ _ _ _ _ us hl => ex2 us hl fun _ _ => rfl
  h_L_at := qO X G h13 fun _ _ _ _ _ _ us hl => ex2 us hl fun _ _ => rfl
  h_L_spread := qO X G h14 fun _ _ _ _ _ _ us hl => ex2 us hl fun _ _ => rfl
  h_L_belt := qO X G h15 fun _ _ _ _ _ _ us hl => ex3 us hl fun _ _ _ => rfl
  h_L_source := qO X G h16 fun _ _ _ _ _ _ us hl => ex4 us hl fun _ _ _ _ => rfl
  h_L_drain := qO X G h17 fun _ _ _ _ _ _ us hl => ex3 us hl fun _ _ _ => rfl
  h_L_kind := qO X G h18 fun _ _ _ _ _ _ us hl => ex3 us hl fun _ _ _ => rfl
  h_L_joined := qO X G h19 fun _ _ _ _ _ _ us hl => ex6 us hl fun _ _ _ _ _ _ => rfl
  h_L_parted := qO X G h20 fun _ _ _ _ _ _ us hl => ex4 us hl fun _ _ _ _ => rfl
  h_L_grow := qO X G h21 fun _ _ _ _ _ _ us hl => ex6 us hl fun _ _ _ _ _ _ => rfl
  h_L_close := qO X G h22 fun _ _ _ _ _ _ us hl => ex6 us hl fun _ _ _ _ _ _ => rfl
  h_L_work := qO X G h23 fun _ _ _ _ _ _ us hl => ex1 us hl fun _ => rfl
  h_L_beat := qO X G h24 fun _ _ _ _ _ _ us hl => ex1 us hl fun _ => rfl
  h_L_kinds := qO X G h25 fun _ _ _ _ _ _ us hl => ex2 us hl fun _ _ => rfl
  h_L_shape := qO X G h26 fun _ _ _ _ _ _ us hl => ex3 us hl fun _ _ _ => rfl
  h_L_draw := qO X G h27 fun _ _ _ _ _ _ us hl => ex2 us hl fun _ _ => rfl
  h_L_fold := qO X G h28 fun _ _ _ _ _ _ us hl => ex2 us hl fun _ _ => rfl
  h_L_cells := qO X G h29 fun _ _ _ _ _ _ us hl => ex3 us hl fun _ _ _ => rfl
  h_L_made := qO X G h30 fun _ _ _ _ _ _ us hl => ex2 us hl fun _ _ => rfl
  h_L_shifted := qO X G h31 fun _ _ _ _ _ _ us hl => ex4 us hl fun _ _ _ _ => rfl
  h_L_other_ware := qO X G h32 fun _ _ _ _ _ _ us hl => ex5 us hl fun _ _ _ _ _ => rfl
  h_L_spoilt := qO X G h33 fun _ _ _ _ _ _ us hl => ex3 us hl fun _ _ _ => rfl
  m_list := PySem.W.mg_none_of X G z_list
  m_len := PySem.W.mg_none_of X G z_len
  m_tuple := PySem.W.mg_none_of X G z_tuple
  m_sorted := PySem.W.mg_none_of X G z_sorted
  m_range := PySem.W.mg_none_of X G z_range
  m_enumerate := PySem.W.mg_none_of X G z_enumerate
  m_isinstance := PySem.W.mg_none_of X G z_isinstance
  m_reversed := PySem.W.mg_none_of X G z_reversed
  m_all := PySem.W.mg_none_of X G z_all
  m_max := PySem.W.mg_none_of X G z_max
  m_bool := PySem.W.mg_none_of X G z_bool
  g_State := PySem.W.mg_of X G ag_State
  g_WorkError := PySem.W.mg_of X G ag_WorkError
  g_BadBelt := PySem.W.mg_of X G ag_BadBelt
  g_BadKnot := PySem.W.mg_of X G ag_BadKnot
  g_BadWork := PySem.W.mg_of X G ag_BadWork
  g_Belt := PySem.W.mg_of X G ag_Belt
  g_Knot := PySem.W.mg_of X G ag_Knot
  g_Source := PySem.W.mg_of X G ag_Source
  g_Drain := PySem.W.mg_of X G ag_Drain
  g_Parter := PySem.W.mg_of X G ag_Parter
  g_FirstParter := PySem.W.mg_of X G ag_FirstParter
  g_Sieve := PySem.W.mg_of X G ag_Sieve
  g_Joiner := PySem.W.mg_of X G ag_Joiner
  g_Work := PySem.W.mg_of X G ag_Work
  C_State := hc_State.c
  N_State_turn := nf_turn_State
  N_State_cells := nf_cells_State
  N_State_sides := nf_sides_State
  N_State_gone := nf_gone_State
  W_State := hc_State.w wgn wtk
  h_State_init := JA hc_State h_State_init fun _ _ _ _ _ _ us hl => ex5 us hl fun _ _ _ _ _ => rfl
  C_Belt := hc_Belt.c
  N_Belt_room := nf_room_Belt
  N_Belt_pace := nf_pace_Belt
  W_Belt := hc_Belt.w wgn wtk
  h_Belt_init := JA hc_Belt h_Belt_init fun _ _ _ _ _ _ us hl => ex3 us hl fun _ _ _ => rfl
  C_Knot := hc_Knot.c
  N_Knot_ins := nf_ins_Knot
  N_Knot_outs := nf_outs_Knot
  W_Knot := hc_Knot.w wgn wtk
  h_Knot_init := zbO (st := qk) (ps := ["self", "ins", "outs"]) hc_Knot.2.2.2.2.1 hc_Knot.2.2.2.2.2.1 aKnot_init iKnot_init lKnot_init cKnot_init kKnot_init fun _ _ _ _ _ _ us hl => ex3 us hl fun _ _ _ => rfl
  b_Knot_init := zcW (st := qk) (ps := ["self", "ins", "outs"]) (PySem.W.mg_of X G ag_Knot) bga_Knot_init brd_Knot_init bfc_Knot_init lKnot_init cKnot_init kKnot_init fun _ _ _ _ _ _ us hl => ex3 us hl fun _ _ _ => rfl
  h_Knot_choice := xm h_Knot_choice fun _ _ _ _ _ _ us hl => ex5 us hl fun _ _ _ _ _ => rfl
  h_Knot_copied := xm h_Knot_copied fun _ _ _ _ _ _ us hl => ex1 us hl fun _ => rfl
  C_Source := hc_Source.c
  N_Source_pace := nf_pace_Source
  N_Source_kinds := nf_kinds_Source
  N_Source_ins := nf_ins_Source
  N_Source_outs := nf_outs_Source
  W_Source := hc_Source.w wgn wtk
  h_Source_init := JA hc_Source h_Source_init fun _ _ _ _ _ _ us hl => ex4 us hl fun _ _ _ _ => rfl
  h_Source_choice := xm h_Source_choice fun _ _ _ _ _ _ us hl => ex5 us hl fun _ _ _ _ _ => rfl
  h_Source_copied := xm h_Source_copied fun _ _ _ _ _ _ us hl => ex1 us hl fun _ => rfl
  C_Drain := hc_Drain.c
  N_Drain_pace := nf_pace_Drain
  N_Drain_ins := nf_ins_Drain
  N_Drain_outs := nf_outs_Drain
  W_Drain := hc_Drain.w wgn wtk
  h_Drain_init := JA hc_Drain h_Drain_init fun _ _ _ _ _ _ us hl => ex3 us hl fun _ _ _ => rfl
  h_Drain_choice := xm h_Drain_choice fun _ _ _ _ _ _ us hl => ex5 us hl fun _ _ _ _ _ => rfl
  h_Drain_copied := xm h_Drain_copied fun _ _ _ _ _ _ us hl => ex1 us hl fun _ => rfl
  C_Parter := hc_Parter.c
  N_Parter_ins := nf_ins_Parter
  N_Parter_outs := nf_outs_Parter
  W_Parter := hc_Parter.w wgn wtk
  h_Parter_init := JA hc_Parter h_Parter_init fun _ _ _ _ _ _ us hl => ex3 us hl fun _ _ _ => rfl
  h_Parter_choice := xm h_Parter_choice fun _ _ _ _ _ _ us hl => ex5 us hl fun _ _ _ _ _ => rfl
  h_Parter_copied := xm h_Parter_copied fun _ _ _ _ _ _ us hl => ex1 us hl fun _ => rfl
  C_FirstParter := hc_FirstParter.c
  N_FirstParter_ins := nf_ins_FirstParter
  N_FirstParter_outs := nf_outs_FirstParter
  W_FirstParter := hc_FirstParter.w wgn wtk
  h_FirstParter_init := JA hc_FirstParter h_FirstParter_init fun _ _ _ _ _ _ us hl => ex3 us hl fun _ _ _ => rfl
  h_FirstParter_choice := xm h_FirstParter_choice fun _ _ _ _ _ _ us hl => ex5 us hl fun _ _ _ _ _ => rfl
  h_FirstParter_copied := xm h_FirstParter_copied fun _ _ _ _ _ _ us hl => ex1 us hl fun _ => rfl
  C_Sieve := hc_Sieve.c
  N_Sieve_kind := nf_kind_Sieve
  N_Sieve_ins := nf_ins_Sieve
  N_Sieve_outs := nf_outs_Sieve
  W_Sieve := hc_Sieve.w wgn wtk
  h_Sieve_init := JA hc_Sieve h_Sieve_init fun _ _ _ _ _ _ us hl => ex4 us hl fun _ _ _ _ => rfl
  h_Sieve_choice := xm h_Sieve_choice fun _ _ _ _ _ _ us hl => ex5 us hl fun _ _ _ _ _ => rfl
  h_Sieve_place_for := xm h_Sieve_place_for fun _ _ _ _ _ _ us hl => ex2 us hl fun _ _ => rfl
  h_Sieve_copied := xm h_Sieve_copied fun _ _ _ _ _ _ us hl => ex1 us hl fun _ => rfl
  C_Joiner := hc_Joiner.c
  N_Joiner_ins := nf_ins_Joiner
  N_Joiner_outs := nf_outs_Joiner
  W_Joiner := hc_Joiner.w wgn wtk
  h_Joiner_init := JA hc_Joiner h_Joiner_init fun _ _ _ _ _ _ us hl => ex3 us hl fun _ _ _ => rfl
  h_Joiner_choice := xm h_Joiner_choice fun _ _ _ _ _ _ us hl => ex5 us hl fun _ _ _ _ _ => rfl
  h_Joiner_copied := xm h_Joiner_copied fun _ _ _ _ _ _ us hl => ex1 us hl fun _ => rfl
  C_Work := hc_Work.c
  N_Work_belts := nf_belts_Work
  N_Work_knots := nf_knots_Work
  W_Work := hc_Work.w wgn wtk
  h_Work_init := JA hc_Work h_Work_init fun _ _ _ _ _ _ us hl => ex3 us hl fun _ _ _ => rfl
  h_Work_feeder := xm h_Work_feeder fun _ _ _ _ _ _ us hl => ex2 us hl fun _ _ => rfl
  h_Work_taker := xm h_Work_taker fun _ _ _ _ _ _ us hl => ex2 us hl fun _ _ => rfl
  h_Work_drains := xm h_Work_drains fun _ _ _ _ _ _ us hl => ex1 us hl fun _ => rfl
  h_Work_sources := xm h_Work_sources fun _ _ _ _ _ _ us hl => ex1 us hl fun _ => rfl
  h_Work_beat := xm h_Work_beat fun _ _ _ _ _ _ us hl => ex1 us hl fun _ => rfl
  g_MOST_ROOM := ⟨_, PySem.W.mg_of X G ac_MOST_ROOM⟩
  g_MOST_PACE := ⟨_, PySem.W.mg_of X G ac_MOST_PACE⟩
  g_MOST_KINDS := ⟨_, PySem.W.mg_of X G ac_MOST_KINDS⟩
  g_FEWEST_WAYS := ⟨_, PySem.W.mg_of X G ac_FEWEST_WAYS⟩
  g_MOST_WAYS := ⟨_, PySem.W.mg_of X G ac_MOST_WAYS⟩
  g_MOST_BELTS := ⟨_, PySem.W.mg_of X G ac_MOST_BELTS⟩
  g_MOST_KNOTS := ⟨_, PySem.W.mg_of X G ac_MOST_KNOTS⟩
  X_BadBelt := ⟨xq_BadBelt⟩
  XI_BadBelt := ⟨xga_BadBelt, xgt_BadBelt, xcl_BadBelt, xhd_BadBelt, xgn, xtk, xmo_BadBelt, xmb_BadBelt⟩
  X_BadKnot := ⟨xq_BadKnot⟩
  XI_BadKnot := ⟨xga_BadKnot, xgt_BadKnot, xcl_BadKnot, xhd_BadKnot, xgn, xtk, xmo_BadKnot, xmb_BadKnot⟩
  X_BadWork := ⟨xq_BadWork⟩
  XI_BadWork := ⟨xga_BadWork, xgt_BadWork, xcl_BadWork, xhd_BadWork, xgn, xtk, xmo_BadWork, xmb_BadWork⟩
  k1_State_Drain := k1_State_Drain
  k1_Belt_Drain := k1_Belt_Drain
  k1_Knot_Drain := k1_Knot_Drain
  k1_Source_Drain := k1_Source_Drain
  k1_Drain_Drain := k1_Drain_Drain
  k1_Parter_Drain := k1_Parter_Drain
  k1_FirstParter_Drain := k1_FirstParter_Drain
  k1_Sieve_Drain := k1_Sieve_Drain
  k1_Joiner_Drain := k1_Joiner_Drain
  k1_Work_Drain := k1_Work_Drain
  k1_State_Source := k1_State_Source
  k1_Belt_Source := k1_Belt_Source
  k1_Knot_Source := k1_Knot_Source
  k1_Source_Source := k1_Source_Source
  k1_Drain_Source := k1_Drain_Source
  k1_Parter_Source := k1_Parter_Source
  k1_FirstParter_Source := k1_FirstParter_Source
  k1_Sieve_Source := k1_Sieve_Source
  k1_Joiner_Source := k1_Joiner_Source
  k1_Work_Source := k1_Work_Source
  k1_State_Parter := k1_State_Parter
  k1_Belt_Parter := k1_Belt_Parter
  k1_Knot_Parter := k1_Knot_Parter
  k1_Source_Parter := k1_Source_Parter
  k1_Drain_Parter := k1_Drain_Parter
  k1_Parter_Parter := k1_Parter_Parter
  k1_FirstParter_Parter := k1_FirstParter_Parter
  k1_Sieve_Parter := k1_Sieve_Parter
  k1_Joiner_Parter := k1_Joiner_Parter
  k1_Work_Parter := k1_Work_Parter
  k1_State_Joiner := k1_State_Joiner
  k1_Belt_Joiner := k1_Belt_Joiner
  k1_Knot_Joiner := k1_Knot_Joiner
  k1_Source_Joiner := k1_Source_Joiner
  k1_Drain_Joiner := k1_Drain_Joiner
  k1_Parter_Joiner := k1_Parter_Joiner
  k1_FirstParter_Joiner := k1_FirstParter_Joiner
  k1_Sieve_Joiner := k1_Sieve_Joiner
  k1_Joiner_Joiner := k1_Joiner_Joiner
  k1_Work_Joiner := k1_Work_Joiner
 }
 exact ⟨_, fun s v => .of_eq rfl, fun base _ _ => top_ok T (xE (st := vW) lL cL kL)⟩
theorem walk {l : PySem.W.OpenLaw} {q : Program} {loose : List Str} {XP : (Str → Option Value) → Heap → Prop} {YP : World → Heap → Prop} {d : DefRec} {K : Params → PySem.W.Frag} (hn : l.most = some 63) (hdf : d.params.defaults = [])
  (hY : ∀ (w : World) (h : Heap), YP w h → (K w.params).In h)
  (F : ∀ (w : World) (mg : Str → Option Value) (fa : Addr) (h : Heap), (K w.params).In h → h.Ns mainGlobals mg → mg d.name = some (.ref fa) →
   ∃ fd : FuncData, (∀ (s : Shared) (u : Value), BindsTo s fd ⟨[u], []⟩ [("_law_script", u)]) ∧ ∀ base : Heap, (K w.params).In base → base.Ns mainGlobals mg → FnOk l.prog w (K w.params) mg base (CXr l.prog w) 8 fa fd ["_law_script"] (JP (K w.params))) :
  PySem.W.WalkO q loose XP YP l.row.toRowW d [] (fun f vs => PySem.call f vs) :=
 L2.walk_of (n := 63) (k := 8) (x := "_law_script") (CX := fun w => CXr l.prog w) (sp := fun w => JP (K w.params)) hn (by decide) hdf ⟨rfl, by decide, by decide⟩ hY F (fun _ _ a ns hl _ hS => ⟨a, ns, rfl, hS, hl, fun _ => rfl⟩) fun _ _ _ _ _ z => VY z
end K25
set_option Elab.async false
namespace PySem.W.Fast
noncomputable def tw6044112881405186346 := ()
noncomputable def tw5590915704802805890 := ()
noncomputable def tw14640736775936696002 := ()
noncomputable def tw3478957139981751674 := ()
noncomputable def tw7481244639328072455 := ()
noncomputable def tw13003851567575759853 := ()
noncomputable def tw10278415786137499364 := ()
noncomputable def tw8346910477057542503 := ()
noncomputable def tw4299453906278191659 := ()
noncomputable def tw17370820718812720157 := ()
noncomputable def tw8056860647839041783 := ()
noncomputable def tw12545729499384235081 := ()
noncomputable def tw1685528439585231734 := ()
noncomputable def tw11927564502685090512 := ()
noncomputable def tw6377978878020503021 := ()
noncomputable def tw3576484663152902627 := ()
noncomputable def tw14519751034226123317 := ()
noncomputable def tw17121503182932217456 := ()
noncomputable def tw593577798885971280 := ()
noncomputable def tw16062840505800096482 := ()
noncomputable def tw8846226060121541519 := ()
noncomputable def tw6095289853463977839 := ()
noncomputable def tw17980228526404183511 := ()
noncomputable def tw9729993741840161722 := ()
noncomputable def tw1437962918512822178 := ()
noncomputable def tw17586140049997524395 := ()
noncomputable def tw7013306277625925098 := ()
noncomputable def tw1048637200026477007 := ()
noncomputable def tw6944418757117864987 := ()
noncomputable def tw1872033727611582339 := ()
noncomputable def tw15328280128059243022 := ()
noncomputable def tw1652725500088138187 := ()
noncomputable def tw8645981499536650597 := ()
noncomputable def tw5650381003625447326 := ()
noncomputable def tw14956888506660743700 := ()
noncomputable def tw15192213220269632316 := ()
noncomputable def tw15852627863742848505 := ()
noncomputable def tw9144949880506920755 := ()
noncomputable def tw15275757508278423091 := ()
noncomputable def tw12214989592280864247 := ()
noncomputable def tw14145754512548104791 := ()
noncomputable def tw17663227360715223114 := ()
noncomputable def tw9569385757429664942 := ()
noncomputable def tw6412643630933336008 := ()
noncomputable def tw1692846677936307314 := ()
noncomputable def tw5105138353459341160 := ()
noncomputable def tw18201261350749052880 := ()
noncomputable def tw17526085506334296307 := ()
noncomputable def tw7867205653297265032 := ()
noncomputable def tw17130821178098255766 := ()
noncomputable def tw16350025083365671478 := ()
noncomputable def tw12545787450197629649 := ()
noncomputable def tw15875190398585038300 := ()
noncomputable def tw10095438256183018530 := ()
noncomputable def tw9331520016240533939 := ()
noncomputable def tw12740952009482534899 := ()
noncomputable def tw27114159060287336 := ()
noncomputable def tw3917512032506895178 := ()
noncomputable def tw9564610878033471283 := ()
noncomputable def tw1762983574275166881 := ()
noncomputable def tw14973095607733210291 := ()
noncomputable def tw4317417803699431961 := ()
end PySem.W.Fast
open PySem PySem.W PyProof.Rows
set_option maxRecDepth 100000 in
set_option maxHeartbeats 0 in
theorem PySem.Challenge.cw_beltshares_k25_alike_states_holds : PySem.Challenge.rw_beltshares_k25_alike_states.Holds := by
 w_on; o_law; k_head; (case hw => w_witness2)
 k_fill
 refine K25.walk (l := PySem.Challenge.rw_beltshares_k25_alike_states) rfl rfl (fun w h Y => PySem.W.kIn_of Y) ?F
 case F =>
  intro w mg fa h KX G hmg
  refine' K25.all_mk KX G hmg ?h0 ?h1 ?h2 ?h3 ?h4 ?h5 ?h6 ?h7 ?h8 ?h9 ?h10 ?h11 ?h12 ?h13 ?h14 ?h15 ?h16 ?h17 ?h18 ?h19 ?h20 ?h21 ?h22 ?h23 ?h24 ?h25 ?h26 ?h27 ?h28 ?h29 ?h30 ?h31 ?h32 ?h33 ?aL ?lL ?cL ?kL ?z_list ?z_len ?z_tuple ?z_sorted ?z_range ?z_enumerate ?z_isinstance ?z_reversed ?z_all ?z_max ?z_bool ?ag_State ?ag_WorkError ?ag_BadBelt ?ag_BadKnot ?ag_BadWork ?ag_Belt ?ag_Knot ?ag_Source ?ag_Drain ?ag_Parter ?ag_FirstParter ?ag_Sieve ?ag_Joiner ?ag_Work ?hc_State ?nf_turn_State ?nf_cells_State ?nf_sides_State ?nf_gone_State ?h_State_init ?hc_Belt ?nf_room_Belt ?nf_pace_Belt ?h_Belt_init ?hc_Knot ?nf_ins_Knot ?nf_outs_Knot ?aKnot_init ?iKnot_init ?lKnot_init ?cKnot_init ?kKnot_init ?bga_Knot_init ?brd_Knot_init ?bfc_Knot_init ?h_Knot_choice ?h_Knot_copied ?hc_Source ?nf_pace_Source ?nf_kinds_Source ?nf_ins_Source ?nf_outs_Source ?h_Source_init ?h_Source_choice ?h_Source_copied ?hc_Drain ?nf_pace_Drain ?nf_ins_Drain ?nf_outs_Drain ?h_Drain_init ?h_Drain_choice ?h_Drain_copied ?hc_Parter ?nf_ins_Parter ?nf_outs_Parter ?h_Parter_init ?h_Parter_choice ?h_Parter_copied ?hc_FirstParter ?nf_ins_FirstParter ?nf_outs_FirstParter ?h_FirstParter_init ?h_FirstParter_choice ?h_FirstParter_copied ?hc_Sieve ?nf_kind_Sieve ?nf_ins_Sieve ?nf_outs_Sieve ?h_Sieve_init ?h_Sieve_choice ?h_Sieve_place_for ?h_Sieve_copied ?hc_Joiner ?nf_ins_Joiner ?nf_outs_Joiner ?h_Joiner_init ?h_Joiner_choice ?h_Joiner_copied ?hc_Work ?nf_belts_Work ?nf_knots_Work ?h_Work_init ?h_Work_feeder ?h_Work_taker ?h_Work_drains ?h_Work_sources ?h_Work_beat ?wgn ?wtk ?ac_MOST_ROOM ?ac_MOST_PACE ?ac_MOST_KINDS ?ac_FEWEST_WAYS ?ac_MOST_WAYS ?ac_MOST_BELTS ?ac_MOST_KNOTS ?xq_BadBelt ?xga_BadBelt ?xgt_BadBelt ?xcl_BadBelt ?xhd_BadBelt ?xmo_BadBelt ?xmb_BadBelt ?xq_BadKnot ?xga_BadKnot ?xgt_BadKnot ?xcl_BadKnot ?xhd_BadKnot ?xmo_BadKnot ?xmb_BadKnot ?xq_BadWork ?xga_BadWork ?xgt_BadWork ?xcl_BadWork ?xhd_BadWork ?xmo_BadWork ?xmb_BadWork ?xgn ?xtk ?k1_State_Drain ?k1_Belt_Drain ?k1_Knot_Drain ?k1_Source_Drain ?k1_Drain_Drain ?k1_Parter_Drain ?k1_FirstParter_Drain ?k1_Sieve_Drain ?k1_Joiner_Drain ?k1_Work_Drain ?k1_State_Source ?k1_Belt_Source ?k1_Knot_Source ?k1_Source_Source ?k1_Drain_Source ?k1_Parter_Source ?k1_FirstParter_Source ?k1_Sieve_Source ?k1_Joiner_Source ?k1_Work_Source ?k1_State_Parter ?k1_Belt_Parter ?k1_Knot_Parter ?k1_Source_Parter ?k1_Drain_Parter ?k1_Parter_Parter ?k1_FirstParter_Parter ?k1_Sieve_Parter ?k1_Joiner_Parter ?k1_Work_Parter ?k1_State_Joiner ?k1_Belt_Joiner ?k1_Knot_Joiner ?k1_Source_Joiner ?k1_Drain_Joiner ?k1_Parter_Joiner ?k1_FirstParter_Joiner ?k1_Sieve_Joiner ?k1_Joiner_Joiner ?k1_Work_Joiner
  (case h0|h1|h2|h3|h4|h5|h6|h7|h8|h9|h10|h11|h12|h13|h14|h15|h16|h17|h18|h19|h20|h21|h22|h23|h24|h25|h26|h27|h28|h29|h30|h31|h32|h33 => (refine' K25.fhy ?a ?l ?c ?k; (case a => k_is); (case l => k_is); (case c => k_is); (case k => k_is)))
  (case aL|lL|cL|kL|z_list|z_len|z_tuple|z_sorted|z_range|z_enumerate|z_isinstance|z_reversed|z_all|z_max|z_bool|ag_State|ag_WorkError|ag_BadBelt|ag_BadKnot|ag_BadWork|ag_Belt|ag_Knot|ag_Source|ag_Drain|ag_Parter|ag_FirstParter|ag_Sieve|ag_Joiner|ag_Work => k_is)
  (case hc_State => (refine ⟨?_, ?_, ?_, ?_, ?_, ?_, ?_, ?_⟩ <;> k_is))
  (case nf_turn_State|nf_cells_State|nf_sides_State|nf_gone_State => (show PySem.W.findIn _ _ _ = _; k_is))
  (case h_State_init => (refine' K25.mhy ?a ?i ?l ?c ?k; (case a => k_is); (case i => k_is); (case l => k_is); (case c => k_is); (case k => k_is)))
  (case hc_Belt => (refine ⟨?_, ?_, ?_, ?_, ?_, ?_, ?_, ?_⟩ <;> k_is))
  (case nf_room_Belt|nf_pace_Belt => (show PySem.W.findIn _ _ _ = _; k_is))
  (case h_Belt_init => (refine' K25.mhy ?a ?i ?l ?c ?k; (case a => k_is); (case i => k_is); (case l => k_is); (case c => k_is); (case k => k_is)))
  (case hc_Knot => (refine ⟨?_, ?_, ?_, ?_, ?_, ?_, ?_, ?_⟩ <;> k_is))
  (case nf_ins_Knot|nf_outs_Knot => (show PySem.W.findIn _ _ _ = _; k_is))
  (case aKnot_init|iKnot_init|lKnot_init|cKnot_init|kKnot_init|bga_Knot_init|brd_Knot_init|bfc_Knot_init => k_is)
  (case h_Knot_choice|h_Knot_copied => (refine' K25.mhy ?a ?i ?l ?c ?k; (case a => k_is); (case i => k_is); (case l => k_is); (case c => k_is); (case k => k_is)))
  (case hc_Source => (refine ⟨?_, ?_, ?_, ?_, ?_, ?_, ?_, ?_⟩ <;> k_is))
  (case nf_pace_Source|nf_kinds_Source|nf_ins_Source|nf_outs_Source => (show PySem.W.findIn _ _ _ = _; k_is))
  (case h_Source_init|h_Source_choice|h_Source_copied => (refine' K25.mhy ?a ?i ?l ?c ?k; (case a => k_is); (case i => k_is); (case l => k_is); (case c => k_is); (case k => k_is)))
  (case hc_Drain => (refine ⟨?_, ?_, ?_, ?_, ?_, ?_, ?_, ?_⟩ <;> k_is))
  (case nf_pace_Drain|nf_ins_Drain|nf_outs_Drain => (show PySem.W.findIn _ _ _ = _; k_is))
  (case h_Drain_init|h_Drain_choice|h_Drain_copied => (refine' K25.mhy ?a ?i ?l ?c ?k; (case a => k_is); (case i => k_is); (case l => k_is); (case c => k_is); (case k => k_is)))
  (case hc_Parter => (refine ⟨?_, ?_, ?_, ?_, ?_, ?_, ?_, ?_⟩ <;> k_is))
  (case nf_ins_Parter|nf_outs_Parter => (show PySem.W.findIn _ _ _ = _; k_is))
  (case h_Parter_init|h_Parter_choice|h_Parter_copied => (refine' K25.mhy ?a ?i ?l ?c ?k; (case a => k_is); (case i => k_is); (case l => k_is); (case c => k_is); (case k => k_is)))
  (case hc_FirstParter => (refine ⟨?_, ?_, ?_, ?_, ?_, ?_, ?_, ?_⟩ <;> k_is))
  (case nf_ins_FirstParter|nf_outs_FirstParter => (show PySem.W.findIn _ _ _ = _; k_is))
  (case h_FirstParter_init|h_FirstParter_choice|h_FirstParter_copied => (refine' K25.mhy ?a ?i ?l ?c ?k; (case a => k_is); (case i => k_is); (case l => k_is); (case c => k_is); (case k => k_is)))
  (case hc_Sieve => (refine ⟨?_, ?_, ?_, ?_, ?_, ?_, ?_, ?_⟩ <;> k_is))
  (case nf_kind_Sieve|nf_ins_Sieve|nf_outs_Sieve => (show PySem.W.findIn _ _ _ = _; k_is))
  (case h_Sieve_init|h_Sieve_choice|h_Sieve_place_for|h_Sieve_copied => (refine' K25.mhy ?a ?i ?l ?c ?k; (case a => k_is); (case i => k_is); (case l => k_is); (case c => k_is); (case k => k_is)))
  (case hc_Joiner => (refine ⟨?_, ?_, ?_, ?_, ?_, ?_, ?_, ?_⟩ <;> k_is))
  (case nf_ins_Joiner|nf_outs_Joiner => (show PySem.W.findIn _ _ _ = _; k_is))
  (case h_Joiner_init|h_Joiner_choice|h_Joiner_copied => (refine' K25.mhy ?a ?i ?l ?c ?k; (case a => k_is); (case i => k_is); (case l => k_is); (case c => k_is); (case k => k_is)))
  (case hc_Work => (refine ⟨?_, ?_, ?_, ?_, ?_, ?_, ?_, ?_⟩ <;> k_is))
  (case nf_belts_Work|nf_knots_Work => (show PySem.W.findIn _ _ _ = _; k_is))
  (case h_Work_init|h_Work_feeder|h_Work_taker|h_Work_drains|h_Work_sources|h_Work_beat => (refine' K25.mhy ?a ?i ?l ?c ?k; (case a => k_is); (case i => k_is); (case l => k_is); (case c => k_is); (case k => k_is)))
  (case wgn|wtk|ac_MOST_ROOM|ac_MOST_PACE|ac_MOST_KINDS|ac_FEWEST_WAYS|ac_MOST_WAYS|ac_MOST_BELTS|ac_MOST_KNOTS => k_is)
  (case xq_BadBelt => k_exc)
  (case xga_BadBelt|xgt_BadBelt|xcl_BadBelt|xhd_BadBelt|xmo_BadBelt|xmb_BadBelt => k_is)
  (case xq_BadKnot => k_exc)
  (case xga_BadKnot|xgt_BadKnot|xcl_BadKnot|xhd_BadKnot|xmo_BadKnot|xmb_BadKnot => k_is)
  (case xq_BadWork => k_exc)
  (case xga_BadWork|xgt_BadWork|xcl_BadWork|xhd_BadWork|xmo_BadWork|xmb_BadWork|xgn|xtk => k_is)
  (case k1_State_Drain|k1_Belt_Drain|k1_Knot_Drain|k1_Source_Drain|k1_Drain_Drain|k1_Parter_Drain|k1_FirstParter_Drain|k1_Sieve_Drain|k1_Joiner_Drain|k1_Work_Drain|k1_State_Source|k1_Belt_Source|k1_Knot_Source|k1_Source_Source|k1_Drain_Source|k1_Parter_Source|k1_FirstParter_Source|k1_Sieve_Source|k1_Joiner_Source|k1_Work_Source|k1_State_Parter|k1_Belt_Parter|k1_Knot_Parter|k1_Source_Parter|k1_Drain_Parter|k1_Parter_Parter|k1_FirstParter_Parter|k1_Sieve_Parter|k1_Joiner_Parter|k1_Work_Parter|k1_State_Joiner|k1_Belt_Joiner|k1_Knot_Joiner|k1_Source_Joiner|k1_Drain_Joiner|k1_Parter_Joiner|k1_FirstParter_Joiner|k1_Sieve_Joiner|k1_Joiner_Joiner|k1_Work_Joiner => kit_is)
