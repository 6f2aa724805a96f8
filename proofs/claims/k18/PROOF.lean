import PyProof.Rows.All
import Wide.All
import OpenK.AllK
import Wide.FinOn
import Lean
import PyProof.EqAt
import PyProof.EqKinds
import PyProof.TupleCall
import PyProof.NeKinds
import PyProof.SumWalkG
import PyProof.Rows.CallKwBuiltin
import PyProof.Rows.FStr
import PyProof.ListRange
import PyProof.ZipIter
import PyProof.CompFree
import KE.KIntText
import PyProof.StrWalks
import PyProof.Rows.StrMul
import PyProof.ConsumeWalk
import Wide.Txt
import PySem.Challenge.RW_beltshares_k18_lanes
set_option Elab.async false
set_option linter.all false
set_option maxRecDepth 100000
set_option compiler.extract_closed false
set_option hygiene false
local macro_rules | `(tactic| walk_at "p") => `(tactic| first | exact Or.inl rfl | exact Or.inr rfl | assumption)
local macro_rules | `(tactic| walk_at "q") => `(tactic| first | exact L2.nobehind _ (by decide) (by decide) | rfl)
set_option hygiene true
namespace L2
open PySem PySem.Spec PyProof.Rows
abbrev Key := Sum Int Str
def Q4 : Key → Value → Bool
 | .inl k, v => Value.isInt k v
 | .inr x, v => Value.isStrOf x v
def keyH (w : World) : Key → Int
 | .inl k => hashInt k
 | .inr x => hashStr w x
theorem z8 : ∀ {k : Key} {v : Value}, Q4 k v = true → (∃ i t, k = Sum.inl i ∧ v = Value.int i t) ∨ (∃ x t, k = Sum.inr x ∧ v = Value.str x t)
 | .inl i, v, h => by
  obtain ⟨t, e⟩ := Value.isInt_shape (k := i) (v := v) h
  exact .inl ⟨i, t, rfl, e⟩
 | .inr x, v, h => by
  obtain ⟨t, e⟩ := Value.isStrOf_shape (x := x) (v := v) h
  exact .inr ⟨x, t, rfl, e⟩
theorem key_ll (a b : Int) : decide ((Sum.inl a : Key) = Sum.inl b) = (a == b) := by
 by_cases e : a = b
 ·subst e; simp
 ·have h : ¬ (Sum.inl a : Key) = Sum.inl b := fun q => e (Sum.inl.inj q)
  rw [decide_eq_false h]
  exact (beq_eq_false_iff_ne.mpr e).symm
theorem key_rr (a b : Str) : decide ((Sum.inr a : Key) = Sum.inr b) = decide (a = b) := by
 by_cases e : a = b
 ·subst e; simp
 ·have h : ¬ (Sum.inr a : Key) = Sum.inr b := fun q => e (Sum.inr.inj q)
  rw [decide_eq_false h, decide_eq_false e]
theorem key_lr (a : Int) (b : Str) : decide ((Sum.inl a : Key) = Sum.inr b) = false := decide_eq_false (fun q => nomatch q)
theorem key_rl (a : Str) (b : Int) : decide ((Sum.inr a : Key) = Sum.inl b) = false := decide_eq_false (fun q => nomatch q)
def vX (prog : Program) (w : World) : PySem.KeyKind prog w Key where
 is := Q4
 hash := keyH w
 inj := fun v a b ha hb => by
  rcases z8 ha with ⟨i, t, rfl, rfl⟩ | ⟨x, t, rfl, rfl⟩
  ·rcases z8 hb with ⟨j, u, rfl, e⟩ | ⟨y, u, rfl, e⟩
   ·injection e with e1 _; rw [e1]
   ·exact nomatch e
  ·rcases z8 hb with ⟨j, u, rfl, e⟩ | ⟨y, u, rfl, e⟩
   ·exact nomatch e
   ·injection e with e1 _; rw [e1]
 byValue := fun k v h => by
  rcases z8 h with ⟨i, t, rfl, rfl⟩ | ⟨x, t, rfl, rfl⟩ <;> rfl
 pyHash := fun hv h => by
  rcases z8 hv with ⟨i, t, rfl, rfl⟩ | ⟨x, t, rfl, rfl⟩
  ·exact wpAny_pyHash_int h
  ·exact wpAny_pyHash_str h
 eqBool := fun hu hv h => by
  rcases z8 hu with ⟨i, t, rfl, rfl⟩ | ⟨x, t, rfl, rfl⟩
  ·rcases z8 hv with ⟨j, u, rfl, rfl⟩ | ⟨y, u, rfl, rfl⟩
   ·rw [key_ll] at h; exact wpAny_eqBool_int h
   ·rw [key_lr] at h; exact SeqAt.EqAt.int_str i t y u _ _ _ _ h
  ·rcases z8 hv with ⟨j, u, rfl, rfl⟩ | ⟨y, u, rfl, rfl⟩
   ·rw [key_rl] at h; exact SeqAt.EqAt.str_int x t j u _ _ _ _ h
   ·rw [key_rr] at h; exact wpAny_eqBool_str h
 «strs» := fun k x t v h => by
  rcases z8 h with ⟨i, u, rfl, e⟩ | ⟨y, u, rfl, e⟩
  ·exact nomatch e
  ·injection e with e1 _
   subst e1
   cases v <;> rfl
end L2
namespace L2
open PySem PySem.Spec PyProof.Rows
inductive V where
 | non | bl (b : Bool) | int (i : Int) | str (x : Str) | byt (b : Array UInt8) | flt (b : UInt64) | ref (a : Addr) | ty (n : String)
 deriving DecidableEq
def RelV : V → Value → Prop
 | .non, u => u = Value.none
 | .bl b, u => u = Value.bool b
 | .int i, u => ∃ t, u = Value.int i t
 | .str x, u => ∃ t, u = Value.str x t
 | .byt b, u => ∃ t, u = Value.bytes b t
 | .flt b, u => ∃ t, u = Value.float b t
 | .ref a, u => u = Value.ref a
 | .ty n, u => u = Value.type n
abbrev Vals : List V → List Value → Prop := Paired RelV
theorem Vals.length {xs : List V} {us : List Value} (r : Vals xs us) : xs.length = us.length := Paired.length r
theorem Vals.get : ∀ {xs : List V} {us : List Value} {i : Nat} {x : V}, Vals xs us → xs[i]? = some x → ∃ u, us[i]? = some u ∧ RelV x u
 | _, _, _, _, .nil, e => by simp at e
 | _, _, 0, _, .cons r _, e => by simp at e; subst e; exact ⟨_, rfl, r⟩
 | _, _, i + 1, x, .cons _ t, e => by
  obtain ⟨u, h1, h2⟩ := Vals.get (i := i) (x := x) t (by simpa using e)
  exact ⟨u, by simpa using h1, h2⟩
theorem Vals.set {x : V} {u : Value} (r : RelV x u) : ∀ {xs : List V} {us : List Value} (i : Nat), Vals xs us → Vals (xs.set i x) (us.set i u)
 | _, _, _, .nil => .nil
 | _, _, 0, .cons _ t => .cons r t
 | _, _, i + 1, .cons q t => .cons q (Vals.set r i t)
theorem Vals.append : ∀ {xs ys : List V} {us ws : List Value}, Vals xs us → Vals ys ws → Vals (xs ++ ys) (us ++ ws)
 | _, _, _, _, .nil, s => s
 | _, _, _, _, .cons r t, s => .cons r (Vals.append t s)
theorem Vals.take : ∀ {xs : List V} {us : List Value} (n : Nat), Vals xs us → Vals (xs.take n) (us.take n)
 | _, _, 0, _ => .nil
 | _, _, _ + 1, .nil => .nil
 | _, _, n + 1, .cons r t => .cons r (Vals.take n t)
theorem Vals.drop : ∀ {xs : List V} {us : List Value} (n : Nat), Vals xs us → Vals (xs.drop n) (us.drop n)
 | _, _, 0, r => r
 | _, _, _ + 1, .nil => .nil
 | _, _, n + 1, .cons _ t => Vals.drop n t
theorem Vals.none_of : ∀ {xs : List V} {us : List Value} {i : Nat}, Vals xs us → xs[i]? = none → us[i]? = none := fun {xs us i} r e => by
 have h1 := r.length
 have h2 : xs.length ≤ i := List.getElem?_eq_none_iff.mp e
 exact List.getElem?_eq_none_iff.mpr (by omega)
def RelO : Option V → Option Value → Prop
 | some v, some u => RelV v u
 | none, none => True
 | _, _ => False
def KV {κ : Type} : List (κ × V) → List (κ × Value) → Prop := Paired fun (p : κ × V) (q : κ × Value) => p.1 = q.1 ∧ RelV p.2 q.2
def kV : Key → V
 | .inl i => .int i
 | .inr x => .str x
inductive HO where
 /-- a list -/
 | lst (xs : List V)
 /-- a tuple (never changes) -/
 | tup (xs : List V)
 /-- a dict whose keys are ints and texts; one whose keys are tuples of ints and texts (the empty one is both) -/
 | dK (kvs : List (Key × V)) | dT (kvs : List (List Key × V))
 /-- a set of ints: its members, its size -/
 | set (S : Int → Bool) (n : Nat)
 /-- an instance of the class at C, its dict at dx, its attributes -/
 | ins (C dx : Addr) (fs : List (Str × V))
 /-- the dict of the instance at x -/
 | own (x : Addr)
 /-- the dict of an exception -/
 | xd (fs : List (Str × V))
 /-- a bound method, f of x -/
 | met (f x : Addr)
 /-- a range object lo, lo + 1, .. below hi -/
 | rng (lo hi : Int)
 /-- a thing that is known to the object (the script; a dict while a loop walks it): read, never written while it is so -/
 | frz (o : Obj) (u : HO)
 /-- a code object's table -/
 | tbl (ps : Array Value)
 /-- any other thing, by what is true of its one object (a def of one's own: SetO a S n := HO.ext fun h => ..) -/
 | ext (φ : Heap → Prop)
abbrev Hp := Addr → Option HO
def upd (H : Hp) (a : Addr) (o : HO) : Hp := fun b => if b = a then some o else H b
theorem upd_same {H : Hp} {a : Addr} {o : HO} : upd H a o a = some o := by unfold upd; rw [if_pos rfl]
theorem upd_ne {H : Hp} {a b : Addr} {o : HO} (h : b ≠ a) : upd H a o b = H b := by unfold upd; rw [if_neg h]
theorem js {H : Hp} {a : Addr} {o u : HO} : upd (upd H a o) a u = upd H a u := by
 funext b; unfold upd; split <;> rfl
theorem vn {H : Hp} {a b : Addr} {o u : HO} (h : H a = some o) (h' : H b = some u) (d : o ≠ u) : a ≠ b := by
 intro e; subst e; rw [h] at h'; exact d (Option.some.inj h')
theorem ne_of_none {H : Hp} {a b : Addr} {o : HO} (h : H a = some o) (h' : H b = none) : a ≠ b := by
 intro e; subst e; rw [h] at h'; cases h'
section
variable (P : Program) (w : World)
def ObjOk (H : Hp) (h : Heap) (a : Addr) : HO → Prop
 | .lst xs => xs.length ≤ sizeLine ∧ ∃ (its : List Value) (n : Nat), Vals xs its ∧ h.get? a = some { cls := .type "list", data := .seq its.toArray n }
 | .tup xs => xs.length ≤ sizeLine ∧ ∃ its : List Value, Vals xs its ∧ IsTup h a its.toArray
 | .dK kvs => kvs.length ≤ sizeLine ∧ (a == sysModules) = false ∧ ∃ vs, KV kvs vs ∧ h.DictOf (vX P w) a vs
 | .dT kvs => kvs.length ≤ sizeLine ∧ (a == sysModules) = false ∧ ∃ xs : List (List Key × Addr × Value),
   Paired (fun (p : List Key × V) (q : List Key × Addr × Value) => p.1 = q.1 ∧ H q.2.1 = some (.tup (p.1.map kV)) ∧ RelV p.2 q.2.2) kvs xs ∧
   ∃ o es ep, h.get? a = some o ∧ o.ExactDict ∧ o.data = .dict es ep ∧ es.toList = xs.map (entryOfKey (tupleKind (vX P w))) ∧ (xs.map (·.1)).Nodup
 | .set S n => h.SetOf (intKind P w) a S n
 | .ins C dx fs => H dx = some (.own a) ∧ fs.length ≤ 1000 ∧ dx ≠ a ∧ h.get? a = some (PySem.W.instObj C dx) ∧
   ∃ mA, h.Ns1 dx mA ∧ (∀ f, RelO (fs.lookup f) (mA f)) ∧ PySem.Within mA (fs.map (·.1))
 | .own _ => ∃ o, h.get? a = some o
 | .xd fs => ∃ mA, h.Ns1 a mA ∧ ∀ f, RelO (fs.lookup f) (mA f)
 | .rng lo hi => ∃ t u v, h.get? a = some { cls := .type "range", data := .fields #[.int lo t, .int hi u, .int 1 v] }
 | .frz o u => h.get? a = some o ∧ ObjOk H h a u
 | .tbl ps => h.get? a = some { cls := .none, data := .fields ps }
 | .met f x => h.get? a = some (PySem.W.methodObj (.ref f) (.ref x))
 | .ext φ => φ h ∧ (∃ o, h.get? a = some o) ∧ ∀ h1 h2 : Heap, φ h1 → (∀ o, h1.get? a = some o → h2.get? a = some o) → φ h2
def HOk (H : Hp) (h : Heap) : Prop := ∀ a o, H a = some o → ObjOk P w H h a o
end
section
variable {P : Program} {w : World} {H H' : Hp} {h h' : Heap} {a : Addr} {o : HO}
theorem ObjOk.lt (x : ObjOk P w H h a o) : a < h.objs.size := by
 cases o with
 | lst xs => obtain ⟨_, _, _, _, e⟩ := x; exact Heap.lt_size e
 | tup xs => obtain ⟨_, _, _, p⟩ := x; exact p.lt
 | dK kvs => obtain ⟨_, _, _, _, o, _, _, e, _⟩ := x; exact Heap.lt_size e
 | dT kvs => obtain ⟨_, _, _, _, o, _, _, e, _⟩ := x; exact Heap.lt_size e
 | set S n => obtain ⟨o, _, _, _, e, _⟩ := x; exact Heap.lt_size e
 | ins C dx fs => obtain ⟨_, _, _, e, _⟩ := x; exact Heap.lt_size e
 | own y => obtain ⟨_, e⟩ := x; exact Heap.lt_size e
 | xd fs => obtain ⟨_, ⟨_, _, _, e, _⟩, _⟩ := x; exact Heap.lt_size e
 | rng lo hi => obtain ⟨_, _, _, e⟩ := x; exact Heap.lt_size e
 | frz ob u => obtain ⟨e, _⟩ := x; exact Heap.lt_size e
 | tbl ps => exact Heap.lt_size (show h.get? a = some _ from x)
 | met f y => exact Heap.lt_size (show h.get? a = some _ from x)
 | ext φ => obtain ⟨_, ⟨_, e⟩, _⟩ := x; exact Heap.lt_size e
theorem Paired.mapP {α β : Type} {F G : α → β → Prop} : ∀ {l₁ : List α} {l₂ : List β}, Paired F l₁ l₂ → (∀ a b, F a b → G a b) → Paired G l₁ l₂
 | _, _, .nil, _ => .nil
 | _, _, .cons r t, f => .cons (f _ _ r) (Paired.mapP t f)
theorem ObjOk.stay (x : ObjOk P w H h a o) (k : ∀ b u, (b = a ∨ H b = some (.own a)) → h.get? b = some u → h'.get? b = some u)
  (ho : ∀ b, H b = some (.own a) → H' b = some (.own a)) (ht : ∀ b xs, H b = some (.tup xs) → H' b = some (.tup xs)) : ObjOk P w H' h' a o := by
 induction o with
 | lst xs => obtain ⟨z, its, n, r, e⟩ := x; exact ⟨z, its, n, r, k _ _ (.inl rfl) e⟩
 | tup xs => obtain ⟨z, its, r, ob, e, c⟩ := x; exact ⟨z, its, r, ob, k _ _ (.inl rfl) e, c⟩
 | dK kvs => obtain ⟨z, y, vs, r, ob, es, ep, e, c⟩ := x; exact ⟨z, y, vs, r, ob, es, ep, k _ _ (.inl rfl) e, c⟩
 | dT kvs =>
  obtain ⟨z, y, xs, r, ob, es, ep, e, c⟩ := x
  exact ⟨z, y, xs, Paired.mapP r fun p q z => ⟨z.1, ht _ _ z.2.1, z.2.2⟩, ob, es, ep, k _ _ (.inl rfl) e, c⟩
 | set S n => obtain ⟨ob, es, ep, t, e, c⟩ := x; exact ⟨ob, es, ep, t, k _ _ (.inl rfl) e, c⟩
 | ins C dx fs =>
  obtain ⟨d, z, ne, e, mA, ⟨od, es, ep, e2, c⟩, r⟩ := x
  exact ⟨ho _ d, z, ne, k _ _ (.inl rfl) e, mA, ⟨od, es, ep, k _ _ (.inr d) e2, c⟩, r⟩
 | own y => obtain ⟨ob, e⟩ := x; exact ⟨ob, k _ _ (.inl rfl) e⟩
 | xd fs => obtain ⟨mA, ⟨od, es, ep, e, c⟩, r⟩ := x; exact ⟨mA, ⟨od, es, ep, k _ _ (.inl rfl) e, c⟩, r⟩
 | rng lo hi => obtain ⟨t, u, v, e⟩ := x; exact ⟨t, u, v, k _ _ (.inl rfl) e⟩
 | frz ob u ih => obtain ⟨e, q⟩ := x; exact ⟨k _ _ (.inl rfl) e, ih q⟩
 | tbl ps =>
  have e : h.get? a = some { cls := .none, data := .fields ps } := x
  show h'.get? a = some { cls := .none, data := .fields ps }
  exact k a _ (.inl rfl) e
 | met f y =>
  have e : h.get? a = some (PySem.W.methodObj (.ref f) (.ref y)) := x
  show h'.get? a = some (PySem.W.methodObj (.ref f) (.ref y))
  exact k a _ (.inl rfl) e
 | ext φ => obtain ⟨p, ⟨o, e⟩, st⟩ := x; exact ⟨st _ _ p fun o q => k _ _ (.inl rfl) q, ⟨o, k _ _ (.inl rfl) e⟩, st⟩
theorem HOk.lt (x : HOk P w H h) (e : H a = some o) : a < h.objs.size := (x a o e).lt
theorem HOk.fresh (x : HOk P w H h) (e : h.objs.size ≤ a) : H a = none := by
 cases q : H a with
 | none => rfl
 | some u => exact absurd (Nat.lt_of_lt_of_le (x.lt q) e) (Nat.lt_irrefl _)
theorem HOk.kept (x : HOk P w H h) (k : ∀ b u, h.get? b = some u → h'.get? b = some u) : HOk P w H h' := fun a o e =>
 (x a o e).stay (fun b u _ q => k b u q) (fun _ q => q) fun _ _ q => q
theorem HOk.laid (x : HOk P w H h) (k : ∀ b u, h.get? b = some u → h'.get? b = some u) (hp : h.objs.size ≤ a) (new : ObjOk P w (upd H a o) h' a o) : HOk P w (upd H a o) h' := fun b u e => by
 have hn := x.fresh hp
 by_cases hb : b = a
 ·subst hb; rw [upd_same] at e; cases e; exact new
 ·rw [upd_ne hb] at e
  exact (x b u e).stay (fun c v _ q => k c v q) (fun c q => by rw [upd_ne (ne_of_none q hn)]; exact q) fun c xs q => by rw [upd_ne (ne_of_none q hn)]; exact q
end
def Rd (H : Hp) (a : Addr) (u : HO) : Prop := H a = some u ∨ ∃ o, H a = some (.frz o u)
theorem Rd.of {H : Hp} {a : Addr} {u : HO} (h : H a = some u) : Rd H a u := .inl h
theorem Rd.ok {P : Program} {w : World} {H : Hp} {h : Heap} {a : Addr} {u : HO} (r : Rd H a u) (x : HOk P w H h) : ObjOk P w H h a u := by
 rcases r with r | ⟨o, r⟩
 ·exact x a u r
 ·obtain ⟨_, q⟩ := x a _ r
  exact q
def Mut : Option HO → Prop
 | some (.lst _) => True
 | some (.dK _) => True
 | some (.dT _) => True
 | some (.set _ _) => True
 | some (.ins _ _ _) => True
 | some (.ext _) => True
 | _ => False
section
variable {P : Program} {w : World} {H : Hp} {h h' : Heap} {x e : Addr} {o' : HO}
theorem HOk.write (ok : HOk P w H h) (mu : Mut (H x)) (he : e = x ∨ H e = some (.own x)) (k : ∀ b u, b ≠ e → h.get? b = some u → h'.get? b = some u) (heo : ∃ u, h'.get? e = some u)
  (new : ObjOk P w (upd H x o') h' x o') : HOk P w (upd H x o') h' := fun b u q => by
 have nown : ∀ c y, H c = some (.own y) → c ≠ x := fun c y r z => by subst z; rw [r] at mu; exact mu
 have ntup : ∀ c xs, H c = some (.tup xs) → c ≠ x := fun c xs r z => by subst z; rw [r] at mu; exact mu
 by_cases hb : b = x
 ·subst hb; rw [upd_same] at q; cases q; exact new
 ·rw [upd_ne hb] at q
  by_cases hbe : b = e
  ·have q' : H b = some (.own x) := by
    rcases he with z | z
    ·exact absurd (hbe.trans z) hb
    ·rw [hbe]; exact z
   rw [q] at q'; cases q'
   obtain ⟨v, hv⟩ := heo
   exact ⟨v, by rw [hbe]; exact hv⟩
  ·refine (ok b u q).stay (fun c v hc r => k c v ?_ r) (fun c r => by rw [upd_ne (nown c b r)]; exact r) fun c xs r => by rw [upd_ne (ntup c xs r)]; exact r
   rcases hc with rfl | hc
   ·exact hbe
   ·rintro rfl
    rcases he with z | z
    ·exact nown c b hc z
    ·rw [hc] at z; cases z; exact hb rfl
end
structure Un (fs ex : List Addr) (H H' : Hp) (h h' : Heap) : Prop where
 keep : ∀ b o, h.get? b = some o → H b = none → b ∉ fs → b ∉ ex → h'.get? b = some o
 slot : ∀ b o, h.get? b = some o → H b = none → b ∈ fs → b ∉ ex → ∃ sl, h'.get? b = some { o with slots := sl }
 free : ∀ b o, h.get? b = some o → H b = none → b ∉ ex → H' b = none
 there : ∀ b o, h.get? b = some o → b ∉ ex → ∃ o', h'.get? b = some o'
 tups : ∀ b xs, H b = some (.tup xs) → H' b = some (.tup xs)
 frzs : ∀ b o u, H b = some (.frz o u) → H' b = some (.frz o u)
 tbls : ∀ b ps, H b = some (.tbl ps) → ∃ more, H' b = some (.tbl (ps ++ more))
section
variable {fs fs' ex ex' : List Addr} {H H1 H2 : Hp} {h h1 h2 h' : Heap} {a x e : Addr} {o : HO}
theorem Un.any (u : Un fs ex H H1 h h1) {b : Addr} {ob : Obj} (q : h.get? b = some ob) (n : H b = none) (hx : b ∉ ex) : ∃ sl, h1.get? b = some { ob with slots := sl } := by
 by_cases hb : b ∈ fs
 ·exact u.slot b ob q n hb hx
 ·exact ⟨ob.slots, u.keep b ob q n hb hx⟩
theorem Un.trans (a : Un fs ex H H1 h h1) (b : Un fs ex H1 H2 h1 h2) : Un fs ex H H2 h h2 where
 keep := fun c ob q n hc hx => b.keep c ob (a.keep c ob q n hc hx) (a.free c ob q n hx) hc hx
 slot := fun c ob q n hc hx => by
  obtain ⟨sl, e1⟩ := a.slot c ob q n hc hx
  obtain ⟨sl', e2⟩ := b.slot c _ e1 (a.free c ob q n hx) hc hx
  exact ⟨sl', e2⟩
 free := fun c ob q n hx => by
  obtain ⟨o', e1⟩ := a.there c ob q hx
  exact b.free c o' e1 (a.free c ob q n hx) hx
 there := fun c ob q hx => by
  obtain ⟨o', e1⟩ := a.there c ob q hx
  exact b.there c o' e1 hx
 tups := fun c xs q => b.tups c xs (a.tups c xs q)
 frzs := fun c ob xs q => b.frzs c ob xs (a.frzs c ob xs q)
 tbls := fun c ps q => by
  obtain ⟨m1, e1⟩ := a.tbls c ps q
  obtain ⟨m2, e2⟩ := b.tbls c _ e1
  exact ⟨m1 ++ m2, by rw [e2, Array.append_assoc]⟩
theorem Un.kept (k : ∀ b u, h.get? b = some u → h'.get? b = some u) : Un fs ex H H h h' :=
 ⟨fun b ob q _ _ _ => k b ob q, fun b ob q _ _ _ => ⟨ob.slots, k b ob q⟩, fun _ _ _ n _ => n, fun b ob q _ => ⟨ob, k b ob q⟩, fun _ _ q => q, fun _ _ _ q => q, fun _ ps q => ⟨#[], by rw [q]; simp⟩⟩
theorem Un.refl : Un fs ex H H h h := Un.kept fun _ _ q => q
theorem Un.laid (k : ∀ b u, h.get? b = some u → h'.get? b = some u) (hp : h.objs.size ≤ a) (hn : H a = none) : Un fs ex H (upd H a o) h h' where
 keep := fun b u q _ _ _ => k b u q
 slot := fun b u q _ _ _ => ⟨u.slots, k b u q⟩
 free := fun b u q n _ => by rw [upd_ne (Nat.ne_of_lt (Nat.lt_of_lt_of_le (Heap.lt_size q) hp))]; exact n
 there := fun b u q _ => ⟨u, k b u q⟩
 tups := fun b xs q => by rw [upd_ne (ne_of_none q hn)]; exact q
 frzs := fun b u xs q => by rw [upd_ne (ne_of_none q hn)]; exact q
 tbls := fun b ps q => ⟨#[], by rw [upd_ne (ne_of_none q hn), q]; simp⟩
theorem Un.write (mu : Mut (H x)) (he : e = x ∨ H e = some (.own x)) (k : ∀ b u, b ≠ e → h.get? b = some u → h'.get? b = some u) (heo : ∃ u, h'.get? e = some u) : Un fs ex H (upd H x o) h h' := by
 have hx : ∀ b, H b = none → b ≠ x := fun b n z => by subst z; rw [n] at mu; exact mu
 have hb : ∀ b, H b = none → b ≠ e := fun b n z => by
  subst z
  rcases he with r | r
  ·exact hx b n r
  ·rw [n] at r; cases r
 have hm : ∀ b u, H b = some u → ¬ Mut (some u) → b ≠ x := fun b u q nm z => by subst z; rw [q] at mu; exact nm mu
 refine ⟨fun b u q n _ _ => k b u (hb b n) q, fun b u q n _ _ => ⟨u.slots, k b u (hb b n) q⟩, fun b u q n _ => by rw [upd_ne (hx b n)]; exact n, fun b u q _ => ?_,
  fun b xs q => by rw [upd_ne (hm b _ q fun z => z)]; exact q, fun b u xs q => by rw [upd_ne (hm b _ q fun z => z)]; exact q, fun b ps q => ⟨#[], by rw [upd_ne (hm b _ q fun z => z), q]; simp⟩⟩
 by_cases hbe : b = e
 ·subst hbe; exact heo
 ·exact ⟨u, k b u hbe q⟩
theorem Un.mono (u : Un fs ex H H1 h h1) (hs : ∀ b ∈ fs, b ∈ fs') (hx : ∀ b ∈ ex, b ∈ ex') : Un fs' ex' H H1 h h1 :=
 ⟨fun b ob q n hb he => u.keep b ob q n (fun z => hb (hs b z)) fun z => he (hx b z), fun _ _ q n _ he => u.any q n fun z => he (hx _ z), fun b ob q n he => u.free b ob q n fun z => he (hx b z), fun b ob q he => u.there b ob q fun z => he (hx b z), u.tups, u.frzs, u.tbls⟩
end
def trk (h : Heap) (H : Hp) : List Addr := (List.range h.objs.size).filter fun a => (H a).isSome
def hidT (h : Heap) (H : Hp) : Heap := PySem.W.hideAll h (trk h H)
theorem hidT_size (h : Heap) (H : Hp) : (hidT h H).objs.size = h.objs.size := PySem.W.hideAll_size _ _
theorem hidT_get {h : Heap} {H : Hp} {b : Addr} {o : Obj} (e : h.get? b = some o) (n : H b = none) : (hidT h H).get? b = some o :=
 PySem.W.hideAll_get _ e fun hm => by
  have q : (H b).isSome = true := (List.mem_filter.mp hm).2
  rw [n] at q; simp at q
theorem of_hidT {h : Heap} {H : Hp} {b : Addr} {o : Obj} (e : (hidT h H).get? b = some o) : h.get? b = some o ∧ H b = none := by
 have e' : h.get? b = some o := PySem.W.of_hideAll (trk h H) e
 refine ⟨e', ?_⟩
 cases q : H b with
 | none => rfl
 | some x =>
  have hm : b ∈ trk h H := List.mem_filter.mpr ⟨List.mem_range.mpr (Heap.lt_size e'), by simp [q]⟩
  have z : (hidT h H).get? b = none := PySem.W.hideAll_none (trk h H) hm
  rw [z] at e; cases e
def allNews (g h : Heap) (L : Addr) : List (Addr × Obj) := (List.range h.objs.size).filterMap fun a => if a = L ∨ (g.get? a).isSome = true then none else (h.get? a).map fun o => (a, o)
def rest (g h : Heap) (L d : Addr) : List (Addr × Obj) := (allNews g h L).filter fun p => decide (p.1 ≠ d)
end L2
namespace L2
open PySem PySem.Spec PyProof.Rows
structure Mod (K : PySem.W.Frag) (mg : Str → Option Value) (base : Heap) : Prop where
 kin : K.In base
 glob : base.Ns mainGlobals mg
 blt : ∃ mb, base.Ns builtinsNs mb ∧ ∀ x : Str, x ≠ "__name__" → mb x = bootBuiltins x
 nolimit : base.NoLimit
structure Cx where
 prog : Program
 w : World
 K : PySem.W.Frag
 mg : Str → Option Value
 base : Heap
 A : Around
 N : List Str
 s₀ : Shared
 H₀ : Hp
 env : Env
 outer : List Env
 stack : List Env
 ex : List Addr
 fn : Str → Bool
 calm : Bool
 pn : List (Addr × Obj)
 xe : Value → Shared → Prop
def frs (l : List Env) : List Addr := l.filterMap (·.frame)
abbrev Cx.fs (X : Cx) : List Addr := frs X.outer
def Vis (sc : Scope) (x : Str) : Prop := sc.names.lookup x = some .local ∨ sc.names.lookup x = some .cell ∨ sc.names.lookup x = some .free
def Loc (sc : Scope) (x : Str) : Prop := sc.names.lookup x = some .local ∨ sc.names.lookup x = some .cell
def Look (env : Env) (h : Heap) (m : Str → Option Value) (x : Str) (u : Value) : Prop :=
 (env.kindOf x = some .local ∧ m x = some u) ∨ ((env.kindOf x = some .cell ∨ env.kindOf x = some .free) ∧ ∃ c, env.cells.lookup x = some c ∧ h.IsCell c (some u))
structure Cx.Ok (X : Cx) : Prop where
 mod : Mod X.K X.mg X.base
 kind : X.env.scope.kind = .function
 glob : X.env.globals = mainGlobals
 blt : X.env.builtins = builtinsNs
 above : X.s₀.heap.objs.size ≤ X.env.locals
 inj : ∀ x y c, X.env.cells.lookup x = some c → X.env.cells.lookup y = some c → x = y
 has : ∀ x, (X.env.kindOf x = some .cell ∨ X.env.kindOf x = some .free) → ∃ c, X.env.cells.lookup x = some c
 cab : ∀ x c, X.fn x = true → X.env.cells.lookup x = some c → X.s₀.heap.objs.size ≤ c
 hd : X.calm = true → X.A.handled = none
 frames : X.A.frames = some X.stack
 stk : X.stack = X.outer ∨ (X.stack = X.env :: X.outer ∧ X.env.frame = some X.env.locals)
 exf : ∀ b ∈ X.ex, b ≠ X.env.locals ∧ ∀ x c, X.env.cells.lookup x = some c → c ≠ b
 bs : ∀ b o, X.base.get? b = some o → X.s₀.heap.get? b = some o ∧ X.H₀ b = none
 bsz : X.base.objs.size ≤ X.s₀.heap.objs.size
 noex : ∀ b o, X.base.get? b = some o → b ∉ X.ex
 exfs : ∀ b ∈ X.ex, b ∉ X.fs
 funs : X.s₀.heap.FunFrames X.base X.outer
 frf : ∀ b ∈ X.fs, X.H₀ b = none
structure Inv (X : Cx) (pins : List (Addr × Obj)) (σ : List (Option V)) (H : Hp) (s : Shared) : Prop where
 ok : X.Ok
 os : s.os = X.s₀.os
 bare : AllBare s.gens
 base : Un X.fs X.ex X.H₀ H X.s₀.heap s.heap
 loc : ∃ m, s.heap.Ns X.env.locals m ∧ ∀ (i : Nat) (x : Str) (v : V), X.N[i]? = some x → σ[i]? = some (some v) → Vis X.env.scope x → ∃ u, RelV v u ∧ Look X.env s.heap m x u
 cell : ∀ x c, X.env.cells.lookup x = some c → ∃ v, s.heap.IsCell c v
 free : H X.env.locals = none
 freeC : ∀ x c, X.env.cells.lookup x = some c → H c = none
 pin : ∀ p ∈ X.pn ++ pins, s.heap.get? p.1 = some p.2 ∧ H p.1 = none ∧ p.1 ≠ X.env.locals ∧ p.1 ∉ X.fs ∧ ∀ v, p.2.data ≠ .cell v
 hok : HOk X.prog X.w H s.heap
 len : σ.length = X.N.length
section
variable {X : Cx} {pins : List (Addr × Obj)} {σ : List (Option V)} {H H' : Hp} {s : Shared} {h' : Heap}
theorem Cx.Ok.nofr (ok : X.Ok) {b : Addr} {o : Obj} (e : X.base.get? b = some o) : b ∉ X.fs := fun hb => by
 have := (ok.funs.mem hb).1
 rw [e] at this; cases this
theorem Inv.bs (I : Inv X pins σ H s) : ∀ b o, X.base.get? b = some o → s.heap.get? b = some o ∧ H b = none := fun b o e =>
 ⟨I.base.keep b o (I.ok.bs b o e).1 (I.ok.bs b o e).2 (I.ok.nofr e) (I.ok.noex b o e), I.base.free b o (I.ok.bs b o e).1 (I.ok.bs b o e).2 (I.ok.noex b o e)⟩
theorem Inv.bk (I : Inv X pins σ H s) : ∀ b o, X.base.get? b = some o → s.heap.get? b = some o := fun b o e => (I.bs b o e).1
theorem Inv.mod (I : Inv X pins σ H s) : Mod X.K X.mg X.base := I.ok.mod
theorem Inv.kIn (I : Inv X pins σ H s) : X.K.In s.heap := I.ok.mod.kin.keeps I.bk
theorem Inv.nolimit (I : Inv X pins σ H s) : s.heap.NoLimit := I.ok.mod.nolimit.keeps I.bk
theorem Inv.fr (I : Inv X pins σ H s) : ∃ m, Fr X.base X.env.locals s.heap m :=
 let ⟨m, hn, _⟩ := I.loc
 ⟨m, hn, I.bk, Nat.le_trans I.ok.bsz I.ok.above⟩
theorem Inv.lt (I : Inv X pins σ H s) : X.env.locals < s.heap.objs.size := let ⟨_, hn, _⟩ := I.loc; hn.lt
theorem Inv.sz (I : Inv X pins σ H s) : X.s₀.heap.objs.size ≤ s.heap.objs.size := Nat.le_trans I.ok.above (Nat.le_of_lt I.lt)
theorem Inv.nofs (I : Inv X pins σ H s) {a : Addr} (h : s.heap.objs.size ≤ a) : a ∉ X.fs := fun hb => by
 obtain ⟨_, o, ho, _⟩ := I.ok.funs.mem hb
 exact absurd (Nat.lt_of_lt_of_le (Heap.lt_size ho) (Nat.le_trans I.sz h)) (Nat.lt_irrefl _)
theorem Inv.cne (I : Inv X pins σ H s) : ∀ x c, X.env.cells.lookup x = some c → c ≠ X.env.locals := fun x c e z => by
 obtain ⟨v, o, ho, hd⟩ := I.cell x c e
 obtain ⟨m, ⟨o', es, ep, ho', hd', _⟩, _⟩ := I.loc
 rw [z, ho'] at ho; cases ho; rw [hd'] at hd; cases hd
theorem Inv.funs (I : Inv X pins σ H s) : s.heap.FunFrames X.base X.outer := by
 have all : ∀ (l : List Env), (∀ b ∈ frs l, b ∈ X.fs) → X.s₀.heap.FunFrames X.base l → s.heap.FunFrames X.base l := by
  intro l
  induction l with
  | nil => intro _ _; trivial
  | cons env r ih =>
   intro hs hl
   obtain ⟨hk, ⟨L, o, hf, hn, ho, hd⟩, hr⟩ := hl
   have hL : L ∈ X.fs := hs L (by unfold frs; rw [List.filterMap_cons, hf]; exact List.mem_cons_self)
   obtain ⟨sl, e⟩ := I.base.slot L o ho (I.ok.frf L hL) hL fun z => I.ok.exfs L z hL
   exact ⟨hk, ⟨L, _, hf, hn, e, hd⟩, ih (fun b hb => hs b (by unfold frs; rw [List.filterMap_cons, hf]; exact List.mem_cons_of_mem _ hb)) hr⟩
 exact all X.outer (fun _ hb => hb) I.ok.funs
theorem Inv.stack (I : Inv X pins σ H s) : s.heap.FunFrames X.base X.stack := by
 rcases I.ok.stk with e | ⟨e, hf⟩
 ·rw [e]; exact I.funs
 ·rw [e]
  obtain ⟨m, hn, _⟩ := I.loc
  refine .cons (by rw [I.ok.kind]; decide) hf hn ?_ I.funs
  exact Heap.get?_none_of_le (Nat.le_trans I.ok.bsz I.ok.above)
theorem Inv.stkSub (I : Inv X pins σ H s) : ∀ b ∈ frs X.stack, b ∈ X.env.locals :: X.fs := fun b hb => by
 rcases I.ok.stk with e | ⟨e, hf⟩
 ·rw [e] at hb; exact List.mem_cons_of_mem _ hb
 ·rw [e] at hb
  unfold frs at hb
  rw [List.filterMap_cons, hf] at hb
  exact hb
theorem Inv.stkFree (I : Inv X pins σ H s) : ∀ b ∈ frs X.stack, H b = none := fun b hb => by
 rcases List.mem_cons.mp (I.stkSub b hb) with e | hb
 ·rw [e]; exact I.free
 ·obtain ⟨_, o, ho, _⟩ := I.ok.funs.mem hb
  exact I.base.free b o ho (I.ok.frf b hb) fun z => I.ok.exfs b z hb
theorem Inv.step {g' : Array GenState} {t' : Nat} {d' : Drawn} {ch : List Addr} (I : Inv X pins σ H s)
  (hch : ∀ b ∈ ch, (b ∈ X.ex ∨ X.s₀.heap.objs.size ≤ b) ∧ b ≠ X.env.locals ∧ (∀ x c, X.env.cells.lookup x = some c → c ≠ b) ∧ ∀ p ∈ X.pn ++ pins, p.1 ≠ b)
  (keep : ∀ b o, b ≠ X.env.locals → b ∉ X.fs → b ∉ ch → s.heap.get? b = some o → H b = none → h'.get? b = some o)
  (slot : ∀ b o, b ≠ X.env.locals → b ∈ X.fs → b ∉ ch → s.heap.get? b = some o → H b = none → ∃ sl, h'.get? b = some { o with slots := sl }) (free : ∀ b o, b ∉ ch → s.heap.get? b = some o → H b = none → H' b = none)
  (there : ∀ b o, b ∉ ch → s.heap.get? b = some o → ∃ o', h'.get? b = some o')
  (tups : ∀ b xs, H b = some (.tup xs) → H' b = some (.tup xs)) (frzs : ∀ b o u, H b = some (.frz o u) → H' b = some (.frz o u)) (tbls : ∀ b ps, H b = some (.tbl ps) → ∃ more, H' b = some (.tbl (ps ++ more)))
  (ns : ∀ m, s.heap.Ns X.env.locals m → h'.Ns X.env.locals m) (hok : HOk X.prog X.w H' h') (hg : AllBare g') :
  Inv X pins σ H' { s with heap := h', gens := g', drawn := d', toks := t' } := by
 have neL : ∀ b o, X.s₀.heap.get? b = some o → b ≠ X.env.locals := fun b o e => Nat.ne_of_lt (Nat.lt_of_lt_of_le (Heap.lt_size e) I.ok.above)
 have neC : ∀ b o, X.s₀.heap.get? b = some o → b ∉ X.ex → b ∉ ch := fun b o e hx hb => by
  rcases (hch b hb).1 with z | z
  ·exact hx z
  ·exact absurd (Nat.lt_of_lt_of_le (Heap.lt_size e) z) (Nat.lt_irrefl _)
 have cellK : ∀ x c, X.env.cells.lookup x = some c → ∀ v, s.heap.IsCell c v → h'.IsCell c v := fun x c e v ⟨o, ho, hd⟩ => by
  have nch : c ∉ ch := fun z => (hch c z).2.2.1 x c e rfl
  by_cases hc : c ∈ X.fs
  ·obtain ⟨sl, q⟩ := slot c o (I.cne x c e) hc nch ho (I.freeC x c e)
   exact ⟨_, q, hd⟩
  ·exact ⟨o, keep c o (I.cne x c e) hc nch ho (I.freeC x c e), hd⟩
 refine ⟨I.ok, I.os, hg, ⟨fun b o e n hb hx => ?_, fun b o e n hb hx => ?_, fun b o e n hx => ?_, fun b o e hx => ?_, fun b xs e => tups b xs (I.base.tups b xs e), fun b o xs e => frzs b o xs (I.base.frzs b o xs e), fun b ps e => ?_⟩, ?_, fun x c e => ?_, ?_, fun x c e => ?_, fun p hp => ?_, hok, I.len⟩
 ·exact keep b o (neL b o e) hb (neC b o e hx) (I.base.keep b o e n hb hx) (I.base.free b o e n hx)
 ·obtain ⟨sl, e1⟩ := I.base.slot b o e n hb hx
  obtain ⟨sl', e2⟩ := slot b _ (neL b o e) hb (neC b o e hx) e1 (I.base.free b o e n hx)
  exact ⟨sl', e2⟩
 ·obtain ⟨o', e1⟩ := I.base.there b o e hx
  exact free b o' (neC b o e hx) e1 (I.base.free b o e n hx)
 ·obtain ⟨o', e1⟩ := I.base.there b o e hx
  exact there b o' (neC b o e hx) e1
 ·obtain ⟨m1, e1⟩ := I.base.tbls b ps e
  obtain ⟨m2, e2⟩ := tbls b _ e1
  exact ⟨m1 ++ m2, by rw [e2, Array.append_assoc]⟩
 ·obtain ⟨m, hn, hl⟩ := I.loc
  refine ⟨m, ns m hn, fun i x v e1 e2 e3 => ?_⟩
  obtain ⟨u, r, l⟩ := hl i x v e1 e2 e3
  refine ⟨u, r, ?_⟩
  rcases l with l | ⟨k, c, e, z⟩
  ·exact .inl l
  ·exact .inr ⟨k, c, e, cellK x c e _ z⟩
 ·obtain ⟨v, z⟩ := I.cell x c e
  exact ⟨v, cellK x c e v z⟩
 ·obtain ⟨m, ⟨o, _, _, ho, _⟩, _⟩ := I.loc
  exact free _ o (fun z => (hch _ z).2.1 rfl) ho I.free
 ·obtain ⟨v, o, ho, hd⟩ := I.cell x c e
  exact free c o (fun z => (hch c z).2.2.1 x c e rfl) ho (I.freeC x c e)
 ·obtain ⟨e, n, ne, nf, d⟩ := I.pin p hp
  have nch : p.1 ∉ ch := fun z => (hch p.1 z).2.2.2 p hp rfl
  exact ⟨keep p.1 p.2 ne nf nch e n, free p.1 p.2 nch e n, ne, nf, d⟩
theorem Inv.un {t' : Nat} (I : Inv X pins σ H s) (u : Un X.fs [] H H' s.heap h') (hok : HOk X.prog X.w H' h') : Inv X pins σ H' { s with heap := h', toks := t' } := by
 obtain ⟨m, ⟨o, es, ep, ho, r⟩, _⟩ := id I.loc
 obtain ⟨sl, hL⟩ := u.any ho I.free (by simp)
 exact I.step (g' := s.gens) (d' := s.drawn) (ch := []) (fun _ z => nomatch z) (fun b o _ hb _ e n => u.keep b o e n hb (by simp)) (fun b o _ hb _ e n => u.slot b o e n hb (by simp)) (fun b o _ e n => u.free b o e n (by simp)) (fun b o _ e => u.there b o e (by simp)) u.tups u.frzs u.tbls (fun m' hm => by
  obtain ⟨o', es', ep', ho', r'⟩ := hm
  rw [ho] at ho'; cases ho'
  exact ⟨_, es', ep', hL, r'⟩) hok I.bare
theorem Inv.call {g' : Array GenState} {t' : Nat} {d' : Drawn} {ch : List Addr} (I : Inv X pins σ H s) (u : Un (frs X.stack) ch H H' s.heap h') (hok : HOk X.prog X.w H' h') (hg : AllBare g')
  (hch : ∀ b ∈ ch, (b ∈ X.ex ∨ X.s₀.heap.objs.size ≤ b) ∧ b ≠ X.env.locals ∧ (∀ x c, X.env.cells.lookup x = some c → c ≠ b) ∧ ∀ p ∈ X.pn ++ pins, p.1 ≠ b) :
  Inv X pins σ H' { s with heap := h', gens := g', drawn := d', toks := t' } := by
 obtain ⟨m, ⟨o, es, ep, ho, r⟩, _⟩ := id I.loc
 obtain ⟨sl, hL⟩ := u.any ho I.free fun z => (hch _ z).2.1 rfl
 exact I.step (ch := ch) hch (fun b o hL hb hc e n => u.keep b o e n (fun z => (List.mem_cons.mp (I.stkSub b z)).elim hL hb) hc) (fun b o _ _ hc e n => u.any e n hc) (fun b o hc e n => u.free b o e n hc) (fun b o hc e => u.there b o e hc) u.tups u.frzs u.tbls (fun m' hm => by
  obtain ⟨o', es', ep', ho', r'⟩ := hm
  rw [ho] at ho'; cases ho'
  exact ⟨_, es', ep', hL, r'⟩) hok hg
theorem Inv.turned {t' : Nat} {it : Addr} (I : Inv X pins σ H s) (k : ∀ b o, b ≠ it → s.heap.get? b = some o → h'.get? b = some o) (hn : H it = none) (hL : it ≠ X.env.locals)
  (h1 : it ∈ X.ex ∨ X.s₀.heap.objs.size ≤ it) (h2 : ∀ x c, X.env.cells.lookup x = some c → c ≠ it) (h3 : ∀ p ∈ X.pn ++ pins, p.1 ≠ it) : Inv X pins σ H { s with heap := h', toks := t' } := by
 have nit : ∀ b u, H b = some u → b ≠ it := fun b u e z => by rw [z, hn] at e; cases e
 refine I.step (g' := s.gens) (d' := s.drawn) (ch := [it]) (fun b hb => ?_) (fun b o _ _ hc e _ => k b o (fun z => hc (by simp [z])) e) (fun b o _ _ hc e _ => ⟨o.slots, k b o (fun z => hc (by simp [z])) e⟩) (fun _ _ _ _ n => n)
  (fun b o hc e => ⟨o, k b o (fun z => hc (by simp [z])) e⟩) (fun _ _ e => e) (fun _ _ _ e => e) (fun b ps e => ⟨#[], by rw [e]; simp⟩) (fun m hm => ?_) (fun b u e => ?_) I.bare
 ·have e : b = it := by simpa using hb
  subst e
  exact ⟨h1, hL, h2, h3⟩
 ·obtain ⟨o, es, ep, ho, r⟩ := hm
  exact ⟨o, es, ep, k _ o (Ne.symm hL) ho, r⟩
 ·refine (I.hok b u e).stay (fun c v hc q => k c v ?_ q) (fun _ q => q) fun _ _ q => q
  rcases hc with z | z
  ·rw [z]; exact nit b u e
  ·exact nit c _ z
theorem Inv.tok (I : Inv X pins σ H s) (t : Nat) : Inv X pins σ H { s with toks := t } := I.un (h' := s.heap) (t' := t) Un.refl I.hok
theorem Inv.kept {t' : Nat} (I : Inv X pins σ H s) (k : ∀ b u, s.heap.get? b = some u → h'.get? b = some u) : Inv X pins σ H { s with heap := h', toks := t' } := I.un (Un.kept k) (I.hok.kept k)
theorem Inv.laid {a : Addr} {o : HO} {t' : Nat} (I : Inv X pins σ H s) (k : ∀ b u, s.heap.get? b = some u → h'.get? b = some u) (hp : s.heap.objs.size ≤ a) (new : ObjOk X.prog X.w (upd H a o) h' a o) :
  Inv X pins σ (upd H a o) { s with heap := h', toks := t' } := I.un (Un.laid k hp (I.hok.fresh hp)) (I.hok.laid k hp new)
theorem Inv.write {x e : Addr} {o : HO} {t' : Nat} (I : Inv X pins σ H s) (mu : Mut (H x)) (he : e = x ∨ H e = some (.own x)) (k : ∀ b u, b ≠ e → s.heap.get? b = some u → h'.get? b = some u) (heo : ∃ u, h'.get? e = some u)
  (new : ObjOk X.prog X.w (upd H x o) h' x o) : Inv X pins σ (upd H x o) { s with heap := h', toks := t' } := I.un (Un.write mu he k heo) (I.hok.write mu he k heo new)
theorem Inv.pins_of {pins' : List (Addr × Obj)} (I : Inv X pins σ H s) (h : ∀ p ∈ pins', s.heap.get? p.1 = some p.2 ∧ H p.1 = none ∧ p.1 ≠ X.env.locals ∧ p.1 ∉ X.fs ∧ ∀ v, p.2.data ≠ .cell v) : Inv X pins' σ H s :=
 ⟨I.ok, I.os, I.bare, I.base, I.loc, I.cell, I.free, I.freeC, fun p hp => (List.mem_append.mp hp).elim (fun z => I.pin p (List.mem_append_left _ z)) (h p), I.hok, I.len⟩
theorem Zs {N : List Str} (hN : N.Nodup) {i j : Nat} {x : Str} (a : N[i]? = some x) (b : N[j]? = some x) : i = j := by
 obtain ⟨h1, e1⟩ := List.getElem?_eq_some_iff.mp a
 obtain ⟨h2, e2⟩ := List.getElem?_eq_some_iff.mp b
 exact (List.getElem_inj hN).mp (e1.trans e2.symm)
theorem vf {M : Model} {A : Around} {E : Value → Shared → Prop} {i : Nat} {x : Str} {v : V} {u : Value} {Q : Unit → Shared → Prop} (I : Inv X pins σ H s) (hN : X.N.Nodup) (hi : X.N[i]? = some x) (hx : Loc X.env.scope x) (r : RelV v u)
  (h : ∀ s', Inv X pins (σ.set i (some v)) H s' → (∃ a, Heap.SameBut a s.heap s'.heap ∧ (a = X.env.locals ∨ X.env.cells.lookup x = some a)) → Q () s') (hf : X.fn x = true ∨ X.env.scope.names.lookup x = some .local := by walk_at "p") : wpAny M A (storeName X.env x u) Q E s := by
 obtain ⟨m, hn, hl⟩ := id I.loc
 have hcls : (X.env.scope.kind == .class || (X.env.scope.kind == .module && X.env.locals != X.env.globals)) = false := by rw [I.ok.kind]; rfl
 have hiσ : i < σ.length := by rw [I.len]; exact (List.getElem?_eq_some_iff.mp hi).1
 have cne := I.cne
 have tracked : ∀ {a : Addr} {h' : Heap}, (∃ o, s.heap.get? a = some o ∧ H a = none) → Heap.SameBut a s.heap h' → HOk X.prog X.w H h' := fun {a h'} ha hs b ob e => by
  obtain ⟨_, _, hfree⟩ := ha
  refine (I.hok b ob e).stay (fun c w' hc q => (hs.2 c ?_).trans q) (fun _ q => q) fun _ _ q => q
  rintro rfl
  rcases hc with rfl | hc
  ·rw [hfree] at e; cases e
  ·rw [hfree] at hc; cases hc
 rcases hx with hk | hk
 ·refine wpAny_storeName_local hk hn (fun h' hn' hs => ?_) hcls
  obtain ⟨oL, _, _, hoL, _⟩ := id hn
  refine h _ ⟨I.ok, I.os, I.bare, ⟨fun b o e n hb hx => ?_, fun b o e n hb hx => ?_, I.base.free, fun b o e hx => ?_, I.base.tups, I.base.frzs, I.base.tbls⟩, ⟨_, hn', fun j y v' e1 e2 e3 => ?_⟩, fun y c e => ?_, I.free, I.freeC, fun p hp => ?_, tracked ⟨oL, hoL, I.free⟩ hs, by simpa using I.len⟩ ⟨_, hs, .inl rfl⟩
  ·exact (hs.2 b (Nat.ne_of_lt (Nat.lt_of_lt_of_le (Heap.lt_size e) I.ok.above))).trans (I.base.keep b o e n hb hx)
  ·obtain ⟨sl, e1⟩ := I.base.slot b o e n hb hx
   exact ⟨sl, (hs.2 b (Nat.ne_of_lt (Nat.lt_of_lt_of_le (Heap.lt_size e) I.ok.above))).trans e1⟩
  ·obtain ⟨o', e1⟩ := I.base.there b o e hx
   exact ⟨o', (hs.2 b (Nat.ne_of_lt (Nat.lt_of_lt_of_le (Heap.lt_size e) I.ok.above))).trans e1⟩
  ·by_cases hj : j = i
   ·subst hj
    rw [hi] at e1; cases e1
    rw [List.getElem?_set_self hiσ] at e2
    cases e2
    exact ⟨u, r, .inl ⟨hk, by simp⟩⟩
   ·rw [List.getElem?_set_ne (Ne.symm hj)] at e2
    obtain ⟨u', r', q⟩ := hl j y v' e1 e2 e3
    refine ⟨u', r', ?_⟩
    rcases q with ⟨k, e⟩ | ⟨k, c, e, z⟩
    ·refine .inl ⟨k, ?_⟩
     have : y ≠ x := fun e => hj (Zs hN e1 (e ▸ hi))
     simp [this, e]
    ·exact .inr ⟨k, c, e, z.sameBut hs (cne y c e)⟩
  ·obtain ⟨w', z⟩ := I.cell y c e
   exact ⟨w', z.sameBut hs (cne y c e)⟩
  ·obtain ⟨e, n, ne, nf, d⟩ := I.pin p hp
   exact ⟨(hs.2 p.1 ne).trans e, n, ne, nf, d⟩
 ·have hfn : X.fn x = true := by
   rcases hf with z | z
   ·exact z
   ·rw [z] at hk; cases hk
  obtain ⟨c, hc⟩ := I.ok.has x (.inl hk)
  obtain ⟨w', z⟩ := I.cell x c hc
  refine wpAny_storeName_cell I.ok.kind hk hc z (fun h' hc' hs => ?_)
  obtain ⟨oc, hoc, hocd⟩ := id z
  refine h { s with heap := h' } ⟨I.ok, I.os, I.bare, ⟨fun b o e n hb hx => ?_, fun b o e n hb hx => ?_, I.base.free, fun b o e hx => ?_, I.base.tups, I.base.frzs, I.base.tbls⟩, ⟨m, hn.sameBut hs (Ne.symm (cne x c hc)), fun j y v' e1 e2 e3 => ?_⟩, fun y c' e => ?_, I.free, I.freeC, fun p hp => ?_, tracked ⟨oc, hoc, I.freeC x c hc⟩ hs, by simpa using I.len⟩ ⟨c, hs, .inr hc⟩
  ·exact (hs.2 b (Nat.ne_of_lt (Nat.lt_of_lt_of_le (Heap.lt_size e) (I.ok.cab x c hfn hc)))).trans (I.base.keep b o e n hb hx)
  ·obtain ⟨sl, e1⟩ := I.base.slot b o e n hb hx
   exact ⟨sl, (hs.2 b (Nat.ne_of_lt (Nat.lt_of_lt_of_le (Heap.lt_size e) (I.ok.cab x c hfn hc)))).trans e1⟩
  ·obtain ⟨o', e1⟩ := I.base.there b o e hx
   exact ⟨o', (hs.2 b (Nat.ne_of_lt (Nat.lt_of_lt_of_le (Heap.lt_size e) (I.ok.cab x c hfn hc)))).trans e1⟩
  ·by_cases hj : j = i
   ·subst hj
    rw [hi] at e1; cases e1
    rw [List.getElem?_set_self hiσ] at e2
    cases e2
    exact ⟨u, r, .inr ⟨.inl hk, c, hc, hc'⟩⟩
   ·rw [List.getElem?_set_ne (Ne.symm hj)] at e2
    obtain ⟨u', r', q⟩ := hl j y v' e1 e2 e3
    refine ⟨u', r', ?_⟩
    rcases q with q | ⟨k, c', e, z'⟩
    ·exact .inl q
    ·refine .inr ⟨k, c', e, z'.sameBut hs ?_⟩
     rintro rfl
     exact hj (Zs hN e1 (I.ok.inj _ _ _ e hc ▸ hi))
  ·by_cases hcc : c' = c
   ·subst hcc; exact ⟨_, hc'⟩
   ·obtain ⟨w2, z2⟩ := I.cell y c' e
    exact ⟨w2, z2.sameBut hs hcc⟩
  ·obtain ⟨e, n, ne, nf, d⟩ := I.pin p hp
   refine ⟨(hs.2 p.1 ?_).trans e, n, ne, nf, d⟩
   intro q
   rw [q, hoc] at e
   have q' : oc = p.2 := Option.some.inj e
   exact d w' (by rw [← q']; exact hocd)
theorem wt {M : Model} {A : Around} {E : Value → Shared → Prop} {i : Nat} {x : Str} {v : V} {u : Value} {Q : Unit → Shared → Prop} (I : Inv X pins σ H s) (hN : X.N.Nodup) (hi : X.N[i]? = some x) (hx : Loc X.env.scope x) (r : RelV v u)
  (h : ∀ s', Inv X pins (σ.set i (some v)) H s' → Q () s') (hf : X.fn x = true ∨ X.env.scope.names.lookup x = some .local := by walk_at "p") : wpAny M A (storeName X.env x u) Q E s :=
 vf I hN hi hx r (fun s' I' _ => h s' I') hf
theorem Inv.call' {s' : Shared} {ch : List Addr} (I : Inv X pins σ H s) (ho : s'.os = s.os) (u : Un (frs X.stack) ch H H' s.heap s'.heap) (hok : HOk X.prog X.w H' s'.heap) (hg : AllBare s'.gens)
  (hch : ∀ b ∈ ch, (b ∈ X.ex ∨ X.s₀.heap.objs.size ≤ b) ∧ b ≠ X.env.locals ∧ (∀ x c, X.env.cells.lookup x = some c → c ≠ b) ∧ ∀ p ∈ X.pn ++ pins, p.1 ≠ b) : Inv X pins σ H' s' := by
 obtain ⟨h', g', d', t', o'⟩ := s'
 have e : o' = s.os := ho
 subst e
 exact I.call (g' := g') (t' := t') (d' := d') u hok hg hch
end
abbrev XK := Value → Option Addr → Hp → Prop
abbrev St := List (Option V)
abbrev VK := V → Hp → Prop
abbrev TE := St → Hp → VK → Prop
abbrev TT := St → Hp → (Bool → Hp → Prop) → Prop
abbrev TA := St → Hp → (List V → Hp → Prop) → Prop
structure Ends where
 nx : St → Hp → Prop
 rt : VK
 bk : St → Hp → Prop := fun _ _ => False
 ct : St → Hp → Prop := fun _ _ => False
abbrev TS := Ends → St → Hp → Prop
def EP (X : Cx) (pins : List (Addr × Obj)) (σ : St) (Q : VK) (u : Value) (s' : Shared) : Prop := ∃ v H', Inv X pins σ H' s' ∧ RelV v u ∧ Q v H'
def TP (X : Cx) (pins : List (Addr × Obj)) (σ : St) (Q : Bool → Hp → Prop) (b : Bool) (s' : Shared) : Prop := ∃ H', Inv X pins σ H' s' ∧ Q b H'
def AP (X : Cx) (pins : List (Addr × Obj)) (σ : St) (Q : List V → Hp → Prop) (us : List Value) (s' : Shared) : Prop := ∃ vs H', Inv X pins σ H' s' ∧ Vals vs us ∧ Q vs H'
def SP (X : Cx) (pins : List (Addr × Obj)) (D : Ends) (f : Flow) (s' : Shared) : Prop :=
 match f with
 | .next => ∃ σ' H', Inv X pins σ' H' s' ∧ D.nx σ' H'
 | .brk => ∃ σ' H', Inv X pins σ' H' s' ∧ D.bk σ' H'
 | .cont => ∃ σ' H', Inv X pins σ' H' s' ∧ D.ct σ' H'
 | .ret u => ∃ v σ' H', Inv X pins σ' H' s' ∧ RelV v u ∧ D.rt v H'
def PE (X : Cx) (e : Expr) (t : TE) : Prop :=
 ∀ (pins : List (Addr × Obj)) (s : Shared) (σ : St) (H : Hp) (Q : VK), Inv X pins σ H s → t σ H Q → wpAny (model X.prog X.w) X.A (eval e X.env) (EP X pins σ Q) X.xe s
def PT (X : Cx) (e : Expr) (t : TT) : Prop :=
 ∀ (pins : List (Addr × Obj)) (s : Shared) (σ : St) (H : Hp) (Q : Bool → Hp → Prop), Inv X pins σ H s → t σ H Q → wpAny (model X.prog X.w) X.A (isTrue e X.env (eval e X.env)) (TP X pins σ Q) X.xe s
def PW (X : Cx) (e : Expr) (t : TT) : Prop :=
 ∀ (whole : Sem Value) (pins : List (Addr × Obj)) (s : Shared) (σ : St) (H : Hp) (Q : Bool → Hp → Prop), Inv X pins σ H s → t σ H Q → wpAny (model X.prog X.w) X.A (isTrue e X.env whole) (TP X pins σ Q) X.xe s
theorem PW.pt {X : Cx} {e : Expr} {t : TT} (h : PW X e t) : PT X e t := h _
def PA (X : Cx) (es : List Expr) (t : TA) : Prop :=
 ∀ (pos : Pos) (pins : List (Addr × Obj)) (s : Shared) (σ : St) (H : Hp) (Q : List V → Hp → Prop), Inv X pins σ H s → t σ H Q → wpAny (model X.prog X.w) X.A (spliced (backTo pos (starEach es X.env))) (AP X pins σ Q) X.xe s
def PS (X : Cx) (st : Stmt) (t : TS) : Prop :=
 ∀ (pins : List (Addr × Obj)) (s : Shared) (σ : St) (H : Hp) (D : Ends), Inv X pins σ H s → t D σ H → wpAny (model X.prog X.w) X.A (exec st X.env) (SP X pins D) X.xe s
def PSs (X : Cx) (st : List Stmt) (t : TS) : Prop :=
 ∀ (pins : List (Addr × Obj)) (s : Shared) (σ : St) (H : Hp) (D : Ends), Inv X pins σ H s → t D σ H → wpAny (model X.prog X.w) X.A (execs st X.env) (SP X pins D) X.xe s
theorem thn {α : Type} {t : Sem α} {Q Q' : α → Shared → Prop} {M : Model} {A : Around} {E : Value → Shared → Prop} {s : Shared} (h : wpAny M A t Q E s) (hQ : ∀ a s, Q a s → Q' a s) : wpAny M A t Q' E s := wpAny_mono h hQ fun _ _ x => x
end L2
namespace L2
open PySem PySem.Spec PyProof.Rows
section
variable {X : Cx}
def tVar (i : Nat) : TE := fun σ H Q => ∃ v, σ[i]? = some (some v) ∧ Q v H
def tC (v : V) : TE := fun _ H Q => Q v H
theorem pe_var {i : Nat} {x : Str} {pos : Pos} (hN : X.N[i]? = some x) (hv : Vis X.env.scope x) (hd : (x == ("__debug__" : Str)) = false := by decide) (hcd : (x == ("__classdict__" : Str)) = false := by decide) : PE X (.Name x pos) (tVar i) := by
 intro pins s σ H Q I h
 obtain ⟨v, e, h⟩ := h
 obtain ⟨m, hn, hl⟩ := I.loc
 obtain ⟨u, r, l⟩ := hl i x v hN e hv
 have fin : EP X pins σ Q u s := ⟨v, H, I, r, h⟩
 rcases l with ⟨hk, hm⟩ | ⟨hk, c, hc, hcell⟩
 ·exact wpAny_Name (wpAny_loadName_local I.ok.kind hk hn hm fin) hd
 ·rcases hk with hk | hk
  ·exact wpAny_Name (wpAny_loadName_cell I.ok.kind hk hc hcell fin) hd
  ·exact wpAny_Name (wpAny_loadName_free I.ok.kind hk hc hcell fin hcd) hd
theorem zc {i j pos} : PE X (.Constant (.int i) j pos) (tC (.int i)) := fun _ _ _ H _ I h => wpAny_Constant_int ⟨.int i, H, I.tok _, ⟨_, rfl⟩, h⟩
theorem qe {b j pos} : PE X (.Constant (.bool b) j pos) (tC (.bl b)) := fun _ _ _ H _ I h => Constant_bool ⟨.bl b, H, I, rfl, h⟩
theorem zD {j pos} : PE X (.Constant .none j pos) (tC .non) := fun _ _ _ H _ I h => Constant_none ⟨.non, H, I, rfl, h⟩
theorem qx {x j pos} : PE X (.Constant (.str x) j pos) (tC (.str x)) := fun _ _ _ H _ I h => Calls.Constant_str ⟨.str x, H, I.tok _, ⟨_, rfl⟩, h⟩
def Gl (X : Cx) (x : Str) : Prop := X.env.kindOf x = some .globalImplicit
theorem jx {E : Value → Shared → Prop} {pins : List (Addr × Obj)} {s : Shared} {σ : St} {H : Hp} {x : Str} {u : Value} {pos : Pos} {Q : Value → Shared → Prop} (I : Inv X pins σ H s) (hg : Gl X x) (hm : X.mg x = some u) (h : Q u s)
  (hd : (x == ("__debug__" : Str)) = false := by decide) : wpAny (model X.prog X.w) X.A (eval (.Name x pos) X.env) Q E s :=
 Calls.Name_function_global I.ok.kind hg (Calls.loadGlobal_global (by rw [I.ok.glob]; exact I.mod.glob.keeps I.bk) hm h) hd
theorem jP {E : Value → Shared → Prop} {pins : List (Addr × Obj)} {s : Shared} {σ : St} {H : Hp} {x : Str} {u : Value} {pos : Pos} {Q : Value → Shared → Prop} (I : Inv X pins σ H s) (hg : Gl X x) (hm : X.mg x = none) (hv : bootBuiltins x = some u) (h : Q u s)
  (hn : x ≠ "__name__" := by decide) (hd : (x == ("__debug__" : Str)) = false := by decide) : wpAny (model X.prog X.w) X.A (eval (.Name x pos) X.env) Q E s := by
 obtain ⟨mb, h1, h2⟩ := I.mod.blt
 exact Calls.Name_function_global I.ok.kind hg (Calls.loadGlobal_builtin (by rw [I.ok.glob]; exact I.mod.glob.keeps I.bk) hm (by rw [I.ok.blt]; exact h1.keeps I.bk) ((h2 x hn).trans hv) h) hd
variable {a b : Expr} {ta tb : TE} {pos : Pos}
def PC (X : Cx) (op : CmpOp) (a b : Expr) (t : TE) : Prop :=
 ∀ (pins : List (Addr × Obj)) (s : Shared) (σ : St) (H : Hp) (Q : VK), Inv X pins σ H s → t σ H Q →
  wpAny (model X.prog X.w) X.A (eval a X.env) (fun v s₁ => wpAny (model X.prog X.w) X.A (eval b X.env) (fun u s₂ => wpAny (model X.prog X.w) X.A (compareOp op v u) (EP X pins σ Q) X.xe s₂) X.xe s₁) X.xe s
theorem nobehind (b : Expr) {op : CmpOp} (h : op ≠ .In) (h2 : op ≠ .NotIn) : behindInMarks op b = false := by
 have e1 : (op == CmpOp.In) = false := by cases op <;> first | rfl | exact absurd rfl h
 have e2 : (op == CmpOp.NotIn) = false := by cases op <;> first | rfl | exact absurd rfl h2
 cases b <;> simp [behindInMarks, e1, e2]
variable {tA tB' : TT} {rest : List Expr}
def tAnd (t u : TT) : TT := fun σ H Q => t σ H fun c H1 => if c = true then u σ H1 Q else Q false H1
def tOr (t u : TT) : TT := fun σ H Q => t σ H fun c H1 => if c = true then Q true H1 else u σ H1 Q
def tNot (t : TT) : TT := fun σ H Q => t σ H fun c H1 => Q (!c) H1
theorem pw_and1 (ha : PT X a tA) : PW X (.BoolOp .And [a] pos) tA := by
 intro wh pins s σ H Q I h
 refine isTrue_and (thn (ha pins s σ H Q I h) fun c s1 e => ?_)
 cases c with
 | true => exact isTrue_and_nil e
 | false => exact e
theorem pw_or1 (ha : PT X a tA) : PW X (.BoolOp .Or [a] pos) tA := by
 intro wh pins s σ H Q I h
 refine isTrue_or (thn (ha pins s σ H Q I h) fun c s1 e => ?_)
 cases c with
 | false => exact isTrue_or_nil e
 | true => exact e
theorem pw_and (ha : PT X a tA) (hb : PW X (.BoolOp .And (b :: rest) pos) tB') : PW X (.BoolOp .And (a :: b :: rest) pos) (tAnd tA tB') := by
 intro wh pins s σ H Q I h
 refine isTrue_and (thn (ha pins s σ H _ I h) fun c s1 ⟨H1, I1, q1⟩ => ?_)
 cases c with
 | true => exact hb wh pins s1 σ H1 Q I1 q1
 | false => exact ⟨H1, I1, q1⟩
theorem pw_or (ha : PT X a tA) (hb : PW X (.BoolOp .Or (b :: rest) pos) tB') : PW X (.BoolOp .Or (a :: b :: rest) pos) (tOr tA tB') := by
 intro wh pins s σ H Q I h
 refine isTrue_or (thn (ha pins s σ H _ I h) fun c s1 ⟨H1, I1, q1⟩ => ?_)
 cases c with
 | true => exact ⟨H1, I1, q1⟩
 | false => exact hb wh pins s1 σ H1 Q I1 q1
theorem zK (ha : PT X a tA) : PT X (.UnaryOp .Not a pos) (tNot tA) := by
 intro pins s σ H Q I h
 exact isTrue_not (ha pins s σ H (fun c H1 => Q (!c) H1) I h)
def tAndV (ta tb : TE) : TE := fun σ H Q => ta σ H fun x H1 => ∃ c, x = .bl c ∧ if c = true then tb σ H1 Q else Q (.bl false) H1
def tOrV (ta tb : TE) : TE := fun σ H Q => ta σ H fun x H1 => ∃ c, x = .bl c ∧ if c = true then Q (.bl true) H1 else tb σ H1 Q
def tNotV (ta : TE) : TE := fun σ H Q => ta σ H fun x H1 => ∃ c, x = .bl c ∧ Q (.bl (!c)) H1
theorem pe_one {op} {t : TE} (h : PE X a t) : PE X (.BoolOp op [a] pos) t := fun pins s σ H Q I hw => BoolOp_one (h pins s σ H Q I hw)
theorem pe_and (ha : PE X a ta) (hb : PE X (.BoolOp .And (b :: rest) pos) tb) : PE X (.BoolOp .And (a :: b :: rest) pos) (tAndV ta tb) := by
 intro pins s σ H Q I h
 refine BoolOp_and (thn (ha pins s σ H _ I h) fun v s1 ⟨x, H1, I1, r1, q1⟩ => ?_)
 obtain ⟨c, rfl, q1⟩ := q1
 cases r1
 refine wpAny_truthy_bool ?_
 cases c with
 | true => exact hb pins s1 σ H1 Q I1 q1
 | false => exact ⟨.bl false, H1, I1, rfl, q1⟩
theorem pe_not (ha : PE X a ta) : PE X (.UnaryOp .Not a pos) (tNotV ta) := by
 intro pins s σ H Q I h
 refine UnaryOp_ (thn (ha pins s σ H _ I h) fun v s1 ⟨x, H1, I1, r1, q1⟩ => ?_)
 obtain ⟨c, rfl, q1⟩ := q1
 cases r1
 exact not_of (wpAny_truthy_bool ⟨.bl (!c), H1, I1, rfl, q1⟩)
def tIf (t : TT) (ta tb : TE) : TE := fun σ H Q => t σ H fun c H1 => if c = true then ta σ H1 Q else tb σ H1 Q
theorem wL {c : Expr} (hc : PT X c tA) (ha : PE X a ta) (hb : PE X b tb) : PE X (.IfExp c a b pos) (tIf tA ta tb) := by
 intro pins s σ H Q I h
 refine wpAny_IfExp (thn (hc pins s σ H _ I h) fun d s1 ⟨H1, I1, q1⟩ => ?_)
 cases d with
 | true => exact ha pins s1 σ H1 Q I1 q1
 | false => exact hb pins s1 σ H1 Q I1 q1
end
end L2
namespace L2
open PySem PySem.Spec PyProof.Rows
def SqL (K : PySem.W.Frag) (H : Hp) (a : Addr) (xs : List V) : Prop :=
 Rd H a (.lst xs) ∨
  ∃ (o : Obj) (its : Array Value) (n : Nat), K.lookup a = some o ∧ o.cls = .type "list" ∧ o.dict = none ∧ o.data = .seq its n ∧ its.size ≤ sizeLine ∧ Vals xs its.toList
def SqT (K : PySem.W.Frag) (H : Hp) (a : Addr) (xs : List V) : Prop :=
 Rd H a (.tup xs) ∨
  ∃ (o : Obj) (its : Array Value) (n : Nat), K.lookup a = some o ∧ o.cls = .type "tuple" ∧ o.data = .seq its n ∧ its.size ≤ sizeLine ∧ Vals xs its.toList
def absV : Value → Option V
 | .none => some .non
 | .bool b => some (.bl b)
 | .int i _ => some (.int i)
 | .str x _ => some (.str x)
 | .bytes b _ => some (.byt b)
 | .float b _ => some (.flt b)
 | .ref a => some (.ref a)
 | .type n => some (.ty n)
 | _ => none
theorem RelV.abs {x : V} {u : Value} (r : RelV x u) : absV u = some x := by
 cases x with
 | non => cases r; rfl
 | bl _ => cases r; rfl
 | int _ => obtain ⟨t, rfl⟩ := r; rfl
 | str _ => obtain ⟨t, rfl⟩ := r; rfl
 | byt _ => obtain ⟨t, rfl⟩ := r; rfl
 | flt _ => obtain ⟨t, rfl⟩ := r; rfl
 | ref _ => cases r; rfl
 | ty _ => cases r; rfl
theorem RelV.inj {x y : V} {u : Value} (r : RelV x u) (q : RelV y u) : x = y := Option.some.inj (r.abs.symm.trans q.abs)
theorem Vals.inj : ∀ {xs ys : List V} {us : List Value}, Vals xs us → Vals ys us → xs = ys
 | _, _, _, .nil, .nil => rfl
 | _, _, _, .cons r t, .cons r' t' => by rw [r.inj r', Vals.inj t t']
section
variable {X : Cx} {pins : List (Addr × Obj)} {σ : St} {H : Hp} {s : Shared} {a : Addr} {xs ys : List V}
theorem SqL.of {K : PySem.W.Frag} (h : H a = some (.lst xs)) : SqL K H a xs := .inl (.inl h)
theorem SqT.of {K : PySem.W.Frag} (h : H a = some (.tup xs)) : SqT K H a xs := .inl (.inl h)
theorem Inv.list (I : Inv X pins σ H s) (h : SqL X.K H a xs) : ∃ its : List Value, Vals xs its ∧ PlainL s.heap a its.toArray ∧ xs.length ≤ sizeLine := by
 rcases h with h | ⟨o, its, n, hk, hc, hd, hs, hz, r⟩
 ·obtain ⟨z, its, n, r, e⟩ := h.ok I.hok
  exact ⟨its, r, ⟨_, n, e, rfl, rfl, rfl⟩, z⟩
 ·refine ⟨its.toList, r, ⟨o, n, I.kIn a o hk, hc, hd, by simpa using hs⟩, ?_⟩
  have e := r.length
  simp only [Array.length_toList] at e
  omega
theorem Inv.tuple (I : Inv X pins σ H s) (h : SqT X.K H a xs) : ∃ its : List Value, Vals xs its ∧ IsTup s.heap a its.toArray ∧ xs.length ≤ sizeLine := by
 rcases h with h | ⟨o, its, n, hk, hc, hs, hz, r⟩
 ·obtain ⟨z, its, r, p⟩ := h.ok I.hok
  exact ⟨its, r, p, z⟩
 ·refine ⟨its.toList, r, ⟨o, I.kIn a o hk, hc, n, by simpa using hs⟩, ?_⟩
  have e := r.length
  simp only [Array.length_toList] at e
  omega
theorem Inv.list_inj (I : Inv X pins σ H s) (h : SqL X.K H a xs) (h' : SqL X.K H a ys) : xs = ys := by
 obtain ⟨its, r, ⟨o, n, e, _, _, d⟩, _⟩ := I.list h
 obtain ⟨its', r', ⟨o', n', e', _, _, d'⟩, _⟩ := I.list h'
 rw [e] at e'; cases e'
 rw [d] at d'
 injection d' with d1 _
 have : its = its' := by simpa using congrArg Array.toList d1
 subst this
 exact r.inj r'
theorem Inv.tuple_inj (I : Inv X pins σ H s) (h : SqT X.K H a xs) (h' : SqT X.K H a ys) : xs = ys := by
 obtain ⟨its, r, ⟨o, e, _, n, d⟩, _⟩ := I.tuple h
 obtain ⟨its', r', ⟨o', e', _, n', d'⟩, _⟩ := I.tuple h'
 rw [e] at e'; cases e'
 rw [d] at d'
 injection d' with d1 _
 have : its = its' := by simpa using congrArg Array.toList d1
 subst this
 exact r.inj r'
end
abbrev Cx.wish (X : Cx) (E : Value → Shared → Prop) : Cx := { X with xe := E }
abbrev Cx.nox (X : Cx) : Cx := X.wish fun _ _ => False
theorem Cx.Ok.wish {X : Cx} (ok : X.Ok) (E : Value → Shared → Prop) : (X.wish E).Ok :=
 ⟨ok.mod, ok.kind, ok.glob, ok.blt, ok.above, ok.inj, ok.has, ok.cab, ok.hd, ok.frames, ok.stk, ok.exf, ok.bs, ok.bsz, ok.noex, ok.exfs, ok.funs, ok.frf⟩
theorem Cx.Ok.unwish {X : Cx} {E : Value → Shared → Prop} (ok : (X.wish E).Ok) : X.Ok :=
 ⟨ok.mod, ok.kind, ok.glob, ok.blt, ok.above, ok.inj, ok.has, ok.cab, ok.hd, ok.frames, ok.stk, ok.exf, ok.bs, ok.bsz, ok.noex, ok.exfs, ok.funs, ok.frf⟩
section
variable {X : Cx} {pins : List (Addr × Obj)} {σ : St} {H : Hp} {s : Shared} {E : Value → Shared → Prop}
theorem Inv.wish (I : Inv X pins σ H s) (E : Value → Shared → Prop) : Inv (X.wish E) pins σ H s := ⟨I.ok.wish E, I.os, I.bare, I.base, I.loc, I.cell, I.free, I.freeC, I.pin, I.hok, I.len⟩
theorem Inv.unwish (I : Inv (X.wish E) pins σ H s) : Inv X pins σ H s := ⟨I.ok.unwish, I.os, I.bare, I.base, I.loc, I.cell, I.free, I.freeC, I.pin, I.hok, I.len⟩
theorem SP.unwish {D : Ends} {f : Flow} {s' : Shared} (h : SP (X.wish E) pins D f s') : SP X pins D f s' := by
 cases f with
 | next => obtain ⟨σ', H', I, q⟩ := h; exact ⟨σ', H', I.unwish, q⟩
 | brk => obtain ⟨σ', H', I, q⟩ := h; exact ⟨σ', H', I.unwish, q⟩
 | cont => obtain ⟨σ', H', I, q⟩ := h; exact ⟨σ', H', I.unwish, q⟩
 | ret u => obtain ⟨v, σ', H', I, r, q⟩ := h; exact ⟨v, σ', H', I.unwish, r, q⟩
theorem PE.nox {e : Expr} {t : TE} (h : PE X.nox e t) : PE X e t := fun pins s σ H Q I hw =>
 wpAny_mono (h pins s σ H Q (I.wish _) hw) (fun _ _ ⟨v, H', I', r, q⟩ => ⟨v, H', I'.unwish, r, q⟩) fun _ _ z => False.elim z
theorem PT.nox {e : Expr} {t : TT} (h : PT X.nox e t) : PT X e t := fun pins s σ H Q I hw =>
 wpAny_mono (h pins s σ H Q (I.wish _) hw) (fun _ _ ⟨H', I', q⟩ => ⟨H', I'.unwish, q⟩) fun _ _ z => False.elim z
theorem PSs.nox {st : List Stmt} {t : TS} (h : PSs X.nox st t) : PSs X st t := fun pins s σ H D I hw =>
 wpAny_mono (h pins s σ H D (I.wish _) hw) (fun _ _ q => q.unwish) fun _ _ z => False.elim z
end
section
variable {X : Cx} {st : Stmt} {rest : List Stmt} {t u : TS} {e : Expr} {te : TE} {pos : Pos}
def tNext : TS := fun D σ H => D.nx σ H
def tSeq (t u : TS) : TS := fun D σ H => t { D with nx := u D } σ H
theorem zk : PSs X [] tNext := fun _ _ σ H _ I h => wpAny_execs_nil ⟨σ, H, I, h⟩
theorem zj (h1 : PS X st t) (h2 : PSs X rest u) : PSs X (st :: rest) (tSeq t u) := by
 intro pins s σ H D I h
 refine wpAny_execs_cons (thn (h1 pins s σ H { D with nx := u D } I h) fun f s1 q => ?_)
 cases f with
 | next =>
  obtain ⟨σ', H', I', q⟩ := q
  exact h2 pins s1 σ' H' D I' q
 | ret v => exact q
 | brk => exact q
 | cont => exact q
theorem zd (h1 : PS X st t) : PSs X [st] t := by
 intro pins s σ H D I h
 refine wpAny_execs_cons (thn (h1 pins s σ H D I h) fun f s1 q => ?_)
 cases f with
 | next => exact wpAny_execs_nil q
 | ret v => exact q
 | brk => exact q
 | cont => exact q
def tBreak : TS := fun D σ H => D.bk σ H
def tCont : TS := fun D σ H => D.ct σ H
theorem ps_continue : PS X (.Continue pos) tCont := fun _ _ σ H _ I h => wpAny_Continue ⟨σ, H, I, h⟩
theorem Inv.quiet {pins : List (Addr × Obj)} {σ : St} {H : Hp} {s : Shared} (I : Inv X pins σ H s) : interactive X.env = false := by simp [interactive, I.ok.kind]
def tDrop (te : TE) : TS := fun D σ H => te σ H fun _ H1 => D.nx σ H1
theorem zN (he : PE X e te) (hs : swapsWith e none pos.line X.env = pure false := by rfl) : PS X (.Expr e pos) (tDrop te) := by
 intro pins s σ H D I h
 exact wpAny_Expr_any (thn (he pins s σ H _ I h) fun v s1 ⟨x, H1, I1, r1, q1⟩ => ⟨σ, H1, I1, q1⟩) I.quiet hs
def tRet (te : TE) : TS := fun D σ H => te σ H D.rt
theorem zi (he : PE X e te) : PS X (.Return (some e) pos) (tRet te) := by
 intro pins s σ H D I h
 exact wpAny_Return_some (thn (he pins s σ H _ I h) fun v s1 ⟨x, H1, I1, r1, q1⟩ => ⟨x, σ, H1, I1, r1, q1⟩)
def tRetN : TS := fun D _ H => D.rt .non H
def tIfS (c : TT) (t u : TS) : TS := fun D σ H => c σ H fun b H1 => if b = true then t D σ H1 else u D σ H1
theorem zA {c : Expr} {a b : List Stmt} {tc : TT} (hc : PT X c tc) (ha : PSs X a t) (hb : PSs X b u) : PS X (.If c a b pos) (tIfS tc t u) := by
 intro pins s σ H D I h
 refine wpAny_If (thn (hc pins s σ H _ I h) fun d s1 ⟨H1, I1, q1⟩ => ?_)
 cases d with
 | true => exact ha pins s1 σ H1 D I1 q1
 | false => exact hb pins s1 σ H1 D I1 q1
def tNever : TS := fun _ _ _ => False
end
abbrev TG := V → St → Hp → (St → Hp → Prop) → Prop
abbrev TGs := List V → St → Hp → (St → Hp → Prop) → Prop
def PG (X : Cx) (target : Expr) (t : TG) : Prop :=
 ∀ (pins : List (Addr × Obj)) (s : Shared) (σ : St) (H : Hp) (v : V) (u : Value) (Q : St → Hp → Prop), Inv X pins σ H s → RelV v u → t v σ H Q →
  wpAny (model X.prog X.w) X.A (assign target X.env u) (fun _ s' => ∃ σ' H', Inv X pins σ' H' s' ∧ Q σ' H') X.xe s
def PGs (X : Cx) (ts : List Expr) (t : TGs) : Prop :=
 ∀ (pins : List (Addr × Obj)) (s : Shared) (σ : St) (H : Hp) (vs : List V) (us : List Value) (Q : St → Hp → Prop), Inv X pins σ H s → Vals vs us → t vs σ H Q →
  wpAny (model X.prog X.w) X.A (assignInOrder ((assignEach ts X.env).map (·.2)) us) (fun _ s' => ∃ σ' H', Inv X pins σ' H' s' ∧ Q σ' H') X.xe s
abbrev TSet := V → V → V → Hp → (Hp → Prop) → Prop
def PSet (X : Cx) (t : TSet) : Prop :=
 ∀ (pins : List (Addr × Obj)) (s : Shared) (σ : St) (H : Hp) (o i v : V) (ov iv u : Value) (Q : Hp → Prop), Inv X pins σ H s → RelV o ov → RelV i iv → RelV v u → t o i v H Q →
  wpAny (model X.prog X.w) X.A (setItem ov iv u) (fun _ s' => ∃ H', Inv X pins σ H' s' ∧ Q H') X.xe s
abbrev TIp := V → V → Hp → VK → Prop
def PIp (X : Cx) (op : Operator) (t : TIp) : Prop :=
 ∀ (pins : List (Addr × Obj)) (s : Shared) (σ : St) (H : Hp) (x y : V) (v u : Value) (Q : VK), Inv X pins σ H s → RelV x v → RelV y u → t x y H Q →
  wpAny (model X.prog X.w) X.A (inplaceOp op v u) (EP X pins σ Q) X.xe s
section
variable {X : Cx} {pos : Pos}
def gName (i : Nat) : TG := fun v σ H Q => Q (σ.set i (some v)) H
theorem Z2 {i : Nat} {x : Str} (hN : X.N.Nodup) (hi : X.N[i]? = some x) (hx : Loc X.env.scope x) (hf : X.fn x = true ∨ X.env.scope.names.lookup x = some .local := by walk_at "p") : PG X (.Name x pos) (gName i) := by
 intro pins s σ H v u Q I r h
 exact wpAny_assign_Name (wt I hN hi hx r (fun s' I' => ⟨_, H, I', h⟩) hf)
def gNil : TGs := fun vs σ H Q => vs = [] ∧ Q σ H
def gCons (t : TG) (u : TGs) : TGs := fun vs σ H Q => ∃ v r, vs = v :: r ∧ t v σ H fun σ' H' => u r σ' H' Q
theorem qo : PGs X [] gNil := by
 intro pins s σ H vs us Q I r h
 obtain ⟨e, h⟩ := h
 subst e
 cases r
 exact assignInOrder_nil ⟨σ, H, I, h⟩
theorem zB {e : Expr} {es : List Expr} {t : TG} {u : TGs} (h1 : PG X e t) (h2 : PGs X es u)
  (hs : (assignEach (e :: es) X.env).map (·.2) = assign e X.env :: (assignEach es X.env).map (·.2) := by rfl) : PGs X (e :: es) (gCons t u) := by
 intro pins s σ H vs us Q I r h
 obtain ⟨v, vr, e1, h⟩ := h
 subst e1
 cases r with
 | cons r rr =>
  rw [hs]
  refine assignInOrder_cons (thn (h1 pins s σ H _ _ _ I r h) fun _ s1 ⟨σ1, H1, I1, q1⟩ => ?_)
  exact h2 pins s1 σ1 H1 _ _ Q I1 rr q1
def gTup (K : PySem.W.Frag) (n : Nat) (t : TGs) : TG := fun v σ H Q => ∃ a xs, v = .ref a ∧ SqT K H a xs ∧ xs.length = n ∧ t xs σ H Q
theorem qJ {es : List Expr} {k : Nat} {t : TGs} {n : Nat} (hc : X.calm = true) (h : PGs X es t)
  (hn : (assignEach es X.env).length = n := by rfl) (hst : (assignEach es X.env).findIdx? (·.1) = none := by rfl) : PG X (.Tuple es k pos) (gTup X.K n t) := by
 intro pins s σ H v u Q I r hw
 obtain ⟨a, xs, e1, hq, hl, hw⟩ := hw
 subst e1
 cases r
 obtain ⟨its, rv, ht, hz⟩ := I.tuple hq
 refine assign_Tuple_tuple (I.ok.hd hc) ht (by simp [hn, ← hl, rv.length]) hst fun h' hx => ?_
 have I1 : Inv X pins σ H { s with heap := h' } := I.kept (t' := s.toks) fun b o e => hx b o (Nat.ne_of_lt (Heap.lt_size e)) e
 exact h pins _ σ H xs _ Q I1 (by simpa using rv) hw
def gSub (to ti : TE) (t : TSet) : TG := fun v σ H Q => to σ H fun o H1 => ti σ H1 fun i H2 => t o i v H2 fun H3 => Q σ H3
theorem jl {o i : Expr} {to ti : TE} {t : TSet} (ho : PE X o to) (hi : PE X i ti) (hs : PSet X t)
  (ha : ∀ v, assign (.Subscript o i pos) X.env v = (do
   let ov ← holding [v] (eval o X.env)
   let iv ← holding [v, ov] (eval i X.env)
   standAt pos
   holding [v, ov, iv] (setItem ov iv v)
   release [v, ov, iv] []) := by intro _; rfl) : PG X (.Subscript o i pos) (gSub to ti t) := by
 intro pins s σ H v u Q I r h
 rw [ha]
 refine wpAny_bind (wpAny_holding (thn (ho pins s σ H _ I h) fun ov s1 ⟨x, H1, I1, r1, q1⟩ => ?_))
 refine wpAny_bind (wpAny_holding (thn (hi pins s1 σ H1 _ I1 q1) fun iv s2 ⟨y, H2, I2, r2, q2⟩ => ?_))
 refine wpAny_bind (wpAny_standAt (wpAny_bind (wpAny_holding (thn (hs pins s2 σ H2 x y v ov iv u _ I2 r1 r2 r q2) fun _ s3 ⟨H3, I3, q3⟩ => ?_))))
 exact wpAny_release ⟨σ, H3, I3, q3⟩
def tAsg (te : TE) (g : TG) : TS := fun D σ H => te σ H fun x H1 => g x σ H1 D.nx
theorem qS {tg e : Expr} {te : TE} {g : TG} (he : PE X e te) (hg : PG X tg g) (hs : swapsWithSole [tg] e pos.line X.env = pure false := by rfl) (hw : swappedStores [tg] e X.env = pure none := by rfl)
  (h1 : (assignEach [tg] X.env).map (·.2) = [assign tg X.env] := by rfl) : PS X (.Assign [tg] e pos) (tAsg te g) := by
 intro pins s σ H D I h
 refine wpAny_Assign_stores (thn (he pins s σ H _ I h) fun v s1 ⟨x, H1, I1, r1, q1⟩ => ?_) hs hw
 rw [h1]
 exact thn (hg pins s1 σ H1 x v _ I1 r1 q1) fun _ s2 q => q
theorem QA {i : Nat} {x : Str} {e : Expr} {te : TE} {pos' : Pos} (hN : X.N.Nodup) (hi : X.N[i]? = some x) (hx : Loc X.env.scope x) (he : PE X e te) (hs : swapsWith e (some (.Name x pos')) pos.line X.env = pure false := by rfl) (hf : X.fn x = true ∨ X.env.scope.names.lookup x = some .local := by walk_at "p") :
  PS X (.Assign [.Name x pos'] e pos) (tAsg te (gName i)) := by
 intro pins s σ H D I h
 refine wpAny_Assign_Name (thn (he pins s σ H _ I h) fun v s1 ⟨y, H1, I1, r1, q1⟩ => ?_) hs
 exact wt I1 hN hi hx r1 (fun s2 I2 => ⟨_, H1, I2, q1⟩) hf
def tAug (i : Nat) (te : TE) (ti : TIp) : TS := fun D σ H => ∃ x, σ[i]? = some (some x) ∧ te σ H fun y H1 => ti x y H1 fun z H2 => D.nx (σ.set i (some z)) H2
theorem QC {i : Nat} {x : Str} {e : Expr} {te : TE} {op : Operator} {ti : TIp} {pos' : Pos} (hN : X.N.Nodup) (hi : X.N[i]? = some x) (hx : Loc X.env.scope x) (he : PE X e te) (ho : PIp X op ti) (hf : X.fn x = true ∨ X.env.scope.names.lookup x = some .local := by walk_at "p") :
  PS X (.AugAssign (.Name x pos') op e pos) (tAug i te ti) := by
 intro pins s σ H D I h
 obtain ⟨v, e1, h⟩ := h
 obtain ⟨m, hn, hl⟩ := I.loc
 have vis : Vis X.env.scope x := by rcases hx with k | k; exact .inl k; exact .inr (.inl k)
 obtain ⟨u, r, l⟩ := hl i x v hi e1 vis
 refine wpAny_AugAssign_Name ?_
 have go : wpAny (model X.prog X.w) X.A (eval e X.env) (fun w s₂ => wpAny (model X.prog X.w) X.A (inplaceOp op u w) (fun r s₃ => wpAny (model X.prog X.w) X.A (storeName X.env x r) (fun _ => SP X pins D .next) X.xe s₃) X.xe s₂) X.xe s := by
  refine thn (he pins s σ H _ I h) fun w s1 ⟨y, H1, I1, r1, q1⟩ => ?_
  refine thn (ho pins s1 σ H1 v y u w _ I1 r r1 q1) fun z s2 ⟨zv, H2, I2, r2, q2⟩ => ?_
  exact wt I2 hN hi hx r2 (fun s3 I3 => ⟨_, H2, I3, q2⟩) hf
 rcases l with ⟨hk, hm⟩ | ⟨hk, c, hc, hcell⟩
 ·exact wpAny_loadName_local I.ok.kind hk hn hm go
 ·rcases hk with hk | hk
  ·exact wpAny_loadName_cell I.ok.kind hk hc hcell go
  ·rcases hx with k | k
   ·have : X.env.scope.names.lookup x = some .free := hk
    rw [k] at this; cases this
   ·have : X.env.scope.names.lookup x = some .free := hk
    rw [k] at this; cases this
def Zj (to ti te : TE) (tget : V → V → Hp → VK → Prop) (tip : TIp) (tset : TSet) : TS := fun D σ H => to σ H fun o H1 => ti σ H1 fun i H2 => tget o i H2 fun x H3 => te σ H3 fun y H4 => tip x y H4 fun z H5 => tset o i z H5 fun H6 => D.nx σ H6
def PGet (X : Cx) (t : V → V → Hp → VK → Prop) : Prop :=
 ∀ (pins : List (Addr × Obj)) (s : Shared) (σ : St) (H : Hp) (o i : V) (ov iv : Value) (Q : VK), Inv X pins σ H s → RelV o ov → RelV i iv → t o i H Q →
  wpAny (model X.prog X.w) X.A (getItem ov iv) (EP X pins σ Q) X.xe s
theorem wj {o i e : Expr} {to ti te : TE} {tget : V → V → Hp → VK → Prop} {tip : TIp} {tset : TSet} {op : Operator} {tpos : Pos} (ho : PE X o to) (hi : PE X i ti) (hg : PGet X tget) (he : PE X e te) (hp : PIp X op tip) (hs : PSet X tset)
  (ha : ∀ ov iv new, augStore i ov iv new = (do holding [new, ov, iv] (setItem ov iv new); release [new, ov, iv] []; pure .next) := by intros; rfl) : PS X (.AugAssign (.Subscript o i tpos) op e pos) (Zj to ti te tget tip tset) := by
 intro pins s σ H D I h
 refine wpAny_AugAssign_SubscriptAny (thn (ho pins s σ H _ I h) fun ov s1 ⟨x1, H1, I1, r1, q1⟩ => ?_) ha
 refine thn (hi pins s1 σ H1 _ I1 q1) fun iv s2 ⟨x2, H2, I2, r2, q2⟩ => ?_
 refine thn (hg pins s2 σ H2 x1 x2 ov iv _ I2 r1 r2 q2) fun old s3 ⟨x3, H3, I3, r3, q3⟩ => ?_
 refine thn (he pins s3 σ H3 _ I3 q3) fun v s4 ⟨x4, H4, I4, r4, q4⟩ => ?_
 refine thn (hp pins s4 σ H4 x3 x4 old v _ I4 r3 r4 q4) fun new s5 ⟨x5, H5, I5, r5, q5⟩ => ?_
 exact thn (hs pins s5 σ H5 x1 x2 x5 ov iv new _ I5 r1 r2 r5 q5) fun _ s6 ⟨H6, I6, q6⟩ => ⟨σ, H6, I6, q6⟩
def ipI (f : Int → Int → Int) : TIp := fun x y H Q => ∃ i j, x = .int i ∧ y = .int j ∧ Q (.int (f i j)) H
theorem xN : PIp X .Add (ipI fun i j => i + j) := by
 intro pins s σ H x y v u Q I r1 r2 h
 obtain ⟨i, j, e1, e2, q⟩ := h
 subst e1; subst e2
 obtain ⟨t, rfl⟩ := r1
 obtain ⟨t', rfl⟩ := r2
 exact iadd_int ⟨.int _, H, I.tok _, ⟨_, rfl⟩, q⟩
end
section
variable {X : Cx} {pos : Pos}
end
structure It where
 go : Nat → Hp → Prop
 yld : Nat → Hp → V → Hp → Prop
 stop : Nat → Hp → Prop
def FpOk (X : Cx) (pins : List (Addr × Obj)) (H : Hp) (b : Addr) : Prop :=
 H b = none ∧ b ≠ X.env.locals ∧ b ∉ X.fs ∧ (b ∈ X.ex ∨ X.s₀.heap.objs.size ≤ b) ∧ (∀ x c, X.env.cells.lookup x = some c → c ≠ b) ∧ ∀ p ∈ X.pn ++ pins, p.1 ≠ b
theorem Inv.fpOk {X : Cx} {pins : List (Addr × Obj)} {σ : St} {H H' : Hp} {s : Shared} {b : Addr} (I : Inv X pins σ H s) (hb : s.heap.objs.size ≤ b) (hn : H' b = none) : FpOk X pins H' b := by
 refine ⟨hn, Nat.ne_of_gt (Nat.lt_of_lt_of_le I.lt hb), I.nofs hb, .inr (Nat.le_trans I.sz hb), fun x c e z => ?_, fun p hp z => ?_⟩
 ·obtain ⟨v, q⟩ := I.cell x c e
  exact absurd (Nat.lt_of_lt_of_le q.lt (by rw [z]; exact hb)) (Nat.lt_irrefl _)
 ·exact absurd (Nat.lt_of_lt_of_le (Heap.lt_size (I.pin p hp).1) (by rw [z]; exact hb)) (Nat.lt_irrefl _)
structure Turn (P : Program) (w : World) (K : PySem.W.Frag) (tg : Expr) (J : It) (fp : List Addr) (it : Addr) (tn : Nat → Heap → Prop) : Prop where
 mem : it ∈ fp
 obj : ∀ i h, tn i h → ∀ b ∈ fp, ∃ o, h.get? b = some o ∧ ∀ v, o.data ≠ .cell v
 keep : ∀ i h h', tn i h → (∀ b ∈ fp, ∀ o, h.get? b = some o → h'.get? b = some o) → tn i h'
 item : ∀ (X : Cx), X.prog = P → X.w = w → X.K = K → X.calm = true → ∀ (i : Nat) (pins : List (Addr × Obj)) (s : Shared) (σ : St) (H : Hp) (E : Value → Shared → Prop), Inv X pins σ H s → (∀ b ∈ fp, FpOk X pins H b) → tn i s.heap → J.go i H →
  wpAny (model P w) X.A (pyNext (.ref it)) (fun r s1 => ∃ u, r = some u ∧
   wpAny (model P w) X.A (letOwnedTupleGo tg (.ref it) u) (fun _ s2 => ∃ x H', Inv X pins σ H' s2 ∧ RelV x u ∧ J.yld i H x H' ∧ tn (i + 1) s2.heap ∧ ∀ b ∈ fp, H' b = none) E s1) E s
 done : ∀ (X : Cx), X.prog = P → X.w = w → X.K = K → X.calm = true → ∀ (i : Nat) (pins : List (Addr × Obj)) (s : Shared) (σ : St) (H : Hp) (E : Value → Shared → Prop), Inv X pins σ H s → (∀ b ∈ fp, FpOk X pins H b) → tn i s.heap → J.stop i H →
  wpAny (model P w) X.A (pyNext (.ref it)) (fun r s1 => r = none ∧ Inv X pins σ H s1) E s
 self : ∀ (A : Around) (i : Nat) (s : Shared) (Q : Value → Shared → Prop) (E : Value → Shared → Prop), tn i s.heap → Q (.ref it) s → wpAny (model P w) A (pyIter (.ref it)) Q E s
abbrev TI := St → Hp → (It → Hp → Prop) → Prop
def PIE (X : Cx) (pins : List (Addr × Obj)) (σ : St) (tg : Expr) (R : It → Hp → Prop) (itv : Value) (s2 : Shared) : Prop :=
 ∃ (it : Addr) (fp : List Addr) (tn : Nat → Heap → Prop) (J : It) (H' : Hp), itv = .ref it ∧ Inv X pins σ H' s2 ∧ Turn X.prog X.w X.K tg J fp it tn ∧ tn 0 s2.heap ∧ (∀ b ∈ fp, FpOk X pins H' b) ∧ R J H'
def PI (X : Cx) (tg iter : Expr) (wi : TI) : Prop :=
 ∀ (pins : List (Addr × Obj)) (s : Shared) (σ : St) (H : Hp) (R : It → Hp → Prop), Inv X pins σ H s → wi σ H R →
  wpAny (model X.prog X.w) X.A (eval iter X.env) (fun v s1 => wpAny (model X.prog X.w) X.A (pyIter v) (PIE X pins σ tg R) X.xe s1) X.xe s
theorem Qe {M : Model} {A : Around} {E : Value → Shared → Prop} {s : Shared} {tg : Expr} {it : Addr} {u : Value} {o : Obj} {n : String} {vs : Array Value} {Q : Unit → Shared → Prop} (ho : s.heap.get? it = some o) (hc : o.cls = .type n) (hd : o.data = .fields vs)
  (hn : ["enumerate", "zip", "dict_itemiterator", "dict_reverseitemiterator", "odict_iterator", "itertools.zip_longest", "itertools.pairwise"].contains n = false) (hQ : Q () s) : wpAny M A (letOwnedTupleGo tg (.ref it) u) Q E s := by
 unfold letOwnedTupleGo
 cases tg <;> first
  | exact wpAny_pure hQ
  | (cases u <;> first
    | exact wpAny_pure hQ
    | (refine wpAny_bind (wpAny_load ho ?_)
       rw [hc, hd]
       show wpAny M A (if (["enumerate", "zip", "dict_itemiterator", "dict_reverseitemiterator", "odict_iterator", "itertools.zip_longest", "itertools.pairwise"].contains n && vs[0]? == some (rawInt _)) = true then _ else _) Q E s
       rw [if_neg (by intro h; rw [hn, Bool.false_and] at h; cases h)]
       exact wpAny_pure hQ))
def Itl (K : PySem.W.Frag) (a : Addr) : It :=
 ⟨fun i H => ∃ xs x, SqL K H a xs ∧ xs[i]? = some x, fun i H x H' => H' = H ∧ ∀ xs, SqL K H a xs → xs[i]? = some x, fun i H => ∃ xs, SqL K H a xs ∧ xs.length ≤ i⟩
def Itt (K : PySem.W.Frag) (a : Addr) : It :=
 ⟨fun i H => ∃ xs x, SqT K H a xs ∧ xs[i]? = some x, fun i H x H' => H' = H ∧ ∀ xs, SqT K H a xs → xs[i]? = some x, fun i H => ∃ xs, SqT K H a xs ∧ xs.length ≤ i⟩
def Itr (lo : Int) (n : Nat) : It := ⟨fun i _ => i < n, fun i H x H' => H' = H ∧ x = .int (lo + i), fun i _ => n ≤ i⟩
theorem turn_list {P : Program} {w : World} {K : PySem.W.Frag} {tg : Expr} (a it : Addr) : Turn P w K tg (Itl K a) [it] it (fun i h => h.IsListIter it a i) where
 mem := by simp
 obj := fun i h st b hb => by
  have e : b = it := by simpa using hb
  subst e
  obtain ⟨o, e, c, d⟩ := st
  exact ⟨o, e, fun v z => by rw [d] at z; cases z⟩
 keep := fun i h h' st k => st.at fun o e => k it (by simp) o e
 item := by
  intro X hP hw hK hc i pins s σ H E I hf st hg
  subst hP hw hK
  obtain ⟨xs, x, hq, hx⟩ := hg
  obtain ⟨its, rv, p, hz⟩ := I.list hq
  obtain ⟨u, hu, ru⟩ := rv.get hx
  obtain ⟨f0, f1, f2, f3, f4, f5⟩ := hf it (by simp)
  refine wpAny_pyNext_list_item st p.isList (x := u) (by simpa using hu) fun h' st' sb => ?_
  have I1 : Inv X pins σ H { s with heap := h' } := I.turned (t' := s.toks) (fun b o hb e => (sb.2 b hb).trans e) f0 f1 f3 f4 f5
  obtain ⟨o, e, c, d⟩ := id st'
  exact ⟨u, rfl, Qe (s := { s with heap := h' }) e c d (by decide) ⟨x, H, I1, ru, ⟨rfl, fun ys hy => by rw [I.list_inj hy hq]; exact hx⟩, st', fun b hb => (hf b hb).1⟩⟩
 done := by
  intro X hP hw hK hc i pins s σ H E I hf st hg
  subst hP hw hK
  obtain ⟨xs, hq, hx⟩ := hg
  obtain ⟨its, rv, p, hz⟩ := I.list hq
  obtain ⟨f0, f1, f2, f3, f4, f5⟩ := hf it (by simp)
  have hl := rv.length
  exact wpAny_pyNext_list_end (I.ok.hd hc) st p.isList (by simp; omega) fun h' eb => ⟨rfl, I.turned (t' := s.toks) (fun b o hb e => eb b o hb e) f0 f1 f3 f4 f5⟩
 self := fun _ _ _ _ _ st h => wpAny_pyIter_listiter st h
theorem turn_tuple {P : Program} {w : World} {K : PySem.W.Frag} {tg : Expr} (a it : Addr) : Turn P w K tg (Itt K a) [it] it (fun i h => h.IsTupleIter it a i) where
 mem := by simp
 obj := fun i h st b hb => by
  have e : b = it := by simpa using hb
  subst e
  obtain ⟨o, e, c, d⟩ := st
  exact ⟨o, e, fun v z => by rw [d] at z; cases z⟩
 keep := fun i h h' st k => st.at fun o e => k it (by simp) o e
 item := by
  intro X hP hw hK hc i pins s σ H E I hf st hg
  subst hP hw hK
  obtain ⟨xs, x, hq, hx⟩ := hg
  obtain ⟨its, rv, p, hz⟩ := I.tuple hq
  obtain ⟨u, hu, ru⟩ := rv.get hx
  obtain ⟨f0, f1, f2, f3, f4, f5⟩ := hf it (by simp)
  refine wpAny_pyNext_tuple_item st (show s.heap.IsTuple a its.toArray from p) (x := u) (by simpa using hu) fun h' st' sb => ?_
  have I1 : Inv X pins σ H { s with heap := h' } := I.turned (t' := s.toks) (fun b o hb e => (sb.2 b hb).trans e) f0 f1 f3 f4 f5
  obtain ⟨o, e, c, d⟩ := id st'
  exact ⟨u, rfl, Qe (s := { s with heap := h' }) e c d (by decide) ⟨x, H, I1, ru, ⟨rfl, fun ys hy => by rw [I.tuple_inj hy hq]; exact hx⟩, st', fun b hb => (hf b hb).1⟩⟩
 done := by
  intro X hP hw hK hc i pins s σ H E I hf st hg
  subst hP hw hK
  obtain ⟨xs, hq, hx⟩ := hg
  obtain ⟨its, rv, p, hz⟩ := I.tuple hq
  obtain ⟨f0, f1, f2, f3, f4, f5⟩ := hf it (by simp)
  have hl := rv.length
  exact wpAny_pyNext_tuple_end (I.ok.hd hc) st (show s.heap.IsTuple a its.toArray from p) (by simp; omega) fun h' eb => ⟨rfl, I.turned (t' := s.toks) (fun b o hb e => eb b o hb e) f0 f1 f3 f4 f5⟩
 self := fun _ _ _ _ _ st h => wpAny_pyIter_tupleiter st h
theorem turn_range {P : Program} {w : World} {K : PySem.W.Frag} {tg : Expr} (it : Addr) (lo : Int) (n : Nat) : Turn P w K tg (Itr lo n) [it] it (fun i h => IsRangeIter h it (lo + (i : Nat) * 1) ((n : Int) - (i : Nat)) 1) where
 mem := by simp
 obj := fun i h st b hb => by
  have e : b = it := by simpa using hb
  subst e
  exact ⟨_, st, fun v z => by
   have z' : Data.fields _ = Data.cell v := z
   cases z'⟩
 keep := fun i h h' st k => k it (by simp) _ st
 item := by
  intro X hP hw hK hc i pins s σ H E I hf st hg
  subst hP hw hK
  obtain ⟨f0, f1, f2, f3, f4, f5⟩ := hf it (by simp)
  have W := Walks.range (prog := X.prog) (w := X.w) (I.ok.hd hc) it lo 1 n
  refine W.item i s _ _ hg st fun v h' tk hv st' kk => ?_
  obtain ⟨t, rfl⟩ := hv
  have I1 : Inv X pins σ H { s with heap := h', toks := tk } := I.turned (fun b o hb e => kk b o (by simpa using hb) e) f0 f1 f3 f4 f5
  refine ⟨_, rfl, Qe (s := { s with heap := h', toks := tk }) (n := "range_iterator") st' rfl rfl (by decide) ⟨.int (lo + i), H, I1, ⟨t, ?_⟩, ⟨rfl, rfl⟩, st', fun b hb => (hf b hb).1⟩⟩
  rw [Int.mul_one]
 done := by
  intro X hP hw hK hc i pins s σ H E I hf st hg
  subst hP hw hK
  obtain ⟨f0, f1, f2, f3, f4, f5⟩ := hf it (by simp)
  exact wpAny_pyNext_range_end (I.ok.hd hc) st (by have : n ≤ i := hg; omega) fun h' eb => ⟨rfl, I.turned (t' := s.toks) (fun b o hb e => eb b o hb e) f0 f1 f3 f4 f5⟩
 self := fun _ _ _ _ _ st h => wpAny_pyIter_rangeiter st h
end L2
namespace L2
open PySem PySem.Spec PyProof.Rows
section
variable {X : Cx} {tg : Expr}
theorem range_it {pins : List (Addr × Obj)} {σ : St} {H : Hp} {s : Shared} {R : It → Hp → Prop} {E : Value → Shared → Prop} {lo hi : Int} {t u v : Tok} {tk : Nat} (I : Inv X pins σ H s) (h1 : -(2 ^ 62) ≤ lo) (h2 : lo < 2 ^ 62) (h3 : -(2 ^ 62) ≤ hi) (h4 : hi < 2 ^ 62)
  (q : R (Itr lo (hi - lo).toNat) H) : wpAny (model X.prog X.w) X.A (pyIter (.ref s.heap.objs.size)) (PIE X pins σ tg R) E { s with heap := s.heap.push { cls := .type "range", data := .fields #[.int lo t, .int hi u, .int 1 v] }, toks := tk } := by
 refine wpAny_pyIter_range (IsRange.new ..) (small_one h1 h2 h3 h4) ?_
 have I1 : Inv X pins σ H { s with heap := s.heap.push { cls := .type "range", data := .fields #[.int lo t, .int hi u, .int 1 v] }, toks := tk } := I.kept fun b o e => Heap.get?_push_of_some _ e
 refine ⟨(s.heap.push { cls := .type "range", data := .fields #[.int lo t, .int hi u, .int 1 v] }).objs.size, [(s.heap.push { cls := .type "range", data := .fields #[.int lo t, .int hi u, .int 1 v] }).objs.size], _, _, H, rfl,
  I1.kept (t' := tk) fun b o e => Heap.get?_push_of_some _ e, turn_range _ lo (hi - lo).toNat, ?_, fun b hb => ?_, q⟩
 ·have e1 : lo + ((0 : Nat) : Int) * 1 = lo := by simp
  have e2 : (((hi - lo).toNat : Nat) : Int) - ((0 : Nat) : Int) = Builtin.Range.rangeSize lo hi 1 := by rw [rangeSize_one]; split <;> omega
  show IsRangeIter _ _ (lo + ((0 : Nat) : Int) * 1) ((((hi - lo).toNat : Nat) : Int) - ((0 : Nat) : Int)) 1
  rw [e1, e2]
  exact Heap.get?_push_size _ rfl
 ·have e : b = (s.heap.push { cls := .type "range", data := .fields #[.int lo t, .int hi u, .int 1 v] }).objs.size := by simpa using hb
  subst e
  exact I1.fpOk (Nat.le_refl _) (I1.hok.fresh (Nat.le_refl _))
def iRng1 (ta : TA) : TI := fun σ H R => ta σ H fun vs H1 => ∃ j : Int, vs = [.int j] ∧ -(2 ^ 62) ≤ j ∧ j < 2 ^ 62 ∧ R (Itr 0 j.toNat) H1
def iRng2 (ta : TA) : TI := fun σ H R => ta σ H fun vs H1 => ∃ i j : Int, vs = [.int i, .int j] ∧ (-(2 ^ 62) ≤ i ∧ i < 2 ^ 62 ∧ -(2 ^ 62) ≤ j ∧ j < 2 ^ 62) ∧ R (Itr i (j - i).toNat) H1
theorem pi_range1 {a : Expr} {ta : TA} {p pos : Pos} (hg : Gl X "range") (hm : X.mg "range" = none) (ha : PA X [a] ta) (hs : starEach [a] X.env = [(false, eval a X.env)] := by rfl) : PI X tg (.Call (.Name "range" p) [a] [] pos) (iRng1 ta) := by
 intro pins s σ H R I h
 refine Call_ (jP I hg hm boot_range (PyProof.Rows.callWith_type1 (thn (ha pos pins s σ H _ I h) fun us s1 ⟨vs, H1, I1, r1, q1⟩ => ?_) hs rfl))
 obtain ⟨j, e, q1, q2, q⟩ := q1
 subst e
 cases r1 with
 | cons r rr =>
  cases rr
  obtain ⟨t, rfl⟩ := r
  exact call_range_1 (range_it I1 (by omega) (by omega) q1 q2 (by simpa using q))
def tFor (wi : TI) (g : TG) (tb : TS) : TS := fun D σ H => wi σ H fun J H1 => ∃ W : Nat → Nat → St → Hp → Prop, (∃ m, W 0 m σ H1) ∧ ∀ i m σ H, W i m σ H →
 (J.stop i H ∧ D.nx σ H) ∨ (J.go i H ∧ ∃ N : St → Hp → Prop, (∀ σ' H', N σ' H' → ∃ m', m' < m ∧ W (i + 1) m' σ' H') ∧ ∀ x H', J.yld i H x H' → g x σ H' fun σ2 H2 => tb { D with nx := N, ct := N, bk := D.nx } σ2 H2)
def wK (fp : List Addr) (h : Heap) : List (Addr × Obj) := fp.filterMap fun b => (h.get? b).map fun o => (b, o)
theorem jw {fp : List Addr} {h : Heap} {b : Addr} {o : Obj} (hb : b ∈ fp) (e : h.get? b = some o) : (b, o) ∈ wK fp h := List.mem_filterMap.mpr ⟨b, hb, by rw [e]; rfl⟩
theorem of_pinsAt {fp : List Addr} {h : Heap} {p : Addr × Obj} (hp : p ∈ wK fp h) : p.1 ∈ fp ∧ h.get? p.1 = some p.2 := by
 obtain ⟨b, hb, e⟩ := List.mem_filterMap.mp hp
 cases q : h.get? b with
 | none => rw [q] at e; cases e
 | some o =>
  rw [q] at e
  have e' : (b, o) = p := Option.some.inj e
  subst e'
  exact ⟨hb, q⟩
theorem Inv.pinned {pins : List (Addr × Obj)} {σ : St} {H : Hp} {s : Shared} {fp : List Addr} (I : Inv X pins σ H s) (hf : ∀ b ∈ fp, FpOk X pins H b) (ho : ∀ b ∈ fp, ∃ o, s.heap.get? b = some o ∧ ∀ v, o.data ≠ .cell v) : Inv X (pins ++ wK fp s.heap) σ H s :=
 I.pins_of fun p hp => (List.mem_append.mp hp).elim (fun z => I.pin p (List.mem_append_right _ z)) fun z => by
  obtain ⟨hb, e⟩ := of_pinsAt z
  obtain ⟨f0, f1, f2, _⟩ := hf p.1 hb
  obtain ⟨o, e', d⟩ := ho p.1 hb
  rw [e] at e'; cases e'
  exact ⟨e, f0, f1, f2, d⟩
theorem Inv.unpinned {pins pl : List (Addr × Obj)} {σ : St} {H : Hp} {s : Shared} (I : Inv X (pins ++ pl) σ H s) : Inv X pins σ H s := I.pins_of fun p hp => I.pin p (List.mem_append_right _ (List.mem_append_left _ hp))
theorem z9 {iter : Expr} {body : List Stmt} {wi : TI} {g : TG} {tb : TS} {pos : Pos} (hp : PassesOwn (model X.prog X.w) X.A X.env X.xe) (hc : X.calm = true) (hi : PI X tg iter wi) (hg : PG X tg g) (hb : PSs X body tb)
  (hs : ∀ x, foldedSetIterable iter X.env x = pure x := by intro _; rfl) : PS X (.For tg iter body [] pos) (tFor wi g tb) := by
 intro pins s σ H D I h
 refine wpAny_For (thn (hi pins s σ H _ I h) fun v s1 h1 => thn h1 fun itv s2 h2 => ?_) hs
 obtain ⟨it, fp, tn, J, H2, e, I2, T, st2, f2, W, ⟨m0, w0⟩, turn⟩ := h2
 subst e
 have stat : ∀ {H' : Hp}, (∀ b ∈ fp, H' b = none) → ∀ b ∈ fp, FpOk X pins H' b := fun hn b hb => ⟨hn b hb, (f2 b hb).2⟩
 refine codeAny_forLoop_any (fun n s' => ∃ i σ' H', Inv X pins σ' H' s' ∧ tn i s'.heap ∧ (∀ b ∈ fp, H' b = none) ∧ W i n σ' H') ?_ m0 ⟨0, σ, H2, I2, st2, fun b hb => (f2 b hb).1, w0⟩
 rintro n s3 ⟨i, σ3, H3, I3, st3, fr3, w3⟩
 rcases turn i n σ3 H3 w3 with ⟨stop, qn⟩ | ⟨go, N, hN, step⟩
 ·refine wpAny_passesOwn hp (thn (T.done X rfl rfl rfl hc i pins s3 σ3 H3 X.xe I3 (stat fr3) st3 stop) fun r s4 ⟨hr, I4⟩ => ?_)
  subst hr
  exact wpAny_execs_nil ⟨σ3, H3, I4, qn⟩
 ·refine wpAny_passesOwn hp (thn (T.item X rfl rfl rfl hc i pins s3 σ3 H3 X.xe I3 (stat fr3) st3 go) fun r s4 ⟨u, hr, h4⟩ => ?_)
  subst hr
  refine wpAny_passesOwn hp (thn h4 fun _ s5 ⟨x, H5, I5, r5, y5, st5, fr5⟩ => ?_)
  have I5' := I5.pinned (stat fr5) (T.obj _ _ st5)
  refine wpAny_passesOwn hp (thn (hg _ s5 σ3 H5 x u _ I5' r5 (step x H5 y5)) fun _ s6 ⟨σ6, H6, I6, q6⟩ => ?_)
  refine wpAny_passesOwn hp (thn (hb _ s6 σ6 H6 _ I6 q6) fun f s7 q7 => ?_)
  have again : ∀ {σ7 : St} {H7 : Hp}, Inv X (pins ++ wK fp s5.heap) σ7 H7 s7 → N σ7 H7 → ∃ m, m < n ∧ ∃ i σ' H', Inv X pins σ' H' s7 ∧ tn i s7.heap ∧ (∀ b ∈ fp, H' b = none) ∧ W i m σ' H' := fun {σ7 H7} I7 n7 => by
   obtain ⟨m', hm, w7⟩ := hN σ7 H7 n7
   refine ⟨m', hm, i + 1, σ7, H7, I7.unpinned, T.keep _ _ _ st5 fun b hb o e => (I7.pin (b, o) (List.mem_append_right _ (List.mem_append_right _ (jw hb e)))).1, fun b hb => ?_, w7⟩
   obtain ⟨o, e, d⟩ := T.obj _ _ st5 b hb
   exact (I7.pin (b, o) (List.mem_append_right _ (List.mem_append_right _ (jw hb e)))).2.1
  cases f with
  | next => obtain ⟨σ7, H7, I7, n7⟩ := q7; exact again I7 n7
  | cont => obtain ⟨σ7, H7, I7, n7⟩ := q7; exact again I7 n7
  | brk => obtain ⟨σ7, H7, I7, q7⟩ := q7; exact ⟨σ7, H7, I7.unpinned, q7⟩
  | ret v => obtain ⟨x7, σ7, H7, I7, r7, q7⟩ := q7; exact ⟨x7, σ7, H7, I7.unpinned, r7, q7⟩
end
end L2
namespace L2
open PySem PySem.Spec PyProof.Rows
abbrev R2 := V → V → Hp → VK → Prop
def OpR (X : Cx) (f : Value → Value → Sem Value) (r : R2) : Prop :=
 ∀ (pins : List (Addr × Obj)) (s : Shared) (σ : St) (H : Hp) (x y : V) (v u : Value) (Q : VK), Inv X pins σ H s → RelV x v → RelV y u → r x y H Q →
  wpAny (model X.prog X.w) X.A (f v u) (EP X pins σ Q) X.xe s
def UnR (X : Cx) (f : Value → Sem Value) (r : V → Hp → VK → Prop) : Prop :=
 ∀ (pins : List (Addr × Obj)) (s : Shared) (σ : St) (H : Hp) (x : V) (v : Value) (Q : VK), Inv X pins σ H s → RelV x v → r x H Q →
  wpAny (model X.prog X.w) X.A (f v) (EP X pins σ Q) X.xe s
def CallR (X : Cx) (f : Value) (r : List V → Hp → VK → Prop) : Prop :=
 ∀ (pins : List (Addr × Obj)) (s : Shared) (σ : St) (H : Hp) (xs : List V) (us : List Value) (Q : VK), Inv X pins σ H s → Vals xs us → r xs H Q →
  wpAny (model X.prog X.w) X.A (call f us) (EP X pins σ Q) X.xe s
def TruR (X : Cx) (r : V → Hp → (Bool → Hp → Prop) → Prop) : Prop :=
 ∀ (pins : List (Addr × Obj)) (s : Shared) (σ : St) (H : Hp) (x : V) (v : Value) (Q : Bool → Hp → Prop), Inv X pins σ H s → RelV x v → r x H Q →
  wpAny (model X.prog X.w) X.A (truthy v) (TP X pins σ Q) X.xe s
def tOp (r : R2) (ta tb : TE) : TE := fun σ H Q => ta σ H fun x H1 => tb σ H1 fun y H2 => r x y H2 Q
def tUn (r : V → Hp → VK → Prop) (ta : TE) : TE := fun σ H Q => ta σ H fun x H1 => r x H1 Q
def rI (C : Int → Int → Prop) (g : Int → Int → V) : R2 := fun x y H Q => ∃ i j, x = .int i ∧ y = .int j ∧ C i j ∧ Q (g i j) H
def rI0 (g : Int → Int → V) : R2 := fun x y H Q => ∃ i j, x = .int i ∧ y = .int j ∧ Q (g i j) H
def rU (g : Int → V) : V → Hp → VK → Prop := fun x H Q => ∃ i, x = .int i ∧ Q (g i) H
section
variable {X : Cx} {a b c : Expr} {ta tb tc : TE} {pos : Pos}
theorem binT (ha : PE X a ta) (hb : PE X b tb) {pins : List (Addr × Obj)} {s : Shared} {σ : St} {H : Hp} {R : V → V → Hp → Prop} (I : Inv X pins σ H s)
  (h : ta σ H fun x H1 => tb σ H1 fun y H2 => R x y H2) {Q : Value → Shared → Prop} {f : Value → Value → Sem Value}
  (hf : ∀ v u s2 x y H2, Inv X pins σ H2 s2 → RelV x v → RelV y u → R x y H2 → wpAny (model X.prog X.w) X.A (f v u) Q X.xe s2) :
  wpAny (model X.prog X.w) X.A (eval a X.env) (fun v s₁ => wpAny (model X.prog X.w) X.A (eval b X.env) (fun u s₂ => wpAny (model X.prog X.w) X.A (f v u) Q X.xe s₂) X.xe s₁) X.xe s := by
 refine thn (ha pins s σ H _ I h) fun v s1 ⟨x, H1, I1, r1, q1⟩ => ?_
 refine thn (hb pins s1 σ H1 _ I1 q1) fun u s2 ⟨y, H2, I2, r2, q2⟩ => ?_
 exact hf v u s2 x y H2 I2 r1 r2 q2
theorem zm {op : Operator} {r : R2} (ho : OpR X (binaryOp op) r) (ha : PE X a ta) (hb : PE X b tb) : PE X (.BinOp a op b pos) (tOp r ta tb) := by
 intro pins s σ H Q I h
 exact wpAny_BinOp (binT ha hb I h fun v u s2 x y H2 I2 rx ry q => ho pins s2 σ H2 x y v u Q I2 rx ry q)
theorem xm {op : UnaryOp} {r : V → Hp → VK → Prop} (ho : UnR X (unaryOp op) r) (ha : PE X a ta) : PE X (.UnaryOp op a pos) (tUn r ta) := by
 intro pins s σ H Q I h
 exact UnaryOp_ (thn (ha pins s σ H _ I h) fun v s1 ⟨x, H1, I1, r1, q1⟩ => ho pins s1 σ H1 x v Q I1 r1 q1)
theorem opI {f : Value → Value → Sem Value} {C : Int → Int → Prop} {g : Int → Int → Int}
  (rule : ∀ (i j : Int) (t u : Tok) (s : Shared) (Q : Value → Shared → Prop) (E : Value → Shared → Prop), C i j → Q (.int (g i j) s.toks) { s with toks := s.toks + 1 } → wpAny (model X.prog X.w) X.A (f (.int i t) (.int j u)) Q E s) :
  OpR X f (rI C fun i j => .int (g i j)) := by
 intro pins s σ H x y v u Q I rx ry h
 obtain ⟨i, j, rfl, rfl, hc, q⟩ := h
 obtain ⟨t, rfl⟩ := rx
 obtain ⟨t', rfl⟩ := ry
 exact rule i j t t' s _ _ hc ⟨.int (g i j), H, I.tok _, ⟨_, rfl⟩, q⟩
theorem opI0 {f : Value → Value → Sem Value} {g : Int → Int → Int}
  (rule : ∀ (i j : Int) (t u : Tok) (s : Shared) (Q : Value → Shared → Prop) (E : Value → Shared → Prop), Q (.int (g i j) s.toks) { s with toks := s.toks + 1 } → wpAny (model X.prog X.w) X.A (f (.int i t) (.int j u)) Q E s) :
  OpR X f (rI0 fun i j => .int (g i j)) := by
 intro pins s σ H x y v u Q I rx ry h
 obtain ⟨i, j, rfl, rfl, q⟩ := h
 obtain ⟨t, rfl⟩ := rx
 obtain ⟨t', rfl⟩ := ry
 exact rule i j t t' s _ _ ⟨.int (g i j), H, I.tok _, ⟨_, rfl⟩, q⟩
theorem opB0 {f : Value → Value → Sem Value} {g : Int → Int → Bool}
  (rule : ∀ (i j : Int) (t u : Tok) (s : Shared) (Q : Value → Shared → Prop) (E : Value → Shared → Prop), Q (.bool (g i j)) s → wpAny (model X.prog X.w) X.A (f (.int i t) (.int j u)) Q E s) :
  OpR X f (rI0 fun i j => .bl (g i j)) := by
 intro pins s σ H x y v u Q I rx ry h
 obtain ⟨i, j, rfl, rfl, q⟩ := h
 obtain ⟨t, rfl⟩ := rx
 obtain ⟨t', rfl⟩ := ry
 exact rule i j t t' s _ _ ⟨.bl (g i j), H, I, rfl, q⟩
def CPow (i j : Int) : Prop := 0 ≤ j ∧ j ≤ 1000000 ∧ i.natAbs < 2 ^ 64
def CMul (i j : Int) : Prop := (-(2 ^ 64) < i ∧ i < 2 ^ 64) ∨ (-(2 ^ 64) < j ∧ j < 2 ^ 64)
theorem CMul.ok {i j : Int} (h : CMul i j) : IntMulOk i j := by
 rcases h with ⟨h1, h2⟩ | ⟨h1, h2⟩
 ·exact .of_left (intBits_le_64 h1 h2)
 ·exact .of_right (intBits_le_64 h1 h2)
theorem op_add : OpR X (binaryOp .Add) (rI0 fun i j => .int (i + j)) := opI0 fun _ _ _ _ _ _ _ q => add_int q
theorem vW : OpR X (binaryOp .Sub) (rI0 fun i j => .int (i - j)) := opI0 fun _ _ _ _ _ _ _ q => sub_int q
theorem zL : OpR X (binaryOp .Mod) (rI (fun _ j => 0 < j) fun i j => .int (i % j)) := opI fun i j _ _ _ _ _ hc q => by
 have h1 : (0 : Int) < j := hc
 exact mod_int' (by omega) (by rw [Int.fmod_eq_emod_of_nonneg i (by omega)]; exact q)
theorem wM : OpR X (binaryOp .Pow) (rI CPow fun i j => .int (i ^ j.toNat)) := opI fun _ _ _ _ _ _ _ hc q => pow_int_small hc.1 hc.2.1 hc.2.2 q
theorem unI {f : Value → Sem Value} {g : Int → Int}
  (rule : ∀ (i : Int) (t : Tok) (s : Shared) (Q : Value → Shared → Prop) (E : Value → Shared → Prop), Q (.int (g i) s.toks) { s with toks := s.toks + 1 } → wpAny (model X.prog X.w) X.A (f (.int i t)) Q E s) :
  UnR X f (rU fun i => .int (g i)) := by
 intro pins s σ H x v Q I rx h
 obtain ⟨i, rfl, q⟩ := h
 obtain ⟨t, rfl⟩ := rx
 exact rule i t s _ _ ⟨.int (g i), H, I.tok _, ⟨_, rfl⟩, q⟩
theorem jt : UnR X (unaryOp .USub) (rU fun i => .int (-i)) := unI fun _ _ _ _ _ q => neg_int q
end
def scal : V → V → Bool
 | .non, .non => true | .non, .int _ => true | .int _, .non => true | .non, .bl _ => true | .bl _, .non => true | .non, .str _ => true | .str _, .non => true
 | .int _, .int _ => true | .bl _, .bl _ => true | .str _, .str _ => true | .byt _, .byt _ => true
 | .int _, .str _ => true | .str _, .int _ => true | .bl _, .str _ => true | .str _, .bl _ => true
 | _, _ => false
def rEq : R2 := fun x y H Q => scal x y = true ∧ Q (.bl (decide (x = y))) H
def rNe : R2 := fun x y H Q => scal x y = true ∧ Q (.bl (!decide (x = y))) H
theorem Qk {i j : Int} : decide (V.int i = V.int j) = (i == j) := by
 rw [Bool.eq_iff_iff]
 simp
theorem QR {i j : Bool} : decide (V.bl i = V.bl j) = (i == j) := by
 rw [Bool.eq_iff_iff]
 simp
theorem Qj {i j : Str} : decide (V.str i = V.str j) = (i == j) := by
 rw [Bool.eq_iff_iff]
 simp
theorem Ql {i j : Array UInt8} : decide (V.byt i = V.byt j) = (i.toList == j.toList) := by
 rw [Bool.eq_iff_iff]
 cases i
 cases j
 simp
section
variable {X : Cx} {a b c : Expr} {ta tb tc : TE} {pos : Pos}
theorem zM {pins : List (Addr × Obj)} {σ : St} {H : Hp} {s : Shared} {Q : VK} {k k' : Bool} (I : Inv X pins σ H s) (q : Q (.bl k) H) (e : k = k') : EP X pins σ Q (.bool k') s := by
 subst e
 exact ⟨.bl k, H, I, rfl, q⟩
theorem op_eq : OpR X (compareOp .Eq) rEq := by
 intro pins s σ H x y v u Q I rx ry h
 obtain ⟨hs, q⟩ := h
 cases x with
 | non =>
  cases rx
  cases y with
  | non => cases ry; exact PySem.EqNone.eq_none_none (zM I q (by simp))
  | bl j => cases ry; exact PySem.EqNone.eq_none_bool (zM I q (by simp))
  | int j => obtain ⟨t', rfl⟩ := ry; exact PySem.EqNone.eq_none_int (zM I q (by simp))
  | str j => obtain ⟨t', rfl⟩ := ry; exact PySem.EqNone.eq_none_str (zM I q (by simp))
  | _ => exact absurd (show false = true from hs) Bool.false_ne_true
 | bl i =>
  cases rx
  cases y with
  | non => cases ry; exact PySem.EqNone.eq_bool_none (zM I q (by simp))
  | bl j => cases ry; exact eq_bool (zM I q QR)
  | str j => obtain ⟨t', rfl⟩ := ry; exact PySem.EqMixed.eq_bool_str (zM I q (by simp))
  | _ => exact absurd (show false = true from hs) Bool.false_ne_true
 | int i =>
  obtain ⟨t, rfl⟩ := rx
  cases y with
  | non => cases ry; exact PySem.EqNone.eq_int_none (zM I q (by simp))
  | int j => obtain ⟨t', rfl⟩ := ry; exact eq_int (zM I q Qk)
  | str j => obtain ⟨t', rfl⟩ := ry; exact PySem.EqMixed.eq_int_str (zM I q (by simp))
  | _ => exact absurd (show false = true from hs) Bool.false_ne_true
 | str i =>
  obtain ⟨t, rfl⟩ := rx
  cases y with
  | non => cases ry; exact PySem.EqNone.eq_str_none (zM I q (by simp))
  | bl j => cases ry; exact PySem.EqMixed.eq_str_bool (zM I q (by simp))
  | int j => obtain ⟨t', rfl⟩ := ry; exact PySem.EqMixed.eq_str_int (zM I q (by simp))
  | str j => obtain ⟨t', rfl⟩ := ry; exact eq_str (zM I q Qj)
  | _ => exact absurd (show false = true from hs) Bool.false_ne_true
 | byt i =>
  obtain ⟨t, rfl⟩ := rx
  cases y with
  | byt j => obtain ⟨t', rfl⟩ := ry; exact PySem.W.eq_bytes (zM I q Ql)
  | _ => exact absurd (show false = true from hs) Bool.false_ne_true
 | _ => cases y <;> exact absurd (show false = true from hs) Bool.false_ne_true
theorem op_ne : OpR X (compareOp .NotEq) rNe := by
 intro pins s σ H x y v u Q I rx ry h
 obtain ⟨hs, q⟩ := h
 cases x with
 | non =>
  cases rx
  cases y with
  | non => cases ry; exact PySem.EqNone.ne_none_none (zM I q (by simp))
  | bl j => cases ry; exact PySem.EqNone.ne_none_bool (zM I q (by simp))
  | int j => obtain ⟨t', rfl⟩ := ry; exact PySem.EqNone.ne_none_int (zM I q (by simp))
  | str j => obtain ⟨t', rfl⟩ := ry; exact PySem.EqNone.ne_none_str (zM I q (by simp))
  | _ => exact absurd (show false = true from hs) Bool.false_ne_true
 | bl i =>
  cases rx
  cases y with
  | non => cases ry; exact PySem.EqNone.ne_bool_none (zM I q (by simp))
  | bl j => cases ry; exact ne_bool (zM I q (congrArg not QR))
  | str j => obtain ⟨t', rfl⟩ := ry; exact PySem.EqMixed.ne_bool_str (zM I q (by simp))
  | _ => exact absurd (show false = true from hs) Bool.false_ne_true
 | int i =>
  obtain ⟨t, rfl⟩ := rx
  cases y with
  | non => cases ry; exact PySem.EqNone.ne_int_none (zM I q (by simp))
  | int j => obtain ⟨t', rfl⟩ := ry; exact ne_int (zM I q (congrArg not Qk))
  | str j => obtain ⟨t', rfl⟩ := ry; exact PySem.EqMixed.ne_int_str (zM I q (by simp))
  | _ => exact absurd (show false = true from hs) Bool.false_ne_true
 | str i =>
  obtain ⟨t, rfl⟩ := rx
  cases y with
  | non => cases ry; exact PySem.EqNone.ne_str_none (zM I q (by simp))
  | bl j => cases ry; exact PySem.EqMixed.ne_str_bool (zM I q (by simp))
  | int j => obtain ⟨t', rfl⟩ := ry; exact PySem.EqMixed.ne_str_int (zM I q (by simp))
  | str j => obtain ⟨t', rfl⟩ := ry; exact ne_str (zM I q (congrArg not Qj))
  | _ => exact absurd (show false = true from hs) Bool.false_ne_true
 | byt i =>
  obtain ⟨t, rfl⟩ := rx
  cases y with
  | byt j => obtain ⟨t', rfl⟩ := ry; exact PySem.W.ne_bytes (zM I q (congrArg not Ql))
  | _ => exact absurd (show false = true from hs) Bool.false_ne_true
 | _ => cases y <;> exact absurd (show false = true from hs) Bool.false_ne_true
theorem op_lt : OpR X (compareOp .Lt) (rI0 fun i j => .bl (decide (i < j))) := opB0 fun _ _ _ _ _ _ _ q => lt_int q
theorem ja : OpR X (compareOp .LtE) (rI0 fun i j => .bl (decide (i ≤ j))) := opB0 fun _ _ _ _ _ _ _ q => le_int q
theorem qF : OpR X (compareOp .Is) (fun x y H Q => y = .non ∧ Q (.bl (decide (x = .non))) H) := by
 intro pins s σ H x y v u Q I rx ry h
 obtain ⟨rfl, q⟩ := h
 cases ry
 refine is_none_gen (zM I q ?_)
 cases x <;> first
  | (cases rx; rfl)
  | (obtain ⟨t, rfl⟩ := rx; rfl)
theorem jV : OpR X (compareOp .IsNot) (fun x y H Q => y = .non ∧ Q (.bl (!decide (x = .non))) H) := by
 intro pins s σ H x y v u Q I rx ry h
 obtain ⟨rfl, q⟩ := h
 cases ry
 refine isnot_none_gen (zM I q ?_)
 cases x <;> first
  | (cases rx; rfl)
  | (obtain ⟨t, rfl⟩ := rx; rfl)
theorem OpR.or {f : Value → Value → Sem Value} {r r' : R2} (h : OpR X f r) (h' : OpR X f r') : OpR X f (fun x y H Q => r x y H Q ∨ r' x y H Q) := by
 intro pins s σ H x y v u Q I rx ry q
 rcases q with q | q
 ·exact h pins s σ H x y v u Q I rx ry q
 ·exact h' pins s σ H x y v u Q I rx ry q
theorem zq (b : Expr) {op : CmpOp} (h : op ≠ .In := by decide) (h2 : op ≠ .NotIn := by decide) : behindInMarks op b = false := by
 have e1 : (op == CmpOp.In) = false := by cases op <;> first | rfl | exact absurd rfl h
 have e2 : (op == CmpOp.NotIn) = false := by cases op <;> first | rfl | exact absurd rfl h2
 cases b <;> simp [behindInMarks, e1, e2]
theorem wl {op : CmpOp} {r : R2} (ho : OpR X (compareOp op) r) (ha : PE X a ta) (hb : PE X b tb) (hm : behindInMarks op b = false) : PE X (.Compare a [op] [b] pos) (tOp r ta tb) := by
 intro pins s σ H Q I h
 exact wpAny_Compare1 (binT ha hb I h fun v u s2 x y H2 I2 rx ry q => ho pins s2 σ H2 x y v u Q I2 rx ry q) hm
def tTest (t : TE) : TT := fun σ H Q => t σ H fun x H' => ∃ k, x = .bl k ∧ Q k H'
theorem zo {op : CmpOp} {r : R2} (ho : OpR X (compareOp op) r) (ha : PE X a ta) (hb : PE X b tb) (hm : behindInMarks op b = false) : PT X (.Compare a [op] [b] pos) (tTest (tOp r ta tb)) := by
 intro pins s σ H Q I h
 refine wpAny_isTrue_Compare1 (thn (ha pins s σ H _ I h) fun v s1 ⟨x, H1, I1, r1, q1⟩ => thn (hb pins s1 σ H1 _ I1 q1) fun u s2 ⟨y, H2, I2, r2, q2⟩ =>
  thn (ho pins s2 σ H2 x y v u _ I2 r1 r2 q2) fun c s3 ⟨z, H3, I3, r3, k, e, q3⟩ => ?_) hm
 subst e
 cases r3
 exact wpAny_truthy_bool ⟨H3, I3, q3⟩
def tChain (r r' : R2) (ta tb tc : TE) : TE := fun σ H Q => ta σ H fun x H1 => tb σ H1 fun y H2 => r x y H2 fun z H3 => ∃ k, z = .bl k ∧
 (if k = true then tc σ H3 fun w' H4 => r' y w' H4 Q else Q (.bl false) H3)
theorem qO {op op' : CmpOp} {r r' : R2} (ho : OpR X (compareOp op) r) (ho' : OpR X (compareOp op') r') (ha : PE X a ta) (hb : PE X b tb) (hc : PE X c tc)
  (hm : lastMarks [op, op'] [b, c] = false := by with_unfolding_all rfl) : PT X (.Compare a [op, op'] [b, c] pos) (tTest (tChain r r' ta tb tc)) := by
 intro pins s σ H Q I h
 refine isTrue_chain (thn (ha pins s σ H _ I h) fun v s1 ⟨x, H1, I1, r1, q1⟩ => test_link (thn (hb pins s1 σ H1 _ I1 q1) fun u s2 ⟨y, H2, I2, r2, q2⟩ =>
  thn (ho pins s2 σ H2 x y v u _ I2 r1 r2 q2) fun d s3 ⟨z, H3, I3, r3, k, e, q3⟩ => ?_)) hm
 subst e
 cases r3
 refine wpAny_truthy_bool ?_
 cases k with
 | false =>
  obtain ⟨k', e', q'⟩ := q3
  cases e'
  exact ite_ff ⟨H3, I3, q'⟩
 | true =>
  refine ite_tt (test_last (thn (hc pins s3 σ H3 _ I3 q3) fun w' s4 ⟨z', H4, I4, r4, q4⟩ => thn (ho' pins s4 σ H4 y z' u w' _ I4 r2 r4 q4) fun d' s5 ⟨z2, H5, I5, r5, k2, e2, q5⟩ => ?_))
  subst e2
  cases r5
  exact wpAny_truthy_bool ⟨H5, I5, q5⟩
def TruV (K : PySem.W.Frag) (x : V) (H : Hp) (k : Bool) : Prop :=
 match x with
 | .non => k = false
 | .bl b => k = b
 | .int i => k = (i != 0)
 | .str y => y.length ≤ sizeLine ∧ k = ((y.length : Int) != 0)
 | .byt y => y.size ≤ sizeLine ∧ k = ((y.size : Int) != 0)
 | .ref p => (∃ xs, SqL K H p xs ∧ k = !xs.isEmpty) ∨ (∃ xs, SqT K H p xs ∧ k = !xs.isEmpty) ∨ ∃ kvs, H p = some (.dK kvs) ∧ k = !kvs.isEmpty
 | _ => False
theorem isEmpty_kv {κ : Type} {kvs : List (κ × V)} {vs : List (κ × Value)} (r : KV kvs vs) : (!vs.isEmpty) = !kvs.isEmpty := by
 cases r <;> rfl
theorem wQ {xs : List V} {its : List Value} (r : Vals xs its) : (!its.toArray.isEmpty) = !xs.isEmpty := by
 cases r <;> simp
theorem j7 : (sizeLine : Nat) < 2 ^ 63 := by rw [sizeLine_eq]; decide
theorem tru_ok : TruR X (fun x H Q => ∃ k, TruV X.K x H k ∧ Q k H) := by
 intro pins s σ H x v Q I rx h
 obtain ⟨k, e, q⟩ := h
 have hl := j7
 have hs : sizeLine = 16777216 := sizeLine_eq
 cases x with
 | non =>
  cases rx
  have e' : k = false := e
  subst e'
  exact truthy_none ⟨H, I, q⟩
 | bl b =>
  cases rx
  have e' : k = b := e
  subst e'
  exact wpAny_truthy_bool ⟨H, I, q⟩
 | int i =>
  obtain ⟨t, rfl⟩ := rx
  have e' : k = (i != 0) := e
  subst e'
  exact PySem.P.truthy_int ⟨H, I, q⟩
 | str y =>
  obtain ⟨t, rfl⟩ := rx
  obtain ⟨hy, e'⟩ : y.length ≤ sizeLine ∧ k = ((y.length : Int) != 0) := e
  subst e'
  exact PySem.P.truthy_str (by omega) ⟨H, I.tok _, q⟩
 | byt y =>
  obtain ⟨t, rfl⟩ := rx
  obtain ⟨hy, e'⟩ : y.size ≤ sizeLine ∧ k = ((y.size : Int) != 0) := e
  subst e'
  exact PySem.W.truthy_bytes (by omega) ⟨H, I.tok _, q⟩
 | ref p =>
  cases rx
  have e' : (∃ xs, SqL X.K H p xs ∧ k = !xs.isEmpty) ∨ (∃ xs, SqT X.K H p xs ∧ k = !xs.isEmpty) ∨ ∃ kvs, H p = some (.dK kvs) ∧ k = !kvs.isEmpty := e
  rcases e' with ⟨xs, hx, e'⟩ | ⟨xs, hx, e'⟩ | ⟨kvs, hx, e'⟩
  ·subst e'
   obtain ⟨its, r, pl, hz⟩ := I.list hx
   have hlen := r.length
   exact wpAny_truthy_list pl.isList (by simp only [List.size_toArray]; omega) ⟨H, I.tok _, by rw [wQ r]; exact q⟩
  ·subst e'
   obtain ⟨its, r, pl, hz⟩ := I.tuple hx
   have hlen := r.length
   exact truthy_tuple pl (by simp only [List.size_toArray]; omega) ⟨H, I.tok _, by rw [wQ r]; exact q⟩
  ·subst e'
   obtain ⟨hz, hS, vs, r, m⟩ : kvs.length ≤ sizeLine ∧ (p == sysModules) = false ∧ ∃ vs, KV kvs vs ∧ s.heap.DictOf (vX X.prog X.w) p vs := I.hok p _ hx
   have hlen : kvs.length = vs.length := Paired.length r
   exact wpAny_truthy_dict hS m (by omega) ⟨H, I.tok _, by rw [isEmpty_kv r]; exact q⟩
 | _ => exact (show False from e).elim
theorem zz (ha : PE X a ta) (he : ∀ whole, isTrue a X.env whole = (do let v ← whole; standAt a.pos; holding [v] (truthy v))) :
  PT X a (fun σ H Q => ta σ H fun x H' => ∃ k, TruV X.K x H' k ∧ Q k H') := by
 intro pins s σ H Q I h
 exact isTrue_plain (thn (ha pins s σ H _ I h) fun v s1 ⟨x, H1, I1, r1, q1⟩ => tru_ok pins s1 σ H1 x v Q I1 r1 q1) (he _)
theorem op_add_str : OpR X (binaryOp .Add) (fun x y H Q => ∃ i j, x = .str i ∧ y = .str j ∧ i.length + j.length ≤ sizeLine ∧ Q (.str (i ++ j)) H) := by
 intro pins s σ H x y v u Q I rx ry h
 obtain ⟨i, j, rfl, rfl, hz, q⟩ := h
 obtain ⟨t, rfl⟩ := rx
 obtain ⟨t', rfl⟩ := ry
 exact add_str (fun t' tk => ⟨.str (i ++ j), H, I.tok _, ⟨_, rfl⟩, q⟩) hz
theorem Zh {x : V} {us : List Value} (r : Vals [x] us) : ∃ u, us = [u] ∧ RelV x u := by
 cases r with
 | cons r1 r2 => cases r2; exact ⟨_, rfl, r1⟩
theorem QV {x y : V} {us : List Value} (r : Vals [x, y] us) : ∃ u w', us = [u, w'] ∧ RelV x u ∧ RelV y w' := by
 cases r with
 | cons r1 r2 =>
  cases r2 with
  | cons r3 r4 => cases r4; exact ⟨_, _, rfl, r1, r3⟩
theorem call_max2 (hc : X.calm = true) : CallR X (.builtin "max") (fun xs H Q => ∃ i j, xs = [.int i, .int j] ∧ Q (.int (if j > i then j else i)) H) := by
 intro pins s σ H xs us Q I r h
 obtain ⟨i, j, rfl, q⟩ := h
 obtain ⟨u, w', rfl, ⟨t, rfl⟩, ⟨t', rfl⟩⟩ := QV r
 refine max_two_ints (I.ok.hd hc) fun h' tk k => ⟨_, H, I.kept k, ?_, q⟩
 by_cases hj : j > i
 ·rw [if_pos hj, if_pos hj]; exact ⟨_, rfl⟩
 ·rw [if_neg hj, if_neg hj]; exact ⟨_, rfl⟩
def LenV (K : PySem.W.Frag) (x : V) (H : Hp) (n : Nat) : Prop :=
 match x with
 | .str y => y.length ≤ sizeLine ∧ n = y.length
 | .byt y => y.size ≤ sizeLine ∧ n = y.size
 | .ref p => (∃ xs, SqL K H p xs ∧ n = xs.length) ∨ ∃ xs, SqT K H p xs ∧ n = xs.length
 | _ => False
theorem call_len : CallR X (.builtin "len") (fun xs H Q => ∃ x n, xs = [x] ∧ LenV X.K x H n ∧ Q (.int n) H) := by
 intro pins s σ H xs us Q I r h
 obtain ⟨x, n, rfl, e, q⟩ := h
 obtain ⟨u, rfl, rx⟩ := Zh r
 have hl := j7
 have hs : sizeLine = 16777216 := sizeLine_eq
 cases x with
 | str y =>
  obtain ⟨t, rfl⟩ := rx
  obtain ⟨hy, e'⟩ : y.length ≤ sizeLine ∧ n = y.length := e
  subst e'
  exact len_str (by omega) ⟨.int _, H, I.tok _, ⟨_, rfl⟩, q⟩
 | byt y =>
  obtain ⟨t, rfl⟩ := rx
  obtain ⟨hy, e'⟩ : y.size ≤ sizeLine ∧ n = y.size := e
  subst e'
  exact PySem.W.len_bytes (by omega) ⟨.int _, H, I.tok _, ⟨_, rfl⟩, q⟩
 | ref p =>
  cases rx
  have e' : (∃ xs, SqL X.K H p xs ∧ n = xs.length) ∨ ∃ xs, SqT X.K H p xs ∧ n = xs.length := e
  rcases e' with ⟨xs, hx, e'⟩ | ⟨xs, hx, e'⟩
  ·subst e'
   obtain ⟨its, r', pl, hz⟩ := I.list hx
   have hlen := r'.length
   exact Calls.call_len_list pl.isList (by simp only [List.size_toArray]; omega) ⟨.int xs.length, H, I.tok _, ⟨_, by simp only [List.size_toArray]; rw [hlen]⟩, q⟩
  ·subst e'
   obtain ⟨its, r', pl, hz⟩ := I.tuple hx
   have hlen := r'.length
   exact len_tuple pl (by simp only [List.size_toArray]; omega) ⟨.int xs.length, H, I.tok _, ⟨_, by simp only [List.size_toArray]; rw [hlen]⟩, q⟩
 | _ => exact (show False from e).elim
end
end L2
namespace L2
open PySem PySem.Spec PyProof.Rows
structure ObjM (h : Heap) (x dx C : Addr) (mA : Str → Option Value) : Prop where
 obj : h.get? x = some (PySem.W.instObj C dx)
 ns : h.Ns1 dx mA
 ne : dx ≠ x
theorem lookIn_ns {h : Heap} {dx : Addr} {mA : Str → Option Value} (n : h.Ns1 dx mA) : ∃ od, h.get? dx = some od ∧ ∀ name, PySem.W.lookIn name od = some (mA name) := by
 obtain ⟨o, es, ep, ho, hd, hk, _, hm⟩ := n
 refine ⟨o, ho, fun name => ?_⟩
 have e := hm name
 unfold nsFind findBy at e
 rw [← Array.find?_toList] at e
 unfold PySem.W.lookIn
 rw [hd]
 dsimp only
 split
 ·rename_i y q
  rw [q] at e
  exact congrArg some e
 ·rename_i q
  rw [q] at e
  have a : es.toList.any (·.refKey) = false := by
   rw [List.any_eq_false]
   intro y hy
   obtain ⟨z, t, hkey⟩ := hk y (Array.mem_toList_iff.mp hy)
   simp [DictEntry.refKey, hkey]
  have a' : ¬ es.toList.any (·.refKey) = true := by rw [a]; exact Bool.false_ne_true
  rw [if_neg a']
  exact congrArg some e
theorem ObjM.look {h : Heap} {x dx C : Addr} {mA : Str → Option Value} (I : ObjM h x dx C mA) : ∃ od, PySem.W.InstAt h x (PySem.W.instObj C dx) C (some od) ∧ ∀ name, PySem.W.lookIn name od = some (mA name) :=
 let ⟨od, ho, hl⟩ := lookIn_ns I.ns
 ⟨od, ⟨I.obj, rfl, rfl, ho⟩, hl⟩
section
variable {prog : Program} {w : World} {A : Around} {E : Value → Shared → Prop} {s : Shared} {K : PySem.W.Frag} {x dx C f : Addr} {mA : Str → Option Value} {name : Str} {v : Value}
theorem get_map {expr : Bool} {Q : Value → Shared → Prop} (X : K.In s.heap) (I : ObjM s.heap x dx C mA) (hg : PySem.W.plainGet K C name = true) (hh : PySem.W.hasDictIn K C = true)
  (ha : PySem.W.findIn K (.ref C) name = some none) (hv : mA name = some v) (hv' : PySem.W.handedIn v = true) (h : Q v { s with toks := s.toks + 1 }) :
  wpAny (model prog w) A (getAttr (.ref x) name expr) Q E s := by
 obtain ⟨od, J, hl⟩ := I.look
 exact PySem.W.get_value X J (PySem.W.plainGet_of hg).1 (PySem.W.findObj_own hh ha rfl (by rw [hl, hv])) hv' h
theorem get_meth {pl : Sem Bool} {Q : Value × List Value → Shared → Prop} (X : K.In s.heap) (I : ObjM s.heap x dx C mA) (hg : PySem.W.plainGet K C name = true)
  (hf : PySem.W.findIn K (.ref C) name = some (some (.ref f))) (ht : PySem.W.isFn K (.ref f) = true) (hv : mA name = none) (h : Q (.ref f, [.ref x]) s) :
  wpAny (model prog w) A (getMethod (.ref x) name pl) Q E s := by
 obtain ⟨od, J, hl⟩ := I.look
 exact PySem.W.method_fn X J (PySem.W.plainGet_of hg).1 (PySem.W.plainGet_of hg).2 hf (beq_iff_eq.mp ht) (by show (PySem.W.lookIn name od).map (·.isSome) = some false; rw [hl, hv]; rfl) h
theorem set_map {ns : List Str} {Q : Unit → Shared → Prop} (X : K.In s.heap) (I : ObjM s.heap x dx C mA)
  (hs : PySem.W.findIn K (.ref C) "__setattr__" = some (some (.builtin "object.__setattr__"))) (hp : PySem.W.plainOver K C = true) (ht : PySem.W.takerIn K C name = some none) (hh : PySem.W.hasDictIn K C = true)
  (hw : PySem.Within mA ns) (hsz : ns.length ≤ sizeLine)
  (h : ∀ h', ObjM h' x dx C (fun y => if y = name then some v else mA y) → Heap.SameBut dx s.heap h' → Q () { s with heap := h', toks := s.toks + 2 }) :
  wpAny (model prog w) A (setAttr (.ref x) name v) Q E s := by
 obtain ⟨od, J, hl⟩ := I.look
 refine PySem.W.set_plain X J hs (PySem.W.osa_open (s := { s with toks := s.toks + 1 }) (r := none) X J hp ht fun b => ?_)
 obtain ⟨cd, hc, hd'⟩ := PySem.W.any_some hh
 have hx : s.heap.get? x = some ⟨.ref C, some dx, .plain, #[]⟩ := I.obj
 refine wpAny_bind (wpAny_pure (wpAny_bind (wpAny_bind (wpAny_loadPart hx (wpAny_bind (PySem.W.Looks.here (s := { s with toks := s.toks + 1 }) (PySem.W.looks_clsIn X hc) ?_))))))
 rw [hd']
 refine wpAny_pure (a := some dx) (wpAny_bind (wpAny_pure (wpAny_bind ?_)))
 refine wpAny_nsSet1 (s := { s with toks := s.toks + 1 }) I.ns fun h' hn2 hs2 => ?_
 obtain ⟨oD, esD, epD, hoD, hdD, hcD⟩ := hn2.count (PySem.Within.cons name v hw)
 refine wpAny_bind (wpAny_lookBehind hoD (by rw [hdD]; exact pastItsLine_dict (Nat.le_trans hcD (by rw [List.length_cons]; omega))) ?_)
 exact wpAny_pure (h _ ⟨(hs2.2 _ (Ne.symm I.ne)).trans I.obj, hn2, I.ne⟩ hs2)
theorem Zw {R : Result → Shared → Prop} {vs : List Value} {kw : List (Str × Value)} (X : K.In s.heap) (hm : PySem.W.makesIn K C = true)
  (hi : PySem.W.findIn K (.ref C) "__init__" = some (some (.ref f))) (hf : PySem.W.typeIn K (.ref f) = some (.type "function"))
  (h : codeAny (model prog w) (A.under (.builtin "type.__call__" ⟨.ref C :: vs, kw⟩)) (.call (.ref f) ⟨.ref (s.heap.objs.size + 1) :: vs, kw⟩) (PySem.W.InitBack (s.heap.objs.size + 1) R)
   { s with heap := (s.heap.push PySem.W.emptyDict).push (PySem.W.instObj C s.heap.objs.size) }) :
  codeAny (model prog w) A (.call (.ref C) ⟨vs, kw⟩) R s := by
 obtain ⟨hh, g, d, t, os⟩ := s
 exact PySem.W.make_core (PySem.W.makes_of X hm) (PySem.W.looks_findIn X hi) (fun self => PySem.W.bind_fn X self hf) (.inl rfl) h
end
def putF (f : Str) (v : V) : List (Str × V) → List (Str × V)
 | [] => [(f, v)]
 | (g, x) :: r => if g = f then (g, v) :: r else (g, x) :: putF f v r
theorem qB (f g : Str) (v : V) : ∀ fs : List (Str × V), (putF f v fs).lookup g = if g = f then some v else fs.lookup g
 | [] => by
  show List.lookup g [(f, v)] = _
  by_cases h : g = f
  ·have hb : (g == f) = true := beq_iff_eq.mpr h
   simp only [List.lookup, hb, if_pos h]
  ·have hb : (g == f) = false := beq_eq_false_iff_ne.mpr h
   simp only [List.lookup, hb, if_neg h]
 | (k, x) :: r => by
  have ih := qB f g v r
  rw [show putF f v ((k, x) :: r) = (if k = f then (k, v) :: r else (k, x) :: putF f v r) from rfl]
  by_cases hk : k = f
  ·rw [if_pos hk]
   by_cases h : g = k
   ·have hb : (g == k) = true := beq_iff_eq.mpr h
    simp only [List.lookup, hb, if_pos (h.trans hk)]
   ·have hb : (g == k) = false := beq_eq_false_iff_ne.mpr h
    simp only [List.lookup, hb, if_neg (fun e : g = f => h (e.trans hk.symm))]
  ·rw [if_neg hk]
   by_cases h : g = k
   ·have hb : (g == k) = true := beq_iff_eq.mpr h
    simp only [List.lookup, hb, if_neg (fun e : g = f => hk (h.symm.trans e))]
   ·have hb : (g == k) = false := beq_eq_false_iff_ne.mpr h
    simp only [List.lookup, hb]
    exact ih
theorem xL (f : Str) (v : V) : ∀ fs : List (Str × V), f ∈ (putF f v fs).map (·.1) ∧ ∀ g, g ∈ fs.map (·.1) → g ∈ (putF f v fs).map (·.1)
 | [] => ⟨by simp [putF], fun g h => by simp at h⟩
 | (k, x) :: r => by
  obtain ⟨i1, i2⟩ := xL f v r
  rw [show putF f v ((k, x) :: r) = (if k = f then (k, v) :: r else (k, x) :: putF f v r) from rfl]
  by_cases hk : k = f
  ·rw [if_pos hk]
   subst hk
   exact ⟨by simp, fun g h => by simpa using h⟩
  ·rw [if_neg hk]
   refine ⟨?_, fun g h => ?_⟩
   ·rw [List.map_cons]
    exact List.mem_cons_of_mem _ i1
   ·rw [List.map_cons] at h ⊢
    rcases List.mem_cons.mp h with e | e
    ·exact List.mem_cons.mpr (.inl e)
    ·exact List.mem_cons_of_mem _ (i2 g e)
theorem je (f : Str) (v : V) : ∀ fs : List (Str × V), (putF f v fs).length ≤ fs.length + 1
 | [] => by simp [putF]
 | (k, x) :: r => by
  have ih := je f v r
  rw [show putF f v ((k, x) :: r) = (if k = f then (k, v) :: r else (k, x) :: putF f v r) from rfl]
  by_cases hk : k = f
  ·rw [if_pos hk, List.length_cons, List.length_cons]; omega
  ·rw [if_neg hk, List.length_cons, List.length_cons]; omega
theorem RelO.some_of {v : V} {o : Option Value} (r : RelO (some v) o) : ∃ u, o = some u ∧ RelV v u := by
 cases o with
 | none => exact (show False from r).elim
 | some u => exact ⟨u, rfl, r⟩
theorem RelO.none_of {o : Option Value} (r : RelO none o) : o = none := by
 cases o with
 | none => rfl
 | some u => exact (show False from r).elim
theorem handed_of {v : V} {u : Value} (r : RelV v u) : PySem.W.handedIn u = true := by
 cases v with
 | non => cases (show u = Value.none from r); rfl
 | bl b => cases (show u = Value.bool b from r); rfl
 | int i => obtain ⟨t, e⟩ := (show ∃ t, u = Value.int i t from r); cases e; rfl
 | str x => obtain ⟨t, e⟩ := (show ∃ t, u = Value.str x t from r); cases e; rfl
 | byt b => obtain ⟨t, e⟩ := (show ∃ t, u = Value.bytes b t from r); cases e; rfl
 | flt b => obtain ⟨t, e⟩ := (show ∃ t, u = Value.float b t from r); cases e; rfl
 | ref a => cases (show u = Value.ref a from r); rfl
 | ty n => cases (show u = Value.type n from r); rfl
section
variable {P : Program} {w : World} {H H' : Hp} {h h' : Heap} {a C dx : Addr} {fs fs' : List (Str × V)}
theorem wn (hok : HOk P w H h) (e : H a = some (.ins C dx fs)) : ∃ mA, ObjM h a dx C mA ∧ (∀ f, RelO (fs.lookup f) (mA f)) ∧ PySem.Within mA (fs.map (·.1)) ∧ fs.length ≤ 1000 ∧ H dx = some (.own a) := by
 obtain ⟨d, z, ne, ob, mA, n, r, q⟩ := (show ObjOk P w H h a (.ins C dx fs) from hok a _ e)
 exact ⟨mA, ⟨ob, n, ne⟩, r, q, z, d⟩
end
structure Cls (K : PySem.W.Frag) (C : Addr) : Prop where
 pg : PySem.W.plainGet K C Str.empty = true
 hd : PySem.W.hasDictIn K C = true
 po : PySem.W.plainOver K C = true
 sa : PySem.W.findIn K (.ref C) "__setattr__" = some (some (.builtin "object.__setattr__"))
theorem Cls.get {K : PySem.W.Frag} {C : Addr} (c : Cls K C) (f : Str) : PySem.W.plainGet K C f = true := c.pg
def NoAttr (K : PySem.W.Frag) (C : Addr) (f : Str) : Prop := PySem.W.findIn K (.ref C) f = some none
theorem NoAttr.taker {K : PySem.W.Frag} {C : Addr} {f : Str} (n : NoAttr K C f) : PySem.W.takerIn K C f = some none := by
 unfold PySem.W.takerIn
 rw [show PySem.W.findIn K (.ref C) f = some none from n]
 rfl
structure Meth (K : PySem.W.Frag) (C : Addr) (m : Str) (f : Addr) : Prop where
 at_ : PySem.W.findIn K (.ref C) m = some (some (.ref f))
 fn : PySem.W.isFn K (.ref f) = true
 kp : PySem.W.keepIn K (.ref f) = true
section
variable {X : Cx} {pins : List (Addr × Obj)} {σ : St} {H : Hp} {s : Shared} {a C dx : Addr} {fs : List (Str × V)} {f : Str} {v : V} {A : Around} {E : Value → Shared → Prop}
theorem wU {b : Bool} {Q : Value → Shared → Prop} (I : Inv X pins σ H s) (e : H a = some (.ins C dx fs)) (c : Cls X.K C) (n : NoAttr X.K C f) (l : fs.lookup f = some v)
  (h : ∀ u s', Inv X pins σ H s' → RelV v u → Q u s') : wpAny (model X.prog X.w) A (getAttr (.ref a) f b) Q E s := by
 obtain ⟨mA, O, r, _, _, _⟩ := wn I.hok e
 obtain ⟨u, hu, ru⟩ := RelO.some_of (v := v) (o := mA f) (by rw [← l]; exact r f)
 exact get_map I.kIn O (c.get f) c.hd n hu (handed_of ru) (h u _ (I.tok _) ru)
theorem wT {m : Str} {g : Addr} {pl : Sem Bool} {Q : Value × List Value → Shared → Prop} (I : Inv X pins σ H s) (e : H a = some (.ins C dx fs)) (c : Cls X.K C) (k : Meth X.K C m g) (l : fs.lookup m = none)
  (h : Q (.ref g, [.ref a]) s) : wpAny (model X.prog X.w) A (getMethod (.ref a) m pl) Q E s := by
 obtain ⟨mA, O, r, _, _, _⟩ := wn I.hok e
 have hn : mA m = none := RelO.none_of (by rw [← l]; exact r m)
 exact get_meth I.kIn O (c.get m) k.at_ k.fn hn h
theorem wG {y : V} {u : Value} {Q : Unit → Shared → Prop} (I : Inv X pins σ H s) (e : H a = some (.ins C dx fs)) (c : Cls X.K C) (n : NoAttr X.K C f) (hl : fs.length < 1000) (ry : RelV y u)
  (h : ∀ s', Inv X pins σ (upd H a (.ins C dx (putF f y fs))) s' → Q () s') : wpAny (model X.prog X.w) A (setAttr (.ref a) f u) Q E s := by
 obtain ⟨mA, O, r, wi, _, ho⟩ := wn I.hok e
 have hz : (fs.map (·.1)).length ≤ sizeLine := by rw [List.length_map, sizeLine_eq]; omega
 refine set_map I.kIn O c.sa c.po n.taker c.hd wi hz fun h' O' sb => h _ ?_
 have hd : ∃ o, h'.get? dx = some o := let ⟨o, _, _, e', _⟩ := O'.ns; ⟨o, e'⟩
 refine I.write (x := a) (e := dx) (by rw [e]; exact True.intro) (.inr ho) (fun b q hb z => (sb.2 b hb).trans z) hd ?_
 refine ⟨by rw [upd_ne O.ne]; exact ho, ?_, O.ne, O'.obj, _, O'.ns, fun g => ?_, fun g hg => ?_⟩
 ·have := je f y fs; omega
 ·show RelO ((putF f y fs).lookup g) (if g = f then some u else mA g)
  rw [qB]
  by_cases q : g = f
  ·rw [if_pos q, if_pos q]; exact ry
  ·rw [if_neg q, if_neg q]; exact r g
 ·by_cases q : g = f
  ·rw [q]; exact (xL f y fs).1
  ·refine (xL f y fs).2 g (wi g fun z => hg ?_)
   show (if g = f then some u else mA g) = none
   rw [if_neg q]; exact z
theorem Inv.made (I : Inv X pins σ H s) : Inv X pins σ (upd (upd H s.heap.objs.size (.own (s.heap.objs.size + 1))) (s.heap.objs.size + 1) (.ins C s.heap.objs.size []))
  { s with heap := (s.heap.push PySem.W.emptyDict).push (PySem.W.instObj C s.heap.objs.size) } := by
 have e1 : (s.heap.push PySem.W.emptyDict).get? s.heap.objs.size = some PySem.W.emptyDict := Heap.get?_push_size s.heap rfl
 have e2 : ((s.heap.push PySem.W.emptyDict).push (PySem.W.instObj C s.heap.objs.size)).get? (s.heap.objs.size + 1) = some (PySem.W.instObj C s.heap.objs.size) := by
  have := Heap.get?_push_size (s.heap.push PySem.W.emptyDict) (o := PySem.W.instObj C s.heap.objs.size) rfl
  rwa [Heap.size_push] at this
 have e3 : (s.heap.push PySem.W.emptyDict).Ns s.heap.objs.size (fun _ => none) := ⟨PySem.W.emptyDict, #[], _, e1, rfl, (fun e he => absurd he (by simp)), fun _ => rfl⟩
 have I1 := I.laid (a := s.heap.objs.size) (o := .own (s.heap.objs.size + 1)) (h' := s.heap.push PySem.W.emptyDict) (t' := s.toks) (fun b u q => Heap.get?_push_of_some _ q) (Nat.le_refl _) ⟨_, e1⟩
 refine I1.laid (a := s.heap.objs.size + 1) (o := .ins C s.heap.objs.size []) (t' := s.toks) (fun b u q => Heap.get?_push_of_some _ q) (Nat.le_of_eq (Heap.size_push _ _)) ?_
 have ne : s.heap.objs.size ≠ s.heap.objs.size + 1 := Nat.ne_of_lt (Nat.lt_succ_self _)
 refine ⟨by rw [upd_ne ne, upd_same], Nat.zero_le _, ne, e2, fun _ => none, (Heap.Ns1.of_empty e3).at fun o q => Heap.get?_push_of_some _ q, fun _ => True.intro, fun y hy => absurd rfl hy⟩
theorem attr_of {prog : Program} {w : World} {env : Env} {e : Expr} {f : Str} {pos : Pos} {s : Shared} {Q : Value → Shared → Prop} (hb : attributeBase e f env (eval e env) = eval e env)
  (h : wpAny (model prog w) A (eval e env) (fun o s₁ => wpAny (model prog w) A (getAttr o f true) Q E s₁) E s) : wpAny (model prog w) A (eval (.Attribute e f pos) env) Q E s :=
 Attribute_any_ h (by rw [arm_eval_Attribute, hb])
end
def tFld (K : PySem.W.Frag) (ta : TE) (f : Str) : TE := fun σ H Q => ta σ H fun x H1 => ∃ a C dx fs v, x = .ref a ∧ H1 a = some (.ins C dx fs) ∧ Cls K C ∧ NoAttr K C f ∧ fs.lookup f = some v ∧ Q v H1
def sFld (K : PySem.W.Frag) (ta tv : TE) (f : Str) : TS := fun D σ H => tv σ H fun y H1 => ta σ H1 fun x H2 => ∃ a C dx fs, x = .ref a ∧ H2 a = some (.ins C dx fs) ∧ Cls K C ∧ NoAttr K C f ∧ fs.length < 1000 ∧
 D.nx σ (upd H2 a (.ins C dx (putF f y fs)))
def InOp (X : Cx) (op : Operator) (rd : V → V → Hp → VK → Prop) : Prop :=
 ∀ (pins : List (Addr × Obj)) (s : Shared) (σ : St) (H : Hp) (x y : V) (u v : Value) (Q : VK), Inv X pins σ H s → RelV x u → RelV y v → rd x y H Q → wpAny (model X.prog X.w) X.A (inplaceOp op u v) (EP X pins σ Q) X.xe s
def sFldAug (K : PySem.W.Frag) (ta tv : TE) (rd : V → V → Hp → VK → Prop) (f : Str) : TS := fun D σ H => ta σ H fun x H1 => ∃ a C dx fs v, x = .ref a ∧ H1 a = some (.ins C dx fs) ∧ Cls K C ∧ NoAttr K C f ∧ fs.lookup f = some v ∧
 tv σ H1 fun y H2 => rd v y H2 fun z H3 => ∃ dx' fs', H3 a = some (.ins C dx' fs') ∧ fs'.length < 1000 ∧ D.nx σ (upd H3 a (.ins C dx' (putF f z fs')))
section
variable {X : Cx} {o e value : Expr} {f : Str} {pos pos' tpos : Pos} {ta tv : TE}
theorem zu (he : PE X e ta) (hb : attributeBase e f X.env (eval e X.env) = eval e X.env) : PE X (.Attribute e f pos) (tFld X.K ta f) := by
 intro pins s σ H Q I h
 refine attr_of hb (thn (he pins s σ H _ I h) fun u s1 ⟨x, H1, I1, rx, a, C, dx, fs, v, ex, ea, c, n, l, q⟩ => ?_)
 subst ex
 obtain rfl : u = Value.ref a := rx
 exact wU I1 ea c n l fun u' s2 I2 ru => ⟨v, H1, I2, ru, q⟩
theorem qI (ha : PE X o ta) (hv : PE X value tv) (hs : swapsWith value (some (.Attribute o f pos')) pos.line X.env = pure false) : PS X (.Assign [.Attribute o f pos'] value pos) (sFld X.K ta tv f) := by
 intro pins s σ H D I h
 refine plainObj_wpAny_Assign_Attribute (thn (hv pins s σ H _ I h) fun u s1 ⟨y, H1, I1, ry, q⟩ => thn (ha pins s1 σ H1 _ I1 q) fun ov s2 ⟨x, H2, I2, rx, a, C, dx, fs, ex, ea, c, n, l, q2⟩ => ?_) hs
 subst ex
 obtain rfl : ov = Value.ref a := rx
 exact wG I2 ea c n l ry fun s3 I3 => ⟨σ, _, I3, q2⟩
theorem ps_fldaug {op : Operator} {rd : V → V → Hp → VK → Prop} (ha : PE X o ta) (hv : PE X value tv) (hop : InOp X op rd) : PS X (.AugAssign (.Attribute o f tpos) op value pos) (sFldAug X.K ta tv rd f) := by
 intro pins s σ H D I h
 refine wpAny_AugAssign_AttributeAny (thn (ha pins s σ H _ I h) fun ov s1 ⟨x, H1, I1, rx, a, C, dx, fs, v, ex, ea, c, n, l, q⟩ => ?_)
 subst ex
 obtain rfl : ov = Value.ref a := rx
 refine wU I1 ea c n l fun u s2 I2 ru => thn (hv pins s2 σ H1 _ I2 q) fun w3 s3 ⟨y, H2, I3, ry, q3⟩ => thn (hop pins s3 σ H2 v y u w3 _ I3 ru ry q3) fun w4 s4 ⟨z, H3, I4, rz, dx', fs', ea', l', q4⟩ => ?_
 exact wG I4 ea' c n l' rz fun s5 I5 => ⟨σ, _, I5, q4⟩
def rAdd : V → V → Hp → VK → Prop := fun x y H Q => ∃ i j, x = .int i ∧ y = .int j ∧ Q (.int (i + j)) H
theorem in_add : InOp X .Add rAdd := by
 rintro pins s σ H x y u v Q I rx ry ⟨i, j, rfl, rfl, q⟩
 obtain ⟨t, rfl⟩ := (show ∃ t, u = Value.int i t from rx)
 obtain ⟨t', rfl⟩ := (show ∃ t', v = Value.int j t' from ry)
 exact PyProof.Rows.iadd_int ⟨.int (i + j), H, I.tok _, ⟨_, rfl⟩, q⟩
end
section
variable {X : Cx} {pins : List (Addr × Obj)} {σ : St} {H : Hp} {s : Shared} {A : Around} {E : Value → Shared → Prop} {Q : Value → Shared → Prop} {c : Value} {b : Bool}
inductive TyOf (K : PySem.W.Frag) (H : Hp) : V → Value → Prop where
 | non : TyOf K H .non (.type "NoneType")
 | bl (x : Bool) : TyOf K H (.bl x) (.type "bool")
 | int (i : Int) : TyOf K H (.int i) (.type "int")
 | str (x : Str) : TyOf K H (.str x) (.type "str")
 | flt (x : UInt64) : TyOf K H (.flt x) (.type "float")
 | lst {a : Addr} {xs : List V} (e : H a = some (.lst xs)) : TyOf K H (.ref a) (.type "list")
 | frz {a : Addr} {o : Obj} {xs : List V} (e : H a = some (.frz o (.lst xs))) : TyOf K H (.ref a) (.type "list")
 | tup {a : Addr} {xs : List V} (e : H a = some (.tup xs)) : TyOf K H (.ref a) (.type "tuple")
 | dK {a : Addr} {kvs : List (Key × V)} (e : H a = some (.dK kvs)) : TyOf K H (.ref a) (.type "dict")
 | dT {a : Addr} {kvs : List (List Key × V)} (e : H a = some (.dT kvs)) : TyOf K H (.ref a) (.type "dict")
 | ins {a C dx : Addr} {fs : List (Str × V)} (e : H a = some (.ins C dx fs)) (cl : Cls K C) (ha : PySem.W.findIn K (.ref C) "__class__" = some (some (.builtin "object.__class__")))
   (hn : PySem.W.specialIn K (.builtin "object.__class__") "__get__" = some (some (.builtin "getset_descriptor.__get__"))) (htk : PySem.W.takesIn K (.builtin "object.__class__") = some true)
   (hm : PySem.W.mroIn K C (.type "object") = some true) : TyOf K H (.ref a) (.ref C)
end
end L2
namespace L2
open PySem PySem.Spec PyProof.Rows
structure Room (k : Nat) (A : Around) : Prop where
 hd : A.handled = none
 dp : A.depth + 3 * k + 5 < recursionLimit
 un : A.units + 16 * k + 200 < cLine
theorem Room.mono {j k : Nat} {A : Around} (r : Room k A) (h : j ≤ k) : Room j A := ⟨r.hd, by have := r.dp; omega, by have := r.un; omega⟩
theorem Room.deeper {k : Nat} {A : Around} (r : Room (k + 1) A) (env : Env) : Room k (A.deeper env) :=
 ⟨r.hd, by have := r.dp; show A.depth + 1 + 3 * k + 5 < _; omega, by have := r.un; show A.units + 3 + 16 * k + 200 < _; omega⟩
theorem Room.in1 {k : Nat} {A : Around} (r : Room (k + 1) A) : Room k A.in1 :=
 ⟨r.hd, by have := r.dp; show A.depth + 3 * k + 5 < _; omega, by have := r.un; show A.units + 1 + 16 * k + 200 < _; omega⟩
theorem make_depth {A : Around} {C : Addr} {us : List Value} {kw : List (Str × Value)} : (A.under (.builtin "type.__call__" ⟨.ref C :: us, kw⟩)).depth = A.depth + 1 := by
 first | rfl | simp [Around.under, Code.weight, Code.isCreation, Code.isGuard, Code.isCaller, Code.frames, Code.isFrame, guardIds]
theorem make_units {A : Around} {C : Addr} {us : List Value} {kw : List (Str × Value)} : (A.under (.builtin "type.__call__" ⟨.ref C :: us, kw⟩)).units = A.units + 1 := by
 first | rfl | simp [Around.under, Code.cUnits, Code.frames, Code.isFrame]
theorem Room.make {k : Nat} {A : Around} (r : Room (k + 1) A) (C : Addr) (us : List Value) (kw : List (Str × Value)) : Room k (A.under (.builtin "type.__call__" ⟨.ref C :: us, kw⟩)) :=
 ⟨r.hd, by have := r.dp; rw [make_depth]; omega, by have := r.un; rw [make_units]; omega⟩
theorem Room.depth {k : Nat} {A : Around} (r : Room k A) : A.depth < recursionLimit := by have := r.dp; omega
theorem Room.units {k : Nat} {A : Around} (r : Room k A) : A.units + 64 < cLine := by have := r.un; omega
def tNil : TA := fun _ H Q => Q [] H
def tCons (ta : TE) (tr : TA) : TA := fun σ H Q => ta σ H fun x H1 => tr σ H1 fun xs H2 => Q (x :: xs) H2
section
variable {X : Cx} {e : Expr} {es : List Expr} {te : TE} {t : TA} {pos : Pos}
theorem zb : PA X [] tNil := fun _ _ _ _ H Q I h => Calls.spliced_nil ⟨[], H, I, .nil, h⟩
theorem za (ha : PE X e te) (hr : PA X es t) (hs : starEach (e :: es) X.env = (false, eval e X.env) :: starEach es X.env := by rfl) : PA X (e :: es) (tCons te t) := by
 intro pos pins s σ H Q I h
 rw [hs]
 show wpAny _ _ (spliced ((false, eval e X.env) :: backTo pos (starEach es X.env))) _ _ s
 refine Calls.spliced_cons (thn (ha pins s σ H _ I h) fun u s1 ⟨x, H1, I1, r1, q1⟩ => ?_)
 exact thn (hr pos pins s1 σ H1 _ I1 q1) fun us s2 ⟨xs, H2, I2, r2, q2⟩ => ⟨x :: xs, H2, I2, .cons r1 r2, q2⟩
def tTup (t : TA) : TE := fun σ H Q => t σ H fun xs H1 => xs.length ≤ sizeLine ∧ ∀ p, H1 p = none → Q (.ref p) (upd H1 p (.tup xs))
def tLst (t : TA) : TE := fun σ H Q => t σ H fun xs H1 => xs.length ≤ sizeLine ∧ ∀ p, H1 p = none → Q (.ref p) (upd H1 p (.lst xs))
theorem qr {x1} (h : PA X es t) : PE X (.Tuple es x1 pos) (tTup t) := by
 intro pins s σ H Q I hq
 refine wpAny_Tuple_spliced (thn (h pos pins s σ H _ I hq) fun us s1 ⟨xs, H1, I1, r, z, q⟩ => ⟨by rw [← r.length]; exact z, ?_⟩)
 have hf : H1 s1.heap.objs.size = none := I1.hok.fresh (Nat.le_refl _)
 refine ⟨.ref s1.heap.objs.size, upd H1 s1.heap.objs.size (.tup xs), I1.laid (t' := s1.toks) (fun b u e => Heap.get?_push_of_some _ e) (Nat.le_refl _) ?_, rfl, q _ hf⟩
 exact ⟨z, us, r, ⟨_, Heap.get?_push_size _ rfl, rfl, _, rfl⟩⟩
theorem zU (h : PA X es t) : PE X (.List es pos) (tLst t) := by
 intro pins s σ H Q I hq
 refine wpAny_List_spliced (thn (h pos pins s σ H _ I hq) fun us s1 ⟨xs, H1, I1, r, z, q⟩ => ⟨by rw [← r.length]; exact z, ?_⟩)
 have hf : H1 s1.heap.objs.size = none := I1.hok.fresh (Nat.le_refl _)
 refine ⟨.ref s1.heap.objs.size, upd H1 s1.heap.objs.size (.lst xs), I1.laid (t' := s1.toks) (fun b u e => Heap.get?_push_of_some _ e) (Nat.le_refl _) ?_, rfl, q _ hf⟩
 exact ⟨z, us, 0, r, Heap.get?_push_size _ rfl⟩
end
abbrev Sp := List V → Hp → VK → XK → Prop
abbrev CXT := List Env → Hp → Shared → XK → Value → Shared → Prop
structure Env0 (P : Program) (w : World) (K : PySem.W.Frag) (mg : Str → Option Value) (base : Heap) (A : Around) (outer : List Env) (s : Shared) (H : Hp) : Prop where
 frames : A.frames = some outer
 mod : Mod K mg base
 bs : ∀ b o, base.get? b = some o → s.heap.get? b = some o ∧ H b = none
 bsz : base.objs.size ≤ s.heap.objs.size
 funs : s.heap.FunFrames base outer
 frf : ∀ b ∈ frs outer, H b = none
 hok : HOk P w H s.heap
 bare : AllBare s.gens
def CE (outer : List Env) (P : Program) (w : World) (H : Hp) (s : Shared) (Q : VK) (u : Value) (s' : Shared) : Prop :=
 ∃ v H', s'.os = s.os ∧ AllBare s'.gens ∧ Un (frs outer) [] H H' s.heap s'.heap ∧ HOk P w H' s'.heap ∧ RelV v u ∧ Q v H'
def CR (CX : CXT) (outer : List Env) (P : Program) (w : World) (H : Hp) (s : Shared) (Q : VK) (E : XK) (r : Result) (s' : Shared) : Prop :=
 match r with
 | .ok (.ret u) => CE outer P w H s Q u s'
 | .ok _ => False
 | .error e => CX outer H s E e s'
structure FnOk (P : Program) (w : World) (K : PySem.W.Frag) (mg : Str → Option Value) (base : Heap) (CX : CXT) (k : Nat) (f : Addr) (fd : FuncData) (ps : List Str) (sp : Sp) : Prop where
 len : ∀ vs H Q E, sp vs H Q E → vs.length = ps.length
 run : ∀ (A : Around) (outer : List Env) (s : Shared) (H : Hp) (args : Args) (us : List Value) (vs : List V) (Q : VK) (E : XK), Room k A → Env0 P w K mg base A outer s H → BindsTo s fd args (ps.zip us) → Vals vs us → sp vs H Q E →
  codeAny (model P w) A (.call (.ref f) args) (CR CX outer P w H s Q E) s
theorem FnOk.mono {P : Program} {w : World} {K : PySem.W.Frag} {mg : Str → Option Value} {base : Heap} {CX : CXT} {j k : Nat} {f : Addr} {fd : FuncData} {ps : List Str} {sp : Sp} (F : FnOk P w K mg base CX j f fd ps sp) (h : j ≤ k) :
  FnOk P w K mg base CX k f fd ps sp := ⟨F.len, fun A outer s H args us vs Q E hr => F.run A outer s H args us vs Q E (hr.mono h)⟩
theorem FnOk.imp {P : Program} {w : World} {K : PySem.W.Frag} {mg : Str → Option Value} {base : Heap} {CX : CXT} {k : Nat} {f : Addr} {fd : FuncData} {ps : List Str} {sp sp' : Sp} (F : FnOk P w K mg base CX k f fd ps sp)
  (h : ∀ vs H Q E, sp' vs H Q E → sp vs H Q E) : FnOk P w K mg base CX k f fd ps sp' :=
 ⟨fun vs H Q E q => F.len vs H Q E (h _ _ _ _ q), fun A outer s H args us vs Q E hr he hb hv hs => F.run A outer s H args us vs Q E hr he hb hv (h _ _ _ _ hs)⟩
theorem Env0.make {P : Program} {w : World} {K : PySem.W.Frag} {mg : Str → Option Value} {base : Heap} {A : Around} {outer : List Env} {s : Shared} {H : Hp} (e : Env0 P w K mg base A outer s H) (C : Addr) (us : List Value) (kw : List (Str × Value)) :
  Env0 P w K mg base (A.under (.builtin "type.__call__" ⟨.ref C :: us, kw⟩)) outer s H := ⟨by first | exact e.frames | (simpa [Around.under, Code.envs, Code.isFrame, pushEnvs] using e.frames), e.mod, e.bs, e.bsz, e.funs, e.frf, e.hok, e.bare⟩
theorem Env0.in1 {P : Program} {w : World} {K : PySem.W.Frag} {mg : Str → Option Value} {base : Heap} {A : Around} {outer : List Env} {s : Shared} {H : Hp} (e : Env0 P w K mg base A outer s H) :
  Env0 P w K mg base A.in1 outer s H := ⟨e.frames, e.mod, e.bs, e.bsz, e.funs, e.frf, e.hok, e.bare⟩
section
variable {X : Cx} {pins : List (Addr × Obj)} {σ : St} {H : Hp} {s s' : Shared}
theorem Inv.env0 (I : Inv X pins σ H s) : Env0 X.prog X.w X.K X.mg X.base X.A X.stack s H :=
 ⟨I.ok.frames, I.ok.mod, I.bs, Nat.le_trans I.ok.bsz I.sz, I.stack, I.stkFree, I.hok, I.bare⟩
theorem Inv.after {Q : VK} {u : Value} (I : Inv X pins σ H s) (h : CE X.stack X.prog X.w H s Q u s') : EP X pins σ Q u s' := by
 obtain ⟨v, H', os, bare, un, hok, r, q⟩ := h
 obtain ⟨hh, g, d, t, os'⟩ := s'
 obtain rfl : os' = s.os := os
 exact ⟨v, H', I.call (h' := hh) (g' := g) (d' := d) (t' := t) (ch := []) un hok bare (fun b z => absurd z (by simp)), r, q⟩
end
def Binds (K : PySem.W.Frag) (fd : FuncData) (ps : List Str) (ds : List Value) : Prop :=
 ∀ (s : Shared) (us : List Value), K.In s.heap → (us ++ ds).length = ps.length → BindsTo s fd ⟨us, []⟩ (ps.zip (us ++ ds))
theorem Binds.all {K : PySem.W.Frag} {fd : FuncData} {ps : List Str} (h : ∀ us : List Value, us.length = ps.length → bindArgs fd ⟨us, []⟩ = pure (ps.zip us)) : Binds K fd ps [] := fun s us _ hl => by
 rw [List.append_nil] at hl ⊢
 exact .of_eq (h us hl)
def ZU (CX : CXT) (X : Cx) (E : XK) : Prop := ∀ (pins : List (Addr × Obj)) (σ : St) (H : Hp) (s : Shared) (e : Value) (s' : Shared), Inv X pins σ H s → CX X.stack H s E e s' → X.xe e s'
section
variable {X : Cx} {CX : CXT} {k : Nat} {f C : Addr} {fd : FuncData} {ps : List Str} {sp : Sp} {dvs : List V} {ds : List Value} {E : XK} {x m : Str} {p pos apos : Pos} {e o : Expr} {es : List Expr} {ta : TE} {t : TA}
theorem Qy {pins : List (Addr × Obj)} {σ : St} {H : Hp} {s : Shared} {Q : VK} {us : List Value} {vs : List V} (F : FnOk X.prog X.w X.K X.mg X.base CX k f fd ps sp) (hr : Room k X.A) (hb : Binds X.K fd ps ds) (hd : Vals dvs ds) (hx : ZU CX X E)
  (I : Inv X pins σ H s) (r : Vals vs us) (h : sp (vs ++ dvs) H Q E) : wpAny (model X.prog X.w) X.A (call (.ref f) us) (EP X pins σ Q) X.xe s := by
 have r2 : Vals (vs ++ dvs) (us ++ ds) := r.append hd
 have hl : (us ++ ds).length = ps.length := by rw [← r2.length]; exact F.len _ _ _ _ h
 refine wpAny_call (codeAny_mono (F.run X.A X.stack s H ⟨us, []⟩ (us ++ ds) (vs ++ dvs) Q E hr I.env0 (hb s us I.kIn hl) r2 h) fun r s' hq => ?_)
 cases r with
 | error e => exact hx pins σ H s e s' I hq
 | ok fl =>
  cases fl with
  | ret u => exact I.after hq
  | next => exact False.elim hq
  | brk => exact False.elim hq
  | cont => exact False.elim hq
structure Mk (K : PySem.W.Frag) (C f : Addr) : Prop where
 makes : PySem.W.makesIn K C = true
 init : PySem.W.findIn K (.ref C) "__init__" = some (some (.ref f))
 fn : PySem.W.isFn K (.ref f) = true
 kp : PySem.W.keepIn K (.ref C) = true
theorem run_make {pins : List (Addr × Obj)} {σ : St} {H : Hp} {s : Shared} {Q : VK} {us : List Value} {vs : List V} (M : Mk X.K C f) (F : FnOk X.prog X.w X.K X.mg X.base CX k f fd ps sp) (hr : Room (k + 1) X.A) (hb : Binds X.K fd ps ds) (hd : Vals dvs ds)
  (hx : ZU CX X E) (I : Inv X pins σ H s) (r : Vals vs us)
  (h : ∀ x dx, H x = none → H dx = none → dx ≠ x → sp (.ref x :: (vs ++ dvs)) (upd (upd H dx (.own x)) x (.ins C dx [])) (fun v H2 => v = .non ∧ Q (.ref x) H2) E) :
  wpAny (model X.prog X.w) X.A (call (.ref C) us) (EP X pins σ Q) X.xe s := by
 have hq := h (s.heap.objs.size + 1) s.heap.objs.size (I.hok.fresh (Nat.le_succ _)) (I.hok.fresh (Nat.le_refl _)) (Nat.ne_of_lt (Nat.lt_succ_self _))
 have I2 := Inv.made (C := C) I
 have r2 : Vals (V.ref (s.heap.objs.size + 1) :: (vs ++ dvs)) (Value.ref (s.heap.objs.size + 1) :: (us ++ ds)) := .cons rfl (r.append hd)
 have hl : (Value.ref (s.heap.objs.size + 1) :: us ++ ds).length = ps.length := by
  have e := r2.length
  rw [F.len _ _ _ _ hq] at e
  exact e.symm
 refine wpAny_call (Zw (f := f) I.kIn M.makes M.init (beq_iff_eq.mp M.fn) (codeAny_mono (F.run _ X.stack _ _ ⟨Value.ref (s.heap.objs.size + 1) :: us, []⟩ (Value.ref (s.heap.objs.size + 1) :: (us ++ ds)) _ _ E (hr.make C us [])
  (I2.env0.make C us []) (hb _ (Value.ref (s.heap.objs.size + 1) :: us) I2.kIn hl) r2 hq) fun r s' hq' => ?_))
 cases r with
 | error e => exact hx pins σ _ _ e s' I2 hq'
 | ok fl =>
  cases fl with
  | ret u =>
   obtain ⟨v, H', I3, rv, ev, q3⟩ := I2.after hq'
   subst ev
   exact ⟨rv, ⟨V.ref (s.heap.objs.size + 1), H', I3, rfl, q3⟩⟩
  | next => exact False.elim hq'
  | brk => exact False.elim hq'
  | cont => exact False.elim hq'
end
def PK (X : Cx) (kws : List Keyword) (t : TA) : Prop :=
 ∀ (pos : Pos) (pins : List (Addr × Obj)) (s : Shared) (σ : St) (H : Hp) (Q : List V → Hp → Prop), Inv X pins σ H s → t σ H Q → wpAny (model X.prog X.w) X.A (evalAll ((backToKw pos (keywordEach kws X.env)).map (·.2))) (AP X pins σ Q) X.xe s
section
variable {X : Cx} {CX : CXT} {k : Nat} {f C : Addr} {fd : FuncData} {ps ks : List Str} {sp : Sp} {E : XK} {x m : Str} {p pos apos kpos : Pos} {e o : Expr} {es : List Expr} {kws : List Keyword} {te ta : TE} {t tk : TA} {nm : Option Str}
variable {g : List Value → List Value → List Value} {gV : List V → List V → List V}
end
structure FnScope (N P : List Str) (sc : Scope) : Prop where
 kind : sc.kind = .function
 co : sc.isCoroutine = false
 gen : sc.isGenerator = false
 nd : N.Nodup
 pre : N.take P.length = P
 par : ∀ x ∈ P, sc.names.lookup x = some .local ∨ sc.names.lookup x = some .cell
 nofree : ∀ y ∈ sc.names, y.2 ≠ .free
theorem vF {kindOf : Str → Option NameKind} {x : Str} : ∀ {binds : List (Str × Value)} {m : Str → Option Value}, (∀ v, (x, v) ∉ binds) → bindL kindOf binds m x = m x
 | [], _, _ => rfl
 | (n, v) :: r, m, h => by
  unfold bindL
  rw [vF fun w hw => h w (List.mem_cons_of_mem _ hw)]
  split
  ·have : x ≠ n := by rintro rfl; exact h v List.mem_cons_self
   simp [this]
  ·rfl
theorem vH {kindOf : Str → Option NameKind} {x : Str} : ∀ {binds : List (Str × Value)} {m : Str → Option Value}, (∀ v, (x, v) ∉ binds) → bindC kindOf binds m x = m x
 | [], _, _ => rfl
 | (n, v) :: r, m, h => by
  unfold bindC
  rw [vH fun w hw => h w (List.mem_cons_of_mem _ hw)]
  split
  ·rfl
  ·have : x ≠ n := by rintro rfl; exact h v List.mem_cons_self
   simp [this]
theorem vG {kindOf : Str → Option NameKind} {x : Str} {v : Value} : ∀ {P : List Str} {vs : List Value} {i : Nat} {m : Str → Option Value}, P.Nodup → P[i]? = some x → vs[i]? = some v → kindOf x = some .local →
  bindL kindOf (P.zip vs) m x = some v
 | [], _, _, _, _, h, _, _ => by simp at h
 | _ :: _, [], _, _, _, _, h, _ => by simp at h
 | p :: P, w :: vs, 0, m, nd, h1, h2, hk => by
  simp at h1 h2; subst h1; subst h2
  show bindL kindOf ((p, w) :: P.zip vs) m p = _
  unfold bindL
  rw [vF fun v hv => (List.nodup_cons.mp nd).1 (List.of_mem_zip hv).1, if_pos hk]
  simp
 | p :: P, w :: vs, i + 1, m, nd, h1, h2, hk => by
  show bindL kindOf ((p, w) :: P.zip vs) m x = _
  unfold bindL
  exact vG (i := i) (List.nodup_cons.mp nd).2 (by simpa using h1) (by simpa using h2) hk
theorem vI {kindOf : Str → Option NameKind} {x : Str} {v : Value} : ∀ {P : List Str} {vs : List Value} {i : Nat} {m : Str → Option Value}, P.Nodup → P[i]? = some x → vs[i]? = some v → kindOf x ≠ some .local →
  bindC kindOf (P.zip vs) m x = some v
 | [], _, _, _, _, h, _, _ => by simp at h
 | _ :: _, [], _, _, _, _, h, _ => by simp at h
 | p :: P, w :: vs, 0, m, nd, h1, h2, hk => by
  simp at h1 h2; subst h1; subst h2
  show bindC kindOf ((p, w) :: P.zip vs) m p = _
  unfold bindC
  rw [vH fun v hv => (List.nodup_cons.mp nd).1 (List.of_mem_zip hv).1, if_neg hk]
  simp
 | p :: P, w :: vs, i + 1, m, nd, h1, h2, hk => by
  show bindC kindOf ((p, w) :: P.zip vs) m x = _
  unfold bindC
  exact vI (i := i) (List.nodup_cons.mp nd).2 (by simpa using h1) (by simpa using h2) hk
def start (N : List Str) (vs : List V) : St := vs.map some ++ List.replicate (N.length - vs.length) none
def cxOf (CX : CXT) (P : Program) (w : World) (K : PySem.W.Frag) (mg : Str → Option Value) (base : Heap) (N : List Str) (qual : Str) (scope : Scope) (f : Addr) (cd : Value) (A : Around) (outer : List Env) (s : Shared) (H : Hp) (E : XK) : Cx where
 prog := P
 w := w
 K := K
 mg := mg
 base := base
 A := A.deeper (envOfC qual scope s.heap.objs.size f cd)
 N := N
 s₀ := s
 H₀ := H
 env := envOfC qual scope s.heap.objs.size f cd
 outer := outer
 stack := envOfC qual scope s.heap.objs.size f cd :: outer
 ex := []
 calm := true
 fn := fun _ => true
 pn := []
 xe := fun e s' => wpAny (model P w) (A.deeper (envOfC qual scope s.heap.objs.size f cd)) (leaving (envOfC qual scope s.heap.objs.size f cd) e) (fun _ s'' => CX outer H s E e s'') (fun e' s'' => CX outer H s E e' s'') s'
theorem ZJ {sc : Scope} {n : Nat} {x : Str} (h : sc.names.lookup x = some .cell) : ∃ c, (cellsFrom n sc.names []).lookup x = some c := by
 have q := PySem.W.cellsFrom_some sc.names n [] (.inl h)
 exact Option.isSome_iff_exists.mp q
theorem inv_start {CX : CXT} {P : Program} {w : World} {K : PySem.W.Frag} {mg : Str → Option Value} {base : Heap} {N ps : List Str} {qual : Str} {scope : Scope} {f : Addr} {cd : Value} {A : Around} {outer : List Env} {s s1 : Shared} {H : Hp} {E : XK} {us : List Value} {vs : List V}
  (S : FnScope N ps scope) (hd : A.handled = none) (e0 : Env0 P w K mg base A outer s H) (hl : vs.length = ps.length) (r : Vals vs us)
  (x : InCallC s s.heap.objs.size (bindL (envOfC qual scope s.heap.objs.size f cd).kindOf (ps.zip us) fun _ => none) (cellsFrom (s.heap.objs.size + 1) scope.names []) (bindC (envOfC qual scope s.heap.objs.size f cd).kindOf (ps.zip us) fun _ => none) s1) :
  Inv (cxOf CX P w K mg base N qual scope f cd A outer s H E) [] (start N vs) H s1 := by
 have hpl : ps.length ≤ N.length := by have := congrArg List.length S.pre; rw [List.length_take] at this; omega
 obtain ⟨h1, tk, rfl, hk⟩ := x.done
 have noA : ∀ b : Addr, b ∉ (cxOf CX P w K mg base N qual scope f cd A outer s H E).ex := fun b z => absurd (show b ∈ ([] : List Addr) from z) (by simp)
 refine ⟨⟨e0.mod, S.kind, rfl, rfl, Nat.le_refl _, fun y z c h1 h2 => ?_, fun y hy => ?_, fun y c _ h => ?_, fun _ => hd, Around.frames_deeper e0.frames, .inr ⟨rfl, rfl⟩, fun b z => absurd z (noA b), e0.bs, e0.bsz, fun b _ _ => noA b, fun b z => absurd z (noA b), e0.funs, e0.frf⟩,
  rfl, e0.bare, Un.kept hk, ⟨_, x.toInCall.ns, fun i y v h1 h2 h3 => ?_⟩, fun y c h => ⟨_, x.cell y c h⟩, e0.hok.fresh (Nat.le_refl _), fun y c h => ?_, fun p hp => absurd (show p ∈ ([] : List (Addr × Obj)) from hp) (by simp), e0.hok.kept hk, ?_⟩
 ·exact name_of_addr x.apart (PySem.mem_of_lookup h1) (PySem.mem_of_lookup h2)
 ·have hy : scope.names.lookup y = some .cell ∨ scope.names.lookup y = some .free := hy
  rcases hy with hy | hy
  ·exact ZJ hy
  ·exact absurd rfl (S.nofree _ (PySem.mem_of_lookup hy))
 ·exact Nat.le_of_lt (x.above y c (PySem.mem_of_lookup h))
 ·have hi : i < vs.length := by
   unfold start at h2
   by_cases hi : i < vs.length
   ·exact hi
   ·rw [List.getElem?_append_right (by simpa using hi)] at h2
    rw [List.getElem?_replicate] at h2
    split at h2 <;> cases h2
  have ha : vs[i]? = some v := by
   unfold start at h2
   rw [List.getElem?_append_left (by simpa using hi), List.getElem?_map] at h2
   cases e : vs[i]? with
   | none => rw [e] at h2; cases h2
   | some a => rw [e] at h2; cases h2; rfl
  obtain ⟨u, hu, rv⟩ := r.get ha
  have hp : ps[i]? = some y := by
   rw [← S.pre, List.getElem?_take_of_lt (by omega)]; exact h1
  have ndP : ps.Nodup := by rw [← S.pre]; exact S.nd.sublist (List.take_sublist _ _)
  refine ⟨u, rv, ?_⟩
  rcases S.par y (List.mem_of_getElem? hp) with k | k
  ·exact .inl ⟨k, vG ndP hp hu k⟩
  ·obtain ⟨c, e⟩ := ZJ (n := s.heap.objs.size + 1) k
   refine .inr ⟨.inl k, c, e, ?_⟩
   have q := x.cell y c e
   rw [vI ndP hp hu (by show scope.names.lookup y ≠ _; rw [k]; decide)] at q
   exact q
 ·exact e0.hok.fresh (Nat.le_of_lt (x.above y c (PySem.mem_of_lookup h)))
 ·unfold start
  show _ = N.length
  rw [List.length_append, List.length_map, List.length_replicate]
  omega
theorem QP {CX : CXT} {P : Program} {w : World} {K : PySem.W.Frag} {mg : Str → Option Value} {base : Heap} {k : Nat} {f : Addr} {name qual : Str} {params : Arguments} {body : List Stmt} {scope : Scope} {dV kV doc pm cdv ct oc : Value} {an od : Option Addr}
  {osl : Array (Option Value)} {N ps : List Str} {sp : Sp} (lk : K.lookup f = some ⟨oc, od, .func (PySem.W.fnOf name qual params body scope dV kV doc pm an cdv ct), osl⟩) (hcd : PySem.W.codeIn K cdv qual = true) (S : FnScope N ps scope)
  (len : ∀ vs H Q E, sp vs H Q E → vs.length = ps.length)
  (hbody : ∀ (A : Around) (outer : List Env) (s : Shared) (H : Hp) (vs : List V) (Q : VK) (E : XK), Room k (A.deeper (envOfC qual scope s.heap.objs.size f cdv)) → sp vs H Q E →
   ∃ t, PSs (cxOf CX P w K mg base N qual scope f cdv A outer s H E) body t ∧ t { nx := fun _ H' => Q .non H', rt := Q } (start N vs) H) :
  FnOk P w K mg base CX (k + 1) f (PySem.W.fnOf name qual params body scope dV kV doc pm an cdv ct) ps sp := by
 refine ⟨len, fun A outer s H args us vs Q E hr e0 hb r hsp => ?_⟩
 have hl := len _ _ _ _ hsp
 have KX : K.In s.heap := e0.mod.kin.keeps fun b o e => (e0.bs b o e).1
 have lim : s.heap.NoLimit := e0.mod.nolimit.keeps fun b o e => (e0.bs b o e).1
 have hkind : ∀ y ∈ ps.zip us, scope.names.lookup y.1 = some .local ∨ (scope.names.lookup y.1 = some .cell ∧ ((cellsFrom (s.heap.objs.size + 1) scope.names []).lookup y.1).isSome = true) := fun ⟨n, v⟩ hy => by
  rcases S.par n (List.of_mem_zip hy).1 with q | q
  ·exact .inl q
  ·exact .inr ⟨q, PySem.W.cellsFrom_some _ _ _ (.inl q)⟩
 refine codeAny_call_function hr.depth (KX _ _ lk) rfl S.co S.gen rfl (PySem.W.codeRec_of KX hcd) (hb _ _ _ _ ?_)
 refine wpAny_newFunctionEnv_cells S.kind hkind fun env he s1 x => ?_
 subst he
 refine ⟨lim.keeps x.toInCall.keep, codeAny_func ?_⟩
 obtain ⟨t, ht, hq⟩ := hbody A outer s H vs Q E (hr.deeper _) hsp
 have I : Inv (cxOf CX P w K mg base N qual scope f cdv A outer s H E) [] (start N vs) H s1 := inv_start S hr.hd e0 hl r x
 refine wpAny_mono (ht [] s1 (start N vs) H _ I hq) (fun fl s' hs => ?_) fun e s' hs => hs
 have fin : ∀ {σ' : St} {H' : Hp} {v : V} {u : Value}, Inv (cxOf CX P w K mg base N qual scope f cdv A outer s H E) [] σ' H' s' → RelV v u → Q v H' → CE outer P w H s Q u s' :=
  fun {σ' H' v u} J rv q => ⟨v, H', J.os, J.bare, J.base, J.hok, rv, q⟩
 cases fl with
 | ret u =>
  obtain ⟨v, σ', H', J, rv, q⟩ := hs
  exact fin J rv q
 | next =>
  obtain ⟨σ', H', J, q⟩ := hs
  exact fin (v := V.non) (u := Value.none) J rfl q
 | brk =>
  obtain ⟨_, _, _, q⟩ := hs
  exact False.elim q
 | cont =>
  obtain ⟨_, _, _, q⟩ := hs
  exact False.elim q
end L2
namespace L2
open PySem PySem.Spec PyProof.Rows
section
variable {X : Cx} {x : Str} {p pos : Pos} {e : Expr} {es : List Expr} {t : TA} {id T : String} {r : List V → Hp → VK → Prop}
def tCB (r : List V → Hp → VK → Prop) (t : TA) : TE := fun σ H Q => t σ H fun vs H1 => r vs H1 Q
theorem pe_callB (hc : CallR X (.builtin id) r) (hg : Gl X x) (hm : X.mg x = none) (hv : bootBuiltins x = some (.builtin id)) (ha : PA X (e :: es) t) (hn : x ≠ "__name__" := by decide) (hdb : (x == ("__debug__" : Str)) = false := by decide)
  (he : starEach (e :: es) X.env = (false, eval e X.env) :: starEach es X.env := by rfl) (hpl : (backTo pos (starEach es X.env)).any (·.1) = false := by rfl) : PE X (.Call (.Name x p) (e :: es) [] pos) (tCB r t) := by
 intro pins s σ H Q I h
 refine wpAny_Call_Name_kw (jP I hg hm hv ?_ hn hdb)
 exact PyProof.Rows.callWith_builtin1 (thn (ha pos pins s σ H _ I h) fun us s1 ⟨vs, H1, I1, r1, q1⟩ => hc pins s1 σ H1 vs us Q I1 r1 q1) he hpl
theorem pe_callTy (hc : CallR X (.type T) r) (hg : Gl X x) (hm : X.mg x = none) (hv : bootBuiltins x = some (.type T)) (ha : PA X (e :: es) t) (hn : x ≠ "__name__" := by decide) (hdb : (x == ("__debug__" : Str)) = false := by decide)
  (he : starEach (e :: es) X.env = (false, eval e X.env) :: starEach es X.env := by rfl) (hpl : (backTo pos (starEach es X.env)).any (·.1) = false := by rfl) : PE X (.Call (.Name x p) (e :: es) [] pos) (tCB r t) := by
 intro pins s σ H Q I h
 refine wpAny_Call_Name_kw (jP I hg hm hv ?_ hn hdb)
 exact PyProof.Rows.callWith_type1 (thn (ha pos pins s σ H _ I h) fun us s1 ⟨vs, H1, I1, r1, q1⟩ => hc pins s1 σ H1 vs us Q I1 r1 q1) he hpl
end
end L2
namespace HT
open PySem PyProof.Rows
section
open PySem.SeqAt
open PySem.AutoSeq1 (wpAny_loadPart')
open PySem.MeetsSeq PySem.MeetsSeq2 PySem.MeetsSeq3
end
section
variable {prog : Program} {w : World} {A : Around} {E : Value → Shared → Prop} {s : Shared}
def sIx (n d : Nat) : Option Int → Nat
 | none => d
 | some v => if v < 0 then (v + (n : Int)).toNat else min v.toNat n
theorem sIx_nat (n d k : Nat) : sIx n d (some (k : Int)) = min k n := by
 show (if (k : Int) < 0 then ((k : Int) + (n : Int)).toNat else min (k : Int).toNat n) = min k n
 rw [if_neg (by omega), Int.toNat_natCast]
end
end HT
namespace L2
open PySem PySem.Spec PyProof.Rows
abbrev TO := St → Hp → (Option Int → Hp → Prop) → Prop
def PO (X : Cx) (e : Option Expr) (t : TO) : Prop :=
 ∀ (pins : List (Addr × Obj)) (s : Shared) (σ : St) (H : Hp) (Q : Option Int → Hp → Prop), Inv X pins σ H s → t σ H Q →
  wpAny (model X.prog X.w) X.A (evalPart e X.env) (fun u s' => ∃ o H', Inv X pins σ H' s' ∧ IsPart u o ∧ Q o H') X.xe s
def tNoPart : TO := fun _ H Q => Q none H
def tPart (t : TE) : TO := fun σ H Q => t σ H fun x H1 => ∃ i, x = .int i ∧ Q (some i) H1
theorem intsAre_of {ns : List Int} : ∀ {us : List Value}, Vals (ns.map V.int) us → IntsAre us ns := by
 induction ns with
 | nil => intro us r; rw [List.map_nil] at r; cases r; exact .nil
 | cons n ns ih =>
  intro us r
  rw [List.map_cons] at r
  cases r with
  | cons r1 r2 =>
   obtain ⟨t, e⟩ := r1
   subst e
   exact .cons n t (ih r2)
section
variable {X : Cx} {e : Expr} {te : TE} {lo hi : Option Expr} {tl th : TO} {pos p2 : Pos}
theorem Z1 (h : PE X e te) : PO X (some e) (tPart te) := by
 intro pins s σ H Q I hw
 rw [evalPart_some]
 refine thn (h pins s σ H _ I hw) fun u s1 ⟨x, H1, I1, r1, q1⟩ => ?_
 obtain ⟨i, rfl, q⟩ := q1
 obtain ⟨t, rfl⟩ := r1
 exact ⟨some i, H1, I1, .int i t, q⟩
def SlR (X : Cx) (r : V → Option Int → Option Int → Hp → VK → Prop) : Prop :=
 ∀ (pins : List (Addr × Obj)) (s : Shared) (σ : St) (H : Hp) (x : V) (v vl vu : Value) (lo hi : Option Int) (sl : Addr) (Q : VK), Inv X pins σ H s → RelV x v → s.heap.IsSliceOf sl vl vu .none → IsPart vl lo → IsPart vu hi → r x lo hi H Q →
  ∃ T id, typeLookup (.type T) "__getitem__" = pure (some (.builtin id)) ∧ s.TypeIs v T ∧ wpAny (model X.prog X.w) X.A (getItem v (.ref sl)) (EP X pins σ Q) X.xe s
theorem SlR.or {r r' : V → Option Int → Option Int → Hp → VK → Prop} (h : SlR X r) (h' : SlR X r') : SlR X (fun x lo hi H Q => r x lo hi H Q ∨ r' x lo hi H Q) := by
 intro pins s σ H x v vl vu lo hi sl Q I rx hs pl pu q
 rcases q with q | q
 ·exact h pins s σ H x v vl vu lo hi sl Q I rx hs pl pu q
 ·exact h' pins s σ H x v vl vu lo hi sl Q I rx hs pl pu q
def tSl (r : V → Option Int → Option Int → Hp → VK → Prop) (te : TE) (tl th : TO) : TE := fun σ H Q => te σ H fun x H1 => tl σ H1 fun l H2 => th σ H2 fun u H3 => r x l u H3 Q
theorem pe_slice {r : V → Option Int → Option Int → Hp → VK → Prop} (hr : SlR X r) (he : PE X e te) (hl : PO X lo tl) (hu : PO X hi th) : PE X (.Subscript e (.Slice lo hi none p2) pos) (tSl r te tl th) := by
 intro pins s σ H Q I h
 refine Subscript_ (thn (he pins s σ H _ I h) fun v s1 ⟨x, H1, I1, r1, q1⟩ => ?_)
 refine wpAny_Slice (thn (hl pins s1 σ H1 _ I1 q1) fun vl s2 ⟨l, H2, I2, pl, q2⟩ => thn (hu pins s2 σ H2 _ I2 q2) fun vu s3 ⟨u, H3, I3, pu, q3⟩ => ?_)
 rw [evalPart_none]
 refine wpAny_pure ?_
 have I4 : Inv X pins σ H3 { s3 with heap := s3.heap.push { cls := .type "slice", data := .fields #[vl, vu, .none] } } := I3.kept (t' := s3.toks) fun b ob q => Heap.get?_push_of_some _ q
 obtain ⟨T, id, hT, ht, hg⟩ := hr pins { s3 with heap := s3.heap.push { cls := .type "slice", data := .fields #[vl, vu, .none] } } σ H3 x v vl vu l u s3.heap.objs.size Q I4 r1 (Heap.IsSliceOf.new ..) pl pu q3
 show wpAny (model X.prog X.w) X.A (subscriptTail e (.Slice lo hi none p2) v (.ref s3.heap.objs.size)) (EP X pins σ Q) X.xe { s3 with heap := s3.heap.push { cls := .type "slice", data := .fields #[vl, vu, .none] } }
 exact tail_any (ops := [.ref s3.heap.objs.size, v]) ht hT hg (by with_unfolding_all rfl)
def cutV (xs : List V) (lo hi : Option Int) : List V := (xs.drop (HT.sIx xs.length 0 lo)).take (HT.sIx xs.length xs.length hi - HT.sIx xs.length 0 lo)
theorem cutV_length (xs : List V) (lo hi : Option Int) : (cutV xs lo hi).length ≤ xs.length := by
 unfold cutV
 rw [List.length_take, List.length_drop]
 omega
end
end L2
namespace L2
open PySem PySem.Spec PyProof.Rows
def ixN (n : Nat) (i : Int) : Option Nat := if 0 ≤ i then (if i < n then some i.toNat else none) else if -(n : Int) ≤ i then some (i + n).toNat else none
def atI {α : Type} (xs : List α) (i : Int) : Option α := (ixN xs.length i).bind fun j => xs[j]?
theorem Qa {n : Nat} {i : Int} {j : Nat} (h : ixN n i = some j) : seqIndex? i n = some j ∧ j < n ∧ -(n : Int) ≤ i ∧ i < n := by
 unfold ixN at h
 by_cases h0 : 0 ≤ i
 ·rw [if_pos h0] at h
  by_cases h1 : i < n
  ·rw [if_pos h1] at h
   have e : i.toNat = j := Option.some.inj h
   exact ⟨by rw [seqIndex_of h0 h1, e], by omega, by omega, h1⟩
  ·rw [if_neg h1] at h; cases h
 ·rw [if_neg h0] at h
  by_cases h1 : -(n : Int) ≤ i
  ·rw [if_pos h1] at h
   have e : (i + n).toNat = j := Option.some.inj h
   exact ⟨by rw [seqIndex_neg (by omega) h1, e], by omega, h1, by omega⟩
  ·rw [if_neg h1] at h; cases h
theorem wo {α : Type} {xs : List α} {i : Int} {v : α} (h : atI xs i = some v) : ∃ j, seqIndex? i xs.length = some j ∧ xs[j]? = some v ∧ j < xs.length ∧ -(xs.length : Int) ≤ i ∧ i < xs.length := by
 unfold atI at h
 cases e : ixN xs.length i with
 | none => rw [e] at h; cases h
 | some j =>
  rw [e] at h
  obtain ⟨h1, h2, h3, h4⟩ := Qa e
  exact ⟨j, h1, h, h2, h3, h4⟩
theorem zr {α : Type} {xs : List α} {j : Nat} {v : α} (h : xs[j]? = some v) : atI xs (j : Int) = some v := by
 have hj : j < xs.length := (List.getElem?_eq_some_iff.mp h).1
 have e : ixN xs.length (j : Int) = some j := by
  unfold ixN
  rw [if_pos (by omega), if_pos (by omega)]; simp
 unfold atI; rw [e]; exact h
def Qt (b : Expr) : Prop := ∀ o i, subscripted b false o i = operate [o, i] (getItem o i)
def IxR (X : Cx) (r : R2) : Prop :=
 ∀ (value slice : Expr) (pins : List (Addr × Obj)) (s : Shared) (σ : St) (H : Hp) (x y : V) (v u : Value) (Q : VK), Inv X pins σ H s → RelV x v → RelV y u → r x y H Q →
  subscripted slice false v u = operate [v, u] (getItem v u) → wpAny (model X.prog X.w) X.A (subscriptTail value slice v u) (EP X pins σ Q) X.xe s
def MtR (X : Cx) (id : String) (r : V → List V → Hp → VK → Prop) : Prop :=
 ∀ (pins : List (Addr × Obj)) (s : Shared) (σ : St) (H : Hp) (x : V) (xs : List V) (v : Value) (us : List Value) (Q : VK), Inv X pins σ H s → RelV x v → Vals xs us → r x xs H Q →
  wpAny (model X.prog X.w) X.A (call (.builtin id) (v :: us)) (EP X pins σ Q) X.xe s
section
variable {X : Cx} {a b : Expr} {ta tb : TE} {pos : Pos}
theorem IxR.or {r r' : R2} (h : IxR X r) (h' : IxR X r') : IxR X (fun x y H Q => r x y H Q ∨ r' x y H Q) := by
 intro value slice pins s σ H x y v u Q I rx ry q hs
 rcases q with q | q
 ·exact h value slice pins s σ H x y v u Q I rx ry q hs
 ·exact h' value slice pins s σ H x y v u Q I rx ry q hs
theorem MtR.or {id : String} {r r' : V → List V → Hp → VK → Prop} (h : MtR X id r) (h' : MtR X id r') : MtR X id (fun x xs H Q => r x xs H Q ∨ r' x xs H Q) := by
 intro pins s σ H x xs v us Q I rx rs q
 rcases q with q | q
 ·exact h pins s σ H x xs v us Q I rx rs q
 ·exact h' pins s σ H x xs v us Q I rx rs q
theorem pe_ix {r : R2} (hr : IxR X r) (ha : PE X a ta) (hb : PE X b tb) (hs : Qt b) : PE X (.Subscript a b pos) (tOp r ta tb) := by
 intro pins s σ H Q I h
 exact Subscript_ (binT ha hb I h fun v u s2 x y H2 I2 rx ry q => hr a b pins s2 σ H2 x y v u Q I2 rx ry q (hs _ _))
def rIxL (K : PySem.W.Frag) : R2 := fun x y H Q => ∃ p xs i v, x = .ref p ∧ y = .int i ∧ SqL K H p xs ∧ atI xs i = some v ∧ Q v H
def rIxT (K : PySem.W.Frag) : R2 := fun x y H Q => ∃ p xs i v, x = .ref p ∧ y = .int i ∧ SqT K H p xs ∧ atI xs i = some v ∧ Q v H
def rIxS : R2 := fun x y H Q => ∃ z i c, x = .str z ∧ y = .int i ∧ z.length ≤ sizeLine ∧ atI z.cps.toList i = some c ∧ Q (.str ⟨#[c]⟩) H
theorem ix_list : IxR X (rIxL X.K) := by
 intro value slice pins s σ H x y v u Q I rx ry h hs
 obtain ⟨p, xs, i, z, rfl, rfl, hq, he, q⟩ := h
 cases rx
 obtain ⟨t, rfl⟩ := ry
 obtain ⟨its, r, pl, hz⟩ := I.list hq
 obtain ⟨j, h1, h2, h3, h4, h5⟩ := wo he
 obtain ⟨w, ew, rw'⟩ := r.get h2
 have hl := r.length
 have hn := j7
 have fin : EP X pins σ Q w s := ⟨z, H, I, rw', q⟩
 by_cases h0 : 0 ≤ i
 ·have hj : i.toNat = j := by
   rw [seqIndex_of h0 h5] at h1
   exact Option.some.inj h1
  exact item_listR pl.isList h0 (by omega) (by rw [hj]; simpa using ew) fin hs
 ·have hj : (i + (its.toArray.size : Int)).toNat = j := by
   rw [seqIndex_neg (by omega) h4] at h1
   rw [List.size_toArray, ← hl]
   exact Option.some.inj h1
  exact subscriptTail_builtinR (x := w) pl.isList.typeIs slot_list_getitem.lookup
   (wpAny_getItem_list_neg (Q := fun r s' => r = w ∧ EP X pins σ Q r s') pl.isList (by omega) (by rw [List.size_toArray] <;> omega) (by omega) (by rw [hj]; simpa using ew) ⟨rfl, fin⟩) hs
theorem ix_tup : IxR X (rIxT X.K) := by
 intro value slice pins s σ H x y v u Q I rx ry h hs
 obtain ⟨p, xs, i, z, rfl, rfl, hq, he, q⟩ := h
 cases rx
 obtain ⟨t, rfl⟩ := ry
 obtain ⟨its, r, pl, hz⟩ := I.tuple hq
 obtain ⟨j, h1, h2, h3, h4, h5⟩ := wo he
 obtain ⟨w, ew, rw'⟩ := r.get h2
 have hl := r.length
 have hn := j7
 have fin : EP X pins σ Q w s := ⟨z, H, I, rw', q⟩
 exact subscriptTail_builtinR (x := w) pl.typeIs slot_tuple_getitem.lookup
  (getItem_tuple (j := j) (Q := fun r s' => r = w ∧ EP X pins σ Q r s') pl (by omega) (by omega) (by rw [List.size_toArray, ← hl]; exact h1) (by simpa using ew) ⟨rfl, fin⟩) hs
theorem ix_str : IxR X rIxS := by
 intro value slice pins s σ H x y v u Q I rx ry h hs
 obtain ⟨z, i, c, rfl, rfl, hz, he, q⟩ := h
 obtain ⟨t, rfl⟩ := rx
 obtain ⟨t', rfl⟩ := ry
 obtain ⟨j, h1, h2, h3, h4, h5⟩ := wo he
 have hl : z.cps.toList.length = z.length := by simp [Str.length]
 rw [hl] at h1 h4 h5
 have hn := j7
 exact tail_any (typeIs_str s z t) slot_str_getitem.lookup (getItem_str (c := c) (by
  have e1 : decide (i < -(2 ^ 63 : Int)) = false := decide_eq_false (by omega)
  have e2 : decide (i ≥ 2 ^ 63) = false := decide_eq_false (by omega)
  rw [e1, e2, Bool.or_false]) (by rw [h1]; simpa using h2) ⟨.str ⟨#[c]⟩, H, I.tok _, ⟨_, rfl⟩, q⟩) hs
def rIx (K : PySem.W.Frag) : R2 := fun x y H Q => rIxL K x y H Q ∨ rIxT K x y H Q ∨ rIxS x y H Q
theorem ix_seq : IxR X (rIx X.K) := ix_list.or (ix_tup.or ix_str)
theorem mapSeq_set (its : List Value) (n j : Nat) (u : Value) : Obj.mapSeq (·.setIfInBounds j u) { cls := .type "list", data := .seq its.toArray n } = { cls := .type "list", data := .seq (its.set j u).toArray n } := by
 simp [Obj.mapSeq]
theorem Inv.lst {pins : List (Addr × Obj)} {σ : St} {H : Hp} {s : Shared} {p : Addr} {xs : List V} (I : Inv X pins σ H s) (h : H p = some (.lst xs)) :
  ∃ (its : List Value) (n : Nat), Vals xs its ∧ s.heap.get? p = some { cls := .type "list", data := .seq its.toArray n } ∧ xs.length ≤ sizeLine := by
 obtain ⟨z, its, n, r, e⟩ := I.hok p _ h
 exact ⟨its, n, r, e, z⟩
theorem Inv.lstUpd {pins : List (Addr × Obj)} {σ : St} {H : Hp} {s : Shared} {p : Addr} {xs ys : List V} {its its' : List Value} {n n' : Nat} {f : Obj → Obj} (I : Inv X pins σ H s) (h : H p = some (.lst xs))
  (ho : s.heap.get? p = some { cls := .type "list", data := .seq its.toArray n }) (hf : f { cls := .type "list", data := .seq its.toArray n } = { cls := .type "list", data := .seq its'.toArray n' }) (r : Vals ys its') (hz : ys.length ≤ sizeLine) (t : Nat) :
  Inv X pins σ (upd H p (.lst ys)) { s with heap := s.heap.update p f, toks := t } := by
 have e : (s.heap.update p f).get? p = some { cls := .type "list", data := .seq its'.toArray n' } := by
  rw [Heap.get?_update_self f ho (by rw [hf] <;> rfl), hf]
 refine I.write (x := p) (e := p) (by rw [h]; trivial) (.inl rfl) (fun b u hb q => (Heap.get?_update_other _ _ (Ne.symm hb)).trans q) ⟨_, e⟩ ?_
 exact ⟨hz, its', n', r, e⟩
def Q0 : V → V → V → Hp → (Hp → Prop) → Prop := fun o i v H Q => ∃ p xs k j, o = .ref p ∧ i = .int k ∧ H p = some (.lst xs) ∧ ixN xs.length k = some j ∧ Q (upd H p (.lst (xs.set j v)))
theorem z7 : PSet X Q0 := by
 intro pins s σ H o i v ov iv u Q I ro ri rv h
 obtain ⟨p, xs, k, j, rfl, rfl, hp, hj, q⟩ := h
 cases ro
 obtain ⟨t, rfl⟩ := ri
 obtain ⟨its, n, r, ho, hz⟩ := I.lst hp
 obtain ⟨h1, h2, h3, h4⟩ := Qa hj
 have hl := r.length
 have hn := j7
 have I' : Inv X pins σ (upd H p (.lst (xs.set j v))) { s with heap := s.heap.update p (Obj.mapSeq (·.setIfInBounds j u)) } :=
  I.lstUpd hp ho (mapSeq_set its n j u) (r.set rv j) (by rw [List.length_set]; exact hz) s.toks
 by_cases h0 : 0 ≤ k
 ·have hk : k.toNat = j := by
   rw [seqIndex_of h0 h4] at h1
   exact Option.some.inj h1
  exact PySem.W.ki_setAt ho h0 (by omega) (by rw [List.size_toArray, ← hl]; exact h4) (by rw [hk]; exact ⟨_, I', q⟩)
 ·have hk : (k + (its.toArray.size : Int)).toNat = j := by
   rw [seqIndex_neg (by omega) h3] at h1
   rw [List.size_toArray, ← hl]
   exact Option.some.inj h1
  exact PySem.W.ki_setBack ho (by omega) (by rw [List.size_toArray, ← hl]; exact h3) (by omega) (by rw [hk]; exact ⟨_, I', q⟩)
theorem slice_bounds (lo hi : Option Int) (n : Nat) : (sliceBounds lo hi none n).1 = ((HT.sIx n 0 lo : Nat) : Int) ∧ (sliceBounds lo hi none n).2.1 = ((HT.sIx n n hi : Nat) : Int) ∧ (sliceBounds lo hi none n).2.2 = 1 := by
 refine ⟨?_, ?_, rfl⟩
 ·cases lo with
  | none => simp [sliceBounds, HT.sIx]
  | some i =>
   simp only [sliceBounds, HT.sIx, Option.getD_none, show (1 : Int) > 0 by decide, if_true]
   by_cases h : i < 0
   ·simp only [h, if_true] <;> omega
   ·simp only [h, if_false] <;> omega
 ·cases hi with
  | none => simp [sliceBounds, HT.sIx]
  | some i =>
   simp only [sliceBounds, HT.sIx, Option.getD_none, show (1 : Int) > 0 by decide, if_true]
   by_cases h : i < 0
   ·simp only [h, if_true] <;> omega
   ·simp only [h, if_false] <;> omega
theorem slicePick_cut (its : List Value) (lo hi : Option Int) : slicePick its.toArray lo hi none = ((its.drop (HT.sIx its.length 0 lo)).take (HT.sIx its.length its.length hi - HT.sIx its.length 0 lo)).toArray := by
 obtain ⟨h1, h2, h3⟩ := slice_bounds lo hi its.toArray.size
 unfold slicePick
 rw [h1, h2, h3]
 simp only [sliceRange_one, pick_run, List.size_toArray] <;> rfl
def rSlL (K : PySem.W.Frag) : V → Option Int → Option Int → Hp → VK → Prop := fun x lo hi H Q => ∃ a xs, x = .ref a ∧ SqL K H a xs ∧ ∀ p, H p = none → Q (.ref p) (upd H p (.lst (cutV xs lo hi)))
theorem sl_list : SlR X (rSlL X.K) := by
 intro pins s σ H x v vl vu lo hi sl Q I rx hs pl pu h
 obtain ⟨a, xs, rfl, hx, q⟩ := h
 cases rx
 obtain ⟨its, r, ht, hz⟩ := I.list hx
 have hlen := r.length
 refine ⟨"list", _, slot_list_getitem.lookup, ht.isList.typeIs, ?_⟩
 refine wpAny_getItem_list_slice ht.isList hs pl pu .none (by simp) ?_ (by rw [List.size_toArray] <;> omega)
 rw [slicePick_cut, ← hlen]
 refine ⟨.ref s.heap.objs.size, _, I.laid (t' := s.toks) (o := .lst (cutV xs lo hi)) (fun b ob q => Heap.get?_push_of_some _ q) (Nat.le_refl _) ?_, rfl, q _ (I.hok.fresh (Nat.le_refl _))⟩
 exact ⟨Nat.le_trans (cutV_length xs lo hi) hz, _, 0, (r.drop (HT.sIx xs.length 0 lo)).take (HT.sIx xs.length xs.length hi - HT.sIx xs.length 0 lo), Heap.get?_push_size _ rfl⟩
def jC : V → Bool
 | .non => true
 | .bl _ => true
 | .int _ => true
 | .str _ => true
 | _ => false
def eqV : V → V → Bool
 | .non, .non => true
 | .bl a, .bl b => a == b
 | .bl a, .int b => (if a then 1 else 0) == b
 | .int a, .bl b => a == (if b then 1 else 0)
 | .int a, .int b => a == b
 | .str a, .str b => a == b
 | _, _ => false
theorem wX {A : Around} {s : Shared} {y x : V} {u v : Value} (ry : RelV y u) (rx : RelV x v) (fy : jC y = true) (fx : jC x = true) : SeqAt.EqAt A s u v (eqV y x) := by
 cases y with
 | non =>
  cases ry
  cases x with
  | non => cases rx; exact SeqAt.EqAt.same _
  | bl b => cases rx; exact SeqAt.EqAt.none_bool b
  | int b => obtain ⟨t, rfl⟩ := rx; exact SeqAt.EqAt.none_int b t
  | str b => obtain ⟨t, rfl⟩ := rx; exact SeqAt.EqAt.none_str b t
  | _ => exact absurd (show false = true from fx) Bool.false_ne_true
 | bl a =>
  cases ry
  cases x with
  | non => cases rx; exact SeqAt.EqAt.bool_none a
  | bl b => cases rx; exact SeqAt.EqAt.bool_bool a b
  | int b => obtain ⟨t, rfl⟩ := rx; exact SeqAt.EqAt.bool_int a b t
  | str b => obtain ⟨t, rfl⟩ := rx; exact SeqAt.EqAt.bool_str a b t
  | _ => exact absurd (show false = true from fx) Bool.false_ne_true
 | int a =>
  obtain ⟨t', rfl⟩ := ry
  cases x with
  | non => cases rx; exact SeqAt.EqAt.int_none a t'
  | bl b => cases rx; exact SeqAt.EqAt.int_bool a t' b
  | int b => obtain ⟨t, rfl⟩ := rx; exact SeqAt.EqAt.int_int a t' b t
  | str b => obtain ⟨t, rfl⟩ := rx; exact SeqAt.EqAt.int_str a t' b t
  | _ => exact absurd (show false = true from fx) Bool.false_ne_true
 | str a =>
  obtain ⟨t', rfl⟩ := ry
  cases x with
  | non => cases rx; exact SeqAt.EqAt.str_none a t'
  | bl b => cases rx; exact SeqAt.EqAt.str_bool a t' b
  | int b => obtain ⟨t, rfl⟩ := rx; exact SeqAt.EqAt.str_int a t' b t
  | str b => obtain ⟨t, rfl⟩ := rx; exact SeqAt.EqAt.str_str a t' b t
  | _ => exact absurd (show false = true from fx) Bool.false_ne_true
 | _ => exact absurd (show false = true from fy) Bool.false_ne_true
theorem CallR.or {f : Value} {r r' : List V → Hp → VK → Prop} (h : CallR X f r) (h' : CallR X f r') : CallR X f (fun xs H Q => r xs H Q ∨ r' xs H Q) := by
 intro pins s σ H xs us Q I rs q
 rcases q with q | q
 ·exact h pins s σ H xs us Q I rs q
 ·exact h' pins s σ H xs us Q I rs q
theorem call_list_of : CallR X (.type "list") (fun xs H Q => ∃ p ys, xs = [.ref p] ∧ (SqL X.K H p ys ∨ SqT X.K H p ys) ∧ ∀ l, H l = none → Q (.ref l) (upd H l (.lst ys))) := by
 intro pins s σ H xs us Q I r h
 obtain ⟨p, ys, rfl, hq, q⟩ := h
 obtain ⟨u, rfl, rx⟩ := Zh r
 cases rx
 have fin : ∀ (its : List Value), Vals ys its → ys.length ≤ sizeLine → ∀ (h' : Heap) (c' : Nat), (∀ b o', s.heap.get? b = some o' → h'.get? b = some o') →
   h'.get? s.heap.objs.size = some { cls := .type "list", dict := none, data := .seq its.toArray c', slots := #[] } → EP X pins σ Q (.ref s.heap.objs.size) { s with heap := h' } := fun its r' hz h' c' kp e =>
  ⟨.ref s.heap.objs.size, _, I.laid (t' := s.toks) kp (Nat.le_refl _) (show ObjOk X.prog X.w _ h' _ (.lst ys) from ⟨hz, its, c', r', e⟩), rfl, q _ (I.hok.fresh (Nat.le_refl _))⟩
 rcases hq with hq | hq
 ·obtain ⟨its, r', pl, hz⟩ := I.list hq
  have hlen := r'.length
  obtain ⟨o, ho, hc, n, hd⟩ := pl.isList
  exact call_list_seq p (.inl rfl) ho hc hd (fun h' c' kp e => fin its r' hz h' c' kp e) (by simp only [List.size_toArray] <;> omega)
 ·obtain ⟨its, r', pl, hz⟩ := I.tuple hq
  have hlen := r'.length
  obtain ⟨o, ho, hc, n, hd⟩ := pl
  exact call_list_seq p (.inr rfl) ho hc hd (fun h' c' kp e => fin its r' hz h' c' kp e) (by simp only [List.size_toArray] <;> omega)
def tyV (K : PySem.W.Frag) (T : String) (x : V) (H : Hp) : Prop := match x with
 | .str _ => T = "str"
 | .int _ => T = "int"
 | .ref p => (T = "list" ∧ ∃ xs, SqL K H p xs) ∨ (T = "tuple" ∧ ∃ o, K.lookup p = some o ∧ o.cls = .type "tuple" ∧ o.dict = none) ∨
   (T = "dict" ∧ ((∃ kvs, H p = some (.dK kvs)) ∨ ∃ kvs, H p = some (.dT kvs))) ∨ (T = "set" ∧ ∃ S n, H p = some (.set S n))
 | _ => False
theorem tyV_is {pins : List (Addr × Obj)} {σ : St} {H : Hp} {s : Shared} {T : String} {x : V} {v : Value} (I : Inv X pins σ H s) (r : RelV x v) (ty : tyV X.K T x H) :
  s.TypeIs v T ∧ ∀ a, v = .ref a → ∃ ob, s.heap.get? a = some ob ∧ ob.dict = none := by
 cases x with
 | str z =>
  obtain ⟨t, rfl⟩ := r
  cases (show T = "str" from ty)
  exact ⟨typeIs_str s z t, fun _ e => nomatch e⟩
 | int i =>
  obtain ⟨t, rfl⟩ := r
  cases (show T = "int" from ty)
  exact ⟨typeIs_int s i t, fun _ e => nomatch e⟩
 | ref p =>
  cases r
  rcases ty with ⟨rfl, xs, hq⟩ | ⟨rfl, o, hk, hc, hd⟩ | ⟨rfl, hk⟩ | ⟨rfl, S, n, hk⟩
  ·obtain ⟨its, _, pl, _⟩ := I.list hq
   refine ⟨pl.isList.typeIs, fun a e => ?_⟩
   cases e
   obtain ⟨o, n, e, c, hd, _⟩ := pl
   exact ⟨o, e, hd⟩
  ·refine ⟨⟨o, I.kIn p o hk, hc⟩, fun a e => ?_⟩
   cases e
   exact ⟨o, I.kIn _ o hk, hd⟩
  ·have z : ∃ o, s.heap.get? p = some o ∧ o.ExactDict := by
    rcases hk with ⟨kvs, hk⟩ | ⟨kvs, hk⟩
    ·obtain ⟨_, _, _, _, o, _, _, e, ex, _⟩ := I.hok p _ hk
     exact ⟨o, e, ex⟩
    ·obtain ⟨_, _, _, _, o, _, _, e, ex, _⟩ := I.hok p _ hk
     exact ⟨o, e, ex⟩
   obtain ⟨o, e, ex⟩ := z
   refine ⟨⟨o, e, ex.1⟩, fun a e2 => ?_⟩
   cases e2
   exact ⟨o, e, ex.2.1⟩
  ·obtain ⟨o, _, _, _, e, ex, _⟩ := I.hok p _ hk
   refine ⟨⟨o, e, ex.1⟩, fun a e2 => ?_⟩
   cases e2
   exact ⟨o, e, ex.2.1⟩
 | _ => exact False.elim ty
def tBM0 (K : PySem.W.Frag) (T : String) (r : V → List V → Hp → VK → Prop) (to : TE) : TE := fun σ H Q => to σ H fun x H1 => tyV K T x H1 ∧ r x [] H1 Q
def tBM (K : PySem.W.Frag) (T : String) (r : V → List V → Hp → VK → Prop) (to : TE) (t : TA) : TE := fun σ H Q => to σ H fun x H1 => tyV K T x H1 ∧ t σ H1 fun xs H2 => r x xs H2 Q
variable {o e : Expr} {es : List Expr} {to : TE} {t : TA} {name : Str} {apos cpos : Pos} {T id : String} {r : V → List V → Hp → VK → Prop}
theorem jp (pa : PlainAttrs T) (slot : Slot T name id) (hty : typeOf (.builtin id) = pure (.type "method_descriptor")) (hm : MtR X id r) (ho : PE X o to) (ha : PA X (e :: es) t)
  (hbase : attributeBase o name X.env (eval o X.env) = eval o X.env := by rfl)
  (hfew : ((backTo cpos (starEach (e :: es) X.env)).all (fun x => !x.1) && (backToKw cpos (keywordEach [] X.env)).all (fun x => x.1.isSome)
   && decide ((e :: es).length + ([] : List Keyword).length + (if ([] : List Keyword).isEmpty then 0 else 1) < 30)) = true := by rfl)
  (hline : (apos.endLine == cpos.line) = true := by rfl) (hs : starEach (e :: es) X.env = (false, eval e X.env) :: starEach es X.env := by rfl) (hplain : (backTo cpos (starEach es X.env)).any (·.1) = false := by rfl) :
  PE X (.Call (.Attribute o name apos) (e :: es) [] cpos) (tBM X.K T r to t) := by
 intro pins s σ H Q I h
 refine wpAny_Call_method_late hbase hfew hline rfl (thn (ho pins s σ H _ I h) fun v s1 ⟨x, H1, I1, r1, ty, q1⟩ => ?_)
 obtain ⟨h1, h2⟩ := tyV_is I1 r1 ty
 refine ⟨T, id, pa, slot, hty, h1, h2, ?_⟩
 have hA := ha cpos pins s1 σ H1 _ I1 q1
 rw [hs] at hA ⊢
 refine Calls.callWith_builtin (by show (false || (backTo cpos (starEach es X.env)).any (·.1)) = false; rw [hplain] <;> rfl) (Calls.evalArgs_plain ?_)
 exact thn hA fun us s2 ⟨vs, H2, I2, r2, q2⟩ => hm pins s2 σ H2 x vs v us Q I2 r1 r2 q2
end
end L2
namespace L2
open PySem PySem.Spec PyProof.Rows
def MtM (X : Cx) (id : String) (r : V → List V → Hp → VK → Prop) : Prop :=
 ∀ (pins : List (Addr × Obj)) (s : Shared) (σ : St) (H : Hp) (x : V) (xs : List V) (v : Value) (us : List Value) (Q : VK), Inv X pins σ H s → RelV x v → Vals xs us → r x xs H Q →
  wpAny (model X.prog X.w) X.A (call (.builtin id) (v :: us)) (EP X pins σ Q) X.xe s
theorem Vals.one : ∀ {x : V} {us : List Value}, Vals [x] us → ∃ u, us = [u] ∧ RelV x u
 | _, _, .cons r .nil => ⟨_, rfl, r⟩
theorem Vals.two : ∀ {x y : V} {us : List Value}, Vals [x, y] us → ∃ u v, us = [u, v] ∧ RelV x u ∧ RelV y v
 | _, _, _, .cons r (.cons q .nil) => ⟨_, _, rfl, r, q⟩
theorem Vals.zero : ∀ {us : List Value}, Vals [] us → us = []
 | _, .nil => rfl
theorem Vals.dropLast {xs : List V} {us : List Value} (h : Vals xs us) : Vals xs.dropLast us.dropLast := by
 induction h with
 | nil => exact .nil
 | cons r t ih =>
  cases t with
  | nil => exact .nil
  | cons q t' => exact .cons r ih
theorem Vals.eraseIdx : ∀ {xs : List V} {us : List Value} (i : Nat), Vals xs us → Vals (xs.eraseIdx i) (us.eraseIdx i)
 | _, _, _, .nil => .nil
 | _, _, 0, .cons _ t => t
 | _, _, i + 1, .cons r t => .cons r (Vals.eraseIdx i t)
theorem Vals.reverse {xs : List V} {us : List Value} (h : Vals xs us) : Vals xs.reverse us.reverse := by
 induction h with
 | nil => exact .nil
 | cons r t ih => rw [List.reverse_cons, List.reverse_cons]; exact Vals.append ih (.cons r .nil)
theorem Vals.rep {xs : List V} {us : List Value} (h : Vals xs us) : ∀ k : Nat, Vals (List.replicate k xs).flatten (List.replicate k us).flatten
 | 0 => .nil
 | k + 1 => by
  rw [List.replicate_succ, List.replicate_succ, List.flatten_cons, List.flatten_cons]
  exact Vals.append h (Vals.rep h k)
theorem vy (its : List Value) : ∀ (k : Nat) (acc : List Value),
  List.foldl (fun x1 x2 => x1 ++ x2) acc.toArray (List.replicate k its.toArray) = (acc ++ (List.replicate k its).flatten).toArray
 | 0, acc => by simp
 | k + 1, acc => by
  have e : acc.toArray ++ its.toArray = (acc ++ its).toArray := by simp
  have e2 : (acc ++ its) ++ (List.replicate k its).flatten = acc ++ (List.replicate (k + 1) its).flatten := by
   rw [List.replicate_succ, List.flatten_cons, List.append_assoc]
  rw [← e2, ← vy its k (acc ++ its), ← e, List.replicate_succ, List.foldl_cons]
section
variable {X : Cx} {pins : List (Addr × Obj)} {σ : St} {H : Hp} {s : Shared} {l b : Addr} {xs ys zs : List V}
theorem Inv.lset {its its' : List Value} {n : Nat} {f : Array Value → Array Value} {t' : Nat} (I : Inv X pins σ H s) (hH : H l = some (.lst xs))
  (e : s.heap.get? l = some { cls := .type "list", data := .seq its.toArray n }) (hf : f its.toArray = its'.toArray) (hv : Vals ys its') (hz : ys.length ≤ sizeLine) :
  Inv X pins σ (upd H l (.lst ys)) { s with heap := s.heap.update l (Obj.mapSeq f), toks := t' } := by
 have q := PySem.IsL.update e f
 rw [hf] at q
 refine I.write (x := l) (e := l) (by rw [hH]; exact trivial) (.inl rfl) (fun b' u hb hu => (Heap.get?_update_other s.heap (Obj.mapSeq f) (Ne.symm hb)).trans hu) ⟨_, q⟩ ?_
 exact ⟨hz, its', _, hv, q⟩
theorem Inv.lnew {its : List Value} {t' : Nat} (I : Inv X pins σ H s) (hv : Vals ys its) (hz : ys.length ≤ sizeLine) :
  Inv X pins σ (upd H s.heap.objs.size (.lst ys)) { s with heap := s.heap.push { cls := .type "list", data := .seq its.toArray }, toks := t' } :=
 I.laid (fun _ _ q => Heap.get?_push_of_some _ q) (Nat.le_refl _) ⟨hz, its, 0, hv, Heap.get?_push_size _ rfl⟩
theorem Inv.fresh (I : Inv X pins σ H s) : H s.heap.objs.size = none := I.hok.fresh (Nat.le_refl _)
theorem Inv.lstM (I : Inv X pins σ H s) (hH : H l = some (.lst xs)) : xs.length ≤ sizeLine ∧ ∃ (its : List Value) (n : Nat), Vals xs its ∧ xs.length = its.length ∧ s.heap.get? l = some { cls := .type "list", data := .seq its.toArray n } := by
 obtain ⟨z, its, n, r, e⟩ := I.hok l _ hH
 exact ⟨z, its, n, r, r.length, e⟩
theorem Zr {n : Nat} (h : n ≤ sizeLine) : Builtin.List.listTooLong n = false := by
 unfold Builtin.List.listTooLong
 exact decide_eq_false (by omega)
end
section
variable {X : Cx}
def ZZ : V → List V → Hp → VK → Prop := fun x vs H Q => ∃ l xs y, x = .ref l ∧ vs = [y] ∧ H l = some (.lst xs) ∧ xs.length < sizeLine ∧ Q .non (upd H l (.lst (xs ++ [y])))
theorem qb : MtM X "list.append" ZZ := by
 intro pins s σ H x vs v us Q I rx rv h
 obtain ⟨l, xs, y, rfl, rfl, hH, hz, q⟩ := h
 cases rx
 obtain ⟨u, rfl, ru⟩ := rv.one
 obtain ⟨z, its, n, r, hl, e⟩ := I.lstM hH
 refine call_meets F.slot_list_append ⟨_, e, rfl⟩ F.entry_list_append (F.args_list_append_2 _ _) (PySem.list_append l its.toArray n u (by rw [List.size_toArray]; omega)) ⟨e, ?_⟩
 refine ⟨.non, _, I.lset (its' := its ++ [u]) hH e (by simp) (r.append (.cons ru .nil)) ?_, rfl, q⟩
 rw [List.length_append, List.length_singleton]
 omega
def rExtend : V → List V → Hp → VK → Prop := fun x vs H Q => ∃ l b xs zs, x = .ref l ∧ vs = [.ref b] ∧ H l = some (.lst xs) ∧ H b = some (.lst zs) ∧ xs.length + zs.length ≤ sizeLine ∧ Q .non (upd H l (.lst (xs ++ zs)))
theorem vo : MtM X "list.extend" rExtend := by
 intro pins s σ H x vs v us Q I rx rv h
 obtain ⟨l, b, xs, zs, rfl, rfl, hH, hB, hz, q⟩ := h
 cases rx
 obtain ⟨u, rfl, ru⟩ := rv.one
 cases ru
 obtain ⟨z, its, n, r, hl, e⟩ := I.lstM hH
 obtain ⟨z2, its2, n2, r2, hl2, e2⟩ := I.lstM hB
 have hsz : its.toArray.size + its2.toArray.size ≤ sizeLine := by rw [List.size_toArray, List.size_toArray]; omega
 have hlong : ¬ (!its.toArray.isEmpty && Builtin.List.listTooLong (its.toArray.size + its2.toArray.size)) = true := by
  rw [Zr hsz, Bool.and_false]
  exact Bool.false_ne_true
 refine call_meets F.slot_list_extend ⟨_, e, rfl⟩ F.entry_list_extend (F.args_list_extend_2 _ _)
  (AutoSeq1.list_extend_list_list_0 l its.toArray n b its2.toArray n2 hlong (by rw [List.size_toArray]; omega) (by omega)) ⟨e, e2, ?_⟩
 refine ⟨.non, _, I.lset (its' := its ++ its2) hH e (by simp) (r.append r2) ?_, rfl, q⟩
 rw [List.length_append]
 omega
def rRep : R2 := fun x y H Q => ∃ l k xs, x = .ref l ∧ y = .int k ∧ H l = some (.lst xs) ∧ -(2 ^ 63) ≤ k ∧ k < 2 ^ 63 ∧ xs.length * k.toNat ≤ sizeLine ∧
 ∀ p, H p = none → Q (.ref p) (upd H p (.lst (List.replicate k.toNat xs).flatten))
theorem len_rep {α : Type} (xs : List α) (k : Nat) : (List.replicate k xs).flatten.length = k * xs.length := by
 induction k with
 | zero => simp
 | succ k ih => rw [List.replicate_succ, List.flatten_cons, List.length_append, ih, Nat.succ_mul, Nat.add_comm]
theorem ZS : OpR X (binaryOp .Mult) rRep := by
 intro pins s σ H x y v u Q I rx ry h
 obtain ⟨l, k, xs, rfl, rfl, hH, h1, h2, hz, q⟩ := h
 cases rx
 obtain ⟨t, rfl⟩ := ry
 obtain ⟨z, its, n, r, hl, e⟩ := I.lstM hH
 have hlen : its.toArray.size * k.toNat ≤ sizeLine := by rw [List.size_toArray, ← hl]; exact hz
 have hcap : ¬ its.toArray.size * k.toNat > (2 ^ 63 - 1) / 8 := by
  have : (sizeLine : Nat) ≤ (2 ^ 63 - 1) / 8 := by decide
  omega
 have hfit : ¬ (!Builtin.List.listFitsIndex k) = true := by
  rw [fitsIndex_both h1 h2]
  exact Bool.false_ne_true
 have hlong : ¬ Builtin.List.listTooLong (its.toArray.size * k.toNat) = true := by
  rw [Zr hlen]
  exact Bool.false_ne_true
 have hnew : List.foldl (fun x1 x2 => x1 ++ x2) #[] (List.replicate (if its.toArray.isEmpty = true then 0 else k.toNat) its.toArray) = (List.replicate k.toNat its).flatten.toArray := by
  have f0 : ∀ m : Nat, List.foldl (fun x1 x2 => x1 ++ x2) #[] (List.replicate m its.toArray) = (List.replicate m its).flatten.toArray := fun m => by
   have := vy its m []
   rw [List.nil_append] at this
   exact this
  rw [f0]
  cases its with
  | nil => simp
  | cons a r' => rw [if_neg (by simp)]
 refine wpAny_binaryOp_repeat_ref (T := "list") (U := "int") (by decide) ⟨_, e, rfl⟩ (fun s' => typeIs_int s' k t) noFill_list_mul F.fills_int_mul F.slot_int_rmul repeat_list F.slot_int_index.lookup
  (call_meets F.slot_int_rmul (typeIs_int s k t) F.entry_int_rmul (F.args_int_rmul_2 _ _) (int___rmul___int_list k t l its.toArray n)
   ⟨e, rfl, ⟨_, e, rfl⟩, call_meets F.slot_list_mul ⟨_, e, rfl⟩ F.entry_list_mul (F.args_list_mul_2 _ _) (AutoListH.list___mul___list_int_3 l its.toArray n k t hfit hcap hlong) ⟨e, ?_⟩⟩)
 rw [hnew]
 exact ⟨.ref _, _, I.lnew (t' := s.toks) (r.rep k.toNat) (by rw [len_rep, Nat.mul_comm]; exact hz), rfl, q _ I.fresh⟩
end
section
variable {prog : Program} {w : World} {A : Around} {E : Value → Shared → Prop} {s : Shared}
end
section
variable {X : Cx}
end
end L2
namespace Att
open PySem PySem.W PySem.Calls PyProof.Rows
theorem ints_of_wellAll {P : Params} {h : Heap} : ∀ (ns : List Int) (vs : List Value), WellAll P h vs (ns.map WData.int) → IntsAre vs ns := by
 intro ns
 induction ns with
 | nil =>
  intro vs w
  rw [List.map_nil] at w
  cases w
  exact .nil
 | cons n ns ih =>
  intro vs w
  rw [List.map_cons] at w
  cases w with
  | cons a b =>
   cases a
   exact .cons _ _ (ih _ b)
theorem script_of {l : OpenLaw} {n : Nat} (hn : l.most = some n) {P : Params} {h : Heap} {args : List WData} {vals : List Value}
  (hpre : l.row.toRowW.claim.pre args = true) (hwl : WellAll P h vals args) :
  ∃ a vs ns, vals = [Value.ref a] ∧ args = [WData.list (ns.map WData.int)] ∧ h.get? a = some { cls := .type "list", data := .seq vs.toArray } ∧ IntsAre vs ns ∧ ns.length ≤ n := by
 have hsh : WShape.hasAll [] args [.list .int] = true := (pre_splitW hpre).1
 have hc : l.pre.holds [] { args := args } = true := (pre_splitW hpre).2
 obtain ⟨d, r, rfl, h1, h2⟩ := hasAllW_cons hsh
 obtain rfl := hasAllW_nil h2
 obtain ⟨xs, rfl, h3⟩ := hasW_list h1
 obtain ⟨ns, rfl⟩ := items_int h3
 have hlen : ns.length ≤ n := by
  unfold OpenLaw.pre at hc
  have h4 : (WTm.not (.lt (.lit (.int (n : Int))) (.len (.arg 0)))).holds [] { args := [.list (ns.map .int)] } = true := by
   have h4 := (holds_andW hc).1
   rw [hn] at h4
   exact h4
  have h5 := condW_of h4 (w_not (w_lt w_lit (w_len_list (w_arg rfl))))
  rw [List.length_map] at h5
  refine Nat.le_of_not_lt fun q => ?_
  have q' : (n : Int) < ((ns.length : Nat) : Int) := by omega
  first
   | (rw [decide_eq_true q'] at h5; exact absurd h5 (by decide))
   | (simp at h5; omega)
 cases hwl with
 | cons w1 w2 =>
  cases w2
  cases w1 with
  | list ho hall => exact ⟨_, _, ns, rfl, rfl, ho, ints_of_wellAll ns _ hall, hlen⟩
theorem post_true (l : OpenLaw) (args : List WData) : l.row.toRowW.claim.post args (.bool true) args = true :=
 postW_of (r := l.row.toRowW) (X := (true == true))
  (show WShape.has [] (.bool true) .bool = true by first | rfl | decide | simp [WShape.has, WShape.arms, WShape.armsAll])
  (show (WTm.eq .res (.lit (.bool true))).value [] { args := args, res := some (.bool true), after := args } = some (.bool (true == true)) from w_eq_bool (w_res rfl) w_lit) rfl
theorem attach_call {l : OpenLaw} {n : Nat} {q : Program} {loose : List Str} {XP : (Str → Option Value) → Heap → Prop} {YP : World → Heap → Prop} {d : DefRec}
  (hn : l.most = some n) (hdf : d.params.defaults = [])
  (call : ∀ (w : World) (s₀ s₁ : Shared) (mg mb : Str → Option Value) (fa : Addr) (o : Obj) (pm cd doc : Value) (a : Addr) (vs : List Value) (ns : List Int),
   Ground q loose [] XP w s₀ mg mb s₁.heap → YP w s₁.heap →
   s₁.heap.get? fa = some o → o.data = .func (docDef d.name d.params d.body d.scope pm cd doc) → s₁.heap.CodeRec cd d.name → mg d.name = some (.ref fa) →
   s₁.heap.get? a = some { cls := .type "list", data := .seq vs.toArray } → IntsAre vs ns → ns.length ≤ n → s₁.gens = #[] →
   codeAny (model l.prog w) callerA (.call (.ref fa) ⟨[.ref a], []⟩) (fun r s' => r = .ok (.ret (.bool true)) ∧ OldK s₁.heap s'.heap ∧ s'.os = s₁.os ∧ AllBare s'.gens) s₁) :
  WalkO q loose XP YP l.row.toRowW d [] (fun f vs => PySem.call f vs) := by
 intro w s₀ s₁ mg mb G Y fa o pm cd doc dV kV ho hd hcd hD hmg hg args vals as hpre hlay hrd hwl hlo
 obtain rfl : dV = .none := Dflts.none hD hdf
 obtain rfl : kV = .none := Dflts.noKw hD
 obtain ⟨a, vs, ns, rfl, rfl, hobj, hints, hlen⟩ := script_of hn hpre hwl
 refine enter_call (codeAny_mono (call w s₀ s₁ mg mb fa o pm cd doc a vs ns G Y ho (fd_plain hd) hcd hmg hobj hints hlen hg) fun r s' hq => ?_)
 obtain ⟨rfl, h2, h3, h4⟩ := hq
 exact ⟨.inl ⟨.bool true, .bool true, [], rfl, fun _ => rfl, .bool true, post_true l _, fun _ => ⟨List.Pairwise.nil, fun _ hm => (nomatch hm)⟩⟩, h2, h3, h4⟩
section
variable {prog : Program} {w : World} {A : Around} {E : Value → Shared → Prop} {s : Shared} {K : Frag}
def ledger (h : Heap) (L d : Addr) : List (Addr × Obj) := (List.range h.objs.size).filterMap fun a => if a = L ∨ a = d then none else (h.get? a).map fun o => (a, o)
end
end Att
namespace L2
open PySem PySem.Spec PyProof.Rows
theorem vd : ∀ {vs : List Value} {ns : List Int}, IntsAre vs ns → Vals (ns.map V.int) vs
 | _, _, .nil => .nil
 | _, _, .cons n t h => .cons ⟨t, rfl⟩ (vd h)
def Only (H : Hp) : Prop := ∀ b, H b = none ∨ ∃ o xs, H b = some (.frz o (.lst xs))
theorem law_call {P : Program} {w : World} {K : PySem.W.Frag} {mg mb : Str → Option Value} {CX : CXT} {k : Nat} {fa a : Addr} {fd : FuncData} {x : Str} {sp : Sp} {s₁ : Shared} {vs : List Value} {ns : List Int}
  (KX : K.In s₁.heap) (hns : s₁.heap.Ns mainGlobals mg) (hb : s₁.heap.Ns builtinsNs mb) (hbb : ∀ x : Str, x ≠ "__name__" → mb x = bootBuiltins x) (hlim : s₁.heap.NoLimit) (hg : s₁.gens = #[])
  (ha : s₁.heap.get? a = some { cls := .type "list", data := .seq vs.toArray }) (hi : IntsAre vs ns) (hl : ns.length ≤ sizeLine) (hr : Room k callerA)
  (F : ∀ base : Heap, K.In base → base.Ns mainGlobals mg → FnOk P w K mg base CX k fa fd [x] sp) (hbind : ∀ (s : Shared) (u : Value), BindsTo s fd ⟨[u], []⟩ [(x, u)])
  (hsp : ∀ H : Hp, Only H → SqL K H a (ns.map V.int) → sp [.ref a] H (fun v _ => v = .bl true) fun _ _ _ => False)
  (hCX : ∀ H e s', CX [] H s₁ (fun _ _ _ => False) e s' → False) :
  codeAny (model P w) callerA (.call (.ref fa) ⟨[.ref a], []⟩) (fun r s' => r = .ok (.ret (.bool true)) ∧ OldK s₁.heap s'.heap ∧ s'.os = s₁.os ∧ AllBare s'.gens) s₁ := by
 have rv := vd hi
 have lenV := hi.length
 have core : ∀ H : Hp, Only H → SqL K H a (ns.map V.int) → HOk P w H s₁.heap → (∀ b, H b ≠ none → b = a) → (H a ≠ none → K.lookup a = none) →
   codeAny (model P w) callerA (.call (.ref fa) ⟨[.ref a], []⟩) (fun r s' => r = .ok (.ret (.bool true)) ∧ OldK s₁.heap s'.heap ∧ s'.os = s₁.os ∧ AllBare s'.gens) s₁ := by
  intro H hO hS hok hA hK
  have base_of : ∀ {b : Addr} {o : Obj}, s₁.heap.get? b = some o → H b = none → (hidT s₁.heap H).get? b = some o := fun e n => hidT_get e n
  have noA : ∀ {b : Addr} {o : Obj} {es : Array DictEntry} {ep : Nat}, s₁.heap.get? b = some o → o.data = .dict es ep → H b = none := fun {b o es ep} e d => by
   cases q : H b with
   | none => rfl
   | some u =>
    have e' : b = a := hA b (by rw [q]; simp)
    subst e'
    rw [ha] at e; cases e
    have d' : Data.seq vs.toArray _ = Data.dict es ep := d
    cases d'
  have nsK : ∀ {b : Addr} {m : Str → Option Value}, s₁.heap.Ns b m → (hidT s₁.heap H).Ns b m := fun {b m} ⟨o, es, ep, e, d, r⟩ => ⟨o, es, ep, base_of e (noA e d), d, r⟩
  have hKb : K.In (hidT s₁.heap H) := fun b o e => base_of (KX b o e) (by
   cases q : H b with
   | none => rfl
   | some u =>
    have e' : b = a := hA b (by rw [q]; simp)
    subst e'
    rw [hK (by rw [q]; simp)] at e; cases e)
  have hM : Mod K mg (hidT s₁.heap H) := ⟨hKb, nsK hns, ⟨mb, nsK hb, hbb⟩, let ⟨mc, h1, h2⟩ := hlim; ⟨mc, nsK h1, h2⟩⟩
  have e0 : Env0 P w K mg (hidT s₁.heap H) callerA [] s₁ H := ⟨rfl, hM, fun b o e => of_hidT e, Nat.le_of_eq (hidT_size _ _), trivial, fun b hb => absurd (show b ∈ ([] : List Addr) from hb) (by simp), hok, .of_eq hg⟩
  refine codeAny_mono ((F _ hKb (nsK hns)).run callerA [] s₁ H ⟨[.ref a], []⟩ [.ref a] [.ref a] _ _ hr e0 (hbind s₁ (.ref a)) (.cons rfl .nil) (hsp H hO hS)) fun r s' h => ?_
  cases r with
  | error e => exact (hCX H e s' h).elim
  | ok fl =>
   cases fl with
   | next => exact False.elim h
   | brk => exact False.elim h
   | cont => exact False.elim h
   | ret u =>
    obtain ⟨v, H', os, bare, un, hok', r', q⟩ := h
    have q' : v = .bl true := q
    subst q'
    obtain rfl : u = Value.bool true := r'
    refine ⟨rfl, OldK.of_keep fun b o e => ?_, os, bare⟩
    cases q : H b with
    | none => exact un.keep b o e q (by intro z; exact absurd (show b ∈ ([] : List Addr) from z) (by simp)) (by simp)
    | some u =>
     rcases hO b with z | ⟨ob, xs, z⟩
     ·rw [q] at z; cases z
     ·have z2 := un.frzs b ob _ z
      obtain ⟨e1, _⟩ := hok b _ z
      obtain ⟨e2, _⟩ := hok' b _ z2
      rw [e] at e1; cases e1
      exact e2
 cases hk : K.lookup a with
 | some o =>
  have e := KX a o hk
  rw [ha] at e
  cases e
  refine core (fun _ => none) (fun _ => .inl rfl) (.inr ⟨_, vs.toArray, _, hk, rfl, rfl, rfl, by rw [List.size_toArray, lenV]; exact hl, by simpa using rv⟩) (fun b u z => by have z' : (none : Option HO) = some u := z; cases z') (fun b z => absurd rfl z) fun z => absurd rfl z
 | none =>
  refine core (fun b => if b = a then some (.frz { cls := .type "list", data := .seq vs.toArray } (.lst (ns.map V.int))) else none) (fun b => ?_) (.inl (.inr ⟨{ cls := .type "list", data := .seq vs.toArray }, if_pos rfl⟩)) (fun b u z => ?_) (fun b z => ?_) fun _ => hk
  ·by_cases hb : b = a
   ·exact .inr ⟨_, _, if_pos hb⟩
   ·exact .inl (if_neg hb)
  ·by_cases hb : b = a
   ·have z' := (if_pos hb).symm.trans z
    cases z'
    subst hb
    exact ⟨ha, by rw [List.length_map]; exact hl, vs, _, rv, ha⟩
   ·have z' := (if_neg hb).symm.trans z
    cases z'
  ·by_cases hb : b = a
   ·exact hb
   ·exact absurd (if_neg hb) z
end L2
namespace L2
open PySem PySem.Spec PyProof.Rows
theorem walk_of {l : PySem.W.OpenLaw} {n k : Nat} {q : Program} {loose : List Str} {XP : (Str → Option Value) → Heap → Prop} {YP : World → Heap → Prop} {d : DefRec} {K : Params → PySem.W.Frag} {CX : World → CXT} {sp : World → Sp} {x : Str}
  (hn : l.most = some n) (hn2 : n ≤ sizeLine) (hdf : d.params.defaults = []) (hr : Room k callerA)
  (hY : ∀ (w : World) (h : Heap), YP w h → (K w.params).In h)
  (F : ∀ (w : World) (mg : Str → Option Value) (fa : Addr) (h : Heap), (K w.params).In h → h.Ns mainGlobals mg → mg d.name = some (.ref fa) →
   ∃ fd : FuncData, (∀ (s : Shared) (u : Value), BindsTo s fd ⟨[u], []⟩ [(x, u)]) ∧
    ∀ base : Heap, (K w.params).In base → base.Ns mainGlobals mg → FnOk l.prog w (K w.params) mg base (CX w) k fa fd [x] (sp w))
  (hsp : ∀ (w : World) (H : Hp) (a : Addr) (ns : List Int), ns.length ≤ n → Only H → SqL (K w.params) H a (ns.map V.int) → sp w [.ref a] H (fun v _ => v = .bl true) fun _ _ _ => False)
  (hCX : ∀ (w : World) (H : Hp) (s : Shared) (e : Value) (s' : Shared), CX w [] H s (fun _ _ _ => False) e s' → False) :
  PySem.W.WalkO q loose XP YP l.row.toRowW d [] (fun f vs => PySem.call f vs) := by
 refine Att.attach_call hn hdf fun w s₀ s₁ mg mb fa o pm cd doc a vs ns G Y ho hd hcd hmg hobj hints hlen hg => ?_
 have KX := hY w _ Y
 obtain ⟨fd, hb, hF⟩ := F w mg fa _ KX G.T.g hmg
 exact law_call KX G.T.g G.T.b G.T.builtins G.T.nolimit hg hobj hints (Nat.le_trans hlen hn2) hr hF hb (fun H hO hS => hsp w H a ns hlen hO hS) fun H e s' => hCX w H s₁ e s'
end L2
namespace L2
open PySem PySem.Spec PyProof.Rows
def zV (s : Stmt) (j : Nat) : Stmt := match s with
 | .ClassDef _ _ _ body _ _ _ _ _ _ _ => body.getD j (.Pass ⟨0, 0, 0, 0⟩)
 | _ => .Pass ⟨0, 0, 0, 0⟩
def zR (s : Stmt) : Arguments := match s with
 | .FunctionDef _ a _ _ _ _ _ _ _ _ => a
 | _ => { posonlyargs := [], args := [], vararg := none, kwonlyargs := [], kw_defaults := [], kwarg := none, defaults := [] }
def zO (s : Stmt) : List Stmt := match s with
 | .FunctionDef _ _ b _ _ _ _ _ _ _ => b
 | _ => []
def ze (s : Stmt) : Scope := match s with
 | .FunctionDef _ _ _ _ _ _ sc _ _ _ => sc
 | _ => { kind := .function, names := [], isGenerator := false, isCoroutine := false }
abbrev CX0 : CXT := fun _ _ _ _ _ _ => False
structure Fun (K : PySem.W.Frag) (x qual : Str) (st : Stmt) (f : Addr) (fd : FuncData) : Prop where
 ex : ∃ (oc : Value) (od : Option Addr) (kV doc pm : Value) (an : Option Addr) (cdv ct : Value) (osl : Array (Option Value)),
  fd = PySem.W.fnOf x qual (zR st) (zO st) (ze st) .none kV doc pm an cdv ct ∧ K.lookup f = some ⟨oc, od, .func fd, osl⟩ ∧ PySem.W.codeIn K cdv qual = true
 kp : PySem.W.keepIn K (.ref f) = true
section
variable {P : Program} {w : World} {K : PySem.W.Frag} {mg : Str → Option Value} {base : Heap}
theorem Fun.ok {x qual : Str} {st : Stmt} {f : Addr} {fd : FuncData} {N ps : List Str} {k : Nat} {sp : Sp} (F : Fun K x qual st f fd) (S : FnScope N ps (ze st)) (len : ∀ vs H Q E, sp vs H Q E → vs.length = ps.length)
  (hbody : ∀ (cdv : Value) (A : Around) (outer : List Env) (s : Shared) (H : Hp) (vs : List V) (Q : VK) (E : XK), Room k (A.deeper (envOfC qual (ze st) s.heap.objs.size f cdv)) → sp vs H Q E →
   ∃ t, PSs (cxOf CX0 P w K mg base N qual (ze st) f cdv A outer s H E).nox (zO st) t ∧ t { nx := fun _ H' => Q .non H', rt := Q } (start N vs) H) : FnOk P w K mg base CX0 (k + 1) f fd ps sp := by
 obtain ⟨oc, od, kV, doc, pm, an, cdv, ct, osl, rfl, lk, hcd⟩ := F.ex
 refine QP lk hcd S len fun A outer s H vs Q E hr hsp => ?_
 obtain ⟨t, h, q⟩ := hbody cdv A outer s H vs Q E hr hsp
 exact ⟨t, h.nox, q⟩
theorem Fun.binds {x qual : Str} {st : Stmt} {f : Addr} {fd : FuncData} {ps : List Str} (F : Fun K x qual st f fd)
  (h : ∀ (kV doc pm : Value) (an : Option Addr) (cdv ct : Value) (us : List Value), us.length = ps.length → bindArgs (PySem.W.fnOf x qual (zR st) (zO st) (ze st) .none kV doc pm an cdv ct) ⟨us, []⟩ = pure (ps.zip us)) : Binds K fd ps [] := by
 obtain ⟨oc, od, kV, doc, pm, an, cdv, ct, osl, rfl, lk, hcd⟩ := F.ex
 exact .all (h kV doc pm an cdv ct)
theorem jy {x qual : Str} {st : Stmt} {f : Addr} {oc : Value} {od an : Option Addr} {osl : Array (Option Value)} {kV doc pm cdv ct : Value} (l : K.lookup f = some ⟨oc, od, .func (PySem.W.fnOf x qual (zR st) (zO st) (ze st) .none kV doc pm an cdv ct), osl⟩)
  (c : PySem.W.codeIn K cdv qual = true) (k : PySem.W.keepIn K (.ref f) = true) : Fun K x qual st f (PySem.W.fnOf x qual (zR st) (zO st) (ze st) .none kV doc pm an cdv ct) := ⟨⟨oc, od, kV, doc, pm, an, cdv, ct, osl, rfl, l, c⟩, k⟩
end
theorem zp {n : Nat} (h : n ≤ 1000) : n < sizeLine := Nat.lt_of_le_of_lt h (by decide)
section
variable {X : Cx}
theorem pv (i : Nat) {x : Str} {pos : Pos} (hN : X.N[i]? = some x := by rfl) (hv : Vis X.env.scope x := by first | exact Or.inl rfl | exact Or.inr (Or.inl rfl) | exact Or.inr (Or.inr rfl)) (hd : (x == ("__debug__" : Str)) = false := by decide)
  (hcd : (x == ("__classdict__" : Str)) = false := by decide) : PE X (.Name x pos) (tVar i) := pe_var hN hv hd hcd
end
theorem ite2 {c A B : Prop} [Decidable c] (h1 : c → A) (h2 : ¬ c → B) : if c then A else B := by
 by_cases h : c
 ·rw [if_pos h]
  exact h1 h
 ·rw [if_neg h]
  exact h2 h
def Same (H H' : Hp) : Prop := ∀ b o, H b = some o → H' b = some o
theorem Same.refl (H : Hp) : Same H H := fun _ _ h => h
theorem Same.trans {H H1 H2 : Hp} (a : Same H H1) (b : Same H1 H2) : Same H H2 := fun c o h => b c o (a c o h)
theorem Same.free {H H' : Hp} (e : Same H H') {l : Addr} (h : H' l = Option.none) : H l = Option.none := by
 cases q : H l with
 | none => rfl
 | some o =>
  rw [e l o q] at h
  cases h
theorem Same.seq {K : PySem.W.Frag} {H H' : Hp} {a : Addr} {xs : List V} (e : Same H H') (h : SqL K H a xs) : SqL K H' a xs := by
 rcases h with (h | ⟨o, h⟩) | h
 ·exact .inl (.inl (e _ _ h))
 ·exact .inl (.inr ⟨o, e _ _ h⟩)
 ·exact .inr h
end L2
set_option maxHeartbeats 4000000
namespace L2
open PySem PySem.Spec PyProof.Rows
abbrev GK := Value → St → Hp → Prop
structure Exc (g h : Heap) (H : Hp) (pn : List (Addr × Obj)) (a : Addr) (cls : Value) : Prop where
 ex : ∃ (oe : Obj) (vs : Array Value) (T : Addr) (oT : Obj) (ts : Array Value), h.get? a = some oe ∧ oe.cls = cls ∧ oe.dict = none ∧ oe.data = .fields vs ∧ vs[1]? = some (.ref T) ∧ T ≠ a ∧
  h.get? T = some oT ∧ oT.data = .fields ts ∧ ts[3]? = some .none ∧ g.get? T = none ∧ H T = none ∧ ∀ p ∈ pn, p.1 ≠ T
 ga : g.get? a = none
 Ha : H a = none
 pa : ∀ p ∈ pn, p.1 ≠ a
theorem ObjOk.there {P : Program} {w : World} {H : Hp} {h : Heap} {a : Addr} {o : HO} (x : ObjOk P w H h a o) : ∃ ob, h.get? a = some ob := by
 cases o with
 | lst xs => obtain ⟨_, _, _, _, e⟩ := x; exact ⟨_, e⟩
 | tup xs => obtain ⟨_, _, _, ob, e, _⟩ := x; exact ⟨_, e⟩
 | dK kvs => obtain ⟨_, _, _, _, o, _, _, e, _⟩ := x; exact ⟨_, e⟩
 | dT kvs => obtain ⟨_, _, _, _, o, _, _, e, _⟩ := x; exact ⟨_, e⟩
 | set S n => obtain ⟨o, _, _, _, e, _⟩ := x; exact ⟨_, e⟩
 | ins C dx fs => obtain ⟨_, _, _, e, _⟩ := x; exact ⟨_, e⟩
 | own y => obtain ⟨_, e⟩ := x; exact ⟨_, e⟩
 | xd fs => obtain ⟨_, ⟨_, _, _, e, _⟩, _⟩ := x; exact ⟨_, e⟩
 | rng lo hi => obtain ⟨_, _, _, e⟩ := x; exact ⟨_, e⟩
 | frz ob u => obtain ⟨e, _⟩ := x; exact ⟨_, e⟩
 | tbl ps => exact ⟨_, (show h.get? a = some _ from x)⟩
 | met f y => exact ⟨_, (show h.get? a = some _ from x)⟩
 | ext φ => obtain ⟨_, ⟨_, e⟩, _⟩ := x; exact ⟨_, e⟩
section
variable {M : Model} {A : Around} {E : Value → Shared → Prop} {s : Shared}
theorem vB {base : Heap} {env : Env} {outer : List Env} {L e : Addr} {oe : Obj} {vs : Array Value} {head : Value} {hadNext : Bool} {Q : Unit → Shared → Prop}
  (hfr : A.frames = some (env :: outer)) (hl : s.heap.FunFrames base (env :: outer)) (hf : env.frame = some L) (he : s.heap.get? e = some oe) (hd : oe.data = .fields vs) (hsz : 1 < vs.size)
  (h : ∀ h' T, (∀ b o, b ∉ (env :: outer).filterMap (·.frame) → b ≠ e → s.heap.get? b = some o → h'.get? b = some o) → (∀ b o, b ≠ e → s.heap.get? b = some o → ∃ sl, h'.get? b = some { o with slots := sl }) →
   s.heap.get? T = none → T ≠ e → h'.get? e = some (oe.mapFields (·.setIfInBounds 1 (.ref T))) → (∃ oT ts, h'.get? T = some oT ∧ oT.data = .fields ts ∧ ts[3]? = some .none) → Q () { s with heap := h' }) :
  wpAny M A (do let a ← frameOf env; let pl ← entryPlaceOf L hadNext; let b ← EntryCells.newEntry head a .none (rawInt L) .none pl; setField (.ref e) 1 b) (fun _ s' => wpAny M A (setFlight (.ref e) none) Q E s') E s := by
 have hene : e ∉ (env :: outer).filterMap (·.frame) := fun hm => by
  obtain ⟨_, o, ho, hnf⟩ := hl.mem hm
  rw [he] at ho; injection ho with ho; subst ho; exact hnf vs hd
 refine wpAny_bind (wpAny_frameOf_fun hfr hl hf fun h₁ hs₁ => ?_)
 refine wpAny_bind (wpAny_entryPlaceOf fun pl hpl => ?_)
 unfold EntryCells.newEntry newFields
 refine wpAny_bind (wpAny_newObj_type ?_ (hpl.sizeOk5 _ _ _ _ _))
 have he₁ : h₁.get? e = some oe := (hs₁.2.1 e hene).trans he
 have he₂ := Heap.get?_push_of_some (h := h₁) { cls := .type "traceback", dict := none, data := .fields ([head, .ref L, .none, rawInt L, .none] ++ (if pl.isEmpty then List.replicate 6 Value.none else pl)).toArray } he₁
 refine wpAny_setField he₂ hd hsz ?_
 have hTe : h₁.objs.size ≠ e := Nat.ne_of_gt (Heap.lt_size he₁)
 have hd₃ := Obj.data_mapFields hd (·.setIfInBounds 1 (Value.ref h₁.objs.size))
 have he₃ := Heap.get?_update_self (Obj.mapFields (·.setIfInBounds 1 (Value.ref h₁.objs.size))) he₂ (Obj.isFreed_of_fields hd₃)
 have hT₃ := (Heap.get?_update_other (h₁.push { cls := .type "traceback", dict := none, data := .fields ([head, .ref L, .none, rawInt L, .none] ++ (if pl.isEmpty then List.replicate 6 Value.none else pl)).toArray })
  (Obj.mapFields (·.setIfInBounds 1 (Value.ref h₁.objs.size))) (Ne.symm hTe)).trans (Heap.get?_push_size h₁ rfl)
 unfold setFlight
 refine wpAny_bind (wpAny_field he₃ hd₃ (x := .ref h₁.objs.size) (by simp [hsz]) ?_)
 rw [if_pos (show (Value.ref h₁.objs.size != Value.none) = true from by simp)]
 refine wpAny_setField hT₃ rfl (by simp only [List.size_toArray, List.length_append, List.length_cons, List.length_nil] <;> omega) ?_
 have keep : ∀ b o, b ≠ e → h₁.get? b = some o →
   (((h₁.push { cls := .type "traceback", dict := none, data := .fields ([head, .ref L, .none, rawInt L, .none] ++ (if pl.isEmpty then List.replicate 6 Value.none else pl)).toArray }).update e (Obj.mapFields (·.setIfInBounds 1 (Value.ref h₁.objs.size)))).update h₁.objs.size
    (Obj.mapFields (·.setIfInBounds 3 ((none : Option Addr).elim Value.none fun f => rawInt f)))).get? b = some o := fun b o hbe hb => by
  have hbT : h₁.objs.size ≠ b := Nat.ne_of_gt (Heap.lt_size hb)
  rw [Heap.get?_update_other _ _ hbT, Heap.get?_update_other _ _ (Ne.symm hbe)]
  exact Heap.get?_push_of_some _ hb
 refine h _ h₁.objs.size (fun b o hb hbe q => keep b o hbe ((hs₁.2.1 b hb).trans q)) (fun b o hbe q => ?_) (Heap.get?_none_of_le (by rw [hs₁.1]; exact Nat.le_refl _)) hTe ?_ ?_
 ·obtain ⟨sl, hs⟩ := hs₁.2.2 b o q
  exact ⟨sl, keep b _ hbe hs⟩
 ·rw [Heap.get?_update_other _ _ hTe]; exact he₃
 ·exact ⟨_, _, Heap.get?_update_self _ hT₃ (Obj.isFreed_of_fields (Obj.data_mapFields rfl _)), Obj.data_mapFields rfl _, by first | (simp; done) | (rcases hpl with rfl | ⟨_, _, _, _, _, _, _, rfl⟩ <;> simp)⟩
theorem vp {base : Heap} {env : Env} {outer : List Env} {L e : Addr} {oe : Obj} {vs : Array Value} {ch : List Addr} {Q : Unit → Shared → Prop}
  (hfr : A.frames = some (env :: outer)) (hl : s.heap.FunFrames base (env :: outer)) (hf : env.frame = some L) (he : s.heap.get? e = some oe) (hd : oe.data = .fields vs)
  (h1 : (vs[1]? = some .none ∧ ch = [e]) ∨ ∃ T oT ts, vs[1]? = some (.ref T) ∧ T ≠ e ∧ s.heap.get? T = some oT ∧ oT.data = .fields ts ∧ ts[3]? = some .none ∧ ch = [e, T])
  (h : ∀ h' T, (∀ b o, b ∉ (env :: outer).filterMap (·.frame) → b ∉ ch → s.heap.get? b = some o → h'.get? b = some o) → (∀ b o, b ∉ ch → s.heap.get? b = some o → ∃ sl, h'.get? b = some { o with slots := sl }) →
   (∀ b ∈ ch, ∃ o, h'.get? b = some o) → s.heap.get? T = none → T ≠ e → h'.get? e = some (oe.mapFields (·.setIfInBounds 1 (.ref T))) → (∃ oT ts, h'.get? T = some oT ∧ oT.data = .fields ts ∧ ts[3]? = some .none) → Q () { s with heap := h' }) :
  wpAny M A (noteFrame (.ref e) env) (fun _ s' => wpAny M A (setFlight (.ref e) none) Q E s') E s := by
 rcases h1 with ⟨h1, rfl⟩ | ⟨T, oT, ts, h1, hTe, hT, hdT, h3, rfl⟩
 ·unfold noteFrame
  simp only [hf]
  refine wpAny_bind (wpAny_field he hd h1 ?_)
  rw [if_neg (by decide)]
  refine vB hfr hl hf he hd (Array.getElem?_eq_some_iff.mp h1).1 fun h' T k1 k2 k3 k4 k5 k6 => ?_
  refine h h' T (fun b o hb hc q => k1 b o hb (fun z => hc (by simp [z])) q) (fun b o hc q => k2 b o (fun z => hc (by simp [z])) q) (fun b hb => ?_) k3 k4 k5 k6
  obtain rfl : b = e := by simpa using hb
  exact ⟨_, k5⟩
 ·unfold noteFrame
  simp only [hf]
  refine wpAny_bind (wpAny_field he hd h1 ?_)
  rw [if_pos (show (Value.ref T != Value.none) = true from by simp)]
  refine wpAny_bind (wpAny_field hT hdT h3 ?_)
  rw [if_neg (show ¬ ((Value.none == rawInt L) = true) from by simp [rawInt])]
  refine wpAny_bind (wpAny_setField hT hdT (Array.getElem?_eq_some_iff.mp h3).1 ?_)
  have other : ∀ b, b ≠ T → (s.heap.update T (Obj.mapFields (·.setIfInBounds 3 Value.none))).get? b = s.heap.get? b := fun b hb => Heap.get?_update_other _ _ (Ne.symm hb)
  have noRecord : ∀ b o, s.heap.get? b = some o → (∀ vs, o.data ≠ .fields vs) → b ≠ T := fun b o hb hnf q => by
   rw [q, hT] at hb; injection hb with hb; subst hb; exact hnf ts hdT
  have hT' := Heap.get?_update_self (Obj.mapFields (·.setIfInBounds 3 Value.none)) hT (Obj.isFreed_of_fields (Obj.data_mapFields hdT _))
  refine vB hfr (hl.of_keeps fun b o hb hnf => ⟨o, (other b (noRecord b o hb hnf)).trans hb, rfl⟩) hf ((other e (Ne.symm hTe)).trans he) hd (Array.getElem?_eq_some_iff.mp h1).1 fun h' T' k1 k2 k3 k4 k5 k6 => ?_
  have hTT : T' ≠ T := fun z => by rw [z, hT'] at k3; cases k3
  refine h h' T' (fun b o hb hc q => k1 b o hb (fun z => hc (by simp [z])) ((other b (fun z => hc (by simp [z]))).trans q)) (fun b o hc q => k2 b o (fun z => hc (by simp [z])) ((other b (fun z => hc (by simp [z]))).trans q)) (fun b hb => ?_) ((other T' hTT).symm.trans k3) k4 k5 k6
  rcases List.mem_cons.mp hb with rfl | hb
  ·exact ⟨_, k5⟩
  ·obtain rfl : b = T := by simpa using hb
   obtain ⟨sl, q⟩ := k2 b _ hTe hT'
   exact ⟨_, q⟩
end
section
variable {X : Cx} {pins : List (Addr × Obj)} {σ : List (Option V)} {H : Hp} {s : Shared} {h' : Heap}
theorem Inv.stepx {ch : List Addr} (I : Inv X pins σ H s)
  (hch : ∀ b ∈ ch, X.s₀.heap.get? b = none ∧ H b = none ∧ ∀ p ∈ X.pn ++ pins, p.1 ≠ b) (hrec : ∀ b ∈ ch, ∃ o vs, s.heap.get? b = some o ∧ o.data = .fields vs)
  (keep : ∀ b o, b ∉ frs X.stack → b ∉ ch → s.heap.get? b = some o → h'.get? b = some o)
  (slot : ∀ b o, b ∉ ch → s.heap.get? b = some o → ∃ sl, h'.get? b = some { o with slots := sl }) (there : ∀ b ∈ ch, ∃ o, h'.get? b = some o) : Inv X pins σ H { s with heap := h' } := by
 have neL : ∀ b ∈ ch, b ≠ X.env.locals := fun b hb z => by
  obtain ⟨o, vs, ho, hd⟩ := hrec b hb
  obtain ⟨m, ⟨o', es, ep, ho', hd', _⟩, _⟩ := I.loc
  rw [z, ho'] at ho; cases ho; rw [hd'] at hd; cases hd
 have neC : ∀ b ∈ ch, ∀ x c, X.env.cells.lookup x = some c → c ≠ b := fun b hb x c e z => by
  obtain ⟨o, vs, ho, hd⟩ := hrec b hb
  obtain ⟨v, o', ho', hd'⟩ := I.cell x c e
  rw [z, ho] at ho'; cases ho'; rw [hd] at hd'; cases hd'
 have nch : ∀ b o, X.s₀.heap.get? b = some o → b ∉ ch := fun b o e hb => by rw [(hch b hb).1] at e; cases e
 have trk : ∀ b u, H b = some u → b ∉ ch ∧ b ∉ frs X.stack := fun b u e => ⟨(fun hb => by rw [(hch b hb).2.1] at e; cases e), (fun hb => by rw [I.stkFree b hb] at e; cases e)⟩
 have nfs : ∀ b, b ∉ X.fs → b ≠ X.env.locals → b ∉ frs X.stack := fun b h1 h2 z => (List.mem_cons.mp (I.stkSub b z)).elim h2 h1
 have ltL : ∀ b o, X.s₀.heap.get? b = some o → b ≠ X.env.locals := fun b o e => Nat.ne_of_lt (Nat.lt_of_lt_of_le (Heap.lt_size e) I.ok.above)
 have cellK : ∀ x c, X.env.cells.lookup x = some c → ∀ v, s.heap.IsCell c v → h'.IsCell c v := fun x c e v ⟨o, ho, hd⟩ => by
  obtain ⟨sl, q⟩ := slot c o (fun z => neC c z x c e rfl) ho
  exact ⟨_, q, hd⟩
 have hok : HOk X.prog X.w H h' := fun b u e => (I.hok b u e).stay (fun c v hc q => by
  have hcH : ∃ u', H c = some u' := by
   rcases hc with rfl | z
   ·exact ⟨_, e⟩
   ·exact ⟨_, z⟩
  obtain ⟨u', hu⟩ := hcH
  exact keep c v (trk c u' hu).2 (trk c u' hu).1 q) (fun _ q => q) fun _ _ q => q
 refine ⟨I.ok, I.os, I.bare, ⟨fun b o e n hb hx => ?_, fun b o e n hb hx => ?_, I.base.free, fun b o e hx => ?_, I.base.tups, I.base.frzs, I.base.tbls⟩, ?_, fun x c e => ?_, I.free, I.freeC, fun p hp => ?_, hok, I.len⟩
 ·exact keep b o (nfs b hb (ltL b o e)) (nch b o e) (I.base.keep b o e n hb hx)
 ·obtain ⟨sl, e1⟩ := I.base.slot b o e n hb hx
  obtain ⟨sl', e2⟩ := slot b _ (nch b o e) e1
  exact ⟨sl', e2⟩
 ·obtain ⟨o', e1⟩ := I.base.there b o e hx
  obtain ⟨sl', e2⟩ := slot b _ (nch b o e) e1
  exact ⟨_, e2⟩
 ·obtain ⟨m, ⟨o, es, ep, ho, r⟩, hl⟩ := I.loc
  obtain ⟨sl, q⟩ := slot _ o (fun z => neL _ z rfl) ho
  refine ⟨m, ⟨_, es, ep, q, r⟩, fun i x v e1 e2 e3 => ?_⟩
  obtain ⟨u, r', l⟩ := hl i x v e1 e2 e3
  refine ⟨u, r', ?_⟩
  rcases l with l | ⟨k, c, e, z⟩
  ·exact .inl l
  ·exact .inr ⟨k, c, e, cellK x c e _ z⟩
 ·obtain ⟨v, z⟩ := I.cell x c e
  exact ⟨v, cellK x c e v z⟩
 ·obtain ⟨e, n, ne, nf, d⟩ := I.pin p hp
  exact ⟨keep p.1 p.2 (nfs _ nf ne) (fun z => (hch p.1 z).2.2 p hp rfl) e, n, ne, nf, d⟩
theorem vq {a : Addr} {oe : Obj} {vs : Array Value} {E : Value → Shared → Prop} {Q : Unit → Shared → Prop} (I : Inv X pins σ H s) (hst : X.stack = X.env :: X.outer) (hfr : X.env.frame = some X.env.locals) (hex : X.ex = [])
  (he : s.heap.get? a = some oe) (hdict : oe.dict = none) (hd : oe.data = .fields vs) (ga : X.s₀.heap.get? a = none) (Ha : H a = none) (hpa : ∀ p ∈ X.pn ++ pins, p.1 ≠ a)
  (h1 : vs[1]? = some .none ∨ ∃ T oT ts, vs[1]? = some (.ref T) ∧ T ≠ a ∧ s.heap.get? T = some oT ∧ oT.data = .fields ts ∧ ts[3]? = some .none ∧ X.s₀.heap.get? T = none ∧ H T = none ∧ ∀ p ∈ X.pn ++ pins, p.1 ≠ T)
  (hQ : ∀ s', Inv X pins σ H s' → Exc X.s₀.heap s'.heap H (X.pn ++ pins) a oe.cls → Q () s') :
  wpAny (model X.prog X.w) X.A (noteFrame (.ref a) X.env) (fun _ s' => wpAny (model X.prog X.w) X.A (setFlight (.ref a) none) Q E s') E s := by
 have hfs := I.ok.frames
 have hFF := I.stack
 rw [hst] at hfs hFF
 have hS : frs X.stack = (X.env :: X.outer).filterMap (·.frame) := by rw [hst]; rfl
 have fin : ∀ (ch : List Addr), (∀ b ∈ ch, X.s₀.heap.get? b = none ∧ H b = none ∧ ∀ p ∈ X.pn ++ pins, p.1 ≠ b) → (∀ b ∈ ch, ∃ o vs, s.heap.get? b = some o ∧ o.data = .fields vs) → a ∈ ch →
   ∀ h' T, (∀ b o, b ∉ (X.env :: X.outer).filterMap (·.frame) → b ∉ ch → s.heap.get? b = some o → h'.get? b = some o) → (∀ b o, b ∉ ch → s.heap.get? b = some o → ∃ sl, h'.get? b = some { o with slots := sl }) →
   (∀ b ∈ ch, ∃ o, h'.get? b = some o) → s.heap.get? T = none → T ≠ a → h'.get? a = some (oe.mapFields (·.setIfInBounds 1 (.ref T))) → (∃ oT ts, h'.get? T = some oT ∧ oT.data = .fields ts ∧ ts[3]? = some .none) → Q () { s with heap := h' } := by
  intro ch hch hrec ha h' T k1 k2 k3 k4 k5 k6 k7
  have I' := I.stepx (h' := h') hch hrec (fun b o hb hc q => k1 b o (by rw [← hS]; exact hb) hc q) k2 k3
  refine hQ _ I' ⟨?_, ga, Ha, hpa⟩
  obtain ⟨oT, ts, q1, q2, q3⟩ := k7
  have hsz : 1 < vs.size := by
   rcases h1 with z | ⟨_, _, _, z, _⟩ <;> exact (Array.getElem?_eq_some_iff.mp z).1
  refine ⟨_, _, T, oT, ts, k6, Obj.cls_mapFields _ _, by obtain ⟨c, d, dt, sl⟩ := oe; cases dt <;> exact hdict, Obj.data_mapFields hd _, by simp [hsz], k5, q1, q2, q3, ?_, ?_, fun p hp z => ?_⟩
  ·cases e : X.s₀.heap.get? T with
   | none => rfl
   | some o =>
    obtain ⟨o', e'⟩ := I.base.there T o e (by rw [hex]; simp)
    rw [k4] at e'; cases e'
  ·cases e : H T with
   | none => rfl
   | some u =>
    obtain ⟨o', e'⟩ := (I.hok T u e).there
    rw [k4] at e'; cases e'
  ·have := (I.pin p hp).1
   rw [z, k4] at this; cases this
 rcases h1 with h1 | ⟨T, oT, ts, h1, hTa, hT, hdT, h3, gT, HT, pT⟩
 ·refine vp (ch := [a]) hfs hFF hfr he hd (.inl ⟨h1, rfl⟩) (fin [a] (fun b hb => ?_) (fun b hb => ?_) (by simp))
  ·obtain rfl : b = a := by simpa using hb
   exact ⟨ga, Ha, hpa⟩
  ·obtain rfl : b = a := by simpa using hb
   exact ⟨oe, vs, he, hd⟩
 ·refine vp (ch := [a, T]) hfs hFF hfr he hd (.inr ⟨T, oT, ts, h1, hTa, hT, hdT, h3, rfl⟩) (fin [a, T] (fun b hb => ?_) (fun b hb => ?_) (by simp))
  ·rcases List.mem_cons.mp hb with rfl | hb
   ·exact ⟨ga, Ha, hpa⟩
   ·obtain rfl : b = T := by simpa using hb
    exact ⟨gT, HT, pT⟩
  ·rcases List.mem_cons.mp hb with rfl | hb
   ·exact ⟨oe, vs, he, hd⟩
   ·obtain rfl : b = T := by simpa using hb
    exact ⟨oT, ts, hT, hdT⟩
end
def JG (X : Cx) (G : GK) (e : Value) (s : Shared) : Prop := ∃ a cls σ H, e = Value.ref a ∧ Inv X [] σ H s ∧ Exc X.s₀.heap s.heap H X.pn a cls ∧ G cls σ H
def xeG (X : Cx) (G : GK) (e : Value) (s : Shared) : Prop := wpAny (model X.prog X.w) X.A (noteFrame e X.env) (fun _ s' => wpAny (model X.prog X.w) X.A (setFlight e none) (fun _ s'' => JG X G e s'') (fun _ _ => False) s') (fun _ _ => False) s
abbrev Cx.exg (X : Cx) (G : GK) : Cx := X.wish (xeG X G)
structure Bod (X : Cx) : Prop where
 st : X.stack = X.env :: X.outer
 fr : X.env.frame = some X.env.locals
 ex : X.ex = []
theorem qu {X : Cx} {G : GK} : PassesOwn (model X.prog X.w) X.A X.env (xeG X G) := PassesOwn.looking
theorem Inv.nopins {X : Cx} {pins : List (Addr × Obj)} {σ : St} {H : Hp} {s : Shared} (I : Inv X pins σ H s) : Inv X [] σ H s := I.pins_of fun p hp => absurd hp (by simp)
theorem Exc.less {g h : Heap} {H : Hp} {pn pn' : List (Addr × Obj)} {a : Addr} {cls : Value} (x : Exc g h H pn a cls) (hp : ∀ p ∈ pn', p ∈ pn) : Exc g h H pn' a cls := by
 obtain ⟨⟨oe, vs, T, oT, ts, h1, h2, h3, h4, h5, h6, h7, h8, h9, h10, h11, h12⟩, ga, Ha, pa⟩ := x
 exact ⟨⟨oe, vs, T, oT, ts, h1, h2, h3, h4, h5, h6, h7, h8, h9, h10, h11, fun p q => h12 p (hp p q)⟩, ga, Ha, fun p q => pa p (hp p q)⟩
def CXr (P : Program) (w : World) : CXT := fun outer H s E e s' => ∃ a cls H', e = Value.ref a ∧ s'.os = s.os ∧ AllBare s'.gens ∧ Un (frs outer) [] H H' s.heap s'.heap ∧ HOk P w H' s'.heap ∧
 Exc s.heap s'.heap H' [] a cls ∧ E cls none H'
section
variable {X : Cx} {pins : List (Addr × Obj)} {σ : St} {H : Hp} {s : Shared} {G : GK}
theorem xQ {e : Value} {s' : Shared} (B : Bod X) (I : Inv X pins σ H s) (h : CXr X.prog X.w X.stack H s (fun cls _ H' => G cls σ H') e s') : xeG X G e s' := by
 obtain ⟨a, cls, H', rfl, os, bare, un, hok, ⟨⟨oe, vs, T, oT, ts, h1, h2, h3, h4, h5, h6, h7, h8, h9, h10, h11, _⟩, ga, Ha, _⟩, hG⟩ := h
 have I' : Inv X pins σ H' s' := I.call' os un hok bare (fun b z => absurd z (by simp))
 have old : ∀ b, s.heap.get? b = none → X.s₀.heap.get? b = none := fun b hb => by
  cases e : X.s₀.heap.get? b with
  | none => rfl
  | some o =>
   obtain ⟨o', e'⟩ := I.base.there b o e (by rw [B.ex]; simp)
   rw [hb] at e'; cases e'
 have pin : ∀ b, s.heap.get? b = none → ∀ p ∈ X.pn ++ pins, p.1 ≠ b := fun b hb p hp z => by
  have := (I.pin p hp).1
  rw [z, hb] at this; cases this
 refine vq I' B.st B.fr B.ex h1 h3 h4 (old a ga) Ha (pin a ga) (.inr ⟨T, oT, ts, h5, h6, h7, h8, h9, old T h10, h11, pin T h10⟩) fun s'' I2 x => ?_
 exact ⟨a, oe.cls, σ, H', rfl, I2.nopins, x.less fun p hp => List.mem_append_left _ hp, h2 ▸ hG⟩
theorem xeG_of_new {a : Addr} {cls : Value} {args : List Value} {h' : Heap} (B : Bod X) (I : Inv X pins σ H s) (hm : Heap.MadeExcOf s.heap h' a cls args) (hG : G cls σ H) : xeG X G (.ref a) { s with heap := h' } := by
 obtain ⟨t, h1, h2, h3⟩ := hm.there
 have I' : Inv X pins σ H { s with heap := h' } := I.kept (t' := s.toks) hm.keeps
 have ga : X.s₀.heap.get? a = none := by
  cases e : X.s₀.heap.get? a with
  | none => rfl
  | some o =>
   obtain ⟨o', e'⟩ := I.base.there a o e (by rw [B.ex]; simp)
   rw [hm.new] at e'; cases e'
 have Ha : H a = none := by
  cases e : H a with
  | none => rfl
  | some u =>
   obtain ⟨o', e'⟩ := (I.hok a u e).there
   rw [hm.new] at e'; cases e'
 refine vq (s := { s with heap := h' }) I' B.st B.fr B.ex h1 rfl rfl ga Ha (fun p hp z => ?_) (.inl rfl) fun s'' I2 x => ?_
 ·have := (I.pin p hp).1
  rw [z, hm.new] at this; cases this
 ·exact ⟨a, cls, σ, H, rfl, I2.nopins, x.less fun p hp => List.mem_append_left _ hp, hG⟩
end
section
variable {P : Program} {w : World} {K : PySem.W.Frag} {mg : Str → Option Value} {base : Heap}
abbrev cxR (P : Program) (w : World) (K : PySem.W.Frag) (mg : Str → Option Value) (base : Heap) (N : List Str) (qual : Str) (scope : Scope) (f : Addr) (cd : Value) (A : Around) (outer : List Env) (s : Shared) (H : Hp) (E : XK) : Cx :=
 cxOf (CXr P w) P w K mg base N qual scope f cd A outer s H E
theorem Fun.okx {x qual : Str} {st : Stmt} {f : Addr} {fd : FuncData} {N ps : List Str} {k : Nat} {sp : Sp} (F : Fun K x qual st f fd) (S : FnScope N ps (ze st)) (len : ∀ vs H Q E, sp vs H Q E → vs.length = ps.length)
  (hbody : ∀ (cdv : Value) (A : Around) (outer : List Env) (s : Shared) (H : Hp) (vs : List V) (Q : VK) (E : XK), Room k (A.deeper (envOfC qual (ze st) s.heap.objs.size f cdv)) → sp vs H Q E →
   ∃ t, PSs ((cxR P w K mg base N qual (ze st) f cdv A outer s H E).exg fun cls _ H' => E cls none H') (zO st) t ∧ t { nx := fun _ H' => Q .non H', rt := Q } (start N vs) H) : FnOk P w K mg base (CXr P w) (k + 1) f fd ps sp := by
 obtain ⟨oc, od, kV, doc, pm, an, cdv, ct, osl, rfl, lk, hcd⟩ := F.ex
 refine QP lk hcd S len fun A outer s H vs Q E hr hsp => ?_
 obtain ⟨t, h, q⟩ := hbody cdv A outer s H vs Q E hr hsp
 refine ⟨t, fun pins s σ H' D I hw => ?_, q⟩
 refine wpAny_mono (h pins s σ H' D (I.wish _) hw) (fun _ _ z => z.unwish) fun e s' z => ?_
 refine wpAny_bind (wpAny_mono (show wpAny _ _ _ _ _ _ from z) (fun _ s1 y1 => wpAny_mono y1 (fun _ s'' y => ?_) fun _ _ y => y.elim) fun _ _ y => y.elim)
 obtain ⟨a, cls, σ2, H2, rfl, J, xx, g⟩ := y
 exact ⟨a, cls, H2, rfl, J.os, J.bare, J.base, J.hok, xx.less (fun p hp => absurd hp (by simp)), g⟩
end
end L2
namespace L2
open PySem PySem.Spec PyProof.Rows
structure Cal (P : Program) (w : World) (K : PySem.W.Frag) (mg : Str → Option Value) (base : Heap) (x : Str) (k : Nat) (ps : List Str) (dvs : List V) (sp : Sp) : Prop where
 ex : ∃ f fd ds, FnOk P w K mg base (CXr P w) k f fd ps sp ∧ mg x = some (.ref f) ∧ PySem.W.keepIn K (.ref f) = true ∧ Binds K fd ps ds ∧ Vals dvs ds
structure MCal (P : Program) (w : World) (K : PySem.W.Frag) (mg : Str → Option Value) (base : Heap) (C : Addr) (m : Str) (k : Nat) (ps : List Str) (dvs : List V) (sp : Sp) : Prop where
 cl : Cls K C
 ex : ∃ f fd ds, FnOk P w K mg base (CXr P w) k f fd ps sp ∧ Meth K C m f ∧ Binds K fd ps ds ∧ Vals dvs ds
structure KCal (P : Program) (w : World) (K : PySem.W.Frag) (mg : Str → Option Value) (base : Heap) (x : Str) (C : Addr) (k : Nat) (ps : List Str) (dvs : List V) (sp : Sp) : Prop where
 gl : mg x = some (.ref C)
 ex : ∃ f fd ds, FnOk P w K mg base (CXr P w) k f fd ps sp ∧ Mk K C f ∧ Binds K fd ps ds ∧ Vals dvs ds
theorem Cal.mono {P : Program} {w : World} {K : PySem.W.Frag} {mg : Str → Option Value} {base : Heap} {x : Str} {j k : Nat} {ps : List Str} {dvs : List V} {sp : Sp} (c : Cal P w K mg base x j ps dvs sp) (h : j ≤ k := by decide) : Cal P w K mg base x k ps dvs sp :=
 let ⟨f, fd, ds, a, b⟩ := c.ex; ⟨f, fd, ds, a.mono h, b⟩
theorem MCal.mono {P : Program} {w : World} {K : PySem.W.Frag} {mg : Str → Option Value} {base : Heap} {C : Addr} {m : Str} {j k : Nat} {ps : List Str} {dvs : List V} {sp : Sp} (c : MCal P w K mg base C m j ps dvs sp) (h : j ≤ k := by decide) : MCal P w K mg base C m k ps dvs sp :=
 let ⟨f, fd, ds, a, b⟩ := c.ex; ⟨c.cl, f, fd, ds, a.mono h, b⟩
theorem KCal.mono {P : Program} {w : World} {K : PySem.W.Frag} {mg : Str → Option Value} {base : Heap} {x : Str} {C : Addr} {j k : Nat} {ps : List Str} {dvs : List V} {sp : Sp} (c : KCal P w K mg base x C j ps dvs sp) (h : j ≤ k := by decide) : KCal P w K mg base x C k ps dvs sp :=
 let ⟨f, fd, ds, a, b⟩ := c.ex; ⟨c.gl, f, fd, ds, a.mono h, b⟩
section
variable {X : Cx} {G : GK} {k : Nat} {f C : Addr} {fd : FuncData} {ps : List Str} {sp : Sp} {dvs : List V} {ds : List Value} {x m : Str} {p pos apos : Pos} {e o : Expr} {es : List Expr} {ta : TE} {t : TA}
theorem vT {pins : List (Addr × Obj)} {σ : St} {H : Hp} {s : Shared} {Q : VK} {us : List Value} {vs : List V} (B : Bod X) (F : FnOk X.prog X.w X.K X.mg X.base (CXr X.prog X.w) k f fd ps sp) (hr : Room k X.A) (hb : Binds X.K fd ps ds) (hd : Vals dvs ds)
  (I : Inv (X.exg G) pins σ H s) (r : Vals vs us) (h : sp (vs ++ dvs) H Q (fun cls _ H' => G cls σ H')) : wpAny (model X.prog X.w) X.A (call (.ref f) us) (EP (X.exg G) pins σ Q) (xeG X G) s := by
 have r2 : Vals (vs ++ dvs) (us ++ ds) := r.append hd
 have hl : (us ++ ds).length = ps.length := by rw [← r2.length]; exact F.len _ _ _ _ h
 refine wpAny_call (codeAny_mono (F.run X.A X.stack s H ⟨us, []⟩ (us ++ ds) (vs ++ dvs) Q _ hr I.unwish.env0 (hb s us I.kIn hl) r2 h) fun r s' hq => ?_)
 cases r with
 | error e => exact xQ B I.unwish hq
 | ok fl =>
  cases fl with
  | ret u => exact I.after hq
  | next => exact False.elim hq
  | brk => exact False.elim hq
  | cont => exact False.elim hq
theorem run_makex {pins : List (Addr × Obj)} {σ : St} {H : Hp} {s : Shared} {Q : VK} {us : List Value} {vs : List V} (B : Bod X) (M : Mk X.K C f) (F : FnOk X.prog X.w X.K X.mg X.base (CXr X.prog X.w) k f fd ps sp) (hr : Room (k + 1) X.A) (hb : Binds X.K fd ps ds) (hd : Vals dvs ds)
  (I : Inv (X.exg G) pins σ H s) (r : Vals vs us)
  (h : ∀ x dx, H x = none → H dx = none → dx ≠ x → sp (.ref x :: (vs ++ dvs)) (upd (upd H dx (.own x)) x (.ins C dx [])) (fun v H2 => v = .non ∧ Q (.ref x) H2) (fun cls _ H' => G cls σ H')) :
  wpAny (model X.prog X.w) X.A (call (.ref C) us) (EP (X.exg G) pins σ Q) (xeG X G) s := by
 have hq := h (s.heap.objs.size + 1) s.heap.objs.size (I.hok.fresh (Nat.le_succ _)) (I.hok.fresh (Nat.le_refl _)) (Nat.ne_of_lt (Nat.lt_succ_self _))
 have I2 := Inv.made (C := C) I
 have r2 : Vals (V.ref (s.heap.objs.size + 1) :: (vs ++ dvs)) (Value.ref (s.heap.objs.size + 1) :: (us ++ ds)) := .cons rfl (r.append hd)
 have hl : (Value.ref (s.heap.objs.size + 1) :: us ++ ds).length = ps.length := by
  have e := r2.length
  rw [F.len _ _ _ _ hq] at e
  exact e.symm
 refine wpAny_call (Zw (f := f) I.kIn M.makes M.init (beq_iff_eq.mp M.fn) (codeAny_mono (F.run _ X.stack _ _ ⟨Value.ref (s.heap.objs.size + 1) :: us, []⟩ (Value.ref (s.heap.objs.size + 1) :: (us ++ ds)) _ _ _ (hr.make C us [])
  (I2.unwish.env0.make C us []) (hb _ (Value.ref (s.heap.objs.size + 1) :: us) I2.kIn hl) r2 hq) fun r s' hq' => ?_))
 cases r with
 | error e => exact xQ B I2.unwish hq'
 | ok fl =>
  cases fl with
  | ret u =>
   obtain ⟨v, H', I3, rv, ev, q3⟩ := I2.after hq'
   subst ev
   exact ⟨rv, ⟨V.ref (s.heap.objs.size + 1), H', I3, rfl, q3⟩⟩
  | next => exact False.elim hq'
  | brk => exact False.elim hq'
  | cont => exact False.elim hq'
def tCl (X : Cx) (k : Nat) (x : Str) (G : GK) (t : TA) : TE := fun σ H Q => ∃ ps dvs sp, Cal X.prog X.w X.K X.mg X.base x k ps dvs sp ∧ t σ H fun vs H1 => sp (vs ++ dvs) H1 Q (fun cls _ H' => G cls σ H')
theorem zx (B : Bod X) (hr : Room k X.A) (ha : PA (X.exg G) (e :: es) t) (hg : Gl X x := by rfl) (hdb : (x == ("__debug__" : Str)) = false := by decide)
  (he : starEach (e :: es) X.env = (false, eval e X.env) :: starEach es X.env := by rfl) (hpl : (backTo pos (starEach es X.env)).any (·.1) = false := by rfl) :
  PE (X.exg G) (.Call (.Name x p) (e :: es) [] pos) (tCl X k x G t) := by
 intro pins s σ H Q I h
 obtain ⟨ps, dvs, sp, ⟨f, fd, ds, F, hm, hk, hb, hd⟩, h⟩ := h
 refine wpAny_Call_Name_kw (jx I hg hm ?_ hdb)
 refine PySem.W.callWith_K (h₀ := X.base) I.ok.mod.kin hk (thn (ha pos pins s σ H _ I h) fun us s1 ⟨vs, H1, I1, r, q⟩ => ⟨I1.kIn, ?_⟩) he hpl
 exact vT B F hr hb hd I1 r q
def tMk (X : Cx) (k : Nat) (x : Str) (G : GK) (t : TA) : TE := fun σ H Q => ∃ C ps dvs sp, KCal X.prog X.w X.K X.mg X.base x C k ps dvs sp ∧ t σ H fun vs H1 => ∀ y dx, H1 y = none → H1 dx = none → dx ≠ y →
 sp (.ref y :: (vs ++ dvs)) (upd (upd H1 dx (.own y)) y (.ins C dx [])) (fun v H2 => v = .non ∧ Q (.ref y) H2) (fun cls _ H' => G cls σ H')
theorem xX (B : Bod X) (hr : Room (k + 1) X.A) (ha : PA (X.exg G) (e :: es) t) (hg : Gl X x := by rfl) (hdb : (x == ("__debug__" : Str)) = false := by decide)
  (he : starEach (e :: es) X.env = (false, eval e X.env) :: starEach es X.env := by rfl) (hpl : (backTo pos (starEach es X.env)).any (·.1) = false := by rfl) :
  PE (X.exg G) (.Call (.Name x p) (e :: es) [] pos) (tMk X k x G t) := by
 intro pins s σ H Q I h
 obtain ⟨C, ps, dvs, sp, ⟨hm, f, fd, ds, F, M, hb, hd⟩, h⟩ := h
 refine wpAny_Call_Name_kw (jx I hg hm ?_ hdb)
 refine PySem.W.callWith_K (h₀ := X.base) I.ok.mod.kin M.kp (thn (ha pos pins s σ H _ I h) fun us s1 ⟨vs, H1, I1, r, q⟩ => ⟨I1.kIn, ?_⟩) he hpl
 exact run_makex B M F hr hb hd I1 r q
def tMth (X : Cx) (k : Nat) (m : Str) (G : GK) (ta : TE) (t : TA) : TE := fun σ H Q => ta σ H fun y H1 => ∃ a C dx fs ps dvs sp, y = .ref a ∧ H1 a = some (.ins C dx fs) ∧ fs.lookup m = none ∧
 MCal X.prog X.w X.K X.mg X.base C m k ps dvs sp ∧ t σ H1 fun vs H2 => sp (.ref a :: (vs ++ dvs)) H2 Q (fun cls _ H' => G cls σ H')
theorem pe_mth {pl : Sem Bool} (B : Bod X) (hr : Room k X.A) (he : PE (X.exg G) o ta) (ha : PA (X.exg G) (e :: es) t)
  (hst : starEach (e :: es) X.env = (false, eval e X.env) :: starEach es X.env := by rfl) (hpl : (backTo pos (starEach es X.env)).any (·.1) = false := by rfl)
  (ht : eval (.Call (.Attribute o m apos) (e :: es) [] pos) X.env = (do
   let ov ← eval o X.env
   standAt apos.atName
   let (f, first) ← holding [ov] (getMethod ov m pl)
   callWith pos f first (backTo pos (starEach (e :: es) X.env)) (backToKw pos (keywordEach [] X.env))) := by rfl) :
  PE (X.exg G) (.Call (.Attribute o m apos) (e :: es) [] pos) (tMth X k m G ta t) := by
 intro pins s σ H Q I h
 refine PySem.W.methodCall_KW (pl := pl) (thn (he pins s σ H _ I h) fun u s1 hz => ?_) ht
 obtain ⟨x, H1, I1, rx, a, C, dx, fs, ps, dvs, sp, ex, ea, l, ⟨c, f, fd, ds, F, hm, hb, hd⟩, q⟩ := hz
 subst ex
 obtain rfl : u = Value.ref a := rx
 refine wT I1 ea c hm l ?_
 refine PySem.W.callWith_K (first := [.ref a]) (h₀ := X.base) I.ok.mod.kin hm.kp (thn (ha pos pins s1 σ H1 _ I1 q) fun us s2 ⟨vs, H2, I2, r, q2⟩ => ⟨I2.kIn, ?_⟩) hst hpl
 exact vT (us := .ref a :: us) (vs := .ref a :: vs) B F hr hb hd I2 (.cons rfl r) q2
def tGl (X : Cx) (x : Str) : TE := fun _ H Q => ∃ v u, X.mg x = some u ∧ RelV v u ∧ Q v H
theorem jX (hg : Gl X x := by rfl) (hd : (x == ("__debug__" : Str)) = false := by decide) : PE X (.Name x pos) (tGl X x) := fun _ _ _ H _ I h => by
 obtain ⟨v, u, hm, r, h⟩ := h
 exact jx I hg hm ⟨v, H, I, r, h⟩ hd
def tBl (X : Cx) (x : Str) (v : V) : TE := fun _ H Q => X.mg x = none ∧ Q v H
theorem xW {n : String} (hv : bootBuiltins x = some (.type n)) (hg : Gl X x := by rfl) (hn : x ≠ "__name__" := by decide) (hd : (x == ("__debug__" : Str)) = false := by decide) : PE X (.Name x pos) (tBl X x (.ty n)) := fun _ _ _ H _ I h => by
 obtain ⟨hm, h⟩ := h
 exact jP I hg hm hv ⟨.ty n, H, I, rfl, h⟩ hn hd
def tBi (X : Cx) (x : Str) (r : List V → Hp → VK → Prop) (t : TA) : TE := fun σ H Q => X.mg x = none ∧ t σ H fun vs H1 => r vs H1 Q
theorem zG {id : String} {r : List V → Hp → VK → Prop} (hc : CallR X (.builtin id) r) (hv : bootBuiltins x = some (.builtin id)) (ha : PA X (e :: es) t) (hg : Gl X x := by rfl) (hn : x ≠ "__name__" := by decide) (hdb : (x == ("__debug__" : Str)) = false := by decide)
  (he : starEach (e :: es) X.env = (false, eval e X.env) :: starEach es X.env := by rfl) (hpl : (backTo pos (starEach es X.env)).any (·.1) = false := by rfl) : PE X (.Call (.Name x p) (e :: es) [] pos) (tBi X x r t) := fun pins s σ H Q I h =>
 pe_callB hc hg h.1 hv ha hn hdb he hpl pins s σ H Q I h.2
theorem jL {T : String} {r : List V → Hp → VK → Prop} (hc : CallR X (.type T) r) (hv : bootBuiltins x = some (.type T)) (ha : PA X (e :: es) t) (hg : Gl X x := by rfl) (hn : x ≠ "__name__" := by decide) (hdb : (x == ("__debug__" : Str)) = false := by decide)
  (he : starEach (e :: es) X.env = (false, eval e X.env) :: starEach es X.env := by rfl) (hpl : (backTo pos (starEach es X.env)).any (·.1) = false := by rfl) : PE X (.Call (.Name x p) (e :: es) [] pos) (tBi X x r t) := fun pins s σ H Q I h =>
 pe_callTy hc hg h.1 hv ha hn hdb he hpl pins s σ H Q I h.2
end
end L2
namespace L2
open PySem PySem.Spec PyProof.Rows
section
variable {X : Cx} {tg : Expr} {a b c e o : Expr} {ta tb tc : TE} {pos : Pos}
def iSeq (K : PySem.W.Frag) (tl : TE) : TI := fun σ H R => tl σ H fun x H1 => ∃ a, x = .ref a ∧ (((∃ xs, SqL K H1 a xs) ∧ R (Itl K a) H1) ∨ ((∃ xs, SqT K H1 a xs) ∧ R (Itt K a) H1))
theorem qj {l : Expr} {tl : TE} (hl : PE X l tl) : PI X tg l (iSeq X.K tl) := by
 intro pins s σ H R I h
 refine thn (hl pins s σ H _ I h) fun v s1 ⟨x, H1, I1, r1, q1⟩ => ?_
 obtain ⟨a, e, q⟩ := q1
 subst e
 cases r1
 rcases q with ⟨⟨xs, hq⟩, q⟩ | ⟨⟨xs, hq⟩, q⟩
 ·obtain ⟨its, rv, p, hz⟩ := I1.list hq
  refine wpAny_pyIter_list p.isList ?_
  refine ⟨s1.heap.objs.size, [s1.heap.objs.size], _, _, H1, rfl, I1.kept (t' := s1.toks) fun b o e => Heap.get?_push_of_some _ e, turn_list a _, ⟨_, Heap.get?_push_size _ rfl, rfl, rfl⟩, fun b hb => ?_, q⟩
  have e : b = s1.heap.objs.size := by simpa using hb
  subst e
  exact I1.fpOk (Nat.le_refl _) (I1.hok.fresh (Nat.le_refl _))
 ·obtain ⟨its, rv, p, hz⟩ := I1.tuple hq
  refine wpAny_pyIter_tuple (show s1.heap.IsTuple a its.toArray from p) ?_
  refine ⟨s1.heap.objs.size, [s1.heap.objs.size], _, _, H1, rfl, I1.kept (t' := s1.toks) fun b o e => Heap.get?_push_of_some _ e, turn_tuple a _, ⟨_, Heap.get?_push_size _ rfl, rfl, rfl⟩, fun b hb => ?_, q⟩
  have e : b = s1.heap.objs.size := by simpa using hb
  subst e
  exact I1.fpOk (Nat.le_refl _) (I1.hok.fresh (Nat.le_refl _))
theorem j4 {ta : TA} {p pos : Pos} (ha : PA X [a] ta) (hg : Gl X "range" := by rfl) (hs : starEach [a] X.env = [(false, eval a X.env)] := by rfl) : PI X tg (.Call (.Name "range" p) [a] [] pos) (fun σ H R => X.mg "range" = none ∧ iRng1 ta σ H R) :=
 fun pins s σ H R I h => pi_range1 hg h.1 ha hs pins s σ H R I h.2
def Q1 (K : PySem.W.Frag) : R2 := fun x y H Q => ∃ l b xs zs, x = .ref l ∧ y = .ref b ∧ SqL K H l xs ∧ SqL K H b zs ∧ xs.length + zs.length ≤ sizeLine ∧ ∀ p, H p = none → Q (.ref p) (upd H p (.lst (xs ++ zs)))
theorem op_catS : OpR X (binaryOp .Add) (Q1 X.K) := by
 intro pins s σ H x y v u Q I rx ry h
 obtain ⟨l, b, xs, zs, rfl, rfl, hH, hB, hz, q⟩ := h
 cases rx
 cases ry
 obtain ⟨its, r, p, z⟩ := I.list hH
 obtain ⟨its2, r2, p2, z2⟩ := I.list hB
 have e1 := r.length
 have e2 := r2.length
 obtain ⟨⟨cls, dd, data, sl⟩, n, ho, hc, hdd, hd⟩ := p
 obtain ⟨⟨cls2, dd2, data2, sl2⟩, n2, ho2, hc2, hdd2, hd2⟩ := p2
 simp only at hc hd hc2 hd2
 subst hc hd hc2 hd2
 have ea : its.toArray ++ its2.toArray = (its ++ its2).toArray := by simp
 refine concat_meets ⟨_, ho, rfl⟩ ⟨_, ho2, rfl⟩ noFill_list_add seq_list_add PySem.F.slot_list_add PySem.F.entry_list_add (PySem.F.args_list_add_2 _ _) (list_addW l b its.toArray its2.toArray n n2 dd dd2 sl sl2 (by simp only [List.size_toArray]; omega)) ⟨ho, ho2, ?_⟩
 rw [ea]
 exact ⟨.ref _, _, I.lnew (t' := s.toks) (r.append r2) (by rw [List.length_append]; omega), rfl, q _ I.fresh⟩
def Z0 (K : PySem.W.Frag) : R2 := fun x y H Q => rI0 (fun i j => .int (i + j)) x y H Q ∨ (∃ i j, x = .str i ∧ y = .str j ∧ i.length + j.length ≤ sizeLine ∧ Q (.str (i ++ j)) H) ∨ Q1 K x y H Q
theorem z6 : OpR X (binaryOp .Add) (Z0 X.K) := op_add.or (op_add_str.or op_catS)
theorem j5 : OpR X (binaryOp .Mult) (rI (fun i j => IntMulOk i j) fun i j => .int (i * j)) := opI fun _ _ _ _ _ _ _ hc q => mul_int q hc
def CFd (_ j : Int) : Prop := j ≠ 0 ∧ j.natAbs.log2 < 9000
theorem jv : OpR X (binaryOp .FloorDiv) (rI CFd fun i j => .int (i.fdiv j)) := opI fun _ _ _ _ _ _ _ hc q => floordiv_int hc.1 q (.inl (PyProof.noPylong_of_log2 hc.2))
theorem QF : OpR X (compareOp .Lt) (rI0 fun i j => .bl (decide (i < j))) := op_lt
theorem Qr {k : Int} {n : Nat} (h : k.natAbs < 2 ^ n) : Builtin.Int.intBits k ≤ n := by
 unfold Builtin.Int.intBits
 split
 ·exact Nat.zero_le _
 ·rename_i h0
  have : k.natAbs ≠ 0 := fun z => h0 (by simp [Int.natAbs_eq_zero.mp z])
  have := (Nat.log2_lt this).mpr h
  omega
theorem mul_ok {i j : Int} (n : Nat) (h1 : i.natAbs < 2 ^ n) (h2 : j.natAbs < 2 ^ n) (hn : n ≤ 60000000) : IntMulOk i j := by
 have b1 := Qr h1
 have b2 := Qr h2
 have hc : Builtin.Int.intTooBig (Builtin.Int.intBits i + Builtin.Int.intBits j) = false := by
  unfold Builtin.Int.intTooBig bitsLine
  exact decide_eq_false (by omega)
 unfold IntMulOk
 rw [hc]
 simp
theorem mul_okL {i j : Int} (h1 : -(2 ^ 64) < i) (h2 : i < 2 ^ 64) : IntMulOk i j := PySem.IntMulOk.of_left (PySem.intBits_le_64 h1 h2)
theorem mul_okR {i j : Int} (h1 : -(2 ^ 64) < j) (h2 : j < 2 ^ 64) : IntMulOk i j := PySem.IntMulOk.of_right (PySem.intBits_le_64 h1 h2)
theorem fd_ok {i j : Int} (h1 : 0 < j) (h2 : j.natAbs < 2 ^ 8999) : CFd i j := ⟨by omega, by
 have := (Nat.log2_lt (n := j.natAbs) (k := 8999) (by omega)).mpr h2
 omega⟩
theorem fdiv_pos {i j : Int} (h : 0 < j) : i.fdiv j = i / j := Int.fdiv_eq_ediv_of_nonneg i (Int.le_of_lt h)
def qZ : List V → List V → Bool
 | [], [] => true
 | x :: xs, y :: ys => eqV x y && qZ xs ys
 | _, _ => false
theorem jn : ∀ {xs ys : List V}, xs.length ≠ ys.length → qZ xs ys = false
 | [], [], h => absurd rfl h
 | [], _ :: _, _ => rfl
 | _ :: _, [], _ => rfl
 | x :: xs, y :: ys, h => by
  have := jn (xs := xs) (ys := ys) (fun e => h (by simp [e]))
  unfold qZ
  rw [this, Bool.and_false]
theorem jo : ∀ {xs ys : List V}, xs.length = ys.length → (List.range xs.length).all (fun j => eqV (xs.getD j .non) (ys.getD j .non)) = qZ xs ys
 | [], [], _ => rfl
 | [], _ :: _, h => by simp at h
 | _ :: _, [], h => by simp at h
 | x :: xs, y :: ys, h => by
  have ih := jo (xs := xs) (ys := ys) (by simpa using h)
  unfold qZ
  rw [← ih, List.length_cons, List.range_succ_eq_map, List.all_cons, List.all_map]
  rfl
theorem Vals.getD : ∀ {xs : List V} {us : List Value} {j : Nat} (h : j < us.length), Vals xs us → RelV (xs.getD j .non) us[j]
 | _, _, 0, _, .cons r _ => r
 | _, _, j + 1, h, .cons _ t => Vals.getD (j := j) (by simpa using h) t
theorem qQ {xs : List V} (f : xs.all jC = true) (j : Nat) : jC (xs.getD j .non) = true := by
 rw [List.getD_eq_getElem?_getD]
 cases e : xs[j]? with
 | none => rfl
 | some x => exact List.all_eq_true.mp f x (List.mem_of_getElem? e)
def rEqS (K : PySem.W.Frag) (neg : Bool) : R2 := fun x y H Q => ∃ a b xs ys, x = .ref a ∧ y = .ref b ∧ ((SqL K H a xs ∧ SqL K H b ys) ∨ (SqT K H a xs ∧ SqT K H b ys)) ∧ xs.all jC = true ∧ ys.all jC = true ∧ Q (.bl (if neg then !qZ xs ys else qZ xs ys)) H
theorem op_eq_seq (hu : X.A.units < cLine) : OpR X (compareOp .Eq) (rEqS X.K false) := by
 intro pins s σ H x y v u Q I rx ry h
 obtain ⟨a, b, xs, ys, rfl, rfl, hq, fx, fy, q⟩ := h
 cases rx
 cases ry
 have fin : EP X pins σ Q (.bool (qZ xs ys)) s := ⟨.bl (qZ xs ys), H, I, rfl, q⟩
 rcases hq with ⟨h1, h2⟩ | ⟨h1, h2⟩
 ·obtain ⟨its, r, p, _⟩ := I.list h1
  obtain ⟨its2, r2, p2, _⟩ := I.list h2
  have e1 := r.length
  have e2 := r2.length
  by_cases hl : xs.length = ys.length
  ·refine SeqAt.RcAt.lists (e := fun j => eqV (xs.getD j .non) (ys.getD j .non)) p.isList p2.isList (by simp only [List.size_toArray]; omega) hu (fun j h1 h2 => ?_) _ _ _ _ ?_
   ·exact wX (Vals.getD (by simpa using h1) r) (Vals.getD (by simpa using h2) r2) (qQ fx j) (qQ fy j)
   ·rw [List.size_toArray, ← e1, jo hl]; exact fin
  ·rw [jn hl] at fin
   exact SeqAt.RcAt.lists_lengths p.isList p2.isList (by simp only [List.size_toArray]; simp; omega) hu _ _ _ _ fin
 ·obtain ⟨its, r, p, _⟩ := I.tuple h1
  obtain ⟨its2, r2, p2, _⟩ := I.tuple h2
  have e1 := r.length
  have e2 := r2.length
  refine SeqAt.RcAt.tuples (e := fun j => eqV (xs.getD j .non) (ys.getD j .non)) p p2 hu (fun j h1 h2 => ?_) _ _ _ _ ?_
  ·exact wX (Vals.getD (by simpa using h1) r) (Vals.getD (by simpa using h2) r2) (qQ fx j) (qQ fy j)
  ·by_cases hl : xs.length = ys.length
   ·have em : min its.toArray.size its2.toArray.size = xs.length := by simp only [List.size_toArray]; omega
    have es : (its.toArray.size == its2.toArray.size) = true := by simp only [List.size_toArray]; rw [beq_iff_eq]; omega
    rw [em, es, jo hl, Bool.and_true]; exact fin
   ·have es : (its.toArray.size == its2.toArray.size) = false := by simp only [List.size_toArray]; rw [beq_eq_false_iff_ne]; omega
    rw [es, Bool.and_false]
    rw [jn hl] at fin
    exact fin
theorem op_ne_seq (hu : X.A.units < cLine) : OpR X (compareOp .NotEq) (rEqS X.K true) := by
 intro pins s σ H x y v u Q I rx ry h
 obtain ⟨a, b, xs, ys, rfl, rfl, hq, fx, fy, q⟩ := h
 cases rx
 cases ry
 have fin : EP X pins σ Q (.bool (!qZ xs ys)) s := ⟨.bl (!qZ xs ys), H, I, rfl, q⟩
 rcases hq with ⟨h1, h2⟩ | ⟨h1, h2⟩
 ·obtain ⟨its, r, p, _⟩ := I.list h1
  obtain ⟨its2, r2, p2, _⟩ := I.list h2
  have e1 := r.length
  have e2 := r2.length
  by_cases hl : xs.length = ys.length
  ·refine SeqAt.RcNeAt.lists (e := fun j => eqV (xs.getD j .non) (ys.getD j .non)) p.isList p2.isList (by simp only [List.size_toArray]; omega) hu (fun j h1 h2 => ?_) _ _ _ _ ?_
   ·exact wX (Vals.getD (by simpa using h1) r) (Vals.getD (by simpa using h2) r2) (qQ fx j) (qQ fy j)
   ·rw [List.size_toArray, ← e1, jo hl]; exact fin
  ·rw [jn hl] at fin
   exact SeqAt.RcNeAt.lists_lengths p.isList p2.isList (by simp only [List.size_toArray]; simp; omega) hu _ _ _ _ fin
 ·obtain ⟨its, r, p, _⟩ := I.tuple h1
  obtain ⟨its2, r2, p2, _⟩ := I.tuple h2
  have e1 := r.length
  have e2 := r2.length
  refine SeqAt.RcNeAt.tuples (e := fun j => eqV (xs.getD j .non) (ys.getD j .non)) p p2 hu (fun j h1 h2 => ?_) _ _ _ _ ?_
  ·exact wX (Vals.getD (by simpa using h1) r) (Vals.getD (by simpa using h2) r2) (qQ fx j) (qQ fy j)
  ·by_cases hl : xs.length = ys.length
   ·have em : min its.toArray.size its2.toArray.size = xs.length := by simp only [List.size_toArray]; omega
    have es : (its.toArray.size == its2.toArray.size) = true := by simp only [List.size_toArray]; rw [beq_iff_eq]; omega
    rw [em, es, jo hl, Bool.and_true]; exact fin
   ·have es : (its.toArray.size == its2.toArray.size) = false := by simp only [List.size_toArray]; rw [beq_eq_false_iff_ne]; omega
    rw [es, Bool.and_false]
    rw [jn hl] at fin
    exact fin
inductive DE (K : PySem.W.Frag) (H : Hp) : Nat → V → V → Bool → Prop
 | flat {n : Nat} {x y : V} : jC x = true → jC y = true → DE K H n x y (eqV x y)
 | same {n : Nat} {p : Addr} : DE K H n (.ref p) (.ref p) true
 | lists {n : Nat} {p q : Addr} {xs ys : List V} {e : Nat → Bool} : p ≠ q → SqL K H p xs → SqL K H q ys → xs.length = ys.length → (∀ j x y, xs[j]? = some x → ys[j]? = some y → DE K H n x y (e j)) → DE K H (n + 1) (.ref p) (.ref q) ((List.range xs.length).all e)
 | listsL {n : Nat} {p q : Addr} {xs ys : List V} : p ≠ q → SqL K H p xs → SqL K H q ys → xs.length ≠ ys.length → DE K H (n + 1) (.ref p) (.ref q) false
 | tuples {n : Nat} {p q : Addr} {xs ys : List V} {e : Nat → Bool} : p ≠ q → SqT K H p xs → SqT K H q ys → (∀ j x y, xs[j]? = some x → ys[j]? = some y → DE K H n x y (e j)) → DE K H (n + 1) (.ref p) (.ref q) ((List.range (min xs.length ys.length)).all e && xs.length == ys.length)
theorem Vals.at_ {xs : List V} {us : List Value} (r : Vals xs us) {j : Nat} (h : j < us.toArray.size) : ∃ x, xs[j]? = some x ∧ RelV x us.toArray[j] := by
 have h' : j < us.length := by simpa using h
 have hl : j < xs.length := by rw [r.length]; exact h'
 obtain ⟨u, hu, ru⟩ := r.get (List.getElem?_eq_getElem hl)
 have e : us.toArray[j] = u := by
  have := List.getElem?_eq_some_iff.mp hu
  obtain ⟨_, e⟩ := this
  simpa using e
 exact ⟨xs[j], List.getElem?_eq_getElem hl, e ▸ ru⟩
theorem Qm {pins : List (Addr × Obj)} {s : Shared} {σ : St} {H : Hp} {n : Nat} {x y : V} {b : Bool} (I : Inv X pins σ H s) (h : DE X.K H n x y b) : ∀ {u v : Value} {A : Around}, RelV x u → RelV y v → A.units + n < cLine → SeqAt.EqAt A s u v b := by
 induction h with
 | flat fx fy => intro u v A rx ry _; exact wX rx ry fx fy
 | same => intro u v A rx ry _; cases rx; cases ry; exact SeqAt.EqAt.same _
 | lists hne h1 h2 hl _ ih =>
  intro u v A rx ry hu
  cases rx; cases ry
  obtain ⟨its, r, p, _⟩ := I.list h1
  obtain ⟨its2, r2, p2, _⟩ := I.list h2
  have e1 := r.length
  have e2 := r2.length
  refine SeqAt.EqAt.of_refs hne ?_
  have := SeqAt.RcAt.lists (A := A) (s := s) p.isList p2.isList (by simp only [List.size_toArray]; omega) (by omega) (fun j h1 h2 => by
   obtain ⟨x, hx, rx⟩ := r.at_ h1
   obtain ⟨y, hy, ry⟩ := r2.at_ h2
   exact ih j x y hx hy rx ry (by show A.units + 1 + _ < _; omega))
  rw [List.size_toArray, ← e1] at this
  exact this
 | listsL hne h1 h2 hl =>
  intro u v A rx ry hu
  cases rx; cases ry
  obtain ⟨its, r, p, _⟩ := I.list h1
  obtain ⟨its2, r2, p2, _⟩ := I.list h2
  have e1 := r.length
  have e2 := r2.length
  exact SeqAt.EqAt.of_refs hne (SeqAt.RcAt.lists_lengths p.isList p2.isList (by simp only [List.size_toArray]; simp; omega) (by omega))
 | tuples hne h1 h2 _ ih =>
  intro u v A rx ry hu
  cases rx; cases ry
  obtain ⟨its, r, p, _⟩ := I.tuple h1
  obtain ⟨its2, r2, p2, _⟩ := I.tuple h2
  have e1 := r.length
  have e2 := r2.length
  refine SeqAt.EqAt.of_refs hne ?_
  have := SeqAt.RcAt.tuples (A := A) (s := s) p p2 (by omega) (fun j h1 h2 => by
   obtain ⟨x, hx, rx⟩ := r.at_ h1
   obtain ⟨y, hy, ry⟩ := r2.at_ h2
   exact ih j x y hx hy rx ry (by show A.units + 1 + _ < _; omega))
  simp only [List.size_toArray, ← e1, ← e2] at this
  exact this
def rEqD (K : PySem.W.Frag) (neg : Bool) : R2 := fun x y H Q => ∃ p q xs ys n e, x = .ref p ∧ y = .ref q ∧ n ≤ 8 ∧ (∀ j x y, xs[j]? = some x → ys[j]? = some y → DE K H n x y (e j)) ∧
 ((SqL K H p xs ∧ SqL K H q ys ∧ xs.length = ys.length ∧ Q (.bl (if neg then !((List.range xs.length).all e) else (List.range xs.length).all e)) H) ∨
   (SqT K H p xs ∧ SqT K H q ys ∧ Q (.bl (if neg then !((List.range (min xs.length ys.length)).all e && xs.length == ys.length) else ((List.range (min xs.length ys.length)).all e && xs.length == ys.length))) H))
theorem op_eq_deep (hu : X.A.units + 100 < cLine) : OpR X (compareOp .Eq) (rEqD X.K false) := by
 intro pins s σ H x y v u Q I rx ry h
 obtain ⟨p, q, xs, ys, n, e, rfl, rfl, hn, hde, h⟩ := h
 cases rx
 cases ry
 rcases h with ⟨h1, h2, hl, q⟩ | ⟨h1, h2, q⟩
 ·obtain ⟨its, r, p, _⟩ := I.list h1
  obtain ⟨its2, r2, p2, _⟩ := I.list h2
  have e1 := r.length
  have e2 := r2.length
  refine SeqAt.RcAt.lists (e := e) p.isList p2.isList (by simp only [List.size_toArray]; omega) (by omega) (fun j h1 h2 => ?_) _ _ _ _ ?_
  ·obtain ⟨x, hx, rx⟩ := r.at_ h1
   obtain ⟨y, hy, ry⟩ := r2.at_ h2
   exact Qm I (hde j x y hx hy) rx ry (by show X.A.units + 1 + _ < _; omega)
  ·rw [List.size_toArray, ← e1]; exact ⟨.bl _, H, I, rfl, q⟩
 ·obtain ⟨its, r, p, _⟩ := I.tuple h1
  obtain ⟨its2, r2, p2, _⟩ := I.tuple h2
  have e1 := r.length
  have e2 := r2.length
  refine SeqAt.RcAt.tuples (e := e) p p2 (by omega) (fun j h1 h2 => ?_) _ _ _ _ ?_
  ·obtain ⟨x, hx, rx⟩ := r.at_ h1
   obtain ⟨y, hy, ry⟩ := r2.at_ h2
   exact Qm I (hde j x y hx hy) rx ry (by show X.A.units + 1 + _ < _; omega)
  ·simp only [List.size_toArray, ← e1, ← e2]; exact ⟨.bl _, H, I, rfl, q⟩
theorem op_ne_deep (hu : X.A.units + 100 < cLine) : OpR X (compareOp .NotEq) (rEqD X.K true) := by
 intro pins s σ H x y v u Q I rx ry h
 obtain ⟨p, q, xs, ys, n, e, rfl, rfl, hn, hde, h⟩ := h
 cases rx
 cases ry
 rcases h with ⟨h1, h2, hl, q⟩ | ⟨h1, h2, q⟩
 ·obtain ⟨its, r, p, _⟩ := I.list h1
  obtain ⟨its2, r2, p2, _⟩ := I.list h2
  have e1 := r.length
  have e2 := r2.length
  refine SeqAt.RcNeAt.lists (e := e) p.isList p2.isList (by simp only [List.size_toArray]; omega) (by omega) (fun j h1 h2 => ?_) _ _ _ _ ?_
  ·obtain ⟨x, hx, rx⟩ := r.at_ h1
   obtain ⟨y, hy, ry⟩ := r2.at_ h2
   exact Qm I (hde j x y hx hy) rx ry (by show X.A.units + 1 + _ < _; omega)
  ·rw [List.size_toArray, ← e1]; exact ⟨.bl _, H, I, rfl, q⟩
 ·obtain ⟨its, r, p, _⟩ := I.tuple h1
  obtain ⟨its2, r2, p2, _⟩ := I.tuple h2
  have e1 := r.length
  have e2 := r2.length
  refine SeqAt.RcNeAt.tuples (e := e) p p2 (by omega) (fun j h1 h2 => ?_) _ _ _ _ ?_
  ·obtain ⟨x, hx, rx⟩ := r.at_ h1
   obtain ⟨y, hy, ry⟩ := r2.at_ h2
   exact Qm I (hde j x y hx hy) rx ry (by show X.A.units + 1 + _ < _; omega)
  ·simp only [List.size_toArray, ← e1, ← e2]; exact ⟨.bl _, H, I, rfl, q⟩
def rEqG (K : PySem.W.Frag) : R2 := fun x y H Q => rEq x y H Q ∨ rEqS K false x y H Q ∨ rEqD K false x y H Q
def rNeG (K : PySem.W.Frag) : R2 := fun x y H Q => rNe x y H Q ∨ rEqS K true x y H Q ∨ rEqD K true x y H Q
theorem jq (hu : X.A.units + 100 < cLine) : OpR X (compareOp .Eq) (rEqG X.K) := op_eq.or ((op_eq_seq (by omega)).or (op_eq_deep hu))
theorem jd (hu : X.A.units + 100 < cLine) : OpR X (compareOp .NotEq) (rNeG X.K) := op_ne.or ((op_ne_seq (by omega)).or (op_ne_deep hu))
theorem Room.units1 {k : Nat} {A : Around} (r : Room k A) : A.units + 100 < cLine := by have := r.un; omega
def clsV : V → Option Value
 | .ty n => some (.type n)
 | .ref a => some (.ref a)
 | _ => none
theorem zI : bootBuiltins "len" = some (.builtin "len") := by decide +kernel
theorem zQ : bootBuiltins "isinstance" = some (.builtin "isinstance") := by decide +kernel
theorem bo_max : bootBuiltins "max" = some (.builtin "max") := by decide +kernel
theorem bo_sorted : bootBuiltins "sorted" = some (.builtin "sorted") := by decide +kernel
theorem bo_int : bootBuiltins "int" = some (.type "int") := by decide +kernel
theorem qd : bootBuiltins "list" = some (.type "list") := by decide +kernel
theorem ZL : bootBuiltins "tuple" = some (.type "tuple") := by decide +kernel
theorem bo_bool : bootBuiltins "bool" = some (.type "bool") := by decide +kernel
theorem x6 {K : PySem.W.Frag} : PySem.W.kitOne K (.type "int") (.type "int") = some true := by rfl
theorem xq {K : PySem.W.Frag} : PySem.W.kitOne K (.type "int") (.type "bool") = some false := by rfl
theorem jZ {K : PySem.W.Frag} : PySem.W.kitOne K (.type "bool") (.type "bool") = some true := by rfl
theorem xZ {K : PySem.W.Frag} : PySem.W.kitOne K (.type "str") (.type "str") = some true := by rfl
theorem kit_tup_tup {K : PySem.W.Frag} : PySem.W.kitOne K (.type "tuple") (.type "tuple") = some true := by rfl
theorem ix_any : IxR X (rIx X.K) := ix_seq
theorem zJ : CallR X (.builtin "len") (fun xs H Q => ∃ x n, xs = [x] ∧ LenV X.K x H n ∧ Q (.int n) H) := call_len
end
end L2
namespace L2
open PySem PySem.Spec PyProof.Rows
abbrev bmV : List Value := [.type "ValueError", .type "Exception", .type "BaseException", .type "object"]
structure XC (K : PySem.W.Frag) (C : Addr) : Prop where
 q : PySem.W.excIn K C bmV "ValueError.__new__" = true
theorem xc_obj {K : PySem.W.Frag} {C : Addr} {h₀ : Heap} (X : K.In h₀) (x : XC K C) : ∃ bm N nm q bs hdct sn sub ab col dd k0 k1 k2 k3 k5 mN, h₀.get? C = some (excClassObj nm q C N bs bm hdct sn sub ab col dd k0 k1 k2 k3 k5 "ValueError.__new__") ∧ h₀.Ns N mN ∧ mN "__init__" = none ∧ OwnTail h₀ bmV bm := by
 have q := x.q
 unfold PySem.W.excIn at q
 split at q
 ·rename_i dd cd sl ho
  split at q
  ·rename_i C' bm k0 k1 k2 k3 n k5 hm hs
   simp only [Bool.and_eq_true, beq_iff_eq, Bool.not_eq_true'] at q
   obtain ⟨⟨⟨⟨⟨rfl, rfl⟩, hdel⟩, ht⟩, hok⟩, hni⟩ := q
   obtain ⟨nm, bs, mro, ns, qn, hd, sn, sub, ab, col, del⟩ := cd
   dsimp only at hm hdel hok hni
   subst hm hdel
   have hsl : sl = #[k0, k1, k2, k3, some (.builtin "ValueError.__new__"), k5] := by
    obtain ⟨l⟩ := sl
    simp only at hs
    rw [hs]
   subst hsl
   exact ⟨bm, ns, nm, qn, bs, hd, sn, sub, ab, col, dd, k0, k1, k2, k3, k5, _, X _ _ ho, .of_isNs (PySem.W.isNs_of_in X hok), PySem.W.nsMap_none_of_in X hok hni, PySem.W.tail_of_in X ht⟩
  ·cases q
 ·cases q
section
variable {X : Cx} {G : GK} {x n : Str} {np cpos pos hpos : Pos} {e₀ : Expr} {es : List Expr} {t : TA}
def tRaise (X : Cx) (x : Str) (G : GK) (t : TA) : TS := fun _ σ H => ∃ C, X.mg x = some (.ref C) ∧ XC X.K C ∧ t σ H fun vs H1 => vs.length ≤ sizeLine ∧ G (.ref C) σ H1
theorem qC (B : Bod X) (hc : X.calm = true) (ha : PA (X.exg G) (e₀ :: es) t) (hg : Gl X x := by rfl) (hdb : (x == ("__debug__" : Str)) = false := by decide)
  (he : starEach (e₀ :: es) X.env = (false, eval e₀ X.env) :: starEach es X.env := by rfl) (hpl : (backTo cpos (starEach es X.env)).any (·.1) = false := by rfl) :
  PS (X.exg G) (.Raise (some (.Call (.Name x np) (e₀ :: es) [] cpos)) none pos) (tRaise X x G t) := by
 intro pins s σ H D I h
 obtain ⟨C, hm, xc, h⟩ := h
 obtain ⟨tl, N, nm, q, bs, hdct, sn, sub, ab, col, dd, k0, k1, k2, k3, k5, mN, hC, hN, hni, T⟩ := xc_obj I.ok.mod.kin xc
 refine wpAny_Raise_call_subT (C := C) (nm := nm) (q := q) (N := N) (bs := bs) (bm := tl) (hdct := hdct) (sn := sn) (sub := sub) (ab := ab) (col := col) (dd := dd) (k0 := k0) (k1 := k1) (k2 := k2) (k3 := k3) (k5 := k5)
  F.excBase_ValueError (mN := mN) (T.hasType F.excBase_ValueError.hasBase) (I.ok.hd hc) (by rw [he]; show (false || (backTo cpos (starEach es X.env)).any (·.1)) = false; rw [hpl]; rfl) hni (jx I hg hm ⟨rfl, ?_⟩ hdb)
 have hA := ha cpos pins s σ H _ I h
 rw [he] at hA ⊢
 refine Calls.evalArgs_plain (thn hA fun us s2 ⟨vs, H2, I2, r, hl, g⟩ => ?_)
 exact ⟨rfl, by rw [← r.length]; exact hl, I2.bk _ _ hC, hN.keeps I2.bk, T.keeps I2.bk, fun h' a hm => xeG_of_new B I2.unwish hm g⟩
end
def excO (a : Addr) (cls : Value) : HO := .ext fun h => ∃ o vs, h.get? a = some o ∧ o.cls = cls ∧ o.dict = none ∧ o.data = .fields vs
theorem Exc.obj {g h : Heap} {H : Hp} {pn : List (Addr × Obj)} {a : Addr} {cls : Value} (x : Exc g h H pn a cls) : ∃ o vs, h.get? a = some o ∧ o.cls = cls ∧ o.dict = none ∧ o.data = .fields vs :=
 let ⟨oe, vs, _, _, _, h1, h2, h3, h4, _⟩ := x.ex; ⟨oe, vs, h1, h2, h3, h4⟩
section
variable {X : Cx} {pins : List (Addr × Obj)} {σ : St} {H : Hp} {s : Shared}
end
abbrev Cx.suite (X : Cx) (pn : List (Addr × Obj)) (a : Addr) : Cx := { X with pn := pn, A := X.A.mark (some (.ref a)), calm := false, xe := fun _ _ => False }
abbrev Cx.pinned (X : Cx) (pn : List (Addr × Obj)) : Cx := { X with pn := pn }
section
variable {X : Cx} {pins : List (Addr × Obj)} {σ : St} {H : Hp} {s : Shared}
end
section
variable {X : Cx} {G : GK} {x n : Str} {np pos hpos : Pos} {i : Nat} {body suite : List Stmt} {b₀ : Stmt} {tb : List (Addr × Obj) → GK → TS} {th : List (Addr × Obj) → Addr → TS}
def tTryAs (X : Cx) (i : Nat) (x : Str) (tb : List (Addr × Obj) → GK → TS) (th : List (Addr × Obj) → Addr → TS) : TS := fun D σ H => ∃ Dc, X.mg x = some (.ref Dc) ∧ PySem.W.subIn X.K (.ref Dc) (.type "BaseException") = some true ∧
 ∀ pn, tb pn (fun cls σ' H' => ∃ C, cls = .ref C ∧ PySem.W.kitCls X.K (.ref C) (.ref Dc) = some true ∧ ∀ a, H' a = none →
  th pn a { nx := fun σ2 H2 => D.nx (σ2.set i none) H2, rt := D.rt, bk := fun σ2 H2 => D.bk (σ2.set i none) H2, ct := fun σ2 H2 => D.ct (σ2.set i none) H2 } (σ'.set i (some (.ref a))) (upd H' a (excO a (.ref C)))) D σ H
end
structure FA (K : PySem.W.Frag) (mg : Str → Option Value) (x : Str) (st : Stmt) (ps : List Str) : Prop where
 ex : ∃ f fd, Fun K x x st f fd ∧ mg x = some (.ref f) ∧ Binds K fd ps []
theorem FA.cal {P : Program} {w : World} {K : PySem.W.Frag} {mg : Str → Option Value} {base : Heap} {x : Str} {st : Stmt} {ps : List Str} {k : Nat} {sp : Sp} (h : FA K mg x st ps) (ok : ∀ {f fd}, Fun K x x st f fd → FnOk P w K mg base (CXr P w) k f fd ps sp) :
  Cal P w K mg base x k ps [] sp := let ⟨f, fd, F, m, b⟩ := h.ex; ⟨f, fd, [], ok F, m, F.kp, b, .nil⟩
theorem fa_mk {K : PySem.W.Frag} {mg : Str → Option Value} {h : Heap} {x : Str} {st : Stmt} {ps : List Str} {f : Addr} {oc : Value} {od an : Option Addr} {osl : Array (Option Value)} {kV doc pm cdv ct : Value} (X : K.In h) (G : h.Ns mainGlobals mg)
  (a : PySem.W.nsIn K mainGlobals x = some (some (.ref f))) (l : K.lookup f = some ⟨oc, od, .func (PySem.W.fnOf x x (zR st) (zO st) (ze st) .none kV doc pm an cdv ct), osl⟩)
  (c : PySem.W.codeIn K cdv x = true) (k : PySem.W.keepIn K (.ref f) = true)
  (hb : ∀ (kV doc pm : Value) (an : Option Addr) (cdv ct : Value) (us : List Value), us.length = ps.length → bindArgs (PySem.W.fnOf x x (zR st) (zO st) (ze st) .none kV doc pm an cdv ct) ⟨us, []⟩ = pure (ps.zip us)) : FA K mg x st ps :=
 ⟨f, _, jy l c k, PySem.W.mg_of X G a, (jy l c k).binds hb⟩
theorem cxr_false {P : Program} {w : World} {H : Hp} {s : Shared} {e : Value} {s' : Shared} (h : CXr P w [] H s (fun _ _ _ => False) e s') : False := let ⟨_, _, _, _, _, _, _, _, _, z⟩ := h; z
end L2
namespace L2
open PySem PySem.Spec PySem.Calls PyProof.Rows
structure XI (K : PySem.W.Frag) (C : Addr) : Prop where
 ga : PySem.W.findIn K (.ref C) "__getattribute__" = some (some (.builtin "BaseException.__getattribute__"))
 gt : PySem.W.findIn K (.ref C) "__getattr__" = some none
 cl : PySem.W.findIn K (.ref C) "__class__" = some (some (.builtin "object.__class__"))
 hd : PySem.W.hasDictIn K C = true
 gn : PySem.W.specialIn K (.builtin "object.__class__") "__get__" = some (some (.builtin "getset_descriptor.__get__"))
 tk : PySem.W.takesIn K (.builtin "object.__class__") = some true
 mo : PySem.W.mroIn K C (.type "object") = some true
 mb : PySem.W.subIn K (.ref C) (.type "BaseException") = some true
section
variable {prog : Program} {w : World} {A : Around} {E : Value → Shared → Prop} {s : Shared} {K : PySem.W.Frag} {a C : Addr} {o : Obj} {vs : Array Value}
theorem ZG {hp : Heap} (hx : hp.get? a = some o) (hc : o.cls = .ref C) (hd : o.dict = none) (hv : o.data = .fields vs) : PySem.W.InstAt hp a o C none := by
 refine ⟨hx, hc, ?_, ?_⟩
 ·obtain ⟨c, d, dt, sl⟩ := o
  simp only at hv
  subst hv
  rfl
 ·rw [hd]
  trivial
theorem exc_class {Q : Option Value → Shared → Prop} (X : K.In s.heap) (f : XI K C) (hx : s.heap.get? a = some o) (hc : o.cls = .ref C) (hd : o.dict = none) (hv : o.data = .fields vs)
  (h : Q (some (.ref C)) { s with toks := s.toks + 1 }) : wpAny (model prog w) A (getAttr? (.ref a) "__class__") Q E s := by
 have I := ZG hx hc hd hv
 have hf : PySem.W.findObj K C none "__class__" = some (.bind (.builtin "getset_descriptor.__get__") (.builtin "object.__class__")) := by
   obtain ⟨cd, hcd, _⟩ := PySem.W.any_some f.hd
   simp [PySem.W.findObj, hcd, f.cl, f.gn, f.tk]
 obtain ⟨hh, g, d, t, os⟩ := s
 have T0 := I.type (M := model prog w)
 have T1 := PySem.W.looks_findIn (M := model prog w) X f.ga
 have T2 := PySem.W.looks_find (M := model prog w) X I hf
 have T3 := PySem.W.looks_findIn (M := model prog w) X f.gt
 have T4 := PySem.W.looks_subIn (M := model prog w) X f.mb
 have f3 := F.attr_ValueError.ga.bind (.ref a)
 unfold getAttr? getAttrBy? getAttrBy
 refine wpAny_bind (wpAny_mkText (wpAny_bind (wpAny_attempt (wpAny_holding (wpAny_bind (T0.at (wpAny_bind (T1.at ?_))))))))
 dsimp only
 have nga : (onTheHeap (Value.ref C) && Value.builtin "BaseException.__getattribute__" == Value.builtin "object.__getattribute__") = false := by
  have z : (Value.builtin "BaseException.__getattribute__" == Value.builtin "object.__getattribute__") = false := by decide +kernel
  rw [z, Bool.and_false]
 rw [nga, if_neg Bool.false_ne_true]
 unfold getAttrByItsOwn
 repeat (any_goals (first | assumption | with_reducible refine T0.at ?_ | with_reducible refine T3.at ?_ | with_reducible refine T1.at ?_ | wp_step))
 refine codeAny_call_builtin F.attr_ValueError.ga.plain F.entry_bexc_ga ?_
 have hk : builtinKind "BaseException.__getattribute__" = some .slot := by decide +kernel
 have hsp : splitId "BaseException.__getattribute__" = some ("BaseException", "__getattribute__") := by decide +kernel
 have hav := F.args_bexc_ga (.ref a) (Value.str (Str.ofString "__class__") t)
 simp only [checkBuiltinCall, hk, hsp]
 refine wpAny_bind ?_
 unfold isInstance
 repeat (first | with_reducible refine T2.at ?_ | with_reducible refine T0.at ?_ | with_reducible refine T4.at ?_ | wp_step)
 refine PySem.W.class_get (s := ⟨hh, g, d, t + 1, os⟩) (ox := o) (od := none) X I f.mo ?_
 refine wpAny_pure ?_
 refine PySem.W.handed_on rfl ?_
 exact wpAny_pure h
theorem kitx_exc {vs : Array Value} (f : XI K C) : PySem.W.KitX K (.ref a) (.ref C) (fun h => ∃ o vs, h.get? a = some o ∧ o.cls = .ref C ∧ o.dict = none ∧ o.data = .fields vs) where
 ty := fun M h _ ⟨o, vs, e, c, d, v⟩ => (ZG e c d v).type
 it := fun _ _ X _ => by
  obtain ⟨cd, hcd, _⟩ := PySem.W.any_some f.hd
  unfold PySem.W.clsIn at hcd
  split at hcd
  ·rename_i c' d' cd' sl' ho
   intro A' Q' E' s' k q
   unfold isType loadHead
   exact wpAny_bind (wpAny_loadPart (k _ _ (X _ _ ho)) (wpAny_pure q))
  ·cases hcd
 ne := fun h tp dd its n sl X htp => by
  obtain ⟨cd, hcd, _⟩ := PySem.W.any_some f.hd
  refine Bool.eq_false_iff.mpr fun q => ?_
  have e : C = tp := Value.ref.inj (beq_iff_eq.mp q)
  subst e
  unfold PySem.W.clsIn at hcd
  split at hcd
  ·rename_i ho
   have z := (X _ _ ho).symm.trans htp
   cases z
  ·cases hcd
 ca := fun X ⟨o, vs, e, c, d, v⟩ k => exc_class X f e c d v k
end
inductive TyX (K : PySem.W.Frag) (H : Hp) : V → Value → Prop where
 | old {x : V} {t : Value} (h : TyOf K H x t) : TyX K H x t
 | exc {a C : Addr} (h : H a = some (excO a (.ref C))) (f : XI K C) : TyX K H (.ref a) (.ref C)
def Qo : List V → Option (List Value)
 | [] => some []
 | c :: r => match clsV c, Qo r with
  | some u, some us => some (u :: us)
  | _, _ => none
theorem Qp {c : V} {u v : Value} (h : clsV c = some u) (r : RelV c v) : v = u := by
 cases c with
 | ty n => cases r; exact Option.some.inj h
 | ref a => cases r; exact Option.some.inj h
 | _ => cases h
theorem ZI : ∀ {cs : List V} {us vs : List Value}, Qo cs = some us → Vals cs vs → vs = us
 | [], _, _, h, .nil => Option.some.inj h
 | c :: r, us, v :: vs, h, .cons rc rr => by
  unfold Qo at h
  split at h
  ·rename_i u us' h1 h2
   cases h
   rw [Qp h1 rc, ZI h2 rr]
  ·cases h
theorem kit_of {X : Cx} {pins : List (Addr × Obj)} {σ : St} {H : Hp} {s : Shared} {x : V} {u t : Value} (I : Inv X pins σ H s) (rx : RelV x u) (ty : TyX X.K H x t) :
  ∃ Hx : Heap → Prop, PySem.W.KitX X.K u t Hx ∧ Hx s.heap ∧ u ≠ .builtin "__main__.__loader__#opaque" := by
 cases ty with
 | @exc a C ea f =>
  cases (show u = Value.ref a from rx)
  obtain ⟨p, _⟩ := (show ObjOk X.prog X.w H s.heap a (excO a (.ref C)) from I.hok a _ ea)
  exact ⟨_, kitx_exc (vs := #[]) f, p, fun z => nomatch z⟩
 | old ty =>
  cases ty with
  | non => cases (show u = Value.none from rx); exact ⟨_, PySem.W.kitx_none, True.intro, fun z => nomatch z⟩
  | bl y => cases (show u = Value.bool y from rx); exact ⟨_, PySem.W.kitx_bool, True.intro, fun z => nomatch z⟩
  | int i => obtain ⟨t, q⟩ := (show ∃ t, u = Value.int i t from rx); cases q; exact ⟨_, PySem.W.kitx_int, True.intro, fun z => nomatch z⟩
  | str y => obtain ⟨t, q⟩ := (show ∃ t, u = Value.str y t from rx); cases q; exact ⟨_, PySem.W.kitx_str, True.intro, fun z => nomatch z⟩
  | flt y => obtain ⟨t, q⟩ := (show ∃ t, u = Value.float y t from rx); cases q; exact ⟨_, PySem.W.kitx_float, True.intro, fun z => nomatch z⟩
  | @lst a xs ea =>
   cases (show u = Value.ref a from rx)
   obtain ⟨_, _, n, _, h1⟩ := (show ObjOk X.prog X.w H s.heap a (.lst xs) from I.hok a _ ea)
   exact ⟨_, PySem.W.kitx_list, ⟨_, h1, rfl⟩, fun z => nomatch z⟩
  | @frz a ob xs ea =>
   cases (show u = Value.ref a from rx)
   obtain ⟨_, _, _, n, _, h1⟩ := (show ObjOk X.prog X.w H s.heap a (.frz ob (.lst xs)) from I.hok a _ ea)
   exact ⟨_, PySem.W.kitx_list, ⟨_, h1, rfl⟩, fun z => nomatch z⟩
  | @tup a xs ea =>
   cases (show u = Value.ref a from rx)
   obtain ⟨_, _, _, p⟩ := (show ObjOk X.prog X.w H s.heap a (.tup xs) from I.hok a _ ea)
   obtain ⟨o, h1, h2, _⟩ := p
   exact ⟨_, PySem.W.kitx_tuple, ⟨o, h1, h2⟩, fun z => nomatch z⟩
  | @dK a kvs ea =>
   cases (show u = Value.ref a from rx)
   obtain ⟨_, _, vs, _, p⟩ := (show ObjOk X.prog X.w H s.heap a (.dK kvs) from I.hok a _ ea)
   obtain ⟨o, es, ep, h1, h2, _⟩ := p
   exact ⟨_, PySem.W.kitx_dict, ⟨o, h1, h2.1⟩, fun z => nomatch z⟩
  | @dT a kvs ea =>
   cases (show u = Value.ref a from rx)
   obtain ⟨_, _, xs, _, o, es, ep, h1, h2, _⟩ := (show ObjOk X.prog X.w H s.heap a (.dT kvs) from I.hok a _ ea)
   exact ⟨_, PySem.W.kitx_dict, ⟨o, h1, h2.1⟩, fun z => nomatch z⟩
  | @ins a C dx fs ea cl ha hn htk hm =>
   cases (show u = Value.ref a from rx)
   obtain ⟨mA, O, _⟩ := wn I.hok ea
   obtain ⟨od, J, _⟩ := O.look
   exact ⟨_, PySem.W.kitx_own (cl.get _) cl.hd ha hn htk hm, J, fun z => nomatch z⟩
def rIsi (K : PySem.W.Frag) : List V → Hp → VK → Prop := fun xs H Q => ∃ x c t b, xs = [x, c] ∧ TyX K H x t ∧ ((∃ u, clsV c = some u ∧ PySem.W.kitOne K t u = some b) ∨ (∃ p cs us, c = .ref p ∧ H p = some (.tup cs) ∧ Qo cs = some us ∧ PySem.W.kitAny K t us = some b)) ∧ Q (.bl b) H
theorem jm {X : Cx} : CallR X (.builtin "isinstance") (rIsi X.K) := by
 intro pins s σ H xs us Q I r h
 obtain ⟨x, c, t, b, rfl, ty, hc, q⟩ := h
 obtain ⟨v, v2, rfl, rx, rc⟩ := r.two
 obtain ⟨Hx, Z, p, nx⟩ := kit_of I rx ty
 rcases hc with ⟨u, hu, e⟩ | ⟨pt, cs, us, rfl, hp, hu, e⟩
 ·obtain rfl := Qp hu rc
  exact PySem.W.kia_one Z I.kIn p e nx fun tk => ⟨.bl b, H, I.tok tk, rfl, q⟩
 ·cases rc
  obtain ⟨_, its, rv, o, h1, h2, n, h3⟩ := (show ObjOk X.prog X.w H s.heap pt (.tup cs) from I.hok pt _ hp)
  obtain rfl := ZI hu rv
  obtain ⟨cl, dd, dt, sl⟩ := o
  simp only at h2 h3
  subst h2 h3
  exact PySem.W.kia_tup Z I.kIn p h1 e nx fun tk => ⟨.bl b, H, I.tok tk, rfl, q⟩
structure FK (K : PySem.W.Frag) (C : Addr) (qual : Str) (st : Stmt) (ps : List Str) : Prop where
 ex : ∃ f fd, Fun K "__init__" qual st f fd ∧ Mk K C f ∧ Binds K fd ps []
structure FM (K : PySem.W.Frag) (C : Addr) (m qual : Str) (st : Stmt) (ps : List Str) : Prop where
 ex : ∃ f fd, Fun K m qual st f fd ∧ Meth K C m f ∧ Binds K fd ps []
theorem FK.cal {P : Program} {w : World} {K : PySem.W.Frag} {mg : Str → Option Value} {base : Heap} {x : Str} {C : Addr} {qual : Str} {st : Stmt} {ps : List Str} {k : Nat} {sp : Sp} (h : FK K C qual st ps) (gl : mg x = some (.ref C))
  (ok : ∀ {f fd}, Fun K "__init__" qual st f fd → FnOk P w K mg base (CXr P w) k f fd ps sp) : KCal P w K mg base x C k ps [] sp := let ⟨f, fd, F, m, b⟩ := h.ex; ⟨gl, f, fd, [], ok F, m, b, .nil⟩
theorem FM.cal {P : Program} {w : World} {K : PySem.W.Frag} {mg : Str → Option Value} {base : Heap} {C : Addr} {m qual : Str} {st : Stmt} {ps : List Str} {k : Nat} {sp : Sp} (h : FM K C m qual st ps) (cl : Cls K C)
  (ok : ∀ {f fd}, Fun K m qual st f fd → FnOk P w K mg base (CXr P w) k f fd ps sp) : MCal P w K mg base C m k ps [] sp := let ⟨f, fd, F, mm, b⟩ := h.ex; ⟨cl, f, fd, [], ok F, mm, b, .nil⟩
theorem Q9 {K : PySem.W.Frag} {C : Addr} {qual : Str} {st : Stmt} {ps : List Str} {f : Addr} {oc : Value} {od an : Option Addr} {osl : Array (Option Value)} {kV doc pm cdv ct : Value} (mk : PySem.W.makesIn K C = true) (kc : PySem.W.keepIn K (.ref C) = true)
  (a : PySem.W.findIn K (.ref C) "__init__" = some (some (.ref f))) (i : PySem.W.isFn K (.ref f) = true) (l : K.lookup f = some ⟨oc, od, .func (PySem.W.fnOf "__init__" qual (zR st) (zO st) (ze st) .none kV doc pm an cdv ct), osl⟩)
  (c : PySem.W.codeIn K cdv qual = true) (k : PySem.W.keepIn K (.ref f) = true)
  (hb : ∀ (kV doc pm : Value) (an : Option Addr) (cdv ct : Value) (us : List Value), us.length = ps.length → bindArgs (PySem.W.fnOf "__init__" qual (zR st) (zO st) (ze st) .none kV doc pm an cdv ct) ⟨us, []⟩ = pure (ps.zip us)) : FK K C qual st ps :=
 ⟨f, _, jy l c k, ⟨mk, a, i, kc⟩, (jy l c k).binds hb⟩
theorem fm_mk {K : PySem.W.Frag} {C : Addr} {m qual : Str} {st : Stmt} {ps : List Str} {f : Addr} {oc : Value} {od an : Option Addr} {osl : Array (Option Value)} {kV doc pm cdv ct : Value}
  (a : PySem.W.findIn K (.ref C) m = some (some (.ref f))) (i : PySem.W.isFn K (.ref f) = true) (l : K.lookup f = some ⟨oc, od, .func (PySem.W.fnOf m qual (zR st) (zO st) (ze st) .none kV doc pm an cdv ct), osl⟩)
  (c : PySem.W.codeIn K cdv qual = true) (k : PySem.W.keepIn K (.ref f) = true)
  (hb : ∀ (kV doc pm : Value) (an : Option Addr) (cdv ct : Value) (us : List Value), us.length = ps.length → bindArgs (PySem.W.fnOf m qual (zR st) (zO st) (ze st) .none kV doc pm an cdv ct) ⟨us, []⟩ = pure (ps.zip us)) : FM K C m qual st ps :=
 ⟨f, _, jy l c k, ⟨a, i, k⟩, (jy l c k).binds hb⟩
structure WI (K : PySem.W.Frag) (C : Addr) : Prop where
 c : PySem.W.findIn K (.ref C) "__class__" = some (some (.builtin "object.__class__"))
 m : PySem.W.mroIn K C (.type "object") = some true
 g : PySem.W.specialIn K (.builtin "object.__class__") "__get__" = some (some (.builtin "getset_descriptor.__get__"))
 t : PySem.W.takesIn K (.builtin "object.__class__") = some true
theorem WI.ty {K : PySem.W.Frag} {H : Hp} {a C dx : Addr} {fs : List (Str × V)} (f : WI K C) (cl : Cls K C) (h : H a = some (.ins C dx fs)) : TyX K H (.ref a) (.ref C) := .old (.ins h cl f.c f.g f.t f.m)
end L2
namespace L2
open PySem PySem.Spec PySem.Calls PyProof.Rows
section
variable {prog : Program} {w : World} {A : Around} {E : Value → Shared → Prop} {s : Shared}
end
section
variable {X : Cx} {a e : Expr} {ta : TA} {te : TE} {pos p kp : Pos}
def tSumK (X : Cx) (ta : TA) (te : TE) : TE := fun σ H Q => X.mg "sum" = none ∧ ta σ H fun vs H1 => te σ H1 fun y H2 => ∃ l ns c, vs = [.ref l] ∧ y = .int c ∧ SqL X.K H2 l (ns.map V.int) ∧ (c = 0 ∨ ns = []) ∧ Q (.int (c + ns.sum)) H2
theorem sl_any : SlR X (rSlL X.K) := sl_list
theorem qM : CallR X (.type "list") (fun xs H Q => ∃ p ys, xs = [.ref p] ∧ (SqL X.K H p ys ∨ SqT X.K H p ys) ∧ ∀ l, H l = none → Q (.ref l) (upd H l (.lst ys))) := call_list_of
end
end L2
namespace L2
open PySem PySem.Spec PySem.Calls PyProof.Rows
section
variable {X : Cx} {v v1 v2 : Expr} {es : List Expr} {te : TE} {pos p : Pos}
def tFv (te : TE) : TE := fun σ H Q => te σ H fun x H1 => (∃ i, x = .int i ∧ i.natAbs.log2 < 1920 ∧ Q (.str (toString i)) H1) ∨ (∃ y, x = .str y ∧ y.length ≤ sizeLine ∧ Q (.str y) H1)
abbrev TJ := Str → TE
def tJ0 : TJ := fun out _ H Q => out.length ≤ sizeLine ∧ Q (.str out) H
def tJ1 (te : TE) (t : TJ) : TJ := fun out σ H Q => te σ H fun x H1 => ∃ y, x = .str y ∧ (out ++ y).length ≤ sizeLine ∧ t (out ++ y) σ H1 Q
def tCut (t u : TS) : TS := fun D σ H => ∃ M : St → Hp → Prop, t { D with nx := M } σ H ∧ ∀ σ' H', M σ' H' → u D σ' H'
theorem zX {st : Stmt} {rest : List Stmt} {t u : TS} (h1 : PS X st t) (h2 : PSs X rest u) : PSs X (st :: rest) (tCut t u) := by
 intro pins s σ H D I ⟨M, ht, hu⟩
 refine wpAny_execs_cons (thn (h1 pins s σ H _ I ht) fun f s1 q => ?_)
 cases f with
 | next => exact let ⟨σ', H', I', q⟩ := q; h2 pins s1 σ' H' D I' (hu σ' H' q)
 | _ => exact q
def QW (t u : TS) : TS := fun D σ H => tSeq t u D σ H
theorem zg {st : Stmt} {rest : List Stmt} {t u : TS} (h1 : PS X st t) (h2 : PSs X rest u) : PSs X (st :: rest) (QW t u) := show PSs X (st :: rest) (tSeq t u) from zj h1 h2
structure Nx (N : St → Hp → Prop) (u : TS) (D : Ends) : Prop where
 h : ∀ σ H, u D σ H → N σ H
theorem nxt {t u : TS} {D : Ends} {σ : St} {H : Hp} (k : ∀ N, Nx N u D → t { D with nx := N } σ H) : QW t u D σ H := k (u D) ⟨fun _ _ h => h⟩
theorem useN {N : St → Hp → Prop} {u : TS} {D : Ends} {σ : St} {H : Hp} (n : Nx N u D) (q : u D σ H) : N σ H := n.h σ H q
theorem cut {t u : TS} {D : Ends} {σ : St} {H : Hp} (M : St → Hp → Prop) (h1 : t { D with nx := M } σ H) (h2 : ∀ σ' H', M σ' H' → u D σ' H') : tCut t u D σ H := ⟨M, h1, h2⟩
end
end L2
namespace L2
open PySem PySem.Spec PySem.Calls PyProof.Rows
section
variable {X : Cx} {k : Nat} {x m : Str} {p pos apos : Pos} {e o : Expr} {es : List Expr} {ta : TE} {t : TA}
theorem passF : ZU (CXr X.prog X.w) X (fun _ _ _ => False) := fun _ _ _ _ _ _ _ h => let ⟨_, _, _, _, _, _, _, _, _, z⟩ := h; z.elim
def tClN (X : Cx) (k : Nat) (x : Str) (t : TA) : TE := fun σ H Q => ∃ ps dvs sp, Cal X.prog X.w X.K X.mg X.base x k ps dvs sp ∧ t σ H fun vs H1 => sp (vs ++ dvs) H1 Q (fun _ _ _ => False)
theorem ZR (hr : Room k X.A) (ha : PA X (e :: es) t) (hg : Gl X x := by rfl) (hdb : (x == ("__debug__" : Str)) = false := by decide)
  (he : starEach (e :: es) X.env = (false, eval e X.env) :: starEach es X.env := by rfl) (hpl : (backTo pos (starEach es X.env)).any (·.1) = false := by rfl) :
  PE X (.Call (.Name x p) (e :: es) [] pos) (tClN X k x t) := by
 intro pins s σ H Q I h
 obtain ⟨ps, dvs, sp, ⟨f, fd, ds, F, hm, hk, hb, hd⟩, h⟩ := h
 refine wpAny_Call_Name_kw (jx I hg hm ?_ hdb)
 refine PySem.W.callWith_K (h₀ := X.base) I.ok.mod.kin hk (thn (ha pos pins s σ H _ I h) fun us s1 ⟨vs, H1, I1, r, q⟩ => ⟨I1.kIn, ?_⟩) he hpl
 exact Qy F hr hb hd passF I1 r q
def tMkN (X : Cx) (k : Nat) (x : Str) (t : TA) : TE := fun σ H Q => ∃ C ps dvs sp, KCal X.prog X.w X.K X.mg X.base x C k ps dvs sp ∧ t σ H fun vs H1 => ∀ y dx, H1 y = none → H1 dx = none → dx ≠ y →
 sp (.ref y :: (vs ++ dvs)) (upd (upd H1 dx (.own y)) y (.ins C dx [])) (fun v H2 => v = .non ∧ Q (.ref y) H2) (fun _ _ _ => False)
theorem QE (hr : Room (k + 1) X.A) (ha : PA X (e :: es) t) (hg : Gl X x := by rfl) (hdb : (x == ("__debug__" : Str)) = false := by decide)
  (he : starEach (e :: es) X.env = (false, eval e X.env) :: starEach es X.env := by rfl) (hpl : (backTo pos (starEach es X.env)).any (·.1) = false := by rfl) :
  PE X (.Call (.Name x p) (e :: es) [] pos) (tMkN X k x t) := by
 intro pins s σ H Q I h
 obtain ⟨C, ps, dvs, sp, ⟨hm, f, fd, ds, F, M, hb, hd⟩, h⟩ := h
 refine wpAny_Call_Name_kw (jx I hg hm ?_ hdb)
 refine PySem.W.callWith_K (h₀ := X.base) I.ok.mod.kin M.kp (thn (ha pos pins s σ H _ I h) fun us s1 ⟨vs, H1, I1, r, q⟩ => ⟨I1.kIn, ?_⟩) he hpl
 exact run_make M F hr hb hd passF I1 r q
def tMthN (X : Cx) (k : Nat) (m : Str) (ta : TE) (t : TA) : TE := fun σ H Q => ta σ H fun y H1 => ∃ a C dx fs ps dvs sp, y = .ref a ∧ H1 a = some (.ins C dx fs) ∧ fs.lookup m = none ∧
 MCal X.prog X.w X.K X.mg X.base C m k ps dvs sp ∧ t σ H1 fun vs H2 => sp (.ref a :: (vs ++ dvs)) H2 Q (fun _ _ _ => False)
theorem pe_mthN0 {pl : Sem Bool} (hr : Room k X.A) (he : PE X o ta)
  (ht : eval (.Call (.Attribute o m apos) [] [] pos) X.env = (do
   let ov ← eval o X.env
   standAt apos.atName
   let (f, first) ← holding [ov] (getMethod ov m pl)
   callWith pos f first (backTo pos (starEach [] X.env)) (backToKw pos (keywordEach [] X.env))) := by rfl) :
  PE X (.Call (.Attribute o m apos) [] [] pos) (tMthN X k m ta tNil) := by
 intro pins s σ H Q I h
 refine PySem.W.methodCall_KW (pl := pl) (thn (he pins s σ H _ I h) fun u s1 hz => ?_) ht
 obtain ⟨x, H1, I1, rx, a, C, dx, fs, ps, dvs, sp, ex, ea, l, ⟨c, f, fd, ds, F, hm, hb, hd⟩, q⟩ := hz
 subst ex
 obtain rfl : u = Value.ref a := rx
 refine wT I1 ea c hm l ?_
 exact PySem.W.callWith_K0 (first := [.ref a]) I1.kIn hm.kp (Qy (us := [.ref a]) (vs := [.ref a]) F hr hb hd passF I1 (.cons rfl .nil) q)
end
def ql (cells : List (Str × Addr)) : List (Str × NameKind) → List (Str × Addr) → List (Str × Addr)
 | [], cs => cs
 | (n, k) :: r, cs => if k = .free then ql cells r ((n, (cells.lookup n).getD 0) :: cs) else ql cells r cs
def clOk (cells : List (Str × Addr)) (ns : List (Str × NameKind)) : Prop := ∀ y ∈ ns, y.2 = .free → ∃ c, cells.lookup y.1 = some c
theorem j1 {scope : Scope} {env : Env} (h : clOk env.cells scope.names) : closureFor scope env = pure (ql env.cells scope.names []) := by
 simp only [closureFor]
 have key : ∀ (ns : List (Str × NameKind)) (cs : List (Str × Addr)), clOk env.cells ns →
   (forIn ns cs fun x r => if (x.2 == NameKind.free) = true then do let c ← cellOf env x.1; pure (ForInStep.yield ((x.1, c) :: r)) else pure (ForInStep.yield r) : Sem (List (Str × Addr))) = pure (ql env.cells ns cs) := by
  intro ns
  induction ns with
  | nil => intro cs _; rfl
  | cons y r ih =>
   intro cs hc
   obtain ⟨n, k⟩ := y
   have hr : clOk env.cells r := fun z hz => hc z (List.mem_cons_of_mem _ hz)
   rw [List.forIn_cons]
   by_cases hk : k = .free
   ·subst hk
    obtain ⟨c, e⟩ := hc (n, .free) List.mem_cons_self rfl
    have e' : cellOf env n = pure c := by unfold cellOf; simp only at e; rw [e]
    simp only [beq_self_eq_true, if_true, e', pure_bind]
    rw [ih _ hr]
    simp only at e
    simp [ql, e]
   ·have hb : (k == NameKind.free) = false := by simpa using hk
    simp only [hb, Bool.false_eq_true, if_false, pure_bind]
    rw [ih _ hr]
    simp [ql, hk]
 have := key scope.names [] h
 first
  | exact this
  | (simp only [bind_pure] at *; exact this)
theorem j9 {cells : List (Str × Addr)} {x : Str} {c : Addr} : ∀ {ns : List (Str × NameKind)} {cs : List (Str × Addr)}, clOk cells ns → (∀ c, cs.lookup x = some c → cells.lookup x = some c) → (ql cells ns cs).lookup x = some c → cells.lookup x = some c
 | [], _, _, hs, h => hs c h
 | (n, k) :: r, cs, hc, hs, h => by
  have hr : clOk cells r := fun z hz => hc z (List.mem_cons_of_mem _ hz)
  unfold ql at h
  split at h
  ·rename_i hk
   obtain ⟨d, e⟩ := hc (n, k) List.mem_cons_self hk
   refine j9 hr (fun c' hc' => ?_) h
   rw [List.lookup_cons] at hc'
   split at hc'
   ·rename_i hx
    have hx : x = n := by simpa using hx
    subst hx
    simp only at e
    rw [e] at hc' ⊢
    exact hc'
   ·exact hs c' hc'
  ·exact j9 hr hs h
theorem jQ {cells : List (Str × Addr)} {x : Str} : ∀ {ns : List (Str × NameKind)} {cs : List (Str × Addr)}, (∃ c, cs.lookup x = some c) → ∃ c, (ql cells ns cs).lookup x = some c
 | [], _, h => h
 | (n, k) :: r, cs, h => by
  unfold ql
  split
  ·refine jQ ?_
   rw [List.lookup_cons]
   split
   ·exact ⟨_, rfl⟩
   ·exact h
  ·exact jQ h
theorem j8 {cells : List (Str × Addr)} {x : Str} : ∀ {ns : List (Str × NameKind)} {cs : List (Str × Addr)}, (x, NameKind.free) ∈ ns → ∃ c, (ql cells ns cs).lookup x = some c
 | [], _, h => by simp at h
 | (n, k) :: r, cs, h => by
  unfold ql
  rcases List.mem_cons.mp h with h | h
  ·cases h
   rw [if_pos rfl]
   exact jQ ⟨(cells.lookup x).getD 0, by rw [List.lookup_cons]; simp⟩
  ·split <;> exact j8 h
def Qz (scope osc : Scope) : Scope :=
 { scope with names := scope.names.map fun (n, k) => if (k == .free && osc.kind == .function && osc.names.lookup n == some .cell) then (n, .cell) else (n, k) }
theorem relab_free {scope osc : Scope} {x : Str} (hcell : ∀ y ∈ scope.names, y.2 ≠ .cell) (h : (Qz scope osc).names.lookup x = some .cell ∨ (Qz scope osc).names.lookup x = some .free) : (x, NameKind.free) ∈ scope.names := by
 have key : ∀ k, (k = .cell ∨ k = .free) → (Qz scope osc).names.lookup x = some k → (x, NameKind.free) ∈ scope.names := fun k hk hl => by
  have hm := PySem.mem_of_lookup hl
  obtain ⟨⟨n, k'⟩, hm', e⟩ := List.mem_map.mp hm
  simp only at e
  split at e
  ·rename_i hc
   simp only [Bool.and_eq_true, beq_iff_eq] at hc
   cases e
   rw [← hc.1.1]; exact hm'
  ·cases e
   rcases hk with rfl | rfl
   ·exact absurd rfl (hcell _ hm')
   ·exact hm'
 rcases h with h | h
 ·exact key _ (.inl rfl) h
 ·exact key _ (.inr rfl) h
def cxC (X : Cx) (N : List Str) (scope : Scope) (s : Shared) (H : Hp) (fp : List Addr) (pins : List (Addr × Obj)) : Cx where
 prog := X.prog
 w := X.w
 K := X.K
 mg := X.mg
 base := X.base
 A := X.A
 N := N
 s₀ := s
 H₀ := H
 env := compEnvC scope (ql X.env.cells scope.names []) s.heap.objs.size X.env
 outer := X.stack
 stack := X.stack
 ex := fp
 fn := fun _ => false
 calm := X.calm
 pn := X.pn ++ pins
 xe := fun _ _ => False
def stC (nv : Nat) (caps : List Nat) (σ : St) : St := List.replicate nv none ++ caps.map fun k => (σ[k]?).getD none
structure CompOk (osc scope : Scope) (ON : List Str) (vars : List Str) (caps : List Nat) : Prop where
 kind : scope.kind = .function
 cell : ∀ y ∈ scope.names, y.2 ≠ .cell
 loc : ∀ y ∈ scope.names, y.2 = .local → scope.names.lookup y.1 = some .local
 free : ∀ y ∈ scope.names, y.2 = .free → osc.names.lookup y.1 = some .cell ∨ osc.names.lookup y.1 = some .free
 caps : ∀ k ∈ caps, k < ON.length ∧ scope.names.lookup (ON.getD k Str.empty) = some .free
def Qn (osc scope : Scope) (ON : List Str) (caps : List Nat) : Bool :=
 scope.kind == .function && scope.names.all (fun y => y.2 != .cell) && scope.names.all (fun y => y.2 != .local || scope.names.lookup y.1 == some .local) &&
 scope.names.all (fun y => y.2 != .free || (osc.names.lookup y.1 == some .cell || osc.names.lookup y.1 == some .free)) && caps.all fun k => decide (k < ON.length) && scope.names.lookup (ON.getD k Str.empty) == some .free
theorem ZH {osc scope : Scope} {ON vars : List Str} {caps : List Nat} (h : Qn osc scope ON caps = true) : CompOk osc scope ON vars caps := by
 simp only [Qn, Bool.and_eq_true, List.all_eq_true, beq_iff_eq, bne_iff_ne, Bool.or_eq_true, decide_eq_true_eq] at h
 obtain ⟨⟨⟨⟨h1, h2⟩, h3⟩, h4⟩, h5⟩ := h
 refine ⟨h1, h2, fun y hy e => (h3 y hy).resolve_left (fun z => z e), fun y hy e => (h4 y hy).resolve_left (fun z => z e), fun k hk => h5 k hk⟩
theorem wI {osc : Scope} {x : Str} : ∀ {ns : List (Str × NameKind)}, ns.lookup x = some .free →
  (ns.map fun (n, k) => if (k == NameKind.free && osc.kind == .function && osc.names.lookup n == some .cell) then (n, NameKind.cell) else (n, k)).lookup x = some .cell ∨
  (ns.map fun (n, k) => if (k == NameKind.free && osc.kind == .function && osc.names.lookup n == some .cell) then (n, NameKind.cell) else (n, k)).lookup x = some .free
 | [], h => by simp at h
 | (n, k) :: r, h => by
  have ih := @wI osc x r
  rw [List.map_cons]
  show List.lookup x ((if (k == NameKind.free && osc.kind == .function && osc.names.lookup n == some .cell) = true then (n, NameKind.cell) else (n, k)) :: _) = _ ∨ List.lookup x ((if (k == NameKind.free && osc.kind == .function && osc.names.lookup n == some .cell) = true then (n, NameKind.cell) else (n, k)) :: _) = _
  cases hx : x == n with
  | true =>
   simp only [List.lookup_cons, hx] at h
   cases h
   split
   ·exact .inl (by simp [List.lookup_cons, hx])
   ·exact .inr (by simp [List.lookup_cons, hx])
  | false =>
   simp only [List.lookup_cons, hx] at h
   split <;> (simp only [List.lookup_cons, hx]; exact ih h)
section
variable {X : Cx} {pins : List (Addr × Obj)} {σ : St} {H : Hp} {s : Shared} {fp : List Addr} {N vars : List Str} {caps : List Nat} {scope osc : Scope}
theorem inv_comp (I : Inv X pins σ H s) (hosc : X.env.scope = osc) (C : CompOk osc scope X.N vars caps) (hN : N = vars ++ caps.map fun k => X.N.getD k Str.empty)
  (hf : ∀ b ∈ fp, FpOk X pins H b) (hfo : ∀ b ∈ fp, ∃ o, s.heap.get? b = some o)
  {h' : Heap} {tk : Nat} {mm : Str → Option Value} (hns : h'.Ns s.heap.objs.size mm) (hk : ∀ b o, s.heap.get? b = some o → h'.get? b = some o) :
  Inv (cxC X N scope s H fp pins) [] (stC vars.length caps σ) H { s with heap := h', toks := tk } := by
 have hkf : ∀ y ∈ scope.names, y.2 = .free → X.env.kindOf y.1 = some .cell ∨ X.env.kindOf y.1 = some .free := fun y hy e => by
  have z := C.free y hy e
  rw [← hosc] at z
  exact z
 have hcl : clOk X.env.cells scope.names := fun y hy e => I.ok.has y.1 (hkf y hy e)
 have get : ∀ x c, (ql X.env.cells scope.names []).lookup x = some c → X.env.cells.lookup x = some c := fun x c h => j9 hcl (fun c h => by simp at h) h
 refine ⟨⟨I.ok.mod, C.kind, I.ok.glob, I.ok.blt, Nat.le_refl _, fun x y c h1 h2 => I.ok.inj x y c (get x c h1) (get y c h2), fun x hx => j8 (relab_free (osc := X.env.scope) C.cell hx), fun _ _ h _ => Bool.noConfusion h, I.ok.hd, I.ok.frames, .inl rfl,
   fun b hb => ⟨?_, fun x c h => (hf b hb).2.2.2.2.1 x c (get x c h)⟩, I.bs, Nat.le_trans I.ok.bsz I.sz, fun b o e hb => ?_, fun b hb z => (List.mem_cons.mp (I.stkSub b z)).elim (hf b hb).2.1 (hf b hb).2.2.1, I.stack, I.stkFree⟩,
  rfl, I.bare, Un.kept hk, ⟨_, hns, fun i x v e1 e2 e3 => ?_⟩, fun x c h => ?_, I.hok.fresh (Nat.le_refl _), fun x c h => I.freeC x c (get x c h), fun p hp => ?_, I.hok.kept hk, ?_⟩
 ·obtain ⟨o, e⟩ := hfo b hb
  exact Nat.ne_of_lt (Heap.lt_size e)
 ·rcases (hf b hb).2.2.2.1 with z | z
  ·exact I.ok.noex b o e z
  ·exact absurd (Nat.lt_of_lt_of_le (Heap.lt_size (I.ok.bs b o e).1) z) (Nat.lt_irrefl _)
 ·have hi : ¬ i < vars.length := fun hi => by
   unfold stC at e2
   rw [List.getElem?_append_left (by simpa using hi), List.getElem?_replicate] at e2
   split at e2 <;> cases e2
  have e1' : (vars ++ caps.map fun k => X.N.getD k Str.empty)[i]? = some x := by rw [← hN]; exact e1
  unfold stC at e2
  rw [List.getElem?_append_right (by simpa using hi), List.length_replicate, List.getElem?_map] at e2
  rw [List.getElem?_append_right (by omega), List.getElem?_map] at e1'
  cases ek : caps[i - vars.length]? with
  | none => rw [ek] at e2; cases e2
  | some k =>
   rw [ek] at e1' e2
   obtain ⟨hkl, hlk⟩ := C.caps k (List.mem_of_getElem? ek)
   have ex : X.N.getD k Str.empty = x := by simpa using e1'
   have es : σ[k]?.getD none = some v := by simpa using e2
   have es' : σ[k]? = some (some v) := by
    cases q : σ[k]? with
    | none => rw [q] at es; cases es
    | some z => rw [q] at es; simp only [Option.getD_some] at es; rw [es]
   have eN : X.N[k]? = some x := by
    rw [← ex, List.getD_eq_getElem?_getD, List.getElem?_eq_getElem hkl]; rfl
   rw [ex] at hlk
   have hm : (x, NameKind.free) ∈ scope.names := PySem.mem_of_lookup hlk
   have hkx := hkf _ hm rfl
   obtain ⟨m, _, hl⟩ := I.loc
   obtain ⟨u, r, L⟩ := hl k x v eN es' (hkx.elim (fun z => .inr (.inl z)) fun z => .inr (.inr z))
   refine ⟨u, r, .inr ⟨wI (osc := X.env.scope) hlk, ?_⟩⟩
   obtain ⟨c', ec⟩ := j8 (cells := X.env.cells) (cs := []) hm
   rcases L with ⟨z, _⟩ | ⟨_, c, ec2, o, ho, hd⟩
   ·rcases hkx with y | y <;> (simp only at y; rw [y] at z; cases z)
   ·have z := get x c' ec
    rw [ec2] at z
    obtain rfl : c = c' := Option.some.inj z
    exact ⟨c, ec, o, hk _ _ ho, hd⟩
 ·obtain ⟨v, o, ho, hd⟩ := I.cell x c (get x c h)
  exact ⟨v, o, hk _ _ ho, hd⟩
 ·have hp' : p ∈ X.pn ++ pins := by simpa [cxC] using hp
  obtain ⟨e, n, ne, nf, d⟩ := I.pin p hp'
  exact ⟨hk _ _ e, n, Nat.ne_of_lt (Heap.lt_size e), fun z => (List.mem_cons.mp (I.stkSub _ z)).elim ne nf, d⟩
 ·show (stC vars.length caps σ).length = N.length
  rw [hN]
  simp [stC]
theorem inv_uncomp {σ' : St} {H' : Hp} {s' : Shared} (I : Inv X pins σ H s) (hf : ∀ b ∈ fp, FpOk X pins H b) (I' : Inv (cxC X N scope s H fp pins) [] σ' H' s') : Inv X pins σ H' s' :=
 I.call' (ch := fp) I'.os I'.base I'.hok I'.bare fun b hb => ⟨(hf b hb).2.2.2.1, (hf b hb).2.1, (hf b hb).2.2.2.2.1, (hf b hb).2.2.2.2.2⟩
end
section
variable {prog : Program} {w : World} {A : Around} {R : Result → Shared → Prop} {s : Shared}
abbrev NoX : Value → Shared → Prop := fun _ _ => False
theorem comp_loop {elt target iter : Expr} {ifs : List Expr} {scope : Scope} {pos : Pos} {it acc : Value} {env : Env} (I : Nat → Shared → Prop)
  (turn : ∀ n s, I n s → wpAny (model prog w) A (pyNext it) (fun r s₁ => match r with
   | none => R (.ok .next) s₁
   | some v => wpAny (model prog w) A (letOwnedTupleGo target it v) (fun _ s₁' => wpAny (model prog w) A (assign target env v) (fun _ s₂ =>
     wpAny (model prog w) A (forIn ifs true fun c r => if r = true then do let ok ← isTrue c env (eval c env); pure (ForInStep.yield ok) else pure (ForInStep.yield r)) (fun ok s₃ =>
      if ok = true then wpAny (model prog w) A (eval elt env) (fun x s₄ =>
       wpAny (model prog w) A (call (.builtin "list.append") [acc, x]) (fun _ s₅ => ∃ m, m < n ∧ I m s₅) NoX s₄) NoX s₃
      else ∃ m, m < n ∧ I m s₃) NoX s₂) NoX s₁') NoX s₁) NoX s)
  (n : Nat) (h : I n s) :
  codeAny (model prog w) A (.compLoop (.ListComp elt [⟨target, iter, ifs, 0⟩] scope pos) 0 it acc env) R s := by
 refine codeAny_loop rfl I (fun n s hI => ?_) n h
 show wpAny _ A ((compTurn (.ListComp elt [⟨target, iter, ifs, 0⟩] scope pos) 0 it acc env).onRaise (fun x => do noteFrame x env; theTreesLotGoes x)) _ _ s
 refine wpAny_noted ?_
 rw [compTurn_list]
 refine wpAny_bind (wpAny_standAt (wpAny_bind (wpAny_mono (turn n s hI) (fun r s₁ h₁ => ?_) fun _ _ h' => h'.elim)))
 cases r with
 | none => exact wpAny_pure h₁
 | some v =>
  refine wpAny_bind (wpAny_mono h₁ (fun _ s₁' h₁' => ?_) fun _ _ h' => h'.elim)
  refine wpAny_bind (wpAny_mono h₁' (fun _ s₂ h₂ => wpAny_bind (wpAny_mono h₂ (fun ok s₃ h₃ => ?_) fun _ _ h' => h'.elim)) fun _ _ h' => h'.elim)
  cases ok with
  | false => exact wpAny_pure ⟨rfl, h₃⟩
  | true =>
   exact wpAny_bind (wpAny_bind (wpAny_mono h₃ (fun x s₄ h₄ => wpAny_bind (wpAny_mono h₄ (fun _ s₅ h₅ => wpAny_pure (wpAny_pure ⟨rfl, h₅⟩)) fun _ _ h' => h'.elim)) fun _ _ h' => h'.elim))
end
def PIfs (X : Cx) (ifs : List Expr) (t : TT) : Prop :=
 ∀ (pins : List (Addr × Obj)) (s : Shared) (σ : St) (H : Hp) (Q : Bool → Hp → Prop), Inv X pins σ H s → t σ H Q →
  wpAny (model X.prog X.w) X.A (forIn ifs true fun c r => if r = true then do let ok ← isTrue c X.env (eval c X.env); pure (ForInStep.yield ok) else pure (ForInStep.yield r)) (TP X pins σ Q) X.xe s
def tYes : TT := fun _ H Q => Q true H
theorem qm {X : Cx} : PIfs X [] tYes := fun _ _ _ H _ I h => wpAny_tests_nil ⟨H, I, h⟩
theorem pif_one {X : Cx} {c : Expr} {t : TT} (h : PT X c t) : PIfs X [c] t := fun pins s σ H Q I hw => wpAny_tests_one (h pins s σ H Q I hw)
abbrev CB (α : Type) := Shared → Hp → List Addr → List (Addr × Obj) → α
def tLc (wi : TI) (nv : Nat) (caps : List Nat) (g : CB TG) (tt : CB TT) (te : CB TE) : TE := fun σ H Q => wi σ H fun J H1 => ∀ (s3 : Shared) (H3 : Hp) (fp : List Addr) (pns : List (Addr × Obj)) acc, H1 acc = none →
 ∃ W : Nat → Nat → St → Hp → Prop, (∃ m, W 0 m (stC nv caps σ) (upd H1 acc (.lst []))) ∧ ∀ i m σ' H', W i m σ' H' →
  (J.stop i H' ∧ Q (.ref acc) H') ∨ (J.go i H' ∧ ∃ N : St → Hp → Prop, (∀ σ'' H'', N σ'' H'' → ∃ m', m' < m ∧ W (i + 1) m' σ'' H'') ∧ ∀ x H'', J.yld i H' x H'' → g s3 H3 fp pns x σ' H'' fun σ2 H2 => tt s3 H3 fp pns σ2 H2 fun b H5 =>
   if b = true then te s3 H3 fp pns σ2 H5 fun y H4 => ∃ ys, H4 acc = some (.lst ys) ∧ ys.length < sizeLine ∧ N σ2 (upd H4 acc (.lst (ys ++ [y]))) else N σ2 H5)
section
variable {X : Cx} {elt target iter : Expr} {ifs : List Expr} {scope osc : Scope} {pos : Pos} {wi : TI} {g : CB TG} {tt : CB TT} {te : CB TE} {N vars : List Str} {caps : List Nat}
theorem wZ {pins : List (Addr × Obj)} {σ : St} {H2 : Hp} {s2 : Shared} {it : Addr} {fp : List Addr} {tn : Nat → Heap → Prop} {J : It} {Q : VK} {RR : Value → Addr → Result → Shared → Prop} {E : Value → Shared → Prop}
  (hosc : X.env.scope = osc) (C : CompOk osc scope X.N vars caps) (hN : N = vars ++ caps.map fun k => X.N.getD k Str.empty) (hc : X.calm = true)
  (hg : ∀ s H fp pins, PG (cxC X N scope s H fp pins) target (g s H fp pins)) (ht : ∀ s H fp pins, PIfs (cxC X N scope s H fp pins) ifs (tt s H fp pins)) (he : ∀ s H fp pins, PE (cxC X N scope s H fp pins) elt (te s H fp pins))
  (I2 : Inv X pins σ H2 s2) (T : Turn X.prog X.w X.K target J fp it tn) (st2 : tn 0 s2.heap) (hf : ∀ b ∈ fp, FpOk X pins H2 b)
  (h : ∀ (s3 : Shared) (H3 : Hp) (fp : List Addr) (pns : List (Addr × Obj)) acc, H2 acc = none → ∃ W : Nat → Nat → St → Hp → Prop, (∃ m, W 0 m (stC vars.length caps σ) (upd H2 acc (.lst []))) ∧ ∀ i m σ' H', W i m σ' H' →
   (J.stop i H' ∧ Q (.ref acc) H') ∨ (J.go i H' ∧ ∃ N : St → Hp → Prop, (∀ σ'' H'', N σ'' H'' → ∃ m', m' < m ∧ W (i + 1) m' σ'' H'') ∧ ∀ x H'', J.yld i H' x H'' → g s3 H3 fp pns x σ' H'' fun σ2 H2 => tt s3 H3 fp pns σ2 H2 fun b H5 =>
    if b = true then te s3 H3 fp pns σ2 H5 fun y H4 => ∃ ys, H4 acc = some (.lst ys) ∧ ys.length < sizeLine ∧ N σ2 (upd H4 acc (.lst (ys ++ [y]))) else N σ2 H5))
  (hRR : ∀ acc C s' H' m, Inv X pins σ H' s' → Q (.ref acc) H' → s'.heap.Ns C m → H' C = none → C ≠ X.env.locals → X.s₀.heap.objs.size ≤ C → (∀ x c, X.env.cells.lookup x = some c → c ≠ C) → (∀ p ∈ X.pn ++ pins, p.1 ≠ C) → RR (.ref acc) C (.ok .next) s') :
  wpAny (model X.prog X.w) X.A (newList []) (fun acc s₃ => wpAny (model X.prog X.w) X.A (newFunctionEnv scope X.env.globals (ql X.env.cells scope.names []) [] X.env.qual none .none (some X.env)) (fun cenv s₄ =>
   codeAny (model X.prog X.w) X.A (.compStart (.ListComp elt [⟨target, iter, ifs, 0⟩] scope pos) 0 (.ref it) acc { cenv with scope := relabel scope X.env }) (RR acc cenv.locals) s₄) E s₃) E s2 := by
 refine wpAny_newObj_type (wpAny_newFunctionEnv C.cell (by intro y hy; simp at hy) (fun h₁ hns₁ hsb₁ => ?_) C.kind)
 obtain ⟨W, ⟨m0, w0⟩, turn⟩ := h { s2 with heap := s2.heap.push { cls := .type "list", dict := none, data := .seq ([] : List Value).toArray } } (upd H2 s2.heap.objs.size (.lst [])) fp pins s2.heap.objs.size I2.fresh
 have I3 : Inv X pins σ (upd H2 s2.heap.objs.size (.lst [])) { s2 with heap := s2.heap.push { cls := .type "list", dict := none, data := .seq ([] : List Value).toArray } } := I2.lnew (its := []) (t' := s2.toks) .nil (by decide)
 dsimp only at hns₁ hsb₁ ⊢
 have hfo : ∀ b ∈ fp, ∃ o, s2.heap.get? b = some o := fun b hb => let ⟨o, e, _⟩ := T.obj _ _ st2 b hb; ⟨o, e⟩
 have hf3 : ∀ b ∈ fp, FpOk X pins (upd H2 s2.heap.objs.size (.lst [])) b := fun b hb => by
  refine ⟨?_, (hf b hb).2⟩
  obtain ⟨o, e⟩ := hfo b hb
  rw [upd_ne (Nat.ne_of_lt (Heap.lt_size e))]
  exact (hf b hb).1
 generalize hs3 : ({ s2 with heap := s2.heap.push { cls := .type "list", dict := none, data := .seq ([] : List Value).toArray } } : Shared) = s3 at I3 turn
 have eh : s2.heap.push { cls := .type "list", dict := none, data := .seq ([] : List Value).toArray } = s3.heap := by rw [← hs3]
 have old : ∀ b o, s2.heap.get? b = some o → s3.heap.get? b = some o := fun b o e => by rw [← eh]; exact Heap.get?_push_of_some _ e
 rw [eh] at hns₁ hsb₁ ⊢
 have es : ({ s2 with heap := h₁, toks := s2.toks + ([] : List (Str × Value)).length } : Shared) = { s3 with heap := h₁, toks := s2.toks } := by rw [← hs3]; rfl
 rw [es]
 generalize hH3 : upd H2 s2.heap.objs.size (.lst []) = H3 at *
 have hk : ∀ b o, s3.heap.get? b = some o → h₁.get? b = some o := fun b o e => hsb₁.extBut b o (Nat.ne_of_lt (Heap.lt_size e)) (Heap.get?_push_of_some _ e)
 have I4 : Inv (cxC X N scope s3 H3 fp pins) [] (stC vars.length caps σ) H3 { s3 with heap := h₁, toks := s2.toks } := inv_comp I3 hosc C hN hf3 (fun b hb => let ⟨o, e⟩ := hfo b hb; ⟨o, old b o e⟩) hns₁ hk
 have st4 : tn 0 h₁ := T.keep _ _ _ st2 fun b hb o e => hk b o (old b o e)
 have stat : ∀ {H' : Hp}, (∀ b ∈ fp, H' b = none) → ∀ b ∈ fp, FpOk (cxC X N scope s3 H3 fp pins) [] H' b := fun hn b hb =>
  ⟨hn b hb, (I4.ok.exf b hb).1, I4.ok.exfs b hb, .inl hb, (I4.ok.exf b hb).2, fun p hp => (hf b hb).2.2.2.2.2 p (by simpa [cxC] using hp)⟩
 have loop : ∀ s4 : Shared, s4 = { s3 with heap := h₁, toks := s2.toks } →
   codeAny (model X.prog X.w) X.A (.compLoop (.ListComp elt [⟨target, iter, ifs, 0⟩] scope pos) 0 (.ref it) (.ref s2.heap.objs.size) (cxC X N scope s3 H3 fp pins).env) (RR (.ref s2.heap.objs.size) s3.heap.objs.size) s4 := by
  rintro s4 rfl
  refine comp_loop (fun n s' => ∃ i σ' H', Inv (cxC X N scope s3 H3 fp pins) [] σ' H' s' ∧ tn i s'.heap ∧ (∀ b ∈ fp, H' b = none) ∧ W i n σ' H') ?_ m0 ⟨0, _, H3, I4, st4, fun b hb => (hf3 b hb).1, w0⟩
  rintro n s5 ⟨i, σ5, H5, I5, st5, fr5, w5⟩
  rcases turn i n σ5 H5 w5 with ⟨stop, qn⟩ | ⟨go, NN, hNN, step⟩
  ·refine thn (T.done (cxC X N scope s3 H3 fp pins) rfl rfl rfl hc i [] s5 σ5 H5 NoX I5 (stat fr5) st5 stop) fun r s6 ⟨hr, I6⟩ => ?_
   subst hr
   obtain ⟨m, hn, _⟩ := I6.loc
   have hlt : ∀ b o, s3.heap.get? b = some o → b ≠ s3.heap.objs.size := fun b o e => Nat.ne_of_lt (Heap.lt_size e)
   obtain ⟨m3, ⟨oL, _, _, hoL, _⟩, _⟩ := I3.loc
   refine hRR _ _ s6 H5 m (inv_uncomp I3 hf3 I6) qn hn I6.free (fun z => hlt _ _ hoL z.symm) I3.sz (fun x c ec z => ?_) fun p hp z => hlt _ _ (I3.pin p hp).1 z
   obtain ⟨v, o, ho, _⟩ := I3.cell x c ec
   exact hlt _ _ ho z
  ·refine thn (T.item (cxC X N scope s3 H3 fp pins) rfl rfl rfl hc i [] s5 σ5 H5 NoX I5 (stat fr5) st5 go) fun r s6 ⟨u, hr, h6⟩ => ?_
   subst hr
   refine thn h6 fun _ s7 ⟨x, H7, I7, r7, y7, st7, fr7⟩ => ?_
   have I7' := I7.pinned (stat fr7) (T.obj _ _ st7)
   have again : ∀ {σ8 : St} {H8 : Hp} {s8 : Shared}, Inv (cxC X N scope s3 H3 fp pins) ([] ++ wK fp s7.heap) σ8 H8 s8 → NN σ8 H8 → ∃ m, m < n ∧ ∃ i σ' H', Inv (cxC X N scope s3 H3 fp pins) [] σ' H' s8 ∧ tn i s8.heap ∧ (∀ b ∈ fp, H' b = none) ∧ W i m σ' H' := fun {σ8 H8 s8} I8 n8 => by
    obtain ⟨m', hm, w8⟩ := hNN σ8 H8 n8
    refine ⟨m', hm, i + 1, σ8, H8, I8.unpinned, T.keep _ _ _ st7 fun b hb o e => (I8.pin (b, o) (List.mem_append_right _ (List.mem_append_right _ (jw hb e)))).1, fun b hb => ?_, w8⟩
    obtain ⟨o, e, d⟩ := T.obj _ _ st7 b hb
    exact (I8.pin (b, o) (List.mem_append_right _ (List.mem_append_right _ (jw hb e)))).2.1
   refine thn (hg s3 H3 fp pins _ s7 σ5 H7 x u _ I7' r7 (step x H7 y7)) fun _ s8 ⟨σ8, H8, I8, q8⟩ => ?_
   refine thn (ht s3 H3 fp pins _ s8 σ8 H8 _ I8 q8) fun b s9 ⟨H9, I9, q9⟩ => ?_
   cases b with
   | false => exact again I9 q9
   | true =>
    refine thn (he s3 H3 fp pins _ s9 σ8 H9 _ I9 q9) fun v s10 ⟨y, H10, I10, r10, ys, ea, hz, q10⟩ => ?_
    refine thn (qb (X := cxC X N scope s3 H3 fp pins) _ s10 σ8 H10 (.ref s2.heap.objs.size) [y] (.ref s2.heap.objs.size) [v] (fun _ H' => NN σ8 H') I10 rfl (.cons r10 .nil) ⟨_, ys, y, rfl, rfl, ea, hz, q10⟩) fun _ s11 ⟨_, H11, I11, _, q11⟩ => ?_
    exact again I11 q11
 exact codeAny_compStart_list (loop _ rfl) (T.self X.A 0 _ _ _ st4 (loop _ rfl))
theorem jK {ON : List Str} (hosc : X.env.scope = osc) (hON : X.N = ON) (hB : Qn osc scope ON caps = true) (hN : N = vars ++ caps.map fun k => ON.getD k Str.empty) (hc : X.calm = true) (hi : PI X target iter wi)
  (hg : ∀ s H fp pins, PG (cxC X N scope s H fp pins) target (g s H fp pins)) (ht : ∀ s H fp pins, PIfs (cxC X N scope s H fp pins) ifs (tt s H fp pins)) (he : ∀ s H fp pins, PE (cxC X N scope s H fp pins) elt (te s H fp pins))
  (hs : ∀ x, foldedSetIterable iter X.env x = pure x := by intro _; rfl) : PE X (.ListComp elt [⟨target, iter, ifs, 0⟩] scope pos) (tLc wi vars.length caps g tt te) := by
 subst hON
 intro pins s σ H Q I h
 have C : CompOk osc scope X.N vars caps := ZH hB
 have hclos : closureFor scope X.env = pure (ql X.env.cells scope.names []) := j1 fun y hy e => I.ok.has y.1 (by have z := C.free y hy e; rw [← hosc] at z; exact z)
 rw [eval_ListComp]
 refine wpAny_comprehension_free (use := none) rfl hs hclos C.kind C.loc (thn (hi pins s σ H _ I h) fun v s1 h1 => thn h1 fun itv s2 h2 => ?_)
 obtain ⟨it, fp, tn, J, H2, e, I2, T, st2, f2, hw⟩ := h2
 subst e
 refine wZ (N := N) (RR := fun acc Cc => compPost (model X.prog X.w) X.A X.xe none (EP X pins σ Q) acc Cc) hosc C hN hc hg ht he I2 T st2 f2 hw fun acc Cc s' H' m I' q hn hC hL hsz hcc hpp => ?_
 refine ⟨m, hn, fun h' hs' => ⟨.ref acc, H', ?_, rfl, q⟩⟩
 exact I'.turned (t' := s'.toks) (it := Cc) (fun b o hb e => (hs'.2 b hb).trans e) hC (fun z => hL z) (.inr hsz) hcc hpp
theorem QB {ON : List Str} {i : Nat} {x : Str} {pos' spos : Pos} (hNd : X.N.Nodup) (hix : X.N[i]? = some x) (hx : Loc X.env.scope x)
  (hosc : X.env.scope = osc) (hON : X.N = ON) (hB : Qn osc scope ON caps = true) (hN : N = vars ++ caps.map fun k => ON.getD k Str.empty) (hc : X.calm = true) (hi : PI X target iter wi)
  (hg : ∀ s H fp pins, PG (cxC X N scope s H fp pins) target (g s H fp pins)) (ht : ∀ s H fp pins, PIfs (cxC X N scope s H fp pins) ifs (tt s H fp pins)) (he : ∀ s H fp pins, PE (cxC X N scope s H fp pins) elt (te s H fp pins))
  (hsw : swapsWith (.ListComp elt [⟨target, iter, ifs, 0⟩] scope pos) (some (.Name x pos')) spos.line X.env = pure true := by rfl)
  (hf : X.fn x = true ∨ X.env.scope.names.lookup x = some .local := by walk_at "p")
  (hs : ∀ x, foldedSetIterable iter X.env x = pure x := by intro _; rfl) : PS X (.Assign [.Name x pos'] (.ListComp elt [⟨target, iter, ifs, 0⟩] scope pos) spos) (tAsg (tLc wi vars.length caps g tt te) (gName i)) := by
 subst hON
 intro pins s σ H D I h
 have C : CompOk osc scope X.N vars caps := ZH hB
 have hclos : closureFor scope X.env = pure (ql X.env.cells scope.names []) := j1 fun y hy e => I.ok.has y.1 (by have z := C.free y hy e; rw [← hosc] at z; exact z)
 rw [exec_Assign_Name_used _ _ _ _ hsw]
 refine wpAny_bind (wpAny_standAt (wpAny_bind ?_))
 show wpAny _ X.A (do let _ ← comprehension (.ListComp elt [⟨target, iter, ifs, 0⟩] scope pos) scope X.env _ (newList []) false (eval iter X.env) (some (assign (.Name x pos') X.env))) _ _ s
 refine wpAny_bind (wpAny_mono (wpAny_comprehension_free (use := some (assign (.Name x pos') X.env)) (Q := fun _ s' => SP X pins D .next s') rfl hs hclos C.kind C.loc (thn (hi pins s σ H _ I h) fun v s1 h1 => thn h1 fun itv s2 h2 => ?_)) (fun _ s' hq => wpAny_pure (wpAny_pure hq)) fun _ _ e => e)
 obtain ⟨it, fp, tn, J, H2, e, I2, T, st2, f2, hw⟩ := h2
 subst e
 refine wZ (N := N) (Q := fun v H1 => gName i v σ H1 D.nx) (RR := fun acc Cc => compPost (model X.prog X.w) X.A X.xe (some (assign (.Name x pos') X.env)) (fun _ s' => SP X pins D .next s') acc Cc) hosc C hN hc hg ht he I2 T st2 f2 hw fun acc Cc s' H' m I' q hn hC hL hsz hcc hpp => ?_
 refine wpAny_assign_Name (vf I' hNd hix hx (v := .ref acc) rfl (fun s3 I3 ⟨a, sb, ha⟩ => ?_) hf)
 have hne : Cc ≠ a := fun z => by
  rcases ha with e | e
  ·exact hL (z.trans e)
  ·exact hcc x a e z.symm
 refine ⟨m, hn.sameBut sb hne, fun h' hs' => ⟨_, H', ?_, q⟩⟩
 exact I3.turned (t' := s3.toks) (it := Cc) (fun b o hb e => (hs'.2 b hb).trans e) hC (fun z => hL z) (.inr hsz) hcc hpp
end
end L2
namespace L2
open PySem PySem.Spec PySem.Calls PyProof.Rows
section
variable {X : Cx} {pins : List (Addr × Obj)} {σ : St} {H : Hp} {s : Shared} {h' : Heap} {ch : List Addr}
theorem Inv.turnNew {T : Addr} {o : HO} {t' : Nat} (I : Inv X pins σ H s) (hch : ∀ b ∈ ch, FpOk X pins H b) (hT : s.heap.objs.size ≤ T) (keep : ∀ b o, b ∉ ch → s.heap.get? b = some o → h'.get? b = some o)
  (new : ObjOk X.prog X.w (upd H T o) h' T o) : Inv X pins σ (upd H T o) { s with heap := h', toks := t' } := by
 have hn : H T = none := I.hok.fresh hT
 have lt : ∀ b u, s.heap.get? b = some u → b ≠ T := fun b u e => Nat.ne_of_lt (Nat.lt_of_lt_of_le (Heap.lt_size e) hT)
 have nch : ∀ b u, H b = some u → b ∉ ch := fun b u e z => by rw [(hch b z).1] at e; cases e
 refine I.step (g' := s.gens) (d' := s.drawn) (ch := ch) (fun b hb => ⟨(hch b hb).2.2.2.1, (hch b hb).2.1, (hch b hb).2.2.2.2.1, (hch b hb).2.2.2.2.2⟩) (fun b o _ _ hc e _ => keep b o hc e) (fun b o _ _ hc e _ => ⟨o.slots, keep b o hc e⟩)
  (fun b o _ e n => by rw [upd_ne (lt b o e)]; exact n) (fun b o hc e => ⟨o, keep b o hc e⟩) (fun b xs e => by rw [upd_ne (ne_of_none e hn)]; exact e) (fun b o u e => by rw [upd_ne (ne_of_none e hn)]; exact e)
  (fun b ps e => ⟨#[], by rw [upd_ne (ne_of_none e hn), e]; simp⟩) (fun m hm => ?_) (fun b u e => ?_) I.bare
 ·obtain ⟨o, es, ep, ho, r⟩ := hm
  exact ⟨o, es, ep, keep _ o (fun z => (hch _ z).2.1 rfl) ho, r⟩
 ·by_cases hb : b = T
  ·subst hb
   rw [upd_same] at e
   cases e
   exact new
  ·rw [upd_ne hb] at e
   refine (I.hok b u e).stay (fun c v hc q => keep c v ?_ q) (fun c q => by rw [upd_ne (ne_of_none q hn)]; exact q) fun c xs q => by rw [upd_ne (ne_of_none q hn)]; exact q
   rcases hc with z | z
   ·rw [z]; exact nch b u e
   ·exact nch c _ z
theorem Inv.turnL {t' : Nat} (I : Inv X pins σ H s) (hch : ∀ b ∈ ch, FpOk X pins H b) (keep : ∀ b o, b ∉ ch → s.heap.get? b = some o → h'.get? b = some o) : Inv X pins σ H { s with heap := h', toks := t' } := by
 have nch : ∀ b u, H b = some u → b ∉ ch := fun b u e z => by rw [(hch b z).1] at e; cases e
 refine I.step (g' := s.gens) (d' := s.drawn) (ch := ch) (fun b hb => ⟨(hch b hb).2.2.2.1, (hch b hb).2.1, (hch b hb).2.2.2.2.1, (hch b hb).2.2.2.2.2⟩) (fun b o _ _ hc e _ => keep b o hc e) (fun b o _ _ hc e _ => ⟨o.slots, keep b o hc e⟩)
  (fun _ _ _ _ n => n) (fun b o hc e => ⟨o, keep b o hc e⟩) (fun _ _ e => e) (fun _ _ _ e => e) (fun b ps e => ⟨#[], by rw [e]; simp⟩) (fun m hm => ?_) (fun b u e => ?_) I.bare
 ·obtain ⟨o, es, ep, ho, r⟩ := hm
  exact ⟨o, es, ep, keep _ o (fun z => (hch _ z).2.1 rfl) ho, r⟩
 ·refine (I.hok b u e).stay (fun c v hc q => keep c v ?_ q) (fun _ q => q) fun _ _ q => q
  rcases hc with z | z
  ·rw [z]; exact nch b u e
  ·exact nch c _ z
end
def Ite (K : PySem.W.Frag) (a : Addr) : It :=
 ⟨fun i H => ∃ xs x, SqL K H a xs ∧ xs[i]? = some x, fun i H v H' => ∃ t x, H t = none ∧ v = .ref t ∧ (∀ xs, SqL K H a xs → xs[i]? = some x) ∧ H' = upd H t (.tup [.int i, x]), fun i H => ∃ xs, SqL K H a xs ∧ xs.length ≤ i⟩
theorem turn_enum {P : Program} {w : World} {K : PySem.W.Frag} {elts : List Expr} {x1} {pos : Pos} (a e it : Addr) (hne : e ≠ it) :
  Turn P w K (.Tuple elts x1 pos) (Ite K a) [e, it] e (fun i h => (∃ old, IsEnum h e it i old) ∧ h.IsListIter it a i) where
 mem := by simp
 obj := fun i h st b hb => by
  obtain ⟨⟨old, he⟩, o, ho, c, d⟩ := st
  rcases List.mem_cons.mp hb with rfl | hb
  ·exact ⟨_, he, fun v z => by cases z⟩
  ·obtain rfl : b = it := by simpa using hb
   exact ⟨o, ho, fun v z => by rw [d] at z; cases z⟩
 keep := fun i h h' st k => by
  obtain ⟨⟨old, he⟩, hi⟩ := st
  exact ⟨⟨old, k e (by simp) _ he⟩, hi.at fun o z => k it (by simp) o z⟩
 item := by
  intro X hP hw hK hc i pins s σ H E I hf st hg
  subst hP hw hK
  obtain ⟨⟨old, he⟩, hi⟩ := st
  obtain ⟨xs, x, hq, hx⟩ := hg
  obtain ⟨its, rv, p, hz⟩ := I.list hq
  obtain ⟨u, hu, ru⟩ := rv.get hx
  refine wpAny_pyNext_enum_item he hi p.isList (x := u) (by simpa using hu) hne fun h' he' hi' hT hsz hk => ?_
  refine ⟨_, rfl, ?_⟩
  have I1 : Inv X pins σ (upd H s.heap.objs.size (.tup [.int i, x])) { s with heap := h', toks := s.toks + 1 } := I.turnNew hf (Nat.le_refl _) (fun b o hb q => hk b o (fun z => hb (by simp [z])) (fun z => hb (by simp [z])) q)
   ⟨by show 2 ≤ sizeLine; decide, [.int i s.toks, u], .cons ⟨_, rfl⟩ (.cons ru .nil), ⟨_, hT, rfl, _, rfl⟩⟩
  have hn : H s.heap.objs.size = none := I.hok.fresh (Nat.le_refl _)
  have ne : ∀ b ∈ [e, it], b ≠ s.heap.objs.size := fun b hb => by
   rcases List.mem_cons.mp hb with rfl | hb
   ·exact Nat.ne_of_lt (Heap.lt_size he)
   ·obtain rfl : b = it := by simpa using hb
    obtain ⟨o, ho, _⟩ := hi
    exact Nat.ne_of_lt (Heap.lt_size ho)
  have fr : ∀ b ∈ [e, it], (upd H s.heap.objs.size (.tup [.int i, x])) b = none := fun b hb => by rw [upd_ne (ne b hb)]; exact (hf b hb).1
  refine wpAny_letOwnedTupleGo_enum he' fun h'' he'' hs'' => ?_
  refine ⟨.ref s.heap.objs.size, _, I1.turnL (t' := s.toks + 1) (ch := [e]) (fun b hb => ?_) (fun b o hb q => (hs''.2 b (fun z => hb (by simp [z]))).trans q), rfl,
   ⟨s.heap.objs.size, x, hn, rfl, fun ys hy => by rw [I.list_inj hy hq]; exact hx, rfl⟩, ⟨⟨u, ?_⟩, hi'.extBut hs''.extBut (Ne.symm hne)⟩, fr⟩
  ·obtain rfl : b = e := by simpa using hb
   exact ⟨fr b (by simp), (hf b (by simp)).2⟩
  ·exact he''
 done := by
  intro X hP hw hK hc i pins s σ H E I hf st hg
  subst hP hw hK
  obtain ⟨⟨old, he⟩, hi⟩ := st
  obtain ⟨xs, hq, hx⟩ := hg
  obtain ⟨its, rv, p, hz⟩ := I.list hq
  have hl := rv.length
  exact wpAny_pyNext_enum_end (I.ok.hd hc) he hi p.isList (by simp; omega) fun h' eb => ⟨rfl, I.turnL (t' := s.toks) hf fun b o hb q => eb b o (fun z => hb (by simp [z])) q⟩
 self := fun _ _ _ _ _ st h => by
  obtain ⟨⟨old, he⟩, _⟩ := st
  exact wpAny_pyIter_enum he h
theorem bo_enumerate : bootBuiltins "enumerate" = some (.type "enumerate") := by decide +kernel
theorem bo_zip : bootBuiltins "zip" = some (.type "zip") := by decide +kernel
def iEnum (X : Cx) (ta : TA) : TI := fun σ H R => X.mg "enumerate" = none ∧ ta σ H fun vs H1 => ∃ a xs, vs = [.ref a] ∧ H1 a = some (.lst xs) ∧ R (Ite X.K a) H1
theorem qD {X : Cx} {a : Expr} {elts : List Expr} {x1} {tp p pos : Pos} {ta : TA} (ha : PA X [a] ta) (hg : Gl X "enumerate" := by rfl)
  (hs : starEach [a] X.env = (false, eval a X.env) :: starEach [] X.env := by rfl) (hpl : (backTo pos (starEach [] X.env)).any (·.1) = false := by rfl) :
  PI X (.Tuple elts x1 tp) (.Call (.Name "enumerate" p) [a] [] pos) (iEnum X ta) := by
 intro pins s σ H R I h
 refine wpAny_Call_Name_kw (jP I hg h.1 bo_enumerate ?_)
 refine PyProof.Rows.callWith_type1 (thn (ha pos pins s σ H _ I h.2) fun us s1 ⟨vs, H1, I1, r1, q1⟩ => ?_) hs hpl
 obtain ⟨l, xs, rfl, hq, hR⟩ := q1
 obtain ⟨u, rfl, rx⟩ := Zh r1
 cases rx
 obtain ⟨hz, its, n, rv, hl, e⟩ := I1.lstM hq
 refine call_enumerate_1 e fun h' he hi hsz hk => wpAny_pyIter_enum he ?_
 refine ⟨s1.heap.objs.size + 1, [s1.heap.objs.size + 1, s1.heap.objs.size], _, _, H1, rfl, I1.kept (t' := s1.toks) hk, turn_enum l _ _ (Nat.succ_ne_self _), ⟨⟨_, he⟩, hi⟩, fun b hb => ?_, hR⟩
 rcases List.mem_cons.mp hb with rfl | hb
 ·exact I1.fpOk (Nat.le_succ _) (I1.hok.fresh (Nat.le_succ _))
 ·obtain rfl : b = s1.heap.objs.size := by simpa using hb
  exact I1.fpOk (Nat.le_refl _) (I1.hok.fresh (Nat.le_refl _))
def ItAt (b : Bool) (h : Heap) (it a : Addr) (i : Nat) : Prop := if b = true then h.IsListIter it a i else h.IsTupleIter it a i
def SqAt (b : Bool) (h : Heap) (a : Addr) (items : Array Value) : Prop := if b = true then h.IsList a items else h.IsTuple a items
def xM (b : Bool) : String := if b = true then "list_iterator" else "tuple_iterator"
theorem ItAt.at' {b : Bool} {h h' : Heap} {it a : Addr} {i : Nat} (x : ItAt b h it a i) (hk : ∀ o, h.get? it = some o → h'.get? it = some o) : ItAt b h' it a i := by
 cases b <;> exact let ⟨o, ho, r⟩ := x; ⟨o, hk o ho, r⟩
theorem ItAt.obj {b : Bool} {h : Heap} {it a : Addr} {i : Nat} (x : ItAt b h it a i) : ∃ o, h.get? it = some o ∧ ∀ v, o.data ≠ .cell v := by
 cases b <;> exact let ⟨o, ho, _, hd⟩ := x; ⟨o, ho, fun v z => by rw [hd] at z; cases z⟩
theorem SqAt.at' {b : Bool} {h h' : Heap} {a : Addr} {items : Array Value} (x : SqAt b h a items) (hk : ∀ o, h.get? a = some o → h'.get? a = some o) : SqAt b h' a items := by
 cases b <;> exact let ⟨o, ho, r⟩ := x; ⟨o, hk o ho, r⟩
section
variable {prog : Program} {w : World} {A : Around} {E : Value → Shared → Prop} {s : Shared}
theorem nextOf_tuple_item {it t : Addr} {i : Nat} {items} {x : Value} {Q : Value → Shared → Prop} (hit : s.heap.IsTupleIter it t i) (ht : s.heap.IsTuple t items) (hx : items[i]? = some x)
  (hQ : ∀ h', h'.IsTupleIter it t (i + 1) → Heap.SameBut it s.heap h' → Q x { s with heap := h' }) : wpAny (model prog w) A (Builtin.SmallTypes.nextOf (.ref it)) Q E s := by
 obtain ⟨o, ho, hc, hd⟩ := id hit
 obtain ⟨ol, hol, _, nl, hdl⟩ := ht
 unfold Builtin.SmallTypes.nextOf
 refine wpAny_bind (wpAny_callSpecial?_slot (name := Str.ofString "__next__") hit.typeIs F.slot_tuple_iterator_next
  (wpAny_call_entry F.slot_tuple_iterator_next hit.typeIs F.entry_tuple_iterator_next ?_ (F.args_tuple_iterator_next_1 _)))
 show wpAny _ _ (field (.ref it) 0 >>= _) _ _ s
 refine wpAny_bind (wpAny_field ho hd (x := .ref t) rfl ?_)
 show wpAny _ _ (if (Value.ref t == Value.none) = true then _ else _) _ _ s
 rw [if_neg (show ¬ ((Value.ref t == Value.none) = true) from Bool.false_ne_true)]
 show wpAny _ _ (field (.ref it) 1 >>= _) _ _ s
 refine wpAny_bind (wpAny_field ho hd (x := .int i 0) rfl ?_)
 show wpAny _ _ (seqItems? (.ref t) >>= _) _ _ s
 refine wpAny_bind (wpAny_seqItems hol hdl ?_)
 simp only [Int.toNat_natCast, hx]
 refine wpAny_bind (wpAny_setField ho hd (by simp) (wpAny_pure ⟨x, rfl, wpAny_pure (hQ _ ?_ (Heap.SameBut.update ..))⟩))
 exact ⟨_, Heap.get?_update_self _ ho (Obj.isFreed_of_fields (Obj.data_mapFields hd _)), (Obj.cls_mapFields ..).trans hc, by
  rw [Obj.data_mapFields hd]; simp [rawInt]⟩
theorem nextOf_tuple_end {it t : Addr} {i : Nat} {items} {Q : Value → Shared → Prop} (hh : A.handled = none) (hit : s.heap.IsTupleIter it t i) (ht : s.heap.IsTuple t items) (hx : items[i]? = none)
  (hE : ∀ h' e, Heap.ExtBut it s.heap h' → (∃ o, h'.get? e = some o ∧ o.cls = .type "StopIteration") → E (.ref e) { s with heap := h' }) :
  wpAny (model prog w) A (Builtin.SmallTypes.nextOf (.ref it)) Q E s := by
 obtain ⟨o, ho, hc, hd⟩ := id hit
 obtain ⟨ol, hol, _, nl, hdl⟩ := ht
 unfold Builtin.SmallTypes.nextOf
 refine wpAny_bind (wpAny_callSpecial?_slot (name := Str.ofString "__next__") hit.typeIs F.slot_tuple_iterator_next
  (wpAny_call_entry F.slot_tuple_iterator_next hit.typeIs F.entry_tuple_iterator_next ?_ (F.args_tuple_iterator_next_1 _)))
 show wpAny _ _ (field (.ref it) 0 >>= _) _ _ s
 refine wpAny_bind (wpAny_field ho hd (x := .ref t) rfl ?_)
 show wpAny _ _ (if (Value.ref t == Value.none) = true then _ else _) _ _ s
 rw [if_neg (show ¬ ((Value.ref t == Value.none) = true) from Bool.false_ne_true)]
 show wpAny _ _ (field (.ref it) 1 >>= _) _ _ s
 refine wpAny_bind (wpAny_field ho hd (x := .int i 0) rfl ?_)
 show wpAny _ _ (seqItems? (.ref t) >>= _) _ _ s
 refine wpAny_bind (wpAny_seqItems hol hdl ?_)
 simp only [Int.toNat_natCast, hx]
 refine wpAny_bind (wpAny_rule (wpAny_bind (wpAny_setField ho hd (by simp) ?_)))
 show wpAny _ _ (newExc (.type "StopIteration") [] >>= _) _ _ _
 refine wpAny_bind ?_
 simp only [newExc, newTuple]
 refine wpAny_bind (wpAny_newObj_type ?_ (by size_fits))
 refine wpAny_bind (m := firstArgMember _ _) (wpAny_of_eq (a := Value.none) (by first | rfl | (simp only [firstArgMember]; rfl)) ?_)
 refine wpAny_newObj_type ?_ (by size_fits)
 simp only [raiseNew]
 refine wpAny_bind (wpAny_handled ?_)
 first | rw [show A.in1.handled = none from hh] | rw [hh]
 refine wpAny_bind (wpAny_pure (wpAny_throw ?_))
 exact hE _ _ (((Heap.SameBut.update ..).extBut.push _).push _) ⟨_, Heap.get?_push_size _ rfl, rfl⟩
theorem jN {b : Bool} {it t : Addr} {i : Nat} {items} {x : Value} {Q : Value → Shared → Prop} (hit : ItAt b s.heap it t i) (ht : SqAt b s.heap t items) (hx : items[i]? = some x)
  (hQ : ∀ h', ItAt b h' it t (i + 1) → Heap.SameBut it s.heap h' → Q x { s with heap := h' }) : wpAny (model prog w) A (Builtin.SmallTypes.nextOf (.ref it)) Q E s := by
 cases b
 ·exact nextOf_tuple_item hit ht hx hQ
 ·exact wpAny_nextOf_list_item hit ht hx hQ
theorem wN {b : Bool} {it t : Addr} {i : Nat} {items} {Q : Value → Shared → Prop} (hh : A.handled = none) (hit : ItAt b s.heap it t i) (ht : SqAt b s.heap t items) (hx : items[i]? = none)
  (hE : ∀ h' e, Heap.ExtBut it s.heap h' → (∃ o, h'.get? e = some o ∧ o.cls = .type "StopIteration") → E (.ref e) { s with heap := h' }) :
  wpAny (model prog w) A (Builtin.SmallTypes.nextOf (.ref it)) Q E s := by
 cases b
 ·exact nextOf_tuple_end hh hit ht hx hE
 ·exact wpAny_nextOf_list_end hh hit ht hx hE
theorem vm {b : Bool} {t : Addr} {items} {Q : Value → Shared → Prop} (ht : SqAt b s.heap t items)
  (hQ : Q (.ref s.heap.objs.size) { s with heap := s.heap.push { cls := .type (xM b), data := .fields #[.ref t, .int 0 0] } }) : wpAny (model prog w) A (pyIter (.ref t)) Q E s := by
 cases b
 ·exact wpAny_pyIter_tuple ht hQ
 ·exact wpAny_pyIter_list ht hQ
theorem zip_item {b1 b2 : Bool} {z TI TO i1 i2 l1 l2 : Addr} {k1 k2 : Nat} {xs ys : Array Value} {x y a b : Value} {Q : Value → Shared → Prop} (D : ZipApart z TI TO i1 i2 l1 l2)
  (hz : IsZip s.heap z TI TO .none) (hTI : IsPair s.heap TI (.ref i1) (.ref i2)) (hTO : IsPair s.heap TO a b)
  (h1 : ItAt b1 s.heap i1 l1 k1) (h2 : ItAt b2 s.heap i2 l2 k2) (hl1 : SqAt b1 s.heap l1 xs) (hl2 : SqAt b2 s.heap l2 ys) (hx : xs[k1]? = some x) (hy : ys[k2]? = some y)
  (hQ : ∀ h', IsZip h' z TI TO (rawInt s.heap.objs.size) → IsPair h' TO x y → ItAt b1 h' i1 l1 (k1 + 1) → ItAt b2 h' i2 l2 (k2 + 1) → IsPair h' s.heap.objs.size x y → h'.objs.size = s.heap.objs.size + 1 →
   (∀ c o, c ≠ z → c ≠ TO → c ≠ i1 → c ≠ i2 → s.heap.get? c = some o → h'.get? c = some o) → Q (.ref s.heap.objs.size) { s with heap := h' }) :
  wpAny (model prog w) A (Builtin.«zip.__next__» ⟨[.ref z], []⟩) (fun fin s' => ∃ v, fin = .done (.ret v) ∧ Q v s') E s := by
 show wpAny _ _ (field (.ref z) 2 >>= _) _ _ _
 refine wpAny_bind (wpAny_field hz rfl (x := .bool false) rfl ?_)
 show wpAny _ _ (field (.ref z) 3 >>= _) _ _ _
 refine wpAny_bind (wpAny_field hz rfl (x := .ref TI) rfl ?_)
 refine wpAny_bind (wpAny_seqItems hTI rfl ?_)
 show wpAny _ _ (Builtin.SmallTypes.ownedTupleIsFree (.ref z) >>= _) _ _ _
 refine wpAny_bind ?_
 unfold Builtin.SmallTypes.ownedTupleIsFree
 refine wpAny_bind (wpAny_field hz rfl (x := .none) rfl (wpAny_pure ?_))
 simp only [if_true]
 refine wpAny_bind (wpAny_rule ?_)
 refine wpAny_bind (wpAny_field hz rfl (x := .ref TO) rfl ?_)
 refine wpAny_bind (wpAny_setField_rec hz (by simp) fun h₁ hz₁ hs₁ => ?_)
 replace hz₁ : IsZip h₁ z TI TO .ellipsis := hz₁
 refine wpAny_bind ?_
 simp only [List.zipIdx_cons, List.zipIdx_nil, List.forIn_cons, List.forIn_nil]
 refine wpAny_bind (wpAny_bind (wpAny_onRaise ?_))
 show wpAny _ _ (Builtin.SmallTypes.nextOf (.ref i1) >>= _) _ _ _
 refine wpAny_bind (jN (h1.at' fun o e => hs₁.extBut _ _ D.i1z e) (hl1.at' fun o e => hs₁.extBut _ _ D.l1z e) hx fun h₂ h1₂ hs₂ => wpAny_pure ?_)
 have hTO₂ : IsPair h₂ TO a b := hs₂.extBut _ _ D.TOi1 (hs₁.extBut _ _ D.TOz hTO)
 refine wpAny_bind (wpAny_seqItems hTO₂ rfl ?_)
 refine wpAny_bind (wpAny_updateSeq_pair hTO₂ fun h₃ hTO₃ hs₃ => ?_)
 replace hTO₃ : IsPair h₃ TO x b := hTO₃
 refine wpAny_bind (wpAny_letGo (wpAny_pure ?_))
 refine wpAny_bind (wpAny_bind (wpAny_onRaise ?_))
 show wpAny _ _ (Builtin.SmallTypes.nextOf (.ref i2) >>= _) _ _ _
 refine wpAny_bind (jN (h2.at' fun o e => hs₃.extBut _ _ D.TOi2.symm (hs₂.extBut _ _ D.i12.symm (hs₁.extBut _ _ D.i2z e)))
  (hl2.at' fun o e => hs₃.extBut _ _ D.l2TO (hs₂.extBut _ _ D.l2i1 (hs₁.extBut _ _ D.l2z e))) hy fun h₄ h2₄ hs₄ => wpAny_pure ?_)
 have hTO₄ : IsPair h₄ TO x b := hs₄.extBut _ _ D.TOi2 hTO₃
 refine wpAny_bind (wpAny_seqItems hTO₄ rfl ?_)
 refine wpAny_bind (wpAny_updateSeq_pair hTO₄ fun h₅ hTO₅ hs₅ => ?_)
 replace hTO₅ : IsPair h₅ TO x y := hTO₅
 refine wpAny_bind (wpAny_letGo (wpAny_pure (wpAny_pure ?_)))
 refine wpAny_bind (wpAny_seqItems hTO₅ rfl ?_)
 refine wpAny_bind (wpAny_newTuple ?_)
 have hsz : h₅.objs.size = s.heap.objs.size := by rw [hs₅.1, hs₄.1, hs₃.1, hs₂.1, hs₁.1]
 have hz₅ : IsZip h₅ z TI TO .ellipsis := hs₅.extBut _ _ D.TOz.symm (hs₄.extBut _ _ D.i2z.symm (hs₃.extBut _ _ D.TOz.symm (hs₂.extBut _ _ D.i1z.symm hz₁)))
 have hk₅ : ∀ c o, c ≠ z → c ≠ TO → c ≠ i1 → c ≠ i2 → s.heap.get? c = some o → h₅.get? c = some o := fun c o c1 c2 c3 c4 e =>
  hs₅.extBut _ _ c2 (hs₄.extBut _ _ c4 (hs₃.extBut _ _ c2 (hs₂.extBut _ _ c3 (hs₁.extBut _ _ c1 e))))
 have h1₅ : ItAt b1 h₅ i1 l1 (k1 + 1) := h1₂.at' fun o e => hs₅.extBut _ _ D.TOi1.symm (hs₄.extBut _ _ D.i12 (hs₃.extBut _ _ D.TOi1.symm e))
 have h2₅ : ItAt b2 h₅ i2 l2 (k2 + 1) := h2₄.at' fun o e => hs₅.extBut _ _ D.TOi2.symm e
 have hzlt : z < h₅.objs.size := Heap.lt_size hz₅
 show wpAny _ _ (Builtin.SmallTypes.ownedTupleHandOut (.ref z) (.ref h₅.objs.size) >>= _) _ _ _
 refine wpAny_bind ?_
 unfold Builtin.SmallTypes.ownedTupleHandOut
 have hz₆ : IsZip (h₅.push { cls := .type "tuple", data := .seq #[x, y] }) z TI TO .ellipsis := Heap.get?_push_of_some _ hz₅
 refine wpAny_bind (wpAny_setField_rec hz₆ (by simp) fun h₇ hz₇ hs₇ => ?_)
 replace hz₇ : IsZip h₇ z TI TO (rawInt h₅.objs.size) := hz₇
 refine wpAny_setField_rec hz₇ (by simp) fun h₈ hz₈ hs₈ => ?_
 replace hz₈ : IsZip h₈ z TI TO (rawInt h₅.objs.size) := hz₈
 have up : ∀ c o, c ≠ z → h₅.get? c = some o → h₈.get? c = some o := fun c o c1 e => hs₈.extBut _ _ c1 (hs₇.extBut _ _ c1 (Heap.get?_push_of_some _ e))
 have hT₈ : IsPair h₈ h₅.objs.size x y := hs₈.extBut _ _ (Nat.ne_of_gt hzlt) (hs₇.extBut _ _ (Nat.ne_of_gt hzlt) (Heap.get?_push_size _ rfl))
 have hz8 : h₈.objs.size = h₅.objs.size + 1 := by rw [hs₈.1, hs₇.1, Heap.size_push]
 rw [hsz] at hz₈ hT₈ hz8
 refine wpAny_pure ⟨_, rfl, ?_⟩
 show Q (.ref h₅.objs.size) _
 rw [hsz]
 exact hQ h₈ hz₈ (up _ _ D.TOz hTO₅) (h1₅.at' fun o e => up _ o D.i1z e) (h2₅.at' fun o e => up _ o D.i2z e) hT₈ hz8 fun c o c1 c2 c3 c4 e => up c o c1 (hk₅ c o c1 c2 c3 c4 e)
theorem zip_end {b1 b2 : Bool} {z TI TO i1 i2 l1 l2 : Addr} {k1 k2 : Nat} {xs ys : Array Value} {a b : Value} {Q : Fin → Shared → Prop} (hh : A.handled = none) (D : ZipApart z TI TO i1 i2 l1 l2)
  (hz : IsZip s.heap z TI TO .none) (hTI : IsPair s.heap TI (.ref i1) (.ref i2)) (hTO : IsPair s.heap TO a b)
  (h1 : ItAt b1 s.heap i1 l1 k1) (h2 : ItAt b2 s.heap i2 l2 k2) (hl1 : SqAt b1 s.heap l1 xs) (hl2 : SqAt b2 s.heap l2 ys) (hend : xs[k1]? = none ∨ ys[k2]? = none)
  (hE : ∀ h' e, (∀ c o, c ≠ z → c ≠ TO → c ≠ i1 → c ≠ i2 → s.heap.get? c = some o → h'.get? c = some o) → (∃ o, h'.get? e = some o ∧ o.cls = .type "StopIteration") → E (.ref e) { s with heap := h' }) :
  wpAny (model prog w) A (Builtin.«zip.__next__» ⟨[.ref z], []⟩) Q E s := by
 show wpAny _ _ (field (.ref z) 2 >>= _) _ _ _
 refine wpAny_bind (wpAny_field hz rfl (x := .bool false) rfl ?_)
 show wpAny _ _ (field (.ref z) 3 >>= _) _ _ _
 refine wpAny_bind (wpAny_field hz rfl (x := .ref TI) rfl ?_)
 refine wpAny_bind (wpAny_seqItems hTI rfl ?_)
 show wpAny _ _ (Builtin.SmallTypes.ownedTupleIsFree (.ref z) >>= _) _ _ _
 refine wpAny_bind ?_
 unfold Builtin.SmallTypes.ownedTupleIsFree
 refine wpAny_bind (wpAny_field hz rfl (x := .none) rfl (wpAny_pure ?_))
 simp only [if_true]
 refine wpAny_bind (wpAny_rule ?_)
 refine wpAny_bind (wpAny_field hz rfl (x := .ref TO) rfl ?_)
 refine wpAny_bind (wpAny_setField_rec hz (by simp) fun h₁ hz₁ hs₁ => ?_)
 replace hz₁ : IsZip h₁ z TI TO .ellipsis := hz₁
 refine wpAny_bind ?_
 simp only [List.zipIdx_cons, List.zipIdx_nil, List.forIn_cons, List.forIn_nil]
 refine wpAny_bind (wpAny_bind (wpAny_onRaise ?_))
 show wpAny _ _ (Builtin.SmallTypes.nextOf (.ref i1) >>= _) _ _ _
 cases hx : xs[k1]? with
 | none =>
  refine wpAny_bind (wN hh (h1.at' fun o e => hs₁.extBut _ _ D.i1z e) (hl1.at' fun o e => hs₁.extBut _ _ D.l1z e) hx fun h₂ e hs₂ he => ?_)
  obtain ⟨oe, hoe, hce⟩ := he
  have hz₂ : IsZip h₂ z TI TO .ellipsis := hs₂ _ _ D.i1z.symm hz₁
  have hez : e ≠ z := fun x => by subst x; rw [hz₂] at hoe; cases hoe; simp at hce
  refine wpAny_setField_rec hz₂ (by simp) fun h₃ _ hs₃ => hE h₃ e (fun c o c1 _ c3 _ x => hs₃.extBut _ _ c1 (hs₂ _ _ c3 (hs₁.extBut _ _ c1 x))) ⟨oe, hs₃.extBut _ _ hez hoe, hce⟩
 | some x =>
  have hy : ys[k2]? = none := by rcases hend with h | h; rw [hx] at h; cases h; exact h
  refine wpAny_bind (jN (h1.at' fun o e => hs₁.extBut _ _ D.i1z e) (hl1.at' fun o e => hs₁.extBut _ _ D.l1z e) hx fun h₂ h1₂ hs₂ => wpAny_pure ?_)
  have hTO₂ : IsPair h₂ TO a b := hs₂.extBut _ _ D.TOi1 (hs₁.extBut _ _ D.TOz hTO)
  refine wpAny_bind (wpAny_seqItems hTO₂ rfl ?_)
  refine wpAny_bind (wpAny_updateSeq_pair hTO₂ fun h₃ hTO₃ hs₃ => ?_)
  refine wpAny_bind (wpAny_letGo (wpAny_pure ?_))
  refine wpAny_bind (wpAny_bind (wpAny_onRaise ?_))
  show wpAny _ _ (Builtin.SmallTypes.nextOf (.ref i2) >>= _) _ _ _
  refine wpAny_bind (wN hh (h2.at' fun o e => hs₃.extBut _ _ D.TOi2.symm (hs₂.extBut _ _ D.i12.symm (hs₁.extBut _ _ D.i2z e)))
   (hl2.at' fun o e => hs₃.extBut _ _ D.l2TO (hs₂.extBut _ _ D.l2i1 (hs₁.extBut _ _ D.l2z e))) hy fun h₄ e hs₄ he => ?_)
  obtain ⟨oe, hoe, hce⟩ := he
  have hz₄ : IsZip h₄ z TI TO .ellipsis := hs₄ _ _ D.i2z.symm (hs₃.extBut _ _ D.TOz.symm (hs₂.extBut _ _ D.i1z.symm hz₁))
  have hez : e ≠ z := fun x => by subst x; rw [hz₄] at hoe; cases hoe; simp at hce
  refine wpAny_setField_rec hz₄ (by simp) fun h₅ _ hs₅ => hE h₅ e (fun c o c1 c2 c3 c4 x => hs₅.extBut _ _ c1 (hs₄ _ _ c4 (hs₃.extBut _ _ c2 (hs₂.extBut _ _ c3 (hs₁.extBut _ _ c1 x))))) ⟨oe, hs₅.extBut _ _ hez hoe, hce⟩
abbrev zH1 (h : Heap) (b1 : Bool) (l1 : Addr) : Heap := h.push { cls := .type (xM b1), data := .fields #[.ref l1, .int 0 0] }
abbrev zH2 (h : Heap) (b1 b2 : Bool) (l1 l2 : Addr) : Heap := (zH1 h b1 l1).push { cls := .type (xM b2), data := .fields #[.ref l2, .int 0 0] }
noncomputable abbrev zH3 (h : Heap) (b1 b2 : Bool) (l1 l2 : Addr) : Heap := (zH2 h b1 b2 l1 l2).push { cls := .type "tuple", data := .seq #[.ref h.objs.size, .ref (zH1 h b1 l1).objs.size] }
noncomputable abbrev zH4 (h : Heap) (b1 b2 : Bool) (l1 l2 : Addr) : Heap := (zH3 h b1 b2 l1 l2).push { cls := .type "tuple", data := .seq #[.none, .none] }
noncomputable abbrev zH5 (h : Heap) (b1 b2 : Bool) (l1 l2 : Addr) : Heap := (zH4 h b1 b2 l1 l2).push { cls := .type "zip", data := .fields #[.none, .bool false, .bool false, .ref (zH2 h b1 b2 l1 l2).objs.size, .ref (zH3 h b1 b2 l1 l2).objs.size] }
end
theorem meets_zip {b1 b2 : Bool} (l1 l2 : Addr) (xs ys : Array Value) :
  Meets (Builtin.«zip.__new__» ⟨[.type "zip", .ref l1, .ref l2], []⟩) (fun _ R s => SqAt b1 s.heap l1 xs ∧ SqAt b2 s.heap l2 ys ∧
   R (.ok (.ret (.ref (zH4 s.heap b1 b2 l1 l2).objs.size))) { s with heap := zH5 s.heap b1 b2 l1 l2 }) :=
 .of_wp fun prog w A R s h => by
  obtain ⟨hp, g, d, tk, os⟩ := s; obtain ⟨hl1, hl2, h⟩ := h
  have hsub := sub_zip
  have hL1 : SqAt b1 (Shared.heap ⟨hp, g, d, tk, os⟩) l1 xs := hl1
  have hL2 : SqAt b2 (Shared.heap ⟨hp.push { cls := .type (xM b1), data := .fields #[.ref l1, .int 0 0] }, g, d, tk, os⟩) l2 ys := hl2.at' fun o e => Heap.get?_push_of_some _ e
  wp_walk using vm hL1, vm hL2
  exact ⟨_, rfl, h⟩
section
variable {prog : Program} {w : World} {A : Around} {E : Value → Shared → Prop} {s : Shared}
theorem ItAt.new {b : Bool} {h : Heap} {it l : Addr} (e : h.get? it = some { cls := .type (xM b), data := .fields #[.ref l, .int 0 0] }) : ItAt b h it l 0 := by
 cases b <;> exact ⟨_, e, rfl, rfl⟩
theorem call_zip {b1 b2 : Bool} {l1 l2 : Addr} {xs ys : Array Value} {Q : Value → Shared → Prop} (hl1 : SqAt b1 s.heap l1 xs) (hl2 : SqAt b2 s.heap l2 ys)
  (h : ∀ h', IsZip h' (s.heap.objs.size + 4) (s.heap.objs.size + 2) (s.heap.objs.size + 3) .none → IsPair h' (s.heap.objs.size + 2) (.ref s.heap.objs.size) (.ref (s.heap.objs.size + 1)) →
   IsPair h' (s.heap.objs.size + 3) .none .none → ItAt b1 h' s.heap.objs.size l1 0 → ItAt b2 h' (s.heap.objs.size + 1) l2 0 → h'.objs.size = s.heap.objs.size + 5 →
   (∀ c o, s.heap.get? c = some o → h'.get? c = some o) → Q (.ref (s.heap.objs.size + 4)) { s with heap := h' }) :
  wpAny (model prog w) A (call (.type "zip") [.ref l1, .ref l2]) Q E s := by
 refine callType_new F.called_zip (by decide) (F.typeCall_zip_2 _ _) (F.newCall_zip_2 _ _) (fun obj => F.args_object_init_3 obj _ _) F.entry_zip_new
  (meets_zip (b1 := b1) (b2 := b2) l1 l2 xs ys) ⟨hl1, hl2, ?_⟩
 have z1 : (zH1 s.heap b1 l1).objs.size = s.heap.objs.size + 1 := Heap.size_push ..
 have z2 : (zH2 s.heap b1 b2 l1 l2).objs.size = s.heap.objs.size + 2 := by rw [Heap.size_push, z1]
 have z3 : (zH3 s.heap b1 b2 l1 l2).objs.size = s.heap.objs.size + 3 := by rw [Heap.size_push, z2]
 have z4 : (zH4 s.heap b1 b2 l1 l2).objs.size = s.heap.objs.size + 4 := by rw [Heap.size_push, z3]
 have z5 : (zH5 s.heap b1 b2 l1 l2).objs.size = s.heap.objs.size + 5 := by rw [Heap.size_push, z4]
 have g5 : (zH5 s.heap b1 b2 l1 l2).get? (zH4 s.heap b1 b2 l1 l2).objs.size = some _ := Heap.get?_push_size _ rfl
 have g4 : (zH5 s.heap b1 b2 l1 l2).get? (zH3 s.heap b1 b2 l1 l2).objs.size = some _ := Heap.get?_push_of_some _ (Heap.get?_push_size _ rfl)
 have g3 : (zH5 s.heap b1 b2 l1 l2).get? (zH2 s.heap b1 b2 l1 l2).objs.size = some _ := Heap.get?_push_of_some _ (Heap.get?_push_of_some _ (Heap.get?_push_size _ rfl))
 have g2 : (zH5 s.heap b1 b2 l1 l2).get? (zH1 s.heap b1 l1).objs.size = some _ := Heap.get?_push_of_some _ (Heap.get?_push_of_some _ (Heap.get?_push_of_some _ (Heap.get?_push_size _ rfl)))
 have g1 : (zH5 s.heap b1 b2 l1 l2).get? s.heap.objs.size = some _ := Heap.get?_push_of_some _ (Heap.get?_push_of_some _ (Heap.get?_push_of_some _ (Heap.get?_push_of_some _ (Heap.get?_push_size _ rfl))))
 show _ ∧ _
 rw [z2, z3, z4] at g5
 rw [z1, z2] at g3
 rw [z3] at g4
 rw [z1] at g2
 rw [z4]
 exact ⟨⟨_, g5, rfl⟩, h _ g5 g3 g4 (ItAt.new g1) (ItAt.new g2) z5 fun c o x =>
  Heap.get?_push_of_some _ (Heap.get?_push_of_some _ (Heap.get?_push_of_some _ (Heap.get?_push_of_some _ (Heap.get?_push_of_some _ x))))⟩
end
def SqB (b : Bool) (K : PySem.W.Frag) (H : Hp) (a : Addr) (xs : List V) : Prop := if b = true then SqL K H a xs else SqT K H a xs
theorem Inv.sqB {X : Cx} {pins : List (Addr × Obj)} {σ : St} {H : Hp} {s : Shared} {b : Bool} {a : Addr} {xs : List V} (I : Inv X pins σ H s) (h : SqB b X.K H a xs) : ∃ its : List Value, Vals xs its ∧ SqAt b s.heap a its.toArray := by
 cases b
 ·obtain ⟨its, r, p, _⟩ := I.tuple (show SqT X.K H a xs from h)
  exact ⟨its, r, p⟩
 ·obtain ⟨its, r, p, _⟩ := I.list (show SqL X.K H a xs from h)
  exact ⟨its, r, p.isList⟩
theorem Inv.sqB_inj {X : Cx} {pins : List (Addr × Obj)} {σ : St} {H : Hp} {s : Shared} {b : Bool} {a : Addr} {xs ys : List V} (I : Inv X pins σ H s) (h1 : SqB b X.K H a xs) (h2 : SqB b X.K H a ys) : xs = ys := by
 cases b
 ·exact I.tuple_inj (show SqT X.K H a xs from h1) (show SqT X.K H a ys from h2)
 ·exact I.list_inj (show SqL X.K H a xs from h1) (show SqL X.K H a ys from h2)
def Itz (K : PySem.W.Frag) (b1 b2 : Bool) (a1 a2 : Addr) : It :=
 ⟨fun i H => ∃ xs ys x y, SqB b1 K H a1 xs ∧ SqB b2 K H a2 ys ∧ xs[i]? = some x ∧ ys[i]? = some y,
   fun i H v H' => ∃ t x y, H t = none ∧ v = .ref t ∧ (∀ xs, SqB b1 K H a1 xs → xs[i]? = some x) ∧ (∀ ys, SqB b2 K H a2 ys → ys[i]? = some y) ∧ H' = upd H t (.tup [x, y]),
   fun i H => ∃ xs ys, SqB b1 K H a1 xs ∧ SqB b2 K H a2 ys ∧ (xs.length ≤ i ∨ ys.length ≤ i)⟩
theorem SqB.there {X : Cx} {pins : List (Addr × Obj)} {σ : St} {H : Hp} {s : Shared} {b : Bool} {a : Addr} {xs : List V} (I : Inv X pins σ H s) (h : SqB b X.K H a xs) : ∃ o, s.heap.get? a = some o ∧ (o.cls = .type "list" ∨ o.cls = .type "tuple") ∧ ∃ its n, o.data = .seq its n := by
 obtain ⟨its, _, p⟩ := I.sqB h
 cases b
 ·obtain ⟨o, e, c, n, d⟩ := p; exact ⟨o, e, .inr c, _, n, d⟩
 ·obtain ⟨o, e, c, n, d⟩ := p; exact ⟨o, e, .inl c, _, n, d⟩
theorem turn_zip {P : Program} {w : World} {K : PySem.W.Frag} {elts : List Expr} {x1} {pos : Pos} {b1 b2 : Bool} (z TI TO i1 i2 l1 l2 : Addr) (D : ZipApart z TI TO i1 i2 l1 l2) :
  Turn P w K (.Tuple elts x1 pos) (Itz K b1 b2 l1 l2) [z, TI, TO, i1, i2] z (fun i h => IsZip h z TI TO .none ∧ IsPair h TI (.ref i1) (.ref i2) ∧ (∃ a b, IsPair h TO a b) ∧ ItAt b1 h i1 l1 i ∧ ItAt b2 h i2 l2 i) where
 mem := by simp
 obj := fun i h st b hb => by
  obtain ⟨hz, hTI, ⟨a, b', hTO⟩, h1, h2⟩ := st
  simp only [List.mem_cons, List.not_mem_nil, or_false] at hb
  rcases hb with rfl | rfl | rfl | rfl | rfl
  ·exact ⟨_, hz, fun v z => by cases z⟩
  ·exact ⟨_, hTI, fun v z => by cases z⟩
  ·exact ⟨_, hTO, fun v z => by cases z⟩
  ·exact h1.obj
  ·exact h2.obj
 keep := fun i h h' st k => by
  obtain ⟨hz, hTI, ⟨a, b', hTO⟩, h1, h2⟩ := st
  exact ⟨k z (by simp) _ hz, k TI (by simp) _ hTI, ⟨a, b', k TO (by simp) _ hTO⟩, h1.at' fun o e => k i1 (by simp) o e, h2.at' fun o e => k i2 (by simp) o e⟩
 item := by
  intro X hP hw hK hc i pins s σ H E I hf st hg
  subst hP hw hK
  obtain ⟨hz, hTI, ⟨a, b', hTO⟩, h1, h2⟩ := st
  obtain ⟨xs, ys, x, y, q1, q2, hx, hy⟩ := hg
  obtain ⟨its1, r1, p1⟩ := I.sqB q1
  obtain ⟨its2, r2, p2⟩ := I.sqB q2
  obtain ⟨u1, hu1, ru1⟩ := r1.get hx
  obtain ⟨u2, hu2, ru2⟩ := r2.get hy
  have hT : s.TypeIs (.ref z) "zip" := ⟨_, hz, rfl⟩
  unfold pyNext
  refine wpAny_bind (wpAny_attempt (wpAny_callSpecial?_slot (name := Str.ofString "__next__") hT F.slot_zip_next (wpAny_call_entry F.slot_zip_next hT F.entry_zip_next
   (zip_item D hz hTI hTO h1 h2 p1 p2 (x := u1) (y := u2) (by simpa using hu1) (by simpa using hu2) fun h' a1 a2 a3 a4 a5 a6 hk => wpAny_pure ?_) (F.args_zip_next_1 _))))
  refine ⟨_, rfl, ?_⟩
  have I1 : Inv X pins σ (upd H s.heap.objs.size (.tup [x, y])) { s with heap := h' } := I.turnNew (t' := s.toks) hf (Nat.le_refl _) (fun b o hb q => hk b o (fun z => hb (by simp [z])) (fun z => hb (by simp [z])) (fun z => hb (by simp [z])) (fun z => hb (by simp [z])) q)
   ⟨by show 2 ≤ sizeLine; decide, [u1, u2], .cons ru1 (.cons ru2 .nil), ⟨_, a5, rfl, _, rfl⟩⟩
  have hn : H s.heap.objs.size = none := I.hok.fresh (Nat.le_refl _)
  have ne : ∀ b ∈ [z, TI, TO, i1, i2], b ≠ s.heap.objs.size := fun b hb => by
   have : ∃ o, s.heap.get? b = some o := by
    simp only [List.mem_cons, List.not_mem_nil, or_false] at hb
    rcases hb with rfl | rfl | rfl | rfl | rfl
    ·exact ⟨_, hz⟩
    ·exact ⟨_, hTI⟩
    ·exact ⟨_, hTO⟩
    ·exact let ⟨o, e, _⟩ := h1.obj; ⟨o, e⟩
    ·exact let ⟨o, e, _⟩ := h2.obj; ⟨o, e⟩
   obtain ⟨o, e⟩ := this
   exact Nat.ne_of_lt (Heap.lt_size e)
  have fr : ∀ b ∈ [z, TI, TO, i1, i2], (upd H s.heap.objs.size (.tup [x, y])) b = none := fun b hb => by rw [upd_ne (ne b hb)]; exact (hf b hb).1
  have hTI' : IsPair h' TI (.ref i1) (.ref i2) := hk _ _ D.TIz D.TITO D.TIi1 D.TIi2 hTI
  refine wpAny_letOwnedTupleGo_zip a1 fun h'' hz'' hs'' => ?_
  refine ⟨.ref s.heap.objs.size, _, I1.turnL (t' := s.toks) (ch := [z]) (fun b hb => ?_) (fun b o hb q => (hs''.2 b (fun z => hb (by simp [z]))).trans q), rfl,
   ⟨s.heap.objs.size, x, y, hn, rfl, fun zs hy => by rw [I.sqB_inj hy q1]; exact hx, fun zs hz => by rw [I.sqB_inj hz q2]; exact hy, rfl⟩,
   ⟨hz'', hs''.extBut _ _ D.TIz hTI', ⟨_, _, hs''.extBut _ _ D.TOz a2⟩, a3.at' fun o e => hs''.extBut _ _ D.i1z e, a4.at' fun o e => hs''.extBut _ _ D.i2z e⟩, fr⟩
  obtain rfl : b = z := by simpa using hb
  exact ⟨fr b (by simp), (hf b (by simp)).2⟩
 done := by
  intro X hP hw hK hc i pins s σ H E I hf st hg
  subst hP hw hK
  obtain ⟨hz, hTI, ⟨a, b', hTO⟩, h1, h2⟩ := st
  obtain ⟨xs, ys, q1, q2, hx⟩ := hg
  obtain ⟨its1, r1, p1⟩ := I.sqB q1
  obtain ⟨its2, r2, p2⟩ := I.sqB q2
  have e1 := r1.length
  have e2 := r2.length
  have hT : s.TypeIs (.ref z) "zip" := ⟨_, hz, rfl⟩
  have hend : its1.toArray[i]? = none ∨ its2.toArray[i]? = none := by
   rcases hx with h | h
   ·exact .inl (by simp; omega)
   ·exact .inr (by simp; omega)
  unfold pyNext
  refine wpAny_bind (wpAny_attempt (wpAny_callSpecial?_slot (name := Str.ofString "__next__") hT F.slot_zip_next
   (wpAny_call_entry F.slot_zip_next hT F.entry_zip_next (zip_end (I.ok.hd hc) D hz hTI hTO h1 h2 p1 p2 hend fun h' e hk he => ?_) (F.args_zip_next_1 _))))
  obtain ⟨o, ho, hcl⟩ := he
  refine wpAny_bind (wpAny_isInstance (T := "StopIteration") (b := true) ⟨o, ho, hcl⟩ isSubtype_stop ?_)
  exact wpAny_pure ⟨rfl, I.turnL (t' := s.toks) hf fun b o hb q => hk b o (fun z => hb (by simp [z])) (fun z => hb (by simp [z])) (fun z => hb (by simp [z])) (fun z => hb (by simp [z])) q⟩
 self := fun _ _ _ _ _ st h => wpAny_pyIter_zip st.1 h
theorem zip_apart (n l1 l2 : Nat) (h1 : l1 < n) (h2 : l2 < n) : ZipApart (n + 4) (n + 2) (n + 3) n (n + 1) l1 l2 := by
 constructor <;> (show (_ : Nat) ≠ _) <;> omega
def iZip (X : Cx) (ta : TA) : TI := fun σ H R => X.mg "zip" = none ∧ ta σ H fun vs H1 => ∃ b1 b2 l1 l2 xs ys, vs = [.ref l1, .ref l2] ∧ SqB b1 X.K H1 l1 xs ∧ SqB b2 X.K H1 l2 ys ∧ R (Itz X.K b1 b2 l1 l2) H1
theorem vU {X : Cx} {a b : Expr} {elts : List Expr} {x1} {tp p pos : Pos} {ta : TA} (ha : PA X [a, b] ta) (hg : Gl X "zip" := by rfl)
  (hs : starEach [a, b] X.env = (false, eval a X.env) :: starEach [b] X.env := by rfl) (hpl : (backTo pos (starEach [b] X.env)).any (·.1) = false := by rfl) :
  PI X (.Tuple elts x1 tp) (.Call (.Name "zip" p) [a, b] [] pos) (iZip X ta) := by
 intro pins s σ H R I h
 refine wpAny_Call_Name_kw (jP I hg h.1 bo_zip ?_)
 refine PyProof.Rows.callWith_type1 (thn (ha pos pins s σ H _ I h.2) fun us s1 ⟨vs, H1, I1, r1, q1⟩ => ?_) hs hpl
 obtain ⟨b1, b2, l1, l2, xs, ys, rfl, q1, q2, hR⟩ := q1
 obtain ⟨u1, u2, rfl, rx, ry⟩ := QV r1
 cases rx
 cases ry
 obtain ⟨its1, rv1, p1⟩ := I1.sqB q1
 obtain ⟨its2, rv2, p2⟩ := I1.sqB q2
 obtain ⟨o1, e1, _⟩ := SqB.there I1 q1
 obtain ⟨o2, e2, _⟩ := SqB.there I1 q2
 have n1 := Heap.lt_size e1
 have n2 := Heap.lt_size e2
 refine call_zip p1 p2 fun h' hz hTI hTO h1 h2 hsz hk => wpAny_pyIter_zip hz ?_
 refine ⟨s1.heap.objs.size + 4, [s1.heap.objs.size + 4, s1.heap.objs.size + 2, s1.heap.objs.size + 3, s1.heap.objs.size, s1.heap.objs.size + 1], _, _, H1, rfl, I1.kept (t' := s1.toks) hk,
  turn_zip _ _ _ _ _ l1 l2 (zip_apart _ _ _ n1 n2), ⟨hz, hTI, ⟨_, _, hTO⟩, h1, h2⟩, fun b hb => ?_, hR⟩
 have ge : s1.heap.objs.size ≤ b := by
  simp only [List.mem_cons, List.not_mem_nil, or_false] at hb
  rcases hb with rfl | rfl | rfl | rfl | rfl
  ·exact Nat.le_add_right _ _
  ·exact Nat.le_add_right _ _
  ·exact Nat.le_add_right _ _
  ·exact Nat.le_refl _
  ·exact Nat.le_add_right _ _
 exact I1.fpOk ge (I1.hok.fresh ge)
section
variable {K : PySem.W.Frag} {σ : St} {H : Hp}
theorem ZE {a : Addr} {xs : List V} {DN : St → Hp → Prop} {B : (St → Hp → Prop) → V → St → Hp → Prop} (Pv : Nat → St → Hp → Prop) (h0 : Pv 0 σ H) (hl : ∀ i σ H, i ≤ xs.length → Pv i σ H → SqL K H a xs)
  (hs : ∀ i x t σ H, xs[i]? = some x → H t = none → Pv i σ H → B (Pv (i + 1)) (.ref t) σ (upd H t (.tup [.int i, x]))) (hd : ∀ σ H, Pv xs.length σ H → DN σ H) :
  ∃ W : Nat → Nat → St → Hp → Prop, (∃ m, W 0 m σ H) ∧ ∀ i m σ H, W i m σ H →
   ((Ite K a).stop i H ∧ DN σ H) ∨ ((Ite K a).go i H ∧ ∃ N : St → Hp → Prop, (∀ σ' H', N σ' H' → ∃ m', m' < m ∧ W (i + 1) m' σ' H') ∧ ∀ x H', (Ite K a).yld i H x H' → B N x σ H') := by
 refine ⟨fun i m σ H => m = xs.length - i ∧ i ≤ xs.length ∧ Pv i σ H, ⟨xs.length, by simp, Nat.zero_le _, h0⟩, ?_⟩
 rintro i m σ H ⟨rfl, hi, p⟩
 have q := hl i σ H hi p
 by_cases hlt : i < xs.length
 ·refine .inr ⟨⟨xs, xs[i], q, by simp [hlt]⟩, Pv (i + 1), fun σ' H' p' => ⟨xs.length - (i + 1), by omega, rfl, hlt, p'⟩, fun v H' y => ?_⟩
  obtain ⟨t, x, ht, rfl, hx, rfl⟩ := y
  exact hs i x t σ _ (hx xs q) ht p
 ·have e : i = xs.length := by omega
  subst e
  exact .inl ⟨⟨xs, q, Nat.le_refl _⟩, hd σ H p⟩
theorem Qg {b1 b2 : Bool} {a1 a2 : Addr} {xs ys : List V} {DN : St → Hp → Prop} {B : (St → Hp → Prop) → V → St → Hp → Prop} (Pv : Nat → St → Hp → Prop) (h0 : Pv 0 σ H) (hl : ∀ i σ H, i ≤ min xs.length ys.length → Pv i σ H → SqB b1 K H a1 xs ∧ SqB b2 K H a2 ys)
  (hs : ∀ i x y t σ H, xs[i]? = some x → ys[i]? = some y → H t = none → Pv i σ H → B (Pv (i + 1)) (.ref t) σ (upd H t (.tup [x, y]))) (hd : ∀ σ H, Pv (min xs.length ys.length) σ H → DN σ H) :
  ∃ W : Nat → Nat → St → Hp → Prop, (∃ m, W 0 m σ H) ∧ ∀ i m σ H, W i m σ H →
   ((Itz K b1 b2 a1 a2).stop i H ∧ DN σ H) ∨ ((Itz K b1 b2 a1 a2).go i H ∧ ∃ N : St → Hp → Prop, (∀ σ' H', N σ' H' → ∃ m', m' < m ∧ W (i + 1) m' σ' H') ∧ ∀ x H', (Itz K b1 b2 a1 a2).yld i H x H' → B N x σ H') := by
 refine ⟨fun i m σ H => m = min xs.length ys.length - i ∧ i ≤ min xs.length ys.length ∧ Pv i σ H, ⟨min xs.length ys.length, by simp, Nat.zero_le _, h0⟩, ?_⟩
 rintro i m σ H ⟨rfl, hi, p⟩
 obtain ⟨q1, q2⟩ := hl i σ H hi p
 by_cases hlt : i < min xs.length ys.length
 ·have l1 : i < xs.length := by omega
  have l2 : i < ys.length := by omega
  refine .inr ⟨⟨xs, ys, xs[i], ys[i], q1, q2, by simp [l1], by simp [l2]⟩, Pv (i + 1), fun σ' H' p' => ⟨min xs.length ys.length - (i + 1), by omega, rfl, hlt, p'⟩, fun v H' y => ?_⟩
  obtain ⟨t, x, y, ht, rfl, hx, hy, rfl⟩ := y
  exact hs i x y t σ _ (hx xs q1) (hy ys q2) ht p
 ·have e : i = min xs.length ys.length := by omega
  subst e
  exact .inl ⟨⟨xs, ys, q1, q2, by omega⟩, hd σ H p⟩
end
section
variable {X : Cx} {N : List Str} {scope : Scope} {s : Shared} {H : Hp} {fp : List Addr} {pins : List (Addr × Obj)}
theorem cxC_K : (cxC X N scope s H fp pins).K = X.K := rfl
theorem cxC_mg : (cxC X N scope s H fp pins).mg = X.mg := rfl
theorem cxC_prog : (cxC X N scope s H fp pins).prog = X.prog := rfl
theorem cxC_w : (cxC X N scope s H fp pins).w = X.w := rfl
theorem cxC_base : (cxC X N scope s H fp pins).base = X.base := rfl
end
end L2
namespace L2
open PySem PySem.Spec PySem.Calls PyProof.Rows
structure BCal (P : Program) (w : World) (K : PySem.W.Frag) (mg : Str → Option Value) (base : Heap) (x m : Str) (k : Nat) (ps : List Str) (dvs : List V) (sp : Sp) : Prop where
 ex : ∃ C f fd ds, mg x = some (.ref C) ∧ PySem.W.specialIn K (.ref C) "__getattribute__" = some (some (.builtin "type.__getattribute__")) ∧ PySem.W.readsIn K C (.type "type") = true ∧
  PySem.W.findCls K (.ref C) (.type "type") m = some (.val (.ref f)) ∧ PySem.W.handedIn (.ref f) = true ∧ FnOk P w K mg base (CXr P w) k f fd ps sp ∧ PySem.W.keepIn K (.ref f) = true ∧ Binds K fd ps ds ∧ Vals dvs ds
theorem BCal.mono {P : Program} {w : World} {K : PySem.W.Frag} {mg : Str → Option Value} {base : Heap} {x m : Str} {j k : Nat} {ps : List Str} {dvs : List V} {sp : Sp} (c : BCal P w K mg base x m j ps dvs sp) (h : j ≤ k := by decide) : BCal P w K mg base x m k ps dvs sp :=
 let ⟨C, f, fd, ds, a, b, c, d, e, g, r⟩ := c.ex; ⟨C, f, fd, ds, a, b, c, d, e, g.mono h, r⟩
section
variable {X : Cx} {G : GK} {k : Nat} {x m : Str} {p pos apos : Pos} {e : Expr} {es : List Expr} {t : TA}
def tBase (X : Cx) (k : Nat) (x m : Str) (G : GK) (t : TA) : TE := fun σ H Q => ∃ ps dvs sp, BCal X.prog X.w X.K X.mg X.base x m k ps dvs sp ∧ t σ H fun vs H1 => sp (vs ++ dvs) H1 Q (fun cls _ H' => G cls σ H')
theorem vV {pl : Sem Bool} (B : Bod X) (hr : Room k X.A) (ha : PA (X.exg G) (e :: es) t) (hg : Gl X x := by rfl) (hdb : (x == ("__debug__" : Str)) = false := by decide)
  (hst : starEach (e :: es) X.env = (false, eval e X.env) :: starEach es X.env := by rfl) (hpl : (backTo pos (starEach es X.env)).any (·.1) = false := by rfl)
  (ht : eval (.Call (.Attribute (.Name x p) m apos) (e :: es) [] pos) X.env = (do
   let ov ← eval (.Name x p) X.env
   standAt apos.atName
   let (f, first) ← holding [ov] (getMethod ov m pl)
   callWith pos f first (backTo pos (starEach (e :: es) X.env)) (backToKw pos (keywordEach [] X.env))) := by rfl) :
  PE (X.exg G) (.Call (.Attribute (.Name x p) m apos) (e :: es) [] pos) (tBase X k x m G t) := by
 intro pins s σ H Q I h
 obtain ⟨ps, dvs, sp, ⟨C, f, fd, ds, hm, hga, hrd, hfc, hhd, F, hk, hb, hd⟩, h⟩ := h
 refine PySem.W.methodCall_KW (pl := pl) (jx I hg hm ?_ hdb) ht
 refine PySem.W.method_cls I.kIn hga (PySem.W.cls_value I.kIn hrd hfc hhd ?_)
 have I0 := I.tok (s.toks + 1)
 refine PySem.W.callWith_K (first := []) (h₀ := X.base) I.ok.mod.kin hk (thn (ha pos pins _ σ H _ I0 h) fun us s1 ⟨vs, H1, I1, r, q⟩ => ⟨I1.kIn, ?_⟩) hst hpl
 exact vT B F hr hb hd I1 r q
end
structure FB (K : PySem.W.Frag) (mg : Str → Option Value) (x m qual : Str) (st : Stmt) (ps : List Str) : Prop where
 ex : ∃ C f fd, mg x = some (.ref C) ∧ PySem.W.specialIn K (.ref C) "__getattribute__" = some (some (.builtin "type.__getattribute__")) ∧ PySem.W.readsIn K C (.type "type") = true ∧
  PySem.W.findCls K (.ref C) (.type "type") m = some (.val (.ref f)) ∧ Fun K m qual st f fd ∧ PySem.W.keepIn K (.ref f) = true ∧ Binds K fd ps []
theorem FB.cal {P : Program} {w : World} {K : PySem.W.Frag} {mg : Str → Option Value} {base : Heap} {x m qual : Str} {st : Stmt} {ps : List Str} {k : Nat} {sp : Sp} (h : FB K mg x m qual st ps)
  (ok : ∀ {f fd}, Fun K m qual st f fd → FnOk P w K mg base (CXr P w) k f fd ps sp) : BCal P w K mg base x m k ps [] sp := let ⟨C, f, fd, a, b, c, d, F, kp, bi⟩ := h.ex; ⟨C, f, fd, [], a, b, c, d, rfl, ok F, kp, bi, .nil⟩
theorem fb_mk {K : PySem.W.Frag} {mg : Str → Option Value} {C : Addr} {x m qual : Str} {st : Stmt} {ps : List Str} {f : Addr} {oc : Value} {od an : Option Addr} {osl : Array (Option Value)} {kV doc pm cdv ct : Value} (gl : mg x = some (.ref C))
  (ga : PySem.W.specialIn K (.ref C) "__getattribute__" = some (some (.builtin "type.__getattribute__"))) (rd : PySem.W.readsIn K C (.type "type") = true) (fc : PySem.W.findCls K (.ref C) (.type "type") m = some (.val (.ref f)))
  (l : K.lookup f = some ⟨oc, od, .func (PySem.W.fnOf m qual (zR st) (zO st) (ze st) .none kV doc pm an cdv ct), osl⟩)
  (c : PySem.W.codeIn K cdv qual = true) (k : PySem.W.keepIn K (.ref f) = true)
  (hb : ∀ (kV doc pm : Value) (an : Option Addr) (cdv ct : Value) (us : List Value), us.length = ps.length → bindArgs (PySem.W.fnOf m qual (zR st) (zO st) (ze st) .none kV doc pm an cdv ct) ⟨us, []⟩ = pure (ps.zip us)) : FB K mg x m qual st ps :=
 ⟨C, f, _, gl, ga, rd, fc, jy l c k, k, (jy l c k).binds hb⟩
section
variable {X : Cx} {a b : Expr} {ta : TA} {p pos lp lpos : Pos}
def rgL (lo : Int) (n : Nat) : List V := (List.range n).map fun (i : Nat) => V.int (lo + (i : Int))
theorem vals_range {lo : Int} {n : Nat} {acc : Array Value} (h : ItemsOf (fun i v => ∃ t, v = .int (lo + i * 1) t) acc n) : Vals (rgL lo n) acc.toList := by
 have key : ∀ (k : Nat) (l : List Value) (m : Nat), l.length = m → (∀ i v, l[i]? = some v → ∃ t, v = Value.int (lo + ((k + i : Nat) : Int)) t) → Vals ((List.range' k m).map fun (i : Nat) => V.int (lo + (i : Int))) l := by
  intro k l
  induction l generalizing k with
  | nil => intro m hm _; simp at hm; subst hm; exact .nil
  | cons x r ih =>
   intro m hm hv
   obtain ⟨m, rfl⟩ : ∃ m', m = m' + 1 := ⟨r.length, by simpa using hm.symm⟩
   rw [List.range'_succ, List.map_cons]
   refine .cons ?_ (ih (k + 1) m (by simpa using hm) fun i v e => ?_)
   ·obtain ⟨t, e⟩ := hv 0 x rfl
    exact ⟨t, by simpa using e⟩
   ·obtain ⟨t, e'⟩ := hv (i + 1) v (by simpa using e)
    exact ⟨t, by rw [e']; congr 2; omega⟩
 have := key 0 acc.toList n (by simpa using h.1) fun i v e => by
  obtain ⟨t, e'⟩ := h.2 i v (by simpa using e)
  exact ⟨t, by rw [e']; simp⟩
 rw [rgL, List.range_eq_range']
 exact this
def tRg1 (X : Cx) (ta : TA) : TE := fun σ H Q => X.mg "range" = none ∧ ta σ H fun vs H1 => ∃ j : Int, vs = [.int j] ∧ ∀ p, H1 p = none → Q (.ref p) (upd H1 p (.rng 0 j))
def tRg2 (X : Cx) (ta : TA) : TE := fun σ H Q => X.mg "range" = none ∧ ta σ H fun vs H1 => ∃ i j : Int, vs = [.int i, .int j] ∧ ∀ p, H1 p = none → Q (.ref p) (upd H1 p (.rng i j))
theorem pe_rg1 (ha : PA X [a] ta) (hg : Gl X "range" := by rfl) (hs : starEach [a] X.env = [(false, eval a X.env)] := by rfl) : PE X (.Call (.Name "range" p) [a] [] pos) (tRg1 X ta) := by
 intro pins s σ H Q I h
 refine Call_ (jP I hg h.1 boot_range (PyProof.Rows.callWith_type1 (thn (ha pos pins s σ H _ I h.2) fun us s1 ⟨vs, H1, I1, r1, q1⟩ => ?_) hs rfl))
 obtain ⟨j, e, q⟩ := q1
 subst e
 cases r1 with
 | cons r rr =>
  cases rr
  obtain ⟨t, rfl⟩ := r
  exact call_range_1 ⟨.ref _, _, I1.laid (o := .rng 0 j) (fun b o e => Heap.get?_push_of_some _ e) (Nat.le_refl _) ⟨_, _, _, Heap.get?_push_size _ rfl⟩, rfl, q _ I1.fresh⟩
theorem rgL_length {lo : Int} {n : Nat} : (rgL lo n).length = n := by simp [rgL]
theorem bt_listR (hc : X.calm = true) : CallR X (.type "list") (fun xs H Q => ∃ p lo hi, xs = [.ref p] ∧ H p = some (.rng lo hi) ∧ (-(2 ^ 62) ≤ lo ∧ lo < 2 ^ 62 ∧ -(2 ^ 62) ≤ hi ∧ hi < 2 ^ 62 ∧ (hi - lo).toNat ≤ 1000) ∧ ∀ l, H l = none → Q (.ref l) (upd H l (.lst (rgL lo (hi - lo).toNat)))) := by
 intro pins s σ H xs us Q I r h
 obtain ⟨p, lo, hi, rfl, hq, ⟨h1, h2, h3, h4, h5⟩, q⟩ := h
 obtain ⟨u, rfl, rx⟩ := Zh r
 cases rx
 obtain ⟨t, u, v, e⟩ := I.hok p _ hq
 refine call_list_range (n := (hi - lo).toNat) (I.ok.hd hc) e (small_one h1 h2 h3 h4) (by rw [rangeSize_one]; split <;> omega) (by omega) fun h' tk acc' c' hk hS hit => ?_
 exact ⟨.ref _, _, I.laid (o := .lst (rgL lo (hi - lo).toNat)) (t' := tk) hk (Nat.le_refl _) ⟨by rw [rgL_length]; exact Nat.le_of_lt (zp h5), acc'.toList, c', vals_range hit, by simpa using hS⟩, rfl, q _ I.fresh⟩
end
end L2
namespace L2
open PySem PySem.Spec PyProof.Rows
def Itd (lo : Int) (n : Nat) : It := ⟨fun i _ => i < n, fun i H x H' => H' = H ∧ x = .int (lo - i), fun i _ => n ≤ i⟩
theorem turn_down {P : Program} {w : World} {K : PySem.W.Frag} {tg : Expr} (it : Addr) (lo : Int) (n : Nat) : Turn P w K tg (Itd lo n) [it] it (fun i h => IsRangeIter h it (lo + (i : Nat) * (-1)) ((n : Int) - (i : Nat)) (-1)) where
 mem := by simp
 obj := fun i h st b hb => by
  have e : b = it := by simpa using hb
  subst e
  exact ⟨_, st, fun v z => by
   have z' : Data.fields _ = Data.cell v := z
   cases z'⟩
 keep := fun i h h' st k => k it (by simp) _ st
 item := by
  intro X hP hw hK hc i pins s σ H E I hf st hg
  subst hP hw hK
  obtain ⟨f0, f1, f2, f3, f4, f5⟩ := hf it (by simp)
  have W := Walks.range (prog := X.prog) (w := X.w) (I.ok.hd hc) it lo (-1) n
  refine W.item i s _ _ hg st fun v h' tk hv st' kk => ?_
  obtain ⟨t, rfl⟩ := hv
  have I1 : Inv X pins σ H { s with heap := h', toks := tk } := I.turned (fun b o hb e => kk b o (by simpa using hb) e) f0 f1 f3 f4 f5
  refine ⟨_, rfl, Qe (s := { s with heap := h', toks := tk }) (n := "range_iterator") st' rfl rfl (by decide) ⟨.int (lo - i), H, I1, ⟨t, ?_⟩, ⟨rfl, rfl⟩, st', fun b hb => (hf b hb).1⟩⟩
  congr 1; omega
 done := by
  intro X hP hw hK hc i pins s σ H E I hf st hg
  subst hP hw hK
  obtain ⟨f0, f1, f2, f3, f4, f5⟩ := hf it (by simp)
  exact wpAny_pyNext_range_end (I.ok.hd hc) st (by have : n ≤ i := hg; omega) fun h' eb => ⟨rfl, I.turned (t' := s.toks) (fun b o hb e => eb b o hb e) f0 f1 f3 f4 f5⟩
 self := fun _ _ _ _ _ st h => wpAny_pyIter_rangeiter st h
theorem jJ (a b : Int) : Builtin.Range.rangeSize a b (-1) = ((a - b).toNat : Int) := by
 unfold Builtin.Range.rangeSize
 rw [if_neg (by decide), show (- (-1 : Int)) = 1 from rfl, Int.ediv_one]
 split <;> omega
theorem small_down {a b : Int} (ha : -(2 ^ 62) ≤ a) (ha' : a < 2 ^ 62) (hb : -(2 ^ 62) ≤ b) (hb' : b < 2 ^ 62) : Builtin.Range.small a b (-1) = true := by
 unfold Builtin.Range.small
 rw [jJ]
 simp only [Builtin.Range.rangeFitsLong, Bool.and_eq_true, Bool.or_eq_true, decide_eq_true_eq, beq_iff_eq, show ¬ ((-1 : Int) > 0) by decide, if_false]
 omega
section
variable {X : Cx} {tg : Expr}
theorem down_it {pins : List (Addr × Obj)} {σ : St} {H : Hp} {s : Shared} {R : It → Hp → Prop} {E : Value → Shared → Prop} {lo hi : Int} {t u v : Tok} {tk : Nat} (I : Inv X pins σ H s) (h1 : -(2 ^ 62) ≤ lo) (h2 : lo < 2 ^ 62) (h3 : -(2 ^ 62) ≤ hi) (h4 : hi < 2 ^ 62)
  (q : R (Itd lo (lo - hi).toNat) H) : wpAny (model X.prog X.w) X.A (pyIter (.ref s.heap.objs.size)) (PIE X pins σ tg R) E { s with heap := s.heap.push { cls := .type "range", data := .fields #[.int lo t, .int hi u, .int (-1) v] }, toks := tk } := by
 refine wpAny_pyIter_range (IsRange.new ..) (small_down h1 h2 h3 h4) ?_
 have I1 : Inv X pins σ H { s with heap := s.heap.push { cls := .type "range", data := .fields #[.int lo t, .int hi u, .int (-1) v] }, toks := tk } := I.kept fun b o e => Heap.get?_push_of_some _ e
 refine ⟨(s.heap.push { cls := .type "range", data := .fields #[.int lo t, .int hi u, .int (-1) v] }).objs.size, [(s.heap.push { cls := .type "range", data := .fields #[.int lo t, .int hi u, .int (-1) v] }).objs.size], _, _, H, rfl,
  I1.kept (t' := tk) fun b o e => Heap.get?_push_of_some _ e, turn_down _ lo (lo - hi).toNat, ?_, fun b hb => ?_, q⟩
 ·have e1 : lo + ((0 : Nat) : Int) * (-1) = lo := by simp
  have e2 : (((lo - hi).toNat : Nat) : Int) - ((0 : Nat) : Int) = Builtin.Range.rangeSize lo hi (-1) := by rw [jJ]; omega
  show IsRangeIter _ _ (lo + ((0 : Nat) : Int) * (-1)) ((((lo - hi).toNat : Nat) : Int) - ((0 : Nat) : Int)) (-1)
  rw [e1, e2]
  exact Heap.get?_push_size _ rfl
 ·have e : b = (s.heap.push { cls := .type "range", data := .fields #[.int lo t, .int hi u, .int (-1) v] }).objs.size := by simpa using hb
  subst e
  exact I1.fpOk (Nat.le_refl _) (I1.hok.fresh (Nat.le_refl _))
def iRng3 (X : Cx) (ta : TA) : TI := fun σ H R => X.mg "range" = none ∧ ta σ H fun vs H1 => ∃ i j : Int, vs = [.int i, .int j, .int (-1)] ∧ (-1000 ≤ i ∧ i < 1000 ∧ -1000 ≤ j ∧ j < 1000) ∧ R (Itd i (i - j).toNat) H1
theorem QD {a b c : Expr} {ta : TA} {p pos : Pos} (ha : PA X [a, b, c] ta) (hg : Gl X "range" := by rfl) (hs : starEach [a, b, c] X.env = [(false, eval a X.env), (false, eval b X.env), (false, eval c X.env)] := by rfl) (hs2 : starEach [b, c] X.env = [(false, eval b X.env), (false, eval c X.env)] := by rfl) :
  PI X tg (.Call (.Name "range" p) [a, b, c] [] pos) (iRng3 X ta) := by
 intro pins s σ H R I h
 refine Call_ (jP I hg h.1 boot_range (PyProof.Rows.callWith_type1 (thn (ha pos pins s σ H _ I h.2) fun us s1 ⟨vs, H1, I1, r1, q1⟩ => ?_) (by rw [hs, hs2]) (by rw [hs2]; rfl)))
 obtain ⟨i, j, e, ⟨q1, q2, q3, q4⟩, q⟩ := q1
 subst e
 cases r1 with
 | cons r rr =>
  cases rr with
  | cons r' rr =>
   cases rr with
   | cons r'' rr =>
    cases rr
    obtain ⟨t, rfl⟩ := r
    obtain ⟨t', rfl⟩ := r'
    obtain ⟨t'', rfl⟩ := r''
    exact call_range_3 (by decide) (down_it I1 (by omega) (by omega) (by omega) (by omega) q) (Or.inl (PyProof.noPylong_small (by omega)))
theorem Q8 {K : PySem.W.Frag} {σ : St} {H : Hp} {lo : Int} {n : Nat} {DN : St → Hp → Prop} {B : (St → Hp → Prop) → V → St → Hp → Prop} (Pv : Nat → St → Hp → Prop) (h0 : Pv 0 σ H)
  (hs : ∀ i σ H, i < n → Pv i σ H → B (Pv (i + 1)) (.int (lo - i)) σ H) (hd : ∀ σ H, Pv n σ H → DN σ H) :
  ∃ W : Nat → Nat → St → Hp → Prop, (∃ m, W 0 m σ H) ∧ ∀ i m σ H, W i m σ H →
   ((Itd lo n).stop i H ∧ DN σ H) ∨ ((Itd lo n).go i H ∧ ∃ N : St → Hp → Prop, (∀ σ' H', N σ' H' → ∃ m', m' < m ∧ W (i + 1) m' σ' H') ∧ ∀ x H', (Itd lo n).yld i H x H' → B N x σ H') := by
 refine ⟨fun i m σ H => m = n - i ∧ i ≤ n ∧ Pv i σ H, ⟨n, by simp, Nat.zero_le _, h0⟩, ?_⟩
 rintro i m σ H ⟨rfl, hi, p⟩
 by_cases hlt : i < n
 ·refine .inr ⟨hlt, Pv (i + 1), fun σ' H' p' => ⟨n - (i + 1), by omega, rfl, hlt, p'⟩, fun x H' y => ?_⟩
  obtain ⟨e, y⟩ := y
  subst e y
  exact hs i σ _ hlt p
 ·have e : i = n := by omega
  subst e
  exact .inl ⟨Nat.le_refl _, hd σ H p⟩
end
end L2
namespace L2
open PySem PySem.Spec PyProof.Rows
section
variable {X : Cx} {tg : Expr}
def Its (x : Str) : It := ⟨fun i _ => i < x.cps.size, fun i H v H' => H' = H ∧ ∃ c, x.cps[i]? = some c ∧ v = .str ⟨#[c]⟩, fun i _ => i = x.cps.size⟩
def iStr (tl : TE) : TI := fun σ H R => tl σ H fun v H1 => ∃ x, v = .str x ∧ R (Its x) H1
end
end L2
namespace L2
open PySem PySem.Spec PySem.Calls PyProof.Rows
theorem xb : ∀ {us : List Value} {ns : List Int}, IntsAre us ns → Vals (ns.map V.int) us
 | _, _, .nil => .nil
 | _, _, .cons n t h => .cons ⟨t, rfl⟩ (xb h)
section
variable {X : Cx}
theorem bi_sorted : CallR X (.builtin "sorted") (fun xs H Q => ∃ p, ∃ ns : List Int, xs = [.ref p] ∧ SqL X.K H p (ns.map V.int) ∧ ns.length < 64 ∧
  ∀ (ms : List Int) l, ms.Perm ns → ms.Pairwise (· ≤ ·) → H l = none → Q (.ref l) (upd H l (.lst (ms.map V.int)))) := by
 intro pins s σ H xs us Q I r h
 obtain ⟨p, ns, rfl, hp, h64, q⟩ := h
 obtain ⟨u, rfl, rx⟩ := Zh r
 cases rx
 obtain ⟨its, rv, hl, hz⟩ := I.list hp
 have hlen : its.length = ns.length := by have := rv.length; rw [List.length_map] at this; exact this.symm
 refine sorted_ints hl.isList (intsAre_of rv) (by omega) fun out ms a1 a2 a3 => ?_
 obtain ⟨e, he⟩ := sortedAll_at s.heap its out
 exact ⟨.ref _, _, I.laid (a := s.heap.objs.size + 1) (o := .lst (ms.map V.int)) (t' := s.toks) (fun b o h => sortedAll_old h) (Nat.le_succ _) ⟨by rw [List.length_map, a2.length_eq]; exact Nat.le_of_lt (zp (by omega)), out.toList, e, xb a1, by simpa using he⟩, rfl, q ms _ a2 a3 (I.hok.fresh (Nat.le_succ _))⟩
end
structure FunD (K : PySem.W.Frag) (x qual : Str) (st : Stmt) (f : Addr) (fd : FuncData) : Prop where
 ex : ∃ (oc : Value) (od : Option Addr) (dV kV doc pm : Value) (an : Option Addr) (cdv ct : Value) (osl : Array (Option Value)),
  fd = PySem.W.fnOf x qual (zR st) (zO st) (ze st) dV kV doc pm an cdv ct ∧ K.lookup f = some ⟨oc, od, .func fd, osl⟩ ∧ PySem.W.codeIn K cdv qual = true
 kp : PySem.W.keepIn K (.ref f) = true
section
variable {P : Program} {w : World} {K : PySem.W.Frag} {mg : Str → Option Value} {base : Heap}
theorem FunD.okx {x qual : Str} {st : Stmt} {f : Addr} {fd : FuncData} {N ps : List Str} {k : Nat} {sp : Sp} (F : FunD K x qual st f fd) (S : FnScope N ps (ze st)) (len : ∀ vs H Q E, sp vs H Q E → vs.length = ps.length)
  (hbody : ∀ (cdv : Value) (A : Around) (outer : List Env) (s : Shared) (H : Hp) (vs : List V) (Q : VK) (E : XK), Room k (A.deeper (envOfC qual (ze st) s.heap.objs.size f cdv)) → sp vs H Q E →
   ∃ t, PSs ((cxR P w K mg base N qual (ze st) f cdv A outer s H E).exg fun cls _ H' => E cls none H') (zO st) t ∧ t { nx := fun _ H' => Q .non H', rt := Q } (start N vs) H) : FnOk P w K mg base (CXr P w) (k + 1) f fd ps sp := by
 obtain ⟨oc, od, dV, kV, doc, pm, an, cdv, ct, osl, rfl, lk, hcd⟩ := F.ex
 refine QP lk hcd S len fun A outer s H vs Q E hr hsp => ?_
 obtain ⟨t, h, q⟩ := hbody cdv A outer s H vs Q E hr hsp
 refine ⟨t, fun pins s σ H' D I hw => ?_, q⟩
 refine wpAny_mono (h pins s σ H' D (I.wish _) hw) (fun _ _ z => z.unwish) fun e s' z => ?_
 refine wpAny_bind (wpAny_mono (show wpAny _ _ _ _ _ _ from z) (fun _ s1 y1 => wpAny_mono y1 (fun _ s'' y => ?_) fun _ _ y => y.elim) fun _ _ y => y.elim)
 obtain ⟨a, cls, σ2, H2, rfl, J, xx, g⟩ := y
 exact ⟨a, cls, H2, rfl, J.os, J.bare, J.base, J.hok, xx.less (fun p hp => absurd hp (by simp)), g⟩
structure FD (K : PySem.W.Frag) (mg : Str → Option Value) (x : Str) (st : Stmt) (ps : List Str) (dvs : List V) : Prop where
 ex : ∃ f fd ds, FunD K x x st f fd ∧ mg x = some (.ref f) ∧ Binds K fd ps [] ∧ Binds K fd ps ds ∧ Vals dvs ds
theorem FD.cal {x : Str} {st : Stmt} {ps : List Str} {dvs : List V} {k : Nat} {sp : Sp} (h : FD K mg x st ps dvs) (ok : ∀ {f fd}, FunD K x x st f fd → FnOk P w K mg base (CXr P w) k f fd ps sp) :
  Cal P w K mg base x k ps [] sp := let ⟨f, fd, _, F, m, b, _⟩ := h.ex; ⟨f, fd, [], ok F, m, F.kp, b, .nil⟩
end
end L2
namespace L2
open PySem PySem.Spec PySem.Calls PyProof.Rows
section
variable {prog : Program} {w : World} {A : Around} {E : Value → Shared → Prop} {s : Shared} {R : Result → Shared → Prop}
end
section
variable {X : Cx} {a : Expr} {ta : TA} {p p2 pos pos2 : Pos}
end
section
variable {X : Cx}
def rInsert : V → List V → Hp → VK → Prop := fun x vs H Q => ∃ l xs, ∃ i : Nat, ∃ y, x = .ref l ∧ vs = [.int i, y] ∧ H l = some (.lst xs) ∧ i ≤ xs.length ∧ xs.length < 1000 ∧ Q .non (upd H l (.lst (xs.take i ++ [y] ++ xs.drop i)))
abbrev insF (x : Int) (y : Value) : Array Value → Array Value := fun xs => have k := if x < 0 then (x + (xs.size : Int)).toNat else min x.toNat xs.size; (xs.extract 0 k).push y ++ xs.extract k
theorem call_insert {prog : Program} {w : World} {A : Around} {E : Value → Shared → Prop} {s : Shared} {Q : Value → Shared → Prop} {l : Addr} {its : Array Value} {n : Nat} {x : Int} {t : Tok} {y : Value}
  (e : s.heap.get? l = some { cls := .type "list", data := .seq its n }) (hx : Builtin.List.listFitsIndex x = true) (hz : its.size ≤ sizeLine) (h : Q .none { s with heap := s.heap.update l (Obj.mapSeq (insF x y)) }) :
  wpAny (model prog w) A (call (.builtin "list.insert") [.ref l, .int x t, y]) Q E s := by
 have hf2 : ¬ (!Builtin.List.listFitsIndex x) = true := by rw [hx]; exact Bool.false_ne_true
 exact call_meets PySem.F.slot_list_insert ⟨_, e, rfl⟩ PySem.F.entry_list_insert (PySem.F.args_list_insert_3 _ _ _) (PySem.AutoSeq1.list_insert_list_int_val_1 l its n x t y hf2 hz) ⟨e, h⟩
theorem mt_insert : MtM X "list.insert" rInsert := by
 intro pins s σ H x vs v us Q I rx rv h
 obtain ⟨l, xs, i, y, rfl, rfl, hH, hi, hz, q⟩ := h
 cases rx
 obtain ⟨z, its, n, r, hl, e⟩ := I.lstM hH
 obtain ⟨u1, u2, rfl, r1, r2⟩ := rv.two
 obtain ⟨t, rfl⟩ := r1
 refine call_insert e (fitsIndex_both (by omega) (by omega)) (by rw [List.size_toArray]; omega) ?_
 refine ⟨.non, _, I.lset (its' := its.take i ++ [u2] ++ its.drop i) hH e ?_ (((r.take i).append (.cons r2 .nil)).append (r.drop i)) ?_, rfl, q⟩
 ·have h0 : ¬ ((i : Int) < 0) := by omega
  simp only [insF, h0, if_false, Int.toNat_natCast, List.size_toArray]
  rw [Nat.min_eq_left (by omega)]
  simp
  rw [List.take_of_length_le (by rw [List.length_drop]; omega)]
 ·simp only [List.length_append, List.length_take, List.length_drop, List.length_cons, List.length_nil]
  have := zp (show xs.length + 1 ≤ 1000 by omega)
  omega
end
end L2
namespace L2
open PySem PySem.Spec PyProof.Rows
inductive D where
 | non | bl (b : Bool) | int (i : Int) | str (x : Str) | lst (xs : List D) | tup (xs : List D) | ob (C : Addr) (fs : List (Str × D))
inductive Rep (H : Hp) (p : Addr → Prop) : V → D → Prop where
 | non : Rep H p .non .non
 | bl {b : Bool} : Rep H p (.bl b) (.bl b)
 | int {i : Int} : Rep H p (.int i) (.int i)
 | str {x : Str} : Rep H p (.str x) (.str x)
 | lst {l : Addr} {vs : List V} {ds : List D} : p l → H l = some (.lst vs) → vs.length = ds.length → (∀ (i : Nat) v d, vs[i]? = some v → ds[i]? = some d → Rep H p v d) → Rep H p (.ref l) (.lst ds)
 | tup {l : Addr} {vs : List V} {ds : List D} : p l → H l = some (.tup vs) → vs.length = ds.length → (∀ (i : Nat) v d, vs[i]? = some v → ds[i]? = some d → Rep H p v d) → Rep H p (.ref l) (.tup ds)
 | ob {l C dx : Addr} {fs : List (Str × V)} {ds : List (Str × D)} : p l → H l = some (.ins C dx fs) → fs.map (·.1) = ds.map (·.1) → (∀ (i : Nat) f g, fs[i]? = some f → ds[i]? = some g → Rep H p f.2 g.2) → Rep H p (.ref l) (.ob C ds)
theorem Rep.keep {H H' : Hp} {p q : Addr → Prop} (s : ∀ b o, p b → H b = some o → q b ∧ H' b = some o) {v : V} {d : D} (h : Rep H p v d) : Rep H' q v d := by
 induction h with
 | non => exact .non
 | bl => exact .bl
 | int => exact .int
 | str => exact .str
 | lst pl hl e _ ih => exact .lst (s _ _ pl hl).1 (s _ _ pl hl).2 e ih
 | tup pl hl e _ ih => exact .tup (s _ _ pl hl).1 (s _ _ pl hl).2 e ih
 | ob pl hl e _ ih => exact .ob (s _ _ pl hl).1 (s _ _ pl hl).2 e ih
structure Reps (H : Hp) (p : Addr → Prop) (vs : List V) (ds : List D) : Prop where
 len : vs.length = ds.length
 g : ∀ (i : Nat) v d, vs[i]? = some v → ds[i]? = some d → Rep H p v d
section
variable {H H' : Hp} {p q : Addr → Prop} {vs us : List V} {ds es : List D} {v : V} {d : D}
theorem Reps.keep (s : ∀ b o, p b → H b = some o → q b ∧ H' b = some o) (h : Reps H p vs ds) : Reps H' q vs ds := ⟨h.len, fun i v d a b => (h.g i v d a b).keep s⟩
theorem Reps.nil : Reps H p [] [] := ⟨rfl, fun i v d h => by simp at h⟩
theorem Reps.cons (h : Rep H p v d) (k : Reps H p vs ds) : Reps H p (v :: vs) (d :: ds) := ⟨by simp [k.len], fun i u e a b => by
 cases i with
 | zero =>
  have a : v = u := by simpa using a
  have b : d = e := by simpa using b
  rw [← a, ← b]; exact h
 | succ i => exact k.g i u e (by simpa using a) (by simpa using b)⟩
theorem Reps.one (h : Rep H p v d) : Reps H p [v] [d] := .cons h .nil
theorem Reps.append (h : Reps H p vs ds) (k : Reps H p us es) : Reps H p (vs ++ us) (ds ++ es) := by
 refine ⟨by rw [List.length_append, List.length_append, h.len, k.len], fun i v r e1 e2 => ?_⟩
 by_cases hi : i < vs.length
 ·rw [List.getElem?_append_left hi] at e1
  rw [List.getElem?_append_left (by rw [← h.len]; exact hi)] at e2
  exact h.g i v r e1 e2
 ·rw [List.getElem?_append_right (by omega)] at e1
  rw [List.getElem?_append_right (by rw [← h.len]; omega), ← h.len] at e2
  exact k.g _ v r e1 e2
theorem Reps.at (h : Reps H p vs ds) {i : Nat} (e : vs[i]? = some v) : ∃ d, ds[i]? = some d ∧ Rep H p v d := by
 have hi := (List.getElem?_eq_some_iff.mp e).1
 have e2 : ds[i]? = some (ds[i]'(by rw [← h.len]; exact hi)) := List.getElem?_eq_getElem _
 exact ⟨_, e2, h.g i v _ e e2⟩
theorem Reps.of (h : Reps H p vs ds) {i : Nat} (e : ds[i]? = some d) : ∃ v, vs[i]? = some v ∧ Rep H p v d := by
 have hi := (List.getElem?_eq_some_iff.mp e).1
 have e2 : vs[i]? = some (vs[i]'(by rw [h.len]; exact hi)) := List.getElem?_eq_getElem _
 exact ⟨_, e2, h.g i _ d e2 e⟩
theorem Reps.take (h : Reps H p vs ds) (n : Nat) : Reps H p (vs.take n) (ds.take n) := ⟨by rw [List.length_take, List.length_take, h.len], fun i v d a b => by
 rw [List.getElem?_take] at a b
 by_cases hn : i < n
 ·rw [if_pos hn] at a b; exact h.g i v d a b
 ·rw [if_neg hn] at a; cases a⟩
theorem Reps.drop (h : Reps H p vs ds) (n : Nat) : Reps H p (vs.drop n) (ds.drop n) := ⟨by rw [List.length_drop, List.length_drop, h.len], fun i v d a b => by
 rw [List.getElem?_drop] at a b
 exact h.g _ v d a b⟩
theorem Reps.reverse (h : Reps H p vs ds) : Reps H p vs.reverse ds.reverse := ⟨by rw [List.length_reverse, List.length_reverse, h.len], fun i v d a b => by
 have hi : i < vs.length := by have := (List.getElem?_eq_some_iff.mp a).1; rw [List.length_reverse] at this; exact this
 rw [List.getElem?_reverse hi] at a
 rw [List.getElem?_reverse (by rw [← h.len]; exact hi), ← h.len] at b
 exact h.g _ v d a b⟩
theorem Reps.mk' {l : Addr} (h : Reps H p vs ds) (pl : p l) (e : H l = some (.lst vs)) : Rep H p (.ref l) (.lst ds) := .lst pl e h.len h.g
theorem Reps.mkT {l : Addr} (h : Reps H p vs ds) (pl : p l) (e : H l = some (.tup vs)) : Rep H p (.ref l) (.tup ds) := .tup pl e h.len h.g
theorem Rep.lst' (h : Rep H p v (.lst ds)) : ∃ l us, v = .ref l ∧ p l ∧ H l = some (.lst us) ∧ Reps H p us ds := by
 cases h with | lst a b c e => exact ⟨_, _, rfl, a, b, c, e⟩
theorem Rep.tup' (h : Rep H p v (.tup ds)) : ∃ l us, v = .ref l ∧ p l ∧ H l = some (.tup us) ∧ Reps H p us ds := by
 cases h with | tup a b c e => exact ⟨_, _, rfl, a, b, c, e⟩
theorem j6 {f : Str} : ∀ {fs : List (Str × V)} {gs : List (Str × D)}, fs.map (·.1) = gs.map (·.1) → (∀ (i : Nat) x y, fs[i]? = some x → gs[i]? = some y → Rep H p x.2 y.2) →
  (∀ d, gs.lookup f = some d → ∃ u, fs.lookup f = some u ∧ Rep H p u d) ∧ (gs.lookup f = none → fs.lookup f = none)
 | [], [], _, _ => ⟨fun d h => by simp at h, fun _ => rfl⟩
 | [], _ :: _, e, _ => by simp at e
 | _ :: _, [], e, _ => by simp at e
 | (a, u) :: fs, (b, c) :: gs, e, r => by
  have e1 : a = b := by simpa using (List.cons.inj e).1
  subst e1
  have ih := j6 (f := f) (fs := fs) (gs := gs) (List.cons.inj e).2 fun i x y hx hy => r (i + 1) x y (by simpa using hx) (by simpa using hy)
  by_cases hf : f = a
  ·have hb : (f == a) = true := beq_iff_eq.mpr hf
   refine ⟨fun d h => ?_, fun h => ?_⟩
   ·simp only [List.lookup, hb] at h ⊢
    cases h
    exact ⟨_, rfl, r 0 (a, u) (a, c) rfl rfl⟩
   ·simp only [List.lookup, hb] at h
    cases h
  ·have hb : (f == a) = false := beq_eq_false_iff_ne.mpr hf
   simp only [List.lookup, hb]
   exact ih
theorem Rep.ob' {C : Addr} {gs : List (Str × D)} (h : Rep H p v (.ob C gs)) : ∃ l dx fs, v = .ref l ∧ p l ∧ H l = some (.ins C dx fs) ∧ (∀ f d, gs.lookup f = some d → ∃ u, fs.lookup f = some u ∧ Rep H p u d) ∧ (∀ f, gs.lookup f = none → fs.lookup f = none) := by
 cases h with | ob a b c e => exact ⟨_, _, _, rfl, a, b, fun f => (j6 c e).1, fun f => (j6 c e).2⟩
abbrev D.ints (ns : List Int) : D := .lst (ns.map D.int)
theorem reps_ints : ∀ {ns : List Int}, Reps H p (ns.map V.int) (ns.map D.int)
 | [] => .nil
 | _ :: _ => .cons .int reps_ints
theorem xt : ∀ {ns : List Int} {vs : List V}, Reps H p vs (ns.map D.int) → vs = ns.map V.int
 | [], [], _ => rfl
 | [], _ :: _, h => by have := h.len; simp at this
 | _ :: _, [], h => by have := h.len; simp at this
 | n :: ns, v :: vs, h => by
  have h1 := h.g 0 v (.int n) rfl rfl
  have h2 : Reps H p vs (ns.map D.int) := ⟨by have := h.len; simpa using this, fun i u d a b => h.g (i + 1) u d (by simpa using a) (by simpa using b)⟩
  cases h1
  rw [List.map_cons, xt h2]
theorem Rep.ints' {ns : List Int} (h : Rep H p v (.ints ns)) : ∃ l, v = .ref l ∧ p l ∧ H l = some (.lst (ns.map V.int)) := by
 obtain ⟨l, us, e, a, b, c⟩ := h.lst'
 rw [xt c] at b
 exact ⟨l, e, a, b⟩
theorem zY {l : Addr} {ns : List Int} (pl : p l) (e : H l = some (.lst (ns.map V.int))) : Rep H p (.ref l) (.ints ns) := reps_ints.mk' pl e
end
def Off (ms : List Addr) : Addr → Prop := fun b => b ∉ ms
def Fr (ms : List Addr) (H H' : Hp) : Prop := ∀ b o, b ∉ ms → H b = some o → H' b = some o
section
variable {H H' H2 : Hp} {ms ns : List Addr} {x : Addr} {o : HO} {v : V} {d : D} {vs : List V} {ds : List D}
theorem Fr.refl : Fr ms H H := fun _ _ _ h => h
theorem Fr.trans (a : Fr ms H H') (b : Fr ms H' H2) : Fr ms H H2 := fun c o n h => b c o n (a c o n h)
theorem Fr.more (a : Fr ms H H') (s : ∀ b, b ∈ ms → b ∈ ns) : Fr ns H H' := fun b o n h => a b o (fun z => n (s b z)) h
theorem Same.fr (a : Same H H') : Fr ms H H' := fun b o _ h => a b o h
theorem qc (h : x ∈ ms) : Fr ms H (upd H x o) := fun b u n hb => by
 rw [upd_ne (fun z => n (by rw [z]; exact h))]; exact hb
theorem wV (h : H x = none) : Fr ms H (upd H x o) := (same_upd' h).fr where
 same_upd' {H : Hp} {x : Addr} {o : HO} (h : H x = none) : Same H (upd H x o) := fun b u hb => by rw [upd_ne (ne_of_none hb h)]; exact hb
theorem Fr.same (a : Fr ms H H') (h : ∀ m ∈ ms, H m = none) : Same H H' := fun b o hb => a b o (fun z => by rw [h b z] at hb; cases hb) hb
theorem Rep.fr (h : Rep H (Off ms) v d) (s : Fr ms H H') : Rep H' (Off ms) v d := h.keep fun b o pb hb => ⟨pb, s b o pb hb⟩
theorem Reps.fr (h : Reps H (Off ms) vs ds) (s : Fr ms H H') : Reps H' (Off ms) vs ds := h.keep fun b o pb hb => ⟨pb, s b o pb hb⟩
theorem Rep.more (h : Rep H (Off ms) v d) (s : ∀ b, b ∈ ns → b ∈ ms ∨ H b = none) : Rep H (Off ns) v d := h.keep fun b o pb hb => ⟨fun z => (s b z).elim pb (fun q => by rw [q] at hb; cases hb), hb⟩
theorem Reps.more (h : Reps H (Off ms) vs ds) (s : ∀ b, b ∈ ns → b ∈ ms ∨ H b = none) : Reps H (Off ns) vs ds := h.keep fun b o pb hb => ⟨fun z => (s b z).elim pb (fun q => by rw [q] at hb; cases hb), hb⟩
theorem Rep.same (h : Rep H (Off ms) v d) (s : Same H H') : Rep H' (Off ms) v d := h.fr s.fr
theorem Reps.same (h : Reps H (Off ms) vs ds) (s : Same H H') : Reps H' (Off ms) vs ds := h.fr s.fr
theorem Rep.ahead (h : Rep H (Off []) v d) (s : Same H H') (n : ∀ m ∈ ms, H m = none) : Rep H' (Off ms) v d := h.keep fun b o _ hb => ⟨(fun z => nomatch (n b z).symm.trans hb), s b o hb⟩
theorem Reps.ahead (h : Reps H (Off []) vs ds) (s : Same H H') (n : ∀ m ∈ ms, H m = none) : Reps H' (Off ms) vs ds := h.keep fun b o _ hb => ⟨(fun z => nomatch (n b z).symm.trans hb), s b o hb⟩
theorem Rep.all {p : Addr → Prop} (h : Rep H p v d) : Rep H (Off []) v d := h.keep fun b o _ hb => ⟨(fun z => nomatch z), hb⟩
theorem Reps.all {p : Addr → Prop} (h : Reps H p vs ds) : Reps H (Off []) vs ds := h.keep fun b o _ hb => ⟨(fun z => nomatch z), hb⟩
end
theorem fd_small {i j : Int} (h1 : 0 < j) (h2 : j < 1000000) : CFd i j := fd_ok h1 (Nat.lt_of_lt_of_le (show j.natAbs < 2 ^ 20 by omega) (Nat.pow_le_pow_right (by decide) (by decide)))
theorem jE {K : PySem.W.Frag} {H H' : Hp} {l : Addr} {xs : List V} (s : Same H H') (h : SqL K H l xs) : SqL K H' l xs := s.seq h
def del (H : Hp) (x : Addr) : Hp := fun b => if b = x then none else H b
section
variable {K : PySem.W.Frag} {H : Hp} {Q : VK} {p : Addr → Prop} {v : V} {d : D} {ds : List D} {f : Str}
theorem QT {vs : List V} {i : Int} (h : Reps H p vs ds) (e : atI ds i = some d) : ∃ u, atI vs i = some u ∧ Rep H p u d := by
 unfold atI at e ⊢
 rw [h.len]
 cases z : ixN ds.length i with
 | none => rw [z] at e; cases e
 | some j => rw [z] at e; exact h.of (i := j) e
end
theorem zW {H H' : Hp} {p : Addr → Prop} {v : V} {d : D} (h : Rep H p v d) (s : Same H H') : Rep H' p v d := h.keep fun b o pb hb => ⟨pb, s b o hb⟩
end L2
namespace L2
open PySem PySem.Spec PyProof.Rows
section
variable {X : Cx}
def rGetL (K : PySem.W.Frag) : R2 := fun x y H Q => ∃ p xs i v, x = .ref p ∧ y = .int i ∧ SqL K H p xs ∧ 0 ≤ i ∧ atI xs i = some v ∧ Q v H
theorem xv : PGet X (rGetL X.K) := by
 intro pins s σ H x y v u Q I rx ry h
 obtain ⟨p, xs, i, z, rfl, rfl, hq, h0, he, q⟩ := h
 cases rx
 obtain ⟨t, rfl⟩ := ry
 obtain ⟨its, r, pl, hz⟩ := I.list hq
 obtain ⟨j, h1, h2, h3, h4, h5⟩ := wo he
 obtain ⟨w, ew, rw'⟩ := r.get h2
 have hl := r.length
 have hn := j7
 have hj : i.toNat = j := by
  rw [seqIndex_of h0 h5] at h1
  exact Option.some.inj h1
 exact wpAny_getItem_list pl.isList h0 (by omega) (by rw [hj]; simpa using ew) ⟨z, H, I, rw', q⟩
end
inductive Hard : D → Prop where
 | non : Hard .non
 | bl {b : Bool} : Hard (.bl b)
 | int {i : Int} : Hard (.int i)
 | str {x : Str} : Hard (.str x)
 | tup {ds : List D} : (∀ (i : Nat) d, ds[i]? = some d → Hard d) → Hard (.tup ds)
theorem Rep.hard {H : Hp} {p q : Addr → Prop} {v : V} {d : D} (h : Rep H p v d) (hd : Hard d) (k : ∀ b xs, p b → H b = some (.tup xs) → q b) : Rep H q v d := by
 induction h with
 | non => exact .non
 | bl => exact .bl
 | int => exact .int
 | str => exact .str
 | lst pl hl e _ ih => cases hd
 | tup pl hl e _ ih =>
  cases hd with
  | tup hd => exact .tup (k _ _ pl hl) hl e fun i v d a b => ih i v d a b (hd i d b)
 | ob pl hl e _ ih => cases hd
theorem nodup_at {as : List Addr} (nd : as.Nodup) {i j : Nat} {b : Addr} (h1 : as[i]? = some b) (h2 : as[j]? = some b) : i = j := by
 obtain ⟨hi, e1⟩ := List.getElem?_eq_some_iff.mp h1
 obtain ⟨hj, e2⟩ := List.getElem?_eq_some_iff.mp h2
 have P := List.pairwise_iff_getElem.mp nd
 rcases Nat.lt_trichotomy i j with h | h | h
 ·exact absurd (e1.trans e2.symm) (P i j hi hj h)
 ·exact h
 ·exact absurd (e2.trans e1.symm) (P j i hj hi h)
structure NL (H : Hp) (p : Addr → Prop) (G : Addr) (as : List Addr) (xss : List (List D)) : Prop where
 out : H G = some (.lst (as.map V.ref))
 len : as.length = xss.length
 nd : as.Nodup
 nG : G ∉ as
 g : ∀ (i : Nat) b xs, as[i]? = some b → xss[i]? = some xs → ∃ vs, H b = some (.lst vs) ∧ Reps H p vs xs
section
variable {H H' : Hp} {p q : Addr → Prop} {G : Addr} {as : List Addr} {xss : List (List D)}
theorem NL.keep (h : NL H p G as xss) (s : ∀ b o, (b = G ∨ b ∈ as ∨ p b) → H b = some o → H' b = some o) (sp : ∀ b, p b → H b ≠ none → q b) : NL H' q G as xss := by
 refine ⟨s _ _ (.inl rfl) h.out, h.len, h.nd, h.nG, fun i b xs e1 e2 => ?_⟩
 obtain ⟨vs, h1, h2⟩ := h.g i b xs e1 e2
 exact ⟨vs, s _ _ (.inr (.inl (List.mem_of_getElem? e1))) h1, h2.keep fun c o pc hc => ⟨sp c pc (by rw [hc]; intro z; cases z), s c o (.inr (.inr pc)) hc⟩⟩
theorem NL.same (h : NL H p G as xss) (s : Same H H') : NL H' p G as xss := h.keep (fun b o _ hb => s b o hb) fun _ hp _ => hp
theorem NL.at (h : NL H p G as xss) {i : Nat} {xs : List D} (e : xss[i]? = some xs) : ∃ b vs, as[i]? = some b ∧ H b = some (.lst vs) ∧ Reps H p vs xs := by
 have hi := (List.getElem?_eq_some_iff.mp e).1
 have e2 : as[i]? = some (as[i]'(by rw [h.len]; exact hi)) := List.getElem?_eq_getElem _
 obtain ⟨vs, h1, h2⟩ := h.g i _ xs e2 e
 exact ⟨_, vs, e2, h1, h2⟩
theorem xK {H : Hp} {p : Addr → Prop} {G : Addr} (h : H G = some (.lst [])) : NL H p G [] [] := ⟨h, rfl, List.nodup_nil, by simp, fun i b xs e => by simp at e⟩
theorem NL.rep (h : NL H p G as xss) : Rep H (Off []) (.ref G) (.lst (xss.map D.lst)) := by
 refine .lst (fun z => nomatch z) h.out (by rw [List.length_map, List.length_map, h.len]) fun i v d e1 e2 => ?_
 rw [List.getElem?_map, Option.map_eq_some_iff] at e1 e2
 obtain ⟨b, e1, rfl⟩ := e1
 obtain ⟨xs, e2, rfl⟩ := e2
 obtain ⟨vs, h1, h2⟩ := h.g i b xs e1 e2
 exact h2.all.mk' (fun z => nomatch z) h1
theorem NL.put {i : Nat} {b : Addr} {vs : List V} {ys : List D} (h : NL H p G as xss) (e : as[i]? = some b) (np : ¬ p b) (r : Reps H p vs ys) : NL (upd H b (.lst vs)) p G as (xss.set i ys) := by
 have hb := List.mem_of_getElem? e
 have nG : G ≠ b := fun z => h.nG (by rw [z]; exact hb)
 have rk : ∀ {us : List V} {zs : List D}, Reps H p us zs → Reps (upd H b (.lst vs)) p us zs := fun r => r.keep fun c o pc hc => ⟨pc, by rw [upd_ne (fun z => np (by rw [← z]; exact pc))]; exact hc⟩
 refine ⟨by rw [upd_ne nG]; exact h.out, by rw [List.length_set, h.len], h.nd, h.nG, fun j c xs e1 e2 => ?_⟩
 by_cases hj : j = i
 ·subst hj
  rw [e] at e1
  cases e1
  have hl : j < xss.length := by rw [← h.len]; exact (List.getElem?_eq_some_iff.mp e).1
  rw [List.getElem?_set_self hl] at e2
  cases e2
  exact ⟨vs, upd_same, rk r⟩
 ·rw [List.getElem?_set_ne (Ne.symm hj)] at e2
  have nc : c ≠ b := fun z => by
   subst z
   exact hj (nodup_at h.nd e1 e)
  obtain ⟨us, h1, h2⟩ := h.g j c xs e1 e2
  exact ⟨us, by rw [upd_ne nc]; exact h1, rk h2⟩
theorem NL.push {b : Addr} {vs : List V} {ys : List D} (h : NL H p G as xss) (hb : H b = some (.lst vs)) (nb : b ∉ as) (nG : b ≠ G) (np : ¬ p G) (r : Reps H p vs ys) : NL (upd H G (.lst (as.map V.ref ++ [.ref b]))) p G (as ++ [b]) (xss ++ [ys]) := by
 have rk : ∀ {us : List V} {zs : List D}, Reps H p us zs → Reps (upd H G (.lst (as.map V.ref ++ [.ref b]))) p us zs := fun r => r.keep fun c o pc hc => ⟨pc, by rw [upd_ne (fun z => np (by rw [← z]; exact pc))]; exact hc⟩
 refine ⟨by rw [upd_same, List.map_append]; rfl, by simp [h.len], ?_, ?_, fun j c xs e1 e2 => ?_⟩
 ·rw [List.nodup_append]
  refine ⟨h.nd, by simp, ?_⟩
  intro x hx y hy z
  rw [List.mem_singleton.mp hy] at z
  exact nb (by rw [← z]; exact hx)
 ·intro z
  rcases List.mem_append.mp z with z | z
  ·exact h.nG z
  ·exact nG (List.mem_singleton.mp z).symm
 ·by_cases hj : j < as.length
  ·rw [List.getElem?_append_left hj] at e1
   rw [List.getElem?_append_left (by rw [← h.len]; exact hj)] at e2
   obtain ⟨us, h1, h2⟩ := h.g j c xs e1 e2
   have nc : c ≠ G := fun z => h.nG (by rw [← z]; exact List.mem_of_getElem? e1)
   exact ⟨us, by rw [upd_ne nc]; exact h1, rk h2⟩
  ·rw [List.getElem?_append_right (by omega)] at e1
   rw [List.getElem?_append_right (by rw [← h.len]; omega), ← h.len] at e2
   have hj0 : j - as.length = 0 := by have := (List.getElem?_eq_some_iff.mp e1).1; simp at this; omega
   rw [hj0] at e1 e2
   have e1 : b = c := by simpa using e1
   have e2 : ys = xs := by simpa using e2
   subst e1 e2
   exact ⟨vs, by rw [upd_ne nG]; exact hb, rk r⟩
end
def TupP (H : Hp) : Addr → Prop := fun b => ∃ xs, H b = some (.tup xs)
theorem NL.tup {H H' : Hp} {G : Addr} {as : List Addr} {xss : List (List D)} (h : NL H (TupP H) G as xss) (s : ∀ b o, (b = G ∨ b ∈ as ∨ TupP H b) → H b = some o → H' b = some o) : NL H' (TupP H') G as xss :=
 h.keep s fun b hb _ => by
  obtain ⟨xs, hx⟩ := hb
  exact ⟨xs, s b _ (.inr (.inr ⟨xs, hx⟩)) hx⟩
theorem NL.isl {H : Hp} {G : Addr} {as : List Addr} {p : Addr → Prop} {xss : List (List D)} (h : NL H p G as xss) {b : Addr} (hb : b ∈ G :: as) : ∃ vs, H b = some (.lst vs) := by
 rcases List.mem_cons.mp hb with rfl | hb
 ·exact ⟨_, h.out⟩
 ·obtain ⟨j, hj⟩ := List.getElem?_of_mem hb
  obtain ⟨vs, h1, _⟩ := h.g j b _ hj (List.getElem?_eq_getElem (by rw [← h.len]; exact (List.getElem?_eq_some_iff.mp hj).1))
  exact ⟨vs, h1⟩
theorem NL.copy {H : Hp} {p : Addr → Prop} {G b : Addr} {as : List Addr} {xss : List (List D)} {vs : List V} {ys : List D} (h : NL H p G as xss) (hb : H b = none) (np : ¬ p G) (r : Reps H p vs ys) :
  upd H b (.lst vs) G = some (.lst (as.map V.ref)) ∧ NL (upd (upd H b (.lst vs)) G (.lst (as.map V.ref ++ [.ref b]))) p G (as ++ [b]) (xss ++ [ys]) := by
 have s3 : Same H (upd H b (.lst vs)) := fun c o hc => by rw [upd_ne (ne_of_none hc hb)]; exact hc
 have nb : b ∉ as := fun z => by
  obtain ⟨us, h1⟩ := h.isl (List.mem_cons_of_mem _ z)
  rw [h1] at hb; cases hb
 have nG : b ≠ G := fun z => by rw [z, h.out] at hb; cases hb
 exact ⟨s3 _ _ h.out, (h.same s3).push upd_same nb nG np (r.keep fun c o pc hc => ⟨pc, s3 _ _ hc⟩)⟩
theorem uc {P : Program} {w : World} {K : PySem.W.Frag} {mg : Str → Option Value} {base : Heap} {x : Str} {k : Nat} {G : List V → Sp → Prop} {ps : List Str} {dvs : List V} {sp : Sp} (c : Cal P w K mg base x k ps dvs sp) (h : G dvs sp) : ∃ ps dvs sp, Cal P w K mg base x k ps dvs sp ∧ G dvs sp := ⟨ps, dvs, sp, c, h⟩
theorem un2 {K : PySem.W.Frag} {H : Hp} {t : Addr} {x y : V} {G : V → V → Prop} (h : H t = some (.tup [x, y])) (q : G x y) : ∃ a xs, V.ref t = .ref a ∧ SqT K H a xs ∧ xs.length = 2 ∧ ∃ v r, xs = v :: r ∧ ∃ v' r', r = v' :: r' ∧ r' = [] ∧ G v v' := ⟨t, _, rfl, SqT.of h, rfl, x, _, rfl, y, _, rfl, rfl, q⟩
theorem ra {K : PySem.W.Frag} {H : Hp} {a C dx : Addr} {fs : List (Str × V)} {v : V} {f : Str} {G : V → Prop} (h : H a = some (.ins C dx fs)) (c : Cls K C) (n : NoAttr K C f) (e : fs.lookup f = some v) (q : G v) : ∃ a' C dx fs v, V.ref a = .ref a' ∧ H a' = some (.ins C dx fs) ∧ Cls K C ∧ NoAttr K C f ∧ fs.lookup f = some v ∧ G v := ⟨a, C, dx, fs, v, rfl, h, c, n, e, q⟩
end L2
namespace L2
open PySem PySem.Spec PyProof.Rows
section
variable {prog : Program} {w : World} {A : Around} {E : Value → Shared → Prop} {s : Shared}
abbrev lit (l : Addr) : Obj := { cls := .type (xM true), data := .fields #[.ref l, .int 0 0] }
end
section
variable {prog : Program} {w : World} {A : Around} {E : Value → Shared → Prop} {s : Shared}
end
def Itz3 (K : PySem.W.Frag) (a1 a2 a3 : Addr) : It :=
 ⟨fun i H => ∃ xs ys zs x y u, SqL K H a1 xs ∧ SqL K H a2 ys ∧ SqL K H a3 zs ∧ xs[i]? = some x ∧ ys[i]? = some y ∧ zs[i]? = some u,
   fun i H v H' => ∃ t x y u, H t = none ∧ v = .ref t ∧ (∀ xs, SqL K H a1 xs → xs[i]? = some x) ∧ (∀ ys, SqL K H a2 ys → ys[i]? = some y) ∧ (∀ zs, SqL K H a3 zs → zs[i]? = some u) ∧ H' = upd H t (.tup [x, y, u]),
   fun i H => ∃ xs, SqL K H a1 xs ∧ xs.length ≤ i⟩
def iZip3 (X : Cx) (ta : TA) : TI := fun σ H R => X.mg "zip" = none ∧ ta σ H fun vs H1 => ∃ l1 l2 l3 xs ys zs, vs = [.ref l1, .ref l2, .ref l3] ∧ SqL X.K H1 l1 xs ∧ SqL X.K H1 l2 ys ∧ SqL X.K H1 l3 zs ∧ R (Itz3 X.K l1 l2 l3) H1
end L2
namespace L2
open PySem PySem.Spec PyProof.Rows
def Itv (K : PySem.W.Frag) (a : Addr) (n : Nat) : It :=
 ⟨fun i H => ∃ xs x, SqL K H a xs ∧ xs.length = n ∧ xs.reverse[i]? = some x, fun i H x H' => H' = H ∧ ∀ xs, SqL K H a xs → xs.reverse[i]? = some x, fun i _ => n ≤ i⟩
def iRev (X : Cx) (ta : TA) : TI := fun σ H R => X.mg "reversed" = none ∧ ta σ H fun vs H1 => ∃ l xs, vs = [.ref l] ∧ SqL X.K H1 l xs ∧ R (Itv X.K l xs.length) H1
section
variable {X : Cx} {pos pos' : Pos} {x : Str}
theorem zF (i : Nat) {e : Expr} {te : TE} (hN : X.N.Nodup) (he : PE X e te) (hi : X.N[i]? = some x := by rfl) (hx : Loc X.env.scope x := by exact Or.inl rfl) (hs : swapsWith e (some (.Name x pos')) pos.line X.env = pure false := by rfl)
  (hf : Or (X.fn x = true) (X.env.scope.names.lookup x = some .local) := by walk_at "p") : PS X (.Assign [.Name x pos'] e pos) (tAsg te (gName i)) := QA hN hi hx he hs hf
theorem pg_n (i : Nat) (hN : X.N.Nodup) (hi : X.N[i]? = some x := by rfl) (hx : Loc X.env.scope x := by exact Or.inl rfl) (hf : Or (X.fn x = true) (X.env.scope.names.lookup x = some .local) := by walk_at "p") : PG X (.Name x pos) (gName i) := Z2 hN hi hx hf
theorem zh {a b : Expr} {ta tb : TE} (ha : PE X a ta) (hb : PE X b tb) (hs : Qt b := by intro _ _; rfl) : PE X (.Subscript a b pos) (tOp (rIx X.K) ta tb) := pe_ix ix_any ha hb hs
end
end L2
namespace L2
open PySem PySem.Spec PyProof.Rows
section
variable {X : Cx}
end
end L2
namespace L2
open PySem PySem.Spec PyProof.Rows
section
variable {X : Cx} {G : GK} {x y : Str} {np mp pos hpos gpos : Pos} {body su sv : List Stmt} {b₀ c₀ : Stmt} {tb : List (Addr × Obj) → GK → TS} {th ti : List (Addr × Obj) → Addr → TS}
def tTry2 (X : Cx) (x y : Str) (tb : List (Addr × Obj) → GK → TS) (th ti : List (Addr × Obj) → Addr → TS) : TS := fun D σ H => ∃ Dc Ec, X.mg x = some (.ref Dc) ∧ PySem.W.subIn X.K (.ref Dc) (.type "BaseException") = some true ∧ X.mg y = some (.ref Ec) ∧ PySem.W.subIn X.K (.ref Ec) (.type "BaseException") = some true ∧
 ∀ pn, tb pn (fun cls σ' H' => ∃ C, cls = .ref C ∧ ((PySem.W.kitCls X.K (.ref C) (.ref Dc) = some true ∧ ∀ a, H' a = none → th pn a D σ' H') ∨ (PySem.W.kitCls X.K (.ref C) (.ref Dc) = some false ∧ PySem.W.kitCls X.K (.ref C) (.ref Ec) = some true ∧ ∀ a, H' a = none → ti pn a D σ' H'))) D σ H
end
section
variable {X : Cx}
end
end L2
namespace L2
open PySem PySem.Spec PyProof.Rows
section
variable {X : Cx}
end
end L2
namespace L2
section
variable {G : Prop} {A B C D E F H I : Type}
theorem iE2 {k : A → B → Prop} (a : A) (b : B) (p : k a b) : ∃ a b, k a b := ⟨a, b, p⟩
theorem iE3 {k : A → B → C → Prop} (a : A) (b : B) (c : C) (p : k a b c) : ∃ a b c, k a b c := ⟨a, b, c, p⟩
theorem iE4 {k : A → B → C → D → Prop} (a : A) (b : B) (c : C) (d : D) (p : k a b c d) : ∃ a b c d, k a b c d := ⟨a, b, c, d, p⟩
theorem iE5 {k : A → B → C → D → E → Prop} (a : A) (b : B) (c : C) (d : D) (e : E) (p : k a b c d e) : ∃ a b c d e, k a b c d e := ⟨a, b, c, d, e, p⟩
theorem iE6 {k : A → B → C → D → E → F → Prop} (a : A) (b : B) (c : C) (d : D) (e : E) (f : F) (p : k a b c d e f) : ∃ a b c d e f, k a b c d e f := ⟨a, b, c, d, e, f, p⟩
theorem iE7 {k : A → B → C → D → E → F → H → Prop} (a : A) (b : B) (c : C) (d : D) (e : E) (f : F) (g : H) (p : k a b c d e f g) : ∃ a b c d e f g, k a b c d e f g := ⟨a, b, c, d, e, f, g, p⟩
theorem iE8 {k : A → B → C → D → E → F → H → I → Prop} (a : A) (b : B) (c : C) (d : D) (e : E) (f : F) (g : H) (i : I) (p : k a b c d e f g i) : ∃ a b c d e f g i, k a b c d e f g i := ⟨a, b, c, d, e, f, g, i, p⟩
theorem oE1 {k : A → Prop} (h : ∃ a, k a) (w : ∀ a, k a → G) : G := by obtain ⟨a, p⟩ := h; exact w a p
theorem oE2 {k : A → B → Prop} (h : ∃ a b, k a b) (w : ∀ a b, k a b → G) : G := by obtain ⟨a, b, p⟩ := h; exact w a b p
theorem oE3 {k : A → B → C → Prop} (h : ∃ a b c, k a b c) (w : ∀ a b c, k a b c → G) : G := by obtain ⟨a, b, c, p⟩ := h; exact w a b c p
theorem oE4 {k : A → B → C → D → Prop} (h : ∃ a b c d, k a b c d) (w : ∀ a b c d, k a b c d → G) : G := by obtain ⟨a, b, c, d, p⟩ := h; exact w a b c d p
theorem oE5 {k : A → B → C → D → E → Prop} (h : ∃ a b c d e, k a b c d e) (w : ∀ a b c d e, k a b c d e → G) : G := by obtain ⟨a, b, c, d, e, p⟩ := h; exact w a b c d e p
theorem oE6 {k : A → B → C → D → E → F → Prop} (h : ∃ a b c d e f, k a b c d e f) (w : ∀ a b c d e f, k a b c d e f → G) : G := by obtain ⟨a, b, c, d, e, f, p⟩ := h; exact w a b c d e f p
theorem oE7 {k : A → B → C → D → E → F → H → Prop} (h : ∃ a b c d e f g, k a b c d e f g) (w : ∀ a b c d e f g, k a b c d e f g → G) : G := by obtain ⟨a, b, c, d, e, f, g, p⟩ := h; exact w a b c d e f g p
theorem oE8 {k : A → B → C → D → E → F → H → I → Prop} (h : ∃ a b c d e f g i, k a b c d e f g i) (w : ∀ a b c d e f g i, k a b c d e f g i → G) : G := by obtain ⟨a, b, c, d, e, f, g, i, p⟩ := h; exact w a b c d e f g i p
end
section
variable {G A B C D E F H I J : Prop}
theorem iA3 (a : A) (b : B) (c : C) : A ∧ B ∧ C := ⟨a, b, c⟩
theorem iA4 (a : A) (b : B) (c : C) (d : D) : A ∧ B ∧ C ∧ D := ⟨a, b, c, d⟩
theorem iA5 (a : A) (b : B) (c : C) (d : D) (e : E) : A ∧ B ∧ C ∧ D ∧ E := ⟨a, b, c, d, e⟩
theorem iA6 (a : A) (b : B) (c : C) (d : D) (e : E) (f : F) : A ∧ B ∧ C ∧ D ∧ E ∧ F := ⟨a, b, c, d, e, f⟩
theorem iA7 (a : A) (b : B) (c : C) (d : D) (e : E) (f : F) (g : H) : A ∧ B ∧ C ∧ D ∧ E ∧ F ∧ H := ⟨a, b, c, d, e, f, g⟩
theorem iA8 (a : A) (b : B) (c : C) (d : D) (e : E) (f : F) (g : H) (i : I) : A ∧ B ∧ C ∧ D ∧ E ∧ F ∧ H ∧ I := ⟨a, b, c, d, e, f, g, i⟩
theorem iA9 (a : A) (b : B) (c : C) (d : D) (e : E) (f : F) (g : H) (i : I) (j : J) : A ∧ B ∧ C ∧ D ∧ E ∧ F ∧ H ∧ I ∧ J := ⟨a, b, c, d, e, f, g, i, j⟩
theorem oA2 (h : A ∧ B) (k : A → B → G) : G := by obtain ⟨a, b⟩ := h; exact k a b
theorem oA3 (h : A ∧ B ∧ C) (k : A → B → C → G) : G := by obtain ⟨a, b, c⟩ := h; exact k a b c
theorem oA4 (h : A ∧ B ∧ C ∧ D) (k : A → B → C → D → G) : G := by obtain ⟨a, b, c, d⟩ := h; exact k a b c d
theorem oA5 (h : A ∧ B ∧ C ∧ D ∧ E) (k : A → B → C → D → E → G) : G := by obtain ⟨a, b, c, d, e⟩ := h; exact k a b c d e
theorem oA6 (h : A ∧ B ∧ C ∧ D ∧ E ∧ F) (k : A → B → C → D → E → F → G) : G := by obtain ⟨a, b, c, d, e, f⟩ := h; exact k a b c d e f
theorem oA7 (h : A ∧ B ∧ C ∧ D ∧ E ∧ F ∧ H) (k : A → B → C → D → E → F → H → G) : G := by obtain ⟨a, b, c, d, e, f, g⟩ := h; exact k a b c d e f g
theorem oA8 (h : A ∧ B ∧ C ∧ D ∧ E ∧ F ∧ H ∧ I) (k : A → B → C → D → E → F → H → I → G) : G := by obtain ⟨a, b, c, d, e, f, g, i⟩ := h; exact k a b c d e f g i
theorem oA9 (h : A ∧ B ∧ C ∧ D ∧ E ∧ F ∧ H ∧ I ∧ J) (k : A → B → C → D → E → F → H → I → J → G) : G := by obtain ⟨a, b, c, d, e, f, g, i, j⟩ := h; exact k a b c d e f g i j
end
end L2
namespace Mine
theorem gcd_pos {a b : Int} (h : ¬ (a = 0 ∧ b = 0)) : 1 ≤ (Int.gcd a b : Int) := by
 have : 0 < Int.gcd a b := Int.gcd_pos_iff.mpr (by omega)
 omega
end Mine
namespace Mine
structure IsLcm (ns : List Int) (l : Int) : Prop where
 pos : 0 < l
 dv : ∀ n ∈ ns, n ∣ l
 least : ∀ m : Int, (∀ n ∈ ns, n ∣ m) → l ∣ m
theorem IsLcm.nil : IsLcm [] 1 := ⟨by decide, (fun _ h => nomatch h), fun m _ => Int.one_dvd m⟩
theorem lcm_eq {a b : Int} (ha : 0 < a) (hb : 0 < b) : a / (Int.gcd a b : Int) * b = (Nat.lcm a.natAbs b.natAbs : Int) := by
 have g : (Int.gcd a b : Int) ∣ a := Int.gcd_dvd_left ..
 obtain ⟨k, hk⟩ := g
 have gp : 0 < (Int.gcd a b : Int) := by have := gcd_pos (a := a) (b := b) (by omega); omega
 have e1 : a / (Int.gcd a b : Int) = k := by
  conv => lhs; rw [hk]
  have hk' := hk
  rw [Int.mul_comm (Int.gcd a b : Int) k]
  have e2 : Int.gcd (k * (Int.gcd a b : Int)) b = Int.gcd a b := by rw [Int.mul_comm, ← hk]
  rw [e2]
  exact Int.mul_ediv_cancel _ (by omega)
 have hkn : 0 < k := by
  rcases (by omega : k ≤ 0 ∨ 0 < k) with h | h
  ·have := Int.mul_nonpos_of_nonneg_of_nonpos (Int.le_of_lt gp) h
   omega
  ·exact h
 have hg : Nat.gcd a.natAbs b.natAbs * Nat.lcm a.natAbs b.natAbs = a.natAbs * b.natAbs := Nat.gcd_mul_lcm ..
 have ea : a.natAbs = Nat.gcd a.natAbs b.natAbs * k.natAbs := by
  have := congrArg Int.natAbs hk
  rw [Int.natAbs_mul, Int.natAbs_natCast] at this
  exact this
 have gp' : 0 < Nat.gcd a.natAbs b.natAbs := by
  have : (Nat.gcd a.natAbs b.natAbs : Int) = (Int.gcd a b : Int) := rfl
  omega
 have e3 : Nat.lcm a.natAbs b.natAbs = k.natAbs * b.natAbs := by
  apply Nat.eq_of_mul_eq_mul_left gp'
  rw [hg, ← Nat.mul_assoc, ← ea]
 rw [e1, e3]
 rw [Int.natCast_mul]
 have h1 : k = (k.natAbs : Int) := by omega
 have h2 : b = (b.natAbs : Int) := by omega
 rw [← h1, ← h2]
theorem jY {a b : Int} (h : a ∣ b) : a.natAbs ∣ b.natAbs := Int.natAbs_dvd_natAbs.mpr h
theorem IsLcm.step {ns : List Int} {l p : Int} (x : IsLcm ns l) (hp : 0 < p) : IsLcm (ns ++ [p]) (l / (Int.gcd l p : Int) * p) := by
 rw [lcm_eq x.pos hp]
 have lp : 0 < l.natAbs := by have := x.pos; omega
 have pp : 0 < p.natAbs := by omega
 refine ⟨?_, fun n hn => ?_, fun m hm => ?_⟩
 ·have := Nat.lcm_pos lp pp
  omega
 ·rcases List.mem_append.mp hn with h | h
  ·have h1 := x.dv n h
   refine Int.dvd_trans h1 ?_
   rw [← Int.natAbs_dvd_natAbs, Int.natAbs_natCast]
   exact Nat.dvd_lcm_left ..
  ·rw [List.mem_singleton.mp h, ← Int.natAbs_dvd_natAbs, Int.natAbs_natCast]
   exact Nat.dvd_lcm_right ..
 ·have h1 := x.least m fun n hn => hm n (List.mem_append_left _ hn)
  have h2 := hm p (List.mem_append_right _ (List.mem_singleton.mpr rfl))
  rw [← Int.natAbs_dvd_natAbs, Int.natAbs_natCast]
  exact Nat.lcm_dvd (jY h1) (jY h2)
end Mine
namespace L2
open PySem PySem.Spec PyProof.Rows
section
variable {X : Cx} {K : PySem.W.Frag} {σ : St} {H : Hp} {Q : VK} {D : Ends}
theorem rd_I {C : Int → Int → Prop} {g : Int → Int → V} {i j : Int} : rI C g (.int i) (.int j) H Q ↔ C i j ∧ Q (g i j) H :=
 ⟨fun ⟨_, _, e1, e2, h⟩ => by cases e1; cases e2; exact h, fun h => ⟨i, j, rfl, rfl, h⟩⟩
theorem rd_I0 {g : Int → Int → V} {i j : Int} : rI0 g (.int i) (.int j) H Q ↔ Q (g i j) H :=
 ⟨fun ⟨_, _, e1, e2, h⟩ => by cases e1; cases e2; exact h, fun h => ⟨i, j, rfl, rfl, h⟩⟩
theorem rd_ipI {f : Int → Int → Int} {i j : Int} : ipI f (.int i) (.int j) H Q ↔ Q (.int (f i j)) H := ⟨fun ⟨_, _, e1, e2, h⟩ => by cases e1; cases e2; exact h, fun h => ⟨i, j, rfl, rfl, h⟩⟩
theorem rd_U {g : Int → V} {i : Int} : rU g (.int i) H Q ↔ Q (g i) H := ⟨fun ⟨_, e, h⟩ => by cases e; exact h, fun h => ⟨i, rfl, h⟩⟩
theorem rd_addI {i j : Int} : Z0 K (.int i) (.int j) H Q ↔ Q (.int (i + j)) H := by
 constructor
 ·rintro (h | ⟨_, _, e, _⟩ | ⟨_, _, _, _, e, _⟩)
  ·exact rd_I0.mp h
  ·cases e
  ·cases e
 ·intro h; exact .inl (rd_I0.mpr h)
theorem rd_addS {i j : Str} : Z0 K (.str i) (.str j) H Q ↔ i.length + j.length ≤ sizeLine ∧ Q (.str (i ++ j)) H := by
 constructor
 ·rintro (⟨_, _, e, _⟩ | ⟨_, _, e1, e2, h⟩ | ⟨_, _, _, _, e, _⟩)
  ·cases e
  ·cases e1; cases e2; exact h
  ·cases e
 ·intro h; exact .inr (.inl ⟨i, j, rfl, rfl, h⟩)
theorem rd_var {i : Nat} : tVar i σ H Q ↔ ∃ v, σ[i]? = some (some v) ∧ Q v H := Iff.rfl
theorem rd_varS {v : V} {P : V → Prop} : (∃ u, some (some v) = some (some u) ∧ P u) ↔ P v := ⟨fun ⟨_, e, h⟩ => by cases e; exact h, fun h => ⟨v, rfl, h⟩⟩
theorem rd_test {b : Bool} {P : Bool → Prop} : (∃ k, V.bl b = V.bl k ∧ P k) ↔ P b := ⟨fun ⟨_, e, h⟩ => by cases e; exact h, fun h => ⟨b, rfl, h⟩⟩
theorem rd_truB {b : Bool} {P : Bool → Prop} : (∃ k, TruV K (.bl b) H k ∧ P k) ↔ P b := ⟨fun ⟨_, e, h⟩ => by cases (show _ = b from e); exact h, fun h => ⟨b, rfl, h⟩⟩
theorem rd_eqI {i j : Int} : rEqG K (.int i) (.int j) H Q ↔ Q (.bl (decide (i = j))) H := by
 have e : decide (V.int i = V.int j) = decide (i = j) := by simp
 unfold rEqG rEq
 rw [e]
 exact ⟨fun h => h.elim (fun h => h.2) (fun h => h.elim (fun ⟨_, _, _, _, z, _⟩ => nomatch z) (fun ⟨_, _, _, _, _, _, z, _⟩ => nomatch z)), fun h => .inl ⟨rfl, h⟩⟩
theorem rd_neI {i j : Int} : rNeG K (.int i) (.int j) H Q ↔ Q (.bl (!decide (i = j))) H := by
 have e : decide (V.int i = V.int j) = decide (i = j) := by simp
 unfold rNeG rNe
 rw [e]
 exact ⟨fun h => h.elim (fun h => h.2) (fun h => h.elim (fun ⟨_, _, _, _, z, _⟩ => nomatch z) (fun ⟨_, _, _, _, _, _, z, _⟩ => nomatch z)), fun h => .inl ⟨rfl, h⟩⟩
theorem rd_eqS {i j : Str} : rEqG K (.str i) (.str j) H Q ↔ Q (.bl (decide (i = j))) H := by
 have e : decide (V.str i = V.str j) = decide (i = j) := by simp
 unfold rEqG rEq
 rw [e]
 exact ⟨fun h => h.elim (fun h => h.2) (fun h => h.elim (fun ⟨_, _, _, _, z, _⟩ => nomatch z) (fun ⟨_, _, _, _, _, _, z, _⟩ => nomatch z)), fun h => .inl ⟨rfl, h⟩⟩
theorem rd_eqB {i j : Bool} : rEqG K (.bl i) (.bl j) H Q ↔ Q (.bl (decide (i = j))) H := by
 have e : decide (V.bl i = V.bl j) = decide (i = j) := by simp
 unfold rEqG rEq
 rw [e]
 exact ⟨fun h => h.elim (fun h => h.2) (fun h => h.elim (fun ⟨_, _, _, _, z, _⟩ => nomatch z) (fun ⟨_, _, _, _, _, _, z, _⟩ => nomatch z)), fun h => .inl ⟨rfl, h⟩⟩
theorem rd_fvI {i : Int} {P : Str → Prop} {R : Str → Prop} : ((∃ j, V.int i = V.int j ∧ j.natAbs.log2 < 1920 ∧ P (toString j)) ∨ (∃ y, V.int i = V.str y ∧ y.length ≤ sizeLine ∧ R y)) ↔ i.natAbs.log2 < 1920 ∧ P (toString i) :=
 ⟨fun h => h.elim (fun ⟨_, e, h⟩ => by cases e; exact h) (fun ⟨_, e, _⟩ => nomatch e), fun h => .inl ⟨i, rfl, h⟩⟩
theorem rd_strS {y : Str} {P : Str → Prop} : (∃ z, V.str y = V.str z ∧ P z) ↔ P y := ⟨fun ⟨_, e, h⟩ => by cases e; exact h, fun h => ⟨y, rfl, h⟩⟩
theorem rd_c0 : ((0 : Nat) : Int) = 0 := rfl
theorem rd_c1 : ((1 : Nat) : Int) = 1 := rfl
theorem rd_c2 : ((2 : Nat) : Int) = 2 := rfl
theorem rd_c3 : ((3 : Nat) : Int) = 3 := rfl
theorem rd_c4 : ((4 : Nat) : Int) = 4 := rfl
theorem rd_c5 : ((5 : Nat) : Int) = 5 := rfl
theorem rd_c6 : ((6 : Nat) : Int) = 6 := rfl
theorem rd_sz0 : (0 ≤ sizeLine) = True := eq_true (by decide)
theorem rd_sz1 : (1 ≤ sizeLine) = True := eq_true (by decide)
theorem rd_sz2 : (2 ≤ sizeLine) = True := eq_true (by decide)
theorem rd_sz3 : (3 ≤ sizeLine) = True := eq_true (by decide)
theorem rd_sz4 : (4 ≤ sizeLine) = True := eq_true (by decide)
theorem rd_sz5 : (5 ≤ sizeLine) = True := eq_true (by decide)
theorem rd_sz6 : (6 ≤ sizeLine) = True := eq_true (by decide)
theorem rd_sz7 : (7 ≤ sizeLine) = True := eq_true (by decide)
theorem qh {p : Addr} {xs : List V} {k : Int} {j : Nat} {v : V} {R : Hp → Prop} (h : H p = some (.lst xs)) (e : ixN xs.length k = some j) (q : R (upd H p (.lst (xs.set j v)))) : Q0 (.ref p) (.int k) v H R := ⟨p, xs, k, j, rfl, rfl, h, e, q⟩
theorem qT {n : Nat} {k : Int} (h0 : 0 ≤ k) (h1 : k < n) : ixN n k = some k.toNat := by unfold ixN; rw [if_pos h0, if_pos h1]
theorem rd_sz8 : (8 ≤ sizeLine) = True := eq_true (by decide)
theorem rd_sz9 : (9 ≤ sizeLine) = True := eq_true (by decide)
theorem cx_K {CX : CXT} {P : Program} {w : World} {K : PySem.W.Frag} {mg : Str → Option Value} {base : Heap} {N : List Str} {qual : Str} {scope : Scope} {f : Addr} {cd : Value} {A : Around} {outer : List Env} {s : Shared} {H : Hp} {E : XK} : (cxOf CX P w K mg base N qual scope f cd A outer s H E).K = K := rfl
theorem cx_mg {CX : CXT} {P : Program} {w : World} {K : PySem.W.Frag} {mg : Str → Option Value} {base : Heap} {N : List Str} {qual : Str} {scope : Scope} {f : Addr} {cd : Value} {A : Around} {outer : List Env} {s : Shared} {H : Hp} {E : XK} : (cxOf CX P w K mg base N qual scope f cd A outer s H E).mg = mg := rfl
theorem cx_prog {CX : CXT} {P : Program} {w : World} {K : PySem.W.Frag} {mg : Str → Option Value} {base : Heap} {N : List Str} {qual : Str} {scope : Scope} {f : Addr} {cd : Value} {A : Around} {outer : List Env} {s : Shared} {H : Hp} {E : XK} : (cxOf CX P w K mg base N qual scope f cd A outer s H E).prog = P := rfl
theorem cx_w {CX : CXT} {P : Program} {w : World} {K : PySem.W.Frag} {mg : Str → Option Value} {base : Heap} {N : List Str} {qual : Str} {scope : Scope} {f : Addr} {cd : Value} {A : Around} {outer : List Env} {s : Shared} {H : Hp} {E : XK} : (cxOf CX P w K mg base N qual scope f cd A outer s H E).w = w := rfl
theorem cx_base {CX : CXT} {P : Program} {w : World} {K : PySem.W.Frag} {mg : Str → Option Value} {base : Heap} {N : List Str} {qual : Str} {scope : Scope} {f : Addr} {cd : Value} {A : Around} {outer : List Env} {s : Shared} {H : Hp} {E : XK} : (cxOf CX P w K mg base N qual scope f cd A outer s H E).base = base := rfl
theorem rd_cpow {n : Int} : CPow 10 n ↔ 0 ≤ n ∧ n ≤ 1000000 := ⟨fun h => ⟨h.1, h.2.1⟩, fun h => ⟨h.1, h.2, by decide⟩⟩
theorem rd_isiI {i : Int} : rIsi K [.int i, .ty "int"] H Q ↔ Q (.bl true) H := by
 refine ⟨fun h => ?_, fun q => ⟨_, _, _, _, rfl, .old (.int i), .inl ⟨_, rfl, x6⟩, q⟩⟩
 obtain ⟨x, c, t, b, e, ty, k, q⟩ := h
 cases e
 rcases k with ⟨u, hu, k⟩ | ⟨_, _, _, e, _⟩
 ·cases hu; cases ty with | old ty => cases ty; rw [x6] at k; cases k; exact q
 ·cases e
theorem rd_isiIB {i : Int} : rIsi K [.int i, .ty "bool"] H Q ↔ Q (.bl false) H := by
 refine ⟨fun h => ?_, fun q => ⟨_, _, _, _, rfl, .old (.int i), .inl ⟨_, rfl, xq⟩, q⟩⟩
 obtain ⟨x, c, t, b, e, ty, k, q⟩ := h
 cases e
 rcases k with ⟨u, hu, k⟩ | ⟨_, _, _, e, _⟩
 ·cases hu; cases ty with | old ty => cases ty; rw [xq] at k; cases k; exact q
 ·cases e
theorem rd_isiB {i : Bool} : rIsi K [.bl i, .ty "bool"] H Q ↔ Q (.bl true) H := by
 refine ⟨fun h => ?_, fun q => ⟨_, _, _, _, rfl, .old (.bl i), .inl ⟨_, rfl, jZ⟩, q⟩⟩
 obtain ⟨x, c, t, b, e, ty, k, q⟩ := h
 cases e
 rcases k with ⟨u, hu, k⟩ | ⟨_, _, _, e, _⟩
 ·cases hu; cases ty with | old ty => cases ty; rw [jZ] at k; cases k; exact q
 ·cases e
theorem rd_isiS {i : Str} : rIsi K [.str i, .ty "str"] H Q ↔ Q (.bl true) H := by
 refine ⟨fun h => ?_, fun q => ⟨_, _, _, _, rfl, .old (.str i), .inl ⟨_, rfl, xZ⟩, q⟩⟩
 obtain ⟨x, c, t, b, e, ty, k, q⟩ := h
 cases e
 rcases k with ⟨u, hu, k⟩ | ⟨_, _, _, e, _⟩
 ·cases hu; cases ty with | old ty => cases ty; rw [xZ] at k; cases k; exact q
 ·cases e
theorem Qc {a : Addr} {xs : List V} (h : H a = some (.tup xs)) (q : Q (.bl true) H) : rIsi K [.ref a, .ty "tuple"] H Q := ⟨_, _, _, _, rfl, .old (.tup h), .inl ⟨_, rfl, kit_tup_tup⟩, q⟩
theorem rd_addL {a b : Addr} {xs ys : List V} (h1 : SqL K H a xs) (h2 : SqL K H b ys) (hl : xs.length + ys.length ≤ sizeLine) (q : ∀ p, H p = none → Q (.ref p) (upd H p (.lst (xs ++ ys)))) : Z0 K (.ref a) (.ref b) H Q :=
 .inr (.inr ⟨a, b, xs, ys, rfl, rfl, h1, h2, hl, q⟩)
theorem we {n : Nat} (h : n ≤ 1000) : n ≤ sizeLine := Nat.le_of_lt (zp h)
theorem qV {a : Addr} {xs : List V} {DN : St → Hp → Prop} {B : (St → Hp → Prop) → V → St → Hp → Prop} (Pv : Nat → St → Hp → Prop) (h0 : Pv 0 σ H) (hl : ∀ i σ H, i ≤ xs.length → Pv i σ H → SqL K H a xs)
  (hs : ∀ i x σ H, xs[i]? = some x → Pv i σ H → B (Pv (i + 1)) x σ H) (hd : ∀ σ H, Pv xs.length σ H → DN σ H) :
  ∃ W : Nat → Nat → St → Hp → Prop, (∃ m, W 0 m σ H) ∧ ∀ i m σ H, W i m σ H →
   ((Itl K a).stop i H ∧ DN σ H) ∨ ((Itl K a).go i H ∧ ∃ N : St → Hp → Prop, (∀ σ' H', N σ' H' → ∃ m', m' < m ∧ W (i + 1) m' σ' H') ∧ ∀ x H', (Itl K a).yld i H x H' → B N x σ H') := by
 refine ⟨fun i m σ H => m = xs.length - i ∧ i ≤ xs.length ∧ Pv i σ H, ⟨xs.length, by simp, Nat.zero_le _, h0⟩, ?_⟩
 rintro i m σ H ⟨rfl, hi, p⟩
 have q := hl i σ H hi p
 by_cases hlt : i < xs.length
 ·refine .inr ⟨⟨xs, xs[i], q, by simp [hlt]⟩, Pv (i + 1), fun σ' H' p' => ⟨xs.length - (i + 1), by omega, rfl, hlt, p'⟩, fun x H' y => ?_⟩
  obtain ⟨e, y⟩ := y
  subst e
  exact hs i x σ _ (y xs q) p
 ·have e : i = xs.length := by omega
  subst e
  exact .inl ⟨⟨xs, q, Nat.le_refl _⟩, hd σ H p⟩
theorem for_T {a : Addr} {xs : List V} {DN : St → Hp → Prop} {B : (St → Hp → Prop) → V → St → Hp → Prop} (Pv : Nat → St → Hp → Prop) (h0 : Pv 0 σ H) (hl : ∀ i σ H, i ≤ xs.length → Pv i σ H → SqT K H a xs)
  (hs : ∀ i x σ H, xs[i]? = some x → Pv i σ H → B (Pv (i + 1)) x σ H) (hd : ∀ σ H, Pv xs.length σ H → DN σ H) :
  ∃ W : Nat → Nat → St → Hp → Prop, (∃ m, W 0 m σ H) ∧ ∀ i m σ H, W i m σ H →
   ((Itt K a).stop i H ∧ DN σ H) ∨ ((Itt K a).go i H ∧ ∃ N : St → Hp → Prop, (∀ σ' H', N σ' H' → ∃ m', m' < m ∧ W (i + 1) m' σ' H') ∧ ∀ x H', (Itt K a).yld i H x H' → B N x σ H') := by
 refine ⟨fun i m σ H => m = xs.length - i ∧ i ≤ xs.length ∧ Pv i σ H, ⟨xs.length, by simp, Nat.zero_le _, h0⟩, ?_⟩
 rintro i m σ H ⟨rfl, hi, p⟩
 have q := hl i σ H hi p
 by_cases hlt : i < xs.length
 ·refine .inr ⟨⟨xs, xs[i], q, by simp [hlt]⟩, Pv (i + 1), fun σ' H' p' => ⟨xs.length - (i + 1), by omega, rfl, hlt, p'⟩, fun x H' y => ?_⟩
  obtain ⟨e, y⟩ := y
  subst e
  exact hs i x σ _ (y xs q) p
 ·have e : i = xs.length := by omega
  subst e
  exact .inl ⟨⟨xs, q, Nat.le_refl _⟩, hd σ H p⟩
theorem wW {lo : Int} {n : Nat} {DN : St → Hp → Prop} {B : (St → Hp → Prop) → V → St → Hp → Prop} (Pv : Nat → St → Hp → Prop) (h0 : Pv 0 σ H)
  (hs : ∀ i σ H, i < n → Pv i σ H → B (Pv (i + 1)) (.int (lo + i)) σ H) (hd : ∀ σ H, Pv n σ H → DN σ H) :
  ∃ W : Nat → Nat → St → Hp → Prop, (∃ m, W 0 m σ H) ∧ ∀ i m σ H, W i m σ H →
   ((Itr lo n).stop i H ∧ DN σ H) ∨ ((Itr lo n).go i H ∧ ∃ N : St → Hp → Prop, (∀ σ' H', N σ' H' → ∃ m', m' < m ∧ W (i + 1) m' σ' H') ∧ ∀ x H', (Itr lo n).yld i H x H' → B N x σ H') := by
 refine ⟨fun i m σ H => m = n - i ∧ i ≤ n ∧ Pv i σ H, ⟨n, by simp, Nat.zero_le _, h0⟩, ?_⟩
 rintro i m σ H ⟨rfl, hi, p⟩
 by_cases hlt : i < n
 ·refine .inr ⟨hlt, Pv (i + 1), fun σ' H' p' => ⟨n - (i + 1), by omega, rfl, hlt, p'⟩, fun x H' y => ?_⟩
  obtain ⟨e, y⟩ := y
  subst e y
  exact hs i σ _ hlt p
 ·have e : i = n := by omega
  subst e
  exact .inl ⟨Nat.le_refl _, hd σ H p⟩
theorem rd_l1 {i : Int} {P : Int → Prop} : (∃ j, [V.int i] = [V.int j] ∧ P j) ↔ P i := ⟨fun ⟨_, e, h⟩ => by cases e; exact h, fun h => ⟨i, rfl, h⟩⟩
theorem rd_part {i : Int} {P : Int → Prop} : (∃ j, V.int i = V.int j ∧ P j) ↔ P i := ⟨fun ⟨_, e, h⟩ => by cases e; exact h, fun h => ⟨i, rfl, h⟩⟩
theorem rd_eqT {a b : Addr} {xs : List V} (h1 : SqT K H a xs) (h2 : SqT K H b xs) (hf : xs.all jC = true) (hs : qZ xs xs = true) (q : Q (.bl true) H) : rEqG K (.ref a) (.ref b) H Q :=
 .inr (.inl ⟨a, b, xs, xs, rfl, rfl, .inr ⟨h1, h2⟩, hf, hf, by rw [hs]; exact q⟩)
theorem rd_slL {a : Addr} {xs : List V} {lo hi : Option Int} (h : SqL K H a xs) (q : ∀ p, H p = none → Q (.ref p) (upd H p (.lst (cutV xs lo hi)))) : rSlL K (.ref a) lo hi H Q := ⟨a, xs, rfl, h, q⟩
theorem rd_len {v : V} {P : V → Nat → Prop} : (∃ x n, [v] = [x] ∧ P x n) ↔ ∃ n, P v n := ⟨fun ⟨_, n, e, h⟩ => by cases e; exact ⟨n, h⟩, fun ⟨n, h⟩ => ⟨v, n, rfl, h⟩⟩
theorem upd_keep {a b : Addr} {o u : HO} (h : H b = some u) (ha : H a = none) : upd H a o b = some u := by rw [upd_ne (ne_of_none h ha)]; exact h
theorem zf {a : Addr} {o : HO} (ha : H a = none) : Same H (upd H a o) := fun _ _ h => upd_keep h ha
theorem rd_ixT {a : Addr} {xs : List V} {i : Int} {v : V} (h : H a = some (.tup xs)) (e : atI xs i = some v) (q : Q v H) : rIx K (.ref a) (.int i) H Q := .inr (.inl ⟨a, xs, i, v, rfl, rfl, SqT.of h, e, q⟩)
theorem zl {a : Addr} {xs : List V} {i : Int} {v : V} (h : SqL K H a xs) (e : atI xs i = some v) (q : Q v H) : rIx K (.ref a) (.int i) H Q := .inl ⟨a, xs, i, v, rfl, rfl, h, e, q⟩
end
end L2
set_option hygiene false
local macro_rules | `(tactic| walk_at "rd") => `(tactic| (simp only [L2.start, List.map_cons, List.map_nil, List.length_cons, List.length_nil, List.cons_append, List.nil_append, L2.tSeq, L2.tAsg, L2.gName, L2.tC, L2.tOp, L2.tUn, L2.tTest, L2.tIfS, L2.tRet, L2.tRetN, L2.tNext, L2.tDrop, L2.tNot, L2.tAnd, L2.tOr, L2.tAndV, L2.tOrV, L2.tNotV, L2.tCons, L2.tNil, L2.tTup, L2.tLst, L2.tBi, L2.tBl,
 L2.rd_var, L2.rd_varS, L2.rd_I, L2.rd_I0, L2.rd_U, L2.tAug, L2.rd_ipI, L2.rd_addI, L2.rd_addS, L2.rd_test, L2.rd_truB, L2.rd_eqI, L2.rd_neI, L2.rd_eqS, L2.rd_eqB, L2.tFv, L2.tJ0, L2.tJ1, L2.rd_fvI, L2.rd_strS, L2.rd_sz0, L2.rd_sz1, L2.rd_sz2, L2.rd_sz3, L2.rd_sz4, L2.rd_sz5, L2.rd_sz6, L2.rd_sz7, L2.gSub, L2.tCont, L2.tBreak, L2.rd_sz8, L2.rd_sz9, L2.cx_K, L2.cx_mg, L2.cx_prog, L2.cx_w, L2.cx_base, L2.gTup, L2.gCons, L2.gNil, L2.tCl, L2.tGl, L2.tChain, L2.tRaise, L2.tTryAs, L2.tTry2, L2.tNever, L2.sFld, L2.tFld, L2.tMk, L2.tMth, L2.tBM, L2.tBM0, L2.tSl, L2.tNoPart, L2.tPart, L2.rd_part, L2.tSumK, L2.rd_l1, L2.rd_len, L2.tClN, L2.tMkN, L2.tMthN, L2.tBase, L2.tYes, L2.tRg1, L2.tRg2, L2.tIf, L2.cxC_K, L2.cxC_mg, L2.cxC_prog, L2.cxC_w, L2.cxC_base, eq_self, reduceCtorEq, decide_false, Option.getD_some, Option.getD_none,
 List.getElem?_cons_zero, List.getElem?_cons_succ, List.set_cons_zero, List.set_cons_succ, List.replicate, Nat.reduceSub, Nat.reduceAdd, true_and, and_true, List.append_nil, L2.rd_cpow, Int.reduceToNat, Int.reducePow, Int.reduceLT, Int.reduceLE, Int.reduceNeg, L2.fdiv_pos, L2.rd_isiI, L2.rd_isiIB, L2.rd_isiB, L2.rd_isiS, Bool.not_true, Bool.not_false, Bool.false_eq_true, reduceIte, decide_true, decide_eq_true_eq, Bool.true_eq_false, Bool.not_eq_true', decide_eq_false_iff_not, L2.rd_c0, L2.rd_c1, L2.rd_c2, L2.rd_c3, L2.rd_c4, L2.rd_c5, L2.rd_c6, Int.reduceEq, not_true_eq_false, not_false_eq_true, Int.reduceMul, Int.reduceAdd, Int.reduceSub]))
local macro_rules | `(tactic| walk_at "r") => `(tactic| try walk_at "rd")
local macro_rules | `(tactic| walk_at "ixT") => `(tactic| (refine L2.rd_ixT (by assumption) rfl ?_; try walk_at "rd"))
local macro_rules | `(tactic| walk_at "sd") => `(tactic| first | assumption | exact L2.mul_okR (by decide) (by decide) | exact L2.mul_okL (by decide) (by decide) | exact L2.mul_okR (by omega) (by omega) | exact L2.mul_okL (by omega) (by omega) | exact L2.fd_ok (by decide) (by decide +kernel) | decide | omega | exact L2.fd_small (by omega) (by omega))
local macro_rules | `(tactic| walk_at "sds") => `(tactic| repeat (refine And.intro (by walk_at "sd") ?_))
local macro_rules | `(tactic| walk_at "for") => `(tactic| (walk_at "go"; (try simp only [L2.tFor, L2.iSeq, L2.iRng1, L2.iRng2, L2.iRng3, L2.iStr, L2.iEnum, L2.iZip, L2.iZip3, L2.iRev]); try walk_at "rd"))
local macro_rules | `(tactic| walk_at "lc") => `(tactic| (walk_at "go"; (try simp only [L2.tLc, L2.iSeq, L2.stC, L2.iRng1, L2.iRng2, L2.iRng3, L2.iStr, L2.iEnum, L2.iZip, L2.iZip3, L2.iRev]); try walk_at "rd"))
local macro_rules | `(tactic| walk_at "go") => `(tactic| repeat (first | walk_at "rd" | refine And.intro (by assumption) ?_ | refine L2.nxt fun Nq_ hNq_ => ?_ | refine L2.useN (by assumption) ?_))
local macro_rules | `(tactic| walk_at "ne") => `(tactic| first | assumption | exact Ne.symm (by assumption) | exact L2.ne_of_none (by assumption) (by assumption) | exact Ne.symm (L2.ne_of_none (by assumption) (by assumption)))
local macro_rules | `(tactic| walk_at "hp") => `(tactic| first | assumption | exact L2.upd_same | (refine L2.upd_keep ?_ (by assumption); walk_at "hp") | (rw [L2.upd_ne (by walk_at "ne")]; walk_at "hp"))
set_option hygiene false
local macro_rules | `(tactic| walk_at "i") => `(tactic| (intro vs H Q E h; repeat (first | (obtain ⟨rfl, _⟩ := h; rfl) | obtain ⟨_, h⟩ := h)))
local macro_rules | `(tactic| walk_at "j") => `(tactic| intro cdv A outer s H vs Q EX hr h)
local macro_rules | `(tactic| walk_at "k") => `(tactic| intro cdv A outer s H vs Q E hr h)
seal L2.PE L2.PT L2.PA L2.PS L2.PSs L2.PC L2.PG L2.PGs L2.PI L2.PO L2.PK
namespace K18
open PySem L2 Mine
def top (i : Nat) : Stmt := PySem.Challenge.pw_beltshares_k18_lanes.main.body.getD i (.Pass ⟨0, 0, 0, 0⟩)
local macro_rules | `(tactic| walk_at "sc") => `(tactic| exact ⟨rfl, rfl, rfl, by decide +kernel, rfl, by decide +kernel, by decide +kernel⟩)
abbrev s__wall : Stmt := top 0
abbrev s_Belt_init : Stmt := zV (top 9) 0
theorem sc_Belt_init : FnScope ["self", "room", "pace"] ["self", "room", "pace"] (ze s_Belt_init) := by walk_at "sc"
abbrev s_check_pace : Stmt := top 14
theorem sc_check_pace : FnScope ["pace", "least"] ["pace", "least"] (ze s_check_pace) := by walk_at "sc"
abbrev s_check_kind : Stmt := top 15
theorem sc_check_kind : FnScope ["kind"] ["kind"] (ze s_check_kind) := by walk_at "sc"
abbrev s_check_ways : Stmt := top 16
theorem sc_check_ways : FnScope ["belts"] ["belts"] (ze s_check_ways) := by walk_at "sc"
abbrev s_first_place : Stmt := top 17
theorem sc_first_place : FnScope ["wanted", "side", "step", "place"] ["wanted", "side"] (ze s_first_place) := by walk_at "sc"
abbrev s_Knot_init : Stmt := zV (top 18) 0
theorem sc_Knot_init : FnScope ["self", "ins", "outs"] ["self", "ins", "outs"] (ze s_Knot_init) := by walk_at "sc"
abbrev s_Knot_choice : Stmt := zV (top 18) 1
abbrev s_Knot_copied : Stmt := zV (top 18) 2
abbrev s_Source_init : Stmt := zV (top 19) 0
theorem sc_Source_init : FnScope ["self", "out", "pace", "kinds", "kind"] ["self", "out", "pace", "kinds"] (ze s_Source_init) := by walk_at "sc"
abbrev s_Source_choice : Stmt := zV (top 19) 1
theorem sc_Source_choice : FnScope ["self", "heads", "free", "turn", "side"] ["self", "heads", "free", "turn", "side"] (ze s_Source_choice) := by walk_at "sc"
abbrev s_Source_copied : Stmt := zV (top 19) 2
theorem sc_Source_copied : FnScope ["self"] ["self"] (ze s_Source_copied) := by walk_at "sc"
abbrev s_Drain_init : Stmt := zV (top 20) 0
theorem sc_Drain_init : FnScope ["self", "into", "pace"] ["self", "into", "pace"] (ze s_Drain_init) := by walk_at "sc"
abbrev s_Drain_choice : Stmt := zV (top 20) 1
theorem sc_Drain_choice : FnScope ["self", "heads", "free", "turn", "side"] ["self", "heads", "free", "turn", "side"] (ze s_Drain_choice) := by walk_at "sc"
abbrev s_Drain_copied : Stmt := zV (top 20) 2
theorem sc_Drain_copied : FnScope ["self"] ["self"] (ze s_Drain_copied) := by walk_at "sc"
abbrev s_Joiner_init : Stmt := zV (top 21) 0
theorem sc_Joiner_init : FnScope ["self", "ins", "out"] ["self", "ins", "out"] (ze s_Joiner_init) := by walk_at "sc"
abbrev s_Joiner_choice : Stmt := zV (top 21) 1
theorem sc_Joiner_choice : FnScope ["self", "heads", "free", "turn", "side", "place"] ["self", "heads", "free", "turn", "side"] (ze s_Joiner_choice) := by walk_at "sc"
abbrev s_Joiner_copied : Stmt := zV (top 21) 2
theorem sc_Joiner_copied : FnScope ["self"] ["self"] (ze s_Joiner_copied) := by walk_at "sc"
abbrev s_State_init : Stmt := zV (top 23) 0
theorem sc_State_init : FnScope ["self", "turn", "cells", "sides", "gone"] ["self", "turn", "cells", "sides", "gone"] (ze s_State_init) := by walk_at "sc"
abbrev s_kind_of : Stmt := top 24
theorem sc_kind_of : FnScope ["work", "ware", "kinds"] ["work", "ware"] (ze s_kind_of) := by walk_at "sc"
abbrev s_copied_state : Stmt := top 25
theorem sc_copied_state : FnScope ["state"] ["state"] (ze s_copied_state) := by walk_at "sc"
abbrev s_heads_of : Stmt := top 27
theorem sc_heads_of : FnScope ["work", "state", "knot", "ends"] ["work", "state", "knot"] (ze s_heads_of) := by walk_at "sc"
abbrev s_taken_ware : Stmt := top 28
theorem sc_taken_ware : FnScope ["state", "number", "from_belt", "ware"] ["state", "number", "from_belt"] (ze s_taken_ware) := by walk_at "sc"
abbrev s_belt_at : Stmt := top 29
theorem sc_belt_at : FnScope ["belts", "place"] ["belts", "place"] (ze s_belt_at) := by walk_at "sc"
abbrev s_counted_place : Stmt := top 30
theorem sc_counted_place : FnScope ["knot", "chosen"] ["knot", "chosen"] (ze s_counted_place) := by walk_at "sc"
abbrev s_act : Stmt := top 31
theorem sc_act : FnScope ["work", "state", "number", "knot", "free", "chosen", "from_belt", "to_belt", "ware"] ["work", "state", "number"] (ze s_act) := by walk_at "sc"
abbrev s_act_all : Stmt := top 32
theorem sc_act_all : FnScope ["work", "state", "moves", "number", "move"] ["work", "state"] (ze s_act_all) := by walk_at "sc"
abbrev s_move_belt : Stmt := top 33
theorem sc_move_belt : FnScope ["cells", "place"] ["cells"] (ze s_move_belt) := by walk_at "sc"
abbrev s_pass_turn : Stmt := top 34
theorem sc_pass_turn : FnScope ["work", "state", "moves", "number", "belt"] ["work", "state"] (ze s_pass_turn) := by walk_at "sc"
abbrev s_one_turn : Stmt := top 35
theorem sc_one_turn : FnScope ["work", "state", "after"] ["work", "state"] (ze s_one_turn) := by walk_at "sc"
abbrev s_moves_of : Stmt := top 36
theorem sc_moves_of : FnScope ["work", "state"] ["work", "state"] (ze s_moves_of) := by walk_at "sc"
abbrev s_check_size : Stmt := top 40
theorem sc_check_size : FnScope ["belts", "knots"] ["belts", "knots"] (ze s_check_size) := by walk_at "sc"
abbrev s_check_each_once : Stmt := top 41
theorem sc_check_each_once : FnScope ["named", "size"] ["named", "size"] (ze s_check_each_once) := by walk_at "sc"
abbrev s_Work_init : Stmt := zV (top 42) 0
theorem sc_Work_init : FnScope ["self", "belts", "knots", "fed", "taken", "knot"] ["self", "belts", "knots"] (ze s_Work_init) := by walk_at "sc"
abbrev s_Work_feeder : Stmt := zV (top 42) 1
abbrev s_Work_taker : Stmt := zV (top 42) 2
abbrev s_Work_drains : Stmt := zV (top 42) 3
abbrev s_Work_sources : Stmt := zV (top 42) 4
abbrev s_Work_beat : Stmt := zV (top 42) 5
abbrev s_L_cell : Stmt := top 44
theorem sc_L_cell : FnScope ["_law_script", "_law_k"] ["_law_script", "_law_k"] (ze s_L_cell) := by walk_at "sc"
abbrev s_L_mix : Stmt := top 45
theorem sc_L_mix : FnScope ["_law_cell_here", "_law_k", "_law_seed"] ["_law_cell_here", "_law_k"] (ze s_L_mix) := by walk_at "sc"
abbrev s_L_kind : Stmt := top 46
theorem sc_L_kind : FnScope ["_law_cell_here", "_law_k"] ["_law_cell_here", "_law_k"] (ze s_L_kind) := by walk_at "sc"
abbrev s_L_fold : Stmt := top 47
theorem sc_L_fold : FnScope ["_law_script", "_law_fold_here", "_law_cell_here"] ["_law_script"] (ze s_L_fold) := by walk_at "sc"
abbrev s_L_whole : Stmt := top 48
theorem sc_L_whole : FnScope ["_law_found"] ["_law_found"] (ze s_L_whole) := by walk_at "sc"
abbrev s_L_numbers_are : Stmt := top 49
theorem sc_L_numbers_are : FnScope ["_law_found", "_law_due", "_law_one", "_law_want"] ["_law_found", "_law_due"] (ze s_L_numbers_are) := by walk_at "sc"
abbrev s_L_belt : Stmt := top 50
theorem sc_L_belt : FnScope ["_law_cell_here", "_law_k", "_law_seed", "_law_room"] ["_law_cell_here", "_law_k"] (ze s_L_belt) := by walk_at "sc"
abbrev s_L_dealt : Stmt := top 51
theorem sc_L_dealt : FnScope ["_law_rows", "_law_fold_here", "_law_dealt_here", "_law_k", "_law_row", "_law_place"] ["_law_rows", "_law_fold_here"] (ze s_L_dealt) := by walk_at "sc"
abbrev s_L_counts : Stmt := top 52
theorem sc_L_counts : FnScope ["_law_row"] ["_law_row"] (ze s_L_counts) := by walk_at "sc"
abbrev s_L_laid : Stmt := top 53
theorem sc_L_laid : FnScope ["_law_script", "_law_belts", "_law_rows", "_law_fold_here", "_law_gone", "_law_k", "_law_row", "_law_far", "_law_sources", "_law_cells", "_law_place", "_law_room", "_law_pace", "_law_line", "_law_at", "_law_seed", "_law_source"] ["_law_script", "_law_belts", "_law_rows", "_law_fold_here"] (ze s_L_laid) := by walk_at "sc"
abbrev s_L_turn : Stmt := top 55
theorem sc_L_turn : FnScope ["_law_script", "_law_fold_here", "_law_turn_here"] ["_law_script", "_law_fold_here"] (ze s_L_turn) := by walk_at "sc"
abbrev s_L_ware_is : Stmt := top 56
theorem sc_L_ware_is : FnScope ["_law_found", "_law_due"] ["_law_found", "_law_due"] (ze s_L_ware_is) := by walk_at "sc"
abbrev s_L_lists_are : Stmt := top 57
theorem sc_L_lists_are : FnScope ["_law_found", "_law_due", "_law_cells", "_law_one", "_law_want", "_law_thing", "_law_wanted"] ["_law_found", "_law_due", "_law_cells"] (ze s_L_lists_are) := by walk_at "sc"
abbrev s_L_state_is : Stmt := top 58
theorem sc_L_state_is : FnScope ["_law_state", "_law_turn_here", "_law_cells", "_law_sides_here", "_law_gone"] ["_law_state", "_law_turn_here", "_law_cells", "_law_sides_here", "_law_gone"] (ze s_L_state_is) := by walk_at "sc"
abbrev s_L_on : Stmt := top 59
theorem sc_L_on : FnScope ["_law_line", "_law_made", "_law_at"] ["_law_line"] (ze s_L_on) := by walk_at "sc"
abbrev s_L_lanes : Stmt := top 60
theorem sc_L_lanes : FnScope ["_law_script", "_law_belts", "_law_rows", "_law_k", "_law_cell_here"] ["_law_script"] (ze s_L_lanes) := by walk_at "sc"
abbrev s_L_make : Stmt := top 61
theorem sc_L_make : FnScope ["_law_row"] ["_law_row"] (ze s_L_make) := by walk_at "sc"
abbrev s_L_acted : Stmt := top 62
theorem sc_L_acted : FnScope ["_law_rows", "_law_turn_here", "_law_cells", "_law_gone", "_law_moves", "_law_k", "_law_row"] ["_law_rows", "_law_turn_here", "_law_cells", "_law_gone"] (ze s_L_acted) := by walk_at "sc"
abbrev s_L_moves_are : Stmt := top 63
theorem sc_L_moves_are : FnScope ["_law_found", "_law_due", "_law_one", "_law_want", "_law_place"] ["_law_found", "_law_due"] (ze s_L_moves_are) := by walk_at "sc"
abbrev s_law : Stmt := top 64
theorem sc_law : FnScope ["_law_script", "_law_fold_here", "_law_belts", "_law_rows", "_law_work", "_law_cells", "_law_gone", "_law_turn_here", "_law_sides_here", "_law_state", "_law_step", "_law_before", "_law_after", "_law_moves", "_law_k"] ["_law_script"] (ze s_law) := by walk_at "sc"
local macro_rules | `(tactic| walk_at "T") => `(tactic| (have m_len := T.m_len; have m_range := T.m_range; have m_list := T.m_list; have m_isinstance := T.m_isinstance; have m_enumerate := T.m_enumerate; have m_sorted := T.m_sorted; have m_int := T.m_int; have m_bool := T.m_bool; have m_zip := T.m_zip; have m_max := T.m_max; have m_tuple := T.m_tuple))
structure Ad where
 WorkError : Addr
 BadBelt : Addr
 BadKnot : Addr
 BadWork : Addr
 Belt : Addr
 Knot : Addr
 Source : Addr
 Drain : Addr
 Joiner : Addr
 State : Addr
 Work : Addr
structure Txt (K : PySem.W.Frag) (mg : Str → Option Value) (a : Ad) : Prop where
 h__wall : FA K mg "_wall" s__wall ["k"]
 h_check_pace : FA K mg "check_pace" s_check_pace ["pace", "least"]
 h_check_kind : FA K mg "check_kind" s_check_kind ["kind"]
 h_check_ways : FA K mg "check_ways" s_check_ways ["belts"]
 h_first_place : FA K mg "first_place" s_first_place ["wanted", "side"]
 h_kind_of : FA K mg "kind_of" s_kind_of ["work", "ware"]
 h_copied_state : FA K mg "copied_state" s_copied_state ["state"]
 h_heads_of : FA K mg "heads_of" s_heads_of ["work", "state", "knot"]
 h_taken_ware : FA K mg "taken_ware" s_taken_ware ["state", "number", "from_belt"]
 h_belt_at : FA K mg "belt_at" s_belt_at ["belts", "place"]
 h_counted_place : FA K mg "counted_place" s_counted_place ["knot", "chosen"]
 h_act : FA K mg "act" s_act ["work", "state", "number"]
 h_act_all : FA K mg "act_all" s_act_all ["work", "state"]
 h_move_belt : FA K mg "move_belt" s_move_belt ["cells"]
 h_pass_turn : FA K mg "pass_turn" s_pass_turn ["work", "state"]
 h_one_turn : FA K mg "one_turn" s_one_turn ["work", "state"]
 h_moves_of : FA K mg "moves_of" s_moves_of ["work", "state"]
 h_check_size : FA K mg "check_size" s_check_size ["belts", "knots"]
 h_check_each_once : FA K mg "check_each_once" s_check_each_once ["named", "size"]
 h_L_cell : FA K mg "_law_cell" s_L_cell ["_law_script", "_law_k"]
 h_L_mix : FA K mg "_law_mix" s_L_mix ["_law_cell_here", "_law_k"]
 h_L_kind : FA K mg "_law_kind" s_L_kind ["_law_cell_here", "_law_k"]
 h_L_fold : FA K mg "_law_fold" s_L_fold ["_law_script"]
 h_L_whole : FA K mg "_law_whole" s_L_whole ["_law_found"]
 h_L_numbers_are : FA K mg "_law_numbers_are" s_L_numbers_are ["_law_found", "_law_due"]
 h_L_belt : FA K mg "_law_belt" s_L_belt ["_law_cell_here", "_law_k"]
 h_L_dealt : FA K mg "_law_dealt" s_L_dealt ["_law_rows", "_law_fold_here"]
 h_L_counts : FA K mg "_law_counts" s_L_counts ["_law_row"]
 h_L_laid : FA K mg "_law_laid" s_L_laid ["_law_script", "_law_belts", "_law_rows", "_law_fold_here"]
 h_L_turn : FA K mg "_law_turn" s_L_turn ["_law_script", "_law_fold_here"]
 h_L_ware_is : FA K mg "_law_ware_is" s_L_ware_is ["_law_found", "_law_due"]
 h_L_lists_are : FA K mg "_law_lists_are" s_L_lists_are ["_law_found", "_law_due", "_law_cells"]
 h_L_state_is : FA K mg "_law_state_is" s_L_state_is ["_law_state", "_law_turn_here", "_law_cells", "_law_sides_here", "_law_gone"]
 h_L_on : FA K mg "_law_on" s_L_on ["_law_line"]
 h_L_lanes : FA K mg "_law_lanes" s_L_lanes ["_law_script"]
 h_L_make : FA K mg "_law_make" s_L_make ["_law_row"]
 h_L_acted : FA K mg "_law_acted" s_L_acted ["_law_rows", "_law_turn_here", "_law_cells", "_law_gone"]
 h_L_moves_are : FA K mg "_law_moves_are" s_L_moves_are ["_law_found", "_law_due"]
 m_len : mg "len" = none
 m_range : mg "range" = none
 m_list : mg "list" = none
 m_isinstance : mg "isinstance" = none
 m_enumerate : mg "enumerate" = none
 m_sorted : mg "sorted" = none
 m_int : mg "int" = none
 m_bool : mg "bool" = none
 m_zip : mg "zip" = none
 m_max : mg "max" = none
 m_tuple : mg "tuple" = none
 g_WorkError : mg "WorkError" = some (.ref a.WorkError)
 g_BadBelt : mg "BadBelt" = some (.ref a.BadBelt)
 g_BadKnot : mg "BadKnot" = some (.ref a.BadKnot)
 g_BadWork : mg "BadWork" = some (.ref a.BadWork)
 g_Belt : mg "Belt" = some (.ref a.Belt)
 g_Knot : mg "Knot" = some (.ref a.Knot)
 g_Source : mg "Source" = some (.ref a.Source)
 g_Drain : mg "Drain" = some (.ref a.Drain)
 g_Joiner : mg "Joiner" = some (.ref a.Joiner)
 g_State : mg "State" = some (.ref a.State)
 g_Work : mg "Work" = some (.ref a.Work)
 C_Belt : Cls K a.Belt
 N_Belt_room : NoAttr K a.Belt "room"
 N_Belt_pace : NoAttr K a.Belt "pace"
 W_Belt : WI K a.Belt
 h_Belt_init : FK K a.Belt "Belt.__init__" s_Belt_init ["self", "room", "pace"]
 C_Knot : Cls K a.Knot
 N_Knot_ins : NoAttr K a.Knot "ins"
 N_Knot_outs : NoAttr K a.Knot "outs"
 W_Knot : WI K a.Knot
 h_Knot_init : FK K a.Knot "Knot.__init__" s_Knot_init ["self", "ins", "outs"]
 b_Knot_init : FB K mg "Knot" "__init__" "Knot.__init__" s_Knot_init ["self", "ins", "outs"]
 h_Knot_choice : FM K a.Knot "choice" "Knot.choice" s_Knot_choice ["self", "heads", "free", "turn", "side"]
 h_Knot_copied : FM K a.Knot "copied" "Knot.copied" s_Knot_copied ["self"]
 C_Source : Cls K a.Source
 N_Source_pace : NoAttr K a.Source "pace"
 N_Source_kinds : NoAttr K a.Source "kinds"
 N_Source_ins : NoAttr K a.Source "ins"
 N_Source_outs : NoAttr K a.Source "outs"
 W_Source : WI K a.Source
 h_Source_init : FK K a.Source "Source.__init__" s_Source_init ["self", "out", "pace", "kinds"]
 h_Source_choice : FM K a.Source "choice" "Source.choice" s_Source_choice ["self", "heads", "free", "turn", "side"]
 h_Source_copied : FM K a.Source "copied" "Source.copied" s_Source_copied ["self"]
 C_Drain : Cls K a.Drain
 N_Drain_pace : NoAttr K a.Drain "pace"
 N_Drain_ins : NoAttr K a.Drain "ins"
 N_Drain_outs : NoAttr K a.Drain "outs"
 W_Drain : WI K a.Drain
 h_Drain_init : FK K a.Drain "Drain.__init__" s_Drain_init ["self", "into", "pace"]
 h_Drain_choice : FM K a.Drain "choice" "Drain.choice" s_Drain_choice ["self", "heads", "free", "turn", "side"]
 h_Drain_copied : FM K a.Drain "copied" "Drain.copied" s_Drain_copied ["self"]
 C_Joiner : Cls K a.Joiner
 N_Joiner_ins : NoAttr K a.Joiner "ins"
 N_Joiner_outs : NoAttr K a.Joiner "outs"
 W_Joiner : WI K a.Joiner
 h_Joiner_init : FK K a.Joiner "Joiner.__init__" s_Joiner_init ["self", "ins", "out"]
 h_Joiner_choice : FM K a.Joiner "choice" "Joiner.choice" s_Joiner_choice ["self", "heads", "free", "turn", "side"]
 h_Joiner_copied : FM K a.Joiner "copied" "Joiner.copied" s_Joiner_copied ["self"]
 C_State : Cls K a.State
 N_State_turn : NoAttr K a.State "turn"
 N_State_cells : NoAttr K a.State "cells"
 N_State_sides : NoAttr K a.State "sides"
 N_State_gone : NoAttr K a.State "gone"
 W_State : WI K a.State
 h_State_init : FK K a.State "State.__init__" s_State_init ["self", "turn", "cells", "sides", "gone"]
 C_Work : Cls K a.Work
 N_Work_belts : NoAttr K a.Work "belts"
 N_Work_knots : NoAttr K a.Work "knots"
 W_Work : WI K a.Work
 h_Work_init : FK K a.Work "Work.__init__" s_Work_init ["self", "belts", "knots"]
 h_Work_feeder : FM K a.Work "feeder" "Work.feeder" s_Work_feeder ["self", "belt"]
 h_Work_taker : FM K a.Work "taker" "Work.taker" s_Work_taker ["self", "belt"]
 h_Work_drains : FM K a.Work "drains" "Work.drains" s_Work_drains ["self"]
 h_Work_sources : FM K a.Work "sources" "Work.sources" s_Work_sources ["self"]
 h_Work_beat : FM K a.Work "beat" "Work.beat" s_Work_beat ["self"]
 g_MOST_ROOM : ∃ t, mg "MOST_ROOM" = some (.int 6 t)
 g_MOST_PACE : ∃ t, mg "MOST_PACE" = some (.int 4 t)
 g_MOST_KINDS : ∃ t, mg "MOST_KINDS" = some (.int 6 t)
 g_FEWEST_WAYS : ∃ t, mg "FEWEST_WAYS" = some (.int 2 t)
 g_MOST_WAYS : ∃ t, mg "MOST_WAYS" = some (.int 4 t)
 g_MOST_BELTS : ∃ t, mg "MOST_BELTS" = some (.int 24 t)
 g_MOST_KNOTS : ∃ t, mg "MOST_KNOTS" = some (.int 24 t)
 X_BadBelt : XC K a.BadBelt
 XI_BadBelt : XI K a.BadBelt
 X_BadKnot : XC K a.BadKnot
 XI_BadKnot : XI K a.BadKnot
 X_BadWork : XC K a.BadWork
 XI_BadWork : XI K a.BadWork
 k1_Belt_Joiner : PySem.W.kitOne K (.ref a.Belt) (.ref a.Joiner) = some false
 k1_Knot_Joiner : PySem.W.kitOne K (.ref a.Knot) (.ref a.Joiner) = some false
 k1_Source_Joiner : PySem.W.kitOne K (.ref a.Source) (.ref a.Joiner) = some false
 k1_Drain_Joiner : PySem.W.kitOne K (.ref a.Drain) (.ref a.Joiner) = some false
 k1_Joiner_Joiner : PySem.W.kitOne K (.ref a.Joiner) (.ref a.Joiner) = some true
 k1_State_Joiner : PySem.W.kitOne K (.ref a.State) (.ref a.Joiner) = some false
 k1_Work_Joiner : PySem.W.kitOne K (.ref a.Work) (.ref a.Joiner) = some false
 k1_Belt_State : PySem.W.kitOne K (.ref a.Belt) (.ref a.State) = some false
 k1_Knot_State : PySem.W.kitOne K (.ref a.Knot) (.ref a.State) = some false
 k1_Source_State : PySem.W.kitOne K (.ref a.Source) (.ref a.State) = some false
 k1_Drain_State : PySem.W.kitOne K (.ref a.Drain) (.ref a.State) = some false
 k1_Joiner_State : PySem.W.kitOne K (.ref a.Joiner) (.ref a.State) = some false
 k1_State_State : PySem.W.kitOne K (.ref a.State) (.ref a.State) = some true
 k1_Work_State : PySem.W.kitOne K (.ref a.Work) (.ref a.State) = some false
section
variable {P : Program} {w : World} {K : PySem.W.Frag} {mg : Str → Option Value} {base : Heap} {a : Ad} {f : Addr} {fd : FuncData}
theorem at0 {α : Type} {x : α} {xs : List α} : atI (x :: xs) 0 = some x := by
 have := zr (xs := x :: xs) (j := 0) rfl
 simpa using this
def iv (ns : List Int) : List V := ns.map V.int
abbrev Q3 : List Str := ["_law_cell_here", "_law_k"]
abbrev QI : List Str := ["_law_cell_here", "_law_k"]
def kf (l1 l2 : Addr) : List (Str × V) := putF "outs" (.ref l2) (putF "ins" (.ref l1) [])
theorem kf_ins {l1 l2 : Addr} : (kf l1 l2).lookup ("ins" : Str) = some (.ref l1) := by
 unfold kf; rw [qB, if_neg (by decide +kernel), qB, if_pos rfl]
theorem QJ {l1 l2 : Addr} : (kf l1 l2).length < 1000 := by
 unfold kf; have := je "outs" (V.ref l2) (putF "ins" (.ref l1) []); have := je "ins" (V.ref l1) []; simp at *; omega
def Own (H H' : Hp) (y : Addr) : Prop := ∀ b o, b ≠ y → H b = some o → H' b = some o
theorem Same.own {H H' : Hp} {y : Addr} (s : Same H H') : Own H H' y := fun b o _ h => s b o h
theorem Own.trans {H1 H2 H3 : Hp} {y : Addr} (s : Own H1 H2 y) (t : Own H2 H3 y) : Own H1 H3 y := fun b o hb h => t b o hb (s b o hb h)
theorem qE {H : Hp} {y : Addr} {o : HO} : Own H (upd H y o) y := fun b u hb h => by rw [upd_ne hb]; exact h
theorem Own.of_new {H H' : Hp} {y dx : Addr} {o p : HO} (hy : H y = none) (hd : H dx = none) (s : Own (upd (upd H dx o) y p) H' y) : Same H H' := fun b u h =>
 s b u (ne_of_none h hy) (by rw [upd_ne (ne_of_none h hy), upd_ne (ne_of_none h hd)]; exact h)
theorem zS {H : Hp} {p b : Addr} {o : HO} (h : upd H p o b = none) : H b = none := by
 by_cases e : b = p
 ·subst e; rw [upd_same] at h; cases h
 ·rw [upd_ne e] at h; exact h
def wB (K : PySem.W.Frag) : Sp := fun vs H Q _ => ∃ (y C dx i o : Addr) (xs ys : List V), vs = [.ref y, .ref i, .ref o] ∧ H y = some (.ins C dx []) ∧ Cls K C ∧ NoAttr K C "ins" ∧ NoAttr K C "outs" ∧ SqL K H i xs ∧ SqL K H o ys ∧ i ≠ y ∧ o ≠ y ∧
 ∀ H' l1 l2, Own H H' y → H' y = some (.ins C dx (kf l1 l2)) → H' l1 = some (.lst xs) → H' l2 = some (.lst ys) → H l1 = none → H l2 = none → Q .non H'
theorem ZV {H H' : Hp} {y l : Addr} {xs : List V} (h : SqL K H l xs) (s : Own H H' y) (hl : l ≠ y) : SqL K H' l xs := by
 rcases h with h | h
 ·refine .inl ?_
  rcases h with h | ⟨ob, h⟩
  ·exact .inl (s _ _ hl h)
  ·exact .inr ⟨ob, s _ _ hl h⟩
 ·exact .inr h
theorem ok_Knot_init (T : Txt K mg a) (F : Fun K "__init__" "Knot.__init__" s_Knot_init f fd) : FnOk P w K mg base (CXr P w) 1 f fd ["self", "ins", "outs"] (wB K) := by
 refine F.okx sc_Knot_init ?_ ?_
 ·walk_at "i"
 walk_at "k"
 refine oE7 h fun y C dx i o xs ys z1_ => oA6 z1_ fun z2_ hy hC hN1 hN2 z3_ => oA5 z3_ fun hi ho hiy hoy k => ?_
 clear h
 subst z2_
 walk_at "T"
 refine ⟨_, (zj (qI (pv 0) (jL qM qd (za (pv 1) zb)) rfl)  (zd (qI (pv 0) (jL qM qd (za (pv 2) zb)) rfl))), ?_⟩
 walk_at "go"
 refine iE2 i xs (iA3 rfl (.inl hi) (fun l1 h1 => ?_))
 walk_at "go"
 have y1 : y ≠ l1 := ne_of_none hy h1
 refine iE4 y C dx ([]) (iA6 rfl (upd_keep hy h1) hC hN1 (by decide) ?_)
 walk_at "go"
 have s1 : Own H (upd (upd H l1 (.lst xs)) y (.ins C dx (putF "ins" (.ref l1) []))) y := (Same.own (zf h1)).trans qE
 refine iE2 o ys (iA3 rfl (.inl (ZV ho s1 hoy)) (fun l2 h2 => ?_))
 walk_at "go"
 have y2 : y ≠ l2 := ne_of_none upd_same h2
 have l12 : l1 ≠ l2 := fun z => by
  rw [← z, upd_ne (Ne.symm y1), upd_same] at h2; cases h2
 refine iE4 y C dx _ (iA6 rfl (upd_keep upd_same h2) hC hN2 (by show 1 < 1000; decide) ?_)
 refine k _ l1 l2 (s1.trans ((Same.own (zf h2)).trans qE)) upd_same ?_ ?_ h1 ?_
 ·rw [upd_ne (Ne.symm y1), upd_ne l12, upd_ne (Ne.symm y1), upd_same]
 ·rw [upd_ne (Ne.symm y2), upd_same]
 ·rw [upd_ne (Ne.symm y2), upd_ne (Ne.symm l12)] at h2
  exact h2
theorem b_Knot_init (T : Txt K mg a) : BCal P w K mg base "Knot" "__init__" 1 ["self", "ins", "outs"] [] (wB K) := T.b_Knot_init.cal (ok_Knot_init T)
def xS (K : PySem.W.Frag) (a : Ad) : Sp := fun vs H Q E => ∃ (l : Addr) (xs : List V), vs = [.ref l] ∧ SqL K H l xs ∧ if 2 ≤ xs.length ∧ xs.length ≤ 4 then Q .non H else E (.ref a.BadKnot) none H
theorem ok_check_ways (T : Txt K mg a) (F : Fun K "check_ways" "check_ways" s_check_ways f fd) : FnOk P w K mg base (CXr P w) 1 f fd ["belts"] (xS K a) := by
 refine F.okx sc_check_ways ?_ ?_
 ·walk_at "i"
 walk_at "k"
 refine oE2 h fun l xs z1_ => oA3 z1_ fun z2_ hl k => ?_
 clear h
 subst z2_
 walk_at "T"
 refine ⟨_, (zd (zA (zK (qO ja ja jX (zG zJ zI (za (pv 0) zb)) jX))  (zd (qC ⟨rfl, rfl, rfl⟩ rfl (za qx zb)))  zk)), ?_⟩
 walk_at "go"
 obtain ⟨t1, g1⟩ := T.g_FEWEST_WAYS
 obtain ⟨t2, g2⟩ := T.g_MOST_WAYS
 have bad : ¬ (2 ≤ xs.length ∧ xs.length ≤ 4) → ∃ C, mg "BadKnot" = some (Value.ref C) ∧ XC K C ∧ E (Value.ref C) none H := fun h => by
  rw [if_neg h] at k
  exact ⟨a.BadKnot, iA3 T.g_BadKnot T.X_BadKnot k⟩
 refine iE2 (.int 2) _ (iA3 g1 ⟨_, rfl⟩ ?_)
 walk_at "go"
 refine ⟨_, .inl ⟨_, hl, rfl⟩, ?_⟩
 walk_at "r"
 refine ite2 (fun h1 => ?_) (fun h1 => bad (by omega))
 refine iE2 (.int 4) _ (iA3 g2 ⟨_, rfl⟩ ?_)
 walk_at "r"
 refine ite2 (fun h2 => bad (by omega)) (fun h2 => ?_)
 rw [if_pos (by omega)] at k
 exact k
theorem c_check_ways (T : Txt K mg a) : Cal P w K mg base "check_ways" 1 ["belts"] [] (xS K a) := T.h_check_ways.cal (ok_check_ways T)
def xU (a : Ad) : Sp := fun vs H Q E => ∃ p q : Int, vs = [.int p, .int q] ∧ if q ≤ p ∧ p ≤ 4 then Q .non H else E (.ref a.BadKnot) none H
theorem ok_check_pace (T : Txt K mg a) (F : Fun K "check_pace" "check_pace" s_check_pace f fd) : FnOk P w K mg base (CXr P w) 1 f fd ["pace", "least"] (xU a) := by
 refine F.okx sc_check_pace ?_ ?_
 ·walk_at "i"
 walk_at "k"
 refine oE2 h fun p q z1_ => oA2 z1_ fun z2_ k => ?_
 clear h
 subst z2_
 walk_at "T"
 refine ⟨_, (zd (zA (zK (qO ja ja (pv 1) (pv 0) jX))  (zd (qC ⟨rfl, rfl, rfl⟩ rfl (za qx zb)))  zk)), ?_⟩
 walk_at "go"
 obtain ⟨t1, g1⟩ := T.g_MOST_PACE
 have bad : ¬ (q ≤ p ∧ p ≤ 4) → ∃ C, mg "BadKnot" = some (Value.ref C) ∧ XC K C ∧ E (Value.ref C) none H := fun h => by
  rw [if_neg h] at k
  exact ⟨a.BadKnot, iA3 T.g_BadKnot T.X_BadKnot k⟩
 refine ite2 (fun h1 => ?_) (fun h1 => bad (by omega))
 refine iE2 (.int 4) _ (iA3 g1 ⟨_, rfl⟩ ?_)
 walk_at "go"
 refine ite2 (fun h2 => bad (by omega)) (fun h2 => ?_)
 rw [if_pos (by omega)] at k
 walk_at "go"
 exact k
theorem xz (T : Txt K mg a) : Cal P w K mg base "check_pace" 1 ["pace", "least"] [] (xU a) := T.h_check_pace.cal (ok_check_pace T)
abbrev xr : Int := 1000000000000000000000000000000
def xV (a : Ad) : Sp := fun vs H Q E => ∃ n : Int, vs = [.int n] ∧ if 0 ≤ n ∧ n < xr then Q .non H else E (.ref a.BadKnot) none H
theorem ok_check_kind (T : Txt K mg a) (F : Fun K "check_kind" "check_kind" s_check_kind f fd) : FnOk P w K mg base (CXr P w) 1 f fd ["kind"] (xV a) := by
 refine F.okx sc_check_kind ?_ ?_
 ·walk_at "i"
 walk_at "k"
 obtain ⟨n, rfl, k⟩ := h
 walk_at "T"
 refine ⟨_, (zd (zA (zK (qO ja QF zc (pv 0) (zm wM zc zc)))  (zd (qC ⟨rfl, rfl, rfl⟩ rfl (za qx zb)))  zk)), ?_⟩
 walk_at "go"
 have bad : ¬ (0 ≤ n ∧ n < xr) → ∃ C, mg "BadKnot" = some (Value.ref C) ∧ XC K C ∧ E (Value.ref C) none H := fun h => by
  rw [if_neg h] at k
  exact ⟨a.BadKnot, iA3 T.g_BadKnot T.X_BadKnot k⟩
 refine ite2 (fun h1 => ?_) (fun h1 => bad (by omega))
 walk_at "go"
 refine ite2 (fun h2 => bad (by unfold xr; omega)) (fun h2 => ?_)
 rw [if_pos (by unfold xr; omega)] at k
 walk_at "go"
 exact k
theorem c_check_kind (T : Txt K mg a) : Cal P w K mg base "check_kind" 1 ["kind"] [] (xV a) := T.h_check_kind.cal (ok_check_kind T)
def fpAt (bs : List Bool) (side : Nat) : Nat → Nat → Option Nat
 | 0, _ => none
 | n + 1, k => if bs.getD ((side + k) % bs.length) false = true then some ((side + k) % bs.length) else fpAt bs side n (k + 1)
def xO (bs : List Bool) (side : Nat) : Option Nat := fpAt bs side bs.length 0
def optV : Option Nat → V
 | none => .non
 | some n => .int n
theorem Qf {bs : List Bool} {side : Nat} (h : 0 < bs.length) : ∀ {n k p : Nat}, fpAt bs side n k = some p → p < bs.length
 | 0, _, _, e => by simp [fpAt] at e
 | n + 1, k, p, e => by
  unfold fpAt at e
  split at e
  ·cases e; exact Nat.mod_lt _ h
  ·exact Qf h e
theorem vz {bs : List Bool} {side p : Nat} (e : xO bs side = some p) : p < bs.length := by
 by_cases h : 0 < bs.length
 ·exact Qf h e
 ·unfold xO at e
  rw [show bs.length = 0 by omega] at e
  simp [fpAt] at e
def xh (K : PySem.W.Frag) : Sp := fun vs H Q _ => ∃ (l : Addr) (bs : List Bool) (side : Nat), vs = [.ref l, .int side] ∧ SqL K H l (bs.map V.bl) ∧ bs.length ≤ 1000 ∧ Q (optV (xO bs side)) H
theorem ok_first_place (T : Txt K mg a) (F : Fun K "first_place" "first_place" s_first_place f fd) : FnOk P w K mg base (CXr P w) 1 f fd ["wanted", "side"] (xh K) := by
 refine F.okx sc_first_place ?_ ?_
 ·walk_at "i"
 walk_at "k"
 obtain ⟨l, bs, side, rfl, hl, hb, k⟩ := h
 walk_at "T"
 refine ⟨_, (zj (z9 qu rfl (j4 (za (zG zJ zI (za (pv 0) zb)) zb)) (pg_n 2 sc_first_place.nd)  (zj (zF 3 sc_first_place.nd (zm zL (zm z6 (pv 1) (pv 2)) (zG zJ zI (za (pv 0) zb))))  (zd (zA (zz (zh (pv 0) (pv 3)) (fun _ => rfl))  (zd (zi (pv 3)))  zk))))  (zd (zi zD))), ?_⟩
 walk_at "for"
 walk_at "go"
 refine ⟨_, .inl ⟨_, hl, rfl⟩, by omega, by rw [List.length_map]; omega, ?_⟩
 refine wW (fun i σ H' => ∃ v2 v3, σ = [some (.ref l), some (.int side), v2, v3] ∧ H' = H ∧ Q (optV (fpAt bs side (bs.length - i) i)) H) ⟨_, _, rfl, rfl, k⟩ ?_ ?_
 ·rintro i σ H' hi ⟨v2, v3, rfl, rfl, k⟩
  have hi : i < bs.length := by simpa using hi
  walk_at "go"
  refine ⟨_, .inl ⟨_, hl, rfl⟩, ?_⟩
  walk_at "r"
  rw [List.length_map]
  refine And.intro (by omega) ?_
  have e : ((side : Int) + (0 + (i : Int))) % (bs.length : Int) = (((side + i) % bs.length : Nat) : Int) := by push_cast; rw [Int.zero_add]
  rw [e]
  have hlt : (side + i) % bs.length < bs.length := Nat.mod_lt _ (by omega)
  refine zl hl (zr (by rw [List.getElem?_map, List.getElem?_eq_getElem hlt]; rfl)) ?_
  walk_at "r"
  have em : bs.length - i = (bs.length - (i + 1)) + 1 := by omega
  rw [em, fpAt] at k
  have eg : bs.getD ((side + i) % bs.length) false = bs[(side + i) % bs.length] := by simp [hlt]
  rw [eg] at k
  cases hbb : bs[(side + i) % bs.length] with
  | true =>
   rw [hbb, if_pos rfl] at k
   walk_at "r"
   exact k
  | false =>
   rw [hbb, if_neg (by decide)] at k
   walk_at "r"
   first | exact ⟨_, _, rfl, rfl, k⟩ | exact ⟨_, _, rfl, k⟩ | exact k
 ·rintro σ H' ⟨v2, v3, rfl, rfl, k⟩
  walk_at "r"
  simpa [fpAt, optV] using k
theorem c_first_place (T : Txt K mg a) : Cal P w K mg base "first_place" 1 ["wanted", "side"] [] (xh K) := T.h_first_place.cal (ok_first_place T)
def Told (H : Hp) (v : V) (r : Option (List V)) : Prop := match r with
 | none => v = .non
 | some xs => ∃ p, v = .ref p ∧ H p = some (.tup xs)
theorem Told.same {H H' : Hp} {v : V} {r : Option (List V)} (h : Told H v r) (s : Same H H') : Told H' v r := by
 cases r with
 | none => exact h
 | some xs => exact let ⟨p, e, hp⟩ := h; ⟨p, e, s _ _ hp⟩
def xg (K : PySem.W.Frag) (C CB : Addr) : Sp := fun vs H Q E => ∃ (y dx o : Addr) (out : V) (ys : List V), vs = [.ref y, .ref o, out] ∧ H y = some (.ins C dx []) ∧ SqL K H o ys ∧ o ≠ y ∧
 if 2 ≤ ys.length ∧ ys.length ≤ 4 then ∀ H' l1 l2, Own H H' y → H' y = some (.ins C dx (kf l1 l2)) → H' l1 = some (.lst ys) → H' l2 = some (.lst [out]) → H l1 = none → H l2 = none → Q .non H' else E (.ref CB) none H
theorem ok_Joiner_init (T : Txt K mg a) (F : Fun K "__init__" "Joiner.__init__" s_Joiner_init f fd) : FnOk P w K mg base (CXr P w) 2 f fd ["self", "ins", "out"] (xg K a.Joiner a.BadKnot) := by
 refine F.okx sc_Joiner_init ?_ ?_
 ·walk_at "i"
 walk_at "k"
 refine oE5 h fun y dx o out ys z1_ => oA5 z1_ fun z2_ hy ho hoy k => ?_
 clear h
 subst z2_
 walk_at "T"
 refine ⟨_, (zj (zN (zx ⟨rfl, rfl, rfl⟩ hr (za (pv 1) zb)))  (zd (zN (vV ⟨rfl, rfl, rfl⟩ hr (za (pv 0) (za (pv 1) (za (zU (za (pv 2) zb)) zb))))))), ?_⟩
 walk_at "go"
 refine iE3 _ _ _ ⟨c_check_ways T, ⟨o, ys, rfl, ho, ite2 (fun hok => ?_) (fun hok => ?_)⟩⟩
 ·rw [if_pos hok] at k
  walk_at "go"
  refine iE3 _ _ _ ⟨b_Knot_init T, fun p hp => (iE7 y a.Joiner dx o p ys ([out]) (iA6 rfl (upd_keep hy hp) T.C_Joiner T.N_Joiner_ins T.N_Joiner_outs (iA5 ((zf hp).seq ho) (SqL.of upd_same) hoy ((ne_of_none hy hp).symm) (fun H' l1 l2 s h1 h2 h3 h4 h5 => ?_))))⟩
  exact k H' l1 l2 ((Same.own (zf hp)).trans s) h1 h2 h3 (zS h4) (zS h5)
 ·rw [if_neg hok] at k
  exact k
theorem k_Joiner (T : Txt K mg a) : KCal P w K mg base "Joiner" a.Joiner 2 ["self", "ins", "out"] [] (xg K a.Joiner a.BadKnot) := T.h_Joiner_init.cal T.g_Joiner (ok_Joiner_init T)
def df (l1 l2 : Addr) (p : Int) : List (Str × V) := putF "pace" (.int p) (kf l1 l2)
theorem Zc {l1 l2 : Addr} {p : Int} : (df l1 l2 p).lookup ("pace" : Str) = some (.int p) := by
 unfold df; rw [qB, if_pos rfl]
theorem xl (f : Str) (v : V) : ∀ fs : List (Str × V), (putF f v fs).length ≤ fs.length + 1
 | [] => by simp [putF]
 | (g, x) :: r => by
  unfold putF
  split
  ·simp
  ·have := xl f v r
   simp; omega
theorem kf_len3 {l1 l2 : Addr} : (kf l1 l2).length ≤ 2 := by
 unfold kf
 have h1 := xl "outs" (V.ref l2) (putF "ins" (.ref l1) [])
 have h2 := xl "ins" (V.ref l1) []
 simp only [List.length_nil] at h2
 omega
theorem df_len {l1 l2 : Addr} {p : Int} : (df l1 l2 p).length < 1000 := by
 unfold df
 have h1 := xl "pace" (V.int p) (kf l1 l2)
 have h2 := kf_len3 (l1 := l1) (l2 := l2)
 omega
def xR (C CB : Addr) : Sp := fun vs H Q E => ∃ (y dx : Addr) (into : V) (p : Int), vs = [.ref y, into, .int p] ∧ H y = some (.ins C dx []) ∧
 if 0 ≤ p ∧ p ≤ 4 then ∀ H' l1 l2, Own H H' y → H' y = some (.ins C dx (df l1 l2 p)) → H' l1 = some (.lst [into]) → H' l2 = some (.lst []) → H l1 = none → H l2 = none → Q .non H' else E (.ref CB) none H
theorem ok_Drain_init (T : Txt K mg a) (F : Fun K "__init__" "Drain.__init__" s_Drain_init f fd) : FnOk P w K mg base (CXr P w) 2 f fd ["self", "into", "pace"] (xR a.Drain a.BadKnot) := by
 refine F.okx sc_Drain_init ?_ ?_
 ·walk_at "i"
 walk_at "k"
 refine oE4 h fun y dx into p z1_ => oA3 z1_ fun z2_ hy k => ?_
 clear h
 subst z2_
 walk_at "T"
 refine ⟨_, (zj (zN (zx ⟨rfl, rfl, rfl⟩ hr (za (pv 2) (za zc zb))))  (zj (zN (vV ⟨rfl, rfl, rfl⟩ hr (za (pv 0) (za (zU (za (pv 1) zb)) (za (zU zb) zb)))))  (zd (qI (pv 0) (pv 2) rfl)))), ?_⟩
 walk_at "go"
 refine iE3 _ _ _ ⟨xz T, ⟨p, 0, rfl, ite2 (fun hok => ?_) (fun hok => ?_)⟩⟩
 ·rw [if_pos hok] at k
  walk_at "go"
  refine iE3 _ _ _ ⟨b_Knot_init T, fun q1 hq1 q2 hq2 => ?_⟩
  have n12 : q1 ≠ q2 := ne_of_none upd_same hq2
  have hy2 := upd_keep (o := .lst []) (upd_keep (o := .lst [into]) hy hq1) hq2
  refine iE7 y a.Drain dx q1 q2 ([into]) ([]) (iA6 rfl hy2 T.C_Drain T.N_Drain_ins T.N_Drain_outs (iA5 (SqL.of (upd_keep upd_same hq2)) (SqL.of upd_same) ((ne_of_none hy hq1).symm) ((ne_of_none (upd_keep hy hq1) hq2).symm) (fun H' l1 l2 s h1 h2 h3 h4 h5 => ?_)))
  walk_at "go"
  refine iE4 y a.Drain dx _ (iA6 rfl h1 T.C_Drain T.N_Drain_pace QJ ?_)
  exact k _ l1 l2 (((Same.own ((zf hq1).trans (zf hq2))).trans s).trans qE) upd_same (by rw [upd_ne (vn h2 h1 (by intro z; cases z))]; exact h2) (by rw [upd_ne (vn h3 h1 (by intro z; cases z))]; exact h3) (zS (zS h4)) (zS (zS h5))
 ·rw [if_neg hok] at k
  exact k
theorem Z9 (T : Txt K mg a) : KCal P w K mg base "Drain" a.Drain 2 ["self", "into", "pace"] [] (xR a.Drain a.BadKnot) := T.h_Drain_init.cal T.g_Drain (ok_Drain_init T)
def sf (l1 l2 : Addr) (p : Int) (l3 : Addr) : List (Str × V) := putF "kinds" (.ref l3) (df l1 l2 p)
theorem sf_pace {l1 l2 l3 : Addr} {p : Int} : (sf l1 l2 p l3).lookup ("pace" : Str) = some (.int p) := by
 unfold sf; rw [qB, if_neg (by decide +kernel)]; exact Zc
def ZM (ks : List Int) : Prop := ∀ n ∈ ks, 0 ≤ n ∧ n < xr
def xf (K : PySem.W.Frag) (C CB : Addr) : Sp := fun vs H Q E => ∃ (y dx l : Addr) (out : V) (p : Int) (ks : List Int), vs = [.ref y, out, .int p, .ref l] ∧ H y = some (.ins C dx []) ∧ SqL K H l (ks.map V.int) ∧ l ≠ y ∧
 ((1 ≤ p ∧ p ≤ 4 ∧ 1 ≤ ks.length ∧ ks.length ≤ 6 ∧ ZM ks → ∀ H' l1 l2 l3, Own H H' y → H' y = some (.ins C dx (sf l1 l2 p l3)) → H' l1 = some (.lst []) → H' l2 = some (.lst [out]) → H' l3 = some (.lst (ks.map V.int)) → H l1 = none → H l2 = none → H l3 = none → Q .non H') ∧
   (¬ (1 ≤ p ∧ p ≤ 4 ∧ 1 ≤ ks.length ∧ ks.length ≤ 6 ∧ ZM ks) → E (.ref CB) none H))
theorem ok_Source_init (T : Txt K mg a) (F : Fun K "__init__" "Source.__init__" s_Source_init f fd) : FnOk P w K mg base (CXr P w) 2 f fd ["self", "out", "pace", "kinds"] (xf K a.Source a.BadKnot) := by
 refine F.okx sc_Source_init ?_ ?_
 ·walk_at "i"
 walk_at "k"
 refine oE6 h fun y dx l out p ks z1_ => oA6 z1_ fun z2_ hy hl hly kok kbad => ?_
 clear h
 subst z2_
 obtain ⟨t1, g1⟩ := T.g_MOST_KINDS
 walk_at "T"
 refine ⟨_, (zj (zN (zx ⟨rfl, rfl, rfl⟩ hr (za (pv 2) (za zc zb))))  (zj (zA (zK (qO ja ja zc (zG zJ zI (za (pv 3) zb)) jX))  (zd (qC ⟨rfl, rfl, rfl⟩ rfl (za qx zb)))  zk)  (zj (z9 qu rfl (qj (pv 3)) (pg_n 4 sc_Source_init.nd)  (zd (zN (zx ⟨rfl, rfl, rfl⟩ hr (za (pv 4) zb)))))  (zj (zN (vV ⟨rfl, rfl, rfl⟩ hr (za (pv 0) (za (zU zb) (za (zU (za (pv 1) zb)) zb)))))  (zj (qI (pv 0) (pv 2) rfl)  (zd (qI (pv 0) (jL qM qd (za (pv 3) zb)) rfl))))))), ?_⟩
 walk_at "go"
 refine iE3 _ _ _ ⟨xz T, ⟨p, 1, rfl, ite2 (fun hp => ?_) (fun hp => kbad fun z => hp ⟨z.1, z.2.1⟩)⟩⟩
 walk_at "go"
 refine ⟨_, .inl ⟨_, hl, rfl⟩, ?_⟩
 rw [List.length_map]
 walk_at "go"
 have bad : ¬ (1 ≤ ks.length ∧ ks.length ≤ 6) → ∃ C, mg "BadKnot" = some (Value.ref C) ∧ XC K C ∧ E (Value.ref C) none H := fun h => ⟨a.BadKnot, T.g_BadKnot, T.X_BadKnot, kbad fun z => h ⟨z.2.2.1, z.2.2.2.1⟩⟩
 refine ite2 (fun h1 => ?_) (fun h1 => bad (by omega))
 refine iE2 (.int 6) _ (iA3 g1 ⟨_, rfl⟩ ?_)
 walk_at "go"
 refine ite2 (fun h2 => bad (by omega)) (fun h2 => ?_)
 walk_at "for"
 refine ⟨l, rfl, .inl ⟨⟨_, hl⟩, ?_⟩⟩
 refine qV (K := K) (a := l) (xs := ks.map V.int) (fun i σ H' => ∃ v4, σ = [some (.ref y), some out, some (.int p), some (.ref l), v4] ∧ H' = H ∧ ZM (ks.take i)) ⟨_, iA3 rfl rfl (fun _ h => nomatch h)⟩ (fun i σ H' _ ⟨_, _, e, _⟩ => e ▸ hl) ?_ ?_
 ·intro i x σ H' hi zz_
  refine oE1 zz_ fun v4 z1_ => oA3 z1_ fun z2_ z3_ hk => ?_
  clear zz_
  subst z2_ z3_
  rw [List.getElem?_map, Option.map_eq_some_iff] at hi
  obtain ⟨n, hn, rfl⟩ := hi
  walk_at "go"
  refine iE3 _ _ _ ⟨c_check_kind T, ⟨n, rfl, ite2 (fun hok => ?_) (fun hok => kbad fun z => hok (z.2.2.2.2 n (List.mem_of_getElem? hn)))⟩⟩
  walk_at "go"
  have : ZM (ks.take (i + 1)) := fun m hm => by
   rw [List.take_succ, hn] at hm
   rcases List.mem_append.mp hm with z | z
   ·exact hk m z
   ·have e : m = n := by simpa using z
    rw [e]; exact hok
  first | exact ⟨_, rfl, rfl, this⟩ | exact ⟨_, rfl, this⟩
 ·intro σ H' zz_
  refine oE1 zz_ fun v4 z1_ => oA3 z1_ fun z2_ z3_ hk => ?_
  clear zz_
  subst z2_ z3_
  rw [List.length_map, List.take_length] at hk
  have kok := kok ⟨hp.1, hp.2, by omega, by omega, hk⟩
  walk_at "go"
  refine iE3 _ _ _ ⟨b_Knot_init T, fun q1 hq1 q2 hq2 => ?_⟩
  have hy2 := upd_keep (o := .lst [out]) (upd_keep (o := .lst []) hy hq1) hq2
  have s12 : Same H' (upd (upd H' q1 (.lst [])) q2 (.lst [out])) := (zf hq1).trans (zf hq2)
  refine iE7 y a.Source dx q1 q2 ([]) ([out]) (iA6 rfl hy2 T.C_Source T.N_Source_ins T.N_Source_outs (iA5 (SqL.of (upd_keep upd_same hq2)) (SqL.of upd_same) ((ne_of_none hy hq1).symm) ((ne_of_none (upd_keep hy hq1) hq2).symm) (fun H2 l1 l2 s h1 h2 h3 h4 h5 => ?_)))
  walk_at "go"
  refine iE4 y a.Source dx _ (iA6 rfl h1 T.C_Source T.N_Source_pace QJ ?_)
  walk_at "go"
  have s3 : Own H' (upd H2 y (.ins a.Source dx (df l1 l2 p))) y := ((Same.own s12).trans s).trans qE
  have h2' : upd H2 y (.ins a.Source dx (df l1 l2 p)) l1 = some (.lst []) := by rw [upd_ne (vn h2 h1 (by intro z; cases z))]; exact h2
  have h3' : upd H2 y (.ins a.Source dx (df l1 l2 p)) l2 = some (.lst [out]) := by rw [upd_ne (vn h3 h1 (by intro z; cases z))]; exact h3
  refine iE2 l _ (iA3 rfl (.inl (ZV hl s3 hly)) (fun l3 hl3 => ?_))
  walk_at "go"
  have hy3 : upd (upd H2 y (.ins a.Source dx (df l1 l2 p))) l3 (.lst (ks.map V.int)) y = some (.ins a.Source dx (df l1 l2 p)) := upd_keep upd_same hl3
  refine iE4 y a.Source dx _ (iA6 rfl hy3 T.C_Source T.N_Source_kinds df_len ?_)
  have n1 : l1 ≠ y := vn h2 h1 (by intro z; cases z)
  have n2 : l2 ≠ y := vn h3 h1 (by intro z; cases z)
  have n3 : l3 ≠ y := (ne_of_none (upd_same (H := H2)) hl3).symm
  refine kok _ l1 l2 l3 ((s3.trans (Same.own (zf hl3))).trans qE) upd_same ?_ ?_ ?_ (zS (zS h4)) (zS (zS h5)) ?_
  ·rw [upd_ne n1]; exact upd_keep h2' hl3
  ·rw [upd_ne n2]; exact upd_keep h3' hl3
  ·rw [upd_ne n3]; exact upd_same
  ·cases e : H' l3 with
   | none => rfl
   | some o => exact absurd (hl3.symm.trans (s3 l3 o n3 e)) (by intro z; cases z)
theorem ZC (T : Txt K mg a) : KCal P w K mg base "Source" a.Source 2 ["self", "out", "pace", "kinds"] [] (xf K a.Source a.BadKnot) := T.h_Source_init.cal T.g_Source (ok_Source_init T)
def bf (rm pc : Int) : List (Str × V) := putF "pace" (.int pc) (putF "room" (.int rm) [])
abbrev zE (rm pc : Int) : Prop := 1 ≤ rm ∧ rm ≤ 6 ∧ 1 ≤ pc ∧ pc ≤ 4
def wE (C CB : Addr) : Sp := fun vs H Q E => ∃ (y dx : Addr) (rm pc : Int), vs = [.ref y, .int rm, .int pc] ∧ H y = some (.ins C dx []) ∧ if zE rm pc then Q .non (upd H y (.ins C dx (bf rm pc))) else E (.ref CB) none H
theorem ok_Belt_init (T : Txt K mg a) (F : Fun K "__init__" "Belt.__init__" s_Belt_init f fd) : FnOk P w K mg base (CXr P w) 1 f fd ["self", "room", "pace"] (wE a.Belt a.BadBelt) := by
 refine F.okx sc_Belt_init ?_ ?_
 ·walk_at "i"
 walk_at "k"
 refine oE4 h fun y dx rm pc z1_ => oA3 z1_ fun z2_ hy k => ?_
 clear h
 subst z2_
 obtain ⟨t1, g1⟩ := T.g_MOST_ROOM
 obtain ⟨t2, g2⟩ := T.g_MOST_PACE
 walk_at "T"
 refine ⟨_, (zj (zA (zK (qO ja ja zc (pv 1) jX))  (zd (qC ⟨rfl, rfl, rfl⟩ rfl (za qx zb)))  zk)  (zj (zA (zK (qO ja ja zc (pv 2) jX))  (zd (qC ⟨rfl, rfl, rfl⟩ rfl (za qx zb)))  zk)  (zj (qI (pv 0) (pv 1) rfl)  (zd (qI (pv 0) (pv 2) rfl))))), ?_⟩
 walk_at "go"
 have bad : ¬ zE rm pc → ∃ C, mg "BadBelt" = some (Value.ref C) ∧ XC K C ∧ E (Value.ref C) none H := fun h => by
  rw [if_neg h] at k
  exact ⟨a.BadBelt, iA3 T.g_BadBelt T.X_BadBelt k⟩
 refine ite2 (fun h1 => ?_) (fun h1 => bad (by unfold zE; omega))
 refine iE2 (.int 6) _ (iA3 g1 ⟨_, rfl⟩ ?_)
 walk_at "go"
 refine ite2 (fun h2 => bad (by unfold zE; omega)) (fun h2 => ?_)
 walk_at "go"
 refine ite2 (fun h3 => ?_) (fun h3 => bad (by unfold zE; omega))
 refine iE2 (.int 4) _ (iA3 g2 ⟨_, rfl⟩ ?_)
 walk_at "go"
 refine ite2 (fun h4 => bad (by unfold zE; omega)) (fun h4 => ?_)
 rw [if_pos (by unfold zE; omega)] at k
 walk_at "go"
 refine iE4 y a.Belt dx ([]) (iA6 rfl hy T.C_Belt T.N_Belt_room (by decide) ?_)
 walk_at "go"
 refine iE4 y a.Belt dx _ (iA6 rfl upd_same T.C_Belt T.N_Belt_pace (by show 1 < 1000; decide) ?_)
 rw [js]
 exact k
theorem QL (T : Txt K mg a) : KCal P w K mg base "Belt" a.Belt 1 ["self", "room", "pace"] [] (wE a.Belt a.BadBelt) := T.h_Belt_init.cal T.g_Belt (ok_Belt_init T)
theorem qP {H : Hp} {y dx b C : Addr} {u : HO} (hy : H y = none) (hdx : H dx = none) (h : H b = some u) : upd (upd H dx (.own y)) y (.ins C dx []) b = some u := by
 rw [upd_ne (ne_of_none h hy), upd_ne (ne_of_none h hdx)]; exact h
theorem qa {H : Hp} {y dx b : Addr} {o p : HO} (h : upd (upd H dx o) y p b = none) : H b = none := zS (zS h)
theorem zy {H H' : Hp} {b : Addr} (s : Same H H') (h : H' b = none) : H b = none := by
 cases e : H b with
 | none => rfl
 | some o => rw [s b o e] at h; cases h
inductive Wd | source | drain | joiner
deriving DecidableEq
def clsA (a : Ad) : Wd → Addr
 | .source => a.Source
 | .drain => a.Drain
 | .joiner => a.Joiner
structure Row where
 wd : Wd
 ins : List Int
 outs : List Int
 pace : Int
 kinds : List Int
def Row.ok (r : Row) : Prop := match r.wd with
 | .source => r.ins = [] ∧ (∃ o, r.outs = [o]) ∧ 1 ≤ r.pace ∧ r.pace ≤ 4 ∧ 1 ≤ r.kinds.length ∧ r.kinds.length ≤ 6 ∧ ZM r.kinds
 | .drain => (∃ i, r.ins = [i]) ∧ r.outs = [] ∧ 0 ≤ r.pace ∧ r.pace ≤ 4
 | .joiner => (∃ o, r.outs = [o]) ∧ 2 ≤ r.ins.length ∧ r.ins.length ≤ 4
def Z5 (r : Row) : List (Str × D) := match r.wd with
 | .source => [("pace", .int r.pace), ("kinds", .ints r.kinds)]
 | .drain => [("pace", .int r.pace)]
 | _ => []
def vt (r : Row) : List (Str × D) := ("ins", .ints r.ins) :: ("outs", .ints r.outs) :: Z5 r
def x8 (a : Ad) (r : Row) : D := .ob (clsA a r.wd) (vt r)
def x9 (a : Ad) (b : Int × Int) : D := .ob a.Belt [("room", .int b.1), ("pace", .int b.2)]
theorem qt {α : Type} {f : Str} {x : α} {r : List (Str × α)} : ((f, x) :: r).lookup f = some x := by simp [List.lookup]
theorem zH {α : Type} {f g : Str} {x : α} {r : List (Str × α)} (h : f ≠ g) : ((g, x) :: r).lookup f = r.lookup f := by
 have hb : (f == g) = false := beq_eq_false_iff_ne.mpr h
 simp [List.lookup, hb]
theorem knF_ins (r : Row) : (vt r).lookup ("ins" : Str) = some (.ints r.ins) := qt
theorem knF_outs (r : Row) : (vt r).lookup ("outs" : Str) = some (.ints r.outs) := (zH (by decide +kernel)).trans qt
theorem knF_pace {r : Row} (h : r.wd = .source ∨ r.wd = .drain) : (vt r).lookup ("pace" : Str) = some (.int r.pace) := by
 refine (zH (by decide +kernel)).trans ((zH (by decide +kernel)).trans ?_)
 unfold Z5
 rcases h with h | h <;> (rw [h]; exact qt)
theorem knF_kinds {r : Row} (h : r.wd = .source) : (vt r).lookup ("kinds" : Str) = some (.ints r.kinds) := by
 refine (zH (by decide +kernel)).trans ((zH (by decide +kernel)).trans ?_)
 unfold Z5
 rw [h]
 exact (zH (by decide +kernel)).trans qt
theorem QH {r : Row} {f : Str} (h1 : f ≠ "ins") (h2 : f ≠ "outs") (h3 : f ≠ "pace") (h4 : f ≠ "kinds") (h5 : f ≠ "kind") : (vt r).lookup f = none := by
 refine (zH h1).trans ((zH h2).trans ?_)
 unfold Z5
 split
 ·exact (zH h3).trans (zH h4)
 ·exact zH h3
 ·rfl
def KnP (a : Ad) (H : Hp) (p : Addr → Prop) (v : V) (r : Row) : Prop := Rep H p v (x8 a r)
theorem KnP.keep {H H' : Hp} {p q : Addr → Prop} {v : V} {r : Row} (h : KnP a H p v r) (s : ∀ b o, p b → H b = some o → q b ∧ H' b = some o) : KnP a H' q v r := Rep.keep s h
theorem KnP.inv {H : Hp} {p : Addr → Prop} {v : V} {r : Row} (h : KnP a H p v r) : ∃ y dx l1 l2 l3 fs, v = .ref y ∧ p y ∧ p l1 ∧ p l2 ∧ (r.wd = .source → p l3) ∧ H y = some (.ins (clsA a r.wd) dx fs) ∧ fs.lookup ("ins" : Str) = some (.ref l1) ∧ fs.lookup ("outs" : Str) = some (.ref l2) ∧
  fs.lookup ("copied" : Str) = none ∧ H l1 = some (.lst (iv r.ins)) ∧ H l2 = some (.lst (iv r.outs)) ∧ (r.wd = .source → fs.lookup ("kinds" : Str) = some (.ref l3) ∧ H l3 = some (.lst (iv r.kinds))) ∧ ((r.wd = .source ∨ r.wd = .drain) → fs.lookup ("pace" : Str) = some (.int r.pace)) := by
 obtain ⟨y, dx, fs, rfl, py, hy, g1, g2⟩ := Rep.ob' h
 obtain ⟨u1, e1, r1⟩ := g1 _ _ (knF_ins r)
 obtain ⟨l1, rfl, p1, h1⟩ := r1.ints'
 obtain ⟨u2, e2, r2⟩ := g1 _ _ (knF_outs r)
 obtain ⟨l2, rfl, p2, h2⟩ := r2.ints'
 have e3 := g2 ("copied" : Str) (QH (by decide +kernel) (by decide +kernel) (by decide +kernel) (by decide +kernel) (by decide +kernel))
 have pc : (r.wd = .source ∨ r.wd = .drain) → fs.lookup ("pace" : Str) = some (.int r.pace) := fun z => by
  obtain ⟨u, e, ru⟩ := g1 _ _ (knF_pace z)
  cases ru
  exact e
 by_cases hs : r.wd = .source
 ·obtain ⟨u3, e4, r3⟩ := g1 _ _ (knF_kinds hs)
  obtain ⟨l3, rfl, p3, h3⟩ := r3.ints'
  exact ⟨y, dx, l1, l2, l3, fs, rfl, py, p1, p2, fun _ => p3, hy, e1, e2, e3, h1, h2, fun _ => ⟨e4, h3⟩, pc⟩
 ·exact ⟨y, dx, l1, l2, l1, fs, rfl, py, p1, p2, fun z => absurd z hs, hy, e1, e2, e3, h1, h2, fun z => absurd z hs, pc⟩
theorem QK {l1 l2 : Addr} : kf l1 l2 = ([(("ins" : Str), V.ref l1), (("outs" : Str), V.ref l2)] : List (Str × V)) := by
 unfold kf; simp only [putF]; rw [if_neg (by decide +kernel)]
theorem QQ {l1 l2 : Addr} {n : Int} : df l1 l2 n = ([(("ins" : Str), V.ref l1), (("outs" : Str), V.ref l2), (("pace" : Str), V.int n)] : List (Str × V)) := by
 unfold df; rw [QK]; simp only [putF]; rw [if_neg (by decide +kernel), if_neg (by decide +kernel)]
theorem QY {l1 l2 l3 : Addr} {n : Int} : sf l1 l2 n l3 = ([(("ins" : Str), V.ref l1), (("outs" : Str), V.ref l2), (("pace" : Str), V.int n), (("kinds" : Str), V.ref l3)] : List (Str × V)) := by
 unfold sf; rw [QQ]; simp only [putF]; rw [if_neg (by decide +kernel), if_neg (by decide +kernel), if_neg (by decide +kernel)]
theorem j3 {H : Hp} {p : Addr → Prop} {l C dx : Addr} {fs : List (Str × V)} {gs : List (Str × D)} (pl : p l) (e : H l = some (.ins C dx fs)) (n : fs.map (·.1) = gs.map (·.1)) (r : Reps H p (fs.map (·.2)) (gs.map (·.2))) : Rep H p (.ref l) (.ob C gs) :=
 .ob pl e n fun i f g hf hg => r.g i f.2 g.2 (by rw [List.getElem?_map, hf]; rfl) (by rw [List.getElem?_map, hg]; rfl)
section
variable {H : Hp} {p : Addr → Prop} {z dz m1 m2 m3 : Addr} {ins outs kinds : List Int} {pace : Int}
theorem vv (q0 : p z) (q1 : p m1) (q2 : p m2) (q3 : p m3) (h0 : H z = some (.ins a.Source dz (sf m1 m2 pace m3))) (h1 : H m1 = some (.lst (iv ins))) (h2 : H m2 = some (.lst (iv outs))) (h3 : H m3 = some (.lst (iv kinds))) : KnP a H p (.ref z) ⟨.source, ins, outs, pace, kinds⟩ := by
 rw [QY] at h0
 exact j3 q0 h0 rfl (.cons (zY q1 h1) (.cons (zY q2 h2) (.cons .int (.cons (zY q3 h3) .nil))))
theorem Zx (q0 : p z) (q1 : p m1) (q2 : p m2) (h0 : H z = some (.ins a.Drain dz (df m1 m2 pace))) (h1 : H m1 = some (.lst (iv ins))) (h2 : H m2 = some (.lst (iv outs))) : KnP a H p (.ref z) ⟨.drain, ins, outs, pace, kinds⟩ := by
 rw [QQ] at h0
 exact j3 q0 h0 rfl (.cons (zY q1 h1) (.cons (zY q2 h2) (.cons .int .nil)))
theorem kn_joiner (q0 : p z) (q1 : p m1) (q2 : p m2) (h0 : H z = some (.ins a.Joiner dz (kf m1 m2))) (h1 : H m1 = some (.lst (iv ins))) (h2 : H m2 = some (.lst (iv outs))) : KnP a H p (.ref z) ⟨.joiner, ins, outs, pace, kinds⟩ := by
 rw [QK] at h0
 exact j3 q0 h0 rfl (.cons (zY q1 h1) (.cons (zY q2 h2) .nil))
end
def BtP (a : Ad) (H : Hp) (p : Addr → Prop) (v : V) (r : Int × Int) : Prop := Rep H p v (x9 a r)
theorem BtP.keep {H H' : Hp} {p q : Addr → Prop} {v : V} {r : Int × Int} (h : BtP a H p v r) (s : ∀ b o, p b → H b = some o → q b ∧ H' b = some o) : BtP a H' q v r := Rep.keep s h
theorem bf_eq {rm pc : Int} : bf rm pc = ([(("room" : Str), V.int rm), (("pace" : Str), V.int pc)] : List (Str × V)) := by
 unfold bf; simp only [putF]; rw [if_neg (by decide +kernel)]
theorem Ja {H : Hp} {p : Addr → Prop} {y dx : Addr} {rm pc : Int} (q0 : p y) (h0 : H y = some (.ins a.Belt dx (bf rm pc))) : BtP a H p (.ref y) (rm, pc) := by
 rw [bf_eq] at h0
 exact j3 q0 h0 rfl (.cons .int (.cons .int .nil))
theorem BtP.inv {H : Hp} {p : Addr → Prop} {v : V} {r : Int × Int} (h : BtP a H p v r) : ∃ y dx fs, v = .ref y ∧ p y ∧ H y = some (.ins a.Belt dx fs) ∧ fs.lookup ("room" : Str) = some (.int r.1) ∧ fs.lookup ("pace" : Str) = some (.int r.2) := by
 obtain ⟨y, dx, fs, rfl, py, hy, g1, g2⟩ := Rep.ob' h
 obtain ⟨u1, e1, r1⟩ := g1 ("room" : Str) _ qt
 obtain ⟨u2, e2, r2⟩ := g1 ("pace" : Str) _ ((zH (by decide +kernel)).trans qt)
 cases r1
 cases r2
 exact ⟨y, dx, fs, rfl, py, hy, e1, e2⟩
structure Kns (a : Ad) (H : Hp) (p : Addr → Prop) (vs : List V) (rs : List Row) : Prop where
 len : vs.length = rs.length
 g : ∀ (i : Nat) v r, vs[i]? = some v → rs[i]? = some r → KnP a H p v r
theorem Kns.keep {H H' : Hp} {p q : Addr → Prop} {vs : List V} {rs : List Row} (h : Kns a H p vs rs) (s : ∀ b o, p b → H b = some o → q b ∧ H' b = some o) : Kns a H' q vs rs := ⟨h.len, fun i v r e1 e2 => (h.g i v r e1 e2).keep s⟩
theorem Kns.nil {H : Hp} {p : Addr → Prop} : Kns a H p [] [] := ⟨rfl, fun i v r h => by simp at h⟩
theorem Kns.append {H : Hp} {p : Addr → Prop} {vs us : List V} {rs qs : List Row} (h : Kns a H p vs rs) (k : Kns a H p us qs) : Kns a H p (vs ++ us) (rs ++ qs) := by
 refine ⟨by rw [List.length_append, List.length_append, h.len, k.len], fun i v r e1 e2 => ?_⟩
 by_cases hi : i < vs.length
 ·rw [List.getElem?_append_left hi] at e1
  rw [List.getElem?_append_left (by rw [← h.len]; exact hi)] at e2
  exact h.g i v r e1 e2
 ·rw [List.getElem?_append_right (by omega)] at e1
  rw [List.getElem?_append_right (by rw [← h.len]; omega), ← h.len] at e2
  exact k.g _ v r e1 e2
theorem Kns.one {H : Hp} {p : Addr → Prop} {v : V} {r : Row} (h : KnP a H p v r) : Kns a H p [v] [r] :=
 ⟨rfl, fun i u q e1 e2 => by
  have hi := (List.getElem?_eq_some_iff.mp e1).1
  have : i = 0 := by simp at hi; omega
  subst this
  have e1 : v = u := by simpa using e1
  have e2 : r = q := by simpa using e2
  rw [← e1, ← e2]; exact h⟩
theorem Kns.at {H : Hp} {p : Addr → Prop} {vs : List V} {rs : List Row} (h : Kns a H p vs rs) {i : Nat} {v : V} (e : vs[i]? = some v) : ∃ r, rs[i]? = some r ∧ KnP a H p v r := by
 have hi := (List.getElem?_eq_some_iff.mp e).1
 have e2 : rs[i]? = some (rs[i]'(by rw [← h.len]; exact hi)) := List.getElem?_eq_getElem _
 exact ⟨_, e2, h.g i v _ e e2⟩
structure Bts (a : Ad) (H : Hp) (p : Addr → Prop) (vs : List V) (rs : List (Int × Int)) : Prop where
 len : vs.length = rs.length
 g : ∀ (i : Nat) v r, vs[i]? = some v → rs[i]? = some r → BtP a H p v r
theorem Bts.keep {H H' : Hp} {p q : Addr → Prop} {vs : List V} {rs : List (Int × Int)} (h : Bts a H p vs rs) (s : ∀ b o, p b → H b = some o → q b ∧ H' b = some o) : Bts a H' q vs rs := ⟨h.len, fun i v r e1 e2 => (h.g i v r e1 e2).keep s⟩
theorem Bts.nil {H : Hp} {p : Addr → Prop} : Bts a H p [] [] := ⟨rfl, fun i v r h => by simp at h⟩
theorem Bts.push {H : Hp} {p : Addr → Prop} {vs : List V} {v : V} {rs : List (Int × Int)} {r : Int × Int} (h : Bts a H p vs rs) (k : BtP a H p v r) : Bts a H p (vs ++ [v]) (rs ++ [r]) := by
 refine ⟨by rw [List.length_append, List.length_append, h.len]; rfl, fun i u q e1 e2 => ?_⟩
 by_cases hi : i < vs.length
 ·rw [List.getElem?_append_left hi] at e1
  rw [List.getElem?_append_left (by rw [← h.len]; exact hi)] at e2
  exact h.g i u q e1 e2
 ·rw [List.getElem?_append_right (by omega)] at e1
  rw [List.getElem?_append_right (by rw [← h.len]; omega), ← h.len] at e2
  have hj := (List.getElem?_eq_some_iff.mp e1).1
  have : i - vs.length = 0 := by simp at hj; omega
  rw [this] at e1 e2
  have e1 : v = u := by simpa using e1
  have e2 : r = q := by simpa using e2
  rw [← e1, ← e2]; exact k
theorem Bts.at {H : Hp} {p : Addr → Prop} {vs : List V} {rs : List (Int × Int)} (h : Bts a H p vs rs) {i : Nat} {v : V} (e : vs[i]? = some v) : ∃ r, rs[i]? = some r ∧ BtP a H p v r := by
 have hi := (List.getElem?_eq_some_iff.mp e).1
 have e2 : rs[i]? = some (rs[i]'(by rw [← h.len]; exact hi)) := List.getElem?_eq_getElem _
 exact ⟨_, e2, h.g i v _ e e2⟩
abbrev New (H : Hp) : Addr → Prop := fun b => H b = none
def qY (a : Ad) (wd : Wd) : Sp := fun vs H Q _ => ∃ (y : Addr) (r : Row) (p : Addr → Prop), vs = [.ref y] ∧ KnP a H p (.ref y) r ∧ r.wd = wd ∧ r.ok ∧ ∀ v H', Same H H' → KnP a H' (New H) v r → Q v H'
theorem Kns.reps {H : Hp} {p : Addr → Prop} {vs : List V} {rs : List Row} (h : Kns a H p vs rs) : Reps H p vs (rs.map (x8 a)) := ⟨by rw [h.len, List.length_map], fun i v d e1 e2 => by
 rw [List.getElem?_map, Option.map_eq_some_iff] at e2
 obtain ⟨r, e2, rfl⟩ := e2
 exact h.g i v r e1 e2⟩
theorem Bts.reps {H : Hp} {p : Addr → Prop} {vs : List V} {rs : List (Int × Int)} (h : Bts a H p vs rs) : Reps H p vs (rs.map (x9 a)) := ⟨by rw [h.len, List.length_map], fun i v d e1 e2 => by
 rw [List.getElem?_map, Option.map_eq_some_iff] at e2
 obtain ⟨r, e2, rfl⟩ := e2
 exact h.g i v r e1 e2⟩
theorem Kns.of {H : Hp} {p : Addr → Prop} {vs : List V} {rs : List Row} (h : Reps H p vs (rs.map (x8 a))) : Kns a H p vs rs := ⟨by rw [h.len, List.length_map], fun i v r e1 e2 => h.g i v _ e1 (by rw [List.getElem?_map, e2]; rfl)⟩
theorem Bts.of {H : Hp} {p : Addr → Prop} {vs : List V} {rs : List (Int × Int)} (h : Reps H p vs (rs.map (x9 a))) : Bts a H p vs rs := ⟨by rw [h.len, List.length_map], fun i v r e1 e2 => h.g i v _ e1 (by rw [List.getElem?_map, e2]; rfl)⟩
theorem ok_Source_copied (T : Txt K mg a) (F : Fun K "copied" "Source.copied" s_Source_copied f fd) : FnOk P w K mg base (CXr P w) 4 f fd ["self"] (qY a .source) := by
 refine F.okx sc_Source_copied ?_ ?_
 ·walk_at "i"
 walk_at "k"
 refine oE3 h fun y z1_ p z2_ => oA5 z2_ fun z3_ hK hw hok k => ?_
 clear h
 obtain ⟨wd, ins, outs, pace, kinds⟩ := z1_
 subst z3_
 cases hw
 have hK0 := hK
 refine oE6 hK.inv fun y' dx l1 l2 l3 fs z1_ => oA9 z1_ fun e p0 p1 p2 p3 h0 e1 e2 z2_ => oA5 z2_ fun e3 h1 h2 h3 h4 => ?_
 cases e
 obtain ⟨hk, hk'⟩ := h3 rfl
 have hp := h4 (.inl rfl)
 refine oA7 hok fun q1 z1_ q3 q4 q5 q6 q7 => ?_
 clear hok
 obtain ⟨ov, q2⟩ := z1_
 simp only at q1 q2
 subst q1 q2
 walk_at "T"
 refine ⟨_, (zd (zi (xX ⟨rfl, rfl, rfl⟩ hr (za (zh (zu (pv 0) rfl) zc) (za (zu (pv 0) rfl) (za (zu (pv 0) rfl) zb)))))), ?_⟩
 walk_at "go"
 refine iE4 a.Source _ _ _ ⟨(ZC T).mono, iE5 y a.Source dx fs _ (iA6 rfl h0 T.C_Source T.N_Source_outs e2 (zl (SqL.of h2) at0 ?_))⟩
 refine ra h0 T.C_Source T.N_Source_pace hp ?_
 refine ra h0 T.C_Source T.N_Source_kinds hk ?_
 intro z dz hz hdz hne
 refine iE6 z dz l3 (.int ov) pace kinds (iA6 rfl upd_same (SqL.of (qP hz hdz hk')) (ne_of_none hk' hz) (fun _ H' m1 m2 m3 s' g1 g2 g3 g4 n1 n2 n3 => ⟨rfl, ?_⟩) (fun hbad => absurd (iA5 q3 q4 q5 q6 q7) hbad))
 exact k _ _ (Own.of_new hz hdz s') (vv (p := New H) (ins := []) (outs := [ov]) hz (qa n1) (qa n2) (qa n3) g1 g2 g3 g4)
theorem m_Source_copied (T : Txt K mg a) : MCal P w K mg base a.Source "copied" 4 ["self"] [] (qY a .source) := T.h_Source_copied.cal T.C_Source (ok_Source_copied T)
theorem ok_Drain_copied (T : Txt K mg a) (F : Fun K "copied" "Drain.copied" s_Drain_copied f fd) : FnOk P w K mg base (CXr P w) 4 f fd ["self"] (qY a .drain) := by
 refine F.okx sc_Drain_copied ?_ ?_
 ·walk_at "i"
 walk_at "k"
 refine oE3 h fun y z1_ p z2_ => oA5 z2_ fun z3_ hK hw hok k => ?_
 clear h
 obtain ⟨wd, ins, outs, pace, kinds⟩ := z1_
 subst z3_
 cases hw
 have hK0 := hK
 refine oE6 hK.inv fun y' dx l1 l2 l3 fs z1_ => oA9 z1_ fun e p0 p1 p2 p3 h0 e1 e2 z2_ => oA5 z2_ fun e3 h1 h2 h3 h4 => ?_
 cases e
 have hp := h4 (.inr rfl)
 refine oA4 hok fun z1_ q2 q3 q4 => ?_
 clear hok
 obtain ⟨iv', q1⟩ := z1_
 simp only at q1 q2
 subst q1 q2
 walk_at "T"
 refine ⟨_, (zd (zi (xX ⟨rfl, rfl, rfl⟩ hr (za (zh (zu (pv 0) rfl) zc) (za (zu (pv 0) rfl) zb))))), ?_⟩
 walk_at "go"
 refine iE4 a.Drain _ _ _ ⟨(Z9 T).mono, iE5 y a.Drain dx fs _ (iA6 rfl h0 T.C_Drain T.N_Drain_ins e1 (zl (SqL.of h1) at0 ?_))⟩
 refine ra h0 T.C_Drain T.N_Drain_pace hp ?_
 intro z dz hz hdz hne
 refine iE4 z dz (.int iv') pace (iA3 rfl upd_same ?_)
 rw [if_pos ⟨q3, q4⟩]
 intro H' m1 m2 s' g1 g2 g3 n1 n2
 exact ⟨rfl, k _ _ (Own.of_new hz hdz s') (Zx (p := New H) (ins := [iv']) (outs := []) hz (qa n1) (qa n2) g1 g2 g3)⟩
theorem m_Drain_copied (T : Txt K mg a) : MCal P w K mg base a.Drain "copied" 4 ["self"] [] (qY a .drain) := T.h_Drain_copied.cal T.C_Drain (ok_Drain_copied T)
theorem ok_Joiner_copied (T : Txt K mg a) (F : Fun K "copied" "Joiner.copied" s_Joiner_copied f fd) : FnOk P w K mg base (CXr P w) 4 f fd ["self"] (qY a .joiner) := by
 refine F.okx sc_Joiner_copied ?_ ?_
 ·walk_at "i"
 walk_at "k"
 refine oE3 h fun y z1_ p z2_ => oA5 z2_ fun z3_ hK hw hok k => ?_
 clear h
 obtain ⟨wd, ins, outs, pace, kinds⟩ := z1_
 subst z3_
 cases hw
 have hK0 := hK
 refine oE6 hK.inv fun y' dx l1 l2 l3 fs z1_ => oA9 z1_ fun e p0 p1 p2 p3 h0 e1 e2 z2_ => oA5 z2_ fun e3 h1 h2 h3 h4 => ?_
 cases e
 obtain ⟨⟨ov, q1⟩, q3, q4⟩ := hok
 simp only at q1 q3 q4
 subst q1
 walk_at "T"
 refine ⟨_, (zd (zi (xX ⟨rfl, rfl, rfl⟩ hr (za (zu (pv 0) rfl) (za (zh (zu (pv 0) rfl) zc) zb))))), ?_⟩
 walk_at "go"
 refine iE4 a.Joiner _ _ _ ⟨(k_Joiner T).mono, iE5 y a.Joiner dx fs _ (iA6 rfl h0 T.C_Joiner T.N_Joiner_ins e1 ?_)⟩
 refine ra h0 T.C_Joiner T.N_Joiner_outs e2 (zl (SqL.of h2) at0 ?_)
 intro z dz hz hdz hne
 refine iE5 z dz l1 (.int ov) (iv ins) (iA5 rfl upd_same (SqL.of (qP hz hdz h1)) (ne_of_none h1 hz) ?_)
 rw [if_pos (by rw [iv, List.length_map]; exact ⟨q3, q4⟩)]
 intro H' m1 m2 s' g1 g2 g3 n1 n2
 exact ⟨rfl, k _ _ (Own.of_new hz hdz s') (kn_joiner (p := New H) (ins := ins) (outs := [ov]) hz (qa n1) (qa n2) g1 g2 g3)⟩
theorem m_Joiner_copied (T : Txt K mg a) : MCal P w K mg base a.Joiner "copied" 4 ["self"] [] (qY a .joiner) := T.h_Joiner_copied.cal T.C_Joiner (ok_Joiner_copied T)
theorem CT (T : Txt K mg a) (wd : Wd) : Cls K (clsA a wd) := by
 cases wd
 ·exact T.C_Source
 ·exact T.C_Drain
 ·exact T.C_Joiner
theorem NI (T : Txt K mg a) (wd : Wd) : NoAttr K (clsA a wd) "ins" := by
 cases wd
 ·exact T.N_Source_ins
 ·exact T.N_Drain_ins
 ·exact T.N_Joiner_ins
theorem NO (T : Txt K mg a) (wd : Wd) : NoAttr K (clsA a wd) "outs" := by
 cases wd
 ·exact T.N_Source_outs
 ·exact T.N_Drain_outs
 ·exact T.N_Joiner_outs
theorem WT (T : Txt K mg a) (wd : Wd) : WI K (clsA a wd) := by
 cases wd
 ·exact T.W_Source
 ·exact T.W_Drain
 ·exact T.W_Joiner
theorem m_copied (T : Txt K mg a) (wd : Wd) : MCal P w K mg base (clsA a wd) "copied" 4 ["self"] [] (qY a wd) := by
 cases wd
 ·exact m_Source_copied T
 ·exact m_Drain_copied T
 ·exact m_Joiner_copied T
theorem vj : ∀ (xs ys : List Int), xs.Perm ys → xs.Pairwise (· ≤ ·) → ys.Pairwise (· ≤ ·) → xs = ys
 | [], ys, h, _, _ => (List.nil_perm.mp h).symm
 | x :: xs, [], h, _, _ => absurd h.length_eq (by simp)
 | x :: xs, y :: ys, h, hx, hy => by
  have e : x = y := by
   have h1 : y ∈ x :: xs := h.mem_iff.mpr (by simp)
   have h2 : x ∈ y :: ys := h.mem_iff.mp (by simp)
   rcases List.mem_cons.mp h1 with e | m1
   ·exact e.symm
   rcases List.mem_cons.mp h2 with e | m2
   ·exact e
   have := (List.pairwise_cons.mp hx).1 y m1
   have := (List.pairwise_cons.mp hy).1 x m2
   omega
  subst e
  rw [vj xs ys h.cons_inv (List.pairwise_cons.mp hx).2 (List.pairwise_cons.mp hy).2]
def rgI (n : Nat) : List Int := (List.range n).map fun (i : Nat) => (i : Int)
theorem rgI_sorted (n : Nat) : (rgI n).Pairwise (· ≤ ·) := by
 unfold rgI
 rw [List.pairwise_map]
 exact List.pairwise_lt_range.imp fun {i j} h => by omega
theorem rgL_rgI (n : Nat) : rgL 0 n = iv (rgI n) := by
 simp [rgL, iv, rgI, List.map_map, Function.comp_def]
theorem wH : ∀ ms ns : List Int, qZ (iv ms) (iv ns) = decide (ms = ns)
 | [], [] => rfl
 | [], _ :: _ => rfl
 | _ :: _, [] => rfl
 | m :: ms, n :: ns => by
  show (eqV (.int m) (.int n) && qZ (iv ms) (iv ns)) = _
  rw [wH ms ns]
  by_cases e : m = n
  ·subst e; simp [eqV]
  ·simp [eqV, e]
theorem Qh (ns : List Int) : (iv ns).all jC = true := List.all_eq_true.mpr fun x hx => by
 obtain ⟨n, _, rfl⟩ := List.mem_map.mp hx
 rfl
theorem rd_neI2 {H : Hp} {Q : VK} {p q : Addr} {ms ns : List Int} (h1 : SqL K H p (iv ms)) (h2 : SqL K H q (iv ns)) (k : Q (.bl (!decide (ms = ns))) H) : rNeG K (.ref p) (.ref q) H Q :=
 .inr (.inl ⟨p, q, iv ms, iv ns, rfl, rfl, .inl ⟨h1, h2⟩, Qh ms, Qh ns, by rw [wH]; exact k⟩)
def xT (K : PySem.W.Frag) (a : Ad) : Sp := fun vs H Q E => ∃ (bl kl : Addr) (xs ys : List V), vs = [.ref bl, .ref kl] ∧ SqL K H bl xs ∧ SqL K H kl ys ∧ if (1 ≤ xs.length ∧ xs.length ≤ 24) ∧ 1 ≤ ys.length ∧ ys.length ≤ 24 then Q .non H else E (.ref a.BadWork) none H
theorem ok_check_size (T : Txt K mg a) (F : Fun K "check_size" "check_size" s_check_size f fd) : FnOk P w K mg base (CXr P w) 1 f fd ["belts", "knots"] (xT K a) := by
 refine F.okx sc_check_size ?_ ?_
 ·walk_at "i"
 walk_at "k"
 refine oE4 h fun bl kl xs ys z1_ => oA4 z1_ fun z2_ h1 h2 k => ?_
 clear h
 subst z2_
 obtain ⟨t1, g1⟩ := T.g_MOST_BELTS
 obtain ⟨t2, g2⟩ := T.g_MOST_KNOTS
 walk_at "T"
 refine ⟨_, (zj (zA (zK (qO ja ja zc (zG zJ zI (za (pv 0) zb)) jX))  (zd (qC ⟨rfl, rfl, rfl⟩ rfl (za qx zb)))  zk)  (zd (zA (zK (qO ja ja zc (zG zJ zI (za (pv 1) zb)) jX))  (zd (qC ⟨rfl, rfl, rfl⟩ rfl (za qx zb)))  zk))), ?_⟩
 walk_at "go"
 have bad : ¬ ((1 ≤ xs.length ∧ xs.length ≤ 24) ∧ 1 ≤ ys.length ∧ ys.length ≤ 24) → ∃ C, mg "BadWork" = some (Value.ref C) ∧ XC K C ∧ E (Value.ref C) none H := fun h => by
  rw [if_neg h] at k
  exact ⟨a.BadWork, iA3 T.g_BadWork T.X_BadWork k⟩
 refine ⟨_, .inl ⟨_, h1, rfl⟩, ?_⟩
 walk_at "go"
 refine ite2 (fun b1 => ?_) (fun b1 => bad (by omega))
 refine iE2 (.int 24) _ (iA3 g1 ⟨_, rfl⟩ ?_)
 walk_at "go"
 refine ite2 (fun b2 => bad (by omega)) (fun b2 => ?_)
 walk_at "go"
 refine ⟨_, .inl ⟨_, h2, rfl⟩, ?_⟩
 walk_at "go"
 refine ite2 (fun b3 => ?_) (fun b3 => bad (by omega))
 refine iE2 (.int 24) _ (iA3 g2 ⟨_, rfl⟩ ?_)
 walk_at "go"
 refine ite2 (fun b4 => bad (by omega)) (fun b4 => ?_)
 rw [if_pos (by omega)] at k
 walk_at "go"
 exact k
theorem c_check_size (T : Txt K mg a) : Cal P w K mg base "check_size" 1 ["belts", "knots"] [] (xT K a) := T.h_check_size.cal (ok_check_size T)
def wC (K : PySem.W.Frag) (a : Ad) : Sp := fun vs H Q E => ∃ (l : Addr) (ns : List Int) (n : Nat), vs = [.ref l, .int n] ∧ SqL K H l (iv ns) ∧ ns.length < 64 ∧ n ≤ 1000 ∧ (ns.Perm (rgI n) → ∀ H', Same H H' → Q .non H') ∧ (¬ ns.Perm (rgI n) → ∀ H', Same H H' → E (.ref a.BadWork) none H')
theorem ok_check_each_once (T : Txt K mg a) (F : Fun K "check_each_once" "check_each_once" s_check_each_once f fd) : FnOk P w K mg base (CXr P w) 1 f fd ["named", "size"] (wC K a) := by
 refine F.okx sc_check_each_once ?_ ?_
 ·walk_at "i"
 walk_at "k"
 refine oE3 h fun l ns n z1_ => oA6 z1_ fun z2_ hl h64 hn kok kbad => ?_
 clear h
 subst z2_
 walk_at "T"
 refine ⟨_, (zd (zA (zo (jd hr.units1) (zG bi_sorted bo_sorted (za (pv 0) zb)) (jL (bt_listR rfl) qd (za (pe_rg1 (za (pv 1) zb)) zb)) (zq _))  (zd (qC ⟨rfl, rfl, rfl⟩ rfl (za qx zb)))  zk)), ?_⟩
 walk_at "go"
 refine iE2 l ns (iA4 rfl hl h64 (fun ms q1 hp hs hq1 => ?_))
 walk_at "go"
 intro q2 hq2
 refine iE3 q2 0 n (iA4 rfl upd_same (iA5 (by omega) (by omega) (by omega) (by omega) (by omega)) (fun q3 hq3 => ?_))
 rw [show ((n : Int) - 0).toNat = n by omega, rgL_rgI]
 walk_at "go"
 have sm : Same H (upd (upd (upd H q1 (.lst (iv ms))) q2 (.rng 0 n)) q3 (.lst (iv (rgI n)))) := (zf hq1).trans ((zf hq2).trans (zf hq3))
 refine rd_neI2 (ms := ms) (ns := rgI n) (SqL.of (upd_keep (upd_keep upd_same hq2) hq3)) (SqL.of upd_same) ?_
 walk_at "go"
 refine ite2 (fun b1 => ?_) (fun b1 => ?_)
 ·refine ⟨a.BadWork, iA3 T.g_BadWork T.X_BadWork (kbad (fun z => b1 (vj _ _ (hp.trans z) hs (rgI_sorted n))) _ sm)⟩
 ·walk_at "go"
  refine kok ?_ _ sm
  have e : ms = rgI n := Decidable.of_not_not b1
  rw [← e]
  exact hp.symm
theorem jh (T : Txt K mg a) : Cal P w K mg base "check_each_once" 1 ["named", "size"] [] (wC K a) := T.h_check_each_once.cal (ok_check_each_once T)
def jg (rs : List Row) : List Int := rs.flatMap Row.outs
def qg (rs : List Row) : List Int := rs.flatMap Row.ins
def wf (l1 l2 : Addr) : List (Str × V) := putF "knots" (.ref l2) (putF "belts" (.ref l1) [])
def zT (bs : List (Int × Int)) (rs : List Row) : Prop := ((1 ≤ bs.length ∧ bs.length ≤ 24) ∧ 1 ≤ rs.length ∧ rs.length ≤ 24) ∧ (jg rs).Perm (rgI bs.length) ∧ (qg rs).Perm (rgI bs.length)
def ww (K : PySem.W.Frag) (a : Ad) : Sp := fun vs H Q E => ∃ (y dx bl kl : Addr) (bvs kvs : List V) (bs : List (Int × Int)) (rs : List Row) (p : Addr → Prop), vs = [.ref y, .ref bl, .ref kl] ∧ H y = some (.ins a.Work dx []) ∧ bl ≠ y ∧ kl ≠ y ∧ (∀ b, p b → b ≠ y) ∧
 H bl = some (.lst bvs) ∧ H kl = some (.lst kvs) ∧ Bts a H p bvs bs ∧ Kns a H p kvs rs ∧ (∀ b ∈ bs, zE b.1 b.2) ∧ (∀ r ∈ rs, r.ok) ∧ (jg rs).length < 64 ∧ (qg rs).length < 64 ∧ bs.length ≤ 1000 ∧
 (zT bs rs → ∀ H' l1 l2 bvs' kvs', Own H H' y → H' y = some (.ins a.Work dx (wf l1 l2)) → H' l1 = some (.lst bvs') → H' l2 = some (.lst kvs') → Bts a H' (New H) bvs' bs → Kns a H' (New H) kvs' rs → H l1 = none → H l2 = none → Q .non H') ∧
 (¬ zT bs rs → ∀ H', Same H H' → E (.ref a.BadWork) none H')
theorem fedOf_succ {rs : List Row} {i : Nat} {r : Row} (h : rs[i]? = some r) : jg (rs.take (i + 1)) = jg (rs.take i) ++ r.outs := by
 unfold jg; rw [List.take_add_one, h, List.flatMap_append]; simp
theorem takenOf_succ {rs : List Row} {i : Nat} {r : Row} (h : rs[i]? = some r) : qg (rs.take (i + 1)) = qg (rs.take i) ++ r.ins := by
 unfold qg; rw [List.take_add_one, h, List.flatMap_append]; simp
theorem qW (f : Row → List Int) (rs : List Row) (i : Nat) : ((rs.take i).flatMap f).length ≤ (rs.flatMap f).length := by
 conv => rhs; rw [← List.take_append_drop i rs, List.flatMap_append, List.length_append]
 omega
theorem QO (xs ys : List Int) : iv xs ++ iv ys = iv (xs ++ ys) := by rw [iv, iv, iv, List.map_append]
theorem ok_Work_init (T : Txt K mg a) (F : Fun K "__init__" "Work.__init__" s_Work_init f fd) : FnOk P w K mg base (CXr P w) 5 f fd ["self", "belts", "knots"] (ww K a) := by
 refine F.okx sc_Work_init ?_ ?_
 ·walk_at "i"
 walk_at "k"
 refine oE5 h fun y dx bl kl bvs z1_ => oE4 z1_ fun kvs bs rs p z2_ => oA9 z2_ fun z3_ hy nby nky hpy hb hk hB z4_ => oA8 z4_ fun hKs hbo hro h64 h64' hlb kok kbad => ?_
 clear h
 subst z3_
 walk_at "T"
 refine ⟨_, (zg (zN (zx ⟨rfl, rfl, rfl⟩ hr (za (pv 1) (za (pv 2) zb))))  (zg (zF 3 sc_Work_init.nd (zU zb))  (zg (zF 4 sc_Work_init.nd (zU zb))  (zg (z9 qu rfl (qj (pv 2)) (pg_n 5 sc_Work_init.nd)  (zg (zN (jp PySem.F.plainAttrs_list PySem.F.slot_list_extend PySem.F.type_list_extend vo (pv 3) (za (zu (pv 5) rfl) zb)))  (zd (zN (jp PySem.F.plainAttrs_list PySem.F.slot_list_extend PySem.F.type_list_extend vo (pv 4) (za (zu (pv 5) rfl) zb))))))  (zg (zN (zx ⟨rfl, rfl, rfl⟩ hr (za (pv 3) (za (zG zJ zI (za (pv 1) zb)) zb))))  (zg (zN (zx ⟨rfl, rfl, rfl⟩ hr (za (pv 4) (za (zG zJ zI (za (pv 1) zb)) zb))))  (zg (qI (pv 0) (jK (vars := ["belt"]) (caps := []) (N := ["belt"]) (ON := ["self", "belts", "knots", "fed", "taken", "knot"]) (osc := ze s_Work_init) rfl rfl (by first | decide +kernel | kernel_rfl) rfl rfl (qj (pv 1)) (fun s H fp pins => (pg_n 0 (show (["belt"] : List Str).Nodup from by decide +kernel))) (fun s H fp pins => qm) (fun s H fp pins => (QE hr (za (zu (pv 0) rfl) (za (zu (pv 0) rfl) zb))))) rfl)  (zd (qI (pv 0) (jK (vars := ["knot"]) (caps := []) (N := ["knot"]) (ON := ["self", "belts", "knots", "fed", "taken", "knot"]) (osc := ze s_Work_init) rfl rfl (by first | decide +kernel | kernel_rfl) rfl rfl (qj (pv 2)) (fun s H fp pins => (pg_n 0 (show (["knot"] : List Str).Nodup from by decide +kernel))) (fun s H fp pins => qm) (fun s H fp pins => (pe_mthN0 hr (pv 0)))) rfl))))))))), ?_⟩
 walk_at "go"
 refine uc (c_check_size T).mono (iE4 bl kl bvs kvs (iA4 rfl (SqL.of hb) (SqL.of hk) (ite2 (fun b1 => ?_) (fun b1 => ?_))))
 rotate_left
 ·refine kbad (fun z => b1 ?_) H (Same.refl _)
  rw [hB.len, hKs.len]; exact z.1
 rw [hB.len, hKs.len] at b1
 walk_at "go"
 intro fl hfl
 walk_at "go"
 intro tl htl
 have nft : fl ≠ tl := ne_of_none upd_same htl
 have htl0 : H tl = none := zS htl
 walk_at "for"
 walk_at "go"
 have s2 : Same H (upd (upd H fl (.lst [])) tl (.lst [])) := (zf hfl).trans (zf htl)
 refine ⟨kl, rfl, .inl ⟨⟨_, SqL.of (s2 _ _ hk)⟩, ?_⟩⟩
 let M1_ : Nat → St → Hp → Prop := fun i σ H' => ∃ v5, σ = [some (.ref y), some (.ref bl), some (.ref kl), some (.ref fl), some (.ref tl), v5] ∧ Same H H' ∧ H' fl = some (.lst (iv (jg (rs.take i)))) ∧ H' tl = some (.lst (iv (qg (rs.take i))))
 refine qV (K := K) (a := kl) (xs := kvs) M1_ ⟨_, iA4 rfl s2 (upd_keep upd_same htl) upd_same⟩ (fun i σ H' _ ⟨_, _, s, _⟩ => SqL.of (s _ _ hk)) ?_ ?_
 ·intro i x σ H' hi zz_
  refine oE1 zz_ fun v5 z1_ => oA4 z1_ fun z2_ s3 e1 e2 => ?_
  clear zz_
  subst z2_
  obtain ⟨r, hr', hKn0⟩ := hKs.at hi
  refine oE6 hKn0.inv fun y1 dx1 l1 l2 l3 fs z1_ => oA9 z1_ fun z2_ p0 p1 p2 p3 h0 f1 f2 z3_ => oA5 z3_ fun f3 h1 h2 h3 h4 => ?_
  subst z2_
  have L1 := qW Row.outs rs i
  have L2' := qW Row.ins rs i
  have L3 := qW Row.outs rs (i + 1)
  have L4 := qW Row.ins rs (i + 1)
  have E1 := fedOf_succ hr'
  have E2 := takenOf_succ hr'
  have n1 : ∀ {b : Addr} {o : HO}, H b = some o → b ≠ fl := fun h => ne_of_none h hfl
  have n2 : ∀ {b : Addr} {o : HO}, H b = some o → b ≠ tl := fun h => ne_of_none h htl0
  walk_at "go"
  refine ⟨.inl ⟨rfl, _, SqL.of e1⟩, iE5 y1 (clsA a r.wd) dx1 fs _ (iA6 rfl (s3 _ _ h0) (CT T _) (NO T _) f2 ?_)⟩
  refine iE4 fl l2 _ _ (iA6 rfl rfl e1 (s3 _ _ h2) ?_ ?_)
  ·refine Nat.le_of_lt (zp ?_)
   have := congrArg List.length E1
   rw [List.length_append] at this
   rw [iv, iv, List.length_map, List.length_map]
   unfold jg at this h64 ⊢
   omega
  walk_at "go"
  have e2' : upd H' fl (.lst (iv (jg (rs.take i)) ++ iv r.outs)) tl = some (.lst (iv (qg (rs.take i)))) := by rw [upd_ne (Ne.symm nft)]; exact e2
  refine ⟨.inl ⟨rfl, _, SqL.of e2'⟩, iE5 y1 (clsA a r.wd) dx1 fs _ (iA6 rfl ?_ (CT T _) (NI T _) f1 ?_)⟩
  ·rw [upd_ne (n1 h0)]; exact s3 _ _ h0
  refine iE4 tl l1 _ (iv r.ins) (iA6 rfl rfl e2' ?_ ?_ ?_)
  ·rw [upd_ne (n1 h1)]; exact s3 _ _ h1
  ·refine Nat.le_of_lt (zp ?_)
   have := congrArg List.length E2
   rw [List.length_append] at this
   rw [iv, iv, List.length_map, List.length_map]
   unfold qg at this h64' ⊢
   omega
  refine ⟨_, iA4 rfl (fun b o hb => ?_) ?_ ?_⟩
  ·rw [upd_ne (n2 hb), upd_ne (n1 hb)]; exact s3 _ _ hb
  ·rw [upd_ne nft, upd_same, E1, QO]
  ·rw [upd_same, E2, QO]
 ·intro σ H1 zz_
  refine oE1 zz_ fun v5 z1_ => oA4 z1_ fun z2_ s3 e1 e2 => ?_
  clear zz_
  subst z2_
  rw [hKs.len, List.take_length] at e1 e2
  walk_at "go"
  refine uc (jh T).mono ⟨m_len, ⟨_, ⟨.inl ⟨_, SqL.of (s3 _ _ hb), rfl⟩, ?_⟩⟩⟩
  rw [hB.len]
  refine iE3 fl (jg rs) bs.length (iA6 rfl (SqL.of e1) h64 hlb (fun g1 H2 s4 => ?_) (fun g1 H2 s4 => kbad (fun z => g1 z.2.1) _ (s3.trans s4)))
  walk_at "go"
  refine uc (jh T).mono ⟨m_len, ⟨_, ⟨.inl ⟨_, SqL.of (s4 _ _ (s3 _ _ hb)), rfl⟩, ?_⟩⟩⟩
  rw [hB.len]
  refine iE3 tl (qg rs) bs.length (iA6 rfl (SqL.of (s4 _ _ e2)) h64' hlb (fun g2 H3 s5 => ?_) (fun g2 H3 s5 => kbad (fun z => g2 z.2.2) _ (s3.trans (s4.trans s5))))
  have kok := kok ⟨b1, g1, g2⟩
  have s6 := s3.trans (s4.trans s5)
  clear s3 s4 s5 e1 e2
  clear g1 g2
  walk_at "go"
  walk_at "lc"
  walk_at "go"
  refine ⟨bl, rfl, .inl ⟨⟨_, SqL.of (s6 _ _ hb)⟩, fun _ _ _ _ acc hacc => ?_⟩⟩
  have nacc : H acc = none := zy s6 hacc
  let M2_ : Nat → St → Hp → Prop := fun i σ H' => ∃ v us, σ = [v] ∧ Same H3 H' ∧ H' acc = some (.lst us) ∧ Bts a H' (fun b => H3 b = none ∧ b ≠ acc) us (bs.take i)
  refine qV (K := K) (a := bl) (xs := bvs) M2_ (iE2 _ ([]) (iA4 rfl (zf hacc) upd_same (by rw [List.take_zero]; exact .nil))) (fun i σ H' _ ⟨_, _, _, s, _⟩ => SqL.of (s _ _ (s6 _ _ hb))) ?_ ?_
  ·intro i x σ H' hi zz_
   refine oE2 zz_ fun v us z1_ => oA4 z1_ fun z2_ s7 e1 hU => ?_
   clear zz_
   subst z2_
   obtain ⟨⟨rm, pc⟩, hr', hBt0⟩ := hB.at hi
   refine oE3 hBt0.inv fun y1 dx1 fs z1_ => oA5 z1_ fun z2_ p0 h0 f1 f2 => ?_
   subst z2_
   have hok := hbo _ (List.mem_of_getElem? hr')
   have hil : i < bs.length := (List.getElem?_eq_some_iff.mp hr').1
   have h0' := s7 _ _ (s6 _ _ h0)
   walk_at "go"
   refine iE4 a.Belt _ _ _ ⟨(QL T).mono, iE5 y1 a.Belt dx1 fs _ (iA6 rfl h0' T.C_Belt T.N_Belt_room f1 (iE5 y1 a.Belt dx1 fs _ (iA6 rfl h0' T.C_Belt T.N_Belt_pace f2 ?_)))⟩
   intro z dz hz hdz hne
   refine iE4 z dz rm pc (iA3 rfl upd_same ?_)
   rw [if_pos hok, js]
   have sN : Same H' (upd (upd H' dz (.own z)) z (.ins a.Belt dz (bf rm pc))) := fun b o h => by rw [upd_ne (ne_of_none h hz), upd_ne (ne_of_none h hdz)]; exact h
   have hz' : upd (upd H' dz (.own z)) z (.ins a.Belt dz (bf rm pc)) z = some (.ins a.Belt dz (bf rm pc)) := upd_same
   generalize upd (upd H' dz (.own z)) z (.ins a.Belt dz (bf rm pc)) = H4 at sN hz' ⊢
   have hzn : z ≠ acc := fun q => by rw [q, e1] at hz; cases hz
   refine ⟨rfl, ⟨_, iA3 (sN _ _ e1) (zp (by have := hU.len; rw [List.length_take] at this; omega)) (iE2 _ (us ++ [.ref z]) (iA4 rfl (fun b o hb => ?_) upd_same ?_))⟩⟩
   ·rw [upd_ne (ne_of_none hb hacc)]; exact sN _ _ (s7 _ _ hb)
   ·rw [List.take_add_one, hr']
    refine Bts.push (hU.keep fun b o hp hb => ⟨hp, by rw [upd_ne hp.2]; exact sN _ _ hb⟩) (Ja (p := fun b => H3 b = none ∧ b ≠ acc) ⟨zy s7 hz, hzn⟩ (by rw [upd_ne hzn]; exact hz'))
  ·intro σ H4 zz_
   refine oE2 zz_ fun v us z1_ => oA4 z1_ fun z2_ s7 e1 hU => ?_
   clear zz_
   subst z2_
   rw [hB.len, List.take_length] at hU
   have s8 := s6.trans s7
   have nacy : acc ≠ y := (ne_of_none hy nacc).symm
   walk_at "go"
   refine iE4 y a.Work dx ([]) (iA6 rfl (s8 _ _ hy) T.C_Work T.N_Work_belts (by decide) ?_)
   have o9 : Own H (upd H4 y (.ins a.Work dx (putF "belts" (.ref acc) []))) y := (Same.own s8).trans qE
   have hy9 : upd H4 y (.ins a.Work dx (putF "belts" (.ref acc) [])) y = some (.ins a.Work dx (putF "belts" (.ref acc) [])) := upd_same
   have e9 : upd H4 y (.ins a.Work dx (putF "belts" (.ref acc) [])) acc = some (.lst us) := by rw [upd_ne nacy]; exact e1
   have hU9 : Bts a (upd H4 y (.ins a.Work dx (putF "belts" (.ref acc) []))) (fun b => H b = none ∧ b ≠ y) us bs := hU.keep fun b o hp hb => by
    have q1 : H b = none := zy s6 hp.1
    have q2 : b ≠ y := (ne_of_none hy q1).symm
    exact ⟨⟨q1, q2⟩, by rw [upd_ne q2]; exact hb⟩
   generalize upd H4 y (.ins a.Work dx (putF "belts" (.ref acc) [])) = H5 at o9 hy9 e9 hU9 ⊢
   walk_at "go"
   walk_at "lc"
   walk_at "go"
   refine ⟨kl, rfl, .inl ⟨⟨_, SqL.of (o9 _ _ nky hk)⟩, fun _ _ _ _ ac2 hac2 => ?_⟩⟩
   let M3_ : Nat → St → Hp → Prop := fun i σ H' => ∃ v us2, σ = [v] ∧ Same H5 H' ∧ H' ac2 = some (.lst us2) ∧ Kns a H' (fun b => H5 b = none ∧ b ≠ ac2) us2 (rs.take i)
   refine qV (K := K) (a := kl) (xs := kvs) M3_ (iE2 _ ([]) (iA4 rfl (zf hac2) upd_same (by rw [List.take_zero]; exact .nil))) (fun i σ H' _ ⟨_, _, _, s, _⟩ => SqL.of (s _ _ (o9 _ _ nky hk))) ?_ ?_
   ·intro i x σ H' hi zz_
    refine oE2 zz_ fun v us2 z1_ => oA4 z1_ fun z2_ s10 e2 hV => ?_
    clear zz_
    subst z2_
    obtain ⟨r, hr', hKn⟩ := hKs.at hi
    have hok := hro _ (List.mem_of_getElem? hr')
    have hil : i < rs.length := (List.getElem?_eq_some_iff.mp hr').1
    have hKn' : KnP a H' p x r := hKn.keep fun b o hp hb => ⟨hp, s10 _ _ (o9 _ _ (hpy b hp) hb)⟩
    refine oE6 hKn'.inv fun y1 dx1 l1 l2 l3 fs z1_ => oA9 z1_ fun z2_ p0 p1 p2 p3 h0 f1 f2 z3_ => oA5 z3_ fun f3 h1 h2 h3 h4 => ?_
    subst z2_
    walk_at "go"
    refine iE7 y1 (clsA a r.wd) dx1 fs _ _ _ (iA5 rfl h0 f3 ((m_copied T r.wd).mono) ?_)
    refine iE3 y1 r p (iA5 rfl hKn' rfl hok (fun v' H6 s11 hN => ?_))
    refine ⟨_, iA3 (s11 _ _ e2) (zp (by have := hV.len; rw [List.length_take] at this; omega)) (iE2 _ (us2 ++ [v']) (iA4 rfl (fun b o hb => ?_) upd_same ?_))⟩
    ·rw [upd_ne (ne_of_none hb hac2)]; exact s11 _ _ (s10 _ _ hb)
    ·rw [List.take_add_one, hr']
     refine Kns.append (hV.keep fun b o hp hb => ⟨hp, by rw [upd_ne hp.2]; exact s11 _ _ hb⟩) (Kns.one (hN.keep fun b o hp hb => ?_))
     have q2 : b ≠ ac2 := fun z => by rw [z] at hp; rw [New, e2] at hp; cases hp
     exact ⟨⟨zy s10 hp, q2⟩, by rw [upd_ne q2]; exact hb⟩
   ·intro σ H6 zz_
    refine oE2 zz_ fun v us2 z1_ => oA4 z1_ fun z2_ s10 e2 hV => ?_
    clear zz_
    subst z2_
    rw [hKs.len, List.take_length] at hV
    have hy10 := s10 _ _ hy9
    walk_at "go"
    refine iE4 y a.Work dx _ (iA6 rfl hy10 T.C_Work T.N_Work_knots (by show 1 < 1000; decide) ?_)
    have n2y : ac2 ≠ y := fun z => by rw [z, hy9] at hac2; cases hac2
    have ho : ∀ b, H5 b = none → b ≠ y → H b = none := fun b h1 h2 => by
     cases e : H b with
     | none => rfl
     | some o => rw [o9 b o h2 e] at h1; cases h1
    refine kok _ acc ac2 us us2 ((o9.trans (Same.own s10)).trans qE) upd_same ?_ ?_ ?_ ?_ nacc (ho _ hac2 n2y)
    ·rw [upd_ne nacy]; exact s10 _ _ e9
    ·rw [upd_ne n2y]; exact e2
    ·exact hU9.keep fun b o hp hb => ⟨hp.1, by rw [upd_ne hp.2]; exact s10 _ _ hb⟩
    ·refine hV.keep fun b o hp hb => ?_
     have q : b ≠ y := fun z => by rw [z, hy9] at hp; cases hp.1
     exact ⟨ho b hp.1 q, by rw [upd_ne q]; exact hb⟩
theorem k_Work (T : Txt K mg a) : KCal P w K mg base "Work" a.Work 5 ["self", "belts", "knots"] [] (ww K a) := T.h_Work_init.cal T.g_Work (ok_Work_init T)
def mixF (c k : Int) : Int := ((c % 2147483647 + 1 + 7919 * k * k) * 48271 % 2147483629) * ((c % 2147483647 + 1 + 7919 * k * k) * 48271 % 2147483629) % 998244353
theorem vY (c k : Int) : 0 ≤ mixF c k := Int.emod_nonneg _ (by decide)
theorem mixF_lt (c k : Int) : mixF c k < 998244353 := Int.emod_lt_of_pos _ (by decide)
def QX : Sp := fun vs H Q _ => ∃ c k : Int, vs = [.int c, .int k] ∧ 0 ≤ k ∧ k ≤ 100000 ∧ Q (.int (mixF c k)) H
theorem ok_L_mix (F : Fun K "_law_mix" "_law_mix" s_L_mix f fd) : FnOk P w K mg base (CXr P w) 1 f fd Q3 QX := by
 refine F.okx sc_L_mix ?_ ?_
 ·walk_at "i"
 walk_at "k"
 obtain ⟨c, n, rfl, h0, h1, k⟩ := h
 refine ⟨_, (zj (zF 2 sc_L_mix.nd (zm zL (zm j5 (zm z6 (zm z6 (zm zL (pv 0) zc) zc) (zm j5 (zm j5 zc (pv 1)) (pv 1))) zc) zc))  (zd (zi (zm zL (zm j5 (pv 2) (pv 2)) zc)))), ?_⟩
 walk_at "r"
 have s0 := Int.emod_nonneg ((c % 2147483647 + 1 + 7919 * n * n) * 48271) (show (2147483629 : Int) ≠ 0 by decide)
 have s1 := Int.emod_lt_of_pos ((c % 2147483647 + 1 + 7919 * n * n) * 48271) (show (0 : Int) < 2147483629 by decide)
 refine And.intro (mul_okL (by decide) (by decide)) (And.intro (mul_okR (by omega) (by omega)) (And.intro (mul_okR (by decide) (by decide)) (And.intro (mul_okL (by omega) (by omega)) k)))
theorem jA (T : Txt K mg a) : Cal P w K mg base "_law_mix" 1 Q3 [] QX := T.h_L_mix.cal ok_L_mix
def ZB (c k : Int) : Int := (c % 1000000000000000000000000000000 + 1 + k) * 618033988749894848204586834367 % 1000000000000000000000000000000
theorem Zz (c k : Int) : 0 ≤ ZB c k := Int.emod_nonneg _ (by decide)
theorem ZA (c k : Int) : ZB c k < 1000000000000000000000000000000 := Int.emod_lt_of_pos _ (by decide)
def Qv : Sp := fun vs H Q _ => ∃ c k : Int, vs = [.int c, .int k] ∧ 0 ≤ k ∧ k ≤ 1000000000 ∧ Q (.int (ZB c k)) H
theorem ok_L_kind (F : Fun K "_law_kind" "_law_kind" s_L_kind f fd) : FnOk P w K mg base (CXr P w) 1 f fd QI Qv := by
 refine F.okx sc_L_kind ?_ ?_
 ·walk_at "i"
 walk_at "k"
 obtain ⟨c, n, rfl, h0, h1, k⟩ := h
 refine ⟨_, (zd (zi (zm zL (zm j5 (zm z6 (zm z6 (zm zL (pv 0) (zm wM zc zc)) zc) (pv 1)) zc) (zm wM zc zc)))), ?_⟩
 walk_at "r"
 have s0 := Int.emod_nonneg c (show (1000000000000000000000000000000 : Int) ≠ 0 by decide)
 have s1 := Int.emod_lt_of_pos c (show (0 : Int) < 1000000000000000000000000000000 by decide)
 have e : (1000000000000000000000000000000 : Nat) + 1000000011 < 2 ^ 250 := by decide +kernel
 exact And.intro (mul_ok 250 (by omega) (by decide +kernel) (by decide)) k
theorem ZK (T : Txt K mg a) : Cal P w K mg base "_law_kind" 1 QI [] Qv := T.h_L_kind.cal ok_L_kind
def jR (ns : List Int) (k : Nat) : Int := ns.getD k 0
def ZQ (K : PySem.W.Frag) : Sp := fun vs H Q _ => ∃ (l : Addr) (ns : List Int) (k : Nat), vs = [.ref l, .int k] ∧ SqL K H l (ns.map V.int) ∧ Q (.int (jR ns k)) H
theorem wR {K : PySem.W.Frag} {vs : List V} {H : Hp} {Q : VK} {E : XK} (l : Addr) (ns : List Int) (k : Nat) (q0 : vs = [.ref l, .int k]) (q1 : SqL K H l (ns.map V.int)) (q2 : Q (.int (jR ns k)) H) : ZQ K vs H Q E := ⟨l, ns, k, q0, q1, q2⟩
theorem ok_L_cell (T : Txt K mg a) (F : Fun K "_law_cell" "_law_cell" s_L_cell f fd) : FnOk P w K mg base (CXr P w) 1 f fd ["_law_script", "_law_k"] (ZQ K) := by
 refine F.okx sc_L_cell ?_ ?_
 ·walk_at "i"
 walk_at "k"
 obtain ⟨l, ns, n, rfl, hl, k⟩ := h
 walk_at "T"
 refine ⟨_, (zj (zA (zo QF (pv 1) (zG zJ zI (za (pv 0) zb)) (zq _))  (zd (zi (zh (pv 0) (pv 1))))  zk)  (zd (zi zc))), ?_⟩
 walk_at "go"
 refine ⟨_, .inl ⟨_, hl, rfl⟩, ?_⟩
 walk_at "r"
 rw [List.length_map]
 refine ite2 (fun h => ?_) (fun h => ?_)
 ·have h : n < ns.length := by omega
  refine zl hl (zr (by rw [List.getElem?_map, List.getElem?_eq_getElem h]; rfl)) ?_
  have e : ns[n] = jR ns n := by simp [jR, h]
  rw [e]; exact k
 ·have e : jR ns n = 0 := by
   have h : ns.length ≤ n := by omega
   simp [jR, h]
  rw [e] at k
  walk_at "r"
  exact k
theorem w9 (T : Txt K mg a) : Cal P w K mg base "_law_cell" 1 ["_law_script", "_law_k"] [] (ZQ K) := T.h_L_cell.cal (ok_L_cell T)
def ZP (K : PySem.W.Frag) : Sp := fun vs H Q _ => ∃ (l : Addr) (ns : List Int), vs = [.ref l] ∧ SqL K H l (iv ns) ∧ ∀ n : Int, 0 ≤ n → n < 2147483629 → Q (.int n) H
theorem i_spFold {K : PySem.W.Frag} {vs : List V} {H : Hp} {Q : VK} {E : XK} (l : Addr) (ns : List Int) (q0 : vs = [.ref l]) (q1 : SqL K H l (iv ns)) (q2 : ∀ n : Int, 0 ≤ n → n < 2147483629 → Q (.int n) H) : ZP K vs H Q E := ⟨l, ns, q0, q1, q2⟩
theorem ok_L_fold (T : Txt K mg a) (F : Fun K "_law_fold" "_law_fold" s_L_fold f fd) : FnOk P w K mg base (CXr P w) 1 f fd ["_law_script"] (ZP K) := by
 refine F.okx sc_L_fold ?_ ?_
 ·walk_at "i"
 walk_at "k"
 obtain ⟨l, ns, rfl, hl, k⟩ := h
 walk_at "T"
 refine ⟨_, (zj (zF 1 sc_L_fold.nd zc)  (zj (z9 qu rfl (qj (pv 0)) (pg_n 2 sc_L_fold.nd)  (zd (zF 1 sc_L_fold.nd (zm zL (zm z6 (zm j5 (pv 1) zc) (zm zL (pv 2) zc)) zc))))  (zd (zi (pv 1))))), ?_⟩
 walk_at "go"
 walk_at "for"
 refine ⟨l, rfl, .inl ⟨⟨_, hl⟩, ?_⟩⟩
 refine qV (K := K) (a := l) (xs := iv ns) (fun i σ H' => ∃ (n : Int) (v2 : Option V), σ = [some (.ref l), some (.int n), v2] ∧ H' = H ∧ 0 ≤ n ∧ n < 2147483629) ⟨1, _, rfl, rfl, by decide, by decide⟩ (fun i σ H' _ ⟨_, _, _, e, _⟩ => e ▸ hl) ?_ ?_
 ·rintro i x σ H' hi ⟨n, v2, rfl, rfl, n0, n1⟩
  rw [iv, List.getElem?_map, Option.map_eq_some_iff] at hi
  obtain ⟨c, _, rfl⟩ := hi
  walk_at "go"
  refine And.intro (mul_okR (by decide) (by decide)) ?_
  exact ⟨_, _, rfl, Int.emod_nonneg _ (by decide), Int.emod_lt_of_pos _ (by decide)⟩
 ·rintro σ H' ⟨n, v2, rfl, rfl, n0, n1⟩
  walk_at "go"
  exact k n n0 n1
theorem c_L_fold (T : Txt K mg a) : Cal P w K mg base "_law_fold" 1 ["_law_script"] [] (ZP K) := T.h_L_fold.cal (ok_L_fold T)
def xy (b : Int × Int) : D := .tup [.int b.1, .int b.2]
theorem ZX (n : Nat) : (rgI n).length = n := by simp [rgI]
theorem Zp (n : Nat) : rgI (n + 1) = rgI n ++ [(n : Int)] := by simp [rgI, List.range_succ]
theorem qz (ns : List Int) : (iv ns).length = ns.length := by rw [iv, List.length_map]
theorem Q6 {ns : List Int} {i : Nat} {x : V} (h : (iv ns)[i]? = some x) : ∃ n, ns[i]? = some n ∧ x = .int n := by
 rw [iv, List.getElem?_map, Option.map_eq_some_iff] at h
 obtain ⟨n, h1, h2⟩ := h
 exact ⟨n, h1, h2.symm⟩
theorem wP {ns : List Int} {i : Nat} {n : Int} (h : ns[i]? = some n) : (iv ns)[i]? = some (.int n) := by rw [iv, List.getElem?_map, h]; rfl
theorem Qb (ns : List Int) (n : Int) : iv ns ++ [.int n] = iv (ns ++ [n]) := by simp [iv]
def wdS : Wd → Str
 | .source => "source"
 | .drain => "drain"
 | .joiner => "joiner"
theorem vJ {x y : Wd} (h : wdS x = wdS y) : x = y := by
 cases x <;> cases y <;> first | rfl | exact absurd h (by decide +kernel)
def dRow (r : Row) : D := .tup [.str (wdS r.wd), .ints r.ins, .ints r.outs, .int r.pace, .ints r.kinds]
theorem jz {us : List V} {n : Nat} (h : us.length = n + 1) : ∃ a vs, us = a :: vs ∧ vs.length = n := by
 cases us with
 | nil => cases h
 | cons a vs => exact ⟨a, vs, rfl, Nat.succ.inj h⟩
theorem two_of {us : List V} (h : us.length = 2) : ∃ a b, us = [a, b] := by
 obtain ⟨a, _, rfl, h1⟩ := jz h
 obtain ⟨b, _, rfl, h2⟩ := jz h1
 exact ⟨a, b, by rw [List.length_eq_zero_iff.mp h2]⟩
theorem mem_rgI {n : Nat} {x : Int} (h : x ∈ rgI n) : 0 ≤ x ∧ x < n := by
 unfold rgI at h
 obtain ⟨i, hi, rfl⟩ := List.mem_map.mp h
 have := List.mem_range.mp hi
 omega
theorem five_of {us : List V} (h : us.length = 5) : ∃ a b c d e, us = [a, b, c, d, e] := by
 refine oE2 (jz h) fun a _ z1_ => oA2 z1_ fun z2_ h1 => ?_
 subst z2_
 refine oE2 (jz h1) fun b _ z1_ => oA2 z1_ fun z2_ h2 => ?_
 subst z2_
 refine oE2 (jz h2) fun c _ z1_ => oA2 z1_ fun z2_ h3 => ?_
 subst z2_
 obtain ⟨d, e, rfl⟩ := two_of h3
 exact iE5 a b c d e rfl
theorem jU {H : Hp} {p : Addr → Prop} {v : V} {r : Row} (h : Rep H p v (dRow r)) : ∃ t l1 l2 l3, v = .ref t ∧ H t = some (.tup [.str (wdS r.wd), .ref l1, .ref l2, .int r.pace, .ref l3]) ∧ H l1 = some (.lst (iv r.ins)) ∧ H l2 = some (.lst (iv r.outs)) ∧ H l3 = some (.lst (iv r.kinds)) := by
 obtain ⟨t, us, rfl, _, ht, rr⟩ := Rep.tup' h
 have g := rr.g
 obtain ⟨x0, x1, x2, x3, x4, rfl⟩ := five_of rr.len
 have a0 := g 0 x0 _ rfl rfl
 have a1 := g 1 x1 _ rfl rfl
 have a2 := g 2 x2 _ rfl rfl
 have a3 := g 3 x3 _ rfl rfl
 have a4 := g 4 x4 _ rfl rfl
 obtain ⟨l1, rfl, _, h1⟩ := a1.ints'
 obtain ⟨l2, rfl, _, h2⟩ := a2.ints'
 obtain ⟨l3, rfl, _, h3⟩ := a4.ints'
 cases a0
 cases a3
 exact ⟨t, l1, l2, l3, rfl, ht, h1, h2, h3⟩
theorem xn {H : Hp} {p : Addr → Prop} {v : V} {b : Int × Int} (h : Rep H p v (xy b)) : ∃ t, v = .ref t ∧ H t = some (.tup [.int b.1, .int b.2]) := by
 obtain ⟨t, us, rfl, _, ht, rr⟩ := Rep.tup' h
 have g := rr.g
 obtain ⟨x0, x1, rfl⟩ := two_of rr.len
 have a0 := g 0 x0 _ rfl rfl
 have a1 := g 1 x1 _ rfl rfl
 cases a0
 cases a1
 exact ⟨t, rfl, ht⟩
def vO : Sp := fun vs H Q _ => ∃ (v : V) (fo : Int) (rs : List Row), vs = [v, .int fo] ∧ Rep H (Off []) v (.lst (rs.map dRow)) ∧ rs.length ≤ 100 ∧ ∀ (v' : V) (H' : Hp) (rs' : List Row), Same H H' → Rep H' (Off []) v' (.lst (rs'.map dRow)) → rs'.Perm rs → Q v' H'
theorem i_spDealt {vs : List V} {H : Hp} {Q : VK} {E : XK} (v : V) (fo : Int) (rs : List Row) (q0 : vs = [v, .int fo]) (q1 : Rep H (Off []) v (.lst (rs.map dRow))) (q2 : rs.length ≤ 100) (q3 : ∀ (v' : V) (H' : Hp) (rs' : List Row), Same H H' → Rep H' (Off []) v' (.lst (rs'.map dRow)) → rs'.Perm rs → Q v' H') : vO vs H Q E := ⟨v, fo, rs, q0, q1, q2, q3⟩
theorem ok_L_dealt (T : Txt K mg a) (F : Fun K "_law_dealt" "_law_dealt" s_L_dealt f fd) : FnOk P w K mg base (CXr P w) 2 f fd ["_law_rows", "_law_fold_here"] vO := by
 refine F.okx sc_L_dealt ?_ ?_
 ·walk_at "i"
 walk_at "j"
 refine oE3 h fun v fo rs z1_ => oA4 z1_ fun z2_ hv h100 k => ?_
 clear h
 subst z2_
 refine oE2 hv.lst' fun l us z1_ => oA4 z1_ fun z2_ _ hl hrs => ?_
 subst z2_
 have lus : us.length = rs.length := by rw [hrs.len, List.length_map]
 walk_at "T"
 refine ⟨_, (zg (zF 2 sc_L_dealt.nd (zU zb))  (zX (z9 qu rfl (qD (za (pv 0) zb)) (qJ (n := 2) rfl (zB (pg_n 3 sc_L_dealt.nd) (zB (pg_n 4 sc_L_dealt.nd) qo)))  (zg (zF 5 sc_L_dealt.nd (zG zJ zI (za (pv 2) zb)))  (zX (zA (zo (jq hr.units1) (zm zL (zm jv (pv 1) zc) zc) zc (zq _))  (zd (zF 5 sc_L_dealt.nd (zm zL (zx ⟨rfl, rfl, rfl⟩ hr (za (pv 1) (za (zm z6 zc (pv 3)) zb))) (zm z6 (zG zJ zI (za (pv 2) zb)) zc))))  zk)  (zd (zN (jp PySem.F.plainAttrs_list PySem.F.slot_list_insert PySem.F.type_list_insert mt_insert (pv 2) (za (pv 5) (za (pv 4) zb))))))))  (zd (zi (pv 2))))), ?_⟩
 walk_at "go"
 intro dl hdl
 walk_at "go"
 refine cut (fun σ' H' => ∃ (v3 v4 v5 : Option V) (dvs : List V) (ds : List Row), σ' = [some (.ref l), some (.int fo), some (.ref dl), v3, v4, v5] ∧ Same H H' ∧ H' dl = some (.lst dvs) ∧ Reps H' (Off [dl]) dvs (ds.map dRow) ∧ ds.Perm rs) ?_ ?_
 ·walk_at "for"
  walk_at "go"
  refine iE2 l _ (iA3 rfl (upd_keep hl hdl) ?_)
  refine ZE (K := K) (a := l) (xs := us) (fun i σ H' => ∃ (v3 v4 v5 : Option V) (dvs : List V) (ds : List Row), σ = [some (.ref l), some (.int fo), some (.ref dl), v3, v4, v5] ∧ Same H H' ∧ H' dl = some (.lst dvs) ∧ Reps H' (Off [dl]) dvs (ds.map dRow) ∧ ds.Perm (rs.take i)) (iE5 _ _ _ ([]) ([]) (iA5 rfl (zf hdl) upd_same (.nil) (by simp))) (fun i σ H' _ h => by obtain ⟨_, _, _, _, _, _, s, _⟩ := h; exact SqL.of (s _ _ hl)) ?_ ?_
  ·intro i x t σ H1 hi ht zz_
   refine oE5 zz_ fun v3 v4 v5 dvs ds z1_ => oA5 z1_ fun z2_ s1 hd rd pp => ?_
   clear zz_
   subst z2_
   obtain ⟨dx, hdx, rx⟩ := hrs.at hi
   rw [List.getElem?_map, Option.map_eq_some_iff] at hdx
   obtain ⟨r, hr', rfl⟩ := hdx
   have hil := (List.getElem?_eq_some_iff.mp hr').1
   have ld : ds.length = i := by rw [pp.length_eq, List.length_take]; omega
   have ldv : dvs.length = i := by rw [rd.len, List.length_map, ld]
   have s2 := s1.trans (zf (o := .tup [.int i, x]) ht)
   have hd2 := upd_keep (o := .tup [.int i, x]) hd ht
   have rd2 := rd.same (zf (o := .tup [.int i, x]) ht)
   refine un2 upd_same ?_
   generalize upd H1 t (.tup [.int i, x]) = H2 at s2 hd2 rd2 ⊢
   walk_at "go"
   refine ⟨_, .inl ⟨_, SqL.of hd2, rfl⟩, ?_⟩
   rw [ldv]
   walk_at "go"
   refine cut (fun σ' H' => ∃ j : Nat, σ' = [some (.ref l), some (.int fo), some (.ref dl), some (.int i), some x, some (.int j)] ∧ H' = H2 ∧ j ≤ i) ?_ ?_
   ·walk_at "go"
    walk_at "sds"
    walk_at "go"
    refine ite2 (fun b => ?_) (fun b => ?_)
    ·walk_at "go"
     refine uc (jA T).mono ⟨fo, _, rfl, by omega, by omega, ?_⟩
     walk_at "go"
     refine ⟨_, .inl ⟨_, SqL.of hd2, rfl⟩, ?_⟩
     rw [ldv]
     walk_at "go"
     refine ⟨by omega, ?_⟩
     have v0 := Int.emod_nonneg (mixF fo (100 + (i : Int))) (show ((i : Int) + 1) ≠ 0 by omega)
     have v1 := Int.emod_lt_of_pos (mixF fo (100 + (i : Int))) (show (0 : Int) < (i : Int) + 1 by omega)
     generalize mixF fo (100 + (i : Int)) % ((i : Int) + 1) = jj at v0 v1 ⊢
     obtain ⟨j, rfl⟩ : ∃ j : Nat, jj = j := ⟨jj.toNat, by omega⟩
     exact ⟨j, rfl, by omega⟩
    ·exact ⟨i, rfl, Nat.le_refl _⟩
   intro σ' H' zz_
   refine oE1 zz_ fun j z1_ => oA3 z1_ fun z2_ z3_ ji => ?_
   clear zz_
   subst z2_ z3_
   walk_at "go"
   refine ⟨.inl ⟨rfl, _, SqL.of hd2⟩, iE4 dl dvs j x (iA6 rfl rfl hd2 (by omega) (by omega) ?_)⟩
   have f3 : Fr [dl] H' (upd H' dl (.lst (dvs.take j ++ [x] ++ dvs.drop j))) := qc (by simp)
   refine iE5 _ _ _ _ (ds.take j ++ [r] ++ ds.drop j) (iA5 rfl ((s2.fr.trans f3).same (by intro m hm; rw [List.mem_singleton.mp hm]; exact hdl)) upd_same ?_ ?_)
   ·rw [List.map_append, List.map_append, List.map_take, List.map_drop]
    refine (((rd2.fr f3).take j).append (.one ?_)).append ((rd2.fr f3).drop j)
    exact (rx.ahead s2 (ms := [dl]) (by intro m hm; rw [List.mem_singleton.mp hm]; exact hdl)).fr f3
   ·rw [List.take_add_one, hr']
    refine List.Perm.trans ?_ (List.Perm.append_right _ pp)
    rw [List.append_assoc]
    refine (List.Perm.append_left _ List.perm_append_comm).trans ?_
    rw [← List.append_assoc, List.take_append_drop]
    exact List.Perm.refl _
  ·intro σ H1 zz_
   refine oE5 zz_ fun v3 v4 v5 dvs ds z1_ => oA5 z1_ fun z2_ s1 hd rd pp => ?_
   clear zz_
   subst z2_
   rw [lus, List.take_length] at pp
   exact iE5 v3 v4 v5 dvs ds (iA5 rfl s1 hd rd pp)
 intro σ' H1 zz_
 refine oE5 zz_ fun v3 v4 v5 dvs ds z1_ => oA5 z1_ fun z2_ s1 hd rd pp => ?_
 clear zz_
 subst z2_
 walk_at "go"
 exact k _ _ ds s1 (rd.all.mk' (fun z => nomatch z) hd) pp
theorem c_L_dealt (T : Txt K mg a) : Cal P w K mg base "_law_dealt" 2 ["_law_rows", "_law_fold_here"] [] vO := T.h_L_dealt.cal (ok_L_dealt T)
theorem ix2 {x0 x1 x2 x3 x4 : V} : atI [x0, x1, x2, x3, x4] 2 = some x2 := rfl
theorem ix1 {x0 x1 x2 x3 x4 : V} : atI [x0, x1, x2, x3, x4] 1 = some x1 := rfl
theorem ix3 {x0 x1 x2 x3 x4 : V} : atI [x0, x1, x2, x3, x4] 3 = some x3 := rfl
theorem ix4 {x0 x1 x2 x3 x4 : V} : atI [x0, x1, x2, x3, x4] 4 = some x4 := rfl
def qG (a : Ad) (bs : List (Int × Int)) (rs : List Row) : D := .ob a.Work [("belts", .lst (bs.map (x9 a))), ("knots", .lst (rs.map (x8 a)))]
theorem wf_eq {l1 l2 : Addr} : wf l1 l2 = ([(("belts" : Str), V.ref l1), (("knots" : Str), V.ref l2)] : List (Str × V)) := by
 unfold wf; simp only [putF]; rw [if_neg (by decide +kernel)]
theorem Zg {a : Ad} {bs : List (Int × Int)} {rs : List Row} : ([("belts", .lst (bs.map (x9 a))), ("knots", .lst (rs.map (x8 a)))] : List (Str × D)).lookup ("belts" : Str) = some (.lst (bs.map (x9 a))) := qt
theorem wk_knots {a : Ad} {bs : List (Int × Int)} {rs : List Row} : ([("belts", .lst (bs.map (x9 a))), ("knots", .lst (rs.map (x8 a)))] : List (Str × D)).lookup ("knots" : Str) = some (.lst (rs.map (x8 a))) := (zH (by decide +kernel)).trans qt
theorem wk_no {a : Ad} {bs : List (Int × Int)} {rs : List Row} {f : Str} (h1 : f ≠ "belts") (h2 : f ≠ "knots") : ([("belts", .lst (bs.map (x9 a))), ("knots", .lst (rs.map (x8 a)))] : List (Str × D)).lookup f = none := (zH h1).trans (zH h2)
theorem QG {H : Hp} {x b : Addr} {o : HO} (h : H x = some o) (hb : H b = none) : b ∉ [x] := fun z => by rw [List.mem_singleton.mp z, h] at hb; cases hb
def vQ (side : V) (p : Int) (t : Int) (b : Bool) : Option (List V) := if b = true ∧ t % p = 0 then some [.non, .int 0, side] else none
def jG (K : PySem.W.Frag) (C : Addr) : Sp := fun vs H Q _ => ∃ (y dx l1 l2 l3 fl : Addr) (p t : Int) (hs side : V) (b : Bool) (bs : List V), vs = [.ref y, hs, .ref fl, .int t, side] ∧ H y = some (.ins C dx (sf l1 l2 p l3)) ∧ 1 ≤ p ∧
 SqL K H fl (.bl b :: bs) ∧ ∀ v H', Same H H' → Told H' v (vQ side p t b) → Q v H'
theorem ok_Source_choice (T : Txt K mg a) (F : Fun K "choice" "Source.choice" s_Source_choice f fd) : FnOk P w K mg base (CXr P w) 1 f fd ["self", "heads", "free", "turn", "side"] (jG K a.Source) := by
 refine F.okx sc_Source_choice ?_ ?_
 ·walk_at "i"
 walk_at "k"
 refine oE8 h fun y dx l1 l2 l3 fl p t z1_ => oE4 z1_ fun hs side b bs z2_ => oA5 z2_ fun z3_ hy p1 hf k => ?_
 clear h
 subst z3_
 unfold vQ at k
 walk_at "T"
 refine ⟨_, (zj (zA (PW.pt (pw_or (zK (zz (zh (pv 2) zc) (fun _ => rfl))) (pw_or1 (zo (jd hr.units1) (zm zL (pv 3) (zu (pv 0) rfl)) zc (zq _)))))  (zd (zi zD))  zk)  (zd (zi (qr (za zD (za zc (za (pv 4) zb))))))), ?_⟩
 walk_at "go"
 refine zl hf at0 ?_
 walk_at "go"
 cases b with
 | false =>
  rw [if_neg (by simp)] at k
  walk_at "go"
  exact k _ _ (Same.refl _) rfl
 | true =>
  walk_at "go"
  refine ra hy T.C_Source T.N_Source_pace sf_pace ?_
  walk_at "go"
  refine ite2 (fun h => ?_) (fun h => ?_)
  ·rw [if_neg (fun z => h z.2)] at k
   walk_at "go"
   exact k _ _ (Same.refl _) rfl
  ·rw [if_pos ⟨rfl, Decidable.of_not_not h⟩] at k
   walk_at "go"
   intro q hq
   exact k _ _ (zf hq) ⟨q, rfl, upd_same⟩
theorem m_Source_choice (T : Txt K mg a) : MCal P w K mg base a.Source "choice" 1 ["self", "heads", "free", "turn", "side"] [] (jG K a.Source) := T.h_Source_choice.cal T.C_Source (ok_Source_choice T)
def ZT (side : V) (p : Int) (t : Int) (hd : V) : Option (List V) := if p = 0 ∨ hd = .non ∨ t % p ≠ 0 then none else some [.int 0, .non, side]
def jW (K : PySem.W.Frag) (C : Addr) : Sp := fun vs H Q _ => ∃ (y dx l1 l2 hl : Addr) (p t : Int) (fr side : V) (hd : V) (hs : List V), vs = [.ref y, .ref hl, fr, .int t, side] ∧ H y = some (.ins C dx (df l1 l2 p)) ∧ 0 ≤ p ∧ p ≤ 4 ∧
 SqL K H hl (hd :: hs) ∧ ∀ v H', Same H H' → Told H' v (ZT side p t hd) → Q v H'
theorem ok_Drain_choice (T : Txt K mg a) (F : Fun K "choice" "Drain.choice" s_Drain_choice f fd) : FnOk P w K mg base (CXr P w) 1 f fd ["self", "heads", "free", "turn", "side"] (jW K a.Drain) := by
 refine F.okx sc_Drain_choice ?_ ?_
 ·walk_at "i"
 walk_at "k"
 refine oE8 h fun y dx l1 l2 hl p t fr z1_ => oE3 z1_ fun side hd hs z2_ => oA6 z2_ fun z3_ hy p0 p4 hh k => ?_
 clear h
 subst z3_
 unfold ZT at k
 walk_at "T"
 refine ⟨_, (zj (zA (zo (jq hr.units1) (zu (pv 0) rfl) zc (zq _))  (zd (zi zD))  zk)  (zj (zA (PW.pt (pw_or (zo qF (zh (pv 1) zc) zD (zq _)) (pw_or1 (zo (jd hr.units1) (zm zL (pv 3) (zu (pv 0) rfl)) zc (zq _)))))  (zd (zi zD))  zk)  (zd (zi (qr (za zc (za zD (za (pv 4) zb)))))))), ?_⟩
 walk_at "go"
 refine ra hy T.C_Drain T.N_Drain_pace Zc ?_
 walk_at "go"
 refine ite2 (fun h1 => ?_) (fun h1 => ?_)
 ·rw [if_pos (.inl h1)] at k
  walk_at "go"
  exact k _ _ (Same.refl _) rfl
 ·walk_at "go"
  refine zl hh at0 ?_
  walk_at "go"
  refine ite2 (fun h2 => ?_) (fun h2 => ?_)
  ·rw [if_pos (.inr (.inl h2))] at k
   walk_at "go"
   exact k _ _ (Same.refl _) rfl
  ·walk_at "go"
   refine ra hy T.C_Drain T.N_Drain_pace Zc ?_
   walk_at "go"
   refine And.intro (by omega) ?_
   refine ite2 (fun h3 => ?_) (fun h3 => ?_)
   ·rw [if_pos (.inr (.inr h3))] at k
    walk_at "go"
    exact k _ _ (Same.refl _) rfl
   ·rw [if_neg (fun z => z.elim h1 fun z => z.elim h2 h3)] at k
    walk_at "go"
    intro q hq
    exact k _ _ (zf hq) ⟨q, rfl, upd_same⟩
theorem m_Drain_choice (T : Txt K mg a) : MCal P w K mg base a.Drain "choice" 1 ["self", "heads", "free", "turn", "side"] [] (jW K a.Drain) := T.h_Drain_choice.cal T.C_Drain (ok_Drain_choice T)
def Q5 (n : Nat) (p : Option Nat) : Option (List V) := p.map fun (p : Nat) => [.int p, .int 0, .int ((p + 1) % n : Nat)]
def there (hs : List V) : List Bool := hs.map fun h => !decide (h = .non)
def jH (K : PySem.W.Frag) (C : Addr) : Sp := fun vs H Q _ => ∃ (y dx l1 l2 hl fl : Addr) (turn : V) (side : Nat) (hs ins : List V) (b : Bool) (bs : List V), vs = [.ref y, .ref hl, .ref fl, turn, .int side] ∧ H y = some (.ins C dx (kf l1 l2)) ∧ H l1 = some (.lst ins) ∧
 SqL K H hl hs ∧ SqL K H fl (.bl b :: bs) ∧ hs.length = ins.length ∧ hs.length ≤ 900 ∧ ∀ v H', Same H H' → Told H' v (if b = true then Q5 hs.length (xO (there hs) side) else none) → Q v H'
theorem ok_Joiner_choice (T : Txt K mg a) (F : Fun K "choice" "Joiner.choice" s_Joiner_choice f fd) : FnOk P w K mg base (CXr P w) 2 f fd ["self", "heads", "free", "turn", "side"] (jH K a.Joiner) := by
 refine F.okx sc_Joiner_choice ?_ ?_
 ·walk_at "i"
 walk_at "k"
 refine oE8 h fun y dx l1 l2 hl fl turn side z1_ => oE4 z1_ fun hs ins b bs z2_ => oA8 z2_ fun z3_ hy h1 hh hf hlen hb k => ?_
 clear h
 subst z3_
 walk_at "T"
 refine ⟨_, (zj (zA (zK (zz (zh (pv 2) zc) (fun _ => rfl)))  (zd (zi zD))  zk)  (zj (zF 5 sc_Joiner_choice.nd (zx ⟨rfl, rfl, rfl⟩ hr (za (jK (vars := ["head"]) (caps := []) (N := ["head"]) (ON := ["self", "heads", "free", "turn", "side", "place"]) (osc := ze s_Joiner_choice) rfl rfl (by first | decide +kernel | kernel_rfl) rfl rfl (qj (pv 1)) (fun s H fp pins => (pg_n 0 (show (["head"] : List Str).Nodup from by decide +kernel))) (fun s H fp pins => qm) (fun s H fp pins => (wl jV (pv 0) zD (zq _)))) (za (pv 4) zb))))  (zj (zA (zo qF (pv 5) zD (zq _))  (zd (zi zD))  zk)  (zd (zi (qr (za (pv 5) (za zc (za (zm zL (zm z6 (pv 5) zc) (zG zJ zI (za (zu (pv 0) rfl) zb))) zb))))))))), ?_⟩
 walk_at "go"
 refine zl hf at0 ?_
 walk_at "go"
 cases b with
 | false =>
  rw [if_neg (by decide)] at k
  walk_at "go"
  exact k _ _ (Same.refl _) rfl
 | true =>
  rw [if_pos rfl] at k
  walk_at "go"
  refine iE3 _ _ _ ⟨c_first_place T, ?_⟩
  walk_at "lc"
  walk_at "go"
  refine ⟨hl, rfl, .inl ⟨⟨_, hh⟩, fun _ _ _ _ acc hacc => ?_⟩⟩
  refine qV (K := K) (a := hl) (xs := hs) (fun i σ H' => ∃ (v : Option V), σ = [v] ∧ Same H H' ∧ H' acc = some (.lst ((there (hs.take i)).map V.bl))) ⟨_, iA3 rfl (zf hacc) upd_same⟩ (fun i σ H' _ ⟨_, _, s, _⟩ => s.seq hh) ?_ ?_
  ·intro i x σ H' hi zz_
   refine oE1 zz_ fun v z1_ => oA3 z1_ fun z2_ s ha => ?_
   clear zz_
   subst z2_
   walk_at "go"
   refine ⟨_, iA3 ha ?_ ⟨_, iA3 rfl ?_ ?_⟩⟩
   ·simp only [there, List.length_map, List.length_take]
    exact zp (by omega)
   ·intro b o hb
    rw [upd_ne (ne_of_none hb hacc)]
    exact s b o hb
   ·rw [upd_same, List.take_succ, hi]
    simp [there]
  ·intro σ H' zz_
   refine oE1 zz_ fun v z1_ => oA3 z1_ fun z2_ s ha => ?_
   clear zz_
   subst z2_
   rw [List.take_length] at ha
   refine iE3 acc (there hs) side (iA4 rfl (SqL.of ha) (by simp [there]; omega) ?_)
   have hlt : (there hs).length = hs.length := by simp [there]
   cases hp : xO (there hs) side with
   | none =>
    rw [hp] at k
    simp only [optV]
    walk_at "go"
    exact k _ _ s rfl
   | some p =>
    rw [hp] at k
    simp only [optV]
    have hlt' := vz hp
    walk_at "go"
    refine ra (s _ _ hy) T.C_Joiner T.N_Joiner_ins kf_ins ⟨_, .inl ⟨_, SqL.of (s _ _ h1), rfl⟩, ?_⟩
    walk_at "go"
    rw [← hlen]
    refine And.intro (by omega) ?_
    walk_at "go"
    intro q hq
    have e : ((p : Int) + 1) % (hs.length : Int) = (((p + 1) % hs.length : Nat) : Int) := by push_cast; rfl
    rw [e]
    exact k _ _ (s.trans (zf hq)) ⟨q, rfl, upd_same⟩
theorem m_Joiner_choice (T : Txt K mg a) : MCal P w K mg base a.Joiner "choice" 2 ["self", "heads", "free", "turn", "side"] [] (jH K a.Joiner) := T.h_Joiner_choice.cal T.C_Joiner (ok_Joiner_choice T)
theorem MCal.imp {C : Addr} {m : Str} {k : Nat} {ps : List Str} {dvs : List V} {sp sp' : Sp} (c : MCal P w K mg base C m k ps dvs sp) (h : ∀ vs H Q E, sp' vs H Q E → sp vs H Q E) : MCal P w K mg base C m k ps dvs sp' :=
 let ⟨f, fd, ds, x, y⟩ := c.ex; ⟨c.cl, f, fd, ds, x.imp h, y⟩
theorem fs_s {fs : List (Str × V)} {k : Str} {ks : List Str} (n : fs.map (·.1) = k :: ks) : ∃ v gs, fs = (k, v) :: gs ∧ gs.map (·.1) = ks := by
 cases fs with
 | nil => cases n
 | cons x gs =>
  obtain ⟨k', v⟩ := x
  injection n with n1 n2
  exact iE2 v gs ⟨by rw [← n1], n2⟩
theorem fs_0 {fs : List (Str × V)} (n : fs.map (·.1) = []) : fs = [] := List.map_eq_nil_iff.mp n
theorem fs2 {H : Hp} {p : Addr → Prop} {fs : List (Str × V)} {k1 k2 : Str} {d1 d2 : D} (n : fs.map (·.1) = [k1, k2]) (g : ∀ (i : Nat) f g, fs[i]? = some f → [(k1, d1), (k2, d2)][i]? = some g → Rep H p f.2 g.2) : ∃ v1 v2, fs = [(k1, v1), (k2, v2)] ∧ Rep H p v1 d1 ∧ Rep H p v2 d2 := by
 obtain ⟨v1, f1, rfl, n1⟩ := fs_s n
 obtain ⟨v2, f2, rfl, n2⟩ := fs_s n1
 obtain rfl := fs_0 n2
 exact ⟨v1, v2, rfl, g 0 _ _ rfl rfl, g 1 _ _ rfl rfl⟩
section
variable {H : Hp} {p : Addr → Prop} {y : Addr} {ins outs kinds : List Int} {pace : Int}
end
theorem fs3 {H : Hp} {p : Addr → Prop} {fs : List (Str × V)} {k1 k2 k3 : Str} {d1 d2 d3 : D} (n : fs.map (·.1) = [k1, k2, k3]) (g : ∀ (i : Nat) f g, fs[i]? = some f → [(k1, d1), (k2, d2), (k3, d3)][i]? = some g → Rep H p f.2 g.2) : ∃ v1 v2 v3, fs = [(k1, v1), (k2, v2), (k3, v3)] ∧ Rep H p v1 d1 ∧ Rep H p v2 d2 ∧ Rep H p v3 d3 := by
 obtain ⟨v1, f1, rfl, n1⟩ := fs_s n
 obtain ⟨v2, f2, rfl, n2⟩ := fs_s n1
 obtain ⟨v3, f3, rfl, n3⟩ := fs_s n2
 obtain rfl := fs_0 n3
 exact ⟨v1, v2, v3, rfl, g 0 _ _ rfl rfl, g 1 _ _ rfl rfl, g 2 _ _ rfl rfl⟩
theorem fs4 {H : Hp} {p : Addr → Prop} {fs : List (Str × V)} {k1 k2 k3 k4 : Str} {d1 d2 d3 d4 : D} (n : fs.map (·.1) = [k1, k2, k3, k4]) (g : ∀ (i : Nat) f g, fs[i]? = some f → [(k1, d1), (k2, d2), (k3, d3), (k4, d4)][i]? = some g → Rep H p f.2 g.2) : ∃ v1 v2 v3 v4, fs = [(k1, v1), (k2, v2), (k3, v3), (k4, v4)] ∧ Rep H p v1 d1 ∧ Rep H p v2 d2 ∧ Rep H p v3 d3 ∧ Rep H p v4 d4 := by
 obtain ⟨v1, f1, rfl, n1⟩ := fs_s n
 obtain ⟨v2, f2, rfl, n2⟩ := fs_s n1
 obtain ⟨v3, f3, rfl, n3⟩ := fs_s n2
 obtain ⟨v4, f4, rfl, n4⟩ := fs_s n3
 obtain rfl := fs_0 n4
 exact ⟨v1, v2, v3, v4, rfl, g 0 _ _ rfl rfl, g 1 _ _ rfl rfl, g 2 _ _ rfl rfl, g 3 _ _ rfl rfl⟩
section
variable {H : Hp} {p : Addr → Prop} {y : Addr} {ins outs kinds : List Int} {pace : Int}
theorem KnP.source (h : KnP a H p (.ref y) ⟨.source, ins, outs, pace, kinds⟩) : ∃ dx l1 l2 l3, H y = some (.ins a.Source dx (sf l1 l2 pace l3)) := by
 cases h with | ob _ hy n g =>
  obtain ⟨v1, v2, v3, v4, rfl, r1, r2, r3, r4⟩ := fs4 n g
  obtain ⟨l1, rfl, _, _⟩ := r1.ints'
  obtain ⟨l2, rfl, _, _⟩ := r2.ints'
  cases r3
  obtain ⟨l4, rfl, _, _⟩ := r4.ints'
  exact ⟨_, l1, l2, l4, by rw [QY]; exact hy⟩
theorem KnP.drain (h : KnP a H p (.ref y) ⟨.drain, ins, outs, pace, kinds⟩) : ∃ dx l1 l2, H y = some (.ins a.Drain dx (df l1 l2 pace)) := by
 cases h with | ob _ hy n g =>
  obtain ⟨v1, v2, v3, rfl, r1, r2, r3⟩ := fs3 n g
  obtain ⟨l1, rfl, _, _⟩ := r1.ints'
  obtain ⟨l2, rfl, _, _⟩ := r2.ints'
  cases r3
  exact ⟨_, l1, l2, by rw [QQ]; exact hy⟩
theorem KnP.joiner (h : KnP a H p (.ref y) ⟨.joiner, ins, outs, pace, kinds⟩) : ∃ dx l1 l2, H y = some (.ins a.Joiner dx (kf l1 l2)) ∧ H l1 = some (.lst (iv ins)) := by
 cases h with | ob _ hy n g =>
  obtain ⟨v1, v2, rfl, r1, r2⟩ := fs2 n g
  obtain ⟨l1, rfl, _, h1⟩ := r1.ints'
  obtain ⟨l2, rfl, _, _⟩ := r2.ints'
  exact ⟨_, l1, l2, by rw [QK]; exact hy, h1⟩
end
def hdV : Option Int → V
 | none => .non
 | some k => .int k
def qv (r : Row) (hs : List (Option Int)) (bs : List Bool) (t : Int) (side : Nat) : Option (Option Nat × Option Nat × Nat) := match r.wd with
 | .source => if bs.getD 0 false = true ∧ t % r.pace = 0 then some (none, some 0, side) else none
 | .drain => if r.pace = 0 ∨ hs.getD 0 none = none ∨ t % r.pace ≠ 0 then none else some (some 0, none, side)
 | .joiner => if bs.getD 0 false = true then (xO (hs.map Option.isSome) side).map fun p => (some p, some 0, (p + 1) % hs.length) else none
def chV (x : Option Nat × Option Nat × Nat) : List V := [optV x.1, optV x.2.1, .int (x.2.2 : Nat)]
def spChoice (K : PySem.W.Frag) (a : Ad) (wd : Wd) : Sp := fun vs H Q _ => ∃ (y hl fl : Addr) (r : Row) (p : Addr → Prop) (hs : List (Option Int)) (bs : List Bool) (t : Int) (side : Nat), vs = [.ref y, .ref hl, .ref fl, .int t, .int side] ∧ KnP a H p (.ref y) r ∧ r.wd = wd ∧ r.ok ∧
 H hl = some (.lst (hs.map hdV)) ∧ H fl = some (.lst (bs.map V.bl)) ∧ hs.length = r.ins.length ∧ bs.length = r.outs.length ∧ ∀ v H', Same H H' → Told H' v ((qv r hs bs t side).map chV) → Q v H'
theorem hdV_non {x : Option Int} : (hdV x = .non) = (x = none) := by
 cases x <;> simp [hdV]
theorem there_hd (hs : List (Option Int)) : there (hs.map hdV) = hs.map Option.isSome := by
 simp only [there, List.map_map]
 congr 1
 funext x
 cases x <;> simp [hdV]
theorem m_choice (T : Txt K mg a) (wd : Wd) : MCal P w K mg base (clsA a wd) "choice" 3 ["self", "heads", "free", "turn", "side"] [] (spChoice K a wd) := by
 cases wd with
 | source =>
  refine MCal.imp (m_Source_choice T).mono fun vs H Q E h => ?_
  refine oE5 h fun y hl fl z1_ p z2_ => oE4 z2_ fun hs bs t side z3_ => oA9 z3_ fun z4_ hK hw ok hh hf l1 l2 k => ?_
  clear h
  obtain ⟨wd, ins, outs, pace, kinds⟩ := z1_
  subst z4_
  simp only at hw; subst hw
  refine oE4 hK.source fun dx m1 m2 m3 hy => ?_
  refine oA4 ok fun _ z1_ p1 _ => ?_
  clear ok
  obtain ⟨o, eo⟩ := z1_
  simp only at eo p1 l2
  subst eo
  match bs, l2 with
  | [b], _ =>
   refine iE8 y dx m1 m2 m3 fl pace t (iE4 _ _ b ([]) (iA5 rfl hy p1 (SqL.of hf) (fun v H' s ht => k v H' s ?_)))
   unfold vQ at ht
   simp only [qv]
   by_cases hc : b = true ∧ t % pace = 0
   ·rw [if_pos hc] at ht; rw [if_pos (by simpa using hc)]; exact ht
   ·rw [if_neg hc] at ht; rw [if_neg (by simpa using hc)]; exact ht
 | drain =>
  refine MCal.imp (m_Drain_choice T).mono fun vs H Q E h => ?_
  refine oE5 h fun y hl fl z1_ p z2_ => oE4 z2_ fun hs bs t side z3_ => oA9 z3_ fun z4_ hK hw ok hh hf l1 l2 k => ?_
  clear h
  obtain ⟨wd, ins, outs, pace, kinds⟩ := z1_
  subst z4_
  simp only at hw; subst hw
  refine oE3 hK.drain fun dx m1 m2 hy => ?_
  refine oA4 ok fun z1_ _ p1 p4 => ?_
  clear ok
  obtain ⟨o, eo⟩ := z1_
  simp only at eo p1 p4 l1
  subst eo
  match hs, l1 with
  | [hd], _ =>
   refine iE8 y dx m1 m2 hl pace t _ (iE3 _ (hdV hd) ([]) (iA6 rfl hy p1 p4 (SqL.of hh) (fun v H' s ht => k v H' s ?_)))
   unfold ZT at ht
   simp only [hdV_non] at ht
   simp only [qv]
   by_cases hc : pace = 0 ∨ hd = none ∨ t % pace ≠ 0
   ·rw [if_pos hc] at ht; rw [if_pos (by simpa using hc)]; exact ht
   ·rw [if_neg hc] at ht; rw [if_neg (by simpa using hc)]; exact ht
 | joiner =>
  refine MCal.imp (m_Joiner_choice T).mono fun vs H Q E h => ?_
  refine oE5 h fun y hl fl z1_ p z2_ => oE4 z2_ fun hs bs t side z3_ => oA9 z3_ fun z4_ hK hw ok hh hf l1 l2 k => ?_
  clear h
  obtain ⟨wd, ins, outs, pace, kinds⟩ := z1_
  subst z4_
  simp only at hw; subst hw
  obtain ⟨⟨o, eo⟩, q1, q2⟩ := ok
  simp only at eo l1 l2 q1 q2
  subst eo
  refine oE3 hK.joiner fun dx m1 m2 z1_ => oA2 z1_ fun hy h1 => ?_
  match bs, l2 with
  | [b], _ =>
   refine iE8 y dx m1 m2 hl fl _ side (iE4 (hs.map hdV) (iv ins) b ([]) (iA8 rfl hy h1 (SqL.of hh) (SqL.of hf) (by rw [List.length_map, qz]; exact l1) (by rw [List.length_map]; omega) (fun v H' s ht => k v H' s ?_)))
   rw [there_hd, List.length_map] at ht
   simp only [qv]
   by_cases hc : b = true
   ·rw [if_pos hc] at ht; rw [if_pos (by simpa using hc)]
    unfold Q5 at ht
    rw [Option.map_map]
    exact ht
   ·rw [if_neg hc] at ht; rw [if_neg (by simpa using hc)]; exact ht
abbrev Ware := Option (Int × Int)
def zC : Ware → D
 | none => .non
 | some (s, n) => .tup [.int s, .int n]
theorem hard_ware (x : Ware) : Hard (zC x) := by
 cases x with
 | none => exact .non
 | some x =>
  refine .tup fun i d h => ?_
  have : d ∈ [D.int x.1, D.int x.2] := List.mem_of_getElem? h
  simp at this
  rcases this with rfl | rfl <;> exact .int
structure PSt where
 turn : Int
 cells : List (List Ware)
 sides : List Int
 gone : List (List Int)
abbrev zt (cs : List (List Ware)) : List (List D) := cs.map fun c => c.map zC
abbrev zP (gs : List (List Int)) : List (List D) := gs.map fun g => g.map D.int
def stF (st : PSt) : List (Str × D) := [("turn", .int st.turn), ("cells", .lst ((zt st.cells).map D.lst)), ("sides", .ints st.sides), ("gone", .lst ((zP st.gone).map D.lst))]
def qH (a : Ad) (st : PSt) : D := .ob a.State (stF st)
theorem wu (st : PSt) : (stF st).lookup ("turn" : Str) = some (.int st.turn) := qt
theorem xD (st : PSt) : (stF st).lookup ("cells" : Str) = some (.lst ((zt st.cells).map D.lst)) := (zH (by decide +kernel)).trans qt
theorem xC (st : PSt) : (stF st).lookup ("sides" : Str) = some (.ints st.sides) := (zH (by decide +kernel)).trans ((zH (by decide +kernel)).trans qt)
theorem wv (st : PSt) : (stF st).lookup ("gone" : Str) = some (.lst ((zP st.gone).map D.lst)) := (zH (by decide +kernel)).trans ((zH (by decide +kernel)).trans ((zH (by decide +kernel)).trans qt))
def sff (t : Int) (lc ls lg : Addr) : List (Str × V) := [(("turn" : Str), V.int t), (("cells" : Str), V.ref lc), (("sides" : Str), V.ref ls), (("gone" : Str), V.ref lg)]
theorem sff1 {t : Int} : putF "turn" (.int t) [] = ([(("turn" : Str), V.int t)] : List (Str × V)) := rfl
theorem sff2 {t : Int} {lc : Addr} : putF "cells" (.ref lc) [(("turn" : Str), V.int t)] = ([(("turn" : Str), V.int t), (("cells" : Str), V.ref lc)] : List (Str × V)) := by
 simp only [putF]; rw [if_neg (by decide +kernel)]
theorem sff3 {t : Int} {lc ls : Addr} : putF "sides" (.ref ls) [(("turn" : Str), V.int t), (("cells" : Str), V.ref lc)] = ([(("turn" : Str), V.int t), (("cells" : Str), V.ref lc), (("sides" : Str), V.ref ls)] : List (Str × V)) := by
 simp only [putF]; rw [if_neg (by decide +kernel), if_neg (by decide +kernel)]
theorem sff4 {t : Int} {lc ls lg : Addr} : putF "gone" (.ref lg) [(("turn" : Str), V.int t), (("cells" : Str), V.ref lc), (("sides" : Str), V.ref ls)] = sff t lc ls lg := by
 unfold sff; simp only [putF]; rw [if_neg (by decide +kernel), if_neg (by decide +kernel), if_neg (by decide +kernel)]
structure SN where
 dx : Addr
 lc : Addr
 ls : Addr
 lg : Addr
 acs : List Addr
 ags : List Addr
def SN.all (n : SN) : List Addr := n.ls :: n.lc :: n.lg :: (n.acs ++ n.ags)
structure StO (a : Ad) (H : Hp) (y : Addr) (n : SN) (st : PSt) : Prop where
 hy : H y = some (.ins a.State n.dx (sff st.turn n.lc n.ls n.lg))
 hc : NL H (TupP H) n.lc n.acs (zt st.cells)
 hs : H n.ls = some (.lst (iv st.sides))
 hg : NL H (TupP H) n.lg n.ags (zP st.gone)
 nd : n.all.Nodup
theorem StO.rep {H : Hp} {y : Addr} {n : SN} {st : PSt} (h : StO a H y n st) : Rep H (Off []) (.ref y) (qH a st) :=
 j3 (fun z => nomatch z) h.hy rfl (.cons .int (.cons h.hc.rep (.cons (zY (fun z => nomatch z) h.hs) (.cons h.hg.rep .nil))))
theorem StO.same {H H' : Hp} {y : Addr} {n : SN} {st : PSt} (h : StO a H y n st) (s : Same H H') : StO a H' y n st :=
 ⟨s _ _ h.hy, h.hc.keep (fun b o _ hb => s b o hb) (fun b ⟨xs, hx⟩ _ => ⟨xs, s _ _ hx⟩), s _ _ h.hs, h.hg.keep (fun b o _ hb => s b o hb) (fun b ⟨xs, hx⟩ _ => ⟨xs, s _ _ hx⟩), h.nd⟩
def jF (a : Ad) : Sp := fun vs H Q _ => ∃ (y dx : Addr) (vc vs' vg : V) (st : PSt) (p : Addr → Prop), vs = [.ref y, .int st.turn, vc, vs', vg] ∧ H y = some (.ins a.State dx []) ∧ (∀ b, p b → b ≠ y) ∧
 Rep H p vc (.lst ((zt st.cells).map D.lst)) ∧ Rep H p vs' (.ints st.sides) ∧ Rep H p vg (.lst ((zP st.gone).map D.lst)) ∧ st.cells.length ≤ 100 ∧ st.gone.length ≤ 100 ∧
 ∀ H' n, n.dx = dx → Own H H' y → StO a H' y n st → (∀ b ∈ n.all, H b = none) → Q .non H'
theorem xj {H : Hp} {p : Addr → Prop} {vs : List V} {ds : List D} (h : Reps H p vs ds) (hd : ∀ d ∈ ds, Hard d) : Reps H (TupP H) vs ds :=
 ⟨h.len, fun i v d e1 e2 => (h.g i v d e1 e2).hard (hd d (List.mem_of_getElem? e2)) fun b xs _ hb => ⟨xs, hb⟩⟩
theorem wS (c : List Ware) : ∀ d ∈ c.map zC, Hard d := fun d hd => by
 obtain ⟨x, _, rfl⟩ := List.mem_map.mp hd
 exact hard_ware x
theorem vx (c : List Int) : ∀ d ∈ c.map D.int, Hard d := fun d hd => by
 obtain ⟨x, _, rfl⟩ := List.mem_map.mp hd
 exact .int
theorem ok_State_init (T : Txt K mg a) (F : Fun K "__init__" "State.__init__" s_State_init f fd) : FnOk P w K mg base (CXr P w) 1 f fd ["self", "turn", "cells", "sides", "gone"] (jF a) := by
 refine F.okx sc_State_init ?_ ?_
 ·walk_at "i"
 walk_at "j"
 refine oE7 h fun y dx vc vs' vg st p z1_ => oA9 z1_ fun z2_ hy hp rc rs rg lc lg k => ?_
 clear h
 subst z2_
 refine oE2 rc.lst' fun c0 ucs z1_ => oA4 z1_ fun z2_ pc0 hc0 rcs => ?_
 subst z2_
 refine oE1 rs.ints' fun s0 z1_ => oA3 z1_ fun z2_ ps0 hs0 => ?_
 subst z2_
 have hs0 : H s0 = some (.lst (iv st.sides)) := hs0
 refine oE2 rg.lst' fun g0 ugs z1_ => oA4 z1_ fun z2_ pg0 hg0 rgs => ?_
 subst z2_
 have lcs : ucs.length = st.cells.length := by rw [rcs.len, List.length_map, List.length_map]
 have lgs : ugs.length = st.gone.length := by rw [rgs.len, List.length_map, List.length_map]
 walk_at "T"
 refine ⟨_, (zg (qI (pv 0) (pv 1) rfl)  (zg (qI (pv 0) (jK (vars := ["belt_cells"]) (caps := []) (N := ["belt_cells"]) (ON := ["self", "turn", "cells", "sides", "gone"]) (osc := ze s_State_init) rfl rfl (by first | decide +kernel | kernel_rfl) rfl rfl (qj (pv 2)) (fun s H fp pins => (pg_n 0 (show (["belt_cells"] : List Str).Nodup from by decide +kernel))) (fun s H fp pins => qm) (fun s H fp pins => (jL qM qd (za (pv 0) zb)))) rfl)  (zg (qI (pv 0) (jL qM qd (za (pv 3) zb)) rfl)  (zd (qI (pv 0) (jK (vars := ["counts"]) (caps := []) (N := ["counts"]) (ON := ["self", "turn", "cells", "sides", "gone"]) (osc := ze s_State_init) rfl rfl (by first | decide +kernel | kernel_rfl) rfl rfl (qj (pv 4)) (fun s H fp pins => (pg_n 0 (show (["counts"] : List Str).Nodup from by decide +kernel))) (fun s H fp pins => qm) (fun s H fp pins => (jL qM qd (za (pv 0) zb)))) rfl))))), ?_⟩
 walk_at "go"
 refine iE4 y a.State dx ([]) (iA6 rfl hy T.C_State T.N_State_turn (by decide) ?_)
 rw [sff1]
 have o1 : Own H (upd H y (.ins a.State dx [(("turn" : Str), V.int st.turn)])) y := qE
 have y1 : upd H y (.ins a.State dx [(("turn" : Str), V.int st.turn)]) y = some (.ins a.State dx [(("turn" : Str), V.int st.turn)]) := upd_same
 generalize upd H y (.ins a.State dx [(("turn" : Str), V.int st.turn)]) = H1 at o1 y1 ⊢
 have kp : ∀ b, TupP H b → H b ≠ none → b ≠ y := fun b ⟨xs, hx⟩ _ z => by rw [z, hy] at hx; cases hx
 walk_at "lc"
 walk_at "go"
 refine ⟨c0, rfl, .inl ⟨⟨_, SqL.of (o1 _ _ (hp _ pc0) hc0)⟩, fun _ _ _ _ acc hacc => ?_⟩⟩
 let M1_ : Nat → St → Hp → Prop := fun i σ H' => ∃ (v0 : Option V) (as : List Addr), σ = [v0] ∧ Same H1 H' ∧ NL H' (TupP H) acc as (zt (st.cells.take i)) ∧ ∀ b ∈ as, H1 b = none
 refine qV (K := K) (a := c0) (xs := ucs) M1_ (iE2 _ ([]) (iA4 rfl (zf hacc) (by rw [List.take_zero]; exact xK upd_same) (by simp))) (fun i σ H' _ h => by obtain ⟨_, _, _, s, _⟩ := h; exact SqL.of (s _ _ (o1 _ _ (hp _ pc0) hc0))) ?_ ?_
 ·intro i x σ H2 hi zz_
  refine oE2 zz_ fun v0 as z1_ => oA4 z1_ fun z2_ s2 nl fr => ?_
  clear zz_
  subst z2_
  obtain ⟨d, hd, rx⟩ := rcs.at hi
  rw [List.getElem?_map, List.getElem?_map] at hd
  obtain ⟨c, hc⟩ : ∃ c, st.cells[i]? = some c := by
   cases e : st.cells[i]? with
   | none => rw [e] at hd; cases hd
   | some c => exact ⟨c, rfl⟩
  rw [hc] at hd
  cases hd
  refine oE2 (Rep.lst' rx) fun li vi z1_ => oA4 z1_ fun z2_ pli hli ri => ?_
  subst z2_
  have hil := (List.getElem?_eq_some_iff.mp hc).1
  have hli2 := s2 _ _ (o1 _ _ (hp _ pli) hli)
  walk_at "go"
  refine iE2 li _ (iA3 rfl (.inl (SqL.of hli2)) (fun b hb => ?_))
  have nb : b ∉ as := fun z => by
   obtain ⟨j, hj⟩ := List.getElem?_of_mem z
   obtain ⟨vs, h1, _⟩ := nl.g j b _ hj (List.getElem?_eq_getElem (by rw [← nl.len]; exact (List.getElem?_eq_some_iff.mp hj).1))
   rw [h1] at hb; cases hb
  have nG : b ≠ acc := fun z => by rw [z, nl.out] at hb; cases hb
  have s3 : Same H2 (upd H2 b (.lst vi)) := zf hb
  have ac3 := upd_keep (o := .lst vi) nl.out hb
  refine ⟨_, iA3 ac3 (zp (by rw [List.length_map, nl.len, List.length_map, List.length_take]; omega)) ?_⟩
  have ri3 : Reps (upd H2 b (.lst vi)) (TupP H) vi (c.map zC) := (xj ri (wS c)).keep fun z o pz hz => ⟨pz, s3 _ _ (s2 _ _ (o1 _ _ (kp z pz (by rw [hz]; intro q; cases q)) hz))⟩
  have nl3 := (nl.same s3).push (b := b) (vs := vi) (ys := c.map zC) upd_same nb nG (fun ⟨xs, hx⟩ => by
   have := o1 _ _ (kp acc ⟨xs, hx⟩ (by rw [hx]; intro q; cases q)) hx
   rw [hacc] at this; cases this) ri3
  refine iE2 _ (as ++ [b]) (iA4 rfl ?_ ?_ ?_)
  ·exact fun z o hz => by rw [upd_ne (ne_of_none hz hacc)]; exact s3 _ _ (s2 _ _ hz)
  ·rw [List.take_add_one, hc]
   rw [show zt (st.cells.take i ++ (some c).toList) = zt (st.cells.take i) ++ [c.map zC] by simp [zt]]
   exact nl3
  ·intro z hz
   rcases List.mem_append.mp hz with hz | hz
   ·exact fr z hz
   ·rw [List.mem_singleton.mp hz]; exact zy s2 hb
 intro σ H2 zz_
 refine oE2 zz_ fun v0 acs z1_ => oA4 z1_ fun z2_ s2 nlc frc => ?_
 clear zz_
 subst z2_
 rw [lcs, List.take_length] at nlc
 have y2 := s2 _ _ y1
 walk_at "go"
 refine iE4 y a.State dx _ (iA6 rfl y2 T.C_State T.N_State_cells (by simp) ?_)
 rw [sff2]
 have nay : acc ≠ y := fun z => by rw [z, y1] at hacc; cases hacc
 have hx0 : ∀ {z : Addr}, H1 z = none → z ≠ y ∧ H z = none := fun {z} hz => by
  have n1 : z ≠ y := fun q => by rw [q, y1] at hz; cases hz
  refine ⟨n1, ?_⟩
  cases e : H z with
  | none => rfl
  | some o => rw [o1 z o n1 e] at hz; cases hz
 have o3 : Own H (upd H2 y (.ins a.State dx [(("turn" : Str), V.int st.turn), (("cells" : Str), V.ref acc)])) y := (o1.trans (Same.own s2)).trans qE
 have y3 : upd H2 y (.ins a.State dx [(("turn" : Str), V.int st.turn), (("cells" : Str), V.ref acc)]) y = some (.ins a.State dx [(("turn" : Str), V.int st.turn), (("cells" : Str), V.ref acc)]) := upd_same
 have nl3 : NL (upd H2 y (.ins a.State dx [(("turn" : Str), V.int st.turn), (("cells" : Str), V.ref acc)])) (TupP H) acc acs (zt st.cells) := nlc.keep (fun z o hz ho => by
  refine (upd_ne (fun q => ?_)).trans ho
  rcases hz with h | h | h
  ·exact nay (h.symm.trans q)
  ·exact (hx0 (frc z h)).1 q
  ·obtain ⟨xs, hx⟩ := h
   rw [q, hy] at hx; cases hx) fun _ hp _ => hp
 generalize upd H2 y (.ins a.State dx [(("turn" : Str), V.int st.turn), (("cells" : Str), V.ref acc)]) = H3 at o3 y3 nl3 ⊢
 walk_at "go"
 refine iE2 s0 _ (iA3 rfl (.inl (SqL.of (o3 _ _ (hp _ ps0) hs0))) (fun ls hls => ?_))
 walk_at "go"
 have y4 := upd_keep (o := .lst (iv st.sides)) y3 hls
 refine iE4 y a.State dx _ (iA6 rfl y4 T.C_State T.N_State_sides (by simp) ?_)
 rw [sff3]
 have nlsy : ls ≠ y := fun z => by rw [z, y3] at hls; cases hls
 have hls0 : H ls = none := by
  cases e : H ls with
  | none => rfl
  | some o => rw [o3 ls o nlsy e] at hls; cases hls
 have o5 : Own H (upd (upd H3 ls (.lst (iv st.sides))) y (.ins a.State dx [(("turn" : Str), V.int st.turn), (("cells" : Str), V.ref acc), (("sides" : Str), V.ref ls)])) y := (o3.trans (Same.own (zf hls))).trans qE
 have y5 : upd (upd H3 ls (.lst (iv st.sides))) y (.ins a.State dx [(("turn" : Str), V.int st.turn), (("cells" : Str), V.ref acc), (("sides" : Str), V.ref ls)]) y = some (.ins a.State dx [(("turn" : Str), V.int st.turn), (("cells" : Str), V.ref acc), (("sides" : Str), V.ref ls)]) := upd_same
 have nl5 : NL (upd (upd H3 ls (.lst (iv st.sides))) y (.ins a.State dx [(("turn" : Str), V.int st.turn), (("cells" : Str), V.ref acc), (("sides" : Str), V.ref ls)])) (TupP H) acc acs (zt st.cells) := nl3.keep (fun z o hz ho => by
  refine (upd_ne (fun q => ?_)).trans (upd_keep ho hls)
  rcases hz with h | h | h
  ·exact nay (h.symm.trans q)
  ·exact (hx0 (frc z h)).1 q
  ·obtain ⟨xs, hx⟩ := h
   rw [q, hy] at hx; cases hx) fun _ hp _ => hp
 have ls5 : upd (upd H3 ls (.lst (iv st.sides))) y (.ins a.State dx [(("turn" : Str), V.int st.turn), (("cells" : Str), V.ref acc), (("sides" : Str), V.ref ls)]) ls = some (.lst (iv st.sides)) := by rw [upd_ne nlsy]; exact upd_same
 have nlsa : ls ∉ acc :: acs := fun z => by
  rcases List.mem_cons.mp z with h | h
  ·rw [h, nl3.out] at hls; cases hls
  ·obtain ⟨j, hj⟩ := List.getElem?_of_mem h
   obtain ⟨vs, h1, _⟩ := nl3.g j ls _ hj (List.getElem?_eq_getElem (by rw [← nl3.len]; exact (List.getElem?_eq_some_iff.mp hj).1))
   rw [h1] at hls; cases hls
 generalize upd (upd H3 ls (.lst (iv st.sides))) y (.ins a.State dx [(("turn" : Str), V.int st.turn), (("cells" : Str), V.ref acc), (("sides" : Str), V.ref ls)]) = H5 at o5 y5 nl5 ls5 ⊢
 clear nl3 o3 y3 hls y4
 walk_at "lc"
 walk_at "go"
 refine ⟨g0, rfl, .inl ⟨⟨_, SqL.of (o5 _ _ (hp _ pg0) hg0)⟩, fun _ _ _ _ ag hag => ?_⟩⟩
 let M2_ : Nat → St → Hp → Prop := fun i σ H' => ∃ (v0 : Option V) (as : List Addr), σ = [v0] ∧ Same H5 H' ∧ NL H' (TupP H) ag as (zP (st.gone.take i)) ∧ ∀ b ∈ as, H5 b = none
 refine qV (K := K) (a := g0) (xs := ugs) M2_ (iE2 _ ([]) (iA4 rfl (zf hag) (by rw [List.take_zero]; exact xK upd_same) (by simp))) (fun i σ H' _ h => by obtain ⟨_, _, _, s, _⟩ := h; exact SqL.of (s _ _ (o5 _ _ (hp _ pg0) hg0))) ?_ ?_
 ·intro i x σ H2 hi zz_
  refine oE2 zz_ fun v0 as z1_ => oA4 z1_ fun z2_ s2 nl fr => ?_
  clear zz_
  subst z2_
  obtain ⟨d, hd, rx⟩ := rgs.at hi
  rw [List.getElem?_map, List.getElem?_map] at hd
  obtain ⟨c, hc⟩ : ∃ c, st.gone[i]? = some c := by
   cases e : st.gone[i]? with
   | none => rw [e] at hd; cases hd
   | some c => exact ⟨c, rfl⟩
  rw [hc] at hd
  cases hd
  refine oE2 (Rep.lst' rx) fun li vi z1_ => oA4 z1_ fun z2_ pli hli ri => ?_
  subst z2_
  have hil := (List.getElem?_eq_some_iff.mp hc).1
  have hli2 := s2 _ _ (o5 _ _ (hp _ pli) hli)
  walk_at "go"
  refine iE2 li _ (iA3 rfl (.inl (SqL.of hli2)) (fun b hb => ?_))
  have nb : b ∉ as := fun z => by
   obtain ⟨j, hj⟩ := List.getElem?_of_mem z
   obtain ⟨vs, h1, _⟩ := nl.g j b _ hj (List.getElem?_eq_getElem (by rw [← nl.len]; exact (List.getElem?_eq_some_iff.mp hj).1))
   rw [h1] at hb; cases hb
  have nG : b ≠ ag := fun z => by rw [z, nl.out] at hb; cases hb
  have s3 : Same H2 (upd H2 b (.lst vi)) := zf hb
  have ac3 := upd_keep (o := .lst vi) nl.out hb
  refine ⟨_, iA3 ac3 (zp (by rw [List.length_map, nl.len, List.length_map, List.length_take]; omega)) ?_⟩
  have ri3 : Reps (upd H2 b (.lst vi)) (TupP H) vi (c.map D.int) := (xj ri (vx c)).keep fun z o pz hz => ⟨pz, s3 _ _ (s2 _ _ (o5 _ _ (kp z pz (by rw [hz]; intro q; cases q)) hz))⟩
  have nl3 := (nl.same s3).push (b := b) (vs := vi) (ys := c.map D.int) upd_same nb nG (fun ⟨xs, hx⟩ => by
   have := o5 _ _ (kp ag ⟨xs, hx⟩ (by rw [hx]; intro q; cases q)) hx
   rw [hag] at this; cases this) ri3
  refine iE2 _ (as ++ [b]) (iA4 rfl ?_ ?_ ?_)
  ·exact fun z o hz => by rw [upd_ne (ne_of_none hz hag)]; exact s3 _ _ (s2 _ _ hz)
  ·rw [List.take_add_one, hc]
   rw [show zP (st.gone.take i ++ (some c).toList) = zP (st.gone.take i) ++ [c.map D.int] by simp [zP]]
   exact nl3
  ·intro z hz
   rcases List.mem_append.mp hz with hz | hz
   ·exact fr z hz
   ·rw [List.mem_singleton.mp hz]; exact zy s2 hb
 intro σ H6 zz_
 refine oE2 zz_ fun v0' ags z1_ => oA4 z1_ fun z2_ s6 nlg frg => ?_
 clear zz_
 subst z2_
 rw [lgs, List.take_length] at nlg
 have y6 := s6 _ _ y5
 walk_at "go"
 refine iE4 y a.State dx _ (iA6 rfl y6 T.C_State T.N_State_gone (by simp) ?_)
 rw [sff4]
 have hx5 : ∀ {z : Addr}, H5 z = none → z ≠ y ∧ H z = none := fun {z} hz => by
  have n1 : z ≠ y := fun q => by rw [q, y5] at hz; cases hz
  refine ⟨n1, ?_⟩
  cases e : H z with
  | none => rfl
  | some o => rw [o5 z o n1 e] at hz; cases hz
 have ngy := (hx5 hag).1
 have o7 : Own H (upd H6 y (.ins a.State dx (sff st.turn acc ls ag))) y := (o5.trans (Same.own s6)).trans qE
 have tp : ∀ b, TupP H b → H b ≠ none → TupP (upd H6 y (.ins a.State dx (sff st.turn acc ls ag))) b := fun b ⟨xs, hx⟩ hn => ⟨xs, o7 _ _ (kp b ⟨xs, hx⟩ hn) hx⟩
 have inA : ∀ z, z ∈ acc :: acs → ∃ o, H5 z = some o := fun z hz => by
  rcases List.mem_cons.mp hz with h | h
  ·exact ⟨_, h ▸ nl5.out⟩
  ·obtain ⟨j, hj⟩ := List.getElem?_of_mem h
   obtain ⟨vs, h1, _⟩ := nl5.g j z _ hj (List.getElem?_eq_getElem (by rw [← nl5.len]; exact (List.getElem?_eq_some_iff.mp hj).1))
   exact ⟨_, h1⟩
 refine k _ ⟨dx, acc, ls, ag, acs, ags⟩ rfl o7 ⟨upd_same, ?_, ?_, ?_, ?_⟩ ?_
 ·exact (nl5.same s6).keep (fun z o hz ho => by
   refine (upd_ne (fun q => ?_)).trans ho
   rcases hz with h | h | h
   ·exact nay (h.symm.trans q)
   ·exact (hx0 (frc z h)).1 q
   ·obtain ⟨xs, hx⟩ := h
    rw [q, hy] at hx; cases hx) fun b hb hn => by
    obtain ⟨xs, hx⟩ := hb
    exact tp b ⟨xs, hx⟩ (by rw [hx]; intro q; cases q)
 ·show upd H6 y _ ls = _
  rw [upd_ne nlsy]; exact s6 _ _ ls5
 ·exact nlg.keep (fun z o hz ho => by
   refine (upd_ne (fun q => ?_)).trans ho
   rcases hz with h | h | h
   ·exact ngy (h.symm.trans q)
   ·exact (hx5 (frg z h)).1 q
   ·obtain ⟨xs, hx⟩ := h
    rw [q, hy] at hx; cases hx) fun b hb hn => by
    obtain ⟨xs, hx⟩ := hb
    exact tp b ⟨xs, hx⟩ (by rw [hx]; intro q; cases q)
 ·show (ls :: acc :: ag :: (acs ++ ags)).Nodup
  have ls5' : ∀ z, H5 z = none → z ≠ ls := fun z hz q => by rw [q, ls5] at hz; cases hz
  rw [List.nodup_cons, List.nodup_cons, List.nodup_cons]
  refine iA4 (fun z => ?_) (fun z => ?_) (fun z => ?_) ?_
  ·rcases List.mem_cons.mp z with h | z
   ·exact nlsa (h ▸ List.mem_cons_self ..)
   rcases List.mem_cons.mp z with h | z
   ·exact ls5' ag hag h.symm
   rcases List.mem_append.mp z with z | z
   ·exact nlsa (List.mem_cons_of_mem _ z)
   ·exact ls5' ls (frg ls z) rfl
  ·rcases List.mem_cons.mp z with h | z
   ·rw [← h, nl5.out] at hag; cases hag
   rcases List.mem_append.mp z with z | z
   ·exact nl5.nG z
   ·have := frg acc z; rw [nl5.out] at this; cases this
  ·rcases List.mem_append.mp z with z | z
   ·obtain ⟨o, ho⟩ := inA ag (List.mem_cons_of_mem _ z); rw [hag] at ho; cases ho
   ·exact nlg.nG z
  ·rw [List.nodup_append]
   refine ⟨nl5.nd, nlg.nd, fun u hu v hv q => ?_⟩
   subst q
   obtain ⟨o, ho⟩ := inA u (List.mem_cons_of_mem _ hu)
   rw [frg u hv] at ho; cases ho
 ·intro b hb
  rcases List.mem_cons.mp hb with rfl | hb
  ·exact hls0
  rcases List.mem_cons.mp hb with rfl | hb
  ·exact (hx0 hacc).2
  rcases List.mem_cons.mp hb with rfl | hb
  ·exact (hx5 hag).2
  rcases List.mem_append.mp hb with hb | hb
  ·exact (hx0 (frc b hb)).2
  ·exact (hx5 (frg b hb)).2
theorem Z8 (T : Txt K mg a) : KCal P w K mg base "State" a.State 1 ["self", "turn", "cells", "sides", "gone"] [] (jF a) := T.h_State_init.cal T.g_State (ok_State_init T)
theorem wp {H : Hp} {p : Addr → Prop} {v : V} {bs : List (Int × Int)} {rs : List Row} (h : Rep H p v (qG a bs rs)) : ∃ y dx fs l1 l2 bvs kvs, v = .ref y ∧ H y = some (.ins a.Work dx fs) ∧ fs.lookup ("belts" : Str) = some (.ref l1) ∧ fs.lookup ("knots" : Str) = some (.ref l2) ∧
  H l1 = some (.lst bvs) ∧ H l2 = some (.lst kvs) ∧ Bts a H p bvs bs ∧ Kns a H p kvs rs ∧ ∀ f : Str, f ≠ "belts" → f ≠ "knots" → fs.lookup f = none := by
 refine oE3 (Rep.ob' h) fun y dx fs z1_ => oA5 z1_ fun z2_ py hy g1 g2 => ?_
 subst z2_
 obtain ⟨u1, e1, r1⟩ := g1 _ _ Zg
 obtain ⟨u2, e2, r2⟩ := g1 _ _ wk_knots
 refine oE2 r1.lst' fun l1 bvs z1_ => oA4 z1_ fun z2_ _ h1 b1 => ?_
 subst z2_
 refine oE2 r2.lst' fun l2 kvs z1_ => oA4 z1_ fun z2_ _ h2 b2 => ?_
 subst z2_
 exact iE7 y dx fs l1 l2 bvs kvs (iA9 rfl hy e1 e2 h1 h2 (.of b1) (.of b2) (fun f n1 n2 => g2 f (wk_no n1 n2)))
def Za (ks : List Int) (n : Int) : Int := ks.getD (n % (ks.length : Int)).toNat 0
theorem kindAt_ix {ks : List Int} (n : Int) (h : 0 < ks.length) : atI (iv ks) (n % (ks.length : Int)) = some (.int (Za ks n)) := by
 have h0 := Int.emod_nonneg n (show (ks.length : Int) ≠ 0 by omega)
 have h1 := Int.emod_lt_of_pos n (show (0 : Int) < ks.length by omega)
 unfold Za
 generalize n % (ks.length : Int) = m at h0 h1 ⊢
 have hlt : m.toNat < ks.length := by omega
 have e : m = (m.toNat : Int) := by omega
 have := zr (wP (List.getElem?_eq_getElem hlt))
 rw [← e] at this
 rw [this]
 simp [hlt]
theorem jD {H : Hp} {p : Addr → Prop} {v : V} {s n : Int} (h : Rep H p v (.tup [.int s, .int n])) : ∃ t, v = .ref t ∧ H t = some (.tup [.int s, .int n]) := xn (b := (s, n)) h
theorem Z7 {H : Hp} {p : Addr → Prop} {kvs : List V} {rs : List Row} {j : Nat} {r : Row} (hK : Kns a H p kvs rs) (h : rs[j]? = some r) : ∃ kv, kvs[j]? = some kv ∧ KnP a H p kv r := by
 have hj := (List.getElem?_eq_some_iff.mp h).1
 have e : kvs[j]? = some (kvs[j]'(by rw [hK.len]; exact hj)) := List.getElem?_eq_getElem _
 exact ⟨_, e, hK.g j _ r e h⟩
def Zm (a : Ad) : Sp := fun vs H Q _ => ∃ (v vwr : V) (bs : List (Int × Int)) (rs : List Row) (p q : Addr → Prop) (s : Nat) (n : Int) (r : Row), vs = [v, vwr] ∧ Rep H p v (qG a bs rs) ∧ Rep H q vwr (.tup [.int s, .int n]) ∧ rs[s]? = some r ∧ r.wd = .source ∧ 0 < r.kinds.length ∧ Q (.int (Za r.kinds n)) H
theorem ok_kind_of (T : Txt K mg a) (F : Fun K "kind_of" "kind_of" s_kind_of f fd) : FnOk P w K mg base (CXr P w) 1 f fd ["work", "ware"] (Zm a) := by
 refine F.okx sc_kind_of ?_ ?_
 ·walk_at "i"
 walk_at "j"
 refine oE5 h fun v vwr bs rs p z1_ => oE4 z1_ fun q sc n r z2_ => oA7 z2_ fun z3_ hv hw hr' hs hk k => ?_
 clear h
 subst z3_
 refine oE7 (wp hv) fun y dx fs l1 l2 bvs kvs z1_ => oA9 z1_ fun z2_ hy e1 e2 h1 h2 hB hK no => ?_
 subst z2_
 obtain ⟨t, rfl, ht⟩ := jD hw
 obtain ⟨kv, hkv, hKn⟩ := Z7 hK hr'
 refine oE6 hKn.inv fun y1 dx1 m1 m2 m3 fs1 z1_ => oA9 z1_ fun z2_ _ _ _ _ g0 _ _ z3_ => oA5 z3_ fun _ _ _ g3 _ => ?_
 subst z2_
 obtain ⟨g3a, g3b⟩ := g3 hs
 walk_at "T"
 refine ⟨_, (zj (zF 2 sc_kind_of.nd (zu (zh (zu (pv 0) rfl) (zh (pv 1) zc)) rfl))  (zd (zi (zh (pv 2) (zm zL (zh (pv 1) zc) (zG zJ zI (za (pv 2) zb))))))), ?_⟩
 walk_at "go"
 refine ra hy T.C_Work T.N_Work_knots e2 (rd_ixT ht at0 (zl (SqL.of h2) (zr hkv) ?_))
 refine iE5 y1 (clsA a r.wd) dx1 fs1 _ (iA6 rfl g0 (CT T _) (by rw [hs]; exact T.N_Source_kinds) g3a ?_)
 walk_at "go"
 refine rd_ixT ht rfl ?_
 walk_at "go"
 refine ⟨_, .inl ⟨_, SqL.of g3b, rfl⟩, ?_⟩
 rw [qz]
 walk_at "go"
 exact ⟨by omega, zl (SqL.of g3b) (kindAt_ix n hk) k⟩
theorem c_kind_of (T : Txt K mg a) : Cal P w K mg base "kind_of" 1 ["work", "ware"] [] (Zm a) := T.h_kind_of.cal (ok_kind_of T)
def jc (r : Row) : List Int := List.replicate (max r.ins.length r.outs.length) 0
theorem rep1 {α : Type} (n : Nat) (x : α) : (List.replicate n [x]).flatten = List.replicate n x := by
 induction n with
 | zero => rfl
 | succ n ih => rw [List.replicate_succ, List.flatten_cons, ih]; rfl
theorem QN (n : Nat) (x : Int) : List.replicate n (V.int x) = iv (List.replicate n x) := by simp [iv]
theorem xi {r : Row} (h : r.ok) : r.ins.length ≤ 4 ∧ r.outs.length ≤ 4 := by
 obtain ⟨wd, ins, outs, pc, ks⟩ := r
 cases wd
 ·obtain ⟨h1, ⟨o, h2⟩, _⟩ := h; simp only at h1 h2; subst h1 h2; simp
 ·obtain ⟨⟨o, h1⟩, h2, _⟩ := h; simp only at h1 h2; subst h1 h2; simp
 ·obtain ⟨⟨o, h1⟩, _, h2⟩ := h; simp only at h1 h2; subst h1; exact ⟨h2, by simp⟩
def StNew (a : Ad) (H H' : Hp) (v : V) (st : PSt) : Prop := ∃ y n, v = .ref y ∧ StO a H' y n st ∧ H y = none ∧ H n.dx = none ∧ ∀ b ∈ n.all, H b = none
theorem Zv (T : Txt K mg a) {H : Hp} {st : PSt} {vc vs' vg : V} {Q : Addr → Hp → Prop} {E : XK} {p : Addr → Prop} (rc : Rep H p vc (.lst ((zt st.cells).map D.lst))) (rs : Rep H p vs' (.ints st.sides)) (rg : Rep H p vg (.lst ((zP st.gone).map D.lst))) (lc : st.cells.length ≤ 100) (lg : st.gone.length ≤ 100)
  (k : ∀ y H', Same H H' → StNew a H H' (.ref y) st → Q y H') : ∀ (x dx : Addr), H x = none → H dx = none → dx ≠ x → jF a [.ref x, .int st.turn, vc, vs', vg] (upd (upd H dx (.own x)) x (.ins a.State dx [])) (fun v H2 => v = .non ∧ Q x H2) E := by
 intro y dy hy hdy hne
 have kp : ∀ b o, p b → H b = some o → b ≠ y ∧ upd (upd H dy (.own y)) y (.ins a.State dy []) b = some o := fun b o _ hb => ⟨ne_of_none hb hy, qP hy hdy hb⟩
 refine iE7 y dy vc vs' vg st (fun b => b ≠ y) (iA9 rfl upd_same (fun _ h => h) (rc.keep kp) (rs.keep kp) (rg.keep kp) lc lg (fun H' n en o so fr => ⟨rfl, ?_⟩))
 exact k _ _ (Own.of_new hy hdy o) (iE2 y n (iA5 rfl so hy (by rw [en]; exact hdy) (fun b hb => qa (fr b hb))))
def jM (wd : Wd) (rs : List Row) (n : Nat) : List Int := ((List.range n).filter fun i => decide (rs[i]?.map Row.wd = some wd)).map fun (i : Nat) => (i : Int)
theorem xY {wd : Wd} {rs : List Row} {n : Nat} {r : Row} (h : rs[n]? = some r) : jM wd rs (n + 1) = jM wd rs n ++ if r.wd = wd then [(n : Int)] else [] := by
 unfold jM
 rw [List.range_succ, List.filter_append, List.map_append]
 congr 1
 by_cases e : r.wd = wd <;> simp [h, e]
def qy (wd : Wd) (rs : List Row) : List Int := jM wd rs rs.length
theorem numsTo_len (wd : Wd) (rs : List Row) (n : Nat) : (jM wd rs n).length ≤ n := by
 unfold jM
 rw [List.length_map]
 exact Nat.le_trans (List.length_filter_le _ _) (by simp)
theorem mem_nums {wd : Wd} {rs : List Row} {m : Int} (h : m ∈ qy wd rs) : ∃ (i : Nat) (r : Row), m = i ∧ rs[i]? = some r ∧ r.wd = wd := by
 unfold qy jM at h
 obtain ⟨i, hi, rfl⟩ := List.mem_map.mp h
 rw [List.mem_filter] at hi
 have h2 := of_decide_eq_true hi.2
 rw [Option.map_eq_some_iff] at h2
 obtain ⟨r, h3, h4⟩ := h2
 exact iE2 i r (iA3 rfl h3 h4)
theorem wa {r : Row} (h : r.ok) (hw : r.wd = .joiner) : jc r = List.replicate r.ins.length 0 := by
 obtain ⟨wd, ins, outs, pc, ks⟩ := r
 simp only at hw
 subst hw
 obtain ⟨⟨o, h1⟩, h2, _⟩ := h
 simp only at h1 h2
 subst h1
 unfold jc
 rw [Nat.max_eq_left (by simp; omega)]
theorem w6 {r : Row} (h : r.ok) (hw : r.wd ≠ .joiner) : jc r = List.replicate (max 1 r.outs.length) 0 := by
 obtain ⟨wd, ins, outs, pc, ks⟩ := r
 unfold jc
 cases wd
 ·obtain ⟨h1, ⟨o, h2⟩, _⟩ := h; simp only at h1 h2; subst h1 h2; rfl
 ·obtain ⟨⟨o, h1⟩, h2, _⟩ := h; simp only at h1 h2; subst h1 h2; rfl
 ·exact absurd rfl hw
theorem jr {r : Row} (h : r.ok) : 1 ≤ (jc r).length ∧ (jc r).length ≤ 4 := by
 have := xi h
 by_cases hw : r.wd = .joiner
 ·rw [wa h hw, List.length_replicate]
  obtain ⟨wd, ins, outs, pc, ks⟩ := r
  simp only at hw
  subst hw
  have := h.2.1
  simp only at this
  constructor
  ·show 1 ≤ ins.length; omega
  ·exact h.2.2
 ·rw [w6 h hw, List.length_replicate]
  omega
def jk (rs : List Row) (x : Ware) : Prop := ∀ s n, x = some (s, n) → ∃ (j : Nat) (r : Row), s = j ∧ rs[j]? = some r ∧ r.wd = .source ∧ 0 ≤ n
def qU (rs : List Row) (gss : List (List Int)) : Prop := gss.length = rs.length ∧ ∀ (i : Nat) r g, rs[i]? = some r → gss[i]? = some g → g.length = (jc r).length ∧ ∀ n ∈ g, 0 ≤ n
def qi (bs : List (Int × Int)) (rs : List Row) (css : List (List Ware)) : Prop := css.length = bs.length ∧ ∀ (i : Nat) b c, bs[i]? = some b → css[i]? = some c → c.length = b.1.toNat ∧ ∀ x ∈ c, jk rs x
theorem ZD {rs : List Row} {gss : List (List Int)} (h : qU rs gss) {j : Nat} {g g' : List Int} (e : gss[j]? = some g) (l : g'.length = g.length) (n : ∀ x ∈ g', 0 ≤ x) : qU rs (gss.set j g') := by
 refine ⟨by rw [List.length_set]; exact h.1, fun i r x h1 h2 => ?_⟩
 by_cases hj : i = j
 ·subst hj
  rw [List.getElem?_set_self (List.getElem?_eq_some_iff.mp e).1] at h2
  cases h2
  exact ⟨by rw [l]; exact (h.2 i r g h1 e).1, n⟩
 ·rw [List.getElem?_set_ne (Ne.symm hj)] at h2
  exact h.2 i r x h1 h2
def wD : Sp := fun vs H Q _ => ∃ (v : V) (r : Row) (p : Addr → Prop), vs = [v] ∧ Rep H p v (dRow r) ∧ r.ok ∧ ∀ q H', Same H H' → H q = none → H' q = some (.lst (iv (jc r))) → Q (.ref q) H'
theorem i_spCounts {vs : List V} {H : Hp} {Q : VK} {E : XK} (v : V) (r : Row) (p : Addr → Prop) (q0 : vs = [v]) (q1 : Rep H p v (dRow r)) (q2 : r.ok) (q3 : ∀ q H', Same H H' → H q = none → H' q = some (.lst (iv (jc r))) → Q (.ref q) H') : wD vs H Q E := ⟨v, r, p, q0, q1, q2, q3⟩
theorem ok_L_counts (T : Txt K mg a) (F : Fun K "_law_counts" "_law_counts" s_L_counts f fd) : FnOk P w K mg base (CXr P w) 1 f fd ["_law_row"] wD := by
 refine F.okx sc_L_counts ?_ ?_
 ·walk_at "i"
 walk_at "j"
 refine oE3 h fun v r p z1_ => oA4 z1_ fun z2_ hv ok k => ?_
 clear h
 subst z2_
 refine oE4 (jU hv) fun t l1 l2 l3 z1_ => oA5 z1_ fun z2_ ht h1 h2 h3 => ?_
 subst z2_
 have rl := xi ok
 walk_at "T"
 refine ⟨_, (zj (zA (zo (jq hr.units1) (zh (pv 0) zc) qx (zq _))  (zd (zi (zm ZS (zU (za zc zb)) (zG zJ zI (za (zh (pv 0) zc) zb)))))  zk)  (zd (zi (zm ZS (zU (za zc zb)) (zG (call_max2 rfl) bo_max (za zc (za (zG zJ zI (za (zh (pv 0) zc) zb)) zb))))))), ?_⟩
 walk_at "go"
 refine rd_ixT ht at0 ?_
 walk_at "go"
 refine ite2 (fun b => ?_) (fun b => ?_)
 ·have b := vJ (y := .joiner) b
  walk_at "go"
  intro q hq
  have sq := zf (o := .lst [V.int 0]) hq
  walk_at "go"
  refine rd_ixT (sq _ _ ht) ix1 ?_
  refine ⟨_, .inl ⟨_, SqL.of (sq _ _ h1), rfl⟩, ?_⟩
  rw [qz]
  refine iE3 q _ _ (iA7 rfl rfl upd_same (by omega) (by omega) (we (by simp; omega)) (fun q2 hq2 => ?_))
  rw [rep1, Int.toNat_natCast, QN, ← wa ok b]
  exact k q2 _ (sq.trans (zf hq2)) (zy sq hq2) upd_same
 ·have b : r.wd ≠ .joiner := fun z => b (by rw [z]; rfl)
  walk_at "go"
  intro q hq
  have sq := zf (o := .lst [V.int 0]) hq
  walk_at "go"
  refine rd_ixT (sq _ _ ht) ix2 ?_
  refine ⟨_, .inl ⟨_, SqL.of (sq _ _ h2), rfl⟩, ?_⟩
  rw [qz]
  refine iE2 1 _ ⟨rfl, ?_⟩
  rw [show (if (r.outs.length : Int) > 1 then (r.outs.length : Int) else 1) = ((max 1 r.outs.length : Nat) : Int) by split <;> omega]
  refine iE3 q _ _ (iA7 rfl rfl upd_same (by omega) (by omega) (we (by simp; omega)) (fun q2 hq2 => ?_))
  rw [rep1, Int.toNat_natCast, QN, ← w6 ok b]
  exact k q2 _ (sq.trans (zf hq2)) (zy sq hq2) upd_same
theorem c_L_counts (T : Txt K mg a) : Cal P w K mg base "_law_counts" 1 ["_law_row"] [] wD := T.h_L_counts.cal (ok_L_counts T)
structure LD (H H' : Hp) (S G C : Addr) (as cs : List Addr) (srcs : List Int) (gss : List (List Int)) (css : List (List Ware)) : Prop where
 sm : Same H H'
 fr : ∀ b ∈ S :: G :: C :: (as ++ cs), H b = none
 ng : NL H' (TupP H') G as (zP gss)
 nc : NL H' (TupP H') C cs (zt css)
 hS : H' S = some (.lst (iv srcs))
 nd : (S :: G :: C :: (as ++ cs)).Nodup
section
variable {H H' H2 : Hp} {S G C : Addr} {as cs : List Addr} {srcs : List Int} {gss : List (List Int)} {css : List (List Ware)}
theorem LD.isl (h : LD H H' S G C as cs srcs gss css) {b : Addr} (hb : b ∈ S :: G :: C :: (as ++ cs)) : ∃ vs, H' b = some (.lst vs) := by
 simp only [List.mem_cons, List.mem_append] at hb
 rcases hb with rfl | rfl | rfl | hb | hb
 ·exact ⟨_, h.hS⟩
 ·exact ⟨_, h.ng.out⟩
 ·exact ⟨_, h.nc.out⟩
 ·exact h.ng.isl (List.mem_cons_of_mem _ hb)
 ·exact h.nc.isl (List.mem_cons_of_mem _ hb)
theorem LD.same (h : LD H H' S G C as cs srcs gss css) (s : Same H' H2) : LD H H2 S G C as cs srcs gss css :=
 ⟨h.sm.trans s, h.fr, h.ng.tup fun b o _ hb => s b o hb, h.nc.tup fun b o _ hb => s b o hb, s _ _ h.hS, h.nd⟩
theorem LD.new (h : LD H H' S G C as cs srcs gss css) {x : Addr} (hx : H' x = none) : x ∉ S :: G :: C :: (as ++ cs) := fun z => by
 obtain ⟨vs, hv⟩ := h.isl z
 rw [hx] at hv; cases hv
theorem LD.other (h : LD H H' S G C as cs srcs gss css) {x : Addr} {us vs : List V} (hx : H' x = some (.lst us)) (nx : x ∉ S :: G :: C :: (as ++ cs)) (n0 : H x = none) : LD H (upd H' x (.lst vs)) S G C as cs srcs gss css := by
 have k : ∀ b o, b ≠ x → H' b = some o → upd H' x (.lst vs) b = some o := fun b o nb hb => by rw [upd_ne nb]; exact hb
 have kt : ∀ b, TupP H' b → b ≠ x := fun b ⟨xs, hb⟩ z => by rw [z, hx] at hb; cases hb
 refine ⟨fun b o hb => k b o (ne_of_none hb n0) (h.sm _ _ hb), h.fr, h.ng.tup fun b o hz hb => k b o (fun z => ?_) hb, h.nc.tup fun b o hz hb => k b o (fun z => ?_) hb, k _ _ (fun z => nx (by rw [← z]; simp)) h.hS, h.nd⟩
 ·rcases hz with rfl | hz | hz
  ·exact nx (by rw [← z]; simp)
  ·exact nx (by rw [← z]; simp [hz])
  ·exact kt b hz z
 ·rcases hz with rfl | hz | hz
  ·exact nx (by rw [← z]; simp)
  ·exact nx (by rw [← z]; simp [hz])
  ·exact kt b hz z
theorem LD.putG (h : LD H H' S G C as cs srcs gss css) {i : Nat} {b : Addr} {g' : List Int} (e : as[i]? = some b) : LD H (upd H' b (.lst (iv g'))) S G C as cs srcs (gss.set i g') css := by
 have hb := List.mem_of_getElem? e
 obtain ⟨us, hu⟩ := h.ng.isl (List.mem_cons_of_mem _ hb)
 have ntb : ¬ TupP H' b := fun ⟨xs, hx⟩ => by rw [hu] at hx; cases hx
 have nd := h.nd
 rw [List.nodup_cons, List.nodup_cons, List.nodup_cons, List.nodup_append] at nd
 obtain ⟨n1, n2, n3, _, _, n4⟩ := nd
 have k : ∀ c o, c ≠ b → H' c = some o → upd H' b (.lst (iv g')) c = some o := fun c o nc hc => by rw [upd_ne nc]; exact hc
 have np := (h.ng.put (vs := iv g') (ys := g'.map D.int) e ntb reps_ints)
 refine ⟨fun c o hc => k c o (ne_of_none hc (h.fr b (by simp [hb]))) (h.sm _ _ hc), h.fr, ?_, h.nc.tup fun c o hz hc => k c o (fun z => ?_) hc, k _ _ (fun z => n1 (by rw [z]; simp [hb])) h.hS, h.nd⟩
 ·have e2 : zP (gss.set i g') = (zP gss).set i (g'.map D.int) := by simp [zP, List.map_set]
  rw [e2]
  refine np.keep (fun _ _ _ hc => hc) fun c hc _ => ?_
  obtain ⟨xs, hx⟩ := hc
  exact ⟨xs, k c _ (fun z => by rw [z, hu] at hx; cases hx) hx⟩
 ·subst z
  rcases hz with rfl | hz | hz
  ·exact n3 (List.mem_append_left _ hb)
  ·exact n4 c hb c hz rfl
  ·exact ntb hz
theorem LD.pushC (h : LD H H' S G C as cs srcs gss css) {x : Addr} {us : List V} {c : List Ware} (hx : H' x = some (.lst us)) (nx : x ∉ S :: G :: C :: (as ++ cs)) (n0 : H x = none) (r : Reps H' (TupP H') us (c.map zC)) :
  LD H (upd H' C (.lst (cs.map V.ref ++ [.ref x]))) S G C as (cs ++ [x]) srcs gss (css ++ [c]) := by
 have ntc : ¬ TupP H' C := fun ⟨xs, hy⟩ => by rw [h.nc.out] at hy; cases hy
 have nd := h.nd
 rw [List.nodup_cons, List.nodup_cons, List.nodup_cons] at nd
 obtain ⟨n1, n2, n3, n4⟩ := nd
 have k : ∀ b o, b ≠ C → H' b = some o → upd H' C (.lst (cs.map V.ref ++ [.ref x])) b = some o := fun b o nb hb => by rw [upd_ne nb]; exact hb
 have np := h.nc.push (b := x) (vs := us) (ys := c.map zC) hx (fun z => nx (by simp [z])) (fun z => nx (by simp [z])) ntc r
 refine ⟨fun b o hb => k b o (ne_of_none hb (h.fr C (by simp))) (h.sm _ _ hb), ?_, h.ng.tup fun b o hz hb => k b o (fun z => ?_) hb, ?_, k _ _ (fun z => n1 (by rw [z]; simp)) h.hS, ?_⟩
 ·intro b hb
  simp only [List.mem_cons, List.mem_append, List.not_mem_nil, or_false] at hb
  rcases hb with h1 | h1 | h1 | h1 | h1 | h1
  ·exact h.fr b (by simp [h1])
  ·exact h.fr b (by simp [h1])
  ·exact h.fr b (by simp [h1])
  ·exact h.fr b (by simp [h1])
  ·exact h.fr b (by simp [h1])
  ·rw [h1]; exact n0
 ·subst z
  rcases hz with rfl | hz | hz
  ·exact n2 (by simp)
  ·exact n3 (List.mem_append_left _ hz)
  ·exact ntc hz
 ·have e2 : zt (css ++ [c]) = zt css ++ [c.map zC] := by simp [zt]
  rw [e2]
  refine np.keep (fun _ _ _ hc => hc) fun b hb _ => ?_
  obtain ⟨xs, hy⟩ := hb
  exact ⟨xs, k b _ (fun z => by rw [z, h.nc.out] at hy; cases hy) hy⟩
 ·have nd2 := h.nd
  have e3 : S :: G :: C :: (as ++ (cs ++ [x])) = (S :: G :: C :: (as ++ cs)) ++ [x] := by simp
  rw [e3, List.nodup_append]
  refine ⟨nd2, by simp, fun u hu v hv q => ?_⟩
  rw [List.mem_singleton.mp hv] at q
  exact nx (by rw [← q]; exact hu)
end
theorem LD.gone {H H' : Hp} {S G C : Addr} {as cs : List Addr} {srcs : List Int} {gss : List (List Int)} {css : List (List Ware)} (h : LD H H' S G C as cs srcs gss css) {j : Nat} {g : List Int} (e : gss[j]? = some g) : ∃ b, as[j]? = some b ∧ H' b = some (.lst (iv g)) := by
 obtain ⟨b, vs, h1, h2, h3⟩ := h.ng.at (i := j) (xs := g.map D.int) (by rw [zP, List.getElem?_map, e]; rfl)
 rw [xt h3] at h2
 exact ⟨b, h1, h2⟩
noncomputable abbrev laidSt (l vb vr : V) (fo : Int) (G : Addr) (v5 v6 v7 v8 v9 v10 v11 v12 v13 v14 v15 v16 : Option V) : St := [some l, some vb, some vr, some (.int fo), some (.ref G), v5, v6, v7, v8, v9, v10, v11, v12, v13, v14, v15, v16]
def ZO (K : PySem.W.Frag) : Sp := fun vs H Q _ => ∃ (l : Addr) (ns : List Int) (vb vr : V) (fo : Int) (bs : List (Int × Int)) (rs : List Row), vs = [.ref l, vb, vr, .int fo] ∧ SqL K H l (iv ns) ∧ Rep H (Off []) vb (.lst (bs.map xy)) ∧ Rep H (Off []) vr (.lst (rs.map dRow)) ∧ bs.length ≤ 24 ∧ rs.length ≤ 24 ∧ (∀ b ∈ bs, zE b.1 b.2) ∧ (∀ r ∈ rs, r.ok) ∧
 ∀ t H' S G C as cs srcs gss css, LD H H' S G C as cs srcs gss css → H t = none → H' t = some (.tup [.ref C, .ref G]) → qU rs gss → qi bs rs css → Q (.ref t) H'
theorem i_spLaid {K : PySem.W.Frag} {vs : List V} {H : Hp} {Q : VK} {E : XK} (l : Addr) (ns : List Int) (vb vr : V) (fo : Int) (bs : List (Int × Int)) (rs : List Row) (q0 : vs = [.ref l, vb, vr, .int fo]) (q1 : SqL K H l (iv ns)) (q2 : Rep H (Off []) vb (.lst (bs.map xy))) (q3 : Rep H (Off []) vr (.lst (rs.map dRow))) (q4 : bs.length ≤ 24) (q5 : rs.length ≤ 24) (q6 : (∀ b ∈ bs, zE b.1 b.2)) (q7 : (∀ r ∈ rs, r.ok)) (q8 : ∀ t H' S G C as cs srcs gss css, LD H H' S G C as cs srcs gss css → H t = none → H' t = some (.tup [.ref C, .ref G]) → qU rs gss → qi bs rs css → Q (.ref t) H') : ZO K vs H Q E := ⟨l, ns, vb, vr, fo, bs, rs, q0, q1, q2, q3, q4, q5, q6, q7, q8⟩
theorem ok_L_laid (T : Txt K mg a) (F : Fun K "_law_laid" "_law_laid" s_L_laid f fd) : FnOk P w K mg base (CXr P w) 2 f fd ["_law_script", "_law_belts", "_law_rows", "_law_fold_here"] (ZO K) := by
 refine F.okx sc_L_laid ?_ ?_
 ·walk_at "i"
 walk_at "j"
 refine oE7 h fun l ns vb vr fo bs rs z1_ => oA9 z1_ fun z2_ hl hvb hvr lb lr bo ro k => ?_
 clear h
 subst z2_
 refine oE2 hvb.lst' fun l1 us1 z1_ => oA4 z1_ fun z2_ _ hl1 hb => ?_
 subst z2_
 refine oE2 hvr.lst' fun l2 us2 z1_ => oA4 z1_ fun z2_ _ hl2 hrr => ?_
 subst z2_
 have ln1 : us1.length = bs.length := by rw [hb.len, List.length_map]
 have ln2 : us2.length = rs.length := by rw [hrr.len, List.length_map]
 walk_at "T"
 refine ⟨_, (zg (zF 4 sc_L_laid.nd (zU zb))  (zX (z9 qu rfl (qD (za (pv 2) zb)) (qJ (n := 2) rfl (zB (Z2 (i := 5) sc_L_laid.nd rfl (Or.inr rfl)) (zB (pg_n 6 sc_L_laid.nd) qo)))  (zg (QA (i := 7) sc_L_laid.nd rfl (Or.inr rfl) (zm zL (zx ⟨rfl, rfl, rfl⟩ hr (za (pv 0) (za (pv 5) zb))) (zm wM zc zc)))  (zd (zN (jp PySem.F.plainAttrs_list PySem.F.slot_list_append PySem.F.type_list_append qb (pv 4) (za (jK (vars := ["_law_at"]) (caps := [7, 3, 5]) (N := ["_law_at", "_law_far", "_law_fold_here", "_law_k"]) (ON := ["_law_script", "_law_belts", "_law_rows", "_law_fold_here", "_law_gone", "_law_k", "_law_row", "_law_far", "_law_sources", "_law_cells", "_law_place", "_law_room", "_law_pace", "_law_line", "_law_at", "_law_seed", "_law_source"]) (osc := ze s_L_laid) rfl rfl (by first | decide +kernel | kernel_rfl) rfl rfl (j4 (za (zG zJ zI (za (zx ⟨rfl, rfl, rfl⟩ hr (za (pv 6) zb)) zb)) zb)) (fun s H fp pins => (pg_n 0 (show (["_law_at", "_law_far", "_law_fold_here", "_law_k"] : List Str).Nodup from by decide +kernel))) (fun s H fp pins => qm) (fun s H fp pins => (zm z6 (pv 1) (ZR hr (za (pv 2) (za (zm z6 (zm j5 zc (pv 3)) (pv 0)) zb)))))) zb))))))  (zg (QB (i := 8) sc_L_laid.nd rfl (Or.inl rfl) (vars := ["_law_k"]) (caps := [2]) (N := ["_law_k", "_law_rows"]) (ON := ["_law_script", "_law_belts", "_law_rows", "_law_fold_here", "_law_gone", "_law_k", "_law_row", "_law_far", "_law_sources", "_law_cells", "_law_place", "_law_room", "_law_pace", "_law_line", "_law_at", "_law_seed", "_law_source"]) (osc := ze s_L_laid) rfl rfl (by first | decide +kernel | kernel_rfl) rfl rfl (j4 (za (zG zJ zI (za (pv 2) zb)) zb)) (fun s H fp pins => (pg_n 0 (show (["_law_k", "_law_rows"] : List Str).Nodup from by decide +kernel))) (fun s H fp pins => (pif_one (zo (jq hr.units1) (zh (zh (pv 1) (pv 0)) zc) qx (zq _)))) (fun s H fp pins => (pv 0)))  (zg (zF 9 sc_L_laid.nd (zU zb))  (zg (zF 10 sc_L_laid.nd zc)  (zX (z9 qu rfl (qj (pv 1)) (qJ (n := 2) rfl (zB (pg_n 11 sc_L_laid.nd) (zB (pg_n 12 sc_L_laid.nd) qo)))  (zg (zF 13 sc_L_laid.nd (zU zb))  (zX (z9 qu rfl (j4 (za (pv 11) zb)) (pg_n 14 sc_L_laid.nd)  (zg (zF 15 sc_L_laid.nd (zx ⟨rfl, rfl, rfl⟩ hr (za (zm z6 (zx ⟨rfl, rfl, rfl⟩ hr (za (pv 0) (za (pv 10) zb))) (pv 12)) (za (zm z6 zc (pv 10)) zb))))  (zg (QC (i := 10) sc_L_laid.nd rfl (Or.inl rfl) zc xN)  (zd (zA (PW.pt (pw_or (zo QF (zm zL (pv 15) zc) (zm zL (pv 3) zc) (zq _)) (pw_or1 (zo (jq hr.units1) (zG zJ zI (za (pv 8) zb)) zc (zq _)))))  (zd (zN (jp PySem.F.plainAttrs_list PySem.F.slot_list_append PySem.F.type_list_append qb (pv 13) (za zD zb))))  (zg (zF 16 sc_L_laid.nd (zh (pv 8) (zm zL (zm jv (pv 15) zc) (zG zJ zI (za (pv 8) zb)))))  (zg (zN (jp PySem.F.plainAttrs_list PySem.F.slot_list_append PySem.F.type_list_append qb (pv 13) (za (qr (za (pv 16) (za (zh (zh (pv 4) (pv 16)) zc) zb))) zb)))  (zd (wj (zh (pv 4) (pv 16)) zc xv (zm z6 zc (zm zL (zm jv (pv 15) zc) zc)) xN z7)))))))))  (zd (zN (jp PySem.F.plainAttrs_list PySem.F.slot_list_append PySem.F.type_list_append qb (pv 9) (za (pv 13) zb)))))))  (zd (zi (qr (za (pv 9) (za (pv 4) zb))))))))))), ?_⟩
 walk_at "go"
 intro G hG
 walk_at "go"
 let M1_ : St → Hp → Prop := fun σ' H' => ∃ (v5 v6 v7 : Option V) (as : List Addr) (gss : List (List Int)), σ' = laidSt (.ref l) (.ref l1) (.ref l2) fo G v5 v6 v7 none none none none none none none none none ∧ Same H H' ∧ NL H' (TupP H') G as (zP gss) ∧ (∀ b ∈ as, H b = none) ∧ qU rs gss
 refine cut M1_ ?_ ?_
 ·walk_at "for"
  walk_at "go"
  refine iE2 l2 _ (iA3 rfl (upd_keep hl2 hG) ?_)
  let M2_ : Nat → St → Hp → Prop := fun i σ H' => ∃ (v5 v6 v7 : Option V) (as : List Addr) (gss : List (List Int)), σ = laidSt (.ref l) (.ref l1) (.ref l2) fo G v5 v6 v7 none none none none none none none none none ∧ Same H H' ∧ NL H' (TupP H') G as (zP gss) ∧ (∀ b ∈ as, H b = none) ∧ qU (rs.take i) gss
  refine ZE (K := K) (a := l2) (xs := us2) M2_
   ⟨_, _, _, [], [], rfl, zf hG, xK upd_same, by simp, rfl, fun i r g h => by simp at h⟩ (fun i σ H' _ h => by obtain ⟨_, _, _, _, _, _, s, _⟩ := h; exact SqL.of (s _ _ hl2)) ?_ ?_
  ·intro i x t σ H1 hi ht zz_
   refine oE5 zz_ fun v5 v6 v7 as gss z1_ => oA5 z1_ fun z2_ s1 nl fr go => ?_
   clear zz_
   subst z2_
   obtain ⟨d, hd, rx⟩ := hrr.at hi
   rw [List.getElem?_map, Option.map_eq_some_iff] at hd
   obtain ⟨r, hr', rfl⟩ := hd
   have hil := (List.getElem?_eq_some_iff.mp hr').1
   have ok := ro r (List.mem_of_getElem? hr')
   have cp := jr ok
   have s2 := s1.trans (zf (o := .tup [.int i, x]) ht)
   have nl2 := nl.tup (H' := upd H1 t (.tup [.int i, x])) fun b o _ hb => zf ht b o hb
   refine un2 upd_same ?_
   generalize upd H1 t (.tup [.int i, x]) = H2 at s2 nl2 ⊢
   walk_at "go"
   refine uc (w9 T).mono (wR l ns i rfl (jE s2 hl) ?_)
   walk_at "go"
   have fa0 := Int.emod_nonneg (jR ns i) (show (1000000000000000000000000000000000000000000000000000000000000 : Int) ≠ 0 by decide)
   generalize jR ns i % 1000000000000000000000000000000000000000000000000000000000000 = far at fa0 ⊢
   refine ⟨.inl ⟨rfl, _, SqL.of nl2.out⟩, ?_⟩
   walk_at "lc"
   walk_at "go"
   refine uc (c_L_counts T).mono (i_spCounts x r _ rfl (rx.same s2) ok (fun q H3 s3 nq hq => ?_))
   refine ⟨_, .inl ⟨_, SqL.of hq, rfl⟩, ?_⟩
   rw [qz]
   walk_at "go"
   refine ⟨by omega, by omega, fun _ _ _ _ acc hacc => ?_⟩
   have s23 := s2.trans s3
   let M3_ : Nat → St → Hp → Prop := fun j σ H' => ∃ (v0 : Option V) (g : List Int), σ = [v0, some (.int far), some (.int fo), some (.int i)] ∧ Same H3 H' ∧ H' acc = some (.lst (iv g)) ∧ g.length = j ∧ ∀ n ∈ g, 0 ≤ n
   refine wW (n := ((jc r).length : Int).toNat) M3_ (iE2 _ ([]) (iA5 rfl (zf hacc) upd_same rfl (by simp))) ?_ ?_
   ·intro j σ H4 hj zz_
    refine oE2 zz_ fun v0 g z1_ => oA5 z1_ fun z2_ s4 ha lg gp => ?_
    clear zz_
    subst z2_
    have hj4 : j < 4 := by omega
    walk_at "go"
    refine uc (jA T).mono ?_
    walk_at "go"
    refine ⟨mul_okL (by decide) (by decide), ?_⟩
    walk_at "go"
    refine iE2 fo _ (iA4 rfl (by omega) (by omega) ?_)
    walk_at "go"
    have m0 := vY fo (7 * (i : Int) + (0 + (j : Int)))
    refine ⟨_, iA3 ha (zp (by rw [qz]; omega)) (iE2 _ (g ++ [far + mixF fo (7 * (i : Int) + (0 + (j : Int)))]) (iA5 rfl (fun b o hb => by rw [upd_ne (ne_of_none hb hacc)]; exact s4 b o hb) (by rw [upd_same, Qb]) (by simp [lg]) ?_))⟩
    intro n hn
    rcases List.mem_append.mp hn with hn | hn
    ·exact gp n hn
    ·rw [List.mem_singleton.mp hn]; omega
   intro σ H4 zz_
   refine oE2 zz_ fun v0 g z1_ => oA5 z1_ fun z2_ s4 ha lg gp => ?_
   clear zz_
   subst z2_
   have s34 := s3.trans s4
   have nl4 := nl2.tup (H' := H4) fun b o _ hb => s34 b o hb
   have na : H2 acc = none := zy s3 hacc
   have nb : acc ∉ as := fun z => by
    obtain ⟨vs, h1⟩ := nl2.isl (List.mem_cons_of_mem _ z)
    rw [na] at h1; cases h1
   have nG : acc ≠ G := fun z => by rw [z, nl2.out] at na; cases na
   have ntG : ¬ TupP H4 G := fun ⟨xs, hx⟩ => by rw [nl4.out] at hx; cases hx
   refine iE3 G _ _ (iA5 rfl rfl nl4.out (zp (by rw [List.length_map, nl4.len, List.length_map, go.1, List.length_take]; omega)) ?_)
   have np := nl4.push (b := acc) (vs := iv g) (ys := g.map D.int) ha nb nG ntG reps_ints
   refine iE5 _ _ _ (as ++ [acc]) (gss ++ [g]) (iA6 rfl (fun b o hb => by rw [upd_ne (ne_of_none hb hG)]; exact s34 _ _ (s2 _ _ hb)) ?_ ?_ ?_ ?_)
   ·rw [show zP (gss ++ [g]) = zP gss ++ [g.map D.int] by simp [zP]]
    refine np.keep (fun _ _ _ hc => hc) fun c hc _ => ?_
    obtain ⟨xs, hx⟩ := hc
    exact ⟨xs, by rw [upd_ne (fun z => by rw [z, nl4.out] at hx; cases hx)]; exact hx⟩
   ·intro b hb
    rcases List.mem_append.mp hb with hb | hb
    ·exact fr b hb
    ·rw [List.mem_singleton.mp hb]; exact zy s2 na
   ·rw [List.length_append, go.1, List.take_add_one, hr']; simp
   ·intro j r2 g2 e1 e2
    rw [List.take_add_one, hr'] at e1
    by_cases hj : j < gss.length
    ·rw [List.getElem?_append_left hj] at e2
     rw [List.getElem?_append_left (by rw [← go.1]; exact hj)] at e1
     exact go.2 j r2 g2 e1 e2
    ·rw [List.getElem?_append_right (by omega)] at e2
     rw [List.getElem?_append_right (by rw [← go.1]; omega), ← go.1] at e1
     have j0 : j - gss.length = 0 := by have := (List.getElem?_eq_some_iff.mp e2).1; simp at this; omega
     rw [j0] at e1 e2
     have e1 : r = r2 := by simpa using e1
     have e2 : g = g2 := by simpa using e2
     subst e1 e2
     exact ⟨by omega, gp⟩
  ·intro σ H1 zz_
   refine oE5 zz_ fun v5 v6 v7 as gss z1_ => oA5 z1_ fun z2_ s1 nl fr go => ?_
   clear zz_
   subst z2_
   rw [ln2, List.take_length] at go
   exact iE5 v5 v6 v7 as gss (iA5 rfl s1 nl fr go)
 intro σ' H1 zz_
 refine oE5 zz_ fun v5 v6 v7 as gss z1_ => oA5 z1_ fun z2_ s1 ng fra go => ?_
 clear zz_
 subst z2_
 walk_at "go"
 walk_at "lc"
 walk_at "go"
 refine ⟨_, .inl ⟨_, SqL.of (s1 _ _ hl2), rfl⟩, ?_⟩
 rw [ln2]
 walk_at "go"
 refine ⟨by omega, by omega, fun _ _ _ _ S hS => ?_⟩
 let M4_ : Nat → St → Hp → Prop := fun i σ H' => ∃ (v0 : Option V), σ = [v0, some (.ref l2)] ∧ Same H1 H' ∧ H' S = some (.lst (iv (jM .source rs i)))
 refine wW (n := (rs.length : Int).toNat) M4_ ⟨_, iA3 rfl (zf hS) upd_same⟩ ?_ ?_
 ·intro i σ H' hi zz_
  refine oE1 zz_ fun v0 z1_ => oA3 z1_ fun z2_ s7 e7 => ?_
  clear zz_
  subst z2_
  have hi : i < rs.length := by simpa using hi
  obtain ⟨r, hr'⟩ : ∃ r, rs[i]? = some r := ⟨rs[i], List.getElem?_eq_getElem hi⟩
  obtain ⟨x, hx, rx⟩ := hrr.of (i := i) (d := dRow r) (by rw [List.getElem?_map, hr']; rfl)
  refine oE4 (jU rx) fun t1 m1 m2 m3 z1_ => oA5 z1_ fun z2_ ht1 g1 g2 g3 => ?_
  subst z2_
  walk_at "go"
  simp only [Int.zero_add]
  refine zl (SqL.of (s7 _ _ (s1 _ _ hl2))) (zr hx) (rd_ixT (s7 _ _ (s1 _ _ ht1)) at0 ?_)
  walk_at "go"
  have l1' := numsTo_len .source rs i
  refine ite2 (fun b => ?_) (fun b => ?_)
  ·have b := vJ (y := .source) b
   refine ⟨_, iA3 e7 (zp (by rw [qz]; omega)) ⟨_, iA3 rfl (fun b o hb => by rw [upd_ne (ne_of_none hb hS)]; exact s7 b o hb) ?_⟩⟩
   rw [upd_same, xY hr', if_pos b, Qb]
  ·have b : r.wd ≠ .source := fun z => b (by rw [z]; rfl)
   exact ⟨_, iA3 rfl s7 (by rw [xY hr', if_neg b, List.append_nil]; exact e7)⟩
 intro σ H2 zz_
 refine oE1 zz_ fun v0 z1_ => oA3 z1_ fun z2_ s2 hS2 => ?_
 clear zz_
 subst z2_
 rw [show ((rs.length : Int).toNat) = rs.length by omega] at hS2
 have hS2 : H2 S = some (.lst (iv (qy .source rs))) := hS2
 walk_at "go"
 intro C hC
 have L0 : LD H (upd H2 C (.lst [])) S G C as [] (qy .source rs) gss [] := by
  have s12 := s1.trans s2
  have ng2 := ng.tup (H' := upd H2 C (.lst [])) fun b o _ hb => upd_keep (s2 _ _ hb) hC
  have nS : S ∉ G :: as := fun z => by
   obtain ⟨vs, h1⟩ := ng.isl z
   rw [hS] at h1; cases h1
  have nC : C ∉ S :: G :: as := fun z => by
   rcases List.mem_cons.mp z with h | h
   ·rw [h, hS2] at hC; cases hC
   ·obtain ⟨vs, h1⟩ := ng.isl h
    rw [s2 _ _ h1] at hC; cases hC
  refine ⟨s12.trans (zf hC), ?_, ng2, xK upd_same, upd_keep hS2 hC, ?_⟩
  ·intro b hb
   simp only [List.mem_cons, List.append_nil] at hb
   rcases hb with rfl | rfl | rfl | hb
   ·exact zy s1 hS
   ·exact hG
   ·exact zy s12 hC
   ·exact fra b hb
  ·rw [List.append_nil, List.nodup_cons, List.nodup_cons, List.nodup_cons]
   refine iA4 (fun z => ?_) (fun z => ?_) (fun z => ?_) ng.nd
   ·rcases List.mem_cons.mp z with h | h
    ·exact nS (by rw [h]; simp)
    ·rcases List.mem_cons.mp h with h | h
     ·exact nC (by rw [← h]; simp)
     ·exact nS (List.mem_cons_of_mem _ h)
   ·rcases List.mem_cons.mp z with h | h
    ·exact nC (by rw [← h]; simp)
    ·exact ng.nG h
   ·exact nC (by simp [z])
 generalize upd H2 C (.lst []) = H3 at L0 ⊢
 clear s1 s2 ng hS hS2 hC
 walk_at "go"
 have abst : ∀ (i : Nat), True := fun _ => trivial
 walk_at "go"
 let M5_ : St → Hp → Prop := fun σ' H' => ∃ (v10 v11 v12 v13 v14 v15 v16 : Option V) (cs : List Addr) (gss : List (List Int)) (css : List (List Ware)), σ' = laidSt (.ref l) (.ref l1) (.ref l2) fo G v5 v6 v7 (some (.ref S)) (some (.ref C)) v10 v11 v12 v13 v14 v15 v16 ∧ LD H H' S G C as cs (qy .source rs) gss css ∧ qU rs gss ∧ qi bs rs css
 refine cut M5_ ?_ ?_
 ·walk_at "for"
  walk_at "go"
  refine ⟨l1, rfl, .inl ⟨⟨_, SqL.of (L0.sm _ _ hl1)⟩, ?_⟩⟩
  let M6_ : Nat → St → Hp → Prop := fun i σ H' => ∃ (pl : Nat) (v11 v12 v13 v14 v15 v16 : Option V) (cs : List Addr) (gss : List (List Int)) (css : List (List Ware)), σ = laidSt (.ref l) (.ref l1) (.ref l2) fo G v5 v6 v7 (some (.ref S)) (some (.ref C)) (some (.int pl)) v11 v12 v13 v14 v15 v16 ∧ pl ≤ 6 * i ∧ LD H H' S G C as cs (qy .source rs) gss css ∧ qU rs gss ∧ qi (bs.take i) rs css
  refine qV (K := K) (a := l1) (xs := us1) M6_
   ⟨0, _, _, _, _, _, _, [], gss, [], rfl, by omega, L0, go, rfl, fun i b c h => by simp at h⟩ (fun i σ H' _ h => by obtain ⟨_, _, _, _, _, _, _, _, _, _, _, _, L, _⟩ := h; exact SqL.of (L.sm _ _ hl1)) ?_ ?_
  ·clear L0 go
   intro i x σ H4 hi zz_
   refine oE8 zz_ fun pl v11 v12 v13 v14 v15 v16 cs z1_ => oE2 z1_ fun gss css z2_ => oA5 z2_ fun z3_ hpl L go co => ?_
   clear zz_
   subst z3_
   obtain ⟨d, hd, rx⟩ := hb.at hi
   rw [List.getElem?_map, Option.map_eq_some_iff] at hd
   obtain ⟨⟨rm, pc⟩, hb', rfl⟩ := hd
   obtain ⟨t, rfl, ht⟩ := xn rx
   have hil := (List.getElem?_eq_some_iff.mp hb').1
   have bk := bo _ (List.mem_of_getElem? hb')
   have bk1 := bk.1
   have bk2 := bk.2.1
   simp only at bk1 bk2
   refine un2 ((L.sm _ _ ht)) ?_
   walk_at "go"
   intro Ln hLn
   have nL := L.new hLn
   have nL0 : H Ln = none := zy L.sm hLn
   have L1 := L.same (zf (o := .lst []) hLn)
   have hl1' : upd H4 Ln (.lst []) Ln = some (.lst []) := upd_same
   generalize upd H4 Ln (.lst []) = H5 at L1 hl1' ⊢
   walk_at "go"
   let M7_ : St → Hp → Prop := fun σ' H' => ∃ (pl : Nat) (v14 v15 v16 : Option V) (gss : List (List Int)) (us : List V) (c : List Ware), σ' = laidSt (.ref l) (.ref l1) (.ref l2) fo G v5 v6 v7 (some (.ref S)) (some (.ref C)) (some (.int pl)) (some (.int rm)) (some (.int pc)) (some (.ref Ln)) v14 v15 v16 ∧ pl ≤ 6 * (i + 1) ∧ LD H H' S G C as cs (qy .source rs) gss css ∧ qU rs gss ∧ H' Ln = some (.lst us) ∧ Reps H' (TupP H') us (c.map zC) ∧ c.length = rm.toNat ∧ ∀ x ∈ c, jk rs x
   refine cut M7_ ?_ ?_
   ·walk_at "for"
    walk_at "go"
    refine ⟨by omega, by omega, ?_⟩
    let M8_ : Nat → St → Hp → Prop := fun j σ' H' => ∃ (v14 v15 v16 : Option V) (gss : List (List Int)) (us : List V) (c : List Ware), σ' = laidSt (.ref l) (.ref l1) (.ref l2) fo G v5 v6 v7 (some (.ref S)) (some (.ref C)) (some (.int ((pl + j : Nat) : Int))) (some (.int rm)) (some (.int pc)) (some (.ref Ln)) v14 v15 v16 ∧ LD H H' S G C as cs (qy .source rs) gss css ∧ qU rs gss ∧ H' Ln = some (.lst us) ∧ Reps H' (TupP H') us (c.map zC) ∧ c.length = j ∧ ∀ x ∈ c, jk rs x
    refine wW (n := rm.toNat) M8_
     ⟨_, _, _, gss, [], [], rfl, L1, go, hl1', .nil, rfl, by simp⟩ ?_ ?_
    ·clear L1 hl1' go
     intro j σ' H6 hj zz_
     refine oE6 zz_ fun v14 v15 v16 gss us c z1_ => oA7 z1_ fun z2_ LL2 go hu ru lc wk => ?_
     clear zz_
     subst z2_
     have hj6 : j < 6 := by omega
     have lu : us.length = j := by rw [ru.len, List.length_map, lc]
     walk_at "go"
     refine uc (jA T).mono (uc (w9 T).mono (wR l ns (pl + j) rfl (jE LL2.sm hl) ?_))
     walk_at "go"
     refine iE2 _ _ (iA4 rfl (by omega) (by omega) ?_)
     have d0 := vY (jR ns (pl + j) + pc) (300 + ((pl + j : Nat) : Int))
     generalize mixF (jR ns (pl + j) + pc) (300 + ((pl + j : Nat) : Int)) = sd at d0 ⊢
     walk_at "go"
     have e : ((pl + j : Nat) : Int) + 1 = ((pl + (j + 1) : Nat) : Int) := by omega
     rw [e]
     have addN : tyV K "list" (V.ref Ln) H6 ∧ ZZ (V.ref Ln) [V.non] H6 fun _ H' => ∃ (w14 w15 w16 : Option V) (gss : List (List Int)) (us : List V) (c : List Ware), laidSt (.ref l) (.ref l1) (.ref l2) fo G v5 v6 v7 (some (.ref S)) (some (.ref C)) (some (.int ((pl + (j + 1) : Nat) : Int))) (some (.int rm)) (some (.int pc)) (some (.ref Ln)) (some (.int (0 + (j : Int)))) (some (.int sd)) v16 = laidSt (.ref l) (.ref l1) (.ref l2) fo G v5 v6 v7 (some (.ref S)) (some (.ref C)) (some (.int ((pl + (j + 1) : Nat) : Int))) (some (.int rm)) (some (.int pc)) (some (.ref Ln)) w14 w15 w16 ∧ LD H H' S G C as cs (qy .source rs) gss css ∧ qU rs gss ∧ H' Ln = some (.lst us) ∧ Reps H' (TupP H') us (c.map zC) ∧ c.length = j + 1 ∧ ∀ x ∈ c, jk rs x := by
      refine ⟨.inl ⟨rfl, _, SqL.of hu⟩, iE3 Ln _ _ (iA5 rfl rfl hu (zp (by omega)) ?_)⟩
      refine iE6 _ _ _ gss _ (c ++ [none]) (iA7 rfl (LL2.other hu nL nL0) go upd_same ?_ (by simp [lc]) ?_)
      ·rw [List.map_append]
       refine Reps.append (ru.keep fun b o pb hb => ?_) (.one .non)
       obtain ⟨xs, hx⟩ := pb
       have nb : b ≠ Ln := fun z => by rw [z, hu] at hx; cases hx
       exact ⟨⟨xs, by rw [upd_ne nb]; exact hx⟩, by rw [upd_ne nb]; exact hb⟩
      ·intro x hx
       rcases List.mem_append.mp hx with hx | hx
       ·exact wk x hx
       ·rw [List.mem_singleton.mp hx]
        intro s n z
        cases z
     refine ite2 (fun _ => addN) (fun _ => ?_)
     refine ⟨m_len, ⟨_, ⟨.inl ⟨_, SqL.of LL2.hS, rfl⟩, ?_⟩⟩⟩
     rw [qz]
     refine ite2 (fun _ => addN) (fun nz => ?_)
     clear addN
     walk_at "go"
     refine ⟨fd_ok (by decide) (by decide +kernel), ?_⟩
     walk_at "go"
     refine ⟨_, .inl ⟨_, SqL.of LL2.hS, rfl⟩, ?_⟩
     rw [qz]
     walk_at "go"
     have sl : (0 : Int) < (qy .source rs).length := by omega
     refine ⟨sl, ?_⟩
     have v0 := Int.emod_nonneg (sd / 3) (show ((qy .source rs).length : Int) ≠ 0 by omega)
     have v1 := Int.emod_lt_of_pos (sd / 3) sl
     generalize sd / 3 % ((qy .source rs).length : Int) = jj at v0 v1 ⊢
     obtain ⟨sv, hsv⟩ : ∃ y, (qy .source rs)[jj.toNat]? = some y := ⟨(qy .source rs)[jj.toNat]'(by omega), List.getElem?_eq_getElem _⟩
     refine oE2 (mem_nums (List.mem_of_getElem? hsv)) fun j0 r0 z1_ => oA3 z1_ fun z2_ hr0 hw0 => ?_
     subst z2_
     have hix : atI (iv (qy .source rs)) jj = some (.int j0) := by
      have := zr (wP hsv)
      rw [show ((jj.toNat : Nat) : Int) = jj by omega] at this
      exact this
     refine zl (SqL.of LL2.hS) hix ?_
     walk_at "go"
     have hj0 := (List.getElem?_eq_some_iff.mp hr0).1
     obtain ⟨g, hg⟩ : ∃ g, gss[j0]? = some g := ⟨gss[j0]'(by rw [go.1]; exact hj0), List.getElem?_eq_getElem _⟩
     obtain ⟨lg, gp⟩ := go.2 j0 r0 g hr0 hg
     have cp := jr (ro r0 (List.mem_of_getElem? hr0))
     obtain ⟨g0, g', rfl⟩ : ∃ g0 g', g = g0 :: g' := by
      cases g with
      | nil => simp at lg; omega
      | cons x y => exact ⟨x, y, rfl⟩
     have g00 := gp g0 (by simp)
     obtain ⟨bG, hbG, hgG⟩ := LL2.gone hg
     have hmapG : (as.map V.ref)[j0]? = some (.ref bG) := by rw [List.getElem?_map, hbG]; rfl
     refine ⟨.inl ⟨rfl, _, SqL.of hu⟩, zl (SqL.of LL2.ng.out) (zr hmapG) (zl (SqL.of hgG) at0 ?_)⟩
     walk_at "go"
     intro tw htw
     have L3 := LL2.same (zf (o := .tup [.int j0, .int g0]) htw)
     have hu3 := upd_keep (o := .tup [.int j0, .int g0]) hu htw
     have hw3 : upd H6 tw (.tup [.int j0, .int g0]) tw = some (.tup [.int j0, .int g0]) := upd_same
     have ru3 : Reps (upd H6 tw (.tup [.int j0, .int g0])) (TupP (upd H6 tw (.tup [.int j0, .int g0]))) us (c.map zC) := ru.keep fun b o pb hb => by
      obtain ⟨xs, hx⟩ := pb
      exact ⟨⟨xs, upd_keep hx htw⟩, upd_keep hb htw⟩
     generalize upd H6 tw (.tup [.int j0, .int g0]) = H7 at L3 hu3 hw3 ru3 ⊢
     refine iE3 Ln _ _ (iA5 rfl rfl hu3 (zp (by omega)) ?_)
     have L4 := L3.other (vs := us ++ [.ref tw]) hu3 nL nL0
     have hu4 : upd H7 Ln (.lst (us ++ [.ref tw])) Ln = some (.lst (us ++ [.ref tw])) := upd_same
     have nwL : tw ≠ Ln := fun z => by rw [z, hu3] at hw3; cases hw3
     have ru4 : Reps (upd H7 Ln (.lst (us ++ [.ref tw]))) (TupP (upd H7 Ln (.lst (us ++ [.ref tw])))) (us ++ [.ref tw]) ((c ++ [some ((j0 : Int), g0)]).map zC) := by
      have tk : ∀ b o, TupP H7 b → H7 b = some o → TupP (upd H7 Ln (.lst (us ++ [.ref tw]))) b ∧ upd H7 Ln (.lst (us ++ [.ref tw])) b = some o := fun b o pb hb => by
       obtain ⟨xs, hx⟩ := pb
       have nb : b ≠ Ln := fun z => by rw [z, hu3] at hx; cases hx
       exact ⟨⟨xs, by rw [upd_ne nb]; exact hx⟩, by rw [upd_ne nb]; exact hb⟩
      rw [List.map_append]
      refine (ru3.keep tk).append (.one (Rep.keep tk ?_))
      exact Reps.mkT (vs := [.int j0, .int g0]) (.cons .int (.cons .int .nil)) ⟨_, hw3⟩ hw3
     have wk4 : ∀ x ∈ c ++ [some ((j0 : Int), g0)], jk rs x := by
      intro x hx
      rcases List.mem_append.mp hx with hx | hx
      ·exact wk x hx
      ·rw [List.mem_singleton.mp hx]
       intro s n z
       cases z
       exact iE2 j0 r0 (iA4 rfl hr0 hw0 g00)
     generalize upd H7 Ln (.lst (us ++ [.ref tw])) = H8 at L4 hu4 ru4 ⊢
     obtain ⟨bG2, hbG2, hgG2⟩ := L4.gone hg
     rw [hbG] at hbG2
     cases hbG2
     walk_at "go"
     unfold Zj
     walk_at "go"
     refine zl (SqL.of L4.ng.out) (zr hmapG) ?_
     refine iE4 bG _ 0 _ (iA6 rfl rfl (SqL.of hgG2) (by decide) at0 ?_)
     walk_at "go"
     refine ⟨fd_ok (by decide) (by decide +kernel), ?_⟩
     walk_at "go"
     refine qh hgG2 (qT (by decide) (by simp [iv])) ?_
     have w0 := Int.emod_nonneg (sd / 50) (show (3 : Int) ≠ 0 by decide)
     generalize sd / 50 % 3 = inc at w0 ⊢
     have e5 : (iv (g0 :: g')).set (Int.toNat 0) (.int (g0 + (1 + inc))) = iv ((g0 + (1 + inc)) :: g') := by simp [iv]
     rw [e5]
     have L5 := L4.putG (g' := (g0 + (1 + inc)) :: g') hbG
     have nbL : Ln ≠ bG := fun z => nL (by rw [z]; simp [List.mem_of_getElem? hbG])
     refine iE6 _ _ _ _ _ (c ++ [some ((j0 : Int), g0)]) (iA7 rfl L5 (ZD go hg (by simp) ?_) (by rw [upd_ne nbL]; exact hu4) ?_ (by simp [lc]) wk4)
     ·intro x hx
      rcases List.mem_cons.mp hx with rfl | hx
      ·omega
      ·exact gp x (List.mem_cons_of_mem _ hx)
     ·refine ru4.keep fun b o pb hb => ?_
      obtain ⟨xs, hx⟩ := pb
      have nb : b ≠ bG := fun z => by rw [z, hgG2] at hx; cases hx
      exact ⟨⟨xs, by rw [upd_ne nb]; exact hx⟩, by rw [upd_ne nb]; exact hb⟩
    ·intro σ' H6 zz_
     refine oE6 zz_ fun v14 v15 v16 gss us c z1_ => oA7 z1_ fun z2_ LL2 go hu ru lc wk => ?_
     clear zz_
     subst z2_
     exact iE7 _ v14 v15 v16 gss us c (iA8 rfl (by omega) LL2 go hu ru lc wk)
   clear L1 hl1' go
   intro σ' H6 zz_
   refine oE7 zz_ fun pl2 v14 v15 v16 gss us c z1_ => oA8 z1_ fun z2_ hpl2 LL2 go hu ru lc wk => ?_
   clear zz_
   subst z2_
   walk_at "go"
   refine ⟨.inl ⟨rfl, _, SqL.of LL2.nc.out⟩, iE3 C _ _ (iA5 rfl rfl LL2.nc.out (zp (by rw [List.length_map, LL2.nc.len, List.length_map, co.1, List.length_take]; omega)) ?_)⟩
   refine iE8 pl2 _ _ _ _ _ _ (cs ++ [Ln]) (iE2 gss (css ++ [c]) (iA6 rfl hpl2 (LL2.pushC hu nL nL0 ru) go ?_ ?_))
   ·rw [List.length_append, co.1, List.take_add_one, hb']; simp
   ·intro j b2 c2 e1 e2
    rw [List.take_add_one, hb'] at e1
    by_cases hj : j < css.length
    ·rw [List.getElem?_append_left hj] at e2
     rw [List.getElem?_append_left (by rw [← co.1]; exact hj)] at e1
     exact co.2 j b2 c2 e1 e2
    ·rw [List.getElem?_append_right (by omega)] at e2
     rw [List.getElem?_append_right (by rw [← co.1]; omega), ← co.1] at e1
     have j0 : j - css.length = 0 := by have := (List.getElem?_eq_some_iff.mp e2).1; simp at this; omega
     rw [j0] at e1 e2
     have e1 : (rm, pc) = b2 := by simpa using e1
     have e2 : c = c2 := by simpa using e2
     subst e1 e2
     exact ⟨lc, wk⟩
  ·intro σ H4 zz_
   refine oE8 zz_ fun pl v11 v12 v13 v14 v15 v16 cs z1_ => oE2 z1_ fun gss css z2_ => oA5 z2_ fun z3_ hpl L go co => ?_
   clear zz_
   subst z3_
   rw [ln1, List.take_length] at co
   exact iE8 _ v11 v12 v13 v14 v15 v16 cs (iE2 gss css (iA4 rfl L go co))
 clear L0 go
 intro σ' H4 zz_
 refine oE8 zz_ fun v10 v11 v12 v13 v14 v15 v16 cs z1_ => oE2 z1_ fun gss css z2_ => oA4 z2_ fun z3_ L go co => ?_
 clear zz_
 subst z3_
 walk_at "go"
 intro t ht
 exact k t _ S G C as cs _ gss css (L.same (zf ht)) (zy L.sm ht) upd_same go co
theorem c_L_laid (T : Txt K mg a) : Cal P w K mg base "_law_laid" 2 ["_law_script", "_law_belts", "_law_rows", "_law_fold_here"] [] (ZO K) := T.h_L_laid.cal (ok_L_laid T)
def xI (r : Row) (s : Int) : Prop := 0 ≤ s ∧ (False → s < r.outs.length) ∧ (r.wd = .joiner → s < r.ins.length) ∧ (¬ False → r.wd ≠ .joiner → s = 0)
def wg (rs : List Row) (sds : List Int) : Prop := sds.length = rs.length ∧ ∀ (i : Nat) r s, rs[i]? = some r → sds[i]? = some s → xI r s
def ZN (K : PySem.W.Frag) : Sp := fun vs H Q _ => ∃ (l : Addr) (ns : List Int) (fo : Int), vs = [.ref l, .int fo] ∧ SqL K H l (iv ns) ∧ ∀ t : Int, 0 ≤ t → Q (.int t) H
theorem i_spTurn {K : PySem.W.Frag} {vs : List V} {H : Hp} {Q : VK} {E : XK} (l : Addr) (ns : List Int) (fo : Int) (q0 : vs = [.ref l, .int fo]) (q1 : SqL K H l (iv ns)) (q2 : ∀ t : Int, 0 ≤ t → Q (.int t) H) : ZN K vs H Q E := ⟨l, ns, fo, q0, q1, q2⟩
theorem ok_L_turn (T : Txt K mg a) (F : Fun K "_law_turn" "_law_turn" s_L_turn f fd) : FnOk P w K mg base (CXr P w) 2 f fd ["_law_script", "_law_fold_here"] (ZN K) := by
 refine F.okx sc_L_turn ?_ ?_
 ·walk_at "i"
 walk_at "j"
 obtain ⟨l, ns, fo, rfl, hl, k⟩ := h
 walk_at "T"
 refine ⟨_, (zj (zF 2 sc_L_turn.nd (zm zL (zx ⟨rfl, rfl, rfl⟩ hr (za (pv 1) (za zc zb))) zc))  (zX (zA (zo (jq hr.units1) (zm zL (zm jv (pv 1) zc) zc) zc (zq _))  (zd (zF 2 sc_L_turn.nd (zm z6 (zm zL (zx ⟨rfl, rfl, rfl⟩ hr (za (pv 0) (za zc zb))) (zm wM zc zc)) (zm zL (pv 2) zc))))  zk)  (zd (zi (pv 2))))), ?_⟩
 walk_at "go"
 refine uc (jA T).mono ⟨fo, 5, rfl, by decide, by decide, ?_⟩
 walk_at "go"
 have t0 := Int.emod_nonneg (mixF fo 5) (show (1000 : Int) ≠ 0 by decide)
 generalize mixF fo 5 % 1000 = tt at t0 ⊢
 refine cut (fun σ' H' => ∃ tt : Int, σ' = [some (.ref l), some (.int fo), some (.int tt)] ∧ H' = H ∧ 0 ≤ tt) ?_ ?_
 ·walk_at "go"
  walk_at "sds"
  walk_at "go"
  refine ite2 (fun b => ?_) (fun b => ?_)
  ·walk_at "go"
   refine uc (w9 T).mono (wR l ns 1 rfl hl ?_)
   walk_at "go"
   have c0 := Int.emod_nonneg (jR ns 1) (show (1000000000000000000000000000000000000000000000000000000000000 : Int) ≠ 0 by decide)
   have c1 := Int.emod_nonneg tt (show (12 : Int) ≠ 0 by decide)
   exact ⟨_, rfl, by omega⟩
  ·exact ⟨_, rfl, t0⟩
 rintro σ' H' ⟨t2, rfl, rfl, t20⟩
 walk_at "go"
 exact k t2 t20
theorem c_L_turn (T : Txt K mg a) : Cal P w K mg base "_law_turn" 2 ["_law_script", "_law_fold_here"] [] (ZN K) := T.h_L_turn.cal (ok_L_turn T)
def zw (cs : List (List Ware)) (b : Int) : List Ware := cs.getD b.toNat []
def endW (c : List Ware) : Ware := c.getLastD none
def begW (c : List Ware) : Ware := c.headD none
def Zy (rs : List Row) : Ware → Option Int := Option.map fun x => Za ((rs[x.1.toNat]?.map Row.kinds).getD []) x.2
def qk (rs : List Row) (cs : List (List Ware)) (r : Row) : List (Option Int) := r.ins.map fun b => Zy rs (endW (zw cs b))
def jf (cs : List (List Ware)) (r : Row) : List Bool := r.outs.map fun b => decide (begW (zw cs b) = none)
theorem vZ {α : Type} {xs : List α} {d : α} (h : xs ≠ []) : atI xs (-1) = some (xs.getLastD d) := by
 have hl : 0 < xs.length := List.length_pos_iff.mpr h
 unfold atI ixN
 rw [if_neg (by decide), if_pos (by omega)]
 have e : ((-1 : Int) + xs.length).toNat = xs.length - 1 := by omega
 simp only [Option.bind_some, e]
 rw [List.getElem?_eq_getElem (by omega), List.getLastD_eq_getLast?, List.getLast?_eq_getElem?, List.getElem?_eq_getElem (by omega)]
 rfl
theorem wO {c : List Ware} : (c.map zC).getLastD .non = zC (endW c) := by
 unfold endW
 rw [List.getLastD_eq_getLast?, List.getLastD_eq_getLast?, List.getLast?_map]
 cases c.getLast? <;> rfl
structure stWf (bs : List (Int × Int)) (rs : List Row) (st : PSt) : Prop where
 co : qi bs rs st.cells
 so : wg rs st.sides
 go : qU rs st.gone
theorem qX {bs : List (Int × Int)} {rs : List Row} {cs : List (List Ware)} (h : qi bs rs cs) (bo : ∀ b ∈ bs, zE b.1 b.2) {b : Int} (hb : b ∈ rgI bs.length) : ∃ (i : Nat), b = i ∧ i < cs.length ∧ cs[i]? = some (zw cs b) ∧ zw cs b ≠ [] ∧ ∀ x ∈ zw cs b, jk rs x := by
 obtain ⟨h0, h1⟩ := mem_rgI hb
 obtain ⟨i, rfl⟩ : ∃ i : Nat, b = i := ⟨b.toNat, by omega⟩
 have hi : i < cs.length := by rw [h.1]; omega
 have e : cs[i]? = some (zw cs i) := by
  unfold zw
  rw [Int.toNat_natCast, List.getElem?_eq_getElem hi]
  simp [hi]
 have hib : i < bs.length := by omega
 obtain ⟨q1, q2⟩ := h.2 i bs[i] _ (List.getElem?_eq_getElem hib) e
 refine ⟨i, iA5 rfl hi e ?_ q2⟩
 intro z
 rw [z] at q1
 have := (bo _ (List.getElem_mem hib)).1
 simp at q1
 omega
theorem xu {bs : List (Int × Int)} {rs : List Row} {k : Nat} {r : Row} {b : Int} (w : zT bs rs) (h : rs[k]? = some r) (hb : b ∈ r.ins) : b ∈ rgI bs.length :=
 w.2.2.mem_iff.mp (List.mem_flatMap.mpr ⟨r, List.mem_of_getElem? h, hb⟩)
theorem xo {bs : List (Int × Int)} {rs : List Row} {k : Nat} {r : Row} {b : Int} (w : zT bs rs) (h : rs[k]? = some r) (hb : b ∈ r.outs) : b ∈ rgI bs.length :=
 w.2.1.mem_iff.mp (List.mem_flatMap.mpr ⟨r, List.mem_of_getElem? h, hb⟩)
theorem Qi {c : List Ware} (h : c ≠ []) : endW c ∈ c := by
 unfold endW
 rw [List.getLastD_eq_getLast?, List.getLast?_eq_some_getLast h]
 exact List.getLast_mem h
theorem state_inv {H : Hp} {p : Addr → Prop} {v : V} {st : PSt} (h : Rep H p v (qH a st)) : ∃ y dx fs lc ls lg ucs ugs, v = .ref y ∧ H y = some (.ins a.State dx fs) ∧ fs.lookup ("turn" : Str) = some (.int st.turn) ∧ fs.lookup ("cells" : Str) = some (.ref lc) ∧ fs.lookup ("sides" : Str) = some (.ref ls) ∧ fs.lookup ("gone" : Str) = some (.ref lg) ∧
  H lc = some (.lst ucs) ∧ Reps H p ucs ((zt st.cells).map D.lst) ∧ H ls = some (.lst (iv st.sides)) ∧ H lg = some (.lst ugs) ∧ Reps H p ugs ((zP st.gone).map D.lst) := by
 refine oE3 (Rep.ob' h) fun y dx fs z1_ => oA5 z1_ fun z2_ py hy g1 g2 => ?_
 subst z2_
 obtain ⟨u1, e1, r1⟩ := g1 _ _ (wu st)
 obtain ⟨u2, e2, r2⟩ := g1 _ _ (xD st)
 obtain ⟨u3, e3, r3⟩ := g1 _ _ (xC st)
 obtain ⟨u4, e4, r4⟩ := g1 _ _ (wv st)
 cases r1
 refine oE2 r2.lst' fun lc ucs z1_ => oA4 z1_ fun z2_ _ hc rc => ?_
 subst z2_
 refine oE1 r3.ints' fun ls z1_ => oA3 z1_ fun z2_ _ hs => ?_
 subst z2_
 refine oE2 r4.lst' fun lg ugs z1_ => oA4 z1_ fun z2_ _ hg rg => ?_
 subst z2_
 exact iE8 y dx fs lc ls lg ucs ugs (iA9 rfl hy e1 e2 e3 e4 hc rc (iA3 hs hg rg))
theorem inner_at {H : Hp} {p : Addr → Prop} {us : List V} {dss : List (List D)} (h : Reps H p us (dss.map D.lst)) {i : Nat} {ds : List D} (e : dss[i]? = some ds) : ∃ l vs, us[i]? = some (.ref l) ∧ H l = some (.lst vs) ∧ Reps H p vs ds := by
 obtain ⟨v, h1, h2⟩ := h.of (i := i) (d := .lst ds) (by rw [List.getElem?_map, e]; rfl)
 refine oE2 h2.lst' fun l vs z1_ => oA4 z1_ fun z2_ _ h3 h4 => ?_
 subst z2_
 exact iE2 l vs (iA3 h1 h3 h4)
def vN (a : Ad) : Sp := fun vs H Q _ => ∃ (vw vs' vk : V) (bs : List (Int × Int)) (rs : List Row) (st : PSt) (k : Nat) (r : Row) (p q : Addr → Prop), vs = [vw, vs', vk] ∧ Rep H p vw (qG a bs rs) ∧ Rep H q vs' (qH a st) ∧ KnP a H p vk r ∧ rs[k]? = some r ∧ zT bs rs ∧ (∀ b ∈ bs, zE b.1 b.2) ∧ (∀ r ∈ rs, r.ok) ∧ qi bs rs st.cells ∧
 ∀ l H', Same H H' → H l = none → H' l = some (.lst ((qk rs st.cells r).map hdV)) → Q (.ref l) H'
theorem i_spHeads {a : Ad} {vs : List V} {H : Hp} {Q : VK} {E : XK} (vw vs' vk : V) (bs : List (Int × Int)) (rs : List Row) (st : PSt) (k : Nat) (r : Row) (p q : Addr → Prop) (q0 : vs = [vw, vs', vk]) (q1 : Rep H p vw (qG a bs rs)) (q2 : Rep H q vs' (qH a st)) (q3 : KnP a H p vk r) (q4 : rs[k]? = some r) (q5 : zT bs rs) (q6 : (∀ b ∈ bs, zE b.1 b.2)) (q7 : (∀ r ∈ rs, r.ok)) (q8 : qi bs rs st.cells) (q9 : ∀ l H', Same H H' → H l = none → H' l = some (.lst ((qk rs st.cells r).map hdV)) → Q (.ref l) H') : vN a vs H Q E := ⟨vw, vs', vk, bs, rs, st, k, r, p, q, q0, q1, q2, q3, q4, q5, q6, q7, q8, q9⟩
theorem ok_heads_of (T : Txt K mg a) (F : Fun K "heads_of" "heads_of" s_heads_of f fd) : FnOk P w K mg base (CXr P w) 2 f fd ["work", "state", "knot"] (vN a) := by
 refine F.okx sc_heads_of ?_ ?_
 ·walk_at "i"
 walk_at "j"
 refine oE8 h fun vw vs' vk bs rs st kn r z1_ => oE2 z1_ fun p q z2_ => oA6 z2_ fun z3_ hw hs hk hr' z4_ => oA5 z4_ fun wok bo ro co k => ?_
 clear h
 subst z3_
 refine oE8 (state_inv hs) fun y dx fs lc ls lg ucs ugs z1_ => oA9 z1_ fun z2_ hy e1 e2 e3 e4 hc rc z3_ => oA3 z3_ fun hsd hg rg => ?_
 subst z2_
 refine oE6 hk.inv fun y1 dx1 m1 m2 m3 fs1 z1_ => oA9 z1_ fun z2_ _ _ _ _ g0 f1 f2 z3_ => oA5 z3_ fun _ g1 g2 _ _ => ?_
 subst z2_
 have rl := xi (ro r (List.mem_of_getElem? hr'))
 walk_at "T"
 refine ⟨_, (zg (QB (i := 3) sc_heads_of.nd rfl (Or.inl rfl) (vars := ["belt"]) (caps := [1]) (N := ["belt", "state"]) (ON := ["work", "state", "knot", "ends"]) (osc := ze s_heads_of) rfl rfl (by first | decide +kernel | kernel_rfl) rfl rfl (qj (zu (pv 2) rfl)) (fun s H fp pins => (pg_n 0 (show (["belt", "state"] : List Str).Nodup from by decide +kernel))) (fun s H fp pins => qm) (fun s H fp pins => (zh (zh (zu (pv 1) rfl) (pv 0)) (xm jt zc))))  (zd (zi (jK (vars := ["ware"]) (caps := [0]) (N := ["ware", "work"]) (ON := ["work", "state", "knot", "ends"]) (osc := ze s_heads_of) rfl rfl (by first | decide +kernel | kernel_rfl) rfl rfl (qj (pv 3)) (fun s H fp pins => (pg_n 0 (show (["ware", "work"] : List Str).Nodup from by decide +kernel))) (fun s H fp pins => qm) (fun s H fp pins => (wL (zo qF (pv 0) zD (zq _)) zD (ZR hr (za (pv 1) (za (pv 0) zb))))))))), ?_⟩
 walk_at "go"
 walk_at "lc"
 walk_at "go"
 refine ra g0 (CT T _) (NI T _) f1 ⟨m1, rfl, .inl ⟨⟨_, SqL.of g1⟩, fun _ _ _ _ acc hacc => ?_⟩⟩
 let M1_ : Nat → St → Hp → Prop := fun i σ H' => ∃ (v0 : Option V) (us : List V), σ = [v0, some (.ref y)] ∧ Same H H' ∧ H' acc = some (.lst us) ∧ Reps H q us ((r.ins.take i).map fun b => zC (endW (zw st.cells b)))
 refine qV (K := K) (a := m1) (xs := iv r.ins) M1_ (iE2 _ ([]) (iA4 rfl (zf hacc) upd_same (by rw [List.take_zero]; exact .nil))) (fun i σ H' _ h => by obtain ⟨_, _, _, s, _⟩ := h; exact SqL.of (s _ _ g1)) ?_ ?_
 ·intro i x σ H2 hi zz_
  refine oE2 zz_ fun v0 us z1_ => oA4 z1_ fun z2_ s2 ha ru => ?_
  clear zz_
  subst z2_
  obtain ⟨b, hb, rfl⟩ := Q6 hi
  have hil := (List.getElem?_eq_some_iff.mp hb).1
  refine oE1 (qX co bo (xu wok hr' (List.mem_of_getElem? hb))) fun j z1_ => oA5 z1_ fun z2_ hj ej nej _ => ?_
  subst z2_
  obtain ⟨li, vi, hu, hli, ri⟩ := inner_at rc (i := j) (ds := (zw st.cells j).map zC) (by rw [zt, List.getElem?_map, ej]; rfl)
  obtain ⟨ve, he, re⟩ := QT ri (vZ (d := .non) (by simpa using nej))
  rw [wO] at re
  walk_at "go"
  refine ra (s2 _ _ hy) T.C_State T.N_State_cells e2 (zl (SqL.of (s2 _ _ hc)) (zr hu) ?_)
  walk_at "go"
  refine zl (SqL.of (s2 _ _ hli)) he ?_
  refine ⟨_, iA3 ha (zp (by rw [ru.len, List.length_map, List.length_take]; omega)) (iE2 _ (us ++ [ve]) (iA4 rfl (fun b o hb => by rw [upd_ne (ne_of_none hb hacc)]; exact s2 b o hb) upd_same ?_))⟩
  rw [List.take_add_one, hb, List.map_append]
  exact ru.append (.one re)
 intro σ H2 zz_
 refine oE2 zz_ fun v0 us z1_ => oA4 z1_ fun z2_ s2 ha ru => ?_
 clear zz_
 subst z2_
 rw [qz, List.take_length] at ru
 have lu : us.length = r.ins.length := by rw [ru.len, List.length_map]
 walk_at "go"
 walk_at "lc"
 walk_at "go"
 refine ⟨acc, rfl, .inl ⟨⟨_, SqL.of ha⟩, fun _ _ _ _ ac2 hac2 => ?_⟩⟩
 let M2_ : Nat → St → Hp → Prop := fun i σ H' => ∃ (v0 : Option V), σ = [v0, some vw] ∧ Same H2 H' ∧ H' ac2 = some (.lst ((((qk rs st.cells r).take i).map hdV)))
 refine qV (K := K) (a := acc) (xs := us) M2_ ⟨_, iA3 rfl (zf hac2) (by rw [List.take_zero]; exact upd_same)⟩ (fun i σ H' _ h => by obtain ⟨_, _, s, _⟩ := h; exact SqL.of (s _ _ ha)) ?_ ?_
 ·intro i x σ H3 hi zz_
  refine oE1 zz_ fun v0 z1_ => oA3 z1_ fun z2_ s3 ha3 => ?_
  clear zz_
  subst z2_
  obtain ⟨d, hd, rx⟩ := ru.at hi
  rw [List.getElem?_map, Option.map_eq_some_iff] at hd
  obtain ⟨b, hb, rfl⟩ := hd
  have hil := (List.getElem?_eq_some_iff.mp hb).1
  refine oE1 (qX co bo (xu wok hr' (List.mem_of_getElem? hb))) fun j z1_ => oA5 z1_ fun z2_ hj ej nej wk => ?_
  subst z2_
  have hwk := wk _ (Qi nej)
  have hh : (qk rs st.cells r)[i]? = some (Zy rs (endW (zw st.cells j))) := by rw [qk, List.getElem?_map, hb]; rfl
  have s23 := s2.trans s3
  have fin : ∀ u : V, u = hdV (Zy rs (endW (zw st.cells j))) → ∃ ys, H3 ac2 = some (.lst ys) ∧ ys.length < sizeLine ∧ ∃ (v0 : Option V), ([some x, some vw] : St) = [v0, some vw] ∧ Same H2 (upd H3 ac2 (.lst (ys ++ [u]))) ∧ upd H3 ac2 (.lst (ys ++ [u])) ac2 = some (.lst ((((qk rs st.cells r).take (i + 1)).map hdV))) := by
   rintro u rfl
   refine ⟨_, iA3 ha3 (zp (by rw [List.length_map, List.length_take]; omega)) ⟨_, iA3 rfl (fun b o hb => by rw [upd_ne (ne_of_none hb hac2)]; exact s3 b o hb) ?_⟩⟩
   rw [upd_same, List.take_add_one, hh, List.map_append]
   rfl
  walk_at "go"
  cases hE : endW (zw st.cells j) with
  | none =>
   rw [hE] at rx fin
   cases rx
   rw [if_pos rfl]
   exact fin _ rfl
  | some wr =>
   obtain ⟨sr, nr⟩ := wr
   rw [hE] at rx fin hwk
   refine oE2 (hwk _ _ rfl) fun j0 r0 z1_ => oA4 z1_ fun z2_ hr0 hw0 _ => ?_
   subst z2_
   have ok0 := ro r0 (List.mem_of_getElem? hr0)
   have kp : 0 < r0.kinds.length := by
    obtain ⟨wd, ins, outs, pc, ks⟩ := r0
    simp only at hw0
    subst hw0
    exact ok0.2.2.2.2.1
   obtain ⟨tw, rfl, htw⟩ := jD rx
   rw [if_neg (by intro z; cases z)]
   refine uc (c_kind_of T).mono (iE5 vw _ bs rs p (iE4 q j0 nr r0 (iA7 rfl (zW hw s23) (zW rx s23) hr0 hw0 kp ?_)))
   exact fin _ (by simp [Zy, hr0, hdV])
 ·intro σ H3 zz_
  refine oE1 zz_ fun v0 z1_ => oA3 z1_ fun z2_ s3 ha3 => ?_
  clear zz_
  subst z2_
  rw [lu, List.take_of_length_le (by simp [qk])] at ha3
  walk_at "go"
  exact k _ _ (s2.trans s3) (zy s2 hac2) ha3
theorem c_heads_of (T : Txt K mg a) : Cal P w K mg base "heads_of" 2 ["work", "state", "knot"] [] (vN a) := T.h_heads_of.cal (ok_heads_of T)
def Zo (K : PySem.W.Frag) : Sp := fun vs H Q _ => ∃ (l : Addr) (ns : List Int) (o : Option Nat), vs = [.ref l, optV o] ∧ H l = some (.lst (iv ns)) ∧ (∀ j, o = some j → j < ns.length) ∧ Q (hdV (o.bind fun j => ns[j]?)) H
theorem ok_belt_at (T : Txt K mg a) (F : Fun K "belt_at" "belt_at" s_belt_at f fd) : FnOk P w K mg base (CXr P w) 1 f fd ["belts", "place"] (Zo K) := by
 refine F.okx sc_belt_at ?_ ?_
 ·walk_at "i"
 walk_at "j"
 refine oE3 h fun l ns o z1_ => oA4 z1_ fun z2_ hl ho k => ?_
 clear h
 subst z2_
 walk_at "T"
 refine ⟨_, (zd (zi (wL (zo qF (pv 1) zD (zq _)) zD (zh (pv 0) (pv 1))))), ?_⟩
 walk_at "go"
 cases o with
 | none => exact ite2 (fun _ => k) (fun b => absurd rfl b)
 | some j =>
  have hj := ho j rfl
  refine ite2 (fun b => by cases b) (fun _ => ?_)
  refine zl (SqL.of hl) (zr (wP (List.getElem?_eq_getElem hj))) ?_
  have e : hdV ((some j).bind fun j => ns[j]?) = .int ns[j] := by simp [hj, hdV]
  rw [e] at k
  exact k
theorem vD (T : Txt K mg a) : Cal P w K mg base "belt_at" 1 ["belts", "place"] [] (Zo K) := T.h_belt_at.cal (ok_belt_at T)
theorem kitJ (T : Txt K mg a) (wd : Wd) : PySem.W.kitOne K (.ref (clsA a wd)) (.ref a.Joiner) = some (decide (wd = .joiner)) := by
 cases wd
 ·exact T.k1_Source_Joiner
 ·exact T.k1_Drain_Joiner
 ·exact T.k1_Joiner_Joiner
def cpOf (r : Row) (ch : Option Nat × Option Nat × Nat) : Nat := if r.wd = .joiner then ch.1.getD 0 else ch.2.1.getD 0
def xH (a : Ad) : Sp := fun vs H Q _ => ∃ (vk : V) (t : Addr) (r : Row) (ch : Option Nat × Option Nat × Nat) (p : Addr → Prop), vs = [vk, .ref t] ∧ KnP a H p vk r ∧ H t = some (.tup (chV ch)) ∧ (r.wd = .joiner → ∃ j, ch.1 = some j) ∧ Q (.int (cpOf r ch)) H
theorem i_spCounted {a : Ad} {vs : List V} {H : Hp} {Q : VK} {E : XK} (vk : V) (t : Addr) (r : Row) (ch : Option Nat × Option Nat × Nat) (p : Addr → Prop) (q0 : vs = [vk, .ref t]) (q1 : KnP a H p vk r) (q2 : H t = some (.tup (chV ch))) (q3 : (r.wd = .joiner → ∃ j, ch.1 = some j)) (q4 : Q (.int (cpOf r ch)) H) : xH a vs H Q E := ⟨vk, t, r, ch, p, q0, q1, q2, q3, q4⟩
theorem ok_counted_place (T : Txt K mg a) (F : Fun K "counted_place" "counted_place" s_counted_place f fd) : FnOk P w K mg base (CXr P w) 1 f fd ["knot", "chosen"] (xH a) := by
 refine F.okx sc_counted_place ?_ ?_
 ·walk_at "i"
 walk_at "j"
 refine oE5 h fun vk t r ch p z1_ => oA5 z1_ fun z2_ hk ht hj k => ?_
 clear h
 subst z2_
 refine oE6 hk.inv fun y1 dx1 m1 m2 m3 fs1 z1_ => oA9 z1_ fun z2_ _ _ _ _ g0 f1 f2 z3_ => oA5 z3_ fun _ g1 g2 _ _ => ?_
 subst z2_
 walk_at "T"
 refine ⟨_, (zj (zA (zz (zG jm zQ (za (pv 0) (za jX zb))) (fun _ => rfl))  (zd (zi (zh (pv 1) zc)))  zk)  (zd (zi (wL (zo qF (zh (pv 1) zc) zD (zq _)) zc (zh (pv 1) zc))))), ?_⟩
 walk_at "go"
 refine iE2 (.ref a.Joiner) _ (iA3 T.g_Joiner rfl (iE4 _ _ _ _ (iA4 rfl ((WT T r.wd).ty (CT T r.wd) g0) (.inl ⟨_, rfl, kitJ T r.wd⟩) ?_)))
 walk_at "go"
 unfold cpOf at k
 refine ite2 (fun b => ?_) (fun b => ?_)
 ·rw [if_pos b] at k
  obtain ⟨j, ej⟩ := hj b
  walk_at "go"
  refine rd_ixT ht at0 ?_
  rw [ej] at k ⊢
  exact k
 ·rw [if_neg b] at k
  walk_at "go"
  refine rd_ixT ht (show atI (chV ch) 1 = some (optV ch.2.1) from rfl) ?_
  walk_at "go"
  cases e : ch.2.1 with
  | none =>
   rw [e] at k
   exact ite2 (fun _ => k) (fun b => absurd rfl b)
  | some j =>
   rw [e] at k
   refine ite2 (fun b => by cases b) (fun _ => ?_)
   refine rd_ixT ht (show atI (chV ch) 1 = some (optV ch.2.1) from rfl) ?_
   rw [e]
   exact k
theorem c_counted_place (T : Txt K mg a) : Cal P w K mg base "counted_place" 1 ["knot", "chosen"] [] (xH a) := T.h_counted_place.cal (ok_counted_place T)
def Zn (a : Ad) : Sp := fun vs H Q _ => ∃ (v : V) (st : PSt) (p : Addr → Prop), vs = [v] ∧ Rep H p v (qH a st) ∧ st.cells.length ≤ 100 ∧ st.gone.length ≤ 100 ∧ ∀ v' H', Same H H' → StNew a H H' v' st → Q v' H'
theorem ok_copied_state (T : Txt K mg a) (F : Fun K "copied_state" "copied_state" s_copied_state f fd) : FnOk P w K mg base (CXr P w) 3 f fd ["state"] (Zn a) := by
 refine F.okx sc_copied_state ?_ ?_
 ·walk_at "i"
 walk_at "j"
 refine oE3 h fun v st p z1_ => oA5 z1_ fun z2_ hs lc lg k => ?_
 clear h
 subst z2_
 refine oE3 (Rep.ob' hs) fun y dx fs z1_ => oA5 z1_ fun z2_ py hy g1 g2 => ?_
 subst z2_
 obtain ⟨u1, e1, r1⟩ := g1 _ _ (wu st)
 obtain ⟨u2, e2, r2⟩ := g1 _ _ (xD st)
 obtain ⟨u3, e3, r3⟩ := g1 _ _ (xC st)
 obtain ⟨u4, e4, r4⟩ := g1 _ _ (wv st)
 cases r1
 walk_at "T"
 refine ⟨_, (zd (zi (xX ⟨rfl, rfl, rfl⟩ hr (za (zu (pv 0) rfl) (za (zu (pv 0) rfl) (za (zu (pv 0) rfl) (za (zu (pv 0) rfl) zb))))))), ?_⟩
 walk_at "go"
 refine iE4 a.State _ _ _ ⟨(Z8 T).mono, iE5 y a.State dx fs _ (iA6 rfl hy T.C_State T.N_State_turn e1 ?_)⟩
 refine ra hy T.C_State T.N_State_cells e2 ?_
 refine ra hy T.C_State T.N_State_sides e3 ?_
 refine ra hy T.C_State T.N_State_gone e4 ?_
 exact Zv T (st := st) r2 r3 r4 lc lg fun y' H' s' sn => k _ _ s' sn
theorem jS (T : Txt K mg a) : Cal P w K mg base "copied_state" 3 ["state"] [] (Zn a) := T.h_copied_state.cal (ok_copied_state T)
section
variable {H : Hp} {y : Addr} {n : SN} {st : PSt}
theorem StO.nds (h : StO a H y n st) : n.ls ∉ n.lc :: n.lg :: (n.acs ++ n.ags) ∧ n.lc ∉ n.lg :: (n.acs ++ n.ags) ∧ n.lg ∉ n.acs ++ n.ags ∧ ∀ x ∈ n.acs, x ∉ n.ags := by
 have nd := h.nd
 unfold SN.all at nd
 rw [List.nodup_cons, List.nodup_cons, List.nodup_cons, List.nodup_append] at nd
 exact ⟨nd.1, nd.2.1, nd.2.2.1, fun x hx hy => nd.2.2.2.2.2 x hx x hy rfl⟩
theorem ju {x : Addr} {us vs : List V} (hx : H x = some (.lst us)) {b : Addr} (h : TupP H b) : TupP (upd H x (.lst vs)) b := by
 obtain ⟨xs, hb⟩ := h
 exact ⟨xs, by rw [upd_ne (fun z => by rw [z, hx] at hb; cases hb)]; exact hb⟩
theorem StO.putC {i : Nat} {b : Addr} {c' : List Ware} {vs : List V} (h : StO a H y n st) (e : n.acs[i]? = some b) (r : Reps H (TupP H) vs (c'.map zC)) : StO a (upd H b (.lst vs)) y n { st with cells := st.cells.set i c' } := by
 have hb := List.mem_of_getElem? e
 obtain ⟨us, hu⟩ := h.hc.isl (List.mem_cons_of_mem _ hb)
 obtain ⟨n1, n2, n3, n4⟩ := h.nds
 have k : ∀ c o, c ≠ b → H c = some o → upd H b (.lst vs) c = some o := fun c o nc hc => by rw [upd_ne nc]; exact hc
 have ntb : ¬ TupP H b := fun ⟨xs, hx⟩ => by rw [hu] at hx; cases hx
 refine ⟨k _ _ (fun z => by rw [← z, h.hy] at hu; cases hu) h.hy, ?_, k _ _ (fun z => n1 (by rw [z]; simp [hb])) h.hs, h.hg.tup fun c o hz hc => k c o (fun z => ?_) hc, h.nd⟩
 ·have := h.hc.put (vs := vs) (ys := c'.map zC) e ntb r
  rw [show zt (st.cells.set i c') = (zt st.cells).set i (c'.map zC) by simp [zt, List.map_set]]
  exact this.keep (fun _ _ _ hc => hc) fun c hc _ => ju hu hc
 ·subst z
  rcases hz with rfl | hz | hz
  ·exact n3 (List.mem_append_left _ hb)
  ·exact n4 c hb hz
  ·exact ntb hz
theorem StO.putG {i : Nat} {b : Addr} {g' : List Int} (h : StO a H y n st) (e : n.ags[i]? = some b) : StO a (upd H b (.lst (iv g'))) y n { st with gone := st.gone.set i g' } := by
 have hb := List.mem_of_getElem? e
 obtain ⟨us, hu⟩ := h.hg.isl (List.mem_cons_of_mem _ hb)
 obtain ⟨n1, n2, n3, n4⟩ := h.nds
 have k : ∀ c o, c ≠ b → H c = some o → upd H b (.lst (iv g')) c = some o := fun c o nc hc => by rw [upd_ne nc]; exact hc
 have ntb : ¬ TupP H b := fun ⟨xs, hx⟩ => by rw [hu] at hx; cases hx
 refine ⟨k _ _ (fun z => by rw [← z, h.hy] at hu; cases hu) h.hy, h.hc.tup fun c o hz hc => k c o (fun z => ?_) hc, k _ _ (fun z => n1 (by rw [z]; simp [hb])) h.hs, ?_, h.nd⟩
 ·subst z
  rcases hz with rfl | hz | hz
  ·exact n2 (List.mem_cons_of_mem _ (List.mem_append_right _ hb))
  ·exact n4 c hz hb
  ·exact ntb hz
 ·have := h.hg.put (vs := iv g') (ys := g'.map D.int) e ntb reps_ints
  rw [show zP (st.gone.set i g') = (zP st.gone).set i (g'.map D.int) by simp [zP, List.map_set]]
  exact this.keep (fun _ _ _ hc => hc) fun c hc _ => ju hu hc
theorem StO.putS {s' : List Int} (h : StO a H y n st) : StO a (upd H n.ls (.lst (iv s'))) y n { st with sides := s' } := by
 obtain ⟨n1, n2, n3, n4⟩ := h.nds
 have k : ∀ c o, c ≠ n.ls → H c = some o → upd H n.ls (.lst (iv s')) c = some o := fun c o nc hc => by rw [upd_ne nc]; exact hc
 have kt : ∀ c, TupP H c → c ≠ n.ls := fun c ⟨xs, hx⟩ z => by rw [z, h.hs] at hx; cases hx
 refine ⟨k _ _ (fun z => by have := h.hy; rw [z, h.hs] at this; cases this) h.hy, h.hc.tup fun c o hz hc => k c o (fun z => ?_) hc, upd_same, h.hg.tup fun c o hz hc => k c o (fun z => ?_) hc, h.nd⟩
 ·rcases hz with rfl | hz | hz
  ·exact n1 (by rw [← z]; simp)
  ·exact n1 (by rw [← z]; simp [hz])
  ·exact kt c hz z
 ·rcases hz with rfl | hz | hz
  ·exact n1 (by rw [← z]; simp)
  ·exact n1 (by rw [← z]; simp [hz])
  ·exact kt c hz z
theorem StO.cell {i : Nat} {c : List Ware} (h : StO a H y n st) (e : st.cells[i]? = some c) : ∃ b vs, n.acs[i]? = some b ∧ H b = some (.lst vs) ∧ Reps H (TupP H) vs (c.map zC) := h.hc.at (by rw [zt, List.getElem?_map, e]; rfl)
theorem StO.goneL {i : Nat} {g : List Int} (h : StO a H y n st) (e : st.gone[i]? = some g) : ∃ b, n.ags[i]? = some b ∧ H b = some (.lst (iv g)) := by
 obtain ⟨b, vs, h1, h2, h3⟩ := h.hg.at (i := i) (xs := g.map D.int) (by rw [zP, List.getElem?_map, e]; rfl)
 rw [xt h3] at h2
 exact ⟨b, h1, h2⟩
theorem sff_l {t : Int} {lc ls lg : Addr} : (sff t lc ls lg).lookup ("cells" : Str) = some (.ref lc) ∧ (sff t lc ls lg).lookup ("sides" : Str) = some (.ref ls) ∧ (sff t lc ls lg).lookup ("gone" : Str) = some (.ref lg) ∧ (sff t lc ls lg).lookup ("turn" : Str) = some (.int t) := by
 unfold sff
 refine iA4 ((zH (by decide +kernel)).trans qt) ((zH (by decide +kernel)).trans ((zH (by decide +kernel)).trans qt)) ((zH (by decide +kernel)).trans ((zH (by decide +kernel)).trans ((zH (by decide +kernel)).trans qt))) qt
theorem xB {i : Nat} {b : Addr} (e : n.acs[i]? = some b) : (n.acs.map V.ref)[i]? = some (.ref b) := by rw [List.getElem?_map, e]; rfl
theorem Qs {i : Nat} {b : Addr} (e : n.ags[i]? = some b) : (n.ags.map V.ref)[i]? = some (.ref b) := by rw [List.getElem?_map, e]; rfl
theorem Zf {b : Addr} {i : Nat} (e : n.acs[i]? = some b) : b ∈ y :: n.all := by simp [SN.all, List.mem_of_getElem? e]
theorem ags_all {b : Addr} {i : Nat} (e : n.ags[i]? = some b) : b ∈ y :: n.all := by simp [SN.all, List.mem_of_getElem? e]
end
def jI (c : List Ware) : List Ware := c.set (c.length - 1) none
def qq (st : PSt) (k : Nat) : Option Int → Ware × PSt
 | none => (some ((k : Int), (st.gone.getD k []).headD 0), st)
 | some b => (endW (zw st.cells b), { st with cells := st.cells.set b.toNat (jI (zw st.cells b)) })
theorem Reps.set {H : Hp} {p : Addr → Prop} {vs : List V} {ds : List D} {v : V} {d : D} (h : Reps H p vs ds) (i : Nat) (r : Rep H p v d) : Reps H p (vs.set i v) (ds.set i d) := by
 refine ⟨by rw [List.length_set, List.length_set, h.len], fun j u e h1 h2 => ?_⟩
 by_cases hj : j = i
 ·subst hj
  have hl : j < vs.length := by have := (List.getElem?_eq_some_iff.mp h1).1; rw [List.length_set] at this; exact this
  rw [List.getElem?_set_self hl] at h1
  rw [List.getElem?_set_self (by rw [← h.len]; exact hl)] at h2
  cases h1
  cases h2
  exact r
 ·rw [List.getElem?_set_ne (Ne.symm hj)] at h1 h2
  exact h.g j u e h1 h2
def vK (a : Ad) : Sp := fun vs H Q _ => ∃ (y : Addr) (n : SN) (st : PSt) (k : Nat) (fb : Option Int) (g0 : Int) (gs : List Int), vs = [.ref y, .int k, hdV fb] ∧ StO a H y n st ∧ st.gone[k]? = some (g0 :: gs) ∧ (∀ b, fb = some b → ∃ i : Nat, b = i ∧ st.cells[i]? = some (zw st.cells b) ∧ zw st.cells b ≠ []) ∧
 ∀ v H', Fr (y :: n.all) H H' → StO a H' y n (qq st k fb).2 → Rep H' (TupP H') v (zC (qq st k fb).1) → Q v H'
theorem i_spTaken {a : Ad} {vs : List V} {H : Hp} {Q : VK} {E : XK} (y : Addr) (n : SN) (st : PSt) (k : Nat) (fb : Option Int) (g0 : Int) (gs : List Int) (q0 : vs = [.ref y, .int k, hdV fb]) (q1 : StO a H y n st) (q2 : st.gone[k]? = some (g0 :: gs)) (q3 : (∀ b, fb = some b → ∃ i : Nat, b = i ∧ st.cells[i]? = some (zw st.cells b) ∧ zw st.cells b ≠ [])) (q4 : ∀ v H', Fr (y :: n.all) H H' → StO a H' y n (qq st k fb).2 → Rep H' (TupP H') v (zC (qq st k fb).1) → Q v H') : vK a vs H Q E := ⟨y, n, st, k, fb, g0, gs, q0, q1, q2, q3, q4⟩
theorem ok_taken_ware (T : Txt K mg a) (F : Fun K "taken_ware" "taken_ware" s_taken_ware f fd) : FnOk P w K mg base (CXr P w) 1 f fd ["state", "number", "from_belt"] (vK a) := by
 refine F.okx sc_taken_ware ?_ ?_
 ·walk_at "i"
 walk_at "j"
 refine oE7 h fun y n st kn fb g0 gs z1_ => oA5 z1_ fun z2_ so hg hf k => ?_
 clear h
 subst z2_
 refine oA4 (sff_l (t := st.turn) (lc := n.lc) (ls := n.ls) (lg := n.lg)) fun lk1 lk2 lk3 lk4 => ?_
 walk_at "T"
 refine ⟨_, (zj (zA (zo qF (pv 2) zD (zq _))  (zd (zi (qr (za (pv 1) (za (zh (zh (zu (pv 0) rfl) (pv 1)) zc) zb)))))  zk)  (zj (zF 3 sc_taken_ware.nd (zh (zh (zu (pv 0) rfl) (pv 2)) (xm jt zc)))  (zj (qS zD (jl (zh (zu (pv 0) rfl) (pv 2)) (xm jt zc) z7))  (zd (zi (pv 3)))))), ?_⟩
 walk_at "go"
 cases fb with
 | none =>
  refine ite2 (fun _ => ?_) (fun b => absurd rfl b)
  obtain ⟨bG, hbG, hgG⟩ := so.goneL hg
  walk_at "go"
  refine ra so.hy T.C_State T.N_State_gone lk3 (zl (SqL.of so.hg.out) (zr (Qs hbG)) (zl (SqL.of hgG) at0 ?_))
  walk_at "go"
  intro t ht
  refine k _ _ (wV ht) (so.same (zf ht)) ?_
  have e : (st.gone.getD kn []).headD 0 = g0 := by simp [List.getD, hg]
  show Rep _ _ _ (D.tup [.int kn, .int ((st.gone.getD kn []).headD 0)])
  rw [e]
  exact Reps.mkT (vs := [.int kn, .int g0]) (.cons .int (.cons .int .nil)) ⟨_, upd_same⟩ upd_same
 | some b =>
  refine oE1 (hf b rfl) fun i z1_ => oA3 z1_ fun z2_ hc nc => ?_
  subst z2_
  refine oE2 (so.cell hc) fun bC vs z1_ => oA3 z1_ fun hbC hvC rvC => ?_
  have lv : vs.length = (zw st.cells i).length := by rw [rvC.len, List.length_map]
  have lp : 0 < vs.length := by rw [lv]; exact List.length_pos_iff.mpr nc
  obtain ⟨ve, he, re⟩ := QT rvC (vZ (d := .non) (by simpa using nc))
  rw [wO] at re
  refine ite2 (fun b => by cases b) (fun _ => ?_)
  walk_at "go"
  refine ra so.hy T.C_State T.N_State_cells lk1 (zl (SqL.of so.hc.out) (zr (xB hbC)) ?_)
  walk_at "go"
  refine zl (SqL.of hvC) he ?_
  walk_at "go"
  refine ra so.hy T.C_State T.N_State_cells lk1 (zl (SqL.of so.hc.out) (zr (xB hbC)) ?_)
  walk_at "go"
  refine qh (j := vs.length - 1) hvC ?_ ?_
  ·unfold ixN
   rw [if_neg (by decide), if_pos (by omega)]
   congr 1
   omega
  have e2 : (jI (zw st.cells i)).map zC = ((zw st.cells i).map zC).set (vs.length - 1) .non := by
   unfold jI
   rw [List.map_set, lv]
   rfl
  have r2 : Reps H (TupP H) (vs.set (vs.length - 1) .non) ((jI (zw st.cells i)).map zC) := by rw [e2]; exact Reps.set rvC _ .non
  refine k _ _ (qc (Zf hbC)) ?_ ?_
  ·have := so.putC hbC r2
   simpa [qq] using this
  ·refine Rep.keep (fun c o pc hc => ⟨ju hvC pc, ?_⟩) re
   obtain ⟨xs, hx⟩ := pc
   rw [upd_ne (fun z => by rw [z, hvC] at hx; cases hx)]; exact hc
theorem c_taken_ware (T : Txt K mg a) : Cal P w K mg base "taken_ware" 1 ["state", "number", "from_belt"] [] (vK a) := T.h_taken_ware.cal (ok_taken_ware T)
structure Move where
 k : Nat
 ware : Ware
 fr : Option Int
 to : Option Int
def dOpt : Option Int → D
 | none => .non
 | some b => .int b
theorem ZY {H : Hp} {p : Addr → Prop} (o : Option Int) : Rep H p (hdV o) (dOpt o) := by
 cases o
 ·exact .non
 ·exact .int
def qf (m : Move) : D := .tup [.int m.k, zC m.ware, dOpt m.fr, dOpt m.to]
def QS : Option Move → D
 | none => .non
 | some m => qf m
def wJ (st : PSt) (x : Ware) : Option Int → PSt
 | none => st
 | some b => { st with cells := st.cells.set b.toNat ((zw st.cells b).set 0 x) }
def bump (g : List Int) (j : Nat) : List Int := g.set j (g.getD j 0 + 1)
def fbOf (r : Row) (ch : Option Nat × Option Nat × Nat) : Option Int := ch.1.bind fun j => r.ins[j]?
def tbOf (r : Row) (ch : Option Nat × Option Nat × Nat) : Option Int := ch.2.1.bind fun j => r.outs[j]?
def movedF (r : Row) (st : PSt) (k : Nat) (ch : Option Nat × Option Nat × Nat) : PSt := wJ (qq st k (fbOf r ch)).2 (qq st k (fbOf r ch)).1 (tbOf r ch)
def wY (r : Row) (st : PSt) (k : Nat) (ch : Option Nat × Option Nat × Nat) : PSt × Move :=
 ({ movedF r st k ch with sides := (movedF r st k ch).sides.set k ch.2.2, gone := (movedF r st k ch).gone.set k (bump ((movedF r st k ch).gone.getD k []) (cpOf r ch)) }, ⟨k, (qq st k (fbOf r ch)).1, fbOf r ch, tbOf r ch⟩)
def actF (rs : List Row) (st : PSt) (k : Nat) : PSt × Option Move := match rs[k]? with
 | none => (st, none)
 | some r => match qv r (qk rs st.cells r) (jf st.cells r) st.turn (st.sides.getD k 0).toNat with
  | none => (st, none)
  | some ch => ((wY r st k ch).1, some (wY r st k ch).2)
theorem xP {bs : List (Int × Int)} {rs : List Row} {cs : List (List Ware)} (h : qi bs rs cs) {i : Nat} {c c' : List Ware} (e : cs[i]? = some c) (l : c'.length = c.length) (k : ∀ x ∈ c', jk rs x) : qi bs rs (cs.set i c') := by
 refine ⟨by rw [List.length_set]; exact h.1, fun j b d h1 h2 => ?_⟩
 by_cases hj : j = i
 ·subst hj
  rw [List.getElem?_set_self (List.getElem?_eq_some_iff.mp e).1] at h2
  cases h2
  exact ⟨by rw [l]; exact (h.2 j b c h1 e).1, k⟩
 ·rw [List.getElem?_set_ne (Ne.symm hj)] at h2
  exact h.2 j b d h1 h2
theorem va {rs : List Row} : jk rs none := fun _ _ z => nomatch z
theorem jO {α : Type} {xs : List α} {i : Nat} {x y : α} (h : y ∈ xs.set i x) : y ∈ xs ∨ y = x := List.mem_or_eq_of_mem_set h
theorem vC {r : Row} {hs : List (Option Int)} {bs : List Bool} {t : Int} {side : Nat} {ch : Option Nat × Option Nat × Nat} (ok : r.ok) (hl : hs.length = r.ins.length) (bl : bs.length = r.outs.length) (sd : xI r side) (h : qv r hs bs t side = some ch) :
  (∀ j, ch.1 = some j → j < r.ins.length) ∧ (∀ j, ch.2.1 = some j → j < r.outs.length) ∧ (r.wd = .joiner → ∃ j, ch.1 = some j) ∧ (ch.1 = none → r.wd = .source) ∧ xI r ch.2.2 ∧ cpOf r ch < (jc r).length := by
 obtain ⟨wd, ins, outs, pace, kinds⟩ := r
 have cp := jr ok
 unfold qv at h
 cases wd with
 | source =>
  simp only at h
  obtain ⟨h1, ⟨o, h2⟩, _⟩ := ok
  simp only at h1 h2
  subst h1 h2
  split at h
  ·cases h
   exact ⟨(fun j z => nomatch z), fun j z => by cases z; simp, (fun z => nomatch z), fun _ => rfl, sd, by simp [cpOf]; omega⟩
  ·cases h
 | drain =>
  simp only at h
  obtain ⟨⟨o, h1⟩, h2, _⟩ := ok
  simp only at h1 h2
  subst h1 h2
  split at h
  ·cases h
  ·cases h
   exact ⟨fun j z => by cases z; simp, (fun j z => nomatch z), (fun z => nomatch z), (fun z => nomatch z), sd, by simp [cpOf]; omega⟩
 | joiner =>
  simp only at h
  obtain ⟨⟨o, h1⟩, h2, h3⟩ := ok
  simp only at h1 h2 h3 hl
  subst h1
  split at h
  ·rw [Option.map_eq_some_iff] at h
   obtain ⟨q, hq, rfl⟩ := h
   have hlt := vz hq
   rw [List.length_map] at hlt
   refine ⟨fun j z => by cases z; show q < ins.length; omega, fun j z => by cases z; simp, fun _ => ⟨q, rfl⟩, (fun z => nomatch z), ⟨Int.natCast_nonneg _, (fun z => nomatch z), fun _ => ?_, fun _ z => absurd rfl z⟩, ?_⟩
   ·have := Nat.mod_lt (q + 1) (show 0 < hs.length by omega)
    show (((q + 1) % hs.length : Nat) : Int) < ins.length
    omega
   ·simp only [cpOf, Option.getD_some]
    rw [if_pos trivial]
    show q < (List.replicate (max ins.length 1) 0).length
    rw [List.length_replicate]
    omega
  ·cases h
theorem Zi {bs : List (Int × Int)} {rs : List Row} {st : PSt} {k : Nat} {r : Row} {fb : Option Int} (wf : stWf bs rs st) (wok : zT bs rs) (bo : ∀ b ∈ bs, zE b.1 b.2) (ro : ∀ r ∈ rs, r.ok) (hr : rs[k]? = some r) (hf : ∀ b, fb = some b → b ∈ rgI bs.length) (hn : fb = none → r.wd = .source) :
  stWf bs rs (qq st k fb).2 ∧ jk rs (qq st k fb).1 := by
 cases fb with
 | none =>
  refine ⟨wf, fun s n z => ?_⟩
  have z : ((k : Int), (st.gone.getD k []).headD 0) = (s, n) := Option.some.inj z
  cases z
  refine iE2 k r (iA4 rfl hr (hn rfl) ?_)
  have hk := (List.getElem?_eq_some_iff.mp hr).1
  have hg : st.gone[k]? = some (st.gone.getD k []) := by
   rw [List.getD_eq_getElem?_getD, List.getElem?_eq_getElem (by rw [wf.go.1]; exact hk)]
   rfl
  obtain ⟨q1, q2⟩ := wf.go.2 k r _ hr hg
  have cp := jr (ro r (List.mem_of_getElem? hr))
  cases e : st.gone.getD k [] with
  | nil => rw [e] at q1; simp at q1; omega
  | cons x xs => exact q2 x (by rw [e]; simp)
 | some b =>
  refine oE1 (qX wf.co bo (hf b rfl)) fun i z1_ => oA5 z1_ fun z2_ hi ei ne wk => ?_
  subst z2_
  refine ⟨⟨?_, wf.so, wf.go⟩, wk _ (Qi ne)⟩
  show qi bs rs (st.cells.set _ _)
  rw [Int.toNat_natCast]
  refine xP wf.co ei (by simp [jI]) fun x hx => ?_
  rcases jO hx with h | h
  ·exact wk x h
  ·rw [h]; exact va
theorem Zq {bs : List (Int × Int)} {rs : List Row} {st : PSt} {x : Ware} {tb : Option Int} (wf : stWf bs rs st) (bo : ∀ b ∈ bs, zE b.1 b.2) (hf : ∀ b, tb = some b → b ∈ rgI bs.length) (hx : jk rs x) : stWf bs rs (wJ st x tb) := by
 cases tb with
 | none => exact wf
 | some b =>
  refine oE1 (qX wf.co bo (hf b rfl)) fun i z1_ => oA5 z1_ fun z2_ hi ei ne wk => ?_
  subst z2_
  refine ⟨?_, wf.so, wf.go⟩
  show qi bs rs (st.cells.set _ _)
  rw [Int.toNat_natCast]
  refine xP wf.co ei (by simp) fun z hz => ?_
  rcases jO hz with h | h
  ·exact wk z h
  ·rw [h]; exact hx
theorem side_set {rs : List Row} {sds : List Int} {k : Nat} {r : Row} {s : Int} (h : wg rs sds) (hr : rs[k]? = some r) (hs : xI r s) : wg rs (sds.set k s) := by
 refine ⟨by rw [List.length_set]; exact h.1, fun j r2 s2 h1 h2 => ?_⟩
 by_cases hj : j = k
 ·subst hj
  rw [List.getElem?_set_self (by rw [h.1]; exact (List.getElem?_eq_some_iff.mp h1).1)] at h2
  cases h2
  rw [hr] at h1
  cases h1
  exact hs
 ·rw [List.getElem?_set_ne (Ne.symm hj)] at h2
  exact h.2 j r2 s2 h1 h2
theorem qp {α : Type} {xs : List α} {k : Nat} {d : α} (h : k < xs.length) : xs[k]? = some (xs.getD k d) := by
 rw [List.getD_eq_getElem?_getD, List.getElem?_eq_getElem h]; rfl
theorem Qq {g : List Int} {j : Nat} (h : ∀ x ∈ g, 0 ≤ x) : (bump g j).length = g.length ∧ ∀ x ∈ bump g j, 0 ≤ x := by
 refine ⟨by simp [bump], fun x hx => ?_⟩
 rcases jO hx with z | z
 ·exact h x z
 ·rw [z]
  have : 0 ≤ g.getD j 0 := by
   rw [List.getD_eq_getElem?_getD]
   cases e : g[j]? with
   | none => simp
   | some v => exact h v (List.mem_of_getElem? e)
  omega
theorem actF_wf {bs : List (Int × Int)} {rs : List Row} {st : PSt} {k : Nat} (wf : stWf bs rs st) (wok : zT bs rs) (bo : ∀ b ∈ bs, zE b.1 b.2) (ro : ∀ r ∈ rs, r.ok) : stWf bs rs (actF rs st k).1 := by
 unfold actF
 cases hr : rs[k]? with
 | none => exact wf
 | some r =>
  simp only
  have hk := (List.getElem?_eq_some_iff.mp hr).1
  have ok := ro r (List.mem_of_getElem? hr)
  have hsd := wf.so.2 k r _ hr (qp (d := 0) (by rw [wf.so.1]; exact hk))
  have hsd' : xI r ((st.sides.getD k 0).toNat : Int) := by rw [Int.toNat_of_nonneg hsd.1]; exact hsd
  cases hc : qv r (qk rs st.cells r) (jf st.cells r) st.turn (st.sides.getD k 0).toNat with
  | none => exact wf
  | some ch =>
   refine oA6 (vC ok (by simp [qk]) (by simp [jf]) hsd' hc) fun c1 c2 c3 c4 c5 c6 => ?_
   have hfb : ∀ b, fbOf r ch = some b → b ∈ rgI bs.length := fun b hb => by
    unfold fbOf at hb
    obtain ⟨j, hj1, hj2⟩ := Option.bind_eq_some_iff.mp hb
    exact xu wok hr (List.mem_of_getElem? hj2)
   have htb : ∀ b, tbOf r ch = some b → b ∈ rgI bs.length := fun b hb => by
    unfold tbOf at hb
    obtain ⟨j, hj1, hj2⟩ := Option.bind_eq_some_iff.mp hb
    exact xo wok hr (List.mem_of_getElem? hj2)
   have hfn : fbOf r ch = none → r.wd = .source := fun hb => by
    cases e : ch.1 with
    | none => exact c4 e
    | some j =>
     unfold fbOf at hb
     rw [e] at hb
     simp at hb
     have := c1 j e
     omega
   obtain ⟨w1, w2⟩ := Zi wf wok bo ro hr hfb hfn
   have w3 := Zq w1 bo htb w2
   refine ⟨w3.co, side_set w3.so hr c5, ?_⟩
   have hg := qp (xs := (movedF r st k ch).gone) (k := k) (d := []) (by rw [show (movedF r st k ch).gone.length = rs.length from w3.go.1]; exact hk)
   obtain ⟨q1, q2⟩ := w3.go.2 k r _ hr hg
   exact ZD w3.go hg (Qq q2).1 (Qq q2).2
theorem KnP.no {H : Hp} {p : Addr → Prop} {y C dx : Addr} {fs : List (Str × V)} {r : Row} {f : Str} (h : KnP a H p (.ref y) r) (hy : H y = some (.ins C dx fs)) (h1 : f ≠ "ins") (h2 : f ≠ "outs") (h3 : f ≠ "pace") (h4 : f ≠ "kinds") (h5 : f ≠ "kind") : fs.lookup f = none := by
 obtain ⟨y', dx', fs', e, _, hy', _, g⟩ := Rep.ob' h
 cases e
 rw [hy] at hy'
 cases hy'
 exact g f (QH h1 h2 h3 h4 h5)
theorem StO.offT {H : Hp} {y : Addr} {n : SN} {st : PSt} (h : StO a H y n st) {b : Addr} (t : TupP H b) : b ∉ y :: n.all := by
 obtain ⟨xs, hx⟩ := t
 intro hb
 have no : ∀ us, H b ≠ some (.lst us) := fun us e => by rw [hx] at e; cases e
 unfold SN.all at hb
 rcases List.mem_cons.mp hb with rfl | hb
 ·rw [h.hy] at hx; cases hx
 rcases List.mem_cons.mp hb with rfl | hb
 ·exact no _ h.hs
 rcases List.mem_cons.mp hb with rfl | hb
 ·exact no _ h.hc.out
 rcases List.mem_cons.mp hb with rfl | hb
 ·exact no _ h.hg.out
 rcases List.mem_append.mp hb with hb | hb
 ·obtain ⟨us, e⟩ := h.hc.isl (List.mem_cons_of_mem _ hb)
  exact no _ e
 ·obtain ⟨us, e⟩ := h.hg.isl (List.mem_cons_of_mem _ hb)
  exact no _ e
theorem StO.repT {H H' : Hp} {y : Addr} {n : SN} {st : PSt} (h : StO a H y n st) (s : Fr (y :: n.all) H H') {v : V} {d : D} (r : Rep H (TupP H) v d) : Rep H' (TupP H') v d :=
 Rep.keep (fun b o hp hb => ⟨by obtain ⟨xs, hx⟩ := hp; exact ⟨xs, s _ _ (h.offT ⟨xs, hx⟩) hx⟩, s _ _ (h.offT hp) hb⟩) r
theorem QM (ns : List Int) (k : Nat) (x : Int) : (iv ns).set k (.int x) = iv (ns.set k x) := by simp [iv]
theorem xJ {H H' : Hp} {v : V} {d : D} (r : Rep H (TupP H) v d) (s : Same H H') : Rep H' (TupP H') v d := Rep.keep (fun b o ⟨xs, hx⟩ hb => ⟨⟨xs, s _ _ hx⟩, s _ _ hb⟩) r
def Qx (a : Ad) : Sp := fun vs H Q _ => ∃ (vw : V) (y : Addr) (n : SN) (st : PSt) (k : Nat) (bs : List (Int × Int)) (rs : List Row), vs = [vw, .ref y, .int k] ∧ Rep H (Off (y :: n.all)) vw (qG a bs rs) ∧ StO a H y n st ∧ stWf bs rs st ∧ zT bs rs ∧ (∀ b ∈ bs, zE b.1 b.2) ∧ (∀ r ∈ rs, r.ok) ∧ k < rs.length ∧
 ∀ v H', Fr (y :: n.all) H H' → StO a H' y n (actF rs st k).1 → Rep H' (TupP H') v (QS (actF rs st k).2) → Q v H'
theorem i_spAct {a : Ad} {vs : List V} {H : Hp} {Q : VK} {E : XK} (vw : V) (y : Addr) (n : SN) (st : PSt) (k : Nat) (bs : List (Int × Int)) (rs : List Row) (q0 : vs = [vw, .ref y, .int k]) (q1 : Rep H (Off (y :: n.all)) vw (qG a bs rs)) (q2 : StO a H y n st) (q3 : stWf bs rs st) (q4 : zT bs rs) (q5 : (∀ b ∈ bs, zE b.1 b.2)) (q6 : (∀ r ∈ rs, r.ok)) (q7 : k < rs.length) (q8 : ∀ v H', Fr (y :: n.all) H H' → StO a H' y n (actF rs st k).1 → Rep H' (TupP H') v (QS (actF rs st k).2) → Q v H') : Qx a vs H Q E := ⟨vw, y, n, st, k, bs, rs, q0, q1, q2, q3, q4, q5, q6, q7, q8⟩
theorem ok_act (T : Txt K mg a) (F : Fun K "act" "act" s_act f fd) : FnOk P w K mg base (CXr P w) 4 f fd ["work", "state", "number"] (Qx a) := by
 refine F.okx sc_act ?_ ?_
 ·walk_at "i"
 walk_at "j"
 refine oE7 h fun vw y n st kn bs rs z1_ => oA9 z1_ fun z2_ hw so wf wok bo ro hk k => ?_
 clear h
 subst z2_
 refine oE7 (wp hw) fun yw dw fw l1 l2 bvs kvs z1_ => oA9 z1_ fun z2_ hyw ew1 ew2 hl1 hl2 hB hK no => ?_
 subst z2_
 obtain ⟨r, hr'⟩ : ∃ r, rs[kn]? = some r := ⟨rs[kn], List.getElem?_eq_getElem hk⟩
 have ok := ro r (List.mem_of_getElem? hr')
 have rl := xi ok
 obtain ⟨kv, hkv, hKn⟩ := Z7 hK hr'
 refine oE6 hKn.inv fun y1 dx1 m1 m2 m3 fs1 z1_ => oA9 z1_ fun z2_ _ _ _ _ g0 f1 f2 z3_ => oA5 z3_ fun _ g1 g2 _ _ => ?_
 subst z2_
 have fno := hKn.no (f := "choice") g0 (by decide +kernel) (by decide +kernel) (by decide +kernel) (by decide +kernel) (by decide +kernel)
 have hsd := wf.so.2 kn r _ hr' (qp (d := 0) (by rw [wf.so.1]; exact hk))
 obtain ⟨side, esd⟩ : ∃ sd : Nat, st.sides.getD kn 0 = sd := ⟨(st.sides.getD kn 0).toNat, (Int.toNat_of_nonneg hsd.1).symm⟩
 have hside : st.sides[kn]? = some (side : Int) := by rw [← esd]; exact qp (by rw [wf.so.1]; exact hk)
 have hsd' : xI r (side : Int) := by rw [← esd]; exact hsd
 have esd' : (st.sides.getD kn 0).toNat = side := by rw [esd]; rfl
 refine oA4 (sff_l (t := st.turn) (lc := n.lc) (ls := n.ls) (lg := n.lg)) fun lk1 lk2 lk3 lk4 => ?_
 have hAct : ∀ x, qv r (qk rs st.cells r) (jf st.cells r) st.turn side = x → actF rs st kn = match x with | none => (st, none) | some ch => ((wY r st kn ch).1, some (wY r st kn ch).2) := fun x e => by
  unfold actF
  rw [hr']
  simp only
  rw [esd', e]
  all_goals (cases x <;> rfl)
 walk_at "T"
 refine ⟨_, (zg (zF 3 sc_act.nd (zh (zu (pv 0) rfl) (pv 2)))  (zg (QB (i := 4) sc_act.nd rfl (Or.inl rfl) (vars := ["belt"]) (caps := [1]) (N := ["belt", "state"]) (ON := ["work", "state", "number", "knot", "free", "chosen", "from_belt", "to_belt", "ware"]) (osc := ze s_act) rfl rfl (by first | decide +kernel | kernel_rfl) rfl rfl (qj (zu (pv 3) rfl)) (fun s H fp pins => (pg_n 0 (show (["belt", "state"] : List Str).Nodup from by decide +kernel))) (fun s H fp pins => qm) (fun s H fp pins => (wl qF (zh (zh (zu (pv 1) rfl) (pv 0)) zc) zD (zq _))))  (zg (zF 5 sc_act.nd (pe_mth ⟨rfl, rfl, rfl⟩ hr (pv 3) (za (zx ⟨rfl, rfl, rfl⟩ hr (za (pv 0) (za (pv 1) (za (pv 3) zb)))) (za (pv 4) (za (zu (pv 1) rfl) (za (zh (zu (pv 1) rfl) (pv 2)) zb))))))  (zg (zA (zo qF (pv 5) zD (zq _))  (zd (zi zD))  zk)  (zg (zF 6 sc_act.nd (zx ⟨rfl, rfl, rfl⟩ hr (za (zu (pv 3) rfl) (za (zh (pv 5) zc) zb))))  (zg (zF 7 sc_act.nd (zx ⟨rfl, rfl, rfl⟩ hr (za (zu (pv 3) rfl) (za (zh (pv 5) zc) zb))))  (zg (zF 8 sc_act.nd (zx ⟨rfl, rfl, rfl⟩ hr (za (pv 1) (za (pv 2) (za (pv 6) zb)))))  (zX (zA (zo jV (pv 7) zD (zq _))  (zd (qS (pv 8) (jl (zh (zu (pv 1) rfl) (pv 7)) zc z7)))  zk)  (zg (qS (zh (pv 5) zc) (jl (zu (pv 1) rfl) (pv 2) z7))  (zg (wj (zh (zu (pv 1) rfl) (pv 2)) (zx ⟨rfl, rfl, rfl⟩ hr (za (pv 3) (za (pv 5) zb))) xv zc xN z7)  (zd (zi (qr (za (pv 2) (za (pv 8) (za (pv 6) (za (pv 7) zb))))))))))))))))), ?_⟩
 walk_at "go"
 refine ra hyw T.C_Work T.N_Work_knots ew2 (zl (SqL.of hl2) (zr hkv) ?_)
 walk_at "go"
 walk_at "lc"
 walk_at "go"
 refine ra g0 (CT T _) (NO T _) f2 ⟨m2, rfl, .inl ⟨⟨_, SqL.of g2⟩, fun _ _ _ _ acc hacc => ?_⟩⟩
 refine qV (K := K) (a := m2) (xs := iv r.outs) (fun i σ H' => ∃ (v0 : Option V), σ = [v0, some (.ref y)] ∧ Same H H' ∧ H' acc = some (.lst (((jf st.cells r).take i).map V.bl))) ⟨_, iA3 rfl (zf hacc) (by rw [List.take_zero]; exact upd_same)⟩ (fun i σ H' _ h => by obtain ⟨_, _, s, _⟩ := h; exact SqL.of (s _ _ g2)) ?_ ?_
 ·intro i x σ H2 hi zz_
  refine oE1 zz_ fun v0 z1_ => oA3 z1_ fun z2_ s2 ha => ?_
  clear zz_
  subst z2_
  obtain ⟨b, hb, rfl⟩ := Q6 hi
  have hil := (List.getElem?_eq_some_iff.mp hb).1
  refine oE1 (qX wf.co bo (xo wok hr' (List.mem_of_getElem? hb))) fun j z1_ => oA5 z1_ fun z2_ hj ej nej _ => ?_
  subst z2_
  refine oE2 (so.cell ej) fun bC vs z1_ => oA3 z1_ fun hbC hvC rvC => ?_
  obtain ⟨c0, cs, ec⟩ : ∃ c0 cs, zw st.cells j = c0 :: cs := List.exists_cons_of_ne_nil nej
  have hfr : (jf st.cells r)[i]? = some (decide (c0 = none)) := by rw [jf, List.getElem?_map, hb]; simp [ec, begW]
  rw [ec] at rvC
  obtain ⟨v1, hv1, rv1⟩ := rvC.of (i := 0) (d := zC c0) rfl
  walk_at "go"
  refine ra (s2 _ _ so.hy) T.C_State T.N_State_cells lk1 (zl (SqL.of (s2 _ _ so.hc.out)) (zr (xB hbC)) (zl (SqL.of (s2 _ _ hvC)) (zr (j := 0) hv1) ?_))
  walk_at "go"
  have ev : decide (v1 = V.non) = decide (c0 = none) := by
   cases c0 with
   | none => cases rv1; rfl
   | some x => obtain ⟨t, us, rfl, _⟩ := Rep.tup' rv1; rfl
  rw [ev]
  refine ⟨_, iA3 ha (zp (by rw [List.length_map, List.length_take]; omega)) ⟨_, iA3 rfl (fun b o hb => by rw [upd_ne (ne_of_none hb hacc)]; exact s2 b o hb) ?_⟩⟩
  rw [upd_same, List.take_add_one, hfr, List.map_append]
  rfl
 intro σ H2 zz_
 refine oE1 zz_ fun v0 z1_ => oA3 z1_ fun z2_ s2 ha => ?_
 clear zz_
 subst z2_
 rw [qz, List.take_of_length_le (by simp [jf])] at ha
 walk_at "go"
 refine iE7 y1 (clsA a r.wd) dx1 fs1 _ _ _ (iA5 rfl (s2 _ _ g0) fno ((m_choice T r.wd).mono) ?_)
 refine uc (c_heads_of T).mono (i_spHeads _ _ _ bs rs st kn r _ _ rfl (zW hw s2) ((so.same s2).rep) (zW hKn s2) hr' wok bo ro wf.co (fun hl H3 s3 nhl hhl => ?_))
 have s23 := s2.trans s3
 refine ra (s23 _ _ so.hy) T.C_State T.N_State_turn lk4 ?_
 refine ra (s23 _ _ so.hy) T.C_State T.N_State_sides lk2 (zl (SqL.of (s23 _ _ so.hs)) (zr (wP hside)) ?_)
 refine iE5 y1 hl acc r _ (iE4 (qk rs st.cells r) (jf st.cells r) st.turn side (iA9 rfl (zW hKn s23) rfl ok hhl (s3 _ _ ha) (by simp [qk]) (by simp [jf]) (fun vc H4 s4 tc => ?_)))
 have s24 := s23.trans s4
 have so4 := so.same s24
 have hKn4 := zW hKn s24
 walk_at "go"
 cases hc : qv r (qk rs st.cells r) (jf st.cells r) st.turn side with
 | none =>
  rw [hc] at tc
  have tc : vc = .non := tc
  subst tc
  have e := hAct _ hc
  refine ite2 (fun _ => ?_) (fun b => absurd rfl b)
  walk_at "go"
  refine k _ _ s24.fr ?_ ?_
  ·rw [e]; exact so4
  ·rw [e]; exact .non
 | some ch =>
  rw [hc] at tc
  obtain ⟨ct, rfl, hct⟩ := tc
  have e := hAct _ hc
  refine oA6 (vC ok (by simp [qk]) (by simp [jf]) hsd' hc) fun c1 c2 c3 c4 c5 c6 => ?_
  have hfb : ∀ b, fbOf r ch = some b → b ∈ rgI bs.length := fun b hb => by
   unfold fbOf at hb
   obtain ⟨j, hj1, hj2⟩ := Option.bind_eq_some_iff.mp hb
   exact xu wok hr' (List.mem_of_getElem? hj2)
  have htb : ∀ b, tbOf r ch = some b → b ∈ rgI bs.length := fun b hb => by
   unfold tbOf at hb
   obtain ⟨j, hj1, hj2⟩ := Option.bind_eq_some_iff.mp hb
   exact xo wok hr' (List.mem_of_getElem? hj2)
  have hfn : fbOf r ch = none → r.wd = .source := fun hb => by
   cases e : ch.1 with
   | none => exact c4 e
   | some j =>
    unfold fbOf at hb
    rw [e] at hb
    simp at hb
    have := c1 j e
    omega
  obtain ⟨w1, w2⟩ := Zi wf wok bo ro hr' hfb hfn
  have w3 := Zq w1 bo htb w2
  have hg0 := qp (xs := st.gone) (k := kn) (d := []) (by rw [wf.go.1]; exact hk)
  obtain ⟨q1, q2⟩ := wf.go.2 kn r _ hr' hg0
  have cp := jr ok
  obtain ⟨g0', gs, eg⟩ : ∃ g0 gs, st.gone.getD kn [] = g0 :: gs := List.exists_cons_of_ne_nil fun z => by rw [z] at q1; simp at q1; omega
  rw [eg] at hg0
  refine ite2 (fun b => by cases b) (fun _ => ?_)
  walk_at "go"
  refine uc (vD T).mono (ra (s24 _ _ g0) (CT T _) (NI T _) f1 (rd_ixT hct at0 ?_))
  refine iE3 m1 r.ins ch.1 (iA4 rfl (s24 _ _ g1) c1 ?_)
  walk_at "go"
  refine uc (vD T).mono (ra (s24 _ _ g0) (CT T _) (NO T _) f2 (rd_ixT hct (show atI (chV ch) 1 = some (optV ch.2.1) from rfl) ?_))
  refine iE3 m2 r.outs ch.2.1 (iA4 rfl (s24 _ _ g2) c2 ?_)
  walk_at "go"
  refine uc (c_taken_ware T).mono (i_spTaken y n st kn (fbOf r ch) g0' gs rfl so4 hg0 (fun b hb => ?_) (fun v5 H5 f5 so5 rv5 => ?_))
  ·refine oE1 (qX wf.co bo (hfb b hb)) fun i z1_ => oA5 z1_ fun e1 _ e2 e3 _ => ?_
   exact ⟨i, iA3 e1 e2 e3⟩
  have hct5 := f5 _ _ (so4.offT ⟨_, hct⟩) hct
  have hKn5 := hKn4.fr f5
  have fr5 := (s24.fr (ms := y :: n.all)).trans f5
  rw [show (ch.1.bind fun j => r.ins[j]?) = fbOf r ch from rfl, show (ch.2.1.bind fun j => r.outs[j]?) = tbOf r ch from rfl]
  walk_at "go"
  refine cut (fun σ' H' => σ' = [some (.ref yw), some (.ref y), some (.int kn), some (.ref y1), some (.ref acc), some (.ref ct), some (hdV (fbOf r ch)), some (hdV (tbOf r ch)), some v5] ∧ Fr (y :: n.all) H5 H' ∧ StO a H' y n (movedF r st kn ch)) ?_ ?_
  ·have w4 := fun b (hb : tbOf r ch = some b) => qX w1.co bo (htb b hb)
   unfold movedF
   generalize tbOf r ch = tb at w4 ⊢
   walk_at "go"
   cases tb with
   | none =>
    refine ite2 (fun b => absurd rfl b) (fun _ => ?_)
    walk_at "go"
    exact ⟨.refl, so5⟩
   | some b =>
    refine oE1 (w4 b rfl) fun i z1_ => oA5 z1_ fun z2_ _ e2 e3 _ => ?_
    subst z2_
    refine oE2 (so5.cell e2) fun bC vs z1_ => oA3 z1_ fun hbC hvC rvC => ?_
    have lv : vs.length = (zw (qq st kn (fbOf r ch)).2.cells i).length := by rw [rvC.len, List.length_map]
    have lp : 0 < vs.length := by rw [lv]; exact List.length_pos_iff.mpr e3
    refine ite2 (fun _ => ?_) (fun b => absurd (fun z => by cases z) b)
    walk_at "go"
    refine ra so5.hy T.C_State T.N_State_cells sff_l.1 (zl (SqL.of so5.hc.out) (zr (xB hbC)) ?_)
    walk_at "go"
    refine qh (j := 0) hvC (qT (by decide) (by simpa using lp)) ?_
    refine ⟨qc (Zf hbC), ?_⟩
    have := so5.putC hbC (c' := (zw (qq st kn (fbOf r ch)).2.cells i).set 0 (qq st kn (fbOf r ch)).1) (by rw [List.map_set]; exact Reps.set rvC 0 rv5)
    simpa [wJ] using this
  rintro σ H6 ⟨rfl, f6, so6⟩
  have hct6 := f6 _ _ (so5.offT ⟨_, hct5⟩) hct5
  have hKn6 := hKn5.fr f6
  have rv6 := so5.repT f6 rv5
  have fr6 := fr5.trans f6
  walk_at "go"
  refine rd_ixT hct6 (show atI (chV ch) 2 = some (.int ch.2.2) from rfl) ?_
  walk_at "go"
  refine ra so6.hy T.C_State T.N_State_sides sff_l.2.1 (qh so6.hs (qT (Int.natCast_nonneg _) (by rw [qz, show (movedF r st kn ch).sides.length = rs.length from w3.so.1]; exact Int.ofNat_lt.mpr hk)) ?_)
  rw [Int.toNat_natCast, QM]
  have so7 := so6.putS (s' := (movedF r st kn ch).sides.set kn ch.2.2)
  have f7 : Fr (y :: n.all) H6 (upd H6 n.ls (.lst (iv ((movedF r st kn ch).sides.set kn ch.2.2)))) := qc (by simp [SN.all])
  have hct7 := f7 _ _ (so6.offT ⟨_, hct6⟩) hct6
  have hKn7 := hKn6.fr f7
  have rv7 := so6.repT f7 rv6
  have fr7 := fr6.trans f7
  generalize upd H6 n.ls (.lst (iv ((movedF r st kn ch).sides.set kn ch.2.2))) = H7 at so7 hct7 hKn7 rv7 fr7 ⊢
  have hg7 := qp (xs := (movedF r st kn ch).gone) (k := kn) (d := []) (by rw [show (movedF r st kn ch).gone.length = rs.length from w3.go.1]; exact hk)
  obtain ⟨p1, p2⟩ := w3.go.2 kn r _ hr' hg7
  obtain ⟨bG, hbG, hgG⟩ := so7.goneL hg7
  have e0 : wY r st kn ch = ({ movedF r st kn ch with sides := (movedF r st kn ch).sides.set kn ch.2.2, gone := (movedF r st kn ch).gone.set kn (bump ((movedF r st kn ch).gone.getD kn []) (cpOf r ch)) }, ⟨kn, (qq st kn (fbOf r ch)).1, fbOf r ch, tbOf r ch⟩) := rfl
  have so8 := so7.putG (g' := bump ((movedF r st kn ch).gone.getD kn []) (cpOf r ch)) hbG
  generalize (movedF r st kn ch).gone.getD kn [] = g at *
  have hcp : cpOf r ch < g.length := by rw [p1]; exact c6
  walk_at "go"
  unfold Zj
  walk_at "go"
  refine ra so7.hy T.C_State T.N_State_gone sff_l.2.2.1 (zl (SqL.of so7.hg.out) (zr (Qs hbG)) ?_)
  walk_at "go"
  refine uc (c_counted_place T).mono (i_spCounted _ ct r ch _ rfl hKn7 hct7 c3 ?_)
  refine iE4 bG _ (cpOf r ch) _ (iA6 rfl rfl (SqL.of hgG) (Int.natCast_nonneg _) (zr (wP (qp (d := 0) hcp))) ?_)
  walk_at "go"
  refine qh hgG (qT (Int.natCast_nonneg _) (by rw [qz]; exact Int.ofNat_lt.mpr hcp)) ?_
  rw [Int.toNat_natCast, QM]
  have f8 : Fr (y :: n.all) H7 (upd H7 bG (.lst (iv (g.set (cpOf r ch) (g.getD (cpOf r ch) 0 + 1))))) := qc (ags_all hbG)
  have rv8 := so7.repT f8 rv7
  change StO a (upd H7 bG (.lst (iv (g.set (cpOf r ch) (g.getD (cpOf r ch) 0 + 1))))) y n _ at so8
  have fr8 := fr7.trans f8
  generalize e8 : upd H7 bG (.lst (iv (g.set (cpOf r ch) (g.getD (cpOf r ch) 0 + 1)))) = H8 at so8 f8 rv8 fr8 ⊢
  walk_at "go"
  intro t ht
  refine k _ _ (fr8.trans (wV ht)) ?_ ?_
  ·rw [e]
   simp only
   rw [e0]
   exact so8.same (zf ht)
  ·rw [e]
   simp only
   rw [e0]
   exact Reps.mkT (vs := [.int kn, v5, hdV (fbOf r ch), hdV (tbOf r ch)]) (.cons .int (.cons (xJ rv8 (zf ht)) (.cons (ZY _) (.cons (ZY _) .nil)))) ⟨_, upd_same⟩ upd_same
theorem c_act (T : Txt K mg a) : Cal P w K mg base "act" 4 ["work", "state", "number"] [] (Qx a) := T.h_act.cal (ok_act T)
def zn (rs : List Row) (st : PSt) : Nat → PSt × List Move
 | 0 => (st, [])
 | i + 1 => ((actF rs (zn rs st i).1 i).1, (zn rs st i).2 ++ (actF rs (zn rs st i).1 i).2.toList)
theorem qL {bs : List (Int × Int)} {rs : List Row} {st : PSt} (wf : stWf bs rs st) (wok : zT bs rs) (bo : ∀ b ∈ bs, zE b.1 b.2) (ro : ∀ r ∈ rs, r.ok) : ∀ i, stWf bs rs (zn rs st i).1
 | 0 => wf
 | i + 1 => actF_wf (qL wf wok bo ro i) wok bo ro
theorem xa (rs : List Row) (st : PSt) : ∀ i, (zn rs st i).2.length ≤ i
 | 0 => Nat.le_refl _
 | i + 1 => by
  have := xa rs st i
  show ((zn rs st i).2 ++ (actF rs (zn rs st i).1 i).2.toList).length ≤ i + 1
  rw [List.length_append]
  cases (actF rs (zn rs st i).1 i).2 with
  | none => exact Nat.le_succ_of_le this
  | some _ => exact Nat.succ_le_succ this
section
variable {H H' : Hp} {y : Addr} {n : SN} {st : PSt}
theorem StO.offN (h : StO a H y n st) {b : Addr} (e : H b = none) : b ∉ y :: n.all := by
 have no : ∀ o, H b ≠ some o := fun o z => by rw [e] at z; cases z
 intro hb
 unfold SN.all at hb
 rcases List.mem_cons.mp hb with rfl | hb
 ·exact no _ h.hy
 rcases List.mem_cons.mp hb with rfl | hb
 ·exact no _ h.hs
 rcases List.mem_cons.mp hb with rfl | hb
 ·exact no _ h.hc.out
 rcases List.mem_cons.mp hb with rfl | hb
 ·exact no _ h.hg.out
 rcases List.mem_append.mp hb with hb | hb
 ·obtain ⟨us, z⟩ := h.hc.isl (List.mem_cons_of_mem _ hb)
  exact no _ z
 ·obtain ⟨us, z⟩ := h.hg.isl (List.mem_cons_of_mem _ hb)
  exact no _ z
theorem StO.out {M : Addr} {us vs : List V} (h : StO a H y n st) (e : H M = some (.lst us)) (nM : M ∉ y :: n.all) : StO a (upd H M (.lst vs)) y n st := by
 have k : ∀ c o, c ≠ M → H c = some o → upd H M (.lst vs) c = some o := fun c o nc hc => by rw [upd_ne nc]; exact hc
 have kt : ∀ c, TupP H c → c ≠ M := fun c ⟨xs, hx⟩ z => by rw [z, e] at hx; cases hx
 refine ⟨k _ _ (fun z => nM (by rw [← z]; simp)) h.hy, h.hc.tup fun c o hz hc => k c o (fun z => ?_) hc, k _ _ (fun z => nM (by rw [← z]; simp [SN.all])) h.hs, h.hg.tup fun c o hz hc => k c o (fun z => ?_) hc, h.nd⟩
 ·rcases hz with rfl | hz | hz
  ·exact nM (by rw [← z]; simp [SN.all])
  ·exact nM (by rw [← z]; simp [SN.all, hz])
  ·exact kt c hz z
 ·rcases hz with rfl | hz | hz
  ·exact nM (by rw [← z]; simp [SN.all])
  ·exact nM (by rw [← z]; simp [SN.all, hz])
  ·exact kt c hz z
theorem StO.repsT (h : StO a H y n st) (s : Fr (y :: n.all) H H') {vs : List V} {ds : List D} (r : Reps H (TupP H) vs ds) : Reps H' (TupP H') vs ds :=
 ⟨r.len, fun i v d h1 h2 => h.repT s (r.g i v d h1 h2)⟩
theorem xk {M : Addr} {us vs : List V} (e : H M = some (.lst us)) {v : V} {d : D} (r : Rep H (TupP H) v d) : Rep (upd H M (.lst vs)) (TupP (upd H M (.lst vs))) v d :=
 Rep.keep (fun b o hp hb => ⟨ju e hp, by obtain ⟨xs, hx⟩ := hp; rw [upd_ne (fun z => by rw [z, e] at hx; cases hx)]; exact hb⟩) r
theorem qA {M : Addr} {us vs : List V} (e : H M = some (.lst us)) {ws : List V} {ds : List D} (r : Reps H (TupP H) ws ds) : Reps (upd H M (.lst vs)) (TupP (upd H M (.lst vs))) ws ds :=
 ⟨r.len, fun i v d h1 h2 => xk e (r.g i v d h1 h2)⟩
end
def wF (a : Ad) : Sp := fun vs H Q _ => ∃ (vw : V) (y : Addr) (n : SN) (st : PSt) (bs : List (Int × Int)) (rs : List Row), vs = [vw, .ref y] ∧ Rep H (Off (y :: n.all)) vw (qG a bs rs) ∧ StO a H y n st ∧ stWf bs rs st ∧ zT bs rs ∧ (∀ b ∈ bs, zE b.1 b.2) ∧ (∀ r ∈ rs, r.ok) ∧
 ∀ l us H', Fr (y :: n.all) H H' → StO a H' y n (zn rs st rs.length).1 → H l = none → l ∉ y :: n.all → H' l = some (.lst us) → Reps H' (TupP H') us ((zn rs st rs.length).2.map qf) → Q (.ref l) H'
theorem i_spActAll {a : Ad} {vs : List V} {H : Hp} {Q : VK} {E : XK} (vw : V) (y : Addr) (n : SN) (st : PSt) (bs : List (Int × Int)) (rs : List Row) (q0 : vs = [vw, .ref y]) (q1 : Rep H (Off (y :: n.all)) vw (qG a bs rs)) (q2 : StO a H y n st) (q3 : stWf bs rs st) (q4 : zT bs rs) (q5 : (∀ b ∈ bs, zE b.1 b.2)) (q6 : (∀ r ∈ rs, r.ok)) (q7 : ∀ l us H', Fr (y :: n.all) H H' → StO a H' y n (zn rs st rs.length).1 → H l = none → l ∉ y :: n.all → H' l = some (.lst us) → Reps H' (TupP H') us ((zn rs st rs.length).2.map qf) → Q (.ref l) H') : wF a vs H Q E := ⟨vw, y, n, st, bs, rs, q0, q1, q2, q3, q4, q5, q6, q7⟩
theorem ok_act_all (T : Txt K mg a) (F : Fun K "act_all" "act_all" s_act_all f fd) : FnOk P w K mg base (CXr P w) 5 f fd ["work", "state"] (wF a) := by
 refine F.okx sc_act_all ?_ ?_
 ·walk_at "i"
 walk_at "j"
 refine oE6 h fun vw y n st bs rs z1_ => oA8 z1_ fun z2_ hw so wf wok bo ro k => ?_
 clear h
 subst z2_
 refine oE7 (wp hw) fun yw dw fw l1 l2 bvs kvs z1_ => oA9 z1_ fun z2_ hyw ew1 ew2 hl1 hl2 hB hK no => ?_
 subst z2_
 have lk : kvs.length = rs.length := hK.len
 have r24 := wok.1.2.2
 walk_at "T"
 refine ⟨_, (zg (zF 2 sc_act_all.nd (zU zb))  (zX (z9 qu rfl (j4 (za (zG zJ zI (za (zu (pv 0) rfl) zb)) zb)) (pg_n 3 sc_act_all.nd)  (zg (zF 4 sc_act_all.nd (zx ⟨rfl, rfl, rfl⟩ hr (za (pv 0) (za (pv 1) (za (pv 3) zb)))))  (zd (zA (zo jV (pv 4) zD (zq _))  (zd (zN (jp PySem.F.plainAttrs_list PySem.F.slot_list_append PySem.F.type_list_append qb (pv 2) (za (pv 4) zb))))  zk))))  (zd (zi (pv 2))))), ?_⟩
 walk_at "go"
 intro M hM
 have nM := so.offN hM
 have s1 := zf (o := .lst []) hM
 have hM1 : upd H M (.lst []) M = some (.lst []) := upd_same
 generalize upd H M (.lst []) = H1 at s1 hM1 ⊢
 walk_at "go"
 refine cut (fun σ' H' => ∃ (v3 v4 : Option V) (us : List V), σ' = [some (.ref yw), some (.ref y), some (.ref M), v3, v4] ∧ Fr (y :: n.all) H H' ∧ StO a H' y n (zn rs st rs.length).1 ∧ H' M = some (.lst us) ∧ Reps H' (TupP H') us ((zn rs st rs.length).2.map qf)) ?_ ?_
 ·walk_at "for"
  walk_at "go"
  refine ra (s1 _ _ hyw) T.C_Work T.N_Work_knots ew2 ?_
  refine ⟨_, .inl ⟨_, SqL.of (s1 _ _ hl2), rfl⟩, ?_⟩
  rw [lk]
  walk_at "go"
  refine ⟨by omega, by omega, ?_⟩
  refine wW (n := (rs.length : Int).toNat) (fun i σ H' => ∃ (v3 v4 : Option V) (us : List V), σ = [some (.ref yw), some (.ref y), some (.ref M), v3, v4] ∧ Fr (y :: n.all) H H' ∧ StO a H' y n (zn rs st i).1 ∧ H' M = some (.lst us) ∧ Reps H' (TupP H') us ((zn rs st i).2.map qf)) (iE3 _ _ _ (iA5 rfl s1.fr (so.same s1) hM1 (.nil))) ?_ (fun σ H' h => ?_)
  ·intro i σ H2 hi zz_
   refine oE3 zz_ fun v3 v4 us z1_ => oA5 z1_ fun z2_ f2 so2 hM2 r2 => ?_
   clear zz_
   subst z2_
   have hi : i < rs.length := by simpa using hi
   have al := xa rs st i
   have lu : us.length = (zn rs st i).2.length := by rw [r2.len, List.length_map]
   walk_at "go"
   simp only [Int.zero_add]
   refine uc (c_act T).mono (i_spAct (.ref yw) y n _ i bs rs rfl (hw.fr f2) so2 (qL wf wok bo ro i) wok bo ro hi (fun v H3 f3 so3 rv => ?_))
   have f23 := f2.trans f3
   have hM3 := f3 _ _ nM hM2
   have r3 := so2.repsT f3 r2
   have eA : zn rs st (i + 1) = ((actF rs (zn rs st i).1 i).1, (zn rs st i).2 ++ (actF rs (zn rs st i).1 i).2.toList) := rfl
   walk_at "go"
   cases e : (actF rs (zn rs st i).1 i).2 with
   | none =>
    rw [e] at rv eA
    cases rv
    refine ite2 (fun b => absurd rfl b) (fun _ => ?_)
    rw [eA]
    exact iE3 _ _ _ (iA5 rfl f23 so3 hM3 (by rw [show (none : Option Move).toList = [] from rfl, List.append_nil]; exact r3))
   | some m =>
    rw [e] at rv eA
    refine ite2 (fun _ => ?_) (fun b => ?_)
    ·walk_at "go"
     refine ⟨.inl ⟨rfl, _, SqL.of hM3⟩, iE3 M _ _ (iA5 rfl rfl hM3 (zp (by omega)) (iE3 _ _ _ (iA5 rfl (fun b o nb hb => by rw [upd_ne (ne_of_none hb hM)]; exact f23 b o nb hb) ?_ upd_same ?_)))⟩
     ·rw [eA]
      exact so3.out hM3 nM
     ·rw [eA]
      show Reps _ _ _ (List.map qf ((zn rs st i).2 ++ [m]))
      rw [List.map_append]
      exact (qA hM3 r3).append (Reps.one (xk hM3 rv))
    ·exfalso
     refine b fun z => ?_
     subst z
     cases rv
  ·have e : ((rs.length : Int)).toNat = rs.length := by simp
   rw [e] at h
   exact h
 intro σ' H2 zz_
 refine oE3 zz_ fun v3 v4 us z1_ => oA5 z1_ fun z2_ f2 so2 hM2 r2 => ?_
 clear zz_
 subst z2_
 walk_at "go"
 exact k _ _ _ f2 so2 hM nM hM2 r2
theorem vE (T : Txt K mg a) : Cal P w K mg base "act_all" 5 ["work", "state"] [] (wF a) := T.h_act_all.cal (ok_act_all T)
def xG (a : Ad) : Sp := fun vs H Q _ => ∃ (vw v : V) (st : PSt) (bs : List (Int × Int)) (rs : List Row) (p : Addr → Prop), vs = [vw, v] ∧ Rep H (Off []) vw (qG a bs rs) ∧ Rep H p v (qH a st) ∧ stWf bs rs st ∧ zT bs rs ∧ (∀ b ∈ bs, zE b.1 b.2) ∧ (∀ r ∈ rs, r.ok) ∧
 ∀ l us H', Same H H' → H l = none → H' l = some (.lst us) → Reps H' (TupP H') us ((zn rs st rs.length).2.map qf) → Q (.ref l) H'
theorem i_spMovesOf {a : Ad} {vs : List V} {H : Hp} {Q : VK} {E : XK} (vw v : V) (st : PSt) (bs : List (Int × Int)) (rs : List Row) (p : Addr → Prop) (q0 : vs = [vw, v]) (q1 : Rep H (Off []) vw (qG a bs rs)) (q2 : Rep H p v (qH a st)) (q3 : stWf bs rs st) (q4 : zT bs rs) (q5 : (∀ b ∈ bs, zE b.1 b.2)) (q6 : (∀ r ∈ rs, r.ok)) (q7 : ∀ l us H', Same H H' → H l = none → H' l = some (.lst us) → Reps H' (TupP H') us ((zn rs st rs.length).2.map qf) → Q (.ref l) H') : xG a vs H Q E := ⟨vw, v, st, bs, rs, p, q0, q1, q2, q3, q4, q5, q6, q7⟩
theorem ok_moves_of (T : Txt K mg a) (F : Fun K "moves_of" "moves_of" s_moves_of f fd) : FnOk P w K mg base (CXr P w) 6 f fd ["work", "state"] (xG a) := by
 refine F.okx sc_moves_of ?_ ?_
 ·walk_at "i"
 walk_at "j"
 refine oE6 h fun vw v st bs rs p z1_ => oA8 z1_ fun z2_ hw hv wf wok bo ro k => ?_
 clear h
 subst z2_
 have b24 := wok.1.1.2
 have r24 := wok.1.2.2
 walk_at "T"
 refine ⟨_, (zd (zi (zx ⟨rfl, rfl, rfl⟩ hr (za (pv 0) (za (zx ⟨rfl, rfl, rfl⟩ hr (za (pv 1) zb)) zb))))), ?_⟩
 walk_at "go"
 refine uc (vE T).mono (uc (jS T).mono (iE3 v st p (iA5 rfl hv (by rw [wf.co.1]; omega) (by rw [wf.go.1]; omega) (fun v' H1 s1 sn => ?_))))
 refine oE2 sn fun y n z1_ => oA5 z1_ fun z2_ so1 ny _ nn => ?_
 clear sn
 subst z2_
 have na : ∀ b ∈ y :: n.all, H b = none := fun b hb => by
  rcases List.mem_cons.mp hb with rfl | hb
  ·exact ny
  ·exact nn b hb
 have hw1 : Rep H1 (Off (y :: n.all)) vw (qG a bs rs) := zW (hw.more (ns := y :: n.all) fun b hb => .inr (na b hb)) s1
 refine iE6 vw y n st bs rs (iA8 rfl hw1 so1 wf wok bo ro (fun l us H2 f2 _ nl _ hl r2 => ?_))
 refine k l us H2 (fun b o hb => f2 b o (fun z => by rw [na b z] at hb; cases hb) (s1 b o hb)) ?_ hl r2
 cases e : H l with
 | none => rfl
 | some o => rw [s1 _ _ e] at nl; cases nl
theorem c_moves_of (T : Txt K mg a) : Cal P w K mg base "moves_of" 6 ["work", "state"] [] (xG a) := T.h_moves_of.cal (ok_moves_of T)
abbrev Q2 : List Str := ["_law_found", "_law_due"]
abbrev stPs : List Str := ["_law_state", "_law_turn_here", "_law_cells", "_law_sides_here", "_law_gone"]
def ZW : Sp := fun vs H Q _ => ∃ i : Int, vs = [.int i] ∧ Q (.bl true) H
theorem ok_L_whole (T : Txt K mg a) (F : Fun K "_law_whole" "_law_whole" s_L_whole f fd) : FnOk P w K mg base (CXr P w) 1 f fd ["_law_found"] ZW := by
 refine F.okx sc_L_whole ?_ ?_
 ·walk_at "i"
 walk_at "k"
 obtain ⟨i, rfl, k⟩ := h
 walk_at "T"
 refine ⟨_, (zd (zi (pe_and (zG jm zQ (za (pv 0) (za (xW bo_int) zb))) (pe_one (pe_not (zG jm zQ (za (pv 0) (za (xW bo_bool) zb)))))))), ?_⟩
 walk_at "go"
 exact k
theorem qK (T : Txt K mg a) : Cal P w K mg base "_law_whole" 1 ["_law_found"] [] ZW := T.h_L_whole.cal (ok_L_whole T)
theorem wm {H : Hp} {Q : VK} {p : Addr} {xs : List V} (h : H p = some (.lst xs)) (q : Q (.bl true) H) : rIsi K [.ref p, .ty "list"] H Q := ⟨_, _, _, _, rfl, .old (.lst h), .inl ⟨_, rfl, rfl⟩, q⟩
def vh (K : PySem.W.Frag) : Sp := fun vs H Q _ => ∃ (p q : Addr) (ns : List Int), vs = [.ref p, .ref q] ∧ H p = some (.lst (ns.map V.int)) ∧ SqL K H q (ns.map V.int) ∧ ∀ H', Same H H' → Q (.bl true) H'
theorem ok_L_numbers_are (T : Txt K mg a) (F : Fun K "_law_numbers_are" "_law_numbers_are" s_L_numbers_are f fd) : FnOk P w K mg base (CXr P w) 2 f fd Q2 (vh K) := by
 refine F.okx sc_L_numbers_are ?_ ?_
 ·walk_at "i"
 walk_at "k"
 refine oE3 h fun p q ns z1_ => oA4 z1_ fun z2_ hp hq k => ?_
 clear h
 subst z2_
 walk_at "T"
 refine ⟨_, (zj (zA (PW.pt (pw_or (zK (zz (zG jm zQ (za (pv 0) (za (xW qd) zb))) (fun _ => rfl))) (pw_or1 (zo (jd hr.units1) (zG zJ zI (za (pv 0) zb)) (zG zJ zI (za (pv 1) zb)) (zq _)))))  (zd (zi qe))  zk)  (zj (z9 qu rfl (vU (za (pv 0) (za (pv 1) zb))) (qJ (n := 2) rfl (zB (pg_n 2 sc_L_numbers_are.nd) (zB (pg_n 3 sc_L_numbers_are.nd) qo)))  (zd (zA (PW.pt (pw_or (zK (zz (zx ⟨rfl, rfl, rfl⟩ hr (za (pv 2) zb)) (fun _ => rfl))) (pw_or1 (zo (jd hr.units1) (pv 2) (pv 3) (zq _)))))  (zd (zi qe))  zk)))  (zd (zi qe)))), ?_⟩
 walk_at "go"
 refine wm hp ?_
 walk_at "go"
 refine ⟨_, .inl ⟨_, SqL.of hp, rfl⟩, ?_⟩
 walk_at "go"
 refine ⟨_, .inl ⟨_, hq, rfl⟩, ?_⟩
 walk_at "go"
 walk_at "for"
 walk_at "go"
 refine iE6 true true p q (ns.map V.int) (ns.map V.int) (iA4 rfl (SqL.of hp) hq ?_)
 refine Qg (K := K) (xs := ns.map V.int) (ys := ns.map V.int) (fun i σ H' => ∃ v2 v3, σ = [some (.ref p), some (.ref q), v2, v3] ∧ Same H H') (iE2 _ _ ⟨rfl, Same.refl _⟩) (fun i σ H' _ ⟨_, _, _, s⟩ => ⟨SqL.of (s _ _ hp), s.seq hq⟩) ?_ ?_
 ·intro i x y t σ H' hi hj ht zz_
  refine oE2 zz_ fun v2 v3 z1_ => oA2 z1_ fun z2_ s => ?_
  clear zz_
  subst z2_
  rw [hi] at hj
  cases hj
  rw [List.getElem?_map, Option.map_eq_some_iff] at hi
  obtain ⟨n, _, rfl⟩ := hi
  have s2 := s.trans (zf (o := .tup [.int n, .int n]) ht)
  refine un2 upd_same ?_
  walk_at "go"
  refine iE3 _ _ _ ⟨qK T, ⟨n, rfl, ?_⟩⟩
  walk_at "go"
  exact iE2 _ _ ⟨rfl, s2⟩
 ·intro σ H' zz_
  refine oE2 zz_ fun v2 v3 z1_ => oA2 z1_ fun z2_ s => ?_
  clear zz_
  subst z2_
  walk_at "go"
  exact k _ s
theorem c_L_numbers_are (T : Txt K mg a) : Cal P w K mg base "_law_numbers_are" 2 Q2 [] (vh K) := T.h_L_numbers_are.cal (ok_L_numbers_are T)
def Zk : Sp := fun vs H Q _ => ∃ (v1 v2 : V) (x : Ware) (p q : Addr → Prop), vs = [v1, v2] ∧ Rep H p v1 (zC x) ∧ Rep H q v2 (zC x) ∧ Q (.bl true) H
theorem ok_L_ware_is (T : Txt K mg a) (F : Fun K "_law_ware_is" "_law_ware_is" s_L_ware_is f fd) : FnOk P w K mg base (CXr P w) 2 f fd ["_law_found", "_law_due"] Zk := by
 refine F.okx sc_L_ware_is ?_ ?_
 ·walk_at "i"
 walk_at "j"
 obtain ⟨v1, v2, x, p, q, rfl, h1, h2, k⟩ := h
 walk_at "T"
 refine ⟨_, (zj (zA (zo qF (pv 1) zD (zq _))  (zd (zi (wl qF (pv 0) zD (zq _))))  zk)  (zj (zA (PW.pt (pw_or (zK (zz (zG jm zQ (za (pv 0) (za (xW ZL) zb))) (fun _ => rfl))) (pw_or1 (zo (jd hr.units1) (zG zJ zI (za (pv 0) zb)) zc (zq _)))))  (zd (zi qe))  zk)  (zj (zA (PW.pt (pw_or (zK (zz (zx ⟨rfl, rfl, rfl⟩ hr (za (zh (pv 0) zc) zb)) (fun _ => rfl))) (pw_or1 (zK (zz (zx ⟨rfl, rfl, rfl⟩ hr (za (zh (pv 0) zc) zb)) (fun _ => rfl))))))  (zd (zi qe))  zk)  (zd (zi (wl (jq hr.units1) (pv 0) (pv 1) (zq _))))))), ?_⟩
 walk_at "go"
 cases x with
 | none =>
  cases h1
  cases h2
  rw [if_pos rfl, decide_eq_true rfl]
  exact k
 | some x =>
  obtain ⟨t1, rfl, e1⟩ := jD h1
  obtain ⟨t2, rfl, e2⟩ := jD h2
  rw [if_neg (by intro z; cases z)]
  walk_at "go"
  refine Qc e1 ?_
  walk_at "go"
  refine ⟨2, .inr ⟨_, SqT.of e1, rfl⟩, ?_⟩
  walk_at "go"
  refine uc (qK T).mono (rd_ixT e1 at0 ?_)
  refine ⟨_, rfl, ?_⟩
  walk_at "go"
  refine uc (qK T).mono (rd_ixT e1 rfl ?_)
  refine ⟨_, rfl, ?_⟩
  walk_at "go"
  exact rd_eqT (SqT.of e1) (SqT.of e2) rfl (by simp [qZ, eqV]) k
theorem wb (T : Txt K mg a) : Cal P w K mg base "_law_ware_is" 2 ["_law_found", "_law_due"] [] Zk := T.h_L_ware_is.cal (ok_L_ware_is T)
def wz : Sp := fun vs H Q _ => ∃ (v1 v2 : V) (fl : Bool) (dss : List (List D)) (p q : Addr → Prop), vs = [v1, v2, .bl fl] ∧ Rep H p v1 (.lst (dss.map D.lst)) ∧ Rep H q v2 (.lst (dss.map D.lst)) ∧ (fl = true → ∀ ds ∈ dss, ∀ d ∈ ds, ∃ x, d = zC x) ∧ (fl = false → ∀ ds ∈ dss, ∀ d ∈ ds, ∃ n, d = D.int n) ∧ ∀ H', Same H H' → Q (.bl true) H'
theorem ok_L_lists_are (T : Txt K mg a) (F : Fun K "_law_lists_are" "_law_lists_are" s_L_lists_are f fd) : FnOk P w K mg base (CXr P w) 3 f fd ["_law_found", "_law_due", "_law_cells"] wz := by
 refine F.okx sc_L_lists_are ?_ ?_
 ·walk_at "i"
 walk_at "j"
 refine oE6 h fun v1 v2 fl dss p q z1_ => oA6 z1_ fun z2_ r1 r2 ft ff k => ?_
 clear h
 subst z2_
 refine oE2 r1.lst' fun l1 us1 z1_ => oA4 z1_ fun z2_ _ hl1 rr1 => ?_
 subst z2_
 refine oE2 r2.lst' fun l2 us2 z1_ => oA4 z1_ fun z2_ _ hl2 rr2 => ?_
 subst z2_
 have ln : us1.length = us2.length := by rw [rr1.len, rr2.len]
 walk_at "T"
 refine ⟨_, (zg (zA (PW.pt (pw_or (zK (zz (zG jm zQ (za (pv 0) (za (xW qd) zb))) (fun _ => rfl))) (pw_or1 (zo (jd hr.units1) (zG zJ zI (za (pv 0) zb)) (zG zJ zI (za (pv 1) zb)) (zq _)))))  (zd (zi qe))  zk)  (zX (z9 qu rfl (vU (za (pv 0) (za (pv 1) zb))) (qJ (n := 2) rfl (zB (pg_n 3 sc_L_lists_are.nd) (zB (pg_n 4 sc_L_lists_are.nd) qo)))  (zg (zA (PW.pt (pw_or (zK (zz (zG jm zQ (za (pv 3) (za (xW qd) zb))) (fun _ => rfl))) (pw_or1 (zo (jd hr.units1) (zG zJ zI (za (pv 3) zb)) (zG zJ zI (za (pv 4) zb)) (zq _)))))  (zd (zi qe))  zk)  (zd (z9 qu rfl (vU (za (pv 3) (za (pv 4) zb))) (qJ (n := 2) rfl (zB (pg_n 5 sc_L_lists_are.nd) (zB (pg_n 6 sc_L_lists_are.nd) qo)))  (zg (zA (PW.pt (pw_and (zz (pv 2) (fun _ => rfl)) (pw_and1 (zK (zz (zx ⟨rfl, rfl, rfl⟩ hr (za (pv 5) (za (pv 6) zb))) (fun _ => rfl))))))  (zd (zi qe))  zk)  (zd (zA (PW.pt (pw_and (zK (zz (pv 2) (fun _ => rfl))) (pw_and1 (PW.pt (pw_or (zK (zz (zx ⟨rfl, rfl, rfl⟩ hr (za (pv 5) zb)) (fun _ => rfl))) (pw_or1 (zo (jd hr.units1) (pv 5) (pv 6) (zq _))))))))  (zd (zi qe))  zk)))))))  (zd (zi qe)))), ?_⟩
 walk_at "go"
 refine wm hl1 ?_
 walk_at "go"
 refine ⟨_, .inl ⟨_, SqL.of hl1, rfl⟩, ?_⟩
 walk_at "go"
 refine ⟨_, .inl ⟨_, SqL.of hl2, rfl⟩, ?_⟩
 rw [ln]
 walk_at "go"
 let M1_ : St → Hp → Prop := fun σ' H' => Same H H'
 refine cut M1_ ?_ ?_
 ·walk_at "for"
  walk_at "go"
  refine iE6 true true l1 l2 us1 us2 (iA4 rfl (SqL.of hl1) (SqL.of hl2) ?_)
  let M2_ : Nat → St → Hp → Prop := fun i σ H' => ∃ v3 v4 v5 v6 : Option V, σ = [some (.ref l1), some (.ref l2), some (.bl fl), v3, v4, v5, v6] ∧ Same H H'
  refine Qg (K := K) (xs := us1) (ys := us2) M2_ (iE4 _ _ _ _ ⟨rfl, Same.refl _⟩) (fun i σ H' _ ⟨_, _, _, _, _, s⟩ => ⟨SqL.of (s _ _ hl1), SqL.of (s _ _ hl2)⟩) ?_ ?_
  ·intro i x y t σ H1 hi hj ht zz_
   refine oE4 zz_ fun v3 v4 v5 v6 z1_ => oA2 z1_ fun z2_ s1 => ?_
   clear zz_
   subst z2_
   obtain ⟨d, hd, rx⟩ := rr1.at hi
   obtain ⟨d', hd', ry⟩ := rr2.at hj
   rw [hd] at hd'
   cases hd'
   rw [List.getElem?_map, Option.map_eq_some_iff] at hd
   obtain ⟨ds, hds, rfl⟩ := hd
   refine oE2 (Rep.lst' rx) fun m1 ws1 z1_ => oA4 z1_ fun z2_ _ hm1 ss1 => ?_
   subst z2_
   refine oE2 (Rep.lst' ry) fun m2 ws2 z1_ => oA4 z1_ fun z2_ _ hm2 ss2 => ?_
   subst z2_
   have lw : ws1.length = ws2.length := by rw [ss1.len, ss2.len]
   have hmem := List.mem_of_getElem? hds
   have s2 := s1.trans (zf (o := .tup [.ref m1, .ref m2]) ht)
   refine un2 upd_same ?_
   generalize upd H1 t (.tup [.ref m1, .ref m2]) = H2 at s2 ⊢
   walk_at "go"
   refine wm (s2 _ _ hm1) ?_
   walk_at "go"
   refine ⟨_, .inl ⟨_, SqL.of (s2 _ _ hm1), rfl⟩, ?_⟩
   walk_at "go"
   refine ⟨_, .inl ⟨_, SqL.of (s2 _ _ hm2), rfl⟩, ?_⟩
   rw [lw]
   walk_at "go"
   walk_at "for"
   walk_at "go"
   refine iE6 true true m1 m2 ws1 ws2 (iA4 rfl (SqL.of (s2 _ _ hm1)) (SqL.of (s2 _ _ hm2)) ?_)
   let M3_ : Nat → St → Hp → Prop := fun i σ H' => ∃ v5 v6 : Option V, σ = [some (.ref l1), some (.ref l2), some (.bl fl), some (.ref m1), some (.ref m2), v5, v6] ∧ Same H H'
   refine Qg (K := K) (xs := ws1) (ys := ws2) M3_ (iE2 _ _ ⟨rfl, s2⟩) (fun i σ H' _ ⟨_, _, _, s⟩ => ⟨SqL.of (s _ _ hm1), SqL.of (s _ _ hm2)⟩) ?_ ?_
   ·intro j x y t2 σ H3 hx hy ht2 zz_
    refine oE2 zz_ fun v5 v6 z1_ => oA2 z1_ fun z2_ s3 => ?_
    clear zz_
    subst z2_
    obtain ⟨d, hd, rx⟩ := ss1.at hx
    obtain ⟨d', hd', ry⟩ := ss2.at hy
    rw [hd] at hd'
    cases hd'
    have hdm := List.mem_of_getElem? hd
    have s4 := s3.trans (zf (o := .tup [x, y]) ht2)
    refine un2 upd_same ?_
    generalize upd H3 t2 (.tup [x, y]) = H4 at s4 ⊢
    walk_at "go"
    cases fl with
    | true =>
     obtain ⟨wr, rfl⟩ := ft rfl ds hmem d hdm
     walk_at "go"
     refine uc (wb T).mono (iE5 x y wr _ _ (iA4 rfl (zW rx s4) (zW ry s4) ?_))
     walk_at "go"
     first | exact ⟨_, _, rfl, s4⟩ | trace_state
    | false =>
     obtain ⟨n, rfl⟩ := ff rfl ds hmem d hdm
     cases rx
     cases ry
     walk_at "go"
     refine uc (qK T).mono ⟨_, rfl, ?_⟩
     walk_at "go"
     first | exact ⟨_, _, rfl, s4⟩ | trace_state
   ·intro σ H3 zz_
    refine oE2 zz_ fun v5 v6 z1_ => oA2 z1_ fun z2_ s3 => ?_
    clear zz_
    subst z2_
    exact iE4 _ _ _ _ ⟨rfl, s3⟩
  ·intro σ H1 zz_
   refine oE4 zz_ fun v3 v4 v5 v6 z1_ => oA2 z1_ fun z2_ s1 => ?_
   clear zz_
   subst z2_
   exact s1
 intro σ' H1 s1
 walk_at "go"
 exact k _ s1
theorem j2 (T : Txt K mg a) : Cal P w K mg base "_law_lists_are" 3 ["_law_found", "_law_due", "_law_cells"] [] wz := T.h_L_lists_are.cal (ok_L_lists_are T)
def xE (a : Ad) : Sp := fun vs H Q _ => ∃ (v vc vs' vg : V) (st : PSt) (p q : Addr → Prop), vs = [v, .int st.turn, vc, vs', vg] ∧ Rep H p v (qH a st) ∧ Rep H q vc (.lst ((zt st.cells).map D.lst)) ∧ Rep H q vs' (.ints st.sides) ∧ Rep H q vg (.lst ((zP st.gone).map D.lst)) ∧ ∀ H', Same H H' → Q (.bl true) H'
theorem i_spStateIs {a : Ad} {vs : List V} {H : Hp} {Q : VK} {E : XK} (v vc vs' vg : V) (st : PSt) (p q : Addr → Prop) (q0 : vs = [v, .int st.turn, vc, vs', vg]) (q1 : Rep H p v (qH a st)) (q2 : Rep H q vc (.lst ((zt st.cells).map D.lst))) (q3 : Rep H q vs' (.ints st.sides)) (q4 : Rep H q vg (.lst ((zP st.gone).map D.lst))) (q5 : ∀ H', Same H H' → Q (.bl true) H') : xE a vs H Q E := ⟨v, vc, vs', vg, st, p, q, q0, q1, q2, q3, q4, q5⟩
theorem ok_L_state_is (T : Txt K mg a) (F : Fun K "_law_state_is" "_law_state_is" s_L_state_is f fd) : FnOk P w K mg base (CXr P w) 4 f fd stPs (xE a) := by
 refine F.okx sc_L_state_is ?_ ?_
 ·walk_at "i"
 walk_at "j"
 refine oE7 h fun v vc vs' vg st p q z1_ => oA6 z1_ fun z2_ rv rc rs rg k => ?_
 clear h
 subst z2_
 refine oE3 (Rep.ob' rv) fun y dx fs z1_ => oA5 z1_ fun z2_ py hy g1 g2 => ?_
 subst z2_
 obtain ⟨u1, e1, r1⟩ := g1 _ _ (wu st)
 obtain ⟨u2, e2, r2⟩ := g1 _ _ (xD st)
 obtain ⟨u3, e3, r3⟩ := g1 _ _ (xC st)
 obtain ⟨u4, e4, r4⟩ := g1 _ _ (wv st)
 cases r1
 refine oE1 r3.ints' fun ls1 z1_ => oA3 z1_ fun z2_ _ hs1 => ?_
 subst z2_
 refine oE1 rs.ints' fun ls2 z1_ => oA3 z1_ fun z2_ _ hs2 => ?_
 subst z2_
 walk_at "T"
 refine ⟨_, (zg (zA (PW.pt (pw_or (zK (zz (zG jm zQ (za (pv 0) (za jX zb))) (fun _ => rfl))) (pw_or (zK (zz (zx ⟨rfl, rfl, rfl⟩ hr (za (zu (pv 0) rfl) zb)) (fun _ => rfl))) (pw_or1 (zo (jd hr.units1) (zu (pv 0) rfl) (pv 1) (zq _))))))  (zd (zi qe))  zk)  (zg (zA (PW.pt (pw_or (zK (zz (zx ⟨rfl, rfl, rfl⟩ hr (za (zu (pv 0) rfl) (za (pv 3) zb))) (fun _ => rfl))) (pw_or1 (zK (zz (zx ⟨rfl, rfl, rfl⟩ hr (za (zu (pv 0) rfl) (za (pv 4) (za qe zb)))) (fun _ => rfl))))))  (zd (zi qe))  zk)  (zd (zi (zx ⟨rfl, rfl, rfl⟩ hr (za (zu (pv 0) rfl) (za (pv 2) (za qe zb)))))))), ?_⟩
 walk_at "go"
 refine iE2 (.ref a.State) _ (iA3 T.g_State rfl (iE4 _ _ _ _ (iA4 rfl (T.W_State.ty T.C_State hy) (.inl ⟨_, rfl, T.k1_State_State⟩) ?_)))
 walk_at "go"
 refine uc (qK T).mono (ra hy T.C_State T.N_State_turn e1 ⟨_, rfl, ?_⟩)
 walk_at "go"
 refine ra hy T.C_State T.N_State_turn e1 ?_
 walk_at "go"
 refine uc (c_L_numbers_are T).mono (ra hy T.C_State T.N_State_sides e3 ?_)
 refine iE3 ls1 ls2 st.sides (iA4 rfl hs1 (SqL.of hs2) (fun H1 s1 => ?_))
 walk_at "go"
 refine uc (j2 T).mono (ra (s1 _ _ hy) T.C_State T.N_State_gone e4 ?_)
 refine iE6 u4 vg false (zP st.gone) _ _ (iA6 rfl (zW r4 s1) (zW rg s1) (fun z => nomatch z) (fun _ ds hds d hd => ?_) (fun H2 s2 => ?_))
 ·obtain ⟨g, _, rfl⟩ := List.mem_map.mp hds
  obtain ⟨n, _, rfl⟩ := List.mem_map.mp hd
  exact ⟨n, rfl⟩
 walk_at "go"
 have s12 := s1.trans s2
 refine uc (j2 T).mono (ra (s12 _ _ hy) T.C_State T.N_State_cells e2 ?_)
 refine iE6 u2 vc true (zt st.cells) _ _ (iA6 rfl (zW r2 s12) (zW rc s12) (fun _ ds hds d hd => ?_) (fun z => nomatch z) (fun H3 s3 => ?_))
 ·obtain ⟨g, _, rfl⟩ := List.mem_map.mp hds
  obtain ⟨n, _, rfl⟩ := List.mem_map.mp hd
  exact ⟨n, rfl⟩
 exact k _ (s12.trans s3)
theorem xA (T : Txt K mg a) : Cal P w K mg base "_law_state_is" 4 stPs [] (xE a) := T.h_L_state_is.cal (ok_L_state_is T)
def jb (c : List Ware) (p : Nat) : List Ware := if c.getD (p + 1) none = none then (c.set (p + 1) (c.getD p none)).set p none else c
def mvGo (c : List Ware) : Nat → List Ware
 | 0 => c
 | k + 1 => jb (mvGo c k) (c.length - 2 - k)
def Z4 (c : List Ware) : List Ware := mvGo c (c.length - 1)
theorem mvStep_len {c : List Ware} {p : Nat} : (jb c p).length = c.length := by
 unfold jb
 split <;> simp
theorem xp {c : List Ware} : ∀ k, (mvGo c k).length = c.length
 | 0 => rfl
 | k + 1 => by rw [mvGo, mvStep_len, xp k]
theorem mvStep_mem {c : List Ware} {p : Nat} {x : Ware} (h : x ∈ jb c p) : x ∈ c ∨ x = none := by
 unfold jb at h
 split at h
 ·rcases jO h with h | h
  ·rcases jO h with h | h
   ·exact .inl h
   ·rw [List.getD_eq_getElem?_getD] at h
    cases e : c[p]? with
    | none => rw [e] at h; exact .inr h
    | some y => rw [e] at h; exact .inl (by rw [h]; exact List.mem_of_getElem? e)
  ·exact .inr h
 ·exact .inl h
theorem Zt {c : List Ware} {x : Ware} : ∀ k, x ∈ mvGo c k → x ∈ c ∨ x = none
 | 0 => fun h => .inl h
 | k + 1 => fun h => by
  rcases mvStep_mem h with h | h
  ·exact Zt k h
  ·exact .inr h
theorem upd_self {H : Hp} {b : Addr} {o : HO} (h : H b = some o) : upd H b o = H := by
 funext x
 by_cases e : x = b
 ·rw [e, upd_same, h]
 ·rw [upd_ne e]
theorem qN {H : Hp} {p : Addr → Prop} {v : V} {x : Ware} (r : Rep H p v (zC x)) : v = .non ↔ x = none := by
 cases x with
 | none => cases r; simp
 | some x => obtain ⟨t, us, rfl, _⟩ := Rep.tup' r; simp
theorem atD {xs : List Ware} {p : Nat} (h : p < xs.length) : xs[p]? = some (xs.getD p none) := qp h
def wy : Sp := fun vs H Q _ => ∃ (b : Addr) (us : List V) (c : List Ware), vs = [.ref b] ∧ H b = some (.lst us) ∧ Reps H (TupP H) us (c.map zC) ∧ c.length ≤ 100 ∧ ∀ us', Reps H (TupP H) us' ((Z4 c).map zC) → Q .non (upd H b (.lst us'))
theorem ok_move_belt (T : Txt K mg a) (F : Fun K "move_belt" "move_belt" s_move_belt f fd) : FnOk P w K mg base (CXr P w) 1 f fd ["cells"] wy := by
 refine F.okx sc_move_belt ?_ ?_
 ·walk_at "i"
 walk_at "j"
 refine oE3 h fun b us c z1_ => oA5 z1_ fun z2_ hb rb lc k => ?_
 clear h
 subst z2_
 have lu : us.length = c.length := by rw [rb.len, List.length_map]
 walk_at "T"
 refine ⟨_, (zd (z9 qu rfl (QD (za (zm vW (zG zJ zI (za (pv 0) zb)) zc) (za (xm jt zc) (za (xm jt zc) zb)))) (pg_n 1 sc_move_belt.nd)  (zd (zA (zo qF (zh (pv 0) (zm z6 (pv 1) zc)) zD (zq _))  (zj (qS (zh (pv 0) (pv 1)) (jl (pv 0) (zm z6 (pv 1) zc) z7))  (zd (qS zD (jl (pv 0) (pv 1) z7))))  zk)))), ?_⟩
 walk_at "go"
 walk_at "for"
 walk_at "go"
 refine ⟨_, .inl ⟨_, SqL.of hb, rfl⟩, ?_⟩
 rw [lu]
 walk_at "go"
 refine iE2 _ _ (iA3 rfl (iA4 (by omega) (by omega) (by omega) (by omega)) ?_)
 rw [show ((c.length : Int) - 2 - -1).toNat = c.length - 1 by omega]
 refine Q8 (K := K) (fun i σ H' => ∃ (v1 : Option V) (us' : List V), σ = [some (.ref b), v1] ∧ H' = upd H b (.lst us') ∧ Reps H (TupP H) us' ((mvGo c i).map zC)) (iE2 _ us (iA3 rfl ((upd_self hb).symm) rb)) ?_ ?_
 ·intro i σ H' hi zz_
  refine oE2 zz_ fun v1 us' z1_ => oA3 z1_ fun z2_ z3_ r1 => ?_
  clear zz_
  subst z2_ z3_
  have lm := xp (c := c) i
  have l1 : us'.length = c.length := by rw [r1.len, List.length_map, lm]
  obtain ⟨p, hp⟩ : ∃ p, c.length - 2 - i = p := ⟨_, rfl⟩
  have ep : (c.length : Int) - 2 - i = p := by omega
  have hp1 : p + 1 < c.length := by omega
  rw [ep]
  have eS : mvGo c (i + 1) = jb (mvGo c i) p := by rw [mvGo, hp]
  rw [eS]
  generalize mvGo c i = m at r1 lm ⊢
  have m0 : m[p]? = some (m.getD p none) := atD (by omega)
  have m1 : m[p + 1]? = some (m.getD (p + 1) none) := atD (by omega)
  obtain ⟨u0, hu0, ru0⟩ := r1.of (i := p) (d := zC (m.getD p none)) (by rw [List.getElem?_map, m0]; rfl)
  obtain ⟨u1, hu1, ru1⟩ := r1.of (i := p + 1) (d := zC (m.getD (p + 1) none)) (by rw [List.getElem?_map, m1]; rfl)
  have e1 : ((p : Int) + 1) = ((p + 1 : Nat) : Int) := by omega
  walk_at "go"
  rw [e1]
  refine zl (SqL.of upd_same) (zr hu1) ?_
  walk_at "go"
  refine ite2 (fun z => ?_) (fun z => ?_)
  ·have z := (qN ru1).mp z
   walk_at "go"
   refine zl (SqL.of upd_same) (zr hu0) ?_
   walk_at "go"
   refine qh upd_same (qT (by omega) (by omega)) ?_
   walk_at "go"
   refine qh upd_same (qT (by omega) (by simp; omega)) ?_
   rw [js, js]
   refine iE2 _ _ (iA3 rfl rfl ?_)
   unfold jb
   rw [if_pos z, List.map_set, List.map_set, Int.toNat_natCast, Int.toNat_natCast]
   exact Reps.set (Reps.set r1 _ ru0) _ .non
  ·have z : m.getD (p + 1) none ≠ none := fun y => z ((qN ru1).mpr y)
   walk_at "go"
   refine iE2 _ us' (iA3 rfl rfl ?_)
   unfold jb
   rw [if_neg z]
   exact r1
 ·intro σ H' zz_
  refine oE2 zz_ fun v1 us' z1_ => oA3 z1_ fun z2_ z3_ r1 => ?_
  clear zz_
  subst z2_ z3_
  exact k _ r1
theorem c_move_belt (T : Txt K mg a) : Cal P w K mg base "move_belt" 1 ["cells"] [] wy := T.h_move_belt.cal (ok_move_belt T)
def zZ (bs : List (Int × Int)) (t : Int) (cs : List (List Ware)) : Nat → List (List Ware)
 | 0 => cs
 | i + 1 => if t % (bs.getD i (0, 1)).2 = 0 then (zZ bs t cs i).set i (Z4 ((zZ bs t cs i).getD i [])) else zZ bs t cs i
theorem jB {bs : List (Int × Int)} {rs : List Row} {t : Int} {cs : List (List Ware)} (h : qi bs rs cs) : ∀ i, qi bs rs (zZ bs t cs i)
 | 0 => h
 | i + 1 => by
  have ih := jB h i (t := t)
  rw [zZ]
  split
  ·generalize zZ bs t cs i = ds at ih ⊢
   cases e : ds[i]? with
   | none => rw [List.set_eq_of_length_le (List.getElem?_eq_none_iff.mp e)]; exact ih
   | some c =>
    have ec : ds.getD i [] = c := by rw [List.getD_eq_getElem?_getD, e]; rfl
    rw [ec]
    have hi : i < bs.length := by rw [← ih.1]; exact (List.getElem?_eq_some_iff.mp e).1
    refine xP ih e (xp _) fun x hx => ?_
    rcases Zt _ hx with hx | hx
    ·exact (ih.2 i _ c (List.getElem?_eq_getElem hi) e).2 x hx
    ·rw [hx]; exact va
  ·exact ih
def passF (bs : List (Int × Int)) (rs : List Row) (st : PSt) : PSt × List Move := ({ (zn rs st rs.length).1 with turn := (zn rs st rs.length).1.turn + 1, cells := zZ bs (zn rs st rs.length).1.turn (zn rs st rs.length).1.cells bs.length }, (zn rs st rs.length).2)
theorem passF_wf {bs : List (Int × Int)} {rs : List Row} {st : PSt} (wf : stWf bs rs st) (wok : zT bs rs) (bo : ∀ b ∈ bs, zE b.1 b.2) (ro : ∀ r ∈ rs, r.ok) : stWf bs rs (passF bs rs st).1 := by
 have w := qL wf wok bo ro rs.length
 exact ⟨jB w.co _, w.so, w.go⟩
theorem StO.ney {H : Hp} {y : Addr} {n : SN} {st : PSt} (h : StO a H y n st) : y ∉ n.all := fun z => by
 have hy := h.hy
 have c : ∀ vs, H y ≠ some (.lst vs) := fun vs z => by rw [hy] at z; cases z
 simp only [SN.all, List.mem_cons, List.mem_append] at z
 rcases z with z | z | z | z | z
 ·exact c _ (by rw [z]; exact h.hs)
 ·exact c _ (by rw [z]; exact h.hc.out)
 ·exact c _ (by rw [z]; exact h.hg.out)
 ·obtain ⟨vs, hv⟩ := h.hc.isl (List.mem_cons_of_mem _ z); exact c _ hv
 ·obtain ⟨vs, hv⟩ := h.hg.isl (List.mem_cons_of_mem _ z); exact c _ hv
theorem StO.putT {H : Hp} {y : Addr} {n : SN} {st : PSt} {t : Int} (h : StO a H y n st) : StO a (upd H y (.ins a.State n.dx (sff t n.lc n.ls n.lg))) y n { st with turn := t } := by
 have ny := h.ney
 have tn : ∀ b, TupP H b → b ≠ y := fun b ⟨xs, hx⟩ z => by rw [z, h.hy] at hx; cases hx
 simp only [SN.all, List.mem_cons, List.mem_append, not_or] at ny
 obtain ⟨n1, n2, n3, n4, n5⟩ := ny
 refine ⟨upd_same, h.hc.tup fun b o c hb => ?_, ?_, h.hg.tup fun b o c hb => ?_, h.nd⟩
 ·rw [upd_ne ?_]
  ·exact hb
  ·rcases c with rfl | c | c
   ·exact Ne.symm n2
   ·exact fun z => n4 (by rw [← z]; exact c)
   ·exact tn b c
 ·rw [upd_ne (Ne.symm n1)]; exact h.hs
 ·rw [upd_ne ?_]
  ·exact hb
  ·rcases c with rfl | c | c
   ·exact Ne.symm n3
   ·exact fun z => n5 (by rw [← z]; exact c)
   ·exact tn b c
theorem work_belts {H : Hp} {p : Addr → Prop} {v : V} {bs : List (Int × Int)} {rs : List Row} (h : Rep H p v (qG a bs rs)) : ∃ y dx fs l1 bvs, v = .ref y ∧ p y ∧ H y = some (.ins a.Work dx fs) ∧ fs.lookup ("belts" : Str) = some (.ref l1) ∧ p l1 ∧ H l1 = some (.lst bvs) ∧ Bts a H p bvs bs := by
 refine oE3 (Rep.ob' h) fun y dx fs z1_ => oA5 z1_ fun z2_ py hy g1 g2 => ?_
 subst z2_
 obtain ⟨u1, e1, r1⟩ := g1 _ _ Zg
 refine oE2 r1.lst' fun l1 bvs z1_ => oA4 z1_ fun z2_ pl h1 b1 => ?_
 subst z2_
 exact iE5 y dx fs l1 bvs (iA7 rfl py hy e1 pl h1 (.of b1))
theorem sff_t {t u : Int} {lc ls lg : Addr} : putF "turn" (.int u) (sff t lc ls lg) = sff u lc ls lg := rfl
def Qu (a : Ad) : Sp := fun vs H Q _ => ∃ (vw : V) (y : Addr) (n : SN) (st : PSt) (bs : List (Int × Int)) (rs : List Row), vs = [vw, .ref y] ∧ Rep H (Off (y :: n.all)) vw (qG a bs rs) ∧ StO a H y n st ∧ stWf bs rs st ∧ zT bs rs ∧ (∀ b ∈ bs, zE b.1 b.2) ∧ (∀ r ∈ rs, r.ok) ∧
 ∀ l us H', Fr (y :: n.all) H H' → StO a H' y n (passF bs rs st).1 → H l = none → l ∉ y :: n.all → H' l = some (.lst us) → Reps H' (TupP H') us ((passF bs rs st).2.map qf) → Q (.ref l) H'
theorem ok_pass_turn (T : Txt K mg a) (F : Fun K "pass_turn" "pass_turn" s_pass_turn f fd) : FnOk P w K mg base (CXr P w) 6 f fd ["work", "state"] (Qu a) := by
 refine F.okx sc_pass_turn ?_ ?_
 ·walk_at "i"
 walk_at "j"
 refine oE6 h fun vw y n st bs rs z1_ => oA8 z1_ fun z2_ hw so wf wok bo ro k => ?_
 clear h
 subst z2_
 have b24 := wok.1.1.2
 walk_at "T"
 refine ⟨_, (zg (zF 2 sc_pass_turn.nd (zx ⟨rfl, rfl, rfl⟩ hr (za (pv 0) (za (pv 1) zb))))  (zX (z9 qu rfl (qD (za (zu (pv 0) rfl) zb)) (qJ (n := 2) rfl (zB (pg_n 3 sc_pass_turn.nd) (zB (pg_n 4 sc_pass_turn.nd) qo)))  (zd (zA (zo (jq hr.units1) (zm zL (zu (pv 1) rfl) (zu (pv 4) rfl)) zc (zq _))  (zd (zN (zx ⟨rfl, rfl, rfl⟩ hr (za (zh (zu (pv 1) rfl) (pv 3)) zb))))  zk)))  (zg (ps_fldaug (pv 1) zc in_add)  (zd (zi (pv 2)))))), ?_⟩
 walk_at "go"
 refine uc (vE T).mono (i_spActAll vw y n st bs rs rfl hw so wf wok bo ro (fun l us H1 f1 so1 nl nl' hl rl => ?_))
 have wA := qL wf wok bo ro rs.length
 have hw1 := hw.fr f1
 refine oE5 (work_belts hw1) fun yw dw fw l1 bvs z1_ => oA7 z1_ fun z2_ _ hyw ew1 pl1 hl1 hB => ?_
 subst z2_
 have lb : bvs.length = bs.length := hB.len
 generalize hA : zn rs st rs.length = A at so1 rl wA
 refine oA4 (sff_l (t := A.1.turn) (lc := n.lc) (ls := n.ls) (lg := n.lg)) fun lk1 lk2 lk3 lk4 => ?_
 walk_at "go"
 let M1_ : St → Hp → Prop := fun σ' H' => ∃ (v3 v4 : Option V), σ' = [some (.ref yw), some (.ref y), some (.ref l), v3, v4] ∧ Fr (y :: n.all) H1 H' ∧ StO a H' y n { A.1 with cells := zZ bs A.1.turn A.1.cells bs.length }
 refine cut M1_ ?_ ?_
 ·walk_at "for"
  walk_at "go"
  refine ra hyw T.C_Work T.N_Work_belts ew1 (iE2 l1 _ (iA3 rfl hl1 ?_))
  let M2_ : Nat → St → Hp → Prop := fun i σ H' => ∃ (v3 v4 : Option V), σ = [some (.ref yw), some (.ref y), some (.ref l), v3, v4] ∧ Fr (y :: n.all) H1 H' ∧ StO a H' y n { A.1 with cells := zZ bs A.1.turn A.1.cells i }
  refine ZE (K := K) (a := l1) (xs := bvs) M2_ (iE2 _ _ (iA3 rfl Fr.refl so1)) (fun i σ H' _ h => by obtain ⟨_, _, _, f, _⟩ := h; exact SqL.of (f _ _ pl1 hl1)) ?_ ?_
  ·intro i x t σ H2 hi ht zz_
   refine oE2 zz_ fun v3 v4 z1_ => oA3 z1_ fun z2_ f2 so2 => ?_
   clear zz_
   subst z2_
   obtain ⟨b, hb', hBt⟩ := hB.at hi
   refine oE3 hBt.inv fun y1 dx1 fs1 z1_ => oA5 z1_ fun z2_ py1 g0 _ e2 => ?_
   subst z2_
   have g02 := f2 _ _ py1 g0
   have hil := (List.getElem?_eq_some_iff.mp hb').1
   have bk := bo b (List.mem_of_getElem? hb')
   have f3 := f2.trans (wV (ms := y :: n.all) (o := .tup [.int i, .ref y1]) ht)
   have so3 := so2.same (zf (o := .tup [.int i, .ref y1]) ht)
   have g03 := upd_keep (o := .tup [.int i, .ref y1]) g02 ht
   refine un2 upd_same ?_
   generalize upd H2 t (.tup [.int i, .ref y1]) = H3 at f3 so3 g03 ⊢
   have eb : bs.getD i (0, 1) = b := by rw [List.getD_eq_getElem?_getD, hb']; rfl
   have co := jB (t := A.1.turn) wA.co i
   have hc := qp (xs := zZ bs A.1.turn A.1.cells i) (d := []) (show i < _ by rw [co.1]; exact hil)
   refine oE2 (so3.cell hc) fun bC vs z1_ => oA3 z1_ fun hbC hvC rvC => ?_
   have lc := (co.2 i b _ hb' hc).1
   have b1 := bk.1
   have b2 := bk.2.1
   have b3 := bk.2.2.1
   walk_at "go"
   refine ra so3.hy T.C_State T.N_State_turn lk4 ?_
   refine ra g03 T.C_Belt T.N_Belt_pace e2 ?_
   walk_at "go"
   refine ite2 (fun z => ?_) (fun z => ?_)
   ·walk_at "go"
    refine uc (c_move_belt T).mono ?_
    refine ra so3.hy T.C_State T.N_State_cells lk1 (zl (SqL.of so3.hc.out) (zr (xB hbC)) ?_)
    refine iE3 bC vs _ (iA5 rfl hvC rvC (by omega) (fun us' r' => ?_))
    refine iE2 _ _ (iA3 rfl (f3.trans (qc (Zf hbC))) ?_)
    have := so3.putC hbC r'
    rw [zZ, eb, if_pos z]
    exact this
   ·refine iE2 _ _ (iA3 rfl f3 ?_)
    rw [zZ, eb, if_neg z]
    exact so3
  ·intro σ H2 zz_
   refine oE2 zz_ fun v3 v4 z1_ => oA3 z1_ fun z2_ f2 so2 => ?_
   clear zz_
   subst z2_
   rw [lb] at so2
   exact iE2 _ _ (iA3 rfl f2 so2)
 intro σ' H2 zz_
 refine oE2 zz_ fun v3 v4 z1_ => oA3 z1_ fun z2_ f2 so2 => ?_
 clear zz_
 subst z2_
 walk_at "go"
 refine ⟨_, ⟨rfl, iE5 y a.State n.dx _ _ (iA6 rfl so2.hy T.C_State T.N_State_turn lk4 ?_)⟩⟩
 refine iE2 _ 1 (iA3 rfl rfl (iE2 n.dx _ (iA3 so2.hy (show 4 < 1000 by decide) ?_)))
 rw [sff_t]
 have f3 := f2.trans (qc (x := y) (o := .ins a.State n.dx (sff (A.1.turn + 1) n.lc n.ls n.lg)) (by simp))
 walk_at "go"
 refine k l us _ (f1.trans f3) (by rw [passF, hA]; exact so2.putT) nl nl' (f3 _ _ nl' hl) (by rw [passF, hA]; exact so1.repsT f3 rl)
theorem c_pass_turn (T : Txt K mg a) : Cal P w K mg base "pass_turn" 6 ["work", "state"] [] (Qu a) := T.h_pass_turn.cal (ok_pass_turn T)
def xF (a : Ad) : Sp := fun vs H Q _ => ∃ (vw v : V) (st : PSt) (bs : List (Int × Int)) (rs : List Row) (p : Addr → Prop), vs = [vw, v] ∧ Rep H (Off []) vw (qG a bs rs) ∧ Rep H p v (qH a st) ∧ stWf bs rs st ∧ zT bs rs ∧ (∀ b ∈ bs, zE b.1 b.2) ∧ (∀ r ∈ rs, r.ok) ∧
 ∀ v' H', Same H H' → StNew a H H' v' (passF bs rs st).1 → Q v' H'
theorem i_spOneTurn {a : Ad} {vs : List V} {H : Hp} {Q : VK} {E : XK} (vw v : V) (st : PSt) (bs : List (Int × Int)) (rs : List Row) (p : Addr → Prop) (q0 : vs = [vw, v]) (q1 : Rep H (Off []) vw (qG a bs rs)) (q2 : Rep H p v (qH a st)) (q3 : stWf bs rs st) (q4 : zT bs rs) (q5 : (∀ b ∈ bs, zE b.1 b.2)) (q6 : (∀ r ∈ rs, r.ok)) (q7 : ∀ v' H', Same H H' → StNew a H H' v' (passF bs rs st).1 → Q v' H') : xF a vs H Q E := ⟨vw, v, st, bs, rs, p, q0, q1, q2, q3, q4, q5, q6, q7⟩
theorem ok_one_turn (T : Txt K mg a) (F : Fun K "one_turn" "one_turn" s_one_turn f fd) : FnOk P w K mg base (CXr P w) 7 f fd ["work", "state"] (xF a) := by
 refine F.okx sc_one_turn ?_ ?_
 ·walk_at "i"
 walk_at "j"
 refine oE6 h fun vw v st bs rs p z1_ => oA8 z1_ fun z2_ hw hv wf wok bo ro k => ?_
 clear h
 subst z2_
 have b24 := wok.1.1.2
 have r24 := wok.1.2.2
 walk_at "T"
 refine ⟨_, (zj (zF 2 sc_one_turn.nd (zx ⟨rfl, rfl, rfl⟩ hr (za (pv 1) zb)))  (zj (zN (zx ⟨rfl, rfl, rfl⟩ hr (za (pv 0) (za (pv 2) zb))))  (zd (zi (pv 2))))), ?_⟩
 walk_at "go"
 refine uc (jS T).mono (iE3 v st p (iA5 rfl hv (by rw [wf.co.1]; omega) (by rw [wf.go.1]; omega) (fun v' H1 s1 sn => ?_)))
 refine oE2 sn fun y n z1_ => oA5 z1_ fun z2_ so1 ny nd nn => ?_
 clear sn
 subst z2_
 have na : ∀ b ∈ y :: n.all, H b = none := fun b hb => by
  rcases List.mem_cons.mp hb with rfl | hb
  ·exact ny
  ·exact nn b hb
 have hw1 : Rep H1 (Off (y :: n.all)) vw (qG a bs rs) := zW (hw.more (ns := y :: n.all) fun b hb => .inr (na b hb)) s1
 walk_at "go"
 refine uc (c_pass_turn T).mono (iE6 vw y n st bs rs (iA8 rfl hw1 so1 wf wok bo ro (fun l us H2 f2 so2 _ _ _ _ => ?_)))
 walk_at "go"
 exact k _ _ (fun b o hb => f2 b o (fun z => by rw [na b z] at hb; cases hb) (s1 b o hb)) (iE2 y n (iA5 rfl so2 ny nd nn))
theorem c_one_turn (T : Txt K mg a) : Cal P w K mg base "one_turn" 7 ["work", "state"] [] (xF a) := T.h_one_turn.cal (ok_one_turn T)
theorem ZF (rs : List Row) (r : Row) : jg (rs ++ [r]) = jg rs ++ r.outs := by simp [jg]
theorem wq (rs : List Row) (r : Row) : qg (rs ++ [r]) = qg rs ++ r.ins := by simp [qg]
theorem row_new {H H' : Hp} {ms : List Addr} {t l1 l2 l3 : Addr} {r : Row} (s : Same H H') (nt : H t = none) (n1 : H l1 = none) (n2 : H l2 = none) (n3 : H l3 = none) (ht : H' t = some (.tup [.str (wdS r.wd), .ref l1, .ref l2, .int r.pace, .ref l3])) (h1 : H' l1 = some (.lst (iv r.ins))) (h2 : H' l2 = some (.lst (iv r.outs))) (h3 : H' l3 = some (.lst (iv r.kinds))) (hm : ∀ b ∈ ms, ∃ o, H b = some o) : Rep H' (Off ms) (.ref t) (dRow r) := by
 have off : ∀ {b : Addr}, H b = none → b ∉ ms := fun {b} hb z => by
  obtain ⟨o, ho⟩ := hm b z
  rw [hb] at ho; cases ho
 exact Reps.mkT (.cons .str (.cons (zY (off n1) h1) (.cons (zY (off n2) h2) (.cons .int (.cons (zY (off n3) h3) .nil))))) (off nt) ht
theorem Z6 {H : Hp} {t l1 l2 l3 : Addr} (r : Row) (n1 : H l1 = none) (n2 : upd H l1 (.lst (iv r.ins)) l2 = none) (n3 : upd (upd H l1 (.lst (iv r.ins))) l2 (.lst (iv r.outs)) l3 = none) (nt : upd (upd (upd H l1 (.lst (iv r.ins))) l2 (.lst (iv r.outs))) l3 (.lst (iv r.kinds)) t = none) :
  Same H (upd (upd (upd (upd H l1 (.lst (iv r.ins))) l2 (.lst (iv r.outs))) l3 (.lst (iv r.kinds))) t (.tup [.str (wdS r.wd), .ref l1, .ref l2, .int r.pace, .ref l3])) ∧
  ∀ ms, (∀ b ∈ ms, ∃ o, H b = some o) → Rep (upd (upd (upd (upd H l1 (.lst (iv r.ins))) l2 (.lst (iv r.outs))) l3 (.lst (iv r.kinds))) t (.tup [.str (wdS r.wd), .ref l1, .ref l2, .int r.pace, .ref l3])) (Off ms) (.ref t) (dRow r) := by
 have s1 := zf (o := .lst (iv r.ins)) n1
 have s2 := zf (o := .lst (iv r.outs)) n2
 have s3 := zf (o := .lst (iv r.kinds)) n3
 have s4 := zf (o := .tup [.str (wdS r.wd), .ref l1, .ref l2, .int r.pace, .ref l3]) nt
 have s12 := s1.trans s2
 have s13 := s12.trans s3
 exact ⟨s13.trans s4, fun ms hm => row_new (s13.trans s4) (zy s13 nt) n1 (zy s1 n2) (zy s12 n3) upd_same (s4 _ _ (s3 _ _ (s2 _ _ upd_same))) (s4 _ _ (s3 _ _ upd_same)) (s4 _ _ upd_same) hm⟩
structure CB (H3 H : Hp) (B R : Addr) (us us' : List V) (bs : List (Int × Int)) (rs : List Row) : Prop where
 f : Fr [B, R] H3 H
 n : B ≠ R
 hB : H B = some (.lst us)
 rB : Reps H (Off [B, R]) us (bs.map xy)
 hR : H R = some (.lst us')
 rR : Reps H (Off [B, R]) us' (rs.map dRow)
 bo : ∀ b ∈ bs, zE b.1 b.2
 ro : ∀ r ∈ rs, r.ok
theorem wc {α : Type} {p : α → Prop} {xs : List α} {x : α} (h : ∀ y ∈ xs, p y) (k : p x) : ∀ y ∈ xs ++ [x], p y := fun y hy => by
 rcases List.mem_append.mp hy with hy | hy
 ·exact h y hy
 ·rw [List.mem_singleton.mp hy]; exact k
section
variable {H3 H H' : Hp} {B R : Addr} {us us' : List V} {bs : List (Int × Int)} {rs : List Row}
theorem CB.same (C : CB H3 H B R us us' bs rs) (s : Same H H') : CB H3 H' B R us us' bs rs := ⟨C.f.trans s.fr, C.n, s _ _ C.hB, C.rB.same s, s _ _ C.hR, C.rR.same s, C.bo, C.ro⟩
theorem CB.off (C : CB H3 H B R us us' bs rs) {t : Addr} (h : H t = none) : t ∉ [B, R] := fun z => by
 simp only [List.mem_cons, List.not_mem_nil, or_false] at z
 rcases z with rfl | rfl
 ·rw [C.hB] at h; cases h
 ·rw [C.hR] at h; cases h
theorem CB.addRow (C : CB H3 H B R us us' bs rs) {t : Addr} {r : Row} (q : Rep H (Off [B, R]) (.ref t) (dRow r)) (k : r.ok) : CB H3 (upd H R (.lst (us' ++ [.ref t]))) B R us (us' ++ [.ref t]) bs (rs ++ [r]) := by
 have f : Fr [B, R] H (upd H R (.lst (us' ++ [.ref t]))) := qc (by simp)
 refine ⟨C.f.trans f, C.n, by rw [upd_ne C.n]; exact C.hB, C.rB.fr f, upd_same, ?_, C.bo, wc C.ro k⟩
 rw [List.map_append]
 exact (C.rR.fr f).append (.one (q.fr f))
theorem CB.addBelt (C : CB H3 H B R us us' bs rs) {t : Addr} {rm pc : Int} (ht : H t = none) (k : zE rm pc) : CB H3 (upd (upd H t (.tup [.int rm, .int pc])) B (.lst (us ++ [.ref t]))) B R (us ++ [.ref t]) us' (bs ++ [(rm, pc)]) rs := by
 have s := zf (o := .tup [.int rm, .int pc]) ht
 have nt := C.off ht
 have f : Fr [B, R] (upd H t (.tup [.int rm, .int pc])) (upd (upd H t (.tup [.int rm, .int pc])) B (.lst (us ++ [.ref t]))) := qc (by simp)
 refine ⟨(C.f.trans s.fr).trans f, C.n, upd_same, ?_, by rw [upd_ne C.n.symm]; exact s _ _ C.hR, (C.rR.same s).fr f, wc C.bo k, C.ro⟩
 rw [List.map_append]
 exact ((C.rB.same s).fr f).append (.one (Reps.mkT (vs := [.int rm, .int pc]) (.cons .int (.cons .int .nil)) nt (f _ _ nt upd_same)))
end
def Qw : Sp := fun vs H Q _ => ∃ c n : Int, vs = [.int c, .int n] ∧ 0 ≤ n ∧ n ≤ 100000 ∧ ∀ rm pc t, zE rm pc → H t = none → Q (.ref t) (upd H t (.tup [.int rm, .int pc]))
theorem ok_L_belt (T : Txt K mg a) (F : Fun K "_law_belt" "_law_belt" s_L_belt f fd) : FnOk P w K mg base (CXr P w) 2 f fd ["_law_cell_here", "_law_k"] Qw := by
 refine F.okx sc_L_belt ?_ ?_
 ·walk_at "i"
 walk_at "k"
 refine oE2 h fun c n z1_ => oA4 z1_ fun z2_ h0 h1 k => ?_
 clear h
 subst z2_
 walk_at "T"
 refine ⟨_, (zj (zF 2 sc_L_belt.nd (zx ⟨rfl, rfl, rfl⟩ hr (za (pv 0) (za (pv 1) zb))))  (zj (zF 3 sc_L_belt.nd (zm z6 zc (zm zL (pv 2) zc)))  (zX (zA (zo (jq hr.units1) (zm zL (zm jv (pv 2) zc) zc) zc (zq _))  (zd (zF 3 sc_L_belt.nd (zm z6 zc (zm zL (zm jv (pv 2) zc) zc))))  zk)  (zd (zi (qr (za (pv 3) (za (zm z6 zc (zm zL (zm jv (pv 2) zc) zc)) zb)))))))), ?_⟩
 walk_at "go"
 refine iE3 _ _ _ ⟨jA T, ⟨c, n, rfl, h0, h1, ?_⟩⟩
 walk_at "go"
 have s0 := vY c n
 have s1 := mixF_lt c n
 generalize mixF c n = sd at s0 s1 ⊢
 refine cut (fun σ' H' => ∃ rm : Int, σ' = [some (.int c), some (.int n), some (.int sd), some (.int rm)] ∧ H' = H ∧ 1 ≤ rm ∧ rm ≤ 6) ?_ ?_
 ·walk_at "go"
  walk_at "sds"
  walk_at "go"
  refine ite2 (fun b => ?_) (fun b => ?_)
  ·walk_at "go"
   walk_at "sds"
   exact ⟨_, iA3 rfl (by omega) (by omega)⟩
  ·exact ⟨_, iA3 rfl (by omega) (by omega)⟩
 intro σ' H' zz_
 refine oE1 zz_ fun rm z1_ => oA4 z1_ fun z2_ z3_ r1 r2 => ?_
 clear zz_
 subst z2_ z3_
 walk_at "go"
 walk_at "sds"
 exact fun t ht => k rm _ t ⟨r1, r2, by omega, by omega⟩ ht
theorem c_L_belt (T : Txt K mg a) : Cal P w K mg base "_law_belt" 2 ["_law_cell_here", "_law_k"] [] Qw := T.h_L_belt.cal (ok_L_belt T)
def vM (K : PySem.W.Frag) : Sp := fun vs H Q _ => ∃ (l : Addr) (ns : List Int), vs = [.ref l] ∧ SqL K H l (iv ns) ∧
 ∀ t bs rs H', Same H H' → Rep H' (Off []) (.ref t) (.tup [.lst (bs.map xy), .lst (rs.map dRow)]) → zT bs rs → (∀ b ∈ bs, zE b.1 b.2) → (∀ r ∈ rs, r.ok ∧ r.wd ≠ .joiner) → bs.length ≤ 12 → Q (.ref t) H'
theorem i_spLanes {K : PySem.W.Frag} {vs : List V} {H : Hp} {Q : VK} {E : XK} (l : Addr) (ns : List Int) (q0 : vs = [.ref l]) (q1 : SqL K H l (iv ns)) (q2 : ∀ t bs rs H', Same H H' → Rep H' (Off []) (.ref t) (.tup [.lst (bs.map xy), .lst (rs.map dRow)]) → zT bs rs → (∀ b ∈ bs, zE b.1 b.2) → (∀ r ∈ rs, r.ok ∧ r.wd ≠ .joiner) → bs.length ≤ 12 → Q (.ref t) H') : vM K vs H Q E := ⟨l, ns, q0, q1, q2⟩
theorem cut112 (xs : List V) : (cutV xs (some 1) (some 12)).length ≤ 11 := by
 unfold cutV
 rw [List.length_take, List.length_drop]
 have a1 : HT.sIx xs.length xs.length (some 12) = min 12 xs.length := HT.sIx_nat _ _ 12
 have a2 : HT.sIx xs.length 0 (some 1) = min 1 xs.length := HT.sIx_nat _ _ 1
 omega
theorem ok_L_lanes (T : Txt K mg a) (F : Fun K "_law_lanes" "_law_lanes" s_L_lanes f fd) : FnOk P w K mg base (CXr P w) 3 f fd ["_law_script"] (vM K) := by
 refine F.okx sc_L_lanes ?_ ?_
 ·walk_at "i"
 walk_at "j"
 obtain ⟨l, ns, rfl, hl, k⟩ := h
 walk_at "T"
 refine ⟨_, (zg (zF 1 sc_L_lanes.nd (zU zb))  (zg (zF 2 sc_L_lanes.nd (zU zb))  (zX (z9 qu rfl (qD (za (zm z6 (zU (za zc zb)) (pe_slice sl_any (pv 0) (Z1 zc) (Z1 zc))) zb)) (qJ (n := 2) rfl (zB (pg_n 3 sc_L_lanes.nd) (zB (pg_n 4 sc_L_lanes.nd) qo)))  (zg (zN (jp PySem.F.plainAttrs_list PySem.F.slot_list_append PySem.F.type_list_append qb (pv 1) (za (zx ⟨rfl, rfl, rfl⟩ hr (za (pv 4) (za zc zb))) zb)))  (zg (zN (jp PySem.F.plainAttrs_list PySem.F.slot_list_append PySem.F.type_list_append qb (pv 2) (za (qr (za qx (za (zU zb) (za (zU (za (pv 3) zb)) (za (zm z6 zc (zm zL (zx ⟨rfl, rfl, rfl⟩ hr (za (pv 4) (za zc zb))) zc)) (za (zU (za (zx ⟨rfl, rfl, rfl⟩ hr (za (pv 4) (za zc zb))) (za (zx ⟨rfl, rfl, rfl⟩ hr (za (pv 4) (za zc zb))) zb))) zb)))))) zb)))  (zd (zN (jp PySem.F.plainAttrs_list PySem.F.slot_list_append PySem.F.type_list_append qb (pv 2) (za (qr (za qx (za (zU (za (pv 3) zb)) (za (zU zb) (za (zm zL (zx ⟨rfl, rfl, rfl⟩ hr (za (pv 4) (za zc zb))) zc) (za (zU zb) zb)))))) zb)))))))  (zd (zi (qr (za (pv 1) (za (pv 2) zb)))))))), ?_⟩
 walk_at "go"
 intro B hB
 walk_at "go"
 intro R hR
 have s1 := (zf (o := .lst []) hB).trans (zf (o := .lst []) hR)
 have nBR : B ≠ R := ne_of_none upd_same hR
 have gB := upd_keep (o := .lst []) (upd_same (H := H) (a := B) (o := .lst [])) hR
 have gR : upd (upd H B (.lst [])) R (.lst []) R = some (.lst []) := upd_same
 have nR := zS hR
 generalize upd (upd H B (.lst [])) R (.lst []) = H1 at s1 gB gR ⊢
 have nw : ∀ m ∈ [B, R], H m = none := fun m hm => by
  simp only [List.mem_cons, List.not_mem_nil, or_false] at hm
  rcases hm with rfl | rfl
  ·exact hB
  ·exact nR
 walk_at "go"
 refine cut (fun σ' H' => ∃ v3 v4 us us' bs rs, σ' = [some (.ref l), some (.ref B), some (.ref R), v3, v4] ∧ CB H1 H' B R us us' bs rs ∧ 1 ≤ bs.length ∧ bs.length ≤ 12 ∧ rs.length = 2 * bs.length ∧ jg rs = rgI bs.length ∧ qg rs = rgI bs.length ∧ ∀ r ∈ rs, r.wd ≠ .joiner) ?_ ?_
 ·walk_at "for"
  walk_at "go"
  intro p0 hp0
  have sp := zf (o := .lst [.int 8]) hp0
  refine rd_slL (jE (s1.trans sp) hl) fun p1 hp1 => ?_
  have c11 := cut112 (iv ns)
  have hpi : ∀ x ∈ cutV (iv ns) (some 1) (some 12), ∃ c, x = V.int c := by
   intro x hx
   unfold cutV at hx
   have := List.mem_of_mem_drop (List.mem_of_mem_take hx)
   obtain ⟨c, _, rfl⟩ := List.mem_map.mp this
   exact ⟨c, rfl⟩
  generalize cutV (iv ns) (some 1) (some 12) = xs at c11 hpi ⊢
  have sp1 := sp.trans (zf (o := .lst xs) hp1)
  refine rd_addL (SqL.of (zf (o := .lst xs) hp1 _ _ upd_same)) (SqL.of upd_same) (we (by simp; omega)) fun p hp => ?_
  have sp2 := sp1.trans (zf (o := .lst ([.int 8] ++ xs)) hp)
  have gp : upd (upd (upd H1 p0 (.lst [.int 8])) p1 (.lst xs)) p (.lst ([.int 8] ++ xs)) p = some (.lst (.int 8 :: xs)) := upd_same
  generalize upd (upd (upd H1 p0 (.lst [.int 8])) p1 (.lst xs)) p _ = H2 at sp2 gp ⊢
  have C0 : CB H1 H2 B R [] [] [] [] := ⟨sp2.fr, nBR, sp2 _ _ gB, .nil, sp2 _ _ gR, .nil, (fun _ z => nomatch z), (fun _ z => nomatch z)⟩
  have np : p ∉ [B, R] := fun z => by
   have := zy sp1 hp
   simp only [List.mem_cons, List.not_mem_nil, or_false] at z
   rcases z with rfl | rfl
   ·rw [gB] at this; cases this
   ·rw [gR] at this; cases this
  refine ⟨p, _, rfl, gp, ?_⟩
  refine ZE (K := K) (a := p) (xs := .int 8 :: xs) (fun i σ' H' => ∃ v3 v4 us us' bs rs, σ' = [some (.ref l), some (.ref B), some (.ref R), v3, v4] ∧ CB H1 H' B R us us' bs rs ∧ H' p = some (.lst (.int 8 :: xs)) ∧ bs.length = i ∧ rs.length = 2 * i ∧ jg rs = rgI i ∧ qg rs = rgI i ∧ ∀ r ∈ rs, r.wd ≠ .joiner)
   ⟨_, _, [], [], [], [], rfl, C0, gp, rfl, rfl, rfl, rfl, (fun _ z => nomatch z)⟩ (fun i σ H' _ h => by obtain ⟨_, _, _, _, _, _, _, _, g, _⟩ := h; exact SqL.of g) ?_ ?_
  ·rintro i x t σ' H3 hi ht ⟨v3, v4, us, us', bs, rs, rfl, C, gp3, lb, lr, fd, tk, nj⟩
   have hil := (List.getElem?_eq_some_iff.mp hi).1
   rw [List.length_cons] at hil
   obtain ⟨c, rfl⟩ : ∃ c, x = V.int c := by
    rcases List.mem_cons.mp (List.mem_of_getElem? hi) with h | h
    ·exact ⟨8, h⟩
    ·exact hpi x h
   have lu : us.length = bs.length := by rw [C.rB.len, List.length_map]
   have lu' : us'.length = rs.length := by rw [C.rR.len, List.length_map]
   have s4 := zf (o := .tup [.int i, .int c]) ht
   have C4 := C.same s4
   have gp4 := s4 _ _ gp3
   refine un2 upd_same ?_
   generalize upd H3 t (.tup [.int i, .int c]) = H4 at s4 C4 gp4 ⊢
   walk_at "go"
   refine ⟨.inl ⟨rfl, _, SqL.of C4.hB⟩, _, _, _, (c_L_belt T).mono, _, _, rfl, by decide, by decide, fun rm pc tb bok htb => ?_⟩
   have C5 := C4.addBelt htb bok
   have f5 : Fr [B, R] H4 (upd (upd H4 tb (.tup [.int rm, .int pc])) B (.lst (us ++ [.ref tb]))) := ((zf htb).fr).trans (qc (by simp))
   have gp5 := f5 _ _ np gp4
   refine ⟨B, us, _, rfl, rfl, zf htb _ _ C4.hB, zp (by omega), ?_⟩
   generalize upd (upd H4 tb _) B _ = H5 at C5 gp5 ⊢
   have lb5 : (bs ++ [(rm, pc)]).length = i + 1 := by rw [List.length_append, lb]; rfl
   generalize bs ++ [(rm, pc)] = bs5 at C5 lb5
   walk_at "go"
   refine ⟨.inl ⟨rfl, _, SqL.of C5.hR⟩, fun q1 h1 q2 h2 => ?_⟩
   refine uc (jA T).mono ⟨c, 2, rfl, by decide, by decide, ?_⟩
   walk_at "go"
   have y0 := Int.emod_nonneg (mixF c 2) (show (4 : Int) ≠ 0 by decide)
   have y1 := Int.emod_lt_of_pos (mixF c 2) (show (0 : Int) < 4 by decide)
   generalize mixF c 2 % 4 = pa at y0 y1 ⊢
   refine uc (ZK T).mono ⟨c, 0, rfl, by decide, by decide, ?_⟩
   refine uc (ZK T).mono ⟨c, 1, rfl, by decide, by decide, ?_⟩
   have k0 := Zz c 0
   have k1' := ZA c 0
   have k2 := Zz c 1
   have k3 := ZA c 1
   generalize ZB c 0 = ka at k0 k1' ⊢
   generalize ZB c 1 = kb at k2 k3 ⊢
   intro q3 h3 tr htr
   obtain ⟨s6, r6⟩ := Z6 ⟨.source, [], [(i : Int)], 1 + pa, [ka, kb]⟩ h1 h2 h3 htr
   have C6 := C5.same s6
   have hm : ∀ b ∈ [B, R], ∃ o, H5 b = some o := fun b hb => by
    simp only [List.mem_cons, List.not_mem_nil, or_false] at hb
    rcases hb with rfl | rfl
    ·exact ⟨_, C5.hB⟩
    ·exact ⟨_, C5.hR⟩
   have C7 := C6.addRow (r6 [B, R] hm) ⟨rfl, ⟨_, rfl⟩, by show 1 ≤ 1 + pa; omega, by show 1 + pa ≤ 4; omega, by show 1 ≤ 2; decide, by show 2 ≤ 6; decide, fun n hn => by
    have hn : n ∈ [ka, kb] := hn
    simp only [List.mem_cons, List.not_mem_nil, or_false] at hn
    rcases hn with rfl | rfl
    ·exact ⟨k0, k1'⟩
    ·exact ⟨k2, k3⟩⟩
   refine ⟨R, us', _, rfl, rfl, C6.hR, zp (by omega), ?_⟩
   have f7 := s6.fr.trans (qc (ms := [B, R]) (x := R) (o := .lst (us' ++ [.ref tr])) (by simp))
   have gp7 := f7 _ _ np gp5
   simp only [iv, List.map_cons, List.map_nil, wdS] at C7 gp7
   generalize upd (upd (upd (upd (upd H5 q1 _) q2 _) q3 _) tr _) R _ = H7 at C7 gp7 ⊢
   clear C5 C6 s6 r6 hm f7 h1 h2 h3 htr gp5
   have fd7 := ZF rs ⟨.source, [], [(i : Int)], 1 + pa, [ka, kb]⟩
   have tk7 := wq rs ⟨.source, [], [(i : Int)], 1 + pa, [ka, kb]⟩
   have nj7 : ∀ r ∈ rs ++ [(⟨.source, [], [(i : Int)], 1 + pa, [ka, kb]⟩ : Row)], r.wd ≠ .joiner := wc nj (by show Wd.source ≠ Wd.joiner; decide)
   have lr7 : (rs ++ [(⟨.source, [], [(i : Int)], 1 + pa, [ka, kb]⟩ : Row)]).length = 2 * i + 1 := by rw [List.length_append, lr]; rfl
   generalize rs ++ [(⟨.source, [], [(i : Int)], 1 + pa, [ka, kb]⟩ : Row)] = rs7 at C7 fd7 tk7 nj7 lr7
   have lu7 : (us' ++ [V.ref tr]).length = 2 * i + 1 := by rw [List.length_append, lu', lr]; rfl
   generalize us' ++ [V.ref tr] = us7 at C7 lu7
   walk_at "go"
   refine ⟨.inl ⟨rfl, _, SqL.of C7.hR⟩, fun q1 h1 q2 h2 => ?_⟩
   refine uc (jA T).mono ⟨c, 3, rfl, by decide, by decide, ?_⟩
   walk_at "go"
   have z0 := Int.emod_nonneg (mixF c 3) (show (5 : Int) ≠ 0 by decide)
   have z1 := Int.emod_lt_of_pos (mixF c 3) (show (0 : Int) < 5 by decide)
   generalize mixF c 3 % 5 = pd at z0 z1 ⊢
   intro q3 h3 tr htr
   obtain ⟨s6, r6⟩ := Z6 ⟨.drain, [(i : Int)], [], pd, []⟩ h1 h2 h3 htr
   have C6 := C7.same s6
   have hm : ∀ b ∈ [B, R], ∃ o, H7 b = some o := fun b hb => by
    simp only [List.mem_cons, List.not_mem_nil, or_false] at hb
    rcases hb with rfl | rfl
    ·exact ⟨_, C7.hB⟩
    ·exact ⟨_, C7.hR⟩
   have C8 := C6.addRow (r6 [B, R] hm) ⟨⟨_, rfl⟩, rfl, z0, by show pd ≤ 4; omega⟩
   refine ⟨R, us7, _, rfl, rfl, C6.hR, zp (by omega), ?_⟩
   have f7 := s6.fr.trans (qc (ms := [B, R]) (x := R) (o := .lst (us7 ++ [.ref tr])) (by simp))
   have gp8 := f7 _ _ np gp7
   refine ⟨_, _, _, _, bs5, _, rfl, C8, gp8, lb5, by rw [List.length_append, lr7]; simp; omega, ?_, ?_, wc nj7 (by show Wd.drain ≠ Wd.joiner; decide)⟩
   ·rw [ZF, fd7, fd, List.append_nil, Zp]
   ·rw [wq, tk7, tk, List.append_nil, Zp]
  ·rintro σ' H3 ⟨v3, v4, us, us', bs, rs, rfl, C, gp3, lb, lr, fd, tk, nj⟩
   rw [List.length_cons] at lb lr fd tk
   exact ⟨_, _, us, us', bs, rs, rfl, C, by omega, by omega, by omega, by rw [lb]; exact fd, by rw [lb]; exact tk, nj⟩
 rintro σ' H3 ⟨v3, v4, us, us', bs, rs, rfl, C, b1, b12, lr, fd, tk, nj⟩
 walk_at "go"
 intro t ht
 have s5 := zf (o := .tup [.ref B, .ref R]) ht
 have sF : Same H H3 := (s1.fr.trans C.f).same nw
 refine k t bs rs _ (sF.trans s5) ?_ ⟨⟨⟨b1, by omega⟩, by omega, by omega⟩, by rw [fd], by rw [tk]⟩ C.bo (fun r hr => ⟨C.ro r hr, nj r hr⟩) b12
 have a1 : Rep H3 (Off []) (.ref B) (.lst (bs.map xy)) := C.rB.all.mk' (fun z => nomatch z) C.hB
 have a2 := C.rR.all.mk' (p := Off []) (fun z => nomatch z) C.hR
 exact Reps.mkT (.cons (a1.same s5) (.cons (a2.same s5) .nil)) (fun z => nomatch z) upd_same
theorem c_L_lanes (T : Txt K mg a) : Cal P w K mg base "_law_lanes" 3 ["_law_script"] [] (vM K) := T.h_L_lanes.cal (ok_L_lanes T)
def vL (a : Ad) : Sp := fun vs H Q _ => ∃ (v : V) (r : Row) (p : Addr → Prop), vs = [v] ∧ Rep H p v (dRow r) ∧ r.ok ∧ r.wd ≠ .joiner ∧ ∀ v' H', Same H H' → KnP a H' (New H) v' r → Q v' H'
theorem i_spMake3 {a : Ad} {vs : List V} {H : Hp} {Q : VK} {E : XK} (v : V) (r : Row) (p : Addr → Prop) (q0 : vs = [v]) (q1 : Rep H p v (dRow r)) (q2 : r.ok) (q3 : r.wd ≠ .joiner) (q4 : ∀ v' H', Same H H' → KnP a H' (New H) v' r → Q v' H') : vL a vs H Q E := ⟨v, r, p, q0, q1, q2, q3, q4⟩
theorem ok_L_make (T : Txt K mg a) (F : Fun K "_law_make" "_law_make" s_L_make f fd) : FnOk P w K mg base (CXr P w) 4 f fd ["_law_row"] (vL a) := by
 refine F.okx sc_L_make ?_ ?_
 ·walk_at "i"
 walk_at "j"
 obtain ⟨v, ⟨wd, ins, outs, pc, ks⟩, p, rfl, hv, ok, nj, k⟩ := h
 refine oE4 (jU hv) fun t l1 l2 l3 z1_ => oA5 z1_ fun z2_ ht h1 h2 h3 => ?_
 subst z2_
 simp only at ht h1 h2 h3
 walk_at "T"
 refine ⟨_, (zg (zA (zo (jq hr.units1) (zh (pv 0) zc) qx (zq _))  (zd (zi (xX ⟨rfl, rfl, rfl⟩ hr (za (zh (zh (pv 0) zc) zc) (za (zh (pv 0) zc) (za (jL qM qd (za (zh (pv 0) zc) zb)) zb))))))  zk)  (zd (zi (xX ⟨rfl, rfl, rfl⟩ hr (za (zh (zh (pv 0) zc) zc) (za (zh (pv 0) zc) zb)))))), ?_⟩
 walk_at "go"
 refine rd_ixT ht at0 ?_
 walk_at "go"
 refine ite2 (fun b => ?_) (fun b => ?_)
 ·have b := vJ (y := .source) b
  subst b
  refine oA7 ok fun q1 z1_ q3 q4 q5 q6 q7 => ?_
  clear ok
  obtain ⟨ov, q2⟩ := z1_
  simp only at q1 q2 q3 q4 q5 q6 q7
  subst q1 q2
  walk_at "go"
  refine iE4 a.Source _ _ _ ⟨(ZC T).mono, rd_ixT ht ix2 (zl (SqL.of h2) at0 (rd_ixT ht ix3 ?_))⟩
  walk_at "go"
  refine rd_ixT ht ix4 ?_
  refine iE2 l3 _ (iA3 rfl (.inl (SqL.of h3)) (fun m3' hm3 => ?_))
  intro z dz hz hdz hne
  have hm3' := upd_same (H := H) (a := m3') (o := .lst (iv ks))
  refine iE6 z dz m3' (.int ov) pc ks (iA6 rfl upd_same (SqL.of (qP hz hdz hm3')) (ne_of_none hm3' hz) (fun _ H' m1 m2 m3 s' g1 g2 g3 g4 n1 n2 n3 => ⟨rfl, ?_⟩) (fun hbad => absurd (iA5 q3 q4 q5 q6 q7) hbad))
  exact k _ _ ((zf hm3).trans (Own.of_new hz hdz s')) (vv (p := New H) (ins := []) (outs := [ov]) (zS hz) (zS (qa n1)) (zS (qa n2)) (zS (qa n3)) g1 g2 g3 g4)
 have ns : wd ≠ .source := fun z => b (by rw [z]; rfl)
 clear b
 have hd : wd = .drain := by cases wd <;> first | rfl | contradiction
 subst hd
 refine oA4 ok fun z1_ q2 q3 q4 => ?_
 clear ok
 obtain ⟨iv', q1⟩ := z1_
 simp only at q1 q2 q3 q4
 subst q1 q2
 walk_at "go"
 refine iE4 a.Drain _ _ _ ⟨(Z9 T).mono, rd_ixT ht ix1 (zl (SqL.of h1) at0 (rd_ixT ht ix3 ?_))⟩
 intro z dz hz hdz hne
 refine iE4 z dz (.int iv') pc (iA3 rfl upd_same ?_)
 rw [if_pos ⟨q3, q4⟩]
 intro H' m1 m2 s' g1 g2 g3 n1 n2
 exact ⟨rfl, k _ _ (Own.of_new hz hdz s') (Zx (p := New H) (ins := [iv']) (outs := []) hz (qa n1) (qa n2) g1 g2 g3)⟩
theorem c_L_make (T : Txt K mg a) : Cal P w K mg base "_law_make" 4 ["_law_row"] [] (vL a) := T.h_L_make.cal (ok_L_make T)
section
variable {H H' : Hp} {C : Addr} {as : List Addr} {css : List (List Ware)}
theorem NLC.put {i : Nat} {b : Addr} {c' : List Ware} {vs : List V} (h : NL H (TupP H) C as (zt css)) (e : as[i]? = some b) (r : Reps H (TupP H) vs (c'.map zC)) : NL (upd H b (.lst vs)) (TupP (upd H b (.lst vs))) C as (zt (css.set i c')) := by
 obtain ⟨us, hu⟩ := h.isl (List.mem_cons_of_mem _ (List.mem_of_getElem? e))
 have ntb : ¬ TupP H b := fun ⟨xs, hx⟩ => by rw [hu] at hx; cases hx
 have := h.put (vs := vs) (ys := c'.map zC) e ntb r
 rw [show zt (css.set i c') = (zt css).set i (c'.map zC) by simp [zt, List.map_set]]
 exact this.keep (fun _ _ _ hc => hc) fun c hc _ => ju hu hc
theorem NLC.offT {xss : List (List D)} {p : Addr → Prop} (h : NL H p C as xss) {b : Addr} (t : TupP H b) : b ∉ C :: as := fun hb => by
 obtain ⟨us, hu⟩ := h.isl hb
 obtain ⟨xs, hx⟩ := t
 rw [hu] at hx
 cases hx
theorem NLC.cell {i : Nat} {c : List Ware} (h : NL H (TupP H) C as (zt css)) (e : css[i]? = some c) : ∃ b vs, as[i]? = some b ∧ H b = some (.lst vs) ∧ Reps H (TupP H) vs (c.map zC) := h.at (by rw [zt, List.getElem?_map, e]; rfl)
end
structure OW (H : Hp) (C SD G : Addr) (cs ags : List Addr) (st : PSt) : Prop where
 nc : NL H (TupP H) C cs (zt st.cells)
 hs : H SD = some (.lst (iv st.sides))
 ng : NL H (TupP H) G ags (zP st.gone)
 nd : (SD :: C :: G :: (cs ++ ags)).Nodup
section
variable {H H' : Hp} {C SD G : Addr} {cs ags : List Addr} {st : PSt}
theorem OW.same (h : OW H C SD G cs ags st) (s : Same H H') : OW H' C SD G cs ags st := ⟨h.nc.tup fun b o _ hb => s b o hb, s _ _ h.hs, h.ng.tup fun b o _ hb => s b o hb, h.nd⟩
theorem OW.nds (h : OW H C SD G cs ags st) : (SD ≠ C ∧ SD ≠ G ∧ SD ∉ cs ∧ SD ∉ ags) ∧ (C ≠ G ∧ C ∉ cs ∧ C ∉ ags) ∧ (G ∉ cs ∧ G ∉ ags) ∧ ∀ x ∈ cs, x ∉ ags := by
 have nd := h.nd
 simp only [List.nodup_cons, List.mem_cons, List.mem_append, not_or] at nd
 obtain ⟨⟨n1, n2, n3, n4⟩, ⟨n5, n6, n7⟩, ⟨n8, n9⟩, n10⟩ := nd
 exact ⟨⟨n1, n2, n3, n4⟩, ⟨n5, n6, n7⟩, ⟨n8, n9⟩, fun x hx hy => (List.nodup_append.mp n10).2.2 x hx x hy rfl⟩
theorem qR {b x : Addr} {us : List V} (hb : H b = some (.lst us)) (t : TupP H x) : x ≠ b := fun z => by
 obtain ⟨xs, hx⟩ := t
 rw [z, hb] at hx; cases hx
theorem OW.putC {i : Nat} {b : Addr} {c' : List Ware} {vs : List V} (h : OW H C SD G cs ags st) (e : cs[i]? = some b) (r : Reps H (TupP H) vs (c'.map zC)) : OW (upd H b (.lst vs)) C SD G cs ags { st with cells := st.cells.set i c' } := by
 have hb := List.mem_of_getElem? e
 obtain ⟨us, hu⟩ := h.nc.isl (List.mem_cons_of_mem _ hb)
 obtain ⟨⟨n1, n2, n3, n4⟩, _, ⟨n8, n9⟩, n10⟩ := h.nds
 refine ⟨NLC.put h.nc e r, by rw [upd_ne (fun z => n3 (by rw [z]; exact hb))]; exact h.hs, h.ng.tup fun x o c hx => ?_, h.nd⟩
 rw [upd_ne ?_]
 ·exact hx
 ·rcases c with rfl | c | c
  ·exact fun z => n8 (by rw [z]; exact hb)
  ·exact fun z => n10 b hb (by rw [← z]; exact c)
  ·exact qR hu c
theorem OW.putG {i : Nat} {b : Addr} {g' : List Int} (h : OW H C SD G cs ags st) (e : ags[i]? = some b) : OW (upd H b (.lst (iv g'))) C SD G cs ags { st with gone := st.gone.set i g' } := by
 have hb := List.mem_of_getElem? e
 obtain ⟨us, hu⟩ := h.ng.isl (List.mem_cons_of_mem _ hb)
 obtain ⟨⟨n1, n2, n3, n4⟩, ⟨n5, n6, n7⟩, _, n10⟩ := h.nds
 refine ⟨h.nc.tup fun x o c hx => ?_, by rw [upd_ne (fun z => n4 (by rw [z]; exact hb))]; exact h.hs, ?_, h.nd⟩
 ·rw [upd_ne ?_]
  ·exact hx
  ·rcases c with rfl | c | c
   ·exact fun z => n7 (by rw [z]; exact hb)
   ·exact fun z => n10 x c (by rw [z]; exact hb)
   ·exact qR hu c
 ·have := h.ng.put (vs := iv g') (ys := g'.map D.int) e (fun z => qR hu z rfl) reps_ints
  rw [show zP (st.gone.set i g') = (zP st.gone).set i (g'.map D.int) by simp [zP, List.map_set]]
  exact this.keep (fun _ _ _ hc => hc) fun c hc _ => ju hu hc
theorem OW.putS {s' : List Int} (h : OW H C SD G cs ags st) : OW (upd H SD (.lst (iv s'))) C SD G cs ags { st with sides := s' } := by
 obtain ⟨⟨n1, n2, n3, n4⟩, _, _, _⟩ := h.nds
 have hs := h.hs
 refine ⟨h.nc.tup fun x o c hx => ?_, upd_same, h.ng.tup fun x o c hx => ?_, h.nd⟩
 ·rw [upd_ne ?_]
  ·exact hx
  ·rcases c with rfl | c | c
   ·exact Ne.symm n1
   ·exact fun z => n3 (by rw [← z]; exact c)
   ·exact qR hs c
 ·rw [upd_ne ?_]
  ·exact hx
  ·rcases c with rfl | c | c
   ·exact Ne.symm n2
   ·exact fun z => n4 (by rw [← z]; exact c)
   ·exact qR hs c
end
theorem OW.offT {H : Hp} {C SD G : Addr} {cs ags : List Addr} {st : PSt} (h : OW H C SD G cs ags st) {b : Addr} (t : TupP H b) : b ∉ SD :: C :: G :: (cs ++ ags) := fun hb => by
 simp only [List.mem_cons, List.mem_append] at hb
 rcases hb with rfl | rfl | rfl | hb | hb
 ·exact qR h.hs t rfl
 ·exact qR h.nc.out t rfl
 ·exact qR h.ng.out t rfl
 ·obtain ⟨us, hu⟩ := h.nc.isl (List.mem_cons_of_mem _ hb); exact qR hu t rfl
 ·obtain ⟨us, hu⟩ := h.ng.isl (List.mem_cons_of_mem _ hb); exact qR hu t rfl
theorem Zb {H : Hp} {p : Addr → Prop} {G : Addr} {ags : List Addr} {gss : List (List Int)} {i : Nat} {g : List Int} (h : NL H p G ags (zP gss)) (e : gss[i]? = some g) : ∃ b, ags[i]? = some b ∧ H b = some (.lst (iv g)) := by
 obtain ⟨b, vs, h1, h2, h3⟩ := h.at (i := i) (xs := g.map D.int) (by rw [zP, List.getElem?_map, e]; rfl)
 rw [xt h3] at h2
 exact ⟨b, h1, h2⟩
theorem OW.isl {H : Hp} {C SD G : Addr} {cs ags : List Addr} {st : PSt} (h : OW H C SD G cs ags st) {b : Addr} (hb : b ∈ SD :: C :: G :: (cs ++ ags)) : ∃ vs, H b = some (.lst vs) := by
 simp only [List.mem_cons, List.mem_append] at hb
 rcases hb with rfl | rfl | rfl | hb | hb
 ·exact ⟨_, h.hs⟩
 ·exact ⟨_, h.nc.out⟩
 ·exact ⟨_, h.ng.out⟩
 ·exact h.nc.isl (List.mem_cons_of_mem _ hb)
 ·exact h.ng.isl (List.mem_cons_of_mem _ hb)
theorem OW.belts {H H' : Hp} {C SD G : Addr} {cs cs' ags : List Addr} {st : PSt} {css : List (List Ware)} (h : OW H C SD G cs ags st) (f : Fr [C] H H') (nc : NL H' (TupP H') C cs' (zt css)) (hc : ∀ b ∈ cs', b ∈ cs ∨ H b = none) : OW H' C SD G cs' ags { st with cells := css } := by
 obtain ⟨⟨n1, n2, n3, n4⟩, ⟨n5, n6, n7⟩, ⟨n8, n9⟩, n10⟩ := h.nds
 have off : ∀ b vs, H b = some (.lst vs) → b ∉ cs → b ∉ cs' := fun b vs hb nb z => by
  rcases hc b z with z | z
  ·exact nb z
  ·rw [z] at hb; cases hb
 have nG := h.ng.nG
 have nd := h.ng.nd
 have oS := off SD _ h.hs n3
 have oG := off G _ h.ng.out n8
 have oA : ∀ x ∈ cs', x ∉ ags := fun x hx hy => by
  obtain ⟨vs, hv⟩ := h.ng.isl (List.mem_cons_of_mem _ hy)
  exact off x vs hv (fun z => n10 x z hy) hx
 refine ⟨nc, f _ _ (fun z => n1 (List.mem_singleton.mp z)) h.hs, h.ng.tup fun b o c hb => f b o (fun z => ?_) hb, ?_⟩
 ·rw [List.mem_singleton.mp z] at c
  rcases c with c | c | c
  ·exact n5 c
  ·exact n7 c
  ·exact qR h.nc.out c rfl
 ·simp only [List.nodup_cons, List.mem_cons, List.mem_append, not_or]
  exact ⟨⟨n1, n2, oS, n4⟩, ⟨n5, nc.nG, n7⟩, ⟨oG, nG⟩, List.nodup_append.mpr ⟨nc.nd, nd, fun x hx y hy z => oA x hx (by rw [z]; exact hy)⟩⟩
theorem qw {H H' : Hp} {vs : List V} {ds : List D} (r : Reps H (TupP H) vs ds) (s : Same H H') : Reps H' (TupP H') vs ds := r.keep fun b o ⟨xs, hx⟩ hb => ⟨⟨xs, s _ _ hx⟩, s _ _ hb⟩
def spOn : Sp := fun vs H Q _ => ∃ (b : Addr) (us : List V) (c : List Ware), vs = [.ref b] ∧ H b = some (.lst us) ∧ Reps H (TupP H) us (c.map zC) ∧ c.length ≤ 100 ∧ ∀ q us', H q = none → Reps H (TupP H) us' ((Z4 c).map zC) → Q (.ref q) (upd H q (.lst us'))
theorem ok_L_on (T : Txt K mg a) (F : Fun K "_law_on" "_law_on" s_L_on f fd) : FnOk P w K mg base (CXr P w) 1 f fd ["_law_line"] spOn := by
 refine F.okx sc_L_on ?_ ?_
 ·walk_at "i"
 walk_at "j"
 refine oE3 h fun b us c z1_ => oA5 z1_ fun z2_ hb rb lc k => ?_
 clear h
 subst z2_
 have lu : us.length = c.length := by rw [rb.len, List.length_map]
 walk_at "T"
 refine ⟨_, (zj (zF 1 sc_L_on.nd (jL qM qd (za (pv 0) zb)))  (zX (z9 qu rfl (QD (za (zm vW (zG zJ zI (za (pv 1) zb)) zc) (za zc (za (xm jt zc) zb)))) (pg_n 2 sc_L_on.nd)  (zd (zA (zo qF (zh (pv 1) (pv 2)) zD (zq _))  (zj (qS (zh (pv 1) (zm vW (pv 2) zc)) (jl (pv 1) (pv 2) z7))  (zd (qS zD (jl (pv 1) (zm vW (pv 2) zc) z7))))  zk)))  (zd (zi (pv 1))))), ?_⟩
 walk_at "go"
 refine iE2 b us (iA3 rfl (.inl (SqL.of hb)) (fun q hq => ?_))
 walk_at "go"
 refine cut (fun σ' H' => ∃ (v2 : Option V) (us' : List V), σ' = [some (.ref b), some (.ref q), v2] ∧ H' = upd H q (.lst us') ∧ Reps H (TupP H) us' ((Z4 c).map zC)) ?_ ?_
 ·walk_at "for"
  walk_at "go"
  refine ⟨_, .inl ⟨_, SqL.of upd_same, rfl⟩, ?_⟩
  rw [lu]
  walk_at "go"
  refine iE2 _ _ (iA3 rfl (iA4 (by omega) (by omega) (by omega) (by omega)) ?_)
  rw [show ((c.length : Int) - 1 - 0).toNat = c.length - 1 by omega]
  refine Q8 (K := K) (fun i σ H' => ∃ (v2 : Option V) (us' : List V), σ = [some (.ref b), some (.ref q), v2] ∧ H' = upd H q (.lst us') ∧ Reps H (TupP H) us' ((mvGo c i).map zC)) (iE2 _ us (iA3 rfl rfl rb)) ?_ ?_
  ·intro i σ H' hi zz_
   refine oE2 zz_ fun v1 us' z1_ => oA3 z1_ fun z2_ z3_ r1 => ?_
   clear zz_
   subst z2_ z3_
   have lm := xp (c := c) i
   have l1 : us'.length = c.length := by rw [r1.len, List.length_map, lm]
   obtain ⟨p, hp⟩ : ∃ p, c.length - 2 - i = p := ⟨_, rfl⟩
   have ep : (c.length : Int) - 1 - i = ((p + 1 : Nat) : Int) := by omega
   have hp1 : p + 1 < c.length := by omega
   rw [ep]
   have eS : mvGo c (i + 1) = jb (mvGo c i) p := by rw [mvGo, hp]
   rw [eS]
   generalize mvGo c i = m at r1 lm ⊢
   have m0 : m[p]? = some (m.getD p none) := atD (by omega)
   have m1 : m[p + 1]? = some (m.getD (p + 1) none) := atD (by omega)
   obtain ⟨u0, hu0, ru0⟩ := r1.of (i := p) (d := zC (m.getD p none)) (by rw [List.getElem?_map, m0]; rfl)
   obtain ⟨u1, hu1, ru1⟩ := r1.of (i := p + 1) (d := zC (m.getD (p + 1) none)) (by rw [List.getElem?_map, m1]; rfl)
   have e1 : (((p + 1 : Nat) : Int) - 1) = (p : Int) := by omega
   walk_at "go"
   refine zl (SqL.of upd_same) (zr hu1) ?_
   walk_at "go"
   refine ite2 (fun z => ?_) (fun z => ?_)
   ·have z := (qN ru1).mp z
    walk_at "go"
    rw [e1]
    refine zl (SqL.of upd_same) (zr hu0) ?_
    walk_at "go"
    refine qh upd_same (qT (by omega) (by omega)) ?_
    walk_at "go"
    refine qh upd_same (qT (by omega) (by simp; omega)) ?_
    rw [js, js]
    refine iE2 _ _ (iA3 rfl rfl ?_)
    unfold jb
    rw [if_pos z, List.map_set, List.map_set, Int.toNat_natCast, Int.toNat_natCast]
    exact Reps.set (Reps.set r1 _ ru0) _ .non
   ·have z : m.getD (p + 1) none ≠ none := fun y => z ((qN ru1).mpr y)
    walk_at "go"
    refine iE2 _ us' (iA3 rfl rfl ?_)
    unfold jb
    rw [if_neg z]
    exact r1
  ·intro σ H' zz_
   refine oE2 zz_ fun v1 us' z1_ => oA3 z1_ fun z2_ z3_ r1 => ?_
   clear zz_
   subst z2_ z3_
   exact iE2 _ _ (iA3 rfl rfl r1)
 intro σ' H' zz_
 refine oE2 zz_ fun v2 us' z1_ => oA3 z1_ fun z2_ z3_ r1 => ?_
 clear zz_
 subst z2_ z3_
 walk_at "go"
 exact k _ _ hq r1
theorem c_L_on (T : Txt K mg a) : Cal P w K mg base "_law_on" 1 ["_law_line"] [] spOn := T.h_L_on.cal (ok_L_on T)
theorem nodup_set {as : List Addr} {i : Nat} {q : Addr} (nd : as.Nodup) (nq : q ∉ as) : (as.set i q).Nodup := by
 refine List.pairwise_iff_getElem.mpr fun j k hj hk hjk => ?_
 rw [List.getElem_set, List.getElem_set]
 rw [List.length_set] at hj hk
 split
 ·split
  ·omega
  ·exact fun z => nq (by rw [z]; exact List.getElem_mem _)
 ·split
  ·exact fun z => nq (by rw [← z]; exact List.getElem_mem _)
  ·exact List.pairwise_iff_getElem.mp nd j k hj hk hjk
theorem nl_repl {H : Hp} {p : Addr → Prop} {C q : Addr} {as : List Addr} {xss : List (List D)} {i : Nat} {us : List V} {ys : List D} (h : NL H p C as xss) (hq : H q = some (.lst us)) (nq : q ∉ as) (nC : q ≠ C) (np : ¬ p C) (r : Reps H p us ys) : NL (upd H C (.lst ((as.map V.ref).set i (.ref q)))) p C (as.set i q) (xss.set i ys) := by
 have rk : ∀ {us : List V} {zs : List D}, Reps H p us zs → Reps (upd H C (.lst ((as.map V.ref).set i (.ref q)))) p us zs := fun r => r.keep fun c o pc hc => ⟨pc, by rw [upd_ne (fun z => np (by rw [← z]; exact pc))]; exact hc⟩
 refine ⟨by rw [upd_same, List.map_set], by rw [List.length_set, List.length_set, h.len], nodup_set h.nd nq, fun z => ?_, fun j c xs e1 e2 => ?_⟩
 ·rcases List.mem_or_eq_of_mem_set z with z | z
  ·exact h.nG z
  ·exact nC z.symm
 ·by_cases hj : i = j
  ·subst hj
   have hl : i < as.length := by have := (List.getElem?_eq_some_iff.mp e1).1; rwa [List.length_set] at this
   rw [List.getElem?_set_self hl] at e1
   rw [List.getElem?_set_self (by rw [← h.len]; exact hl)] at e2
   cases e1
   cases e2
   exact ⟨us, by rw [upd_ne nC]; exact hq, rk r⟩
  ·rw [List.getElem?_set_ne hj] at e1 e2
   obtain ⟨vs, h1, h2⟩ := h.g j c xs e1 e2
   exact ⟨vs, by rw [upd_ne (fun z => h.nG (by rw [← z]; exact List.mem_of_getElem? e1))]; exact h1, rk h2⟩
theorem actF_turn (rs : List Row) (st : PSt) (k : Nat) : (actF rs st k).1.turn = st.turn := by
 unfold actF
 split
 ·rfl
 ·split
  ·rfl
  ·rename_i r _ _ ch _
   show (movedF r st k ch).turn = st.turn
   unfold movedF
   generalize fbOf r ch = fb
   generalize tbOf r ch = tb
   cases fb <;> cases tb <;> rfl
theorem jT (rs : List Row) (st : PSt) : ∀ i, (zn rs st i).1.turn = st.turn
 | 0 => rfl
 | i + 1 => by
  show (actF rs (zn rs st i).1 i).1.turn = _
  rw [actF_turn, jT rs st i]
theorem QZ {xs : List Int} {k : Nat} {x : Int} (h : xs[k]? = some x) : xs.set k x = xs := by
 obtain ⟨h1, h2⟩ := List.getElem?_eq_some_iff.mp h
 subst h2
 exact List.set_getElem_self h1
def srcF (st : PSt) (k : Nat) (o : Int) : PSt × Option Move :=
 if begW (zw st.cells o) = none then ({ st with cells := st.cells.set o.toNat ((zw st.cells o).set 0 (some ((k : Int), (st.gone.getD k []).headD 0))), gone := st.gone.set k (bump (st.gone.getD k []) 0) }, some ⟨k, some ((k : Int), (st.gone.getD k []).headD 0), none, some o⟩) else (st, none)
def drnF (st : PSt) (k : Nat) (o : Int) : PSt × Option Move :=
 if endW (zw st.cells o) = none then (st, none) else ({ st with cells := st.cells.set o.toNat (jI (zw st.cells o)), gone := st.gone.set k (bump (st.gone.getD k []) 0) }, some ⟨k, endW (zw st.cells o), some o, none⟩)
theorem Zd {rs : List Row} {st : PSt} {k : Nat} {o pc : Int} {ks : List Int} (hr : rs[k]? = some ⟨.source, [], [o], pc, ks⟩) (hs : st.sides[k]? = some 0) : actF rs st k = if st.turn % pc = 0 then srcF st k o else (st, none) := by
 unfold actF srcF
 rw [hr]
 have e0 : (st.sides.getD k 0).toNat = 0 := by rw [List.getD_eq_getElem?_getD, hs]; rfl
 have e1 : ((jf st.cells ⟨.source, [], [o], pc, ks⟩).getD 0 false = true) = (begW (zw st.cells o) = none) := by simp [jf]
 simp only [qv, e0, e1]
 by_cases h1 : st.turn % pc = 0
 ·rw [if_pos h1]
  by_cases h2 : begW (zw st.cells o) = none
  ·rw [if_pos ⟨h2, h1⟩, if_pos h2]
   simp only [wY, movedF, fbOf, tbOf, qq, wJ, cpOf, Option.bind_none, Option.bind_some, List.getElem?_cons_zero]
   rw [show ((0 : Nat) : Int) = 0 from rfl, QZ hs]
   rfl
  ·rw [if_neg (fun z => h2 z.1), if_neg h2]
 ·rw [if_neg (fun z => h1 z.2), if_neg h1]
theorem Ze {rs : List Row} {st : PSt} {k : Nat} {o pc : Int} {ks : List Int} (hr : rs[k]? = some ⟨.drain, [o], [], pc, ks⟩) (hs : st.sides[k]? = some 0) : actF rs st k = if pc = 0 ∨ st.turn % pc ≠ 0 then (st, none) else drnF st k o := by
 unfold actF drnF
 rw [hr]
 have e0 : (st.sides.getD k 0).toNat = 0 := by rw [List.getD_eq_getElem?_getD, hs]; rfl
 have e1 : ((qk rs st.cells ⟨.drain, [o], [], pc, ks⟩).getD 0 none = none) = (endW (zw st.cells o) = none) := by simp [qk, Zy]
 simp only [qv, e0, e1]
 by_cases h1 : pc = 0 ∨ st.turn % pc ≠ 0
 ·rw [if_pos h1, if_pos (by rcases h1 with h | h <;> simp [h])]
 ·rw [if_neg h1]
  by_cases h2 : endW (zw st.cells o) = none
  ·rw [if_pos (.inr (.inl h2)), if_pos h2]
  ·rw [if_neg (fun z => by rcases z with z | z | z; exact h1 (.inl z); exact h2 z; exact h1 (.inr z)), if_neg h2]
   simp only [wY, movedF, fbOf, tbOf, qq, wJ, cpOf, Option.bind_none, Option.bind_some, List.getElem?_cons_zero]
   rw [show ((0 : Nat) : Int) = 0 from rfl, QZ hs]
   rfl
theorem OW.outM {H : Hp} {C SD G M : Addr} {cs ags : List Addr} {st : PSt} {us vs : List V} (h : OW H C SD G cs ags st) (e : H M = some (.lst us)) (nM : M ∉ SD :: C :: G :: (cs ++ ags)) : OW (upd H M (.lst vs)) C SD G cs ags st := by
 simp only [List.mem_cons, List.mem_append, not_or] at nM
 obtain ⟨n1, n2, n3, n4, n5⟩ := nM
 have kt : ∀ c, TupP H c → c ≠ M := fun c t => qR e t
 refine ⟨h.nc.tup fun b o c hb => ?_, by rw [upd_ne (Ne.symm n1)]; exact h.hs, h.ng.tup fun b o c hb => ?_, h.nd⟩
 ·rw [upd_ne ?_]
  ·exact hb
  ·rcases c with rfl | c | c
   ·exact Ne.symm n2
   ·exact fun z => n4 (by rw [← z]; exact c)
   ·exact kt b c
 ·rw [upd_ne ?_]
  ·exact hb
  ·rcases c with rfl | c | c
   ·exact Ne.symm n3
   ·exact fun z => n5 (by rw [← z]; exact c)
   ·exact kt b c
def vP : Sp := fun vs H Q _ => ∃ (vR : V) (C SD G : Addr) (cs ags : List Addr) (bs : List (Int × Int)) (rs : List Row) (st : PSt), vs = [vR, .int st.turn, .ref C, .ref G] ∧ Rep H (Off (SD :: C :: G :: (cs ++ ags))) vR (.lst (rs.map dRow)) ∧ OW H C SD G cs ags st ∧ stWf bs rs st ∧ zT bs rs ∧ (∀ b ∈ bs, zE b.1 b.2) ∧ (∀ r ∈ rs, r.ok ∧ r.wd ≠ .joiner) ∧
 ∀ M us H', Fr (SD :: C :: G :: (cs ++ ags)) H H' → OW H' C SD G cs ags (zn rs st rs.length).1 → H' M = some (.lst us) → Reps H' (TupP H') us ((zn rs st rs.length).2.map qf) → Q (.ref M) H'
theorem i_spActed {vs : List V} {H : Hp} {Q : VK} {E : XK} (vR : V) (C SD G : Addr) (cs ags : List Addr) (bs : List (Int × Int)) (rs : List Row) (st : PSt) (q0 : vs = [vR, .int st.turn, .ref C, .ref G]) (q1 : Rep H (Off (SD :: C :: G :: (cs ++ ags))) vR (.lst (rs.map dRow))) (q2 : OW H C SD G cs ags st) (q3 : stWf bs rs st) (q4 : zT bs rs) (q5 : (∀ b ∈ bs, zE b.1 b.2)) (q6 : (∀ r ∈ rs, r.ok ∧ r.wd ≠ .joiner)) (q7 : ∀ M us H', Fr (SD :: C :: G :: (cs ++ ags)) H H' → OW H' C SD G cs ags (zn rs st rs.length).1 → H' M = some (.lst us) → Reps H' (TupP H') us ((zn rs st rs.length).2.map qf) → Q (.ref M) H') : vP vs H Q E := ⟨vR, C, SD, G, cs, ags, bs, rs, st, q0, q1, q2, q3, q4, q5, q6, q7⟩
theorem ok_L_acted (T : Txt K mg a) (F : Fun K "_law_acted" "_law_acted" s_L_acted f fd) : FnOk P w K mg base (CXr P w) 1 f fd ["_law_rows", "_law_turn_here", "_law_cells", "_law_gone"] vP := by
 refine F.okx sc_L_acted ?_ ?_
 ·walk_at "i"
 walk_at "j"
 obtain ⟨vR, C, SD, G, cs, ags, bs, rs, st, rfl, rR, ow, wf, wok, bo, ro, k⟩ := h
 obtain ⟨lR, uR, rfl, olR, hlR, rsR⟩ := rR.lst'
 have luR : uR.length = rs.length := by rw [rsR.len, List.length_map]
 have r24 := wok.1.2.2
 walk_at "T"
 refine ⟨_, (zg (zF 4 sc_L_acted.nd (zU zb))  (zX (z9 qu rfl (qD (za (pv 0) zb)) (qJ (n := 2) rfl (zB (pg_n 5 sc_L_acted.nd) (zB (pg_n 6 sc_L_acted.nd) qo)))  (zg (zA (PW.pt (pw_or (zo (jq hr.units1) (zh (pv 6) zc) zc (zq _)) (pw_or1 (zo (jd hr.units1) (zm zL (pv 1) (zh (pv 6) zc)) zc (zq _)))))  (zd ps_continue)  zk)  (zd (zA (zo (jq hr.units1) (zh (pv 6) zc) qx (zq _))  (zd (zA (zo qF (zh (zh (pv 2) (zh (zh (pv 6) zc) zc)) zc) zD (zq _))  (zg (qS (qr (za (pv 5) (za (zh (zh (pv 3) (pv 5)) zc) zb))) (jl (zh (pv 2) (zh (zh (pv 6) zc) zc)) zc z7))  (zg (zN (jp PySem.F.plainAttrs_list PySem.F.slot_list_append PySem.F.type_list_append qb (pv 4) (za (qr (za (pv 5) (za (qr (za (pv 5) (za (zh (zh (pv 3) (pv 5)) zc) zb))) (za zD (za (zh (zh (pv 6) zc) zc) zb))))) zb)))  (zd (wj (zh (pv 3) (pv 5)) zc xv zc xN z7))))  zk))  (zd (zA (zo jV (zh (zh (pv 2) (zh (zh (pv 6) zc) zc)) (xm jt zc)) zD (zq _))  (zg (zN (jp PySem.F.plainAttrs_list PySem.F.slot_list_append PySem.F.type_list_append qb (pv 4) (za (qr (za (pv 5) (za (zh (zh (pv 2) (zh (zh (pv 6) zc) zc)) (xm jt zc)) (za (zh (zh (pv 6) zc) zc) (za zD zb))))) zb)))  (zg (qS zD (jl (zh (pv 2) (zh (zh (pv 6) zc) zc)) (xm jt zc) z7))  (zd (wj (zh (pv 3) (pv 5)) zc xv zc xN z7))))  zk))))))  (zd (zi (pv 4))))), ?_⟩
 walk_at "go"
 intro M hM
 have nM : M ∉ SD :: C :: G :: (cs ++ ags) := fun z => by
  obtain ⟨vs, hv⟩ := ow.isl z
  rw [hM] at hv; cases hv
 have s1 := zf (o := .lst []) hM
 have hM1 : upd H M (.lst []) M = some (.lst []) := upd_same
 generalize upd H M (.lst []) = H1 at s1 hM1 ⊢
 walk_at "go"
 refine cut (fun σ' H' => ∃ (v3 v4 : Option V) (us : List V), σ' = [some (.ref lR), some (.int st.turn), some (.ref C), some (.ref G), some (.ref M), v3, v4] ∧ Fr (SD :: C :: G :: (cs ++ ags)) H H' ∧ OW H' C SD G cs ags (zn rs st rs.length).1 ∧ H' M = some (.lst us) ∧ Reps H' (TupP H') us ((zn rs st rs.length).2.map qf)) ?_ ?_
 ·walk_at "for"
  walk_at "go"
  refine ⟨lR, _, rfl, s1 _ _ hlR, ?_⟩
  refine ZE (K := K) (a := lR) (xs := uR) (fun i σ H' => ∃ (v3 v4 : Option V) (us : List V), σ = [some (.ref lR), some (.int st.turn), some (.ref C), some (.ref G), some (.ref M), v3, v4] ∧ Fr (SD :: C :: G :: (cs ++ ags)) H H' ∧ OW H' C SD G cs ags (zn rs st i).1 ∧ H' M = some (.lst us) ∧ Reps H' (TupP H') us ((zn rs st i).2.map qf)) ⟨_, _, _, rfl, s1.fr, ow.same s1, hM1, .nil⟩ (fun i σ H' _ h => by obtain ⟨_, _, _, _, f, _⟩ := h; exact SqL.of (f _ _ olR hlR)) ?_ ?_
  ·rintro i x t σ H2 hi ht ⟨v3, v4, us, rfl, f2, ow2, hM2, r2⟩
   obtain ⟨d, hd, rx⟩ := rsR.at hi
   rw [List.getElem?_map, Option.map_eq_some_iff] at hd
   obtain ⟨r, hri, rfl⟩ := hd
   have hil := (List.getElem?_eq_some_iff.mp hri).1
   have f3 := f2.trans (wV (ms := SD :: C :: G :: (cs ++ ags)) (o := .tup [.int i, x]) ht)
   have ow3 := ow2.same (zf (o := .tup [.int i, x]) ht)
   have hM3 := upd_keep (o := .tup [.int i, x]) hM2 ht
   have r3 := qw r2 (zf (o := .tup [.int i, x]) ht)
   refine un2 upd_same ?_
   generalize upd H2 t (.tup [.int i, x]) = H3 at f3 ow3 hM3 r3 ⊢
   clear f2 ow2 hM2 r2 ht
   have wfS := qL wf wok bo (fun r hr => (ro r hr).1) i
   have hkeep := jT rs st i
   have al := xa rs st i
   have lu : us.length = (zn rs st i).2.length := by rw [r3.len, List.length_map]
   have eA : zn rs st (i + 1) = ((actF rs (zn rs st i).1 i).1, (zn rs st i).2 ++ (actF rs (zn rs st i).1 i).2.toList) := rfl
   rw [eA]
   clear eA
   generalize zn rs st i = A at ow3 r3 wfS hkeep al lu ⊢
   obtain ⟨st3, ms⟩ := A
   simp only at ow3 r3 wfS hkeep al lu ⊢
   obtain ⟨rok, nj⟩ := ro r (List.mem_of_getElem? hri)
   obtain ⟨tr, l1, l2, l3, rfl, htr, h1, h2, h3⟩ := jU (rx.fr f3)
   have hs0 : st3.sides[i]? = some 0 := by
    have hsd := qp (xs := st3.sides) (k := i) (d := 0) (by rw [wfS.so.1]; exact hil)
    have := (wfS.so.2 i r _ hri hsd).2.2.2 (fun z => z) nj
    rw [this] at hsd
    exact hsd
   obtain ⟨wd, ins, outs, pc, ks⟩ := r
   simp only at htr h1 h2 h3 nj
   walk_at "go"
   refine rd_ixT htr ix3 ?_
   walk_at "go"
   have hp : 0 ≤ pc ∧ (pc = 0 ∨ st.turn % pc ≠ 0 → actF rs st3 i = (st3, none)) := by
    rw [← hkeep]
    cases wd with
    | source =>
     obtain ⟨q1, ⟨o, q2⟩, q3, _⟩ := rok
     simp only at q1 q2 q3
     subst q1 q2
     refine ⟨by omega, fun z => ?_⟩
     rw [Zd hri hs0, if_neg (fun y => by rcases z with z | z; omega; exact z y)]
    | drain =>
     obtain ⟨⟨o, q1⟩, q2, q3, _⟩ := rok
     simp only at q1 q2 q3
     subst q1 q2
     exact ⟨q3, fun z => by rw [Ze hri hs0, if_pos z]⟩
    | joiner => exact absurd rfl nj
   obtain ⟨hp0, idle⟩ := hp
   have stay : actF rs st3 i = (st3, none) → ∀ v5 v6, ∃ (v3 v4 : Option V) (us : List V), [some (V.ref lR), some (V.int st.turn), some (V.ref C), some (V.ref G), some (V.ref M), v5, v6] = [some (V.ref lR), some (V.int st.turn), some (V.ref C), some (V.ref G), some (V.ref M), v3, v4] ∧ Fr (SD :: C :: G :: (cs ++ ags)) H H3 ∧ OW H3 C SD G cs ags (actF rs st3 i).1 ∧ H3 M = some (.lst us) ∧ Reps H3 (TupP H3) us ((ms ++ (actF rs st3 i).2.toList).map qf) := fun e v5 v6 => by
    rw [e]
    exact ⟨_, _, us, rfl, f3, ow3, hM3, by simpa using r3⟩
   refine ite2 (fun z => stay (idle (.inl z)) _ _) (fun z => ?_)
   refine rd_ixT htr ix3 ?_
   walk_at "go"
   refine ⟨by omega, ite2 (fun z => stay (idle (.inr z)) _ _) (fun z2 => ?_)⟩
   have z2 := Decidable.not_not.mp z2
   have hg0 := qp (xs := st3.gone) (k := i) (d := []) (by rw [wfS.go.1]; exact hil)
   obtain ⟨q1, _⟩ := wfS.go.2 i _ _ hri hg0
   have cp := jr rok
   obtain ⟨g0, gs, eg⟩ : ∃ g0 gs, st3.gone.getD i [] = g0 :: gs := List.exists_cons_of_ne_nil fun z => by rw [z] at q1; simp at q1; omega
   have egh : (st3.gone.getD i []).headD 0 = g0 := by rw [eg]; rfl
   have egb : bump (st3.gone.getD i []) 0 = (g0 + 1) :: gs := by rw [eg]; rfl
   rw [eg] at hg0
   obtain ⟨bG, hbG, hgG⟩ := Zb ow3.ng hg0
   walk_at "go"
   refine rd_ixT htr at0 ?_
   walk_at "go"
   cases wd with
   | joiner => exact absurd rfl nj
   | source =>
    obtain ⟨p1, ⟨o, p2⟩, p3, _⟩ := rok
    simp only at p1 p2 p3
    subst p1 p2
    have ea := Zd hri hs0
    rw [hkeep, if_pos z2] at ea
    obtain ⟨io, rfl, _, e2, e3, _⟩ := qX wfS.co bo (xo wok hri (b := o) (by simp))
    obtain ⟨bC, vs, hbC, hvC, rvC⟩ := NLC.cell ow3.nc e2
    refine ite2 (fun _ => ?_) (fun z => absurd rfl z)
    walk_at "go"
    refine rd_ixT htr ix2 (zl (SqL.of h2) at0 ?_)
    obtain ⟨w0, ws, ew⟩ := List.exists_cons_of_ne_nil e3
    obtain ⟨u0, hu0, ru0⟩ := rvC.of (i := 0) (d := zC w0) (by rw [ew]; rfl)
    have lp : 0 < vs.length := (List.getElem?_eq_some_iff.mp hu0).1
    have eb : begW (zw st3.cells io) = w0 := by rw [ew]; rfl
    refine zl (SqL.of ow3.nc.out) (zr (by rw [List.getElem?_map, hbC]; rfl)) (zl (SqL.of hvC) (show atI vs ((0 : Nat) : Int) = some u0 from zr hu0) ?_)
    refine ite2 (fun z => ?_) (fun z => stay (by rw [ea, srcF, if_neg (fun y => z ((qN ru0).mpr (by rw [← eb]; exact y)))]) _ _)
    rw [ea, srcF, if_pos (by rw [eb]; exact (qN ru0).mp z), egh, egb]
    walk_at "go"
    refine zl (SqL.of ow3.ng.out) (zr (by rw [List.getElem?_map, hbG]; rfl)) (zl (SqL.of hgG) at0 ?_)
    walk_at "go"
    intro t1 ht1
    have s4 := zf (o := .tup [.int i, .int g0]) ht1
    have ow4 := ow3.same s4
    have rt4 : Rep (upd H3 t1 (.tup [.int i, .int g0])) (TupP (upd H3 t1 (.tup [.int i, .int g0]))) (.ref t1) (zC (some ((i : Int), g0))) := Reps.mkT (vs := [.int i, .int g0]) (.cons .int (.cons .int .nil)) ⟨_, upd_same⟩ upd_same
    have rv4 := qw rvC s4
    have hM4 := s4 _ _ hM3
    have r4 := qw r3 s4
    have f4 := f3.trans (s4.fr (ms := SD :: C :: G :: (cs ++ ags)))
    refine rd_ixT (s4 _ _ htr) ix2 (zl (SqL.of (s4 _ _ h2)) at0 (zl (SqL.of ow4.nc.out) (zr (by rw [List.getElem?_map, hbC]; rfl)) ?_))
    refine qh (j := 0) (s4 _ _ hvC) (qT (by decide) (by simpa using lp)) ?_
    have hbm : bC ∈ SD :: C :: G :: (cs ++ ags) := by simp [List.mem_of_getElem? hbC]
    have ow5 := ow4.putC (c' := (zw st3.cells io).set 0 (some ((i : Int), g0))) hbC (vs := vs.set 0 (.ref t1)) (by rw [List.map_set]; exact Reps.set rv4 0 rt4)
    have f5 := f4.trans (qc (ms := SD :: C :: G :: (cs ++ ags)) (x := bC) (o := .lst (vs.set 0 (.ref t1))) hbm)
    have hM5 : upd (upd H3 t1 (.tup [.int i, .int g0])) bC (.lst (vs.set 0 (.ref t1))) M = some (.lst us) := by
     rw [upd_ne (fun z => nM (by rw [z]; exact hbm))]
     exact hM4
    have r5 := qA (vs := vs.set 0 (.ref t1)) (s4 _ _ hvC) r4
    generalize upd (upd H3 t1 (.tup [.int i, .int g0])) bC (.lst (vs.set 0 (.ref t1))) = H5 at ow5 f5 hM5 r5 ⊢
    clear ow4 rt4 rv4 hM4 r4 f4 s4 ht1 hgG
    obtain ⟨bG', hbG', hgG⟩ := Zb ow5.ng hg0
    rw [hbG] at hbG'
    cases hbG'
    obtain ⟨tr', l1', l2', l3', etr, htr5, h15, h25, h35⟩ := jU (rx.fr f5)
    cases etr
    walk_at "go"
    refine ⟨.inl ⟨rfl, _, SqL.of hM5⟩, zl (SqL.of ow5.ng.out) (zr (by rw [List.getElem?_map, hbG]; rfl)) (zl (SqL.of hgG) at0 ?_)⟩
    intro t2 ht2
    have s6 := zf (o := .tup [.int i, .int g0]) ht2
    refine rd_ixT (s6 _ _ htr5) ix2 (zl (SqL.of (s6 _ _ h25)) at0 ?_)
    intro t3 ht3
    have rt6 : Rep (upd H5 t2 (.tup [.int i, .int g0])) (TupP (upd H5 t2 (.tup [.int i, .int g0]))) (.ref t2) (zC (some ((i : Int), g0))) := Reps.mkT (vs := [.int i, .int g0]) (.cons .int (.cons .int .nil)) ⟨_, upd_same⟩ upd_same
    have s7 := s6.trans (zf (o := .tup [.int i, .ref t2, .non, .int io]) ht3)
    have rt7 : Rep (upd (upd H5 t2 (.tup [.int i, .int g0])) t3 (.tup [.int i, .ref t2, .non, .int io])) (TupP (upd (upd H5 t2 (.tup [.int i, .int g0])) t3 (.tup [.int i, .ref t2, .non, .int io]))) (.ref t3) (qf ⟨i, some ((i : Int), g0), none, some (io : Int)⟩) := Reps.mkT (vs := [.int i, .ref t2, .non, .int io]) (.cons .int (.cons (xJ rt6 (zf ht3)) (.cons .non (.cons .int .nil)))) ⟨_, upd_same⟩ upd_same
    have hM6 := s7 _ _ hM5
    refine ⟨M, us, _, rfl, rfl, hM6, zp (by omega), ?_⟩
    have ow7 := (ow5.same s7).outM (vs := us ++ [.ref t3]) hM6 nM
    have r7 := (qA (vs := us ++ [.ref t3]) hM6 (qw r5 s7)).append (Reps.one (xk (vs := us ++ [.ref t3]) hM6 rt7))
    have f7 : Fr (SD :: C :: G :: (cs ++ ags)) H (upd (upd (upd H5 t2 (.tup [.int i, .int g0])) t3 (.tup [.int i, .ref t2, .non, .int io])) M (.lst (us ++ [.ref t3]))) := fun b o nb hb => by rw [upd_ne (ne_of_none hb hM)]; exact s7 b o (f5 b o nb hb)
    have hM7 : upd (upd (upd H5 t2 (.tup [.int i, .int g0])) t3 (.tup [.int i, .ref t2, .non, .int io])) M (.lst (us ++ [.ref t3])) M = some (.lst (us ++ [.ref t3])) := upd_same
    generalize upd (upd (upd H5 t2 (.tup [.int i, .int g0])) t3 (.tup [.int i, .ref t2, .non, .int io])) M (.lst (us ++ [.ref t3])) = H7 at ow7 f7 hM7 r7 ⊢
    clear s6 s7 rt6 rt7 hM6 hgG ht2 ht3
    obtain ⟨bG', hbG', hgG⟩ := Zb ow7.ng hg0
    rw [hbG] at hbG'
    cases hbG'
    have hbg : bG ∈ SD :: C :: G :: (cs ++ ags) := by simp [List.mem_of_getElem? hbG]
    walk_at "go"
    unfold Zj
    walk_at "go"
    refine zl (SqL.of ow7.ng.out) (zr (by rw [List.getElem?_map, hbG]; rfl)) ?_
    walk_at "go"
    refine ⟨bG, _, 0, _, rfl, rfl, SqL.of hgG, by decide, at0, ?_⟩
    walk_at "go"
    refine qh (j := 0) hgG (qT (by decide) (by rw [qz]; exact Int.ofNat_lt.mpr (Nat.zero_lt_succ _))) ?_
    refine ⟨_, _, us ++ [.ref t3], rfl, f7.trans (qc hbg), ow7.putG (g' := (g0 + 1) :: gs) hbG, ?_, ?_⟩
    ·show upd H7 bG _ M = _
     rw [upd_ne (fun z => nM (by rw [z]; exact hbg))]
     exact hM7
    ·rw [show (ms ++ (some ⟨i, some ((i : Int), g0), none, some (io : Int)⟩ : Option Move).toList).map qf = ms.map qf ++ [qf ⟨i, some ((i : Int), g0), none, some (io : Int)⟩] by simp]
     exact qA hgG r7
   | drain =>
    obtain ⟨⟨o, p1⟩, p2, p3, _⟩ := rok
    simp only at p1 p2 p3
    subst p1 p2
    have ea := Ze hri hs0
    rw [hkeep, if_neg (fun y => by rcases y with y | y; exact z y; exact y z2)] at ea
    obtain ⟨io, rfl, _, e2, e3, _⟩ := qX wfS.co bo (xu wok hri (b := o) (by simp))
    obtain ⟨bC, vs, hbC, hvC, rvC⟩ := NLC.cell ow3.nc e2
    refine ite2 (fun z => absurd z (by decide)) (fun _ => ?_)
    walk_at "go"
    refine rd_ixT htr ix1 (zl (SqL.of h1) at0 ?_)
    have lp : vs.length = (zw st3.cells io).length := by rw [rvC.len, List.length_map]
    have l0 := List.length_pos_iff.mpr e3
    obtain ⟨ve, he, re⟩ := QT rvC (vZ (d := .non) (by simpa using e3))
    rw [wO] at re
    refine zl (SqL.of ow3.nc.out) (zr (by rw [List.getElem?_map, hbC]; rfl)) (zl (SqL.of hvC) he ?_)
    refine ite2 (fun z => ?_) (fun z => stay (by rw [ea, drnF, if_pos ((qN re).mp (Decidable.not_not.mp z))]) _ _)
    rw [ea, drnF, if_neg (fun y => z ((qN re).mpr y)), egb]
    walk_at "go"
    refine ⟨.inl ⟨rfl, _, SqL.of hM3⟩, rd_ixT htr ix1 (zl (SqL.of h1) at0 (zl (SqL.of ow3.nc.out) (zr (by rw [List.getElem?_map, hbC]; rfl)) (zl (SqL.of hvC) he (rd_ixT htr ix1 (zl (SqL.of h1) at0 ?_)))))⟩
    intro t1 ht1
    have s4 := zf (o := .tup [.int i, ve, .int io, .non]) ht1
    have ow4 := ow3.same s4
    have hM4 := s4 _ _ hM3
    have r4 := qw r3 s4
    have f4 := f3.trans (s4.fr (ms := SD :: C :: G :: (cs ++ ags)))
    have re4 := xJ re s4
    have rt4 : Rep (upd H3 t1 (.tup [.int i, ve, .int io, .non])) (TupP (upd H3 t1 (.tup [.int i, ve, .int io, .non]))) (.ref t1) (qf ⟨i, endW (zw st3.cells io), some (io : Int), none⟩) := Reps.mkT (vs := [.int i, ve, .int io, .non]) (.cons .int (.cons re4 (.cons .int (.cons .non .nil)))) ⟨_, upd_same⟩ upd_same
    refine ⟨M, us, _, rfl, rfl, hM4, zp (by omega), ?_⟩
    have ow5 := ow4.outM (vs := us ++ [.ref t1]) hM4 nM
    have hM5 : upd (upd H3 t1 (.tup [.int i, ve, .int io, .non])) M (.lst (us ++ [.ref t1])) M = some (.lst (us ++ [.ref t1])) := upd_same
    have r5 := (qA (vs := us ++ [.ref t1]) hM4 r4).append (Reps.one (xk (vs := us ++ [.ref t1]) hM4 rt4))
    have rv5 := qA (vs := us ++ [.ref t1]) hM4 (qw rvC s4)
    have f5 : Fr (SD :: C :: G :: (cs ++ ags)) H (upd (upd H3 t1 (.tup [.int i, ve, .int io, .non])) M (.lst (us ++ [.ref t1]))) := fun b o nb hb => by rw [upd_ne (ne_of_none hb hM)]; exact f4 b o nb hb
    generalize upd (upd H3 t1 (.tup [.int i, ve, .int io, .non])) M (.lst (us ++ [.ref t1])) = H5 at ow5 f5 hM5 r5 rv5 ⊢
    obtain ⟨bC', vs5, hbC', hvC5, rvC5⟩ := NLC.cell ow5.nc e2
    rw [hbC] at hbC'
    cases hbC'
    have lp5 : vs5.length = (zw st3.cells io).length := by rw [rvC5.len, List.length_map]
    obtain ⟨tr', l1', l2', l3', etr, htr5, h15, h25, h35⟩ := jU (rx.fr f5)
    cases etr
    clear ow4 hM4 r4 f4 s4 ht1 re4 rt4 rv5
    walk_at "go"
    refine rd_ixT htr5 ix1 (zl (SqL.of h15) at0 (zl (SqL.of ow5.nc.out) (zr (by rw [List.getElem?_map, hbC]; rfl)) ?_))
    walk_at "go"
    have hbm : bC ∈ SD :: C :: G :: (cs ++ ags) := by simp [List.mem_of_getElem? hbC]
    refine qh (j := vs5.length - 1) hvC5 ?_ ?_
    ·unfold ixN
     rw [if_neg (by decide), if_pos (by omega)]
     congr 1
     omega
    have ow7 := ow5.putC (c' := jI (zw st3.cells io)) hbC (vs := vs5.set (vs5.length - 1) .non) (by unfold jI; rw [List.map_set, lp5]; exact Reps.set rvC5 _ .non)
    have f7 := f5.trans (qc (ms := SD :: C :: G :: (cs ++ ags)) (x := bC) (o := .lst (vs5.set (vs5.length - 1) .non)) hbm)
    have hM7 : upd H5 bC (.lst (vs5.set (vs5.length - 1) .non)) M = some (.lst (us ++ [.ref t1])) := by
     rw [upd_ne (fun z => nM (by rw [z]; exact hbm))]
     exact hM5
    have r7 := qA (vs := vs5.set (vs5.length - 1) .non) hvC5 r5
    generalize upd H5 bC (.lst (vs5.set (vs5.length - 1) .non)) = H7 at ow7 f7 hM7 r7 ⊢
    clear hgG
    obtain ⟨bG', hbG', hgG⟩ := Zb ow7.ng hg0
    rw [hbG] at hbG'
    cases hbG'
    have hbg : bG ∈ SD :: C :: G :: (cs ++ ags) := by simp [List.mem_of_getElem? hbG]
    walk_at "go"
    unfold Zj
    walk_at "go"
    refine zl (SqL.of ow7.ng.out) (zr (by rw [List.getElem?_map, hbG]; rfl)) ?_
    walk_at "go"
    refine ⟨bG, _, 0, _, rfl, rfl, SqL.of hgG, by decide, at0, ?_⟩
    walk_at "go"
    refine qh (j := 0) hgG (qT (by decide) (by rw [qz]; exact Int.ofNat_lt.mpr (Nat.zero_lt_succ _))) ?_
    refine ⟨_, _, us ++ [.ref t1], rfl, f7.trans (qc hbg), ow7.putG (g' := (g0 + 1) :: gs) hbG, ?_, ?_⟩
    ·show upd H7 bG _ M = _
     rw [upd_ne (fun z => nM (by rw [z]; exact hbg))]
     exact hM7
    ·rw [show (ms ++ (some ⟨i, endW (zw st3.cells io), some (io : Int), none⟩ : Option Move).toList).map qf = ms.map qf ++ [qf ⟨i, endW (zw st3.cells io), some (io : Int), none⟩] by simp]
     exact qA hgG r7
  ·rintro σ H2 ⟨v3, v4, us, rfl, f2, ow2, hM2, r2⟩
   rw [luR] at ow2 r2
   exact ⟨_, _, _, rfl, f2, ow2, hM2, r2⟩
 rintro σ' H2 ⟨v3, v4, us, rfl, f2, ow2, hM2, r2⟩
 walk_at "go"
 exact k _ _ _ f2 ow2 hM2 r2
theorem c_L_acted (T : Txt K mg a) : Cal P w K mg base "_law_acted" 1 ["_law_rows", "_law_turn_here", "_law_cells", "_law_gone"] [] vP := T.h_L_acted.cal (ok_L_acted T)
theorem rd_neTD {H : Hp} {Q : VK} {a b : Addr} {xs ys : List V} {n : Nat} (hn : n ≤ 8) (h1 : SqT K H a xs) (h2 : SqT K H b ys) (hde : ∀ (j : Nat) (x y : V), xs[j]? = some x → ys[j]? = some y → DE K H n x y true) (hl : xs.length = ys.length) (q : Q (.bl false) H) : rNeG K (.ref a) (.ref b) H Q := by
 refine .inr (.inr ⟨a, b, xs, ys, n, fun _ => true, rfl, rfl, hn, hde, .inr ⟨h1, h2, ?_⟩⟩)
 rw [List.all_eq_true.mpr (fun _ _ => rfl), hl]
 simpa using q
theorem Zu {H : Hp} {p : Addr → Prop} {v : V} {m : Move} {x : Int × Int} (h : Rep H p v (qf m)) (e : m.ware = some x) : ∃ t t1, v = .ref t ∧ H t = some (.tup [.int m.k, .ref t1, hdV m.fr, hdV m.to]) ∧ H t1 = some (.tup [.int x.1, .int x.2]) := by
 obtain ⟨t, us, rfl, _, ht, rr⟩ := Rep.tup' h
 have g := rr.g
 obtain ⟨x0, _, rfl, h1⟩ := jz rr.len
 obtain ⟨x1, _, rfl, h2⟩ := jz h1
 obtain ⟨x2, x3, rfl⟩ := two_of h2
 have a0 := g 0 x0 _ rfl rfl
 have a1 := g 1 x1 _ rfl rfl
 have a2 := g 2 x2 _ rfl rfl
 have a3 := g 3 x3 _ rfl rfl
 rw [e] at a1
 obtain ⟨t1, rfl, ht1⟩ := jD a1
 have opt : ∀ (u : V) (o : Option Int), Rep H p u (dOpt o) → u = hdV o := fun u o r => by
  cases o
  ·cases r; rfl
  ·cases r; rfl
 cases a0
 rw [opt _ _ a2, opt _ _ a3] at ht
 exact ⟨t, t1, rfl, ht, ht1⟩
theorem Qd (o : Option Int) : jC (hdV o) = true := by cases o <;> rfl
theorem Q7 (o : Option Int) : eqV (hdV o) (hdV o) = true := by cases o <;> simp [hdV, eqV]
theorem xw {H : Hp} {n : Nat} {x : V} (h : jC x = true) (e : eqV x x = true) : DE K H n x x true := e ▸ .flat h h
theorem de_ware {H : Hp} {t1 t2 : Addr} {x : Int × Int} (h1 : H t1 = some (.tup [.int x.1, .int x.2])) (h2 : H t2 = some (.tup [.int x.1, .int x.2])) : DE K H 1 (.ref t1) (.ref t2) true := by
 by_cases e : t1 = t2
 ·rw [e]; exact .same
 ·refine DE.tuples (n := 0) (e := fun _ => true) e (SqT.of h1) (SqT.of h2) fun j u v hu hv => ?_
  rw [hu] at hv
  cases hv
  have : u ∈ [V.int x.1, V.int x.2] := List.mem_of_getElem? hu
  simp only [List.mem_cons, List.not_mem_nil, or_false] at this
  rcases this with rfl | rfl
  ·exact xw rfl (by simp [eqV])
  ·exact xw rfl (by simp [eqV])
def wx : Sp := fun vs H Q _ => ∃ (v1 v2 : V) (ms : List Move) (p q : Addr → Prop), vs = [v1, v2] ∧ Rep H p v1 (.lst (ms.map qf)) ∧ Rep H q v2 (.lst (ms.map qf)) ∧ (∀ m ∈ ms, ∃ x, m.ware = some x) ∧ ∀ H', Same H H' → Q (.bl true) H'
theorem ok_L_moves_are (T : Txt K mg a) (F : Fun K "_law_moves_are" "_law_moves_are" s_L_moves_are f fd) : FnOk P w K mg base (CXr P w) 3 f fd ["_law_found", "_law_due"] wx := by
 refine F.okx sc_L_moves_are ?_ ?_
 ·walk_at "i"
 walk_at "j"
 obtain ⟨v1, v2, ms, p, q, rfl, h1, h2, hm, k⟩ := h
 obtain ⟨l1, us1, rfl, _, h1, r1⟩ := h1.lst'
 obtain ⟨l2, us2, rfl, _, h2, r2⟩ := h2.lst'
 have ln : us1.length = us2.length := by rw [r1.len, r2.len]
 walk_at "T"
 refine ⟨_, (zg (zA (PW.pt (pw_or (zK (zz (zG jm zQ (za (pv 0) (za (xW qd) zb))) (fun _ => rfl))) (pw_or1 (zo (jd hr.units1) (zG zJ zI (za (pv 0) zb)) (zG zJ zI (za (pv 1) zb)) (zq _)))))  (zd (zi qe))  zk)  (zX (z9 qu rfl (vU (za (pv 0) (za (pv 1) zb))) (qJ (n := 2) rfl (zB (pg_n 2 sc_L_moves_are.nd) (zB (pg_n 3 sc_L_moves_are.nd) qo)))  (zg (zA (PW.pt (pw_or (zK (zz (zG jm zQ (za (pv 2) (za (xW ZL) zb))) (fun _ => rfl))) (pw_or (zo (jd hr.units1) (zG zJ zI (za (pv 2) zb)) zc (zq _)) (pw_or1 (zK (zz (zx ⟨rfl, rfl, rfl⟩ hr (za (zh (pv 2) zc) zb)) (fun _ => rfl)))))))  (zd (zi qe))  zk)  (zg (zA (zK (zz (zx ⟨rfl, rfl, rfl⟩ hr (za (zh (pv 2) zc) (za (zh (pv 3) zc) zb))) (fun _ => rfl)))  (zd (zi qe))  zk)  (zX (z9 qu rfl (qj (qr (za zc (za zc zb)))) (pg_n 4 sc_L_moves_are.nd)  (zg (zA (PW.pt (pw_and (zo qF (zh (pv 3) (pv 4)) zD (zq _)) (pw_and1 (zo jV (zh (pv 2) (pv 4)) zD (zq _)))))  (zd (zi qe))  zk)  (zd (zA (PW.pt (pw_and (zo jV (zh (pv 3) (pv 4)) zD (zq _)) (pw_and1 (zK (zz (zx ⟨rfl, rfl, rfl⟩ hr (za (zh (pv 2) (pv 4)) zb)) (fun _ => rfl))))))  (zd (zi qe))  zk))))  (zd (zA (zo (jd hr.units1) (pv 2) (pv 3) (zq _))  (zd (zi qe))  zk))))))  (zd (zi qe)))), ?_⟩
 walk_at "go"
 refine wm h1 ?_
 walk_at "go"
 refine ⟨_, .inl ⟨_, SqL.of h1, rfl⟩, ?_⟩
 walk_at "go"
 refine ⟨_, .inl ⟨_, SqL.of h2, rfl⟩, ?_⟩
 rw [ln]
 walk_at "go"
 let M1_ : St → Hp → Prop := fun σ' H' => ∃ (v2 v3 v4 : Option V), σ' = [some (.ref l1), some (.ref l2), v2, v3, v4] ∧ Same H H'
 refine cut M1_ ?_ ?_
 ·walk_at "for"
  walk_at "go"
  refine ⟨true, true, l1, l2, _, _, rfl, SqL.of h1, SqL.of h2, ?_⟩
  let M2_ : Nat → St → Hp → Prop := fun i σ H' => ∃ v2 v3 v4, σ = [some (.ref l1), some (.ref l2), v2, v3, v4] ∧ Same H H'
  refine Qg (K := K) (xs := us1) (ys := us2) M2_ ⟨_, _, _, rfl, Same.refl _⟩ (fun i σ H' _ ⟨_, _, _, _, s⟩ => ⟨SqL.of (s _ _ h1), SqL.of (s _ _ h2)⟩) ?_ ?_
  ·rintro i u v t σ H' hi hj ht ⟨v2, v3, v4, rfl, s⟩
   have s2 := s.trans (zf (o := .tup [u, v]) ht)
   obtain ⟨d, hd, ru⟩ := r1.at hi
   have rv := r2.g i v d hj hd
   rw [List.getElem?_map, Option.map_eq_some_iff] at hd
   obtain ⟨m, hmi, rfl⟩ := hd
   obtain ⟨x, ex⟩ := hm m (List.mem_of_getElem? hmi)
   refine un2 upd_same ?_
   generalize upd H' t (.tup [u, v]) = H3 at s2 ⊢
   obtain ⟨t1, w1, rfl, g1, gw1⟩ := Zu (zW ru s2) ex
   obtain ⟨t2, w2, rfl, g2, gw2⟩ := Zu (zW rv s2) ex
   walk_at "go"
   refine Qc g1 ?_
   walk_at "go"
   refine ⟨4, .inr ⟨_, SqT.of g1, rfl⟩, ?_⟩
   walk_at "go"
   refine uc (qK T).mono (rd_ixT g1 at0 ?_)
   refine ⟨_, rfl, ?_⟩
   walk_at "go"
   refine uc (wb T).mono (rd_ixT g1 rfl (rd_ixT g2 rfl ?_))
   refine ⟨.ref w1, .ref w2, some x, fun _ => True, fun _ => True, rfl, .tup trivial gw1 rfl fun j u d a b => ?_, .tup trivial gw2 rfl fun j u d a b => ?_, ?_⟩
   ·rcases j with _ | _ | j
    ·cases a; cases b; exact .int
    ·cases a; cases b; exact .int
    ·cases a
   ·rcases j with _ | _ | j
    ·cases a; cases b; exact .int
    ·cases a; cases b; exact .int
    ·cases a
   walk_at "go"
   let M3_ : St → Hp → Prop := fun σ' H' => ∃ v4, σ' = [some (.ref l1), some (.ref l2), some (.ref t1), some (.ref t2), v4] ∧ Same H3 H'
   refine cut M3_ ?_ ?_
   ·walk_at "for"
    walk_at "go"
    intro tp htp
    have s4 := zf (o := .tup [.int 2, .int 3]) htp
    have h4 := upd_keep (o := .tup [.int 2, .int 3]) g1 htp
    have h5 := upd_keep (o := .tup [.int 2, .int 3]) g2 htp
    have htp4 : upd H3 tp (.tup [.int 2, .int 3]) tp = some (.tup [.int 2, .int 3]) := upd_same
    generalize upd H3 tp (.tup [.int 2, .int 3]) = H4 at s4 h4 h5 htp4 ⊢
    refine ⟨tp, rfl, .inr ⟨⟨_, SqT.of htp4⟩, ?_⟩⟩
    let M4_ : Nat → St → Hp → Prop := fun i σ H' => ∃ v4, σ = [some (.ref l1), some (.ref l2), some (.ref t1), some (.ref t2), v4] ∧ H' = H4
    refine for_T (K := K) (a := tp) (xs := [.int 2, .int 3]) M4_ ⟨_, rfl, rfl⟩ (fun i σ H' _ ⟨_, _, e⟩ => e ▸ SqT.of htp4) ?_ ?_
    ·rintro j u σ H5 hj ⟨v4, rfl, rfl⟩
     obtain ⟨o, n, rfl, ho, ho2⟩ : ∃ (o : Option Int) (n : Int), u = .int n ∧ atI [.int m.k, .ref w1, hdV m.fr, hdV m.to] n = some (hdV o) ∧ atI [.int m.k, .ref w2, hdV m.fr, hdV m.to] n = some (hdV o) := by
      rcases j with _ | _ | j
      ·cases hj; exact ⟨m.fr, 2, rfl, rfl, rfl⟩
      ·cases hj; exact ⟨m.to, 3, rfl, rfl, rfl⟩
      ·cases hj
     walk_at "go"
     refine rd_ixT h5 ho2 ?_
     cases o with
     | none =>
      rw [show hdV none = V.non from rfl] at ho ho2 ⊢
      walk_at "go"
      refine rd_ixT h4 ho ?_
      walk_at "go"
      refine rd_ixT h5 ho2 ?_
      walk_at "go"
      exact ⟨_, rfl, rfl⟩
     | some z =>
      rw [show hdV (some z) = V.int z from rfl] at ho ho2 ⊢
      walk_at "go"
      refine rd_ixT h5 ho2 ?_
      walk_at "go"
      refine uc (qK T).mono (rd_ixT h4 ho ?_)
      refine ⟨_, rfl, ?_⟩
      walk_at "go"
      exact ⟨_, rfl, rfl⟩
    ·rintro σ H5 ⟨v4, rfl, rfl⟩
     exact ⟨_, rfl, s4⟩
   rintro σ' H5 ⟨v4, rfl, s5⟩
   walk_at "go"
   refine rd_neTD (n := 1) (by decide) (SqT.of (s5 _ _ g1)) (SqT.of (s5 _ _ g2)) (fun j u v hu hv => ?_) rfl ?_
   ·rcases j with _ | _ | _ | _ | j
    ·cases hu; cases hv; exact xw rfl (by simp [eqV])
    ·cases hu; cases hv; exact de_ware (s5 _ _ gw1) (s5 _ _ gw2)
    ·cases hu; cases hv; exact xw (Qd _) (Q7 _)
    ·cases hu; cases hv; exact xw (Qd _) (Q7 _)
    ·cases hu
   walk_at "go"
   exact ⟨_, _, _, rfl, s2.trans s5⟩
  ·rintro σ H' ⟨v2, v3, v4, rfl, s⟩
   exact ⟨_, _, _, rfl, s⟩
 rintro σ' H2 ⟨v2, v3, v4, rfl, s2⟩
 walk_at "go"
 exact k _ s2
theorem c_L_moves_are (T : Txt K mg a) : Cal P w K mg base "_law_moves_are" 3 ["_law_found", "_law_due"] [] wx := T.h_L_moves_are.cal (ok_L_moves_are T)
theorem perm_workOk {bs : List (Int × Int)} {rs rs' : List Row} (h : zT bs rs) (p : rs'.Perm rs) : zT bs rs' := by
 refine ⟨⟨h.1.1, by rw [p.length_eq]; exact h.1.2⟩, ?_, ?_⟩
 ·exact (List.Perm.flatMap_right _ p).trans h.2.1
 ·exact (List.Perm.flatMap_right _ p).trans h.2.2
theorem Z3 {H : Hp} {p q : Addr → Prop} {G : Addr} {as : List Addr} {xss : List (List D)} (h : NL H p G as xss) (hq : ∀ b, b = G ∨ b ∈ as ∨ p b → q b) : Rep H q (.ref G) (.lst (xss.map D.lst)) := by
 refine .lst (hq _ (.inl rfl)) h.out (by rw [List.length_map, List.length_map, h.len]) fun i v d e1 e2 => ?_
 rw [List.getElem?_map, Option.map_eq_some_iff] at e1 e2
 obtain ⟨b, e1, rfl⟩ := e1
 obtain ⟨xs, e2, rfl⟩ := e2
 obtain ⟨vs, h1, h2⟩ := h.g i b xs e1 e2
 exact Reps.mk' (h2.keep fun c o pc hc => ⟨hq c (.inr (.inr pc)), hc⟩) (hq _ (.inr (.inl (List.mem_of_getElem? e1)))) h1
theorem StO.repQ {H : Hp} {y : Addr} {n : SN} {st : PSt} {q : Addr → Prop} (h : StO a H y n st) (hq : ∀ b, b ∈ y :: n.all ∨ TupP H b → q b) : Rep H q (.ref y) (qH a st) := by
 have m : ∀ b, b ∈ n.all → q b := fun b hb => hq b (.inl (List.mem_cons_of_mem _ hb))
 refine j3 (hq _ (.inl (by simp))) h.hy rfl (.cons .int (.cons (Z3 h.hc fun b hb => ?_) (.cons (zY (m _ (by simp [SN.all])) h.hs) (.cons (Z3 h.hg fun b hb => ?_) .nil))))
 ·rcases hb with rfl | hb | hb
  ·exact m _ (by simp [SN.all])
  ·exact m _ (by simp [SN.all, hb])
  ·exact hq _ (.inr hb)
 ·rcases hb with rfl | hb | hb
  ·exact m _ (by simp [SN.all])
  ·exact m _ (by simp [SN.all, hb])
  ·exact hq _ (.inr hb)
theorem StNew.repN {H H' : Hp} {v : V} {st : PSt} (h : StNew a H H' v st) (s : Same H H') {ms : List Addr} (hm : ∀ b ∈ ms, ∃ vs, H b = some (.lst vs)) : Rep H' (Off ms) v (qH a st) := by
 obtain ⟨y, n, rfl, so, ny, _, nn⟩ := h
 refine so.repQ fun b hb z => ?_
 obtain ⟨vs, hv⟩ := hm b z
 rcases hb with hb | ⟨xs, hx⟩
 ·rcases List.mem_cons.mp hb with rfl | hb
  ·rw [ny] at hv; cases hv
  ·rw [nn b hb] at hv; cases hv
 ·rw [s _ _ hv] at hx; cases hx
theorem QU {bs : List (Int × Int)} {rs : List Row} {st : PSt} (wf : stWf bs rs st) (wok : zT bs rs) (bo : ∀ b ∈ bs, zE b.1 b.2) (ro : ∀ r ∈ rs, r.ok ∧ r.wd ≠ .joiner) : ∀ i, ∀ m ∈ (zn rs st i).2, ∃ x, m.ware = some x
 | 0 => fun _ h => nomatch h
 | i + 1 => fun m h => by
  have h : m ∈ (zn rs st i).2 ++ (actF rs (zn rs st i).1 i).2.toList := h
  rcases List.mem_append.mp h with h | h
  ·exact QU wf wok bo ro i m h
  have wfS := qL wf wok bo (fun r hr => (ro r hr).1) i
  generalize (zn rs st i).1 = st3 at h wfS
  cases hri : rs[i]? with
  | none =>
   unfold actF at h
   rw [hri] at h
   cases h
  | some r =>
   obtain ⟨rok, nj⟩ := ro r (List.mem_of_getElem? hri)
   have hs0 : st3.sides[i]? = some 0 := by
    have hsd := qp (xs := st3.sides) (k := i) (d := 0) (by rw [wfS.so.1]; exact (List.getElem?_eq_some_iff.mp hri).1)
    have := (wfS.so.2 i r _ hri hsd).2.2.2 (fun z => z) nj
    rw [this] at hsd
    exact hsd
   obtain ⟨wd, ins, outs, pc, ks⟩ := r
   simp only at nj
   cases wd with
   | joiner => exact absurd rfl nj
   | source =>
    obtain ⟨p1, ⟨o, p2⟩, _⟩ := rok
    simp only at p1 p2
    subst p1 p2
    rw [Zd hri hs0] at h
    unfold srcF at h
    split at h
    ·split at h
     ·rw [List.mem_singleton.mp h]
      exact ⟨_, rfl⟩
     ·cases h
    ·cases h
   | drain =>
    obtain ⟨⟨o, p1⟩, p2, _⟩ := rok
    simp only at p1 p2
    subst p1 p2
    rw [Ze hri hs0] at h
    unfold drnF at h
    split at h
    ·cases h
    ·split at h
     ·cases h
     ·rename_i hne
      rw [List.mem_singleton.mp h]
      exact Option.ne_none_iff_exists'.mp hne
structure B18 (a : Ad) (H : Hp) (bs : List (Int × Int)) (rs : List Row) (x0 v2 vw vS : V) (C SD G : Addr) (cs ags : List Addr) (st : PSt) : Prop where
 rb : Rep H (Off (SD :: C :: G :: (cs ++ ags))) x0 (.lst (bs.map xy))
 rr : Rep H (Off (SD :: C :: G :: (cs ++ ags))) v2 (.lst (rs.map dRow))
 rw : Rep H (Off (SD :: C :: G :: (cs ++ ags))) vw (qG a bs rs)
 rS : Rep H (Off (SD :: C :: G :: (cs ++ ags))) vS (qH a st)
 ow : OW H C SD G cs ags st
theorem B18.same {H H' : Hp} {bs : List (Int × Int)} {rs : List Row} {x0 v2 vw vS : V} {C SD G : Addr} {cs ags : List Addr} {st : PSt} (h : B18 a H bs rs x0 v2 vw vS C SD G cs ags st) (s : Same H H') : B18 a H' bs rs x0 v2 vw vS C SD G cs ags st := ⟨h.rb.same s, h.rr.same s, h.rw.same s, h.rS.same s, h.ow.same s⟩
def Zl (K : PySem.W.Frag) : Sp := fun vs H Q _ => ∃ (l : Addr) (ns : List Int), vs = [.ref l] ∧ SqL K H l (ns.map V.int) ∧ ns.length ≤ 63 ∧ ∀ H', Q (.bl true) H'
abbrev st18 (l : Addr) (fo : Int) (x0 v2 vw : V) (C G : Addr) (tt : Int) (q5 : Addr) (v9 v10 v11 v12 v13 v14 : Option V) : St := [some (.ref l), some (.int fo), some x0, some v2, some vw, some (.ref C), some (.ref G), some (.int tt), some (.ref q5), v9, v10, v11, v12, v13, v14]
theorem ok_law (T : Txt K mg a) (F : Fun K "law" "law" s_law f fd) : FnOk P w K mg base (CXr P w) 8 f fd ["_law_script"] (Zl K) := by
 refine F.okx sc_law ?_ ?_
 ·walk_at "i"
 walk_at "j"
 refine oE2 h fun l ns z1_ => oA4 z1_ fun z2_ hl hn k => ?_
 clear h
 subst z2_
 walk_at "T"
 refine ⟨_, (zg (zF 1 sc_law.nd (zx ⟨rfl, rfl, rfl⟩ hr (za (pv 0) zb)))  (zg (qS (zx ⟨rfl, rfl, rfl⟩ hr (za (pv 0) zb)) (qJ (n := 2) rfl (zB (pg_n 2 sc_law.nd) (zB (pg_n 3 sc_law.nd) qo))))  (zg (zF 3 sc_law.nd (zx ⟨rfl, rfl, rfl⟩ hr (za (pv 3) (za (pv 1) zb))))  (zX (zF 4 sc_law.nd (xX ⟨rfl, rfl, rfl⟩ hr (za (jK (vars := ["_law_room", "_law_pace"]) (caps := []) (N := ["_law_room", "_law_pace"]) (ON := ["_law_script", "_law_fold_here", "_law_belts", "_law_rows", "_law_work", "_law_cells", "_law_gone", "_law_turn_here", "_law_sides_here", "_law_state", "_law_step", "_law_before", "_law_after", "_law_moves", "_law_k"]) (osc := ze s_law) rfl rfl (by first | decide +kernel | kernel_rfl) rfl rfl (qj (pv 2)) (fun s H fp pins => (qJ (n := 2) rfl (zB (pg_n 0 (show (["_law_room", "_law_pace"] : List Str).Nodup from by decide +kernel)) (zB (pg_n 1 (show (["_law_room", "_law_pace"] : List Str).Nodup from by decide +kernel)) qo)))) (fun s H fp pins => qm) (fun s H fp pins => (QE hr (za (pv 0) (za (pv 1) zb))))) (za (jK (vars := ["_law_row"]) (caps := []) (N := ["_law_row"]) (ON := ["_law_script", "_law_fold_here", "_law_belts", "_law_rows", "_law_work", "_law_cells", "_law_gone", "_law_turn_here", "_law_sides_here", "_law_state", "_law_step", "_law_before", "_law_after", "_law_moves", "_law_k"]) (osc := ze s_law) rfl rfl (by first | decide +kernel | kernel_rfl) rfl rfl (qj (pv 3)) (fun s H fp pins => (pg_n 0 (show (["_law_row"] : List Str).Nodup from by decide +kernel))) (fun s H fp pins => qm) (fun s H fp pins => (ZR hr (za (pv 0) zb)))) zb))))  (zg (qS (zx ⟨rfl, rfl, rfl⟩ hr (za (pv 0) (za (pv 2) (za (pv 3) (za (pv 1) zb))))) (qJ (n := 2) rfl (zB (pg_n 5 sc_law.nd) (zB (pg_n 6 sc_law.nd) qo))))  (zg (zF 7 sc_law.nd (zx ⟨rfl, rfl, rfl⟩ hr (za (pv 0) (za (pv 1) zb))))  (zg (zF 8 sc_law.nd (zm ZS (zU (za zc zb)) (zG zJ zI (za (pv 3) zb))))  (zg (zF 9 sc_law.nd (xX ⟨rfl, rfl, rfl⟩ hr (za (pv 7) (za (pv 5) (za (pv 8) (za (pv 6) zb))))))  (zX (z9 qu rfl (j4 (za zc zb)) (pg_n 10 sc_law.nd)  (zg (zF 11 sc_law.nd (zU (za (jK (vars := ["_law_line"]) (caps := []) (N := ["_law_line"]) (ON := ["_law_script", "_law_fold_here", "_law_belts", "_law_rows", "_law_work", "_law_cells", "_law_gone", "_law_turn_here", "_law_sides_here", "_law_state", "_law_step", "_law_before", "_law_after", "_law_moves", "_law_k"]) (osc := ze s_law) rfl rfl (by first | decide +kernel | kernel_rfl) rfl rfl (qj (pv 5)) (fun s H fp pins => (pg_n 0 (show (["_law_line"] : List Str).Nodup from by decide +kernel))) (fun s H fp pins => qm) (fun s H fp pins => (jL qM qd (za (pv 0) zb)))) (za (jK (vars := ["_law_counts_here"]) (caps := []) (N := ["_law_counts_here"]) (ON := ["_law_script", "_law_fold_here", "_law_belts", "_law_rows", "_law_work", "_law_cells", "_law_gone", "_law_turn_here", "_law_sides_here", "_law_state", "_law_step", "_law_before", "_law_after", "_law_moves", "_law_k"]) (osc := ze s_law) rfl rfl (by first | decide +kernel | kernel_rfl) rfl rfl (qj (pv 6)) (fun s H fp pins => (pg_n 0 (show (["_law_counts_here"] : List Str).Nodup from by decide +kernel))) (fun s H fp pins => qm) (fun s H fp pins => (jL qM qd (za (pv 0) zb)))) zb))))  (zg (zF 12 sc_law.nd (zx ⟨rfl, rfl, rfl⟩ hr (za (pv 4) (za (pv 9) zb))))  (zg (zF 13 sc_law.nd (zx ⟨rfl, rfl, rfl⟩ hr (za (pv 4) (za (pv 9) zb))))  (zg (zA (zK (zz (zx ⟨rfl, rfl, rfl⟩ hr (za (pv 9) (za (pv 7) (za (zh (pv 11) zc) (za (pv 8) (za (zh (pv 11) zc) zb)))))) (fun _ => rfl)))  (zd (zi qe))  zk)  (zg (zA (zK (zz (zx ⟨rfl, rfl, rfl⟩ hr (za (pv 13) (za (zx ⟨rfl, rfl, rfl⟩ hr (za (pv 3) (za (pv 7) (za (pv 5) (za (pv 6) zb))))) zb))) (fun _ => rfl)))  (zd (zi qe))  zk)  (zX (z9 qu rfl (j4 (za (zG zJ zI (za (pv 2) zb)) zb)) (pg_n 14 sc_law.nd)  (zd (zA (zo (jq hr.units1) (zm zL (pv 7) (zh (zh (pv 2) (pv 14)) zc)) zc (zq _))  (zd (qS (zx ⟨rfl, rfl, rfl⟩ hr (za (zh (pv 5) (pv 14)) zb)) (jl (pv 5) (pv 14) z7)))  zk)))  (zg (QC (i := 7) sc_law.nd rfl (Or.inl rfl) zc xN)  (zg (zA (zK (zz (zx ⟨rfl, rfl, rfl⟩ hr (za (pv 12) (za (pv 7) (za (pv 5) (za (pv 8) (za (pv 6) zb)))))) (fun _ => rfl)))  (zd (zi qe))  zk)  (zd (zF 9 sc_law.nd (pv 12))))))))))))  (zd (zi qe))))))))))), ?_⟩
 walk_at "go"
 refine uc (c_L_fold T).mono (i_spFold l ns rfl hl (fun fo f0 f1 => ?_))
 walk_at "go"
 refine uc (c_L_lanes T).mono (i_spLanes l ns rfl hl (fun t bs rs H1 s1 rt wok bo ro b12 => ?_))
 refine oE2 rt.tup' fun t' us z1_ => oA4 z1_ fun e _ ht rr => ?_
 cases e
 obtain ⟨x0, x1, rfl⟩ := two_of rr.len
 have r0 := rr.g 0 x0 _ rfl rfl
 have r1 := rr.g 1 x1 _ rfl rfl
 clear rr rt
 refine un2 ht ?_
 walk_at "go"
 refine uc (c_L_dealt T).mono (i_spDealt x1 fo rs rfl r1 (by have := wok.1.2.2; omega) (fun v2 H2 rs2 s2 rv2 pm => ?_))
 have wok2 := perm_workOk wok pm
 have ro2 : ∀ r ∈ rs2, r.ok ∧ r.wd ≠ .joiner := fun r hr => ro r (pm.mem_iff.mp hr)
 have ro3 : ∀ r ∈ rs2, r.ok := fun r hr => (ro2 r hr).1
 have b24 := wok2.1.1.2
 have r24 := wok2.1.2.2
 have s12 := s1.trans s2
 have r02 := r0.same s2
 clear wok ro pm r1 r0 s1 s2 ht
 walk_at "go"
 let M1_ : St → Hp → Prop := fun σ' H' => ∃ vw, σ' = [some (.ref l), some (.int fo), some x0, some v2, some vw, none, none, none, none, none, none, none, none, none, none] ∧ Same H2 H' ∧ Rep H' (Off []) vw (qG a bs rs2)
 refine cut M1_ ?_ ?_
 ·obtain ⟨B, us1, rfl, _, hB, rB⟩ := r02.lst'
  obtain ⟨R, us2, rfl, _, hR, rR⟩ := rv2.lst'
  have ln1 : us1.length = bs.length := by rw [rB.len, List.length_map]
  have ln2 : us2.length = rs2.length := by rw [rR.len, List.length_map]
  walk_at "go"
  refine ⟨a.Work, _, _, _, (k_Work T).mono, ?_⟩
  walk_at "lc"
  walk_at "go"
  refine ⟨B, rfl, .inl ⟨⟨_, SqL.of hB⟩, fun _ _ _ _ acc hacc => ?_⟩⟩
  let M2_ : Nat → St → Hp → Prop := fun i σ H' => ∃ (v0 v1 : Option V) (us : List V), σ = [v0, v1] ∧ Same H2 H' ∧ H' acc = some (.lst us) ∧ Bts a H' (Off [acc]) us (bs.take i)
  refine qV (K := K) (a := B) (xs := us1) M2_ ⟨_, _, [], rfl, zf hacc, upd_same, by rw [List.take_zero]; exact .nil⟩ (fun i σ H' _ h => by obtain ⟨_, _, _, _, s, _⟩ := h; exact SqL.of (s _ _ hB)) ?_ ?_
  ·rintro i x σ H' hi ⟨v0, v1, us, rfl, s7, e1, hU⟩
   obtain ⟨dx, hdx, rx⟩ := rB.at hi
   rw [List.getElem?_map, Option.map_eq_some_iff] at hdx
   obtain ⟨⟨rm, pc⟩, hr', rfl⟩ := hdx
   obtain ⟨t, rfl, ht⟩ := xn rx
   have hok := bo _ (List.mem_of_getElem? hr')
   have hil := (List.getElem?_eq_some_iff.mp hr').1
   refine un2 ((s7 _ _ ht)) ?_
   walk_at "go"
   refine ⟨a.Belt, _, _, _, (QL T).mono, ?_⟩
   intro z dz hz hdz hne
   refine ⟨z, dz, rm, pc, rfl, upd_same, ?_⟩
   rw [if_pos hok, js]
   have sN : Same H' (upd (upd H' dz (.own z)) z (.ins a.Belt dz (bf rm pc))) := fun b o h => by rw [upd_ne (ne_of_none h hz), upd_ne (ne_of_none h hdz)]; exact h
   have hz' : upd (upd H' dz (.own z)) z (.ins a.Belt dz (bf rm pc)) z = some (.ins a.Belt dz (bf rm pc)) := upd_same
   generalize upd (upd H' dz (.own z)) z (.ins a.Belt dz (bf rm pc)) = H4 at sN hz' ⊢
   have hzn := QG e1 hz
   have f5 : Fr [acc] H4 (upd H4 acc (.lst (us ++ [.ref z]))) := qc (by simp)
   refine ⟨rfl, _, sN _ _ e1, zp (by have := hU.len; rw [List.length_take] at this; omega), _, _, us ++ [.ref z], rfl, ((s7.trans sN).fr.trans f5).same (by intro m hm; rw [List.mem_singleton.mp hm]; exact hacc), upd_same, ?_⟩
   rw [List.take_add_one, hr']
   refine Bts.push (hU.keep fun b o hp hb => ⟨hp, f5 _ _ hp (sN _ _ hb)⟩) (Ja (p := Off [acc]) hzn (f5 _ _ hzn hz'))
  rintro σ H4 ⟨v0, v1, us, rfl, s4, e4, hU⟩
  rw [ln1, List.take_length] at hU
  walk_at "lc"
  walk_at "go"
  refine ⟨R, rfl, .inl ⟨⟨_, SqL.of (s4 _ _ hR)⟩, fun _ _ _ _ ac2 hac2 => ?_⟩⟩
  let M3_ : Nat → St → Hp → Prop := fun i σ H' => ∃ (v0 : Option V) (ks : List V), σ = [v0] ∧ Same H4 H' ∧ H' ac2 = some (.lst ks) ∧ Kns a H' (Off [ac2]) ks (rs2.take i)
  refine qV (K := K) (a := R) (xs := us2) M3_ ⟨_, [], rfl, zf hac2, upd_same, by rw [List.take_zero]; exact .nil⟩ (fun i σ H' _ h => by obtain ⟨_, _, _, s, _⟩ := h; exact SqL.of (s _ _ (s4 _ _ hR))) ?_ ?_
  ·rintro i x σ H' hi ⟨v0, ks, rfl, s7, e1, hV⟩
   obtain ⟨dx, hdx, rx⟩ := rR.at hi
   rw [List.getElem?_map, Option.map_eq_some_iff] at hdx
   obtain ⟨r, hr', rfl⟩ := hdx
   have hok := ro2 _ (List.mem_of_getElem? hr')
   have hil := (List.getElem?_eq_some_iff.mp hr').1
   walk_at "go"
   refine uc (c_L_make T).mono (i_spMake3 x r _ rfl (rx.same (s4.trans s7)) hok.1 hok.2 (fun v' H5 s5 hN => ?_))
   have f5 : Fr [ac2] H5 (upd H5 ac2 (.lst (ks ++ [v']))) := qc (by simp)
   refine ⟨_, s5 _ _ e1, zp (by have := hV.len; rw [List.length_take] at this; omega), _, ks ++ [v'], rfl, ((s7.trans s5).fr.trans f5).same (by intro m hm; rw [List.mem_singleton.mp hm]; exact hac2), upd_same, ?_⟩
   rw [List.take_add_one, hr']
   refine Kns.append (hV.keep fun b o hp hb => ⟨hp, f5 _ _ hp (s5 _ _ hb)⟩) (Kns.one (hN.keep fun b o hp hb => ?_))
   have nb := QG e1 hp
   exact ⟨nb, f5 _ _ nb hb⟩
  rintro σ H5 ⟨v0', ks, rfl, s5, e5, hV⟩
  rw [ln2, List.take_length] at hV
  have hU5 : Bts a H5 (Off [acc]) us bs := hU.keep fun b o hp hb => ⟨hp, s5 _ _ hb⟩
  have e4' := s5 _ _ e4
  intro y dy hy hdy hne
  refine ⟨y, dy, acc, ac2, us, ks, bs, rs2, fun b => b ≠ y, rfl, upd_same, ne_of_none e4' hy, ne_of_none e5 hy, fun _ h => h, qP hy hdy e4', qP hy hdy e5,
   hU5.keep fun b o _ hb => ⟨ne_of_none hb hy, qP hy hdy hb⟩, hV.keep fun b o _ hb => ⟨ne_of_none hb hy, qP hy hdy hb⟩, bo, ro3, by rw [wok2.2.1.length_eq, ZX]; omega, by rw [wok2.2.2.length_eq, ZX]; omega, by omega, fun _ H6 m1 m2 bv kv o4 g0 g1 g2 gB gK n1 n2 => ⟨rfl, ?_⟩, fun z => absurd wok2 z⟩
  rw [wf_eq] at g0
  have rwk : Rep H6 (Off []) (.ref y) (qG a bs rs2) := j3 (fun z => nomatch z) g0 rfl (.cons (gB.reps.all.mk' (fun z => nomatch z) g1) (.cons (gK.reps.all.mk' (fun z => nomatch z) g2) .nil))
  have s6 := (s4.trans s5).trans (Own.of_new hy hdy o4)
  walk_at "go"
  exact ⟨_, rfl, s6, rwk⟩
 rintro σ' H3 ⟨vw, rfl, s3, rw3⟩
 have s13 := s12.trans s3
 have r03 := r02.same s3
 have rv3 := rv2.same s3
 clear s12 s3 r02 rv2
 walk_at "go"
 refine uc (c_L_laid T).mono (i_spLaid l ns x0 v2 fo bs rs2 rfl (jE s13 hl) r03 rv3 b24 r24 bo ro3 (fun t4 H4 S G C as cs srcs gss css L4 nt4 ht4 go co => ?_))
 have s4 := L4.sm
 refine un2 ht4 ?_
 walk_at "go"
 refine uc (c_L_turn T).mono (i_spTurn l ns fo rfl (jE (s13.trans s4) hl) (fun tt t0 => ?_))
 walk_at "go"
 intro q0 hq0
 obtain ⟨lR, uR, rfl, olR, hlR, rR⟩ := rv3.lst'
 have luR : uR.length = rs2.length := by rw [rR.len, List.length_map]
 have sq := zf (o := .lst [.int 0]) hq0
 refine ⟨m_len, _, .inl ⟨_, SqL.of (sq _ _ (s4 _ _ hlR)), rfl⟩, ?_⟩
 rw [luR]
 have e0 : ∀ n : Nat, (List.replicate ((n : Int)).toNat [V.int 0]).flatten = iv (List.replicate n 0) := fun n => by
  rw [Int.toNat_natCast]
  induction n with
  | zero => rfl
  | succ n ih => rw [List.replicate_succ, List.flatten_cons, ih]; rfl
 refine ⟨q0, _, [.int 0], rfl, rfl, upd_same, by omega, by omega, ?_, fun q5 hq5 => ?_⟩
 ·refine we ?_
  simp
  omega
 rw [e0]
 have n5 : H4 q5 = none := zy sq hq5
 have s5 := sq.trans (zf (o := .lst (iv (List.replicate rs2.length 0))) hq5)
 have h5 : upd (upd H4 q0 (.lst [.int 0])) q5 (.lst (iv (List.replicate rs2.length 0))) q5 = some (.lst (iv (List.replicate rs2.length 0))) := upd_same
 generalize upd (upd H4 q0 (.lst [.int 0])) q5 (.lst (iv (List.replicate rs2.length 0))) = H5 at s5 h5 ⊢
 have so : wg rs2 (List.replicate rs2.length 0) := ⟨List.length_replicate, fun i r s e1 e2 => by
  rw [List.getElem?_replicate] at e2
  split at e2
  ·cases e2
   exact ⟨Int.le_refl 0, (fun z => z.elim), (fun z => absurd z (ro2 r (List.mem_of_getElem? e1)).2), fun _ _ => rfl⟩
  ·cases e2⟩
 generalize List.replicate rs2.length (0 : Int) = sds at h5 so ⊢
 have s45 := s4.trans s5
 clear sq hq0 hq5 e0 luR olR hlR rR
 have nc5 := L4.nc.tup fun b o _ hb => s5 b o hb
 have ng5 := L4.ng.tup fun b o _ hb => s5 b o hb
 have nC : ∀ b ∈ C :: cs, H3 b = none := fun b hb => L4.fr b (by rcases List.mem_cons.mp hb with rfl | hb <;> simp [*])
 have iC : ∀ b ∈ C :: cs, ∃ vs, H4 b = some (.lst vs) := fun b hb => L4.nc.isl hb
 have dG : ∀ b ∈ G :: as, b ∉ C :: cs := fun b hb z => by
  have nd := L4.nd
  simp only [List.nodup_cons, List.mem_cons, List.mem_append, not_or] at nd
  refine oA4 nd fun _ z1_ z2_ n6 => ?_
  clear nd
  obtain ⟨n1, n2, n3⟩ := z1_
  obtain ⟨n4, n5⟩ := z2_
  rcases List.mem_cons.mp hb with rfl | hb
  ·rcases List.mem_cons.mp z with h | h
   ·exact n1 h
   ·exact n3 h
  ·rcases List.mem_cons.mp z with rfl | h
   ·exact n4 hb
   ·exact (List.nodup_append.mp n6).2.2 b hb b h rfl
 have iG : ∀ b ∈ G :: as, ∃ vs, H4 b = some (.lst vs) := fun b hb => L4.ng.isl hb
 have nG : ∀ b ∈ G :: as, H3 b = none := fun b hb => L4.fr b (by rcases List.mem_cons.mp hb with rfl | hb <;> simp [*])
 clear L4 ht4 nt4 hl s13
 walk_at "go"
 refine iE4 a.State _ _ _ ⟨(Z8 T).mono, ?_⟩
 refine Zv T (st := ⟨tt, css, sds, gss⟩) (p := Off []) nc5.rep (zY (fun z => nomatch z) h5) ng5.rep (by show css.length ≤ 100; rw [co.1]; omega) (by show gss.length ≤ 100; rw [go.1]; omega) (fun yS H6 s6 sn => ?_)
 refine oE2 sn fun y0 nS z1_ => oA5 z1_ fun eS so6 ny _ nall => ?_
 clear sn
 cases eS
 have wf0 : stWf bs rs2 ⟨tt, css, sds, gss⟩ := ⟨co, so, go⟩
 have B0 : B18 a H6 bs rs2 x0 (.ref lR) vw (.ref yS) C q5 G cs as ⟨tt, css, sds, gss⟩ := by
  have s46 := s45.trans s6
  have nq : H3 q5 = none := zy s4 n5
  have nS : ∀ b ∈ q5 :: C :: G :: (cs ++ as), H3 b = none := fun b hb => by
   simp only [List.mem_cons, List.mem_append] at hb
   rcases hb with rfl | rfl | rfl | hb | hb
   ·exact nq
   ·exact nC _ (by simp)
   ·exact nG _ (by simp)
   ·exact nC _ (by simp [hb])
   ·exact nG _ (by simp [hb])
  have ow6 : OW H6 C q5 G cs as ⟨tt, css, sds, gss⟩ := by
   refine ⟨nc5.tup fun b o _ hb => s6 b o hb, s6 _ _ h5, ng5.tup fun b o _ hb => s6 b o hb, ?_⟩
   have o4 : ∀ b, (∃ vs, H4 b = some (HO.lst vs)) → q5 ≠ b := fun b ⟨vs, hv⟩ z => by rw [← z, n5] at hv; cases hv
   simp only [List.nodup_cons, List.mem_cons, List.mem_append, not_or]
   refine iA4 (iA4 (o4 _ (iC _ (by simp))) (o4 _ (iG _ (by simp))) (fun z => o4 _ (iC _ (by simp [z])) rfl) (fun z => o4 _ (iG _ (by simp [z])) rfl)) ⟨fun z => dG G (by simp) (by rw [z]; simp), nc5.nG, fun z => dG C (by simp [z]) (by simp)⟩ ⟨fun z => dG G (by simp) (by simp [z]), ng5.nG⟩ (List.nodup_append.mpr ⟨nc5.nd, ng5.nd, fun x hx y hy z => dG y (by simp [hy]) (by rw [← z]; simp [hx])⟩)
  refine ⟨(r03.more fun b hb => .inr (nS b hb)).same s46, (rv3.more fun b hb => .inr (nS b hb)).same s46, (rw3.more fun b hb => .inr (nS b hb)).same s46, so6.repQ fun b hb z => ?_, ow6⟩
  obtain ⟨vs, hv⟩ := ow6.isl z
  rcases hb with hb | ⟨xs, hx⟩
  ·have hb5 : H5 b = none := by
    rcases List.mem_cons.mp hb with rfl | hb
    ·exact ny
    ·exact nall b hb
   have z5 : ∃ vs, H5 b = some (HO.lst vs) := by
    simp only [List.mem_cons, List.mem_append] at z
    rcases z with rfl | rfl | rfl | z | z
    ·exact ⟨_, h5⟩
    ·exact nc5.isl (by simp)
    ·exact ng5.isl (by simp)
    ·exact nc5.isl (by simp [z])
    ·exact ng5.isl (by simp [z])
   obtain ⟨ws, hw⟩ := z5
   rw [hb5] at hw; cases hw
  ·rw [hv] at hx; cases hx
 clear so6 ny nall s6 nC iC dG iG nc5 ng5 s4 s5 s45 h5 n5 rw3 rv3 r03 co go so nG
 generalize V.ref lR = v2 at B0 ⊢
 walk_at "go"
 let M4_ : St → Hp → Prop := fun σ' H' => True
 refine cut M4_ ?_ (fun σ' H' _ => ?_)
 ·walk_at "for"
  walk_at "go"
  let M5_ : Nat → St → Hp → Prop := fun i σ H' => ∃ (vS : V) (st : PSt) (cs : List Addr) (v10 v11 v12 v13 v14 : Option V), σ = st18 l fo x0 v2 vw C G st.turn q5 (some vS) v10 v11 v12 v13 v14 ∧ B18 a H' bs rs2 x0 v2 vw vS C q5 G cs as st ∧ stWf bs rs2 st
  refine wW (n := (3 : Int).toNat) M5_ ⟨_, ⟨tt, css, sds, gss⟩, cs, _, _, _, _, _, rfl, B0, wf0⟩ ?_ (fun σ H' h => trivial)
  clear B0 wf0
  rintro i σ H5 hi ⟨vS, st, cs, v10, v11, v12, v13, v14, rfl, B5, wf⟩
  have b24' := wf.co.1
  have g24 := wf.go.1
  obtain ⟨ucs, hC5, rcs⟩ : ∃ ucs, H5 C = some (.lst ucs) ∧ Reps H5 (Off []) ucs ((zt st.cells).map D.lst) := by
   refine oE2 B5.ow.nc.rep.lst' fun _ ucs z1_ => oA4 z1_ fun e _ h1 h2 => ?_
   cases e
   exact ⟨ucs, h1, h2⟩
  obtain ⟨ugs, hG5, rgs⟩ : ∃ ugs, H5 G = some (.lst ugs) ∧ Reps H5 (Off []) ugs ((zP st.gone).map D.lst) := by
   refine oE2 B5.ow.ng.rep.lst' fun _ ugs z1_ => oA4 z1_ fun e _ h1 h2 => ?_
   cases e
   exact ⟨ugs, h1, h2⟩
  have lcs : ucs.length = st.cells.length := by rw [rcs.len, List.length_map, zt, List.length_map]
  have lgs : ugs.length = st.gone.length := by rw [rgs.len, List.length_map, zP, List.length_map]
  walk_at "go"
  walk_at "lc"
  walk_at "go"
  refine ⟨C, rfl, .inl ⟨⟨_, SqL.of hC5⟩, fun _ _ _ _ A0 hA0 => ?_⟩⟩
  let M6_ : Nat → St → Hp → Prop := fun i σ H' => ∃ (v0 : Option V) (as : List Addr), σ = [v0] ∧ Same H5 H' ∧ NL H' (TupP H5) A0 as (zt (st.cells.take i)) ∧ ∀ b ∈ as, H5 b = none
  refine qV (K := K) (a := C) (xs := ucs) M6_ (iE2 _ ([]) (iA4 rfl (zf hA0) (by rw [List.take_zero]; exact xK upd_same) (by simp))) (fun i σ H' _ h => by obtain ⟨_, _, _, s, _⟩ := h; exact SqL.of (s _ _ hC5)) ?_ ?_
  ·intro i x σ H6 hi zz_
   refine oE2 zz_ fun v0 as' z1_ => oA4 z1_ fun z2_ s6 nl fr => ?_
   clear zz_
   subst z2_
   obtain ⟨d, hd, rx⟩ := rcs.at hi
   rw [zt, List.getElem?_map, List.getElem?_map] at hd
   obtain ⟨c, hc⟩ : ∃ c, st.cells[i]? = some c := by
    cases e : st.cells[i]? with
    | none => rw [e] at hd; cases hd
    | some c => exact ⟨c, rfl⟩
   rw [hc] at hd
   cases hd
   refine oE2 (Rep.lst' rx) fun li vi z1_ => oA4 z1_ fun z2_ _ hli ri => ?_
   subst z2_
   have hil := (List.getElem?_eq_some_iff.mp hc).1
   walk_at "go"
   refine iE2 li _ (iA3 rfl (.inl (SqL.of (s6 _ _ hli))) (fun b hb => ?_))
   obtain ⟨c1, c2⟩ := nl.copy hb (fun ⟨xs, hx⟩ => by rw [hA0] at hx; cases hx) ((xj ri (wS c)).keep fun z o pz hz => ⟨pz, s6 _ _ hz⟩)
   refine ⟨_, iA3 c1 (zp (by rw [List.length_map, nl.len, zt, List.length_map, List.length_take]; omega)) (iE2 _ (as' ++ [b]) (iA4 rfl (fun z o hz => by rw [upd_ne (ne_of_none hz hA0)]; exact upd_keep (s6 _ _ hz) hb) ?_ ?_))⟩
   ·rw [List.take_add_one, hc]
    rw [show zt (st.cells.take i ++ (some c).toList) = zt (st.cells.take i) ++ [c.map zC] by simp [zt]]
    exact c2
   ·intro z hz
    rcases List.mem_append.mp hz with hz | hz
    ·exact fr z hz
    ·rw [List.mem_singleton.mp hz]; exact zy s6 hb
  rintro σ H7 ⟨v0, a0s, rfl, s7, nl1, fr0⟩
  rw [lcs, List.take_length] at nl1
  walk_at "lc"
  walk_at "go"
  refine ⟨G, rfl, .inl ⟨⟨_, SqL.of (s7 _ _ hG5)⟩, fun _ _ _ _ A2 hA2 => ?_⟩⟩
  have nA2 : H5 A2 = none := zy s7 hA2
  let M7_ : Nat → St → Hp → Prop := fun i σ H' => ∃ (v0 : Option V) (as : List Addr), σ = [v0] ∧ Same H7 H' ∧ NL H' (TupP H5) A2 as (zP (st.gone.take i))
  refine qV (K := K) (a := G) (xs := ugs) M7_ (iE2 _ ([]) (iA3 rfl (zf hA2) (by rw [List.take_zero]; exact xK upd_same))) (fun i σ H' _ h => by obtain ⟨_, _, _, s, _⟩ := h; exact SqL.of (s _ _ (s7 _ _ hG5))) ?_ ?_
  ·intro i x σ H8 hi zz_
   refine oE2 zz_ fun v0 as' z1_ => oA3 z1_ fun z2_ s8 nl => ?_
   clear zz_
   subst z2_
   obtain ⟨d, hd, rx⟩ := rgs.at hi
   rw [zP, List.getElem?_map, List.getElem?_map] at hd
   obtain ⟨c, hc⟩ : ∃ c, st.gone[i]? = some c := by
    cases e : st.gone[i]? with
    | none => rw [e] at hd; cases hd
    | some c => exact ⟨c, rfl⟩
   rw [hc] at hd
   cases hd
   refine oE2 (Rep.lst' rx) fun li vi z1_ => oA4 z1_ fun z2_ _ hli ri => ?_
   subst z2_
   have hil := (List.getElem?_eq_some_iff.mp hc).1
   walk_at "go"
   refine iE2 li _ (iA3 rfl (.inl (SqL.of (s8 _ _ (s7 _ _ hli)))) (fun b hb => ?_))
   obtain ⟨c1, c2⟩ := nl.copy hb (fun ⟨xs, hx⟩ => by rw [nA2] at hx; cases hx) ((xj ri (vx c)).keep fun z o pz hz => ⟨pz, s8 _ _ (s7 _ _ hz)⟩)
   refine ⟨_, iA3 c1 (zp (by rw [List.length_map, nl.len, zP, List.length_map, List.length_take]; omega)) (iE2 _ (as' ++ [b]) (iA3 rfl (fun z o hz => by rw [upd_ne (ne_of_none hz hA2)]; exact upd_keep (s8 _ _ hz) hb) ?_))⟩
   rw [List.take_add_one, hc]
   rw [show zP (st.gone.take i ++ (some c).toList) = zP (st.gone.take i) ++ [c.map D.int] by simp [zP]]
   exact c2
  intro σ H8 zz_
  refine oE2 zz_ fun v0' a2s z1_ => oA3 z1_ fun z2_ s8 nl2 => ?_
  clear zz_
  subst z2_
  rw [lgs, List.take_length] at nl2
  have nl08 := nl1.same s8
  have s58 := s7.trans s8
  walk_at "go"
  intro HD hHD
  have s9 := zf (o := .lst [V.ref A0, V.ref A2]) hHD
  have nl09 := nl08.same s9
  have nl29 := nl2.same s9
  have s59 := s58.trans s9
  have hHD9 : upd H8 HD (.lst [V.ref A0, V.ref A2]) HD = some (.lst [V.ref A0, V.ref A2]) := upd_same
  generalize upd H8 HD (.lst [V.ref A0, V.ref A2]) = H9 at nl09 nl29 s59 hHD9 ⊢
  clear nl1 nl08 nl2 s58 s9 s7 s8 hHD hA0 hA2 nA2 fr0 rcs rgs hC5 hG5 lcs lgs
  have B9 := B5.same s59
  clear B5
  walk_at "go"
  refine uc (c_one_turn T).mono (i_spOneTurn vw vS st bs rs2 _ rfl (B9.rw.more (fun b hb => nomatch hb)) B9.rS wf wok2 bo ro3 (fun vA H10 s10 sn => ?_))
  have rA10 := sn.repN s10 (ms := q5 :: C :: G :: (cs ++ as)) fun b hb => B9.ow.isl hb
  have B10 := B9.same s10
  clear sn
  walk_at "go"
  refine uc (c_moves_of T).mono (i_spMovesOf vw vS st bs rs2 _ rfl (B10.rw.more (fun b hb => nomatch hb)) B10.rS wf wok2 bo ro3 (fun M us H11 s11 nM hM rM => ?_))
  have oM : M ∉ q5 :: C :: G :: (cs ++ as) := fun z => by
   obtain ⟨vs, hv⟩ := B10.ow.isl z
   rw [nM] at hv; cases hv
  have B11 := B10.same s11
  have s911 := s10.trans s11
  have rA11 := rA10.same s11
  have hHD11 := s911 _ _ hHD9
  clear B9 B10 nM rA10
  walk_at "go"
  refine uc (xA T).mono (zl (SqL.of hHD11) at0 (zl (SqL.of hHD11) (show atI _ 1 = some (.ref A2) from rfl) ?_))
  refine ⟨vS, _, _, _, st, _, Off [], rfl, B11.rS, (nl09.same s911).rep, zY (fun z => nomatch z) B11.ow.hs, (nl29.same s911).rep, fun H12 s12 => ?_⟩
  have B12 := B11.same s12
  have rA12 := rA11.same s12
  have rM12 := qw rM s12
  have hM12 := s12 _ _ hM
  clear B11 rA11 rM hM nl09 nl29 hHD11 hHD9 s911 s10 s11 s12 s59
  walk_at "go"
  refine uc (c_L_moves_are T).mono ?_
  refine uc (c_L_acted T).mono (i_spActed v2 C q5 G cs as bs rs2 st rfl B12.rr B12.ow wf wok2 bo ro2 (fun M2 us2 H13 f13 ow13 hM2 rM2 => ?_))
  have hM13 := f13 _ _ oM hM12
  have rM13 : Reps H13 (TupP H12) us _ := rM12.keep fun b o ⟨xs, hx⟩ hb => ⟨⟨xs, hx⟩, f13 _ _ (B12.ow.offT ⟨xs, hx⟩) hb⟩
  refine ⟨_, _, (zn rs2 st rs2.length).2, Off [], Off [], rfl, rM13.all.mk' (fun z => nomatch z) hM13, rM2.all.mk' (fun z => nomatch z) hM2, QU wf wok2 bo ro2 _, fun H14 s14 => ?_⟩
  have rb14 := (B12.rb.fr f13).same s14
  have rr14 := (B12.rr.fr f13).same s14
  have rw14 := (B12.rw.fr f13).same s14
  have rA14 := (rA12.fr f13).same s14
  have ow14 := ow13.same s14
  clear B12 rA12 rM12 hM12 oM rM13 hM13 rM2 hM2 ow13 f13 s14
  have kt := jT rs2 st rs2.length
  have wfA := qL wf wok2 bo ro3 rs2.length
  have et : (passF bs rs2 st).1.turn = st.turn + 1 := by show (zn rs2 st rs2.length).1.turn + 1 = _; rw [kt]
  walk_at "go"
  let M8_ : St → Hp → Prop := fun σ' H' => ∃ (v10 v14 : Option V) (cs2 : List Addr), σ' = st18 l fo x0 v2 vw C G st.turn q5 (some vS) v10 (some (.ref HD)) (some vA) (some (.ref M)) v14 ∧ Fr [C] H14 H' ∧ NL H' (TupP H') C cs2 (zt (zZ bs st.turn (zn rs2 st rs2.length).1.cells bs.length)) ∧ ∀ b ∈ cs2, b ∈ cs ∨ H14 b = none
  refine cut M8_ ?_ ?_
  ·obtain ⟨lB, uB, rfl, olB, hlB, rB⟩ := (rb14.more (ns := [C]) fun b hb => .inl (by rw [List.mem_singleton.mp hb]; simp)).lst'
   have luB : uB.length = bs.length := by rw [rB.len, List.length_map]
   walk_at "for"
   walk_at "go"
   refine ⟨_, .inl ⟨_, SqL.of hlB, rfl⟩, ?_⟩
   rw [luB]
   walk_at "go"
   refine ⟨by omega, by omega, ?_⟩
   let M9_ : Nat → St → Hp → Prop := fun j σ H' => ∃ (v10 v14 : Option V) (cs' : List Addr), σ = st18 l fo (.ref lB) v2 vw C G st.turn q5 (some vS) v10 (some (.ref HD)) (some vA) (some (.ref M)) v14 ∧ Fr [C] H14 H' ∧ NL H' (TupP H') C cs' (zt (zZ bs st.turn (zn rs2 st rs2.length).1.cells j)) ∧ ∀ b ∈ cs', b ∈ cs ∨ H14 b = none
   refine wW (n := (bs.length : Int).toNat) M9_ ⟨_, _, cs, rfl, Fr.refl, ow14.nc, fun b hb => .inl hb⟩ ?_ ?_
   ·rintro i σ H2 hi ⟨v10, v3, cs', rfl, f2, nc2, fr2⟩
    have hi : i < bs.length := by simpa using hi
    have hb' : bs[i]? = some bs[i] := List.getElem?_eq_getElem hi
    generalize bs[i] = b at hb'
    obtain ⟨vi, hvi, rvi⟩ := rB.of (i := i) (d := xy b) (by rw [List.getElem?_map, hb']; rfl)
    obtain ⟨tb, rfl, otb, htb⟩ : ∃ tb, vi = .ref tb ∧ tb ∉ [C] ∧ H14 tb = some (.tup [.int b.1, .int b.2]) := by
     obtain ⟨tb, us, rfl, o, ht, rr⟩ := Rep.tup' rvi
     obtain ⟨tb', e, ht'⟩ := xn (b := b) rvi
     cases e
     exact ⟨tb, rfl, o, ht'⟩
    have eb : bs.getD i (0, 1) = b := by rw [List.getD_eq_getElem?_getD, hb']; rfl
    have bk := bo b (List.mem_of_getElem? hb')
    have b1 := bk.1
    have b2 := bk.2.1
    have b3 := bk.2.2.1
    have co2 := jB (t := st.turn) wfA.co i
    have hc := qp (xs := zZ bs st.turn (zn rs2 st rs2.length).1.cells i) (d := []) (show i < _ by rw [co2.1]; exact hi)
    obtain ⟨bC, vs, hbC, hvC, rvC⟩ := NLC.cell nc2 hc
    have lc := (co2.2 i b _ hb' hc).1
    walk_at "go"
    simp only [Int.zero_add]
    refine zl (SqL.of (f2 _ _ olB hlB)) (zr hvi) (rd_ixT (f2 _ _ otb htb) (show atI _ 1 = some (.int b.2) from rfl) ?_)
    walk_at "go"
    have lcs : cs'.length = bs.length := by rw [nc2.len, zt, List.length_map]; exact co2.1
    refine ite2 (fun z => ?_) (fun z => ?_)
    ·refine uc (c_L_on T).mono (zl (SqL.of nc2.out) (zr (j := i) (by rw [List.getElem?_map, hbC]; rfl)) ?_)
     refine ⟨bC, vs, _, rfl, hvC, rvC, by omega, fun q us' hq rq => ?_⟩
     have s3 := zf (o := .lst us') hq
     have nc3 := nc2.tup (H' := upd H2 q (.lst us')) fun b o _ hb => s3 b o hb
     have hC3 := nc3.out
     have nq : q ∉ cs' := fun z => by
      obtain ⟨ws, hw⟩ := nc2.isl (List.mem_cons_of_mem _ z)
      rw [hq] at hw; cases hw
     have nC : q ≠ C := fun z => by rw [z, nc2.out] at hq; cases hq
     have nc4 := (nl_repl (i := i) nc3 upd_same nq nC (fun ⟨xs, hx⟩ => by rw [hC3] at hx; cases hx) (rq.keep fun b o ⟨xs, hx⟩ hb => ⟨⟨xs, s3 _ _ hx⟩, s3 _ _ hb⟩)).keep (q := TupP (upd (upd H2 q (.lst us')) C (.lst ((cs'.map V.ref).set i (.ref q))))) (fun _ _ _ h => h) (fun b hb _ => ju hC3 hb)
     refine qh hC3 (qT (by omega) (by rw [List.length_map]; omega)) ?_
     rw [Int.toNat_natCast]
     refine ⟨_, _, cs'.set i q, rfl, (f2.trans (wV hq)).trans (qc (by simp)), ?_, fun b hb => ?_⟩
     ·rw [zZ, eb, if_pos z, zt, List.map_set]
      exact nc4
     ·rcases List.mem_or_eq_of_mem_set hb with hb | rfl
      ·exact fr2 b hb
      ·right
       cases e : H14 b with
       | none => rfl
       | some o => rw [f2 _ _ (fun z => nC (List.mem_singleton.mp z)) e] at hq; cases hq
    ·refine ⟨_, _, cs', rfl, f2, ?_, fr2⟩
     rw [zZ, eb, if_neg z]
     exact nc2
   ·rintro σ H2 ⟨v10, v3, cs', rfl, f2, nc2, fr2⟩
    rw [show ((bs.length : Int)).toNat = bs.length by simp] at nc2
    exact ⟨_, _, cs', rfl, f2, nc2, fr2⟩
  rintro σ' H15 ⟨v10', v14', cs2, rfl, f15, nc15, hc15⟩
  have nc15 : NL H15 (TupP H15) C cs2 (zt (passF bs rs2 st).1.cells) := by
   show NL H15 (TupP H15) C cs2 (zt (zZ bs (zn rs2 st rs2.length).1.turn (zn rs2 st rs2.length).1.cells bs.length))
   rw [kt]
   exact nc15
  have ow15 : OW H15 C q5 G cs2 as (passF bs rs2 st).1 := by
   have := ow14.belts f15 nc15 hc15
   exact ⟨this.nc, this.hs, this.ng, this.nd⟩
  have mo : ∀ b, b ∈ q5 :: C :: G :: (cs2 ++ as) → b ∈ q5 :: C :: G :: (cs ++ as) ∨ H14 b = none := fun b hb => by
   simp only [List.mem_cons, List.mem_append] at hb ⊢
   rcases hb with h | h | h | h | h
   ·exact .inl (.inl h)
   ·exact .inl (.inr (.inl h))
   ·exact .inl (.inr (.inr (.inl h)))
   ·rcases hc15 b h with h | h
    ·exact .inl (.inr (.inr (.inr (.inl h))))
    ·exact .inr h
   ·exact .inl (.inr (.inr (.inr (.inr h))))
  have f15' : Fr (q5 :: C :: G :: (cs2 ++ as)) H14 H15 := f15.more fun b hb => by rw [List.mem_singleton.mp hb]; simp
  have rb15 := (rb14.more mo).fr f15'
  have rr15 := (rr14.more mo).fr f15'
  have rw15 := (rw14.more mo).fr f15'
  have rA15 := (rA14.more mo).fr f15'
  clear rb14 rr14 rw14 rA14 ow14 mo nc15 hc15 f15 f15'
  walk_at "go"
  rw [← et]
  walk_at "go"
  refine uc (xA T).mono (i_spStateIs vA _ _ _ ((passF bs rs2 st).1) _ (Off []) rfl rA15 ow15.nc.rep (zY (fun z => nomatch z) ow15.hs) ow15.ng.rep (fun H16 s16 => ?_))
  walk_at "go"
  exact ⟨vA, (passF bs rs2 st).1, cs2, _, _, _, _, _, rfl, ⟨rb15.same s16, rr15.same s16, rw15.same s16, rA15.same s16, ow15.same s16⟩, passF_wf wf wok2 bo ro3⟩
 ·walk_at "go"
  exact k _
theorem top_ok (T : Txt K mg a) (F : Fun K "law" "law" s_law f fd) : FnOk P w K mg base (CXr P w) 8 f fd ["_law_script"] (Zl K) := ok_law T F
end
theorem ex_s {α : Type} {n : Nat} {P : List α → Prop} (us : List α) (hl : us.length = n + 1) (h : ∀ a vs, vs.length = n → P (a :: vs)) : P us := by
 cases us with
 | nil => cases hl
 | cons a vs => exact h a vs (Nat.succ.inj hl)
theorem ey0 {α : Type} {P : List α → Prop} (us : List α) (hl : us.length = 0) (h : P []) : P us := by
 cases us with
 | nil => exact h
 | cons => cases hl
theorem ey1 {α : Type} {P : List α → Prop} (us : List α) (hl : us.length = 1) (h : ∀ a0, P [a0]) : P us := ex_s us hl fun a0 _ l => ey0 (P := fun z => P (a0 :: z)) _ l (h a0)
theorem ex1 {fn : FuncData} {ps : List Str} (us : List Value) (hl : us.length = 1) (h : ∀ a0, bindArgs fn ⟨[a0], []⟩ = pure (ps.zip [a0])) : bindArgs fn ⟨us, []⟩ = pure (ps.zip us) := ey1 (P := fun z => bindArgs fn ⟨z, []⟩ = pure (ps.zip z)) us hl h
theorem ey2 {α : Type} {P : List α → Prop} (us : List α) (hl : us.length = 2) (h : ∀ a0 a1, P [a0, a1]) : P us := ex_s us hl fun a0 _ l => ey1 (P := fun z => P (a0 :: z)) _ l fun a1 => h a0 a1
theorem ex2 {fn : FuncData} {ps : List Str} (us : List Value) (hl : us.length = 2) (h : ∀ a0 a1, bindArgs fn ⟨[a0, a1], []⟩ = pure (ps.zip [a0, a1])) : bindArgs fn ⟨us, []⟩ = pure (ps.zip us) := ey2 (P := fun z => bindArgs fn ⟨z, []⟩ = pure (ps.zip z)) us hl h
theorem ey3 {α : Type} {P : List α → Prop} (us : List α) (hl : us.length = 3) (h : ∀ a0 a1 a2, P [a0, a1, a2]) : P us := ex_s us hl fun a0 _ l => ey2 (P := fun z => P (a0 :: z)) _ l fun a1 a2 => h a0 a1 a2
theorem ex3 {fn : FuncData} {ps : List Str} (us : List Value) (hl : us.length = 3) (h : ∀ a0 a1 a2, bindArgs fn ⟨[a0, a1, a2], []⟩ = pure (ps.zip [a0, a1, a2])) : bindArgs fn ⟨us, []⟩ = pure (ps.zip us) := ey3 (P := fun z => bindArgs fn ⟨z, []⟩ = pure (ps.zip z)) us hl h
theorem ey4 {α : Type} {P : List α → Prop} (us : List α) (hl : us.length = 4) (h : ∀ a0 a1 a2 a3, P [a0, a1, a2, a3]) : P us := ex_s us hl fun a0 _ l => ey3 (P := fun z => P (a0 :: z)) _ l fun a1 a2 a3 => h a0 a1 a2 a3
theorem ex4 {fn : FuncData} {ps : List Str} (us : List Value) (hl : us.length = 4) (h : ∀ a0 a1 a2 a3, bindArgs fn ⟨[a0, a1, a2, a3], []⟩ = pure (ps.zip [a0, a1, a2, a3])) : bindArgs fn ⟨us, []⟩ = pure (ps.zip us) := ey4 (P := fun z => bindArgs fn ⟨z, []⟩ = pure (ps.zip z)) us hl h
theorem ey5 {α : Type} {P : List α → Prop} (us : List α) (hl : us.length = 5) (h : ∀ a0 a1 a2 a3 a4, P [a0, a1, a2, a3, a4]) : P us := ex_s us hl fun a0 _ l => ey4 (P := fun z => P (a0 :: z)) _ l fun a1 a2 a3 a4 => h a0 a1 a2 a3 a4
theorem ex5 {fn : FuncData} {ps : List Str} (us : List Value) (hl : us.length = 5) (h : ∀ a0 a1 a2 a3 a4, bindArgs fn ⟨[a0, a1, a2, a3, a4], []⟩ = pure (ps.zip [a0, a1, a2, a3, a4])) : bindArgs fn ⟨us, []⟩ = pure (ps.zip us) := ey5 (P := fun z => bindArgs fn ⟨z, []⟩ = pure (ps.zip z)) us hl h
abbrev FHy (K : PySem.W.Frag) (x : Str) (st : Stmt) : Prop := ∃ (f : Addr) (oc : Value) (od an : Option Addr) (osl : Array (Option Value)) (kV doc pm cdv ct : Value), PySem.W.nsIn K mainGlobals x = some (some (.ref f)) ∧ K.lookup f = some ⟨oc, od, .func (PySem.W.fnOf x x (zR st) (zO st) (ze st) .none kV doc pm an cdv ct), osl⟩ ∧ PySem.W.codeIn K cdv x = true ∧ PySem.W.keepIn K (.ref f) = true
theorem fhy {K : PySem.W.Frag} {x : Str} {st : Stmt} {f : Addr} {oc : Value} {od an : Option Addr} {osl : Array (Option Value)} {kV doc pm cdv ct : Value} (a : PySem.W.nsIn K mainGlobals x = some (some (.ref f))) (l : K.lookup f = some ⟨oc, od, .func (PySem.W.fnOf x x (zR st) (zO st) (ze st) .none kV doc pm an cdv ct), osl⟩) (c : PySem.W.codeIn K cdv x = true) (k : PySem.W.keepIn K (.ref f) = true) : FHy K x st := ⟨_, _, _, _, _, _, _, _, _, _, a, l, c, k⟩
theorem fa_y {K : PySem.W.Frag} {mg : Str → Option Value} {h : Heap} {x : Str} {st : Stmt} {ps : List Str} (X : K.In h) (G : h.Ns mainGlobals mg) (y : FHy K x st) (hb : ∀ (kV doc pm : Value) (an : Option Addr) (cdv ct : Value) (us : List Value), us.length = ps.length → bindArgs (PySem.W.fnOf x x (zR st) (zO st) (ze st) .none kV doc pm an cdv ct) ⟨us, []⟩ = pure (ps.zip us)) : FA K mg x st ps := by
 obtain ⟨_, _, _, _, _, _, _, _, _, _, a, l, c, k⟩ := y
 exact fa_mk X G a l c k hb
abbrev CHy (K : PySem.W.Frag) (C : Addr) : Prop := PySem.W.plainGet K C Str.empty = true ∧ PySem.W.hasDictIn K C = true ∧ PySem.W.plainOver K C = true ∧ PySem.W.findIn K (.ref C) "__setattr__" = some (some (.builtin "object.__setattr__")) ∧ PySem.W.makesIn K C = true ∧ PySem.W.keepIn K (.ref C) = true ∧ PySem.W.findIn K (.ref C) "__class__" = some (some (.builtin "object.__class__")) ∧ PySem.W.mroIn K C (.type "object") = some true
theorem CHy.c {K : PySem.W.Frag} {C : Addr} (h : CHy K C) : Cls K C := ⟨h.1, h.2.1, h.2.2.1, h.2.2.2.1⟩
theorem CHy.w {K : PySem.W.Frag} {C : Addr} (h : CHy K C) (g : PySem.W.specialIn K (.builtin "object.__class__") "__get__" = some (some (.builtin "getset_descriptor.__get__"))) (t : PySem.W.takesIn K (.builtin "object.__class__") = some true) : WI K C := ⟨h.2.2.2.2.2.2.1, h.2.2.2.2.2.2.2, g, t⟩
abbrev MHy (K : PySem.W.Frag) (C : Addr) (m q : Str) (st : Stmt) : Prop := ∃ (f : Addr) (oc : Value) (od an : Option Addr) (osl : Array (Option Value)) (kV doc pm cdv ct : Value), PySem.W.findIn K (.ref C) m = some (some (.ref f)) ∧ PySem.W.isFn K (.ref f) = true ∧ K.lookup f = some ⟨oc, od, .func (PySem.W.fnOf m q (zR st) (zO st) (ze st) .none kV doc pm an cdv ct), osl⟩ ∧ PySem.W.codeIn K cdv q = true ∧ PySem.W.keepIn K (.ref f) = true
theorem mhy {K : PySem.W.Frag} {C : Addr} {m q : Str} {st : Stmt} {f : Addr} {oc : Value} {od an : Option Addr} {osl : Array (Option Value)} {kV doc pm cdv ct : Value} (a : PySem.W.findIn K (.ref C) m = some (some (.ref f))) (i : PySem.W.isFn K (.ref f) = true) (l : K.lookup f = some ⟨oc, od, .func (PySem.W.fnOf m q (zR st) (zO st) (ze st) .none kV doc pm an cdv ct), osl⟩) (c : PySem.W.codeIn K cdv q = true) (k : PySem.W.keepIn K (.ref f) = true) : MHy K C m q st := ⟨_, _, _, _, _, _, _, _, _, _, a, i, l, c, k⟩
theorem fm_y {K : PySem.W.Frag} {C : Addr} {m q : Str} {st : Stmt} {ps : List Str} (y : MHy K C m q st) (hb : ∀ (kV doc pm : Value) (an : Option Addr) (cdv ct : Value) (us : List Value), us.length = ps.length → bindArgs (PySem.W.fnOf m q (zR st) (zO st) (ze st) .none kV doc pm an cdv ct) ⟨us, []⟩ = pure (ps.zip us)) : FM K C m q st ps := by
 obtain ⟨_, _, _, _, _, _, _, _, _, _, a, i, l, c, k⟩ := y
 exact fm_mk a i l c k hb
theorem fk_y {K : PySem.W.Frag} {C : Addr} {q : Str} {st : Stmt} {ps : List Str} (z : CHy K C) (y : MHy K C "__init__" q st) (hb : ∀ (kV doc pm : Value) (an : Option Addr) (cdv ct : Value) (us : List Value), us.length = ps.length → bindArgs (PySem.W.fnOf "__init__" q (zR st) (zO st) (ze st) .none kV doc pm an cdv ct) ⟨us, []⟩ = pure (ps.zip us)) : FK K C q st ps := by
 obtain ⟨_, _, _, _, _, _, _, _, _, _, a, i, l, c, k⟩ := y
 exact Q9 z.2.2.2.2.1 z.2.2.2.2.2.1 a i l c k hb
theorem all_mk {l : PySem.W.OpenLaw} {w : World} {K : PySem.W.Frag} {h : Heap} {mg : Str → Option Value} {fa fL x_WorkError x_BadBelt x_BadKnot x_BadWork x_Belt x_Knot x_Source x_Drain x_Joiner x_State x_Work fKnot_init : Addr} (X : K.In h) (G : h.Ns mainGlobals mg) (hfa : mg "law" = some (.ref fa))
  {odL anL odKnot_init anKnot_init : Option Addr} {slL slKnot_init : Array (Option Value)} {ocL kVL dcL pmL cdL ctL ocKnot_init kVKnot_init dcKnot_init pmKnot_init cdKnot_init ctKnot_init : Value}
  {t_MOST_ROOM t_MOST_PACE t_MOST_KINDS t_FEWEST_WAYS t_MOST_WAYS t_MOST_BELTS t_MOST_KNOTS : Tok}
  (h0 : FHy K "_wall" s__wall)
  (h1 : FHy K "check_pace" s_check_pace)
  (h2 : FHy K "check_kind" s_check_kind)
  (h3 : FHy K "check_ways" s_check_ways)
  (h4 : FHy K "first_place" s_first_place)
  (h5 : FHy K "kind_of" s_kind_of)
  (h6 : FHy K "copied_state" s_copied_state)
  (h7 : FHy K "heads_of" s_heads_of)
  (h8 : FHy K "taken_ware" s_taken_ware)
  (h9 : FHy K "belt_at" s_belt_at)
  (h10 : FHy K "counted_place" s_counted_place)
  (h11 : FHy K "act" s_act)
  (h12 : FHy K "act_all" s_act_all)
  (h13 : FHy K "move_belt" s_move_belt)
  (h14 : FHy K "pass_turn" s_pass_turn)
  (h15 : FHy K "one_turn" s_one_turn)
  (h16 : FHy K "moves_of" s_moves_of)
  (h17 : FHy K "check_size" s_check_size)
  (h18 : FHy K "check_each_once" s_check_each_once)
  (h19 : FHy K "_law_cell" s_L_cell)
  (h20 : FHy K "_law_mix" s_L_mix)
  (h21 : FHy K "_law_kind" s_L_kind)
  (h22 : FHy K "_law_fold" s_L_fold)
  (h23 : FHy K "_law_whole" s_L_whole)
  (h24 : FHy K "_law_numbers_are" s_L_numbers_are)
  (h25 : FHy K "_law_belt" s_L_belt)
  (h26 : FHy K "_law_dealt" s_L_dealt)
  (h27 : FHy K "_law_counts" s_L_counts)
  (h28 : FHy K "_law_laid" s_L_laid)
  (h29 : FHy K "_law_turn" s_L_turn)
  (h30 : FHy K "_law_ware_is" s_L_ware_is)
  (h31 : FHy K "_law_lists_are" s_L_lists_are)
  (h32 : FHy K "_law_state_is" s_L_state_is)
  (h33 : FHy K "_law_on" s_L_on)
  (h34 : FHy K "_law_lanes" s_L_lanes)
  (h35 : FHy K "_law_make" s_L_make)
  (h36 : FHy K "_law_acted" s_L_acted)
  (h37 : FHy K "_law_moves_are" s_L_moves_are)
  (aL : PySem.W.nsIn K mainGlobals "law" = some (some (.ref fL))) (lL : K.lookup fL = some ⟨ocL, odL, .func (PySem.W.fnOf "law" "law" (zR s_law) (zO s_law) (ze s_law) .none kVL dcL pmL anL cdL ctL), slL⟩) (cL : PySem.W.codeIn K cdL "law" = true) (kL : PySem.W.keepIn K (.ref fL) = true)
  (z_len : PySem.W.nsIn K mainGlobals "len" = some none)
  (z_range : PySem.W.nsIn K mainGlobals "range" = some none)
  (z_list : PySem.W.nsIn K mainGlobals "list" = some none)
  (z_isinstance : PySem.W.nsIn K mainGlobals "isinstance" = some none)
  (z_enumerate : PySem.W.nsIn K mainGlobals "enumerate" = some none)
  (z_sorted : PySem.W.nsIn K mainGlobals "sorted" = some none)
  (z_int : PySem.W.nsIn K mainGlobals "int" = some none)
  (z_bool : PySem.W.nsIn K mainGlobals "bool" = some none)
  (z_zip : PySem.W.nsIn K mainGlobals "zip" = some none)
  (z_max : PySem.W.nsIn K mainGlobals "max" = some none)
  (z_tuple : PySem.W.nsIn K mainGlobals "tuple" = some none)
  (ag_WorkError : PySem.W.nsIn K mainGlobals "WorkError" = some (some (.ref x_WorkError)))
  (ag_BadBelt : PySem.W.nsIn K mainGlobals "BadBelt" = some (some (.ref x_BadBelt)))
  (ag_BadKnot : PySem.W.nsIn K mainGlobals "BadKnot" = some (some (.ref x_BadKnot)))
  (ag_BadWork : PySem.W.nsIn K mainGlobals "BadWork" = some (some (.ref x_BadWork)))
  (ag_Belt : PySem.W.nsIn K mainGlobals "Belt" = some (some (.ref x_Belt)))
  (ag_Knot : PySem.W.nsIn K mainGlobals "Knot" = some (some (.ref x_Knot)))
  (ag_Source : PySem.W.nsIn K mainGlobals "Source" = some (some (.ref x_Source)))
  (ag_Drain : PySem.W.nsIn K mainGlobals "Drain" = some (some (.ref x_Drain)))
  (ag_Joiner : PySem.W.nsIn K mainGlobals "Joiner" = some (some (.ref x_Joiner)))
  (ag_State : PySem.W.nsIn K mainGlobals "State" = some (some (.ref x_State)))
  (ag_Work : PySem.W.nsIn K mainGlobals "Work" = some (some (.ref x_Work)))
  (hc_Belt : CHy K x_Belt)
  (nf_room_Belt : NoAttr K x_Belt "room")
  (nf_pace_Belt : NoAttr K x_Belt "pace")
  (h_Belt_init : MHy K x_Belt "__init__" "Belt.__init__" s_Belt_init)
  (hc_Knot : CHy K x_Knot)
  (nf_ins_Knot : NoAttr K x_Knot "ins")
  (nf_outs_Knot : NoAttr K x_Knot "outs")
  (aKnot_init : PySem.W.findIn K (.ref x_Knot) "__init__" = some (some (.ref fKnot_init))) (iKnot_init : PySem.W.isFn K (.ref fKnot_init) = true) (lKnot_init : K.lookup fKnot_init = some ⟨ocKnot_init, odKnot_init, .func (PySem.W.fnOf "__init__" "Knot.__init__" (zR s_Knot_init) (zO s_Knot_init) (ze s_Knot_init) .none kVKnot_init dcKnot_init pmKnot_init anKnot_init cdKnot_init ctKnot_init), slKnot_init⟩) (cKnot_init : PySem.W.codeIn K cdKnot_init "Knot.__init__" = true) (kKnot_init : PySem.W.keepIn K (.ref fKnot_init) = true)
  (bga_Knot_init : PySem.W.specialIn K (.ref x_Knot) "__getattribute__" = some (some (.builtin "type.__getattribute__")))
  (brd_Knot_init : PySem.W.readsIn K x_Knot (.type "type") = true)
  (bfc_Knot_init : PySem.W.findCls K (.ref x_Knot) (.type "type") "__init__" = some (.val (.ref fKnot_init)))
  (h_Knot_choice : MHy K x_Knot "choice" "Knot.choice" s_Knot_choice)
  (h_Knot_copied : MHy K x_Knot "copied" "Knot.copied" s_Knot_copied)
  (hc_Source : CHy K x_Source)
  (nf_pace_Source : NoAttr K x_Source "pace")
  (nf_kinds_Source : NoAttr K x_Source "kinds")
  (nf_ins_Source : NoAttr K x_Source "ins")
  (nf_outs_Source : NoAttr K x_Source "outs")
  (h_Source_init : MHy K x_Source "__init__" "Source.__init__" s_Source_init)
  (h_Source_choice : MHy K x_Source "choice" "Source.choice" s_Source_choice)
  (h_Source_copied : MHy K x_Source "copied" "Source.copied" s_Source_copied)
  (hc_Drain : CHy K x_Drain)
  (nf_pace_Drain : NoAttr K x_Drain "pace")
  (nf_ins_Drain : NoAttr K x_Drain "ins")
  (nf_outs_Drain : NoAttr K x_Drain "outs")
  (h_Drain_init : MHy K x_Drain "__init__" "Drain.__init__" s_Drain_init)
  (h_Drain_choice : MHy K x_Drain "choice" "Drain.choice" s_Drain_choice)
  (h_Drain_copied : MHy K x_Drain "copied" "Drain.copied" s_Drain_copied)
  (hc_Joiner : CHy K x_Joiner)
  (nf_ins_Joiner : NoAttr K x_Joiner "ins")
  (nf_outs_Joiner : NoAttr K x_Joiner "outs")
  (h_Joiner_init : MHy K x_Joiner "__init__" "Joiner.__init__" s_Joiner_init)
  (h_Joiner_choice : MHy K x_Joiner "choice" "Joiner.choice" s_Joiner_choice)
  (h_Joiner_copied : MHy K x_Joiner "copied" "Joiner.copied" s_Joiner_copied)
  (hc_State : CHy K x_State)
  (nf_turn_State : NoAttr K x_State "turn")
  (nf_cells_State : NoAttr K x_State "cells")
  (nf_sides_State : NoAttr K x_State "sides")
  (nf_gone_State : NoAttr K x_State "gone")
  (h_State_init : MHy K x_State "__init__" "State.__init__" s_State_init)
  (hc_Work : CHy K x_Work)
  (nf_belts_Work : NoAttr K x_Work "belts")
  (nf_knots_Work : NoAttr K x_Work "knots")
  (h_Work_init : MHy K x_Work "__init__" "Work.__init__" s_Work_init)
  (h_Work_feeder : MHy K x_Work "feeder" "Work.feeder" s_Work_feeder)
  (h_Work_taker : MHy K x_Work "taker" "Work.taker" s_Work_taker)
  (h_Work_drains : MHy K x_Work "drains" "Work.drains" s_Work_drains)
  (h_Work_sources : MHy K x_Work "sources" "Work.sources" s_Work_sources)
  (h_Work_beat : MHy K x_Work "beat" "Work.beat" s_Work_beat)
  (wgn : PySem.W.specialIn K (.builtin "object.__class__") "__get__" = some (some (.builtin "getset_descriptor.__get__"))) (wtk : PySem.W.takesIn K (.builtin "object.__class__") = some true)
  (ac_MOST_ROOM : PySem.W.nsIn K mainGlobals "MOST_ROOM" = some (some (.int 6 t_MOST_ROOM)))
  (ac_MOST_PACE : PySem.W.nsIn K mainGlobals "MOST_PACE" = some (some (.int 4 t_MOST_PACE)))
  (ac_MOST_KINDS : PySem.W.nsIn K mainGlobals "MOST_KINDS" = some (some (.int 6 t_MOST_KINDS)))
  (ac_FEWEST_WAYS : PySem.W.nsIn K mainGlobals "FEWEST_WAYS" = some (some (.int 2 t_FEWEST_WAYS)))
  (ac_MOST_WAYS : PySem.W.nsIn K mainGlobals "MOST_WAYS" = some (some (.int 4 t_MOST_WAYS)))
  (ac_MOST_BELTS : PySem.W.nsIn K mainGlobals "MOST_BELTS" = some (some (.int 24 t_MOST_BELTS)))
  (ac_MOST_KNOTS : PySem.W.nsIn K mainGlobals "MOST_KNOTS" = some (some (.int 24 t_MOST_KNOTS)))
  (xq_BadBelt : PySem.W.excIn K x_BadBelt bmV "ValueError.__new__" = true)
  (xga_BadBelt : PySem.W.findIn K (.ref x_BadBelt) "__getattribute__" = some (some (.builtin "BaseException.__getattribute__")))
  (xgt_BadBelt : PySem.W.findIn K (.ref x_BadBelt) "__getattr__" = some none)
  (xcl_BadBelt : PySem.W.findIn K (.ref x_BadBelt) "__class__" = some (some (.builtin "object.__class__")))
  (xhd_BadBelt : PySem.W.hasDictIn K x_BadBelt = true)
  (xmo_BadBelt : PySem.W.mroIn K x_BadBelt (.type "object") = some true)
  (xmb_BadBelt : PySem.W.subIn K (.ref x_BadBelt) (.type "BaseException") = some true)
  (xq_BadKnot : PySem.W.excIn K x_BadKnot bmV "ValueError.__new__" = true)
  (xga_BadKnot : PySem.W.findIn K (.ref x_BadKnot) "__getattribute__" = some (some (.builtin "BaseException.__getattribute__")))
  (xgt_BadKnot : PySem.W.findIn K (.ref x_BadKnot) "__getattr__" = some none)
  (xcl_BadKnot : PySem.W.findIn K (.ref x_BadKnot) "__class__" = some (some (.builtin "object.__class__")))
  (xhd_BadKnot : PySem.W.hasDictIn K x_BadKnot = true)
  (xmo_BadKnot : PySem.W.mroIn K x_BadKnot (.type "object") = some true)
  (xmb_BadKnot : PySem.W.subIn K (.ref x_BadKnot) (.type "BaseException") = some true)
  (xq_BadWork : PySem.W.excIn K x_BadWork bmV "ValueError.__new__" = true)
  (xga_BadWork : PySem.W.findIn K (.ref x_BadWork) "__getattribute__" = some (some (.builtin "BaseException.__getattribute__")))
  (xgt_BadWork : PySem.W.findIn K (.ref x_BadWork) "__getattr__" = some none)
  (xcl_BadWork : PySem.W.findIn K (.ref x_BadWork) "__class__" = some (some (.builtin "object.__class__")))
  (xhd_BadWork : PySem.W.hasDictIn K x_BadWork = true)
  (xmo_BadWork : PySem.W.mroIn K x_BadWork (.type "object") = some true)
  (xmb_BadWork : PySem.W.subIn K (.ref x_BadWork) (.type "BaseException") = some true)
  (xgn : PySem.W.specialIn K (.builtin "object.__class__") "__get__" = some (some (.builtin "getset_descriptor.__get__")))
  (xtk : PySem.W.takesIn K (.builtin "object.__class__") = some true)
  (k1_Belt_Joiner : PySem.W.kitOne K (.ref x_Belt) (.ref x_Joiner) = some false)
  (k1_Knot_Joiner : PySem.W.kitOne K (.ref x_Knot) (.ref x_Joiner) = some false)
  (k1_Source_Joiner : PySem.W.kitOne K (.ref x_Source) (.ref x_Joiner) = some false)
  (k1_Drain_Joiner : PySem.W.kitOne K (.ref x_Drain) (.ref x_Joiner) = some false)
  (k1_Joiner_Joiner : PySem.W.kitOne K (.ref x_Joiner) (.ref x_Joiner) = some true)
  (k1_State_Joiner : PySem.W.kitOne K (.ref x_State) (.ref x_Joiner) = some false)
  (k1_Work_Joiner : PySem.W.kitOne K (.ref x_Work) (.ref x_Joiner) = some false)
  (k1_Belt_State : PySem.W.kitOne K (.ref x_Belt) (.ref x_State) = some false)
  (k1_Knot_State : PySem.W.kitOne K (.ref x_Knot) (.ref x_State) = some false)
  (k1_Source_State : PySem.W.kitOne K (.ref x_Source) (.ref x_State) = some false)
  (k1_Drain_State : PySem.W.kitOne K (.ref x_Drain) (.ref x_State) = some false)
  (k1_Joiner_State : PySem.W.kitOne K (.ref x_Joiner) (.ref x_State) = some false)
  (k1_State_State : PySem.W.kitOne K (.ref x_State) (.ref x_State) = some true)
  (k1_Work_State : PySem.W.kitOne K (.ref x_Work) (.ref x_State) = some false)
  : ∃ fd : FuncData, (∀ (s : Shared) (v : Value), BindsTo s fd ⟨[v], []⟩ [("_law_script", v)]) ∧ ∀ base : Heap, K.In base → base.Ns mainGlobals mg → FnOk l.prog w K mg base (CXr l.prog w) 8 fa fd ["_law_script"] (Zl K) := by
 have e := hfa.symm.trans (PySem.W.mg_of X G aL)
 cases e
 have T : Txt K mg ⟨x_WorkError, x_BadBelt, x_BadKnot, x_BadWork, x_Belt, x_Knot, x_Source, x_Drain, x_Joiner, x_State, x_Work⟩ := {
  h__wall := fa_y X G h0 fun _ _ _ _ _ _ us hl => ex1 us hl fun _ => rfl
  h_check_pace := fa_y X G h1 fun _ _ _ _ _ _ us hl => ex2 us hl fun _ _ => rfl
  h_check_kind := fa_y X G h2 fun _ _ _ _ _ _ us hl => ex1 us hl fun _ => rfl
  h_check_ways := fa_y X G h3 fun _ _ _ _ _ _ us hl => ex1 us hl fun _ => rfl
  h_first_place := fa_y X G h4 fun _ _ _ _ _ _ us hl => ex2 us hl fun _ _ => rfl
  h_kind_of := fa_y X G h5 fun _ _ _ _ _ _ us hl => ex2 us hl fun _ _ => rfl
  h_copied_state := fa_y X G h6 fun _ _ _ _ _ _ us hl => ex1 us hl fun _ => rfl
  h_heads_of := fa_y X G h7 fun _ _ _ _ _ _ us hl => ex3 us hl fun _ _ _ => rfl
  h_taken_ware := fa_y X G h8 fun _ _ _ _ _ _ us hl => ex3 us hl fun _ _ _ => rfl
  h_belt_at := fa_y X G h9 fun _ _ _ _ _ _ us hl => ex2 us hl fun _ _ => rfl
  h_counted_place := fa_y X G h10 fun _ _ _ _ _ _ us hl => ex2 us hl fun _ _ => rfl
  h_act := fa_y X G h11 fun _ _ _ _ _ _ us hl => ex3 us hl fun _ _ _ => rfl
  h_act_all := fa_y X G h12 fun _ _ _ _ _ _ us hl => ex2 us hl fun _ _ => rfl
  h_move_belt := fa_y X G h13 fun _ _ _ _ _ _ us hl => ex1 us hl fun _ => rfl
  h_pass_turn := fa_y X G h14 fun _ _ _ _ _ _ us hl => ex2 us hl fun _ _ => rfl
  h_one_turn := fa_y X G h15 fun _ _ _ _ _ _ us hl => ex2 us hl fun _ _ => rfl
  h_moves_of := fa_y X G h16 fun _ _ _ _ _ _ us hl => ex2 us hl fun _ _ => rfl
  h_check_size := fa_y X G h17 fun _ _ _ _ _ _ us hl => ex2 us hl fun _ _ => rfl
  h_check_each_once := fa_y X G h18 fun _ _ _ _ _ _ us hl => ex2 us hl fun _ _ => rfl
  h_L_cell := fa_y X G h19 fun _ _ _ _ _ _ us hl => ex2 us hl fun _ _ => rfl
  h_L_mix := fa_y X G h20 fun _ _ _ _ _ _ us hl => ex2 us hl fun _ _ => rfl
  h_L_kind := fa_y X G h21 fun _ _ _ _ _ _ us hl => ex2 us hl fun _ _ => rfl
  h_L_fold := fa_y X G h22 fun _ _ _ _ _ _ us hl => ex1 us hl fun _ => rfl
  h_L_whole := fa_y X G h23 fun _ _ _ _ _ _ us hl => ex1 us hl fun _ => rfl
  h_L_numbers_are := fa_y X G h24 fun _ _ _ _ _ _ us hl => ex2 us hl fun _ _ => rfl
  h_L_belt := fa_y X G h25 fun _ _ _ _ _ _ us hl => ex2 us hl fun _ _ => rfl
  h_L_dealt := fa_y X G h26 fun _ _ _ _ _ _ us hl => ex2 us hl fun _ _ => rfl
  h_L_counts := fa_y X G h27 fun _ _ _ _ _ _ us hl => ex1 us hl fun _ => rfl
  h_L_laid := fa_y X G h28 fun _ _ _ _ _ _ us hl => ex4 us hl fun _ _ _ _ => rfl
  h_L_turn := fa_y X G h29 fun _ _ _ _ _ _ us hl => ex2 us hl fun _ _ => rfl
  h_L_ware_is := fa_y X G h30 fun _ _ _ _ _ _ us hl => ex2 us hl fun _ _ => rfl
  h_L_lists_are := fa_y X G h31 fun _ _ _ _ _ _ us hl => ex3 us hl fun _ _ _ => rfl
  h_L_state_is := fa_y X G h32 fun _ _ _ _ _ _ us hl => ex5 us hl fun _ _ _ _ _ => rfl
  h_L_on := fa_y X G h33 fun _ _ _ _ _ _ us hl => ex1 us hl fun _ => rfl
  h_L_lanes := fa_y X G h34 fun _ _ _ _ _ _ us hl => ex1 us hl fun _ => rfl
  h_L_make := fa_y X G h35 fun _ _ _ _ _ _ us hl => ex1 us hl fun _ => rfl
  h_L_acted := fa_y X G h36 fun _ _ _ _ _ _ us hl => ex4 us hl fun _ _ _ _ => rfl
  h_L_moves_are := fa_y X G h37 fun _ _ _ _ _ _ us hl => ex2 us hl fun _ _ => rfl
  m_len := PySem.W.mg_none_of X G z_len
  m_range := PySem.W.mg_none_of X G z_range
  m_list := PySem.W.mg_none_of X G z_list
  m_isinstance := PySem.W.mg_none_of X G z_isinstance
  m_enumerate := PySem.W.mg_none_of X G z_enumerate
  m_sorted := PySem.W.mg_none_of X G z_sorted
  m_int := PySem.W.mg_none_of X G z_int
  m_bool := PySem.W.mg_none_of X G z_bool
  m_zip := PySem.W.mg_none_of X G z_zip
  m_max := PySem.W.mg_none_of X G z_max
  m_tuple := PySem.W.mg_none_of X G z_tuple
  g_WorkError := PySem.W.mg_of X G ag_WorkError
  g_BadBelt := PySem.W.mg_of X G ag_BadBelt
  g_BadKnot := PySem.W.mg_of X G ag_BadKnot
  g_BadWork := PySem.W.mg_of X G ag_BadWork
  g_Belt := PySem.W.mg_of X G ag_Belt
  g_Knot := PySem.W.mg_of X G ag_Knot
  g_Source := PySem.W.mg_of X G ag_Source
  g_Drain := PySem.W.mg_of X G ag_Drain
  g_Joiner := PySem.W.mg_of X G ag_Joiner
  g_State := PySem.W.mg_of X G ag_State
  g_Work := PySem.W.mg_of X G ag_Work
  C_Belt := hc_Belt.c
  N_Belt_room := nf_room_Belt
  N_Belt_pace := nf_pace_Belt
  W_Belt := hc_Belt.w wgn wtk
  h_Belt_init := fk_y hc_Belt h_Belt_init fun _ _ _ _ _ _ us hl => ex3 us hl fun _ _ _ => rfl
  C_Knot := hc_Knot.c
  N_Knot_ins := nf_ins_Knot
  N_Knot_outs := nf_outs_Knot
  W_Knot := hc_Knot.w wgn wtk
  h_Knot_init := Q9 (st := s_Knot_init) (ps := ["self", "ins", "outs"]) hc_Knot.2.2.2.2.1 hc_Knot.2.2.2.2.2.1 aKnot_init iKnot_init lKnot_init cKnot_init kKnot_init fun _ _ _ _ _ _ us hl => ex3 us hl fun _ _ _ => rfl
  b_Knot_init := fb_mk (st := s_Knot_init) (ps := ["self", "ins", "outs"]) (PySem.W.mg_of X G ag_Knot) bga_Knot_init brd_Knot_init bfc_Knot_init lKnot_init cKnot_init kKnot_init fun _ _ _ _ _ _ us hl => ex3 us hl fun _ _ _ => rfl
  h_Knot_choice := fm_y h_Knot_choice fun _ _ _ _ _ _ us hl => ex5 us hl fun _ _ _ _ _ => rfl
  h_Knot_copied := fm_y h_Knot_copied fun _ _ _ _ _ _ us hl => ex1 us hl fun _ => rfl
  C_Source := hc_Source.c
  N_Source_pace := nf_pace_Source
  N_Source_kinds := nf_kinds_Source
  N_Source_ins := nf_ins_Source
  N_Source_outs := nf_outs_Source
  W_Source := hc_Source.w wgn wtk
  h_Source_init := fk_y hc_Source h_Source_init fun _ _ _ _ _ _ us hl => ex4 us hl fun _ _ _ _ => rfl
  h_Source_choice := fm_y h_Source_choice fun _ _ _ _ _ _ us hl => ex5 us hl fun _ _ _ _ _ => rfl
  h_Source_copied := fm_y h_Source_copied fun _ _ _ _ _ _ us hl => ex1 us hl fun _ => rfl
  C_Drain := hc_Drain.c
  N_Drain_pace := nf_pace_Drain
  N_Drain_ins := nf_ins_Drain
  N_Drain_outs := nf_outs_Drain
  W_Drain := hc_Drain.w wgn wtk
  h_Drain_init := fk_y hc_Drain h_Drain_init fun _ _ _ _ _ _ us hl => ex3 us hl fun _ _ _ => rfl
  h_Drain_choice := fm_y h_Drain_choice fun _ _ _ _ _ _ us hl => ex5 us hl fun _ _ _ _ _ => rfl
  h_Drain_copied := fm_y h_Drain_copied fun _ _ _ _ _ _ us hl => ex1 us hl fun _ => rfl
  C_Joiner := hc_Joiner.c
  N_Joiner_ins := nf_ins_Joiner
  N_Joiner_outs := nf_outs_Joiner
  W_Joiner := hc_Joiner.w wgn wtk
  h_Joiner_init := fk_y hc_Joiner h_Joiner_init fun _ _ _ _ _ _ us hl => ex3 us hl fun _ _ _ => rfl
  h_Joiner_choice := fm_y h_Joiner_choice fun _ _ _ _ _ _ us hl => ex5 us hl fun _ _ _ _ _ => rfl
  h_Joiner_copied := fm_y h_Joiner_copied fun _ _ _ _ _ _ us hl => ex1 us hl fun _ => rfl
  C_State := hc_State.c
  N_State_turn := nf_turn_State
  N_State_cells := nf_cells_State
  N_State_sides := nf_sides_State
  N_State_gone := nf_gone_State
  W_State := hc_State.w wgn wtk
  h_State_init := fk_y hc_State h_State_init fun _ _ _ _ _ _ us hl => ex5 us hl fun _ _ _ _ _ => rfl
  C_Work := hc_Work.c
  N_Work_belts := nf_belts_Work
  N_Work_knots := nf_knots_Work
  W_Work := hc_Work.w wgn wtk
  h_Work_init := fk_y hc_Work h_Work_init fun _ _ _ _ _ _ us hl => ex3 us hl fun _ _ _ => rfl
  h_Work_feeder := fm_y h_Work_feeder fun _ _ _ _ _ _ us hl => ex2 us hl fun _ _ => rfl
  h_Work_taker := fm_y h_Work_taker fun _ _ _ _ _ _ us hl => ex2 us hl fun _ _ => rfl
  h_Work_drains := fm_y h_Work_drains fun _ _ _ _ _ _ us hl => ex1 us hl fun _ => rfl
  h_Work_sources := fm_y h_Work_sources fun _ _ _ _ _ _ us hl => ex1 us hl fun _ => rfl
  h_Work_beat := fm_y h_Work_beat fun _ _ _ _ _ _ us hl => ex1 us hl fun _ => rfl
  g_MOST_ROOM := ⟨_, PySem.W.mg_of X G ac_MOST_ROOM⟩
  g_MOST_PACE := ⟨_, PySem.W.mg_of X G ac_MOST_PACE⟩
  g_MOST_KINDS := ⟨_, PySem.W.mg_of X G ac_MOST_KINDS⟩
  g_FEWEST_WAYS := ⟨_, PySem.W.mg_of X G ac_FEWEST_WAYS⟩
  g_MOST_WAYS := ⟨_, PySem.W.mg_of X G ac_MOST_WAYS⟩
  g_MOST_BELTS := ⟨_, PySem.W.mg_of X G ac_MOST_BELTS⟩
  g_MOST_KNOTS := ⟨_, PySem.W.mg_of X G ac_MOST_KNOTS⟩
  X_BadBelt := ⟨xq_BadBelt⟩
  XI_BadBelt := ⟨xga_BadBelt, xgt_BadBelt, xcl_BadBelt, xhd_BadBelt, xgn, xtk, xmo_BadBelt, xmb_BadBelt⟩
  X_BadKnot := ⟨xq_BadKnot⟩
  XI_BadKnot := ⟨xga_BadKnot, xgt_BadKnot, xcl_BadKnot, xhd_BadKnot, xgn, xtk, xmo_BadKnot, xmb_BadKnot⟩
  X_BadWork := ⟨xq_BadWork⟩
  XI_BadWork := ⟨xga_BadWork, xgt_BadWork, xcl_BadWork, xhd_BadWork, xgn, xtk, xmo_BadWork, xmb_BadWork⟩
  k1_Belt_Joiner := k1_Belt_Joiner
  k1_Knot_Joiner := k1_Knot_Joiner
  k1_Source_Joiner := k1_Source_Joiner
  k1_Drain_Joiner := k1_Drain_Joiner
  k1_Joiner_Joiner := k1_Joiner_Joiner
  k1_State_Joiner := k1_State_Joiner
  k1_Work_Joiner := k1_Work_Joiner
  k1_Belt_State := k1_Belt_State
  k1_Knot_State := k1_Knot_State
  k1_Source_State := k1_Source_State
  k1_Drain_State := k1_Drain_State
  k1_Joiner_State := k1_Joiner_State
  k1_State_State := k1_State_State
  k1_Work_State := k1_Work_State
 }
 exact ⟨_, fun s v => .of_eq rfl, fun base _ _ => top_ok T (jy (st := s_law) lL cL kL)⟩
theorem walk {l : PySem.W.OpenLaw} {q : Program} {loose : List Str} {XP : (Str → Option Value) → Heap → Prop} {YP : World → Heap → Prop} {d : DefRec} {K : Params → PySem.W.Frag} (hn : l.most = some 63) (hdf : d.params.defaults = [])
  (hY : ∀ (w : World) (h : Heap), YP w h → (K w.params).In h)
  (F : ∀ (w : World) (mg : Str → Option Value) (fa : Addr) (h : Heap), (K w.params).In h → h.Ns mainGlobals mg → mg d.name = some (.ref fa) →
   ∃ fd : FuncData, (∀ (s : Shared) (u : Value), BindsTo s fd ⟨[u], []⟩ [("_law_script", u)]) ∧ ∀ base : Heap, (K w.params).In base → base.Ns mainGlobals mg → FnOk l.prog w (K w.params) mg base (CXr l.prog w) 8 fa fd ["_law_script"] (Zl (K w.params))) :
  PySem.W.WalkO q loose XP YP l.row.toRowW d [] (fun f vs => PySem.call f vs) :=
 L2.walk_of (n := 63) (k := 8) (x := "_law_script") (CX := fun w => CXr l.prog w) (sp := fun w => Zl (K w.params)) hn (by decide) hdf ⟨rfl, by decide, by decide⟩ hY F (fun _ _ a ns hl _ hS => ⟨a, ns, rfl, hS, hl, fun _ => rfl⟩) fun _ _ _ _ _ z => cxr_false z
end K18
set_option Elab.async false
namespace PySem.W.Fast
noncomputable def tw6750303999924650632 := ()
noncomputable def tw2715469495963873706 := ()
noncomputable def tw4916041429290913413 := ()
noncomputable def tw6261704399567611002 := ()
noncomputable def tw5012508527402392153 := ()
noncomputable def tw14516956796246486618 := ()
noncomputable def tw9595089846735698432 := ()
noncomputable def tw16807882730577139749 := ()
noncomputable def tw18218449429510508649 := ()
noncomputable def tw2248564228241639341 := ()
noncomputable def tw92894413935225402 := ()
noncomputable def tw17193813290916273156 := ()
noncomputable def tw13658691233807837908 := ()
noncomputable def tw18001171323922486614 := ()
noncomputable def tw9032936112137402293 := ()
noncomputable def tw12610316737590488077 := ()
noncomputable def tw11789502093983314372 := ()
noncomputable def tw5885294783634044477 := ()
noncomputable def tw410918675493209237 := ()
noncomputable def tw8429093094317988648 := ()
noncomputable def tw4131041451231792741 := ()
noncomputable def tw2235039285543030704 := ()
noncomputable def tw15141835796765992141 := ()
noncomputable def tw177033842484325197 := ()
noncomputable def tw16309882017451746003 := ()
noncomputable def tw11382066453292455692 := ()
noncomputable def tw3204896575311464540 := ()
noncomputable def tw17497448160346362406 := ()
noncomputable def tw12515875479719234655 := ()
noncomputable def tw6049510729927431576 := ()
noncomputable def tw16390087058787507084 := ()
noncomputable def tw150415443228617618 := ()
noncomputable def tw11591206638544683760 := ()
noncomputable def tw6787712953651798943 := ()
noncomputable def tw17641084303003092026 := ()
noncomputable def tw11983108469538344546 := ()
noncomputable def tw8034474349944639189 := ()
noncomputable def tw12820984488751960620 := ()
noncomputable def tw8950937175685604711 := ()
noncomputable def tw13018531133161618626 := ()
noncomputable def tw18147755568647218518 := ()
noncomputable def tw15475143373288044071 := ()
noncomputable def tw6224647188417841198 := ()
noncomputable def tw17162406102439588242 := ()
noncomputable def tw379423017123562196 := ()
noncomputable def tw3463166606634912132 := ()
noncomputable def tw11768971345023911010 := ()
noncomputable def tw7059567100715357347 := ()
noncomputable def tw3654408564805950165 := ()
noncomputable def tw14380742618489191290 := ()
noncomputable def tw757078577684291795 := ()
noncomputable def tw4035682817359975468 := ()
noncomputable def tw14448455796187087776 := ()
noncomputable def tw7244364631307954098 := ()
noncomputable def tw14655521403163363764 := ()
noncomputable def tw1047838740411774534 := ()
noncomputable def tw1457953301205833664 := ()
noncomputable def tw11805569983488630760 := ()
noncomputable def tw1901321826513017766 := ()
noncomputable def tw7737385760968672295 := ()
noncomputable def tw2280395214985143706 := ()
noncomputable def tw10847973781023483116 := ()
noncomputable def tw15869237407731155817 := ()
noncomputable def tw4837938127377848445 := ()
noncomputable def tw7512051132711083832 := ()
noncomputable def tw17849901865467619318 := ()
noncomputable def tw8670640201966551223 := ()
noncomputable def tw14939290579528947545 := ()
noncomputable def tw1393789197346870873 := ()
noncomputable def tw9142218082052801353 := ()
noncomputable def tw1846391412775395371 := ()
noncomputable def tw730370638194725867 := ()
noncomputable def tw5761799932235014047 := ()
noncomputable def tw11211975729343008712 := ()
noncomputable def tw9161275593714753540 := ()
noncomputable def tw6279470917958918918 := ()
noncomputable def tw2387326392741743846 := ()
noncomputable def tw11600868380309745977 := ()
noncomputable def tw7187121185363075737 := ()
noncomputable def tw4778364382369744896 := ()
noncomputable def tw6518027205152802401 := ()
noncomputable def tw12978588767579557827 := ()
noncomputable def tw9345137956260318351 := ()
noncomputable def tw15536278168796232688 := ()
noncomputable def tw3423450976703260951 := ()
noncomputable def tw1133150221268248278 := ()
noncomputable def tw9998066145570212475 := ()
noncomputable def tw4787547383879664848 := ()
noncomputable def tw12712004509803606541 := ()
noncomputable def tw11620139986665499913 := ()
noncomputable def tw16767208286543364288 := ()
noncomputable def tw3917895520552821698 := ()
noncomputable def tw10972254276114977454 := ()
noncomputable def tw2920910132723227530 := ()
noncomputable def tw7624371254026108503 := ()
noncomputable def tw2353074014952978272 := ()
noncomputable def tw7261996947755994224 := ()
noncomputable def tw2409862883611977132 := ()
noncomputable def tw14722834758513470534 := ()
noncomputable def tw17683288458956472382 := ()
noncomputable def tw13227806814973250959 := ()
noncomputable def tw16073384925882573928 := ()
noncomputable def tw1633055182652537292 := ()
noncomputable def tw2974195372873603102 := ()
noncomputable def tw4202744371396220970 := ()
noncomputable def tw2636326762003357085 := ()
noncomputable def tw4386043809556139923 := ()
noncomputable def tw2104071739255661197 := ()
noncomputable def tw8470950700003944188 := ()
noncomputable def tw3996690438337439819 := ()
noncomputable def tw16248942891114074183 := ()
noncomputable def tw4557353380232272620 := ()
noncomputable def tw14809602850299427308 := ()
noncomputable def tw3243512670557129917 := ()
noncomputable def tw9559909227346823987 := ()
noncomputable def tw656316035584133397 := ()
noncomputable def tw18248042645155697004 := ()
noncomputable def tw7097934611859210130 := ()
noncomputable def tw7718139001285143428 := ()
noncomputable def tw15734740443332409969 := ()
noncomputable def tw12512177468460063310 := ()
noncomputable def tw1896910907864155636 := ()
noncomputable def tw13238266505646813571 := ()
noncomputable def tw1998520430367944068 := ()
noncomputable def tw8108476032087490599 := ()
noncomputable def tw2740157861752079113 := ()
noncomputable def tw3736805082542163085 := ()
noncomputable def tw6576200114558886027 := ()
noncomputable def tw13998836563289509418 := ()
noncomputable def tw5726656148773200874 := ()
noncomputable def tw15640143180565732562 := ()
noncomputable def tw17822055431584036294 := ()
noncomputable def tw1144841418673585849 := ()
noncomputable def tw9236061272847759822 := ()
noncomputable def tw409234472446089489 := ()
noncomputable def tw8825814326857693855 := ()
noncomputable def tw2171202298739456341 := ()
noncomputable def tw3419247635053360100 := ()
noncomputable def tw75126102508901798 := ()
noncomputable def tw16198299717048890043 := ()
noncomputable def tw9091557149181885663 := ()
noncomputable def tw5096095706831896585 := ()
noncomputable def tw12695721666890104046 := ()
noncomputable def tw17231235088038240735 := ()
noncomputable def tw7490880967973850037 := ()
noncomputable def tw11826012483854192743 := ()
noncomputable def tw814442270678620389 := ()
noncomputable def tw11730714542962131621 := ()
noncomputable def tw14450118196771519772 := ()
noncomputable def tw9101641968743412003 := ()
noncomputable def tw7559103052356481693 := ()
noncomputable def tw17421209702580223633 := ()
noncomputable def tw5766990032548293103 := ()
noncomputable def tw13272169346858397099 := ()
noncomputable def tw7544249071632079098 := ()
noncomputable def tw18108590213672696323 := ()
noncomputable def tw7937414644803525725 := ()
noncomputable def tw4044828203989855625 := ()
noncomputable def tw17789136745436754968 := ()
noncomputable def tw10063069374714300055 := ()
noncomputable def tw14051604824564506523 := ()
noncomputable def tw11266909599533761863 := ()
noncomputable def tw8259603633339967888 := ()
noncomputable def tw16077304575995548757 := ()
noncomputable def tw2692614363114028353 := ()
noncomputable def tw2877777317191286272 := ()
noncomputable def tw946635356145941178 := ()
noncomputable def tw10218318956725154270 := ()
noncomputable def tw8285380182916904102 := ()
noncomputable def tw17170772349741625555 := ()
noncomputable def tw16373282420053136595 := ()
noncomputable def tw14389484754962300304 := ()
noncomputable def tw17775364312833431673 := ()
noncomputable def tw7727080874645074649 := ()
noncomputable def tw7314892565620399353 := ()
noncomputable def tw14509346642138689158 := ()
noncomputable def tw12997958052344023514 := ()
noncomputable def tw17869191919445100251 := ()
noncomputable def tw2938966587096381109 := ()
noncomputable def tw14776591257042926496 := ()
noncomputable def tw12025148199531215976 := ()
noncomputable def tw5700072220506456820 := ()
noncomputable def tw8673777777189290817 := ()
noncomputable def tw16526875323602893579 := ()
noncomputable def tw393334064875950099 := ()
noncomputable def tw11002709777288840366 := ()
noncomputable def tw10839494086551504040 := ()
noncomputable def tw13699623909220732783 := ()
noncomputable def tw14673492594001889860 := ()
noncomputable def tw4205819702153355380 := ()
noncomputable def tw10659778506418580729 := ()
noncomputable def tw9121895667837229025 := ()
noncomputable def tw7805300251057914749 := ()
noncomputable def tw2210229348999106352 := ()
noncomputable def tw8277123010338537852 := ()
noncomputable def tw11446079395367881308 := ()
noncomputable def tw17285952965514456006 := ()
noncomputable def tw3142735136358381448 := ()
noncomputable def tw13539241709400831958 := ()
noncomputable def tw2223186636194674894 := ()
noncomputable def tw12175506772468531953 := ()
noncomputable def tw14244410677653900108 := ()
noncomputable def tw4985195854707446391 := ()
noncomputable def tw6665722433169125881 := ()
noncomputable def tw17645761337819786847 := ()
noncomputable def tw9918180254266181734 := ()
noncomputable def tw6729052203207763857 := ()
noncomputable def tw2703519103588618501 := ()
noncomputable def tw16612469168408477066 := ()
noncomputable def tw7268956912923537742 := ()
noncomputable def tw16286800884601590119 := ()
noncomputable def tw14336134576912043571 := ()
noncomputable def tw13937973121521964800 := ()
noncomputable def tw17957952283177565589 := ()
noncomputable def tw2485709467348705288 := ()
noncomputable def tw11475748584169399581 := ()
noncomputable def tw15295715270161706758 := ()
noncomputable def tw15190586725391754127 := ()
noncomputable def tw4289060892682977970 := ()
noncomputable def tw7813079024476291294 := ()
noncomputable def tw6191047239502436766 := ()
noncomputable def tw4241782403805664462 := ()
noncomputable def tw12004209383604296843 := ()
noncomputable def tw17421121759081766561 := ()
noncomputable def tw1218167376856120555 := ()
noncomputable def tw8865807582998386834 := ()
noncomputable def tw4005278537839901776 := ()
noncomputable def tw14398887564286698153 := ()
noncomputable def tw5637872178815688652 := ()
noncomputable def tw7334332418948986298 := ()
noncomputable def tw13639620735880653432 := ()
noncomputable def tw12356290893508406497 := ()
noncomputable def tw5761218769015187241 := ()
noncomputable def tw16662794099411851032 := ()
noncomputable def tw18075559532407611921 := ()
noncomputable def tw9240297206599686132 := ()
noncomputable def tw15174902633102605824 := ()
noncomputable def tw9269064331516889672 := ()
noncomputable def tw15397377526504148062 := ()
noncomputable def tw6381623437499000688 := ()
noncomputable def tw17263890476186289915 := ()
noncomputable def tw15163282236138813828 := ()
noncomputable def tw15954227073754240528 := ()
noncomputable def tw16063977213571408447 := ()
noncomputable def tw16044686260116111786 := ()
noncomputable def tw1079224180866893294 := ()
noncomputable def tw7122851513979401462 := ()
noncomputable def tw14348441409780617348 := ()
noncomputable def tw8701329710673909586 := ()
noncomputable def tw11170861083152793119 := ()
noncomputable def tw2241703602129149212 := ()
noncomputable def tw1815619531853057418 := ()
noncomputable def tw15703665294617269844 := ()
noncomputable def tw10927859102767998645 := ()
noncomputable def tw14618623478729887961 := ()
noncomputable def tw13840589281816552920 := ()
noncomputable def tw13601227004444168135 := ()
noncomputable def tw18264075419554645926 := ()
noncomputable def tw4175144761318116466 := ()
noncomputable def tw16208439473265210203 := ()
noncomputable def tw819375197173384745 := ()
noncomputable def tw292660025696182041 := ()
noncomputable def tw4857242111948550905 := ()
noncomputable def tw12219865576361767789 := ()
noncomputable def tw11698083239095856190 := ()
noncomputable def tw5276808769525984231 := ()
noncomputable def tw3582723227389997001 := ()
noncomputable def tw5459248747776888241 := ()
noncomputable def tw9084741978276568471 := ()
noncomputable def tw9236893432061005671 := ()
noncomputable def tw10773885055436025235 := ()
noncomputable def tw13662586246872820580 := ()
noncomputable def tw154042025561972921 := ()
noncomputable def tw11681648155480535752 := ()
noncomputable def tw5023701343907047717 := ()
noncomputable def tw5616587730056442449 := ()
noncomputable def tw5706699587950364843 := ()
noncomputable def tw9452281291235287058 := ()
noncomputable def tw10659965000481771763 := ()
noncomputable def tw11291410032684843501 := ()
noncomputable def tw4484228576258902735 := ()
noncomputable def tw2259354805445210532 := ()
noncomputable def tw809788272468781897 := ()
noncomputable def tw663688772013841266 := ()
noncomputable def tw7604707770837443736 := ()
noncomputable def tw730208611537424275 := ()
noncomputable def tw8920774530863461360 := ()
noncomputable def tw10311280607199642040 := ()
noncomputable def tw3174361757810853507 := ()
noncomputable def tw3147763548073460671 := ()
noncomputable def tw2885992909029795922 := ()
noncomputable def tw390047004868927169 := ()
noncomputable def tw9313460845816317326 := ()
noncomputable def tw3553124113313545797 := ()
noncomputable def tw6052103748496563336 := ()
noncomputable def tw12374399256654160926 := ()
noncomputable def tw12330746856585893186 := ()
noncomputable def tw10309603480323843827 := ()
noncomputable def tw16622176908417642513 := ()
noncomputable def tw12713940931495066392 := ()
noncomputable def tw7391077212945577794 := ()
noncomputable def tw12083727472802193723 := ()
noncomputable def tw1769460301960807250 := ()
noncomputable def tw16972310161922484750 := ()
noncomputable def tw6952520983698328925 := ()
noncomputable def tw4018222801977320418 := ()
noncomputable def tw14853810643484015710 := ()
noncomputable def tw14850324797906723627 := ()
noncomputable def tw15243447242033567437 := ()
noncomputable def tw8168971409348666731 := ()
noncomputable def tw3138101836275771067 := ()
noncomputable def tw8401086880187660082 := ()
noncomputable def tw117529333715296136 := ()
noncomputable def tw17769385158799972107 := ()
noncomputable def tw13014020970057287461 := ()
noncomputable def tw16739450070371041779 := ()
noncomputable def tw2157469359452731162 := ()
noncomputable def tw1242104869620658272 := ()
noncomputable def tw2311176782154436554 := ()
noncomputable def tw13073174827791774172 := ()
noncomputable def tw7020900616540589638 := ()
noncomputable def tw7156334084650870171 := ()
noncomputable def tw2949092356784977955 := ()
noncomputable def tw1382140217807376618 := ()
noncomputable def tw17717840081608729141 := ()
noncomputable def tw16568579845408240230 := ()
noncomputable def tw9877679470706572156 := ()
noncomputable def tw428346059586209629 := ()
noncomputable def tw12236137351517997993 := ()
noncomputable def tw8033179644909665948 := ()
noncomputable def tw8605761939711711951 := ()
noncomputable def tw3164646728601154097 := ()
noncomputable def tw4499360053966816400 := ()
noncomputable def tw5143294718683048872 := ()
noncomputable def tw6394697423811531276 := ()
noncomputable def tw9691237556903763016 := ()
noncomputable def tw10591156156876237602 := ()
noncomputable def tw2169207432504826387 := ()
noncomputable def tw6696179653609548933 := ()
end PySem.W.Fast
open PySem PySem.W PyProof.Rows
set_option maxRecDepth 100000 in
set_option maxHeartbeats 0 in
theorem PySem.Challenge.cw_beltshares_k18_lanes_holds : PySem.Challenge.rw_beltshares_k18_lanes.Holds := by
 w_on; o_law; k_head; (case hw => w_witness2)
 k_fill
 refine K18.walk (l := PySem.Challenge.rw_beltshares_k18_lanes) rfl rfl (fun w h Y => PySem.W.kIn_of Y) ?F
 case F =>
  intro w mg fa h KX G hmg
  refine' K18.all_mk KX G hmg ?h0 ?h1 ?h2 ?h3 ?h4 ?h5 ?h6 ?h7 ?h8 ?h9 ?h10 ?h11 ?h12 ?h13 ?h14 ?h15 ?h16 ?h17 ?h18 ?h19 ?h20 ?h21 ?h22 ?h23 ?h24 ?h25 ?h26 ?h27 ?h28 ?h29 ?h30 ?h31 ?h32 ?h33 ?h34 ?h35 ?h36 ?h37 ?aL ?lL ?cL ?kL ?z_len ?z_range ?z_list ?z_isinstance ?z_enumerate ?z_sorted ?z_int ?z_bool ?z_zip ?z_max ?z_tuple ?ag_WorkError ?ag_BadBelt ?ag_BadKnot ?ag_BadWork ?ag_Belt ?ag_Knot ?ag_Source ?ag_Drain ?ag_Joiner ?ag_State ?ag_Work ?hc_Belt ?nf_room_Belt ?nf_pace_Belt ?h_Belt_init ?hc_Knot ?nf_ins_Knot ?nf_outs_Knot ?aKnot_init ?iKnot_init ?lKnot_init ?cKnot_init ?kKnot_init ?bga_Knot_init ?brd_Knot_init ?bfc_Knot_init ?h_Knot_choice ?h_Knot_copied ?hc_Source ?nf_pace_Source ?nf_kinds_Source ?nf_ins_Source ?nf_outs_Source ?h_Source_init ?h_Source_choice ?h_Source_copied ?hc_Drain ?nf_pace_Drain ?nf_ins_Drain ?nf_outs_Drain ?h_Drain_init ?h_Drain_choice ?h_Drain_copied ?hc_Joiner ?nf_ins_Joiner ?nf_outs_Joiner ?h_Joiner_init ?h_Joiner_choice ?h_Joiner_copied ?hc_State ?nf_turn_State ?nf_cells_State ?nf_sides_State ?nf_gone_State ?h_State_init ?hc_Work ?nf_belts_Work ?nf_knots_Work ?h_Work_init ?h_Work_feeder ?h_Work_taker ?h_Work_drains ?h_Work_sources ?h_Work_beat ?wgn ?wtk ?ac_MOST_ROOM ?ac_MOST_PACE ?ac_MOST_KINDS ?ac_FEWEST_WAYS ?ac_MOST_WAYS ?ac_MOST_BELTS ?ac_MOST_KNOTS ?xq_BadBelt ?xga_BadBelt ?xgt_BadBelt ?xcl_BadBelt ?xhd_BadBelt ?xmo_BadBelt ?xmb_BadBelt ?xq_BadKnot ?xga_BadKnot ?xgt_BadKnot ?xcl_BadKnot ?xhd_BadKnot ?xmo_BadKnot ?xmb_BadKnot ?xq_BadWork ?xga_BadWork ?xgt_BadWork ?xcl_BadWork ?xhd_BadWork ?xmo_BadWork ?xmb_BadWork ?xgn ?xtk ?k1_Belt_Joiner ?k1_Knot_Joiner ?k1_Source_Joiner ?k1_Drain_Joiner ?k1_Joiner_Joiner ?k1_State_Joiner ?k1_Work_Joiner ?k1_Belt_State ?k1_Knot_State ?k1_Source_State ?k1_Drain_State ?k1_Joiner_State ?k1_State_State ?k1_Work_State
  (case h0|h1|h2|h3|h4|h5|h6|h7|h8|h9|h10|h11|h12|h13|h14|h15|h16|h17|h18|h19|h20|h21|h22|h23|h24|h25|h26|h27|h28|h29|h30|h31|h32|h33|h34|h35|h36|h37 => (refine' K18.fhy ?a ?l ?c ?k; (case a => k_is); (case l => k_is); (case c => k_is); (case k => k_is)))
  (case aL|lL|cL|kL|z_len|z_range|z_list|z_isinstance|z_enumerate|z_sorted|z_int|z_bool|z_zip|z_max|z_tuple|ag_WorkError|ag_BadBelt|ag_BadKnot|ag_BadWork|ag_Belt|ag_Knot|ag_Source|ag_Drain|ag_Joiner|ag_State|ag_Work => k_is)
  (case hc_Belt => (refine ⟨?_, ?_, ?_, ?_, ?_, ?_, ?_, ?_⟩ <;> k_is))
  (case nf_room_Belt|nf_pace_Belt => (show PySem.W.findIn _ _ _ = _; k_is))
  (case h_Belt_init => (refine' K18.mhy ?a ?i ?l ?c ?k; (case a => k_is); (case i => k_is); (case l => k_is); (case c => k_is); (case k => k_is)))
  (case hc_Knot => (refine ⟨?_, ?_, ?_, ?_, ?_, ?_, ?_, ?_⟩ <;> k_is))
  (case nf_ins_Knot|nf_outs_Knot => (show PySem.W.findIn _ _ _ = _; k_is))
  (case aKnot_init|iKnot_init|lKnot_init|cKnot_init|kKnot_init|bga_Knot_init|brd_Knot_init|bfc_Knot_init => k_is)
  (case h_Knot_choice|h_Knot_copied => (refine' K18.mhy ?a ?i ?l ?c ?k; (case a => k_is); (case i => k_is); (case l => k_is); (case c => k_is); (case k => k_is)))
  (case hc_Source => (refine ⟨?_, ?_, ?_, ?_, ?_, ?_, ?_, ?_⟩ <;> k_is))
  (case nf_pace_Source|nf_kinds_Source|nf_ins_Source|nf_outs_Source => (show PySem.W.findIn _ _ _ = _; k_is))
  (case h_Source_init|h_Source_choice|h_Source_copied => (refine' K18.mhy ?a ?i ?l ?c ?k; (case a => k_is); (case i => k_is); (case l => k_is); (case c => k_is); (case k => k_is)))
  (case hc_Drain => (refine ⟨?_, ?_, ?_, ?_, ?_, ?_, ?_, ?_⟩ <;> k_is))
  (case nf_pace_Drain|nf_ins_Drain|nf_outs_Drain => (show PySem.W.findIn _ _ _ = _; k_is))
  (case h_Drain_init|h_Drain_choice|h_Drain_copied => (refine' K18.mhy ?a ?i ?l ?c ?k; (case a => k_is); (case i => k_is); (case l => k_is); (case c => k_is); (case k => k_is)))
  (case hc_Joiner => (refine ⟨?_, ?_, ?_, ?_, ?_, ?_, ?_, ?_⟩ <;> k_is))
  (case nf_ins_Joiner|nf_outs_Joiner => (show PySem.W.findIn _ _ _ = _; k_is))
  (case h_Joiner_init|h_Joiner_choice|h_Joiner_copied => (refine' K18.mhy ?a ?i ?l ?c ?k; (case a => k_is); (case i => k_is); (case l => k_is); (case c => k_is); (case k => k_is)))
  (case hc_State => (refine ⟨?_, ?_, ?_, ?_, ?_, ?_, ?_, ?_⟩ <;> k_is))
  (case nf_turn_State|nf_cells_State|nf_sides_State|nf_gone_State => (show PySem.W.findIn _ _ _ = _; k_is))
  (case h_State_init => (refine' K18.mhy ?a ?i ?l ?c ?k; (case a => k_is); (case i => k_is); (case l => k_is); (case c => k_is); (case k => k_is)))
  (case hc_Work => (refine ⟨?_, ?_, ?_, ?_, ?_, ?_, ?_, ?_⟩ <;> k_is))
  (case nf_belts_Work|nf_knots_Work => (show PySem.W.findIn _ _ _ = _; k_is))
  (case h_Work_init|h_Work_feeder|h_Work_taker|h_Work_drains|h_Work_sources|h_Work_beat => (refine' K18.mhy ?a ?i ?l ?c ?k; (case a => k_is); (case i => k_is); (case l => k_is); (case c => k_is); (case k => k_is)))
  (case wgn|wtk|ac_MOST_ROOM|ac_MOST_PACE|ac_MOST_KINDS|ac_FEWEST_WAYS|ac_MOST_WAYS|ac_MOST_BELTS|ac_MOST_KNOTS => k_is)
  (case xq_BadBelt => k_exc)
  (case xga_BadBelt|xgt_BadBelt|xcl_BadBelt|xhd_BadBelt|xmo_BadBelt|xmb_BadBelt => k_is)
  (case xq_BadKnot => k_exc)
  (case xga_BadKnot|xgt_BadKnot|xcl_BadKnot|xhd_BadKnot|xmo_BadKnot|xmb_BadKnot => k_is)
  (case xq_BadWork => k_exc)
  (case xga_BadWork|xgt_BadWork|xcl_BadWork|xhd_BadWork|xmo_BadWork|xmb_BadWork|xgn|xtk => k_is)
  (case k1_Belt_Joiner|k1_Knot_Joiner|k1_Source_Joiner|k1_Drain_Joiner|k1_Joiner_Joiner|k1_State_Joiner|k1_Work_Joiner|k1_Belt_State|k1_Knot_State|k1_Source_State|k1_Drain_State|k1_Joiner_State|k1_State_State|k1_Work_State => kit_is)
