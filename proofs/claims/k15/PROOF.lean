import PyProof.Rows.All
import Wide.All
import OpenK.AllK
import Wide.FinOn
import Lean
import PyProof.EqAt
import PyProof.EqKinds
import PyProof.TupleCall
import PyProof.NeKinds
import PyProof.SumWalkG
import PyProof.Rows.CallKwBuiltin
import PyProof.Rows.FStr
import PyProof.ListRange
import PyProof.ZipIter
import PyProof.CompFree
import KE.KIntText
import PyProof.StrWalks
import PyProof.Rows.StrMul
import PyProof.ConsumeWalk
import Wide.Txt
import PySem.Challenge.RW_beltshares_k15_whole_text_back
set_option Elab.async false
set_option linter.all false
set_option maxRecDepth 100000
set_option compiler.extract_closed false
set_option hygiene false
local macro_rules | `(tactic| walk_at "p") => `(tactic| first | exact Or.inl rfl | exact Or.inr rfl | assumption)
local macro_rules | `(tactic| walk_at "q") => `(tactic| first | exact L2.nobehind _ (by decide) (by decide) | rfl)
set_option hygiene true
namespace L2
open PySem PySem.Spec PyProof.Rows
abbrev Key := Sum Int Str
def Ql : Key → Value → Bool
 | .inl k, v => Value.isInt k v
 | .inr x, v => Value.isStrOf x v
def keyH (w : World) : Key → Int
 | .inl k => hashInt k
 | .inr x => hashStr w x
theorem qe : ∀ {k : Key} {v : Value}, Ql k v = true → (∃ i t, k = Sum.inl i ∧ v = Value.int i t) ∨ (∃ x t, k = Sum.inr x ∧ v = Value.str x t)
 | .inl i, v, h => by
  obtain ⟨t, e⟩ := Value.isInt_shape (k := i) (v := v) h
  exact .inl ⟨i, t, rfl, e⟩
 | .inr x, v, h => by
  obtain ⟨t, e⟩ := Value.isStrOf_shape (x := x) (v := v) h
  exact .inr ⟨x, t, rfl, e⟩
theorem key_ll (a b : Int) : decide ((Sum.inl a : Key) = Sum.inl b) = (a == b) := by
 by_cases e : a = b
 ·subst e; simp
 ·have h : ¬ (Sum.inl a : Key) = Sum.inl b := fun q => e (Sum.inl.inj q)
  rw [decide_eq_false h]
  exact (beq_eq_false_iff_ne.mpr e).symm
theorem key_rr (a b : Str) : decide ((Sum.inr a : Key) = Sum.inr b) = decide (a = b) := by
 by_cases e : a = b
 ·subst e; simp
 ·have h : ¬ (Sum.inr a : Key) = Sum.inr b := fun q => e (Sum.inr.inj q)
  rw [decide_eq_false h, decide_eq_false e]
theorem key_lr (a : Int) (b : Str) : decide ((Sum.inl a : Key) = Sum.inr b) = false := decide_eq_false (fun q => nomatch q)
theorem key_rl (a : Str) (b : Int) : decide ((Sum.inr a : Key) = Sum.inl b) = false := decide_eq_false (fun q => nomatch q)
def vA (prog : Program) (w : World) : PySem.KeyKind prog w Key where
 is := Ql
 hash := keyH w
 inj := fun v a b ha hb => by
  rcases qe ha with ⟨i, t, rfl, rfl⟩ | ⟨x, t, rfl, rfl⟩
  ·rcases qe hb with ⟨j, u, rfl, e⟩ | ⟨y, u, rfl, e⟩
   ·injection e with e1 _; rw [e1]
   ·exact nomatch e
  ·rcases qe hb with ⟨j, u, rfl, e⟩ | ⟨y, u, rfl, e⟩
   ·exact nomatch e
   ·injection e with e1 _; rw [e1]
 byValue := fun k v h => by
  rcases qe h with ⟨i, t, rfl, rfl⟩ | ⟨x, t, rfl, rfl⟩ <;> rfl
 pyHash := fun hv h => by
  rcases qe hv with ⟨i, t, rfl, rfl⟩ | ⟨x, t, rfl, rfl⟩
  ·exact wpAny_pyHash_int h
  ·exact wpAny_pyHash_str h
 eqBool := fun hu hv h => by
  rcases qe hu with ⟨i, t, rfl, rfl⟩ | ⟨x, t, rfl, rfl⟩
  ·rcases qe hv with ⟨j, u, rfl, rfl⟩ | ⟨y, u, rfl, rfl⟩
   ·rw [key_ll] at h; exact wpAny_eqBool_int h
   ·rw [key_lr] at h; exact SeqAt.EqAt.int_str i t y u _ _ _ _ h
  ·rcases qe hv with ⟨j, u, rfl, rfl⟩ | ⟨y, u, rfl, rfl⟩
   ·rw [key_rl] at h; exact SeqAt.EqAt.str_int x t j u _ _ _ _ h
   ·rw [key_rr] at h; exact wpAny_eqBool_str h
 «strs» := fun k x t v h => by
  rcases qe h with ⟨i, u, rfl, e⟩ | ⟨y, u, rfl, e⟩
  ·exact nomatch e
  ·injection e with e1 _
   subst e1
   cases v <;> rfl
end L2
namespace L2
open PySem PySem.Spec PyProof.Rows
inductive V where
 | non | bl (b : Bool) | int (i : Int) | str (x : Str) | byt (b : Array UInt8) | flt (b : UInt64) | ref (a : Addr) | ty (n : String)
 deriving DecidableEq
def RelV : V → Value → Prop
 | .non, u => u = Value.none
 | .bl b, u => u = Value.bool b
 | .int i, u => ∃ t, u = Value.int i t
 | .str x, u => ∃ t, u = Value.str x t
 | .byt b, u => ∃ t, u = Value.bytes b t
 | .flt b, u => ∃ t, u = Value.float b t
 | .ref a, u => u = Value.ref a
 | .ty n, u => u = Value.type n
abbrev Vals : List V → List Value → Prop := Paired RelV
theorem Vals.length {xs : List V} {us : List Value} (r : Vals xs us) : xs.length = us.length := Paired.length r
theorem Vals.get : ∀ {xs : List V} {us : List Value} {i : Nat} {x : V}, Vals xs us → xs[i]? = some x → ∃ u, us[i]? = some u ∧ RelV x u
 | _, _, _, _, .nil, e => by simp at e
 | _, _, 0, _, .cons r _, e => by simp at e; subst e; exact ⟨_, rfl, r⟩
 | _, _, i + 1, x, .cons _ t, e => by
  obtain ⟨u, h1, h2⟩ := Vals.get (i := i) (x := x) t (by simpa using e)
  exact ⟨u, by simpa using h1, h2⟩
theorem Vals.set {x : V} {u : Value} (r : RelV x u) : ∀ {xs : List V} {us : List Value} (i : Nat), Vals xs us → Vals (xs.set i x) (us.set i u)
 | _, _, _, .nil => .nil
 | _, _, 0, .cons _ t => .cons r t
 | _, _, i + 1, .cons q t => .cons q (Vals.set r i t)
theorem Vals.append : ∀ {xs ys : List V} {us ws : List Value}, Vals xs us → Vals ys ws → Vals (xs ++ ys) (us ++ ws)
 | _, _, _, _, .nil, s => s
 | _, _, _, _, .cons r t, s => .cons r (Vals.append t s)
theorem Vals.take : ∀ {xs : List V} {us : List Value} (n : Nat), Vals xs us → Vals (xs.take n) (us.take n)
 | _, _, 0, _ => .nil
 | _, _, _ + 1, .nil => .nil
 | _, _, n + 1, .cons r t => .cons r (Vals.take n t)
theorem Vals.drop : ∀ {xs : List V} {us : List Value} (n : Nat), Vals xs us → Vals (xs.drop n) (us.drop n)
 | _, _, 0, r => r
 | _, _, _ + 1, .nil => .nil
 | _, _, n + 1, .cons _ t => Vals.drop n t
theorem Vals.none_of : ∀ {xs : List V} {us : List Value} {i : Nat}, Vals xs us → xs[i]? = none → us[i]? = none := fun {xs us i} r e => by
 have h1 := r.length
 have h2 : xs.length ≤ i := List.getElem?_eq_none_iff.mp e
 exact List.getElem?_eq_none_iff.mpr (by omega)
def RelO : Option V → Option Value → Prop
 | some v, some u => RelV v u
 | none, none => True
 | _, _ => False
def KV {κ : Type} : List (κ × V) → List (κ × Value) → Prop := Paired fun (p : κ × V) (q : κ × Value) => p.1 = q.1 ∧ RelV p.2 q.2
def kV : Key → V
 | .inl i => .int i
 | .inr x => .str x
inductive HO where
 /-- a list -/
 | lst (xs : List V)
 /-- a tuple (never changes) -/
 | tup (xs : List V)
 /-- a dict whose keys are ints and texts; one whose keys are tuples of ints and texts (the empty one is both) -/
 | dK (kvs : List (Key × V)) | dT (kvs : List (List Key × V))
 /-- a set of ints: its members, its size -/
 | set (S : Int → Bool) (n : Nat)
 /-- an instance of the class at C, its dict at dx, its attributes -/
 | ins (C dx : Addr) (fs : List (Str × V))
 /-- the dict of the instance at x -/
 | own (x : Addr)
 /-- the dict of an exception -/
 | xd (fs : List (Str × V))
 /-- a bound method, f of x -/
 | met (f x : Addr)
 /-- a range object lo, lo + 1, .. below hi -/
 | rng (lo hi : Int)
 /-- a thing that is known to the object (the script; a dict while a loop walks it): read, never written while it is so -/
 | frz (o : Obj) (u : HO)
 /-- a code object's table -/
 | tbl (ps : Array Value)
 /-- any other thing, by what is true of its one object (a def of one's own: SetO a S n := HO.ext fun h => ..) -/
 | ext (φ : Heap → Prop)
abbrev Hp := Addr → Option HO
def upd (H : Hp) (a : Addr) (o : HO) : Hp := fun b => if b = a then some o else H b
theorem upd_same {H : Hp} {a : Addr} {o : HO} : upd H a o a = some o := by unfold upd; rw [if_pos rfl]
theorem upd_ne {H : Hp} {a b : Addr} {o : HO} (h : b ≠ a) : upd H a o b = H b := by unfold upd; rw [if_neg h]
theorem vq {H : Hp} {a : Addr} {o u : HO} : upd (upd H a o) a u = upd H a u := by
 funext b; unfold upd; split <;> rfl
theorem xS {H : Hp} {a b : Addr} {o u : HO} (h : H a = some o) (h' : H b = some u) (d : o ≠ u) : a ≠ b := by
 intro e; subst e; rw [h] at h'; exact d (Option.some.inj h')
theorem ne_of_none {H : Hp} {a b : Addr} {o : HO} (h : H a = some o) (h' : H b = none) : a ≠ b := by
 intro e; subst e; rw [h] at h'; cases h'
section
variable (P : Program) (w : World)
def ObjOk (H : Hp) (h : Heap) (a : Addr) : HO → Prop
 | .lst xs => xs.length ≤ sizeLine ∧ ∃ (its : List Value) (n : Nat), Vals xs its ∧ h.get? a = some { cls := .type "list", data := .seq its.toArray n }
 | .tup xs => xs.length ≤ sizeLine ∧ ∃ its : List Value, Vals xs its ∧ IsTup h a its.toArray
 | .dK kvs => kvs.length ≤ sizeLine ∧ (a == sysModules) = false ∧ ∃ vs, KV kvs vs ∧ h.DictOf (vA P w) a vs
 | .dT kvs => kvs.length ≤ sizeLine ∧ (a == sysModules) = false ∧ ∃ xs : List (List Key × Addr × Value),
   Paired (fun (p : List Key × V) (q : List Key × Addr × Value) => p.1 = q.1 ∧ H q.2.1 = some (.tup (p.1.map kV)) ∧ RelV p.2 q.2.2) kvs xs ∧
   ∃ o es ep, h.get? a = some o ∧ o.ExactDict ∧ o.data = .dict es ep ∧ es.toList = xs.map (entryOfKey (tupleKind (vA P w))) ∧ (xs.map (·.1)).Nodup
 | .set S n => h.SetOf (intKind P w) a S n
 | .ins C dx fs => H dx = some (.own a) ∧ fs.length ≤ 1000 ∧ dx ≠ a ∧ h.get? a = some (PySem.W.instObj C dx) ∧
   ∃ mA, h.Ns1 dx mA ∧ (∀ f, RelO (fs.lookup f) (mA f)) ∧ PySem.Within mA (fs.map (·.1))
 | .own _ => ∃ o, h.get? a = some o
 | .xd fs => ∃ mA, h.Ns1 a mA ∧ ∀ f, RelO (fs.lookup f) (mA f)
 | .rng lo hi => ∃ t u v, h.get? a = some { cls := .type "range", data := .fields #[.int lo t, .int hi u, .int 1 v] }
 | .frz o u => h.get? a = some o ∧ ObjOk H h a u
 | .tbl ps => h.get? a = some { cls := .none, data := .fields ps }
 | .met f x => h.get? a = some (PySem.W.methodObj (.ref f) (.ref x))
 | .ext φ => φ h ∧ (∃ o, h.get? a = some o) ∧ ∀ h1 h2 : Heap, φ h1 → (∀ o, h1.get? a = some o → h2.get? a = some o) → φ h2
def HOk (H : Hp) (h : Heap) : Prop := ∀ a o, H a = some o → ObjOk P w H h a o
end
section
variable {P : Program} {w : World} {H H' : Hp} {h h' : Heap} {a : Addr} {o : HO}
theorem ObjOk.lt (x : ObjOk P w H h a o) : a < h.objs.size := by
 cases o with
 | lst xs => obtain ⟨_, _, _, _, e⟩ := x; exact Heap.lt_size e
 | tup xs => obtain ⟨_, _, _, p⟩ := x; exact p.lt
 | dK kvs => obtain ⟨_, _, _, _, o, _, _, e, _⟩ := x; exact Heap.lt_size e
 | dT kvs => obtain ⟨_, _, _, _, o, _, _, e, _⟩ := x; exact Heap.lt_size e
 | set S n => obtain ⟨o, _, _, _, e, _⟩ := x; exact Heap.lt_size e
 | ins C dx fs => obtain ⟨_, _, _, e, _⟩ := x; exact Heap.lt_size e
 | own y => obtain ⟨_, e⟩ := x; exact Heap.lt_size e
 | xd fs => obtain ⟨_, ⟨_, _, _, e, _⟩, _⟩ := x; exact Heap.lt_size e
 | rng lo hi => obtain ⟨_, _, _, e⟩ := x; exact Heap.lt_size e
 | frz ob u => obtain ⟨e, _⟩ := x; exact Heap.lt_size e
 | tbl ps => exact Heap.lt_size (show h.get? a = some _ from x)
 | met f y => exact Heap.lt_size (show h.get? a = some _ from x)
 | ext φ => obtain ⟨_, ⟨_, e⟩, _⟩ := x; exact Heap.lt_size e
theorem Paired.mapP {α β : Type} {F G : α → β → Prop} : ∀ {l₁ : List α} {l₂ : List β}, Paired F l₁ l₂ → (∀ a b, F a b → G a b) → Paired G l₁ l₂
 | _, _, .nil, _ => .nil
 | _, _, .cons r t, f => .cons (f _ _ r) (Paired.mapP t f)
theorem ObjOk.stay (x : ObjOk P w H h a o) (k : ∀ b u, (b = a ∨ H b = some (.own a)) → h.get? b = some u → h'.get? b = some u)
  (ho : ∀ b, H b = some (.own a) → H' b = some (.own a)) (ht : ∀ b xs, H b = some (.tup xs) → H' b = some (.tup xs)) : ObjOk P w H' h' a o := by
 induction o with
 | lst xs => obtain ⟨z, its, n, r, e⟩ := x; exact ⟨z, its, n, r, k _ _ (.inl rfl) e⟩
 | tup xs => obtain ⟨z, its, r, ob, e, c⟩ := x; exact ⟨z, its, r, ob, k _ _ (.inl rfl) e, c⟩
 | dK kvs => obtain ⟨z, y, vs, r, ob, es, ep, e, c⟩ := x; exact ⟨z, y, vs, r, ob, es, ep, k _ _ (.inl rfl) e, c⟩
 | dT kvs =>
  obtain ⟨z, y, xs, r, ob, es, ep, e, c⟩ := x
  exact ⟨z, y, xs, Paired.mapP r fun p q z => ⟨z.1, ht _ _ z.2.1, z.2.2⟩, ob, es, ep, k _ _ (.inl rfl) e, c⟩
 | set S n => obtain ⟨ob, es, ep, t, e, c⟩ := x; exact ⟨ob, es, ep, t, k _ _ (.inl rfl) e, c⟩
 | ins C dx fs =>
  obtain ⟨d, z, ne, e, mA, ⟨od, es, ep, e2, c⟩, r⟩ := x
  exact ⟨ho _ d, z, ne, k _ _ (.inl rfl) e, mA, ⟨od, es, ep, k _ _ (.inr d) e2, c⟩, r⟩
 | own y => obtain ⟨ob, e⟩ := x; exact ⟨ob, k _ _ (.inl rfl) e⟩
 | xd fs => obtain ⟨mA, ⟨od, es, ep, e, c⟩, r⟩ := x; exact ⟨mA, ⟨od, es, ep, k _ _ (.inl rfl) e, c⟩, r⟩
 | rng lo hi => obtain ⟨t, u, v, e⟩ := x; exact ⟨t, u, v, k _ _ (.inl rfl) e⟩
 | frz ob u ih => obtain ⟨e, q⟩ := x; exact ⟨k _ _ (.inl rfl) e, ih q⟩
 | tbl ps =>
  have e : h.get? a = some { cls := .none, data := .fields ps } := x
  show h'.get? a = some { cls := .none, data := .fields ps }
  exact k a _ (.inl rfl) e
 | met f y =>
  have e : h.get? a = some (PySem.W.methodObj (.ref f) (.ref y)) := x
  show h'.get? a = some (PySem.W.methodObj (.ref f) (.ref y))
  exact k a _ (.inl rfl) e
 | ext φ => obtain ⟨p, ⟨o, e⟩, st⟩ := x; exact ⟨st _ _ p fun o q => k _ _ (.inl rfl) q, ⟨o, k _ _ (.inl rfl) e⟩, st⟩
theorem HOk.lt (x : HOk P w H h) (e : H a = some o) : a < h.objs.size := (x a o e).lt
theorem HOk.fresh (x : HOk P w H h) (e : h.objs.size ≤ a) : H a = none := by
 cases q : H a with
 | none => rfl
 | some u => exact absurd (Nat.lt_of_lt_of_le (x.lt q) e) (Nat.lt_irrefl _)
theorem HOk.kept (x : HOk P w H h) (k : ∀ b u, h.get? b = some u → h'.get? b = some u) : HOk P w H h' := fun a o e =>
 (x a o e).stay (fun b u _ q => k b u q) (fun _ q => q) fun _ _ q => q
theorem HOk.laid (x : HOk P w H h) (k : ∀ b u, h.get? b = some u → h'.get? b = some u) (hp : h.objs.size ≤ a) (new : ObjOk P w (upd H a o) h' a o) : HOk P w (upd H a o) h' := fun b u e => by
 have hn := x.fresh hp
 by_cases hb : b = a
 ·subst hb; rw [upd_same] at e; cases e; exact new
 ·rw [upd_ne hb] at e
  exact (x b u e).stay (fun c v _ q => k c v q) (fun c q => by rw [upd_ne (ne_of_none q hn)]; exact q) fun c xs q => by rw [upd_ne (ne_of_none q hn)]; exact q
end
def Rd (H : Hp) (a : Addr) (u : HO) : Prop := H a = some u ∨ ∃ o, H a = some (.frz o u)
theorem Rd.of {H : Hp} {a : Addr} {u : HO} (h : H a = some u) : Rd H a u := .inl h
theorem Rd.ok {P : Program} {w : World} {H : Hp} {h : Heap} {a : Addr} {u : HO} (r : Rd H a u) (x : HOk P w H h) : ObjOk P w H h a u := by
 rcases r with r | ⟨o, r⟩
 ·exact x a u r
 ·obtain ⟨_, q⟩ := x a _ r
  exact q
def Mut : Option HO → Prop
 | some (.lst _) => True
 | some (.dK _) => True
 | some (.dT _) => True
 | some (.set _ _) => True
 | some (.ins _ _ _) => True
 | some (.ext _) => True
 | _ => False
section
variable {P : Program} {w : World} {H : Hp} {h h' : Heap} {x e : Addr} {o' : HO}
theorem HOk.write (ok : HOk P w H h) (mu : Mut (H x)) (he : e = x ∨ H e = some (.own x)) (k : ∀ b u, b ≠ e → h.get? b = some u → h'.get? b = some u) (heo : ∃ u, h'.get? e = some u)
  (new : ObjOk P w (upd H x o') h' x o') : HOk P w (upd H x o') h' := fun b u q => by
 have nown : ∀ c y, H c = some (.own y) → c ≠ x := fun c y r z => by subst z; rw [r] at mu; exact mu
 have ntup : ∀ c xs, H c = some (.tup xs) → c ≠ x := fun c xs r z => by subst z; rw [r] at mu; exact mu
 by_cases hb : b = x
 ·subst hb; rw [upd_same] at q; cases q; exact new
 ·rw [upd_ne hb] at q
  by_cases hbe : b = e
  ·have q' : H b = some (.own x) := by
    rcases he with z | z
    ·exact absurd (hbe.trans z) hb
    ·rw [hbe]; exact z
   rw [q] at q'; cases q'
   obtain ⟨v, hv⟩ := heo
   exact ⟨v, by rw [hbe]; exact hv⟩
  ·refine (ok b u q).stay (fun c v hc r => k c v ?_ r) (fun c r => by rw [upd_ne (nown c b r)]; exact r) fun c xs r => by rw [upd_ne (ntup c xs r)]; exact r
   rcases hc with rfl | hc
   ·exact hbe
   ·rintro rfl
    rcases he with z | z
    ·exact nown c b hc z
    ·rw [hc] at z; cases z; exact hb rfl
end
structure Un (fs ex : List Addr) (H H' : Hp) (h h' : Heap) : Prop where
 keep : ∀ b o, h.get? b = some o → H b = none → b ∉ fs → b ∉ ex → h'.get? b = some o
 slot : ∀ b o, h.get? b = some o → H b = none → b ∈ fs → b ∉ ex → ∃ sl, h'.get? b = some { o with slots := sl }
 free : ∀ b o, h.get? b = some o → H b = none → b ∉ ex → H' b = none
 there : ∀ b o, h.get? b = some o → b ∉ ex → ∃ o', h'.get? b = some o'
 tups : ∀ b xs, H b = some (.tup xs) → H' b = some (.tup xs)
 frzs : ∀ b o u, H b = some (.frz o u) → H' b = some (.frz o u)
 tbls : ∀ b ps, H b = some (.tbl ps) → ∃ more, H' b = some (.tbl (ps ++ more))
section
variable {fs fs' ex ex' : List Addr} {H H1 H2 : Hp} {h h1 h2 h' : Heap} {a x e : Addr} {o : HO}
theorem Un.any (u : Un fs ex H H1 h h1) {b : Addr} {ob : Obj} (q : h.get? b = some ob) (n : H b = none) (hx : b ∉ ex) : ∃ sl, h1.get? b = some { ob with slots := sl } := by
 by_cases hb : b ∈ fs
 ·exact u.slot b ob q n hb hx
 ·exact ⟨ob.slots, u.keep b ob q n hb hx⟩
theorem Un.trans (a : Un fs ex H H1 h h1) (b : Un fs ex H1 H2 h1 h2) : Un fs ex H H2 h h2 where
 keep := fun c ob q n hc hx => b.keep c ob (a.keep c ob q n hc hx) (a.free c ob q n hx) hc hx
 slot := fun c ob q n hc hx => by
  obtain ⟨sl, e1⟩ := a.slot c ob q n hc hx
  obtain ⟨sl', e2⟩ := b.slot c _ e1 (a.free c ob q n hx) hc hx
  exact ⟨sl', e2⟩
 free := fun c ob q n hx => by
  obtain ⟨o', e1⟩ := a.there c ob q hx
  exact b.free c o' e1 (a.free c ob q n hx) hx
 there := fun c ob q hx => by
  obtain ⟨o', e1⟩ := a.there c ob q hx
  exact b.there c o' e1 hx
 tups := fun c xs q => b.tups c xs (a.tups c xs q)
 frzs := fun c ob xs q => b.frzs c ob xs (a.frzs c ob xs q)
 tbls := fun c ps q => by
  obtain ⟨m1, e1⟩ := a.tbls c ps q
  obtain ⟨m2, e2⟩ := b.tbls c _ e1
  exact ⟨m1 ++ m2, by rw [e2, Array.append_assoc]⟩
theorem Un.kept (k : ∀ b u, h.get? b = some u → h'.get? b = some u) : Un fs ex H H h h' :=
 ⟨fun b ob q _ _ _ => k b ob q, fun b ob q _ _ _ => ⟨ob.slots, k b ob q⟩, fun _ _ _ n _ => n, fun b ob q _ => ⟨ob, k b ob q⟩, fun _ _ q => q, fun _ _ _ q => q, fun _ ps q => ⟨#[], by rw [q]; simp⟩⟩
theorem Un.refl : Un fs ex H H h h := Un.kept fun _ _ q => q
theorem Un.laid (k : ∀ b u, h.get? b = some u → h'.get? b = some u) (hp : h.objs.size ≤ a) (hn : H a = none) : Un fs ex H (upd H a o) h h' where
 keep := fun b u q _ _ _ => k b u q
 slot := fun b u q _ _ _ => ⟨u.slots, k b u q⟩
 free := fun b u q n _ => by rw [upd_ne (Nat.ne_of_lt (Nat.lt_of_lt_of_le (Heap.lt_size q) hp))]; exact n
 there := fun b u q _ => ⟨u, k b u q⟩
 tups := fun b xs q => by rw [upd_ne (ne_of_none q hn)]; exact q
 frzs := fun b u xs q => by rw [upd_ne (ne_of_none q hn)]; exact q
 tbls := fun b ps q => ⟨#[], by rw [upd_ne (ne_of_none q hn), q]; simp⟩
theorem Un.write (mu : Mut (H x)) (he : e = x ∨ H e = some (.own x)) (k : ∀ b u, b ≠ e → h.get? b = some u → h'.get? b = some u) (heo : ∃ u, h'.get? e = some u) : Un fs ex H (upd H x o) h h' := by
 have hx : ∀ b, H b = none → b ≠ x := fun b n z => by subst z; rw [n] at mu; exact mu
 have hb : ∀ b, H b = none → b ≠ e := fun b n z => by
  subst z
  rcases he with r | r
  ·exact hx b n r
  ·rw [n] at r; cases r
 have hm : ∀ b u, H b = some u → ¬ Mut (some u) → b ≠ x := fun b u q nm z => by subst z; rw [q] at mu; exact nm mu
 refine ⟨fun b u q n _ _ => k b u (hb b n) q, fun b u q n _ _ => ⟨u.slots, k b u (hb b n) q⟩, fun b u q n _ => by rw [upd_ne (hx b n)]; exact n, fun b u q _ => ?_,
  fun b xs q => by rw [upd_ne (hm b _ q fun z => z)]; exact q, fun b u xs q => by rw [upd_ne (hm b _ q fun z => z)]; exact q, fun b ps q => ⟨#[], by rw [upd_ne (hm b _ q fun z => z), q]; simp⟩⟩
 by_cases hbe : b = e
 ·subst hbe; exact heo
 ·exact ⟨u, k b u hbe q⟩
theorem Un.mono (u : Un fs ex H H1 h h1) (hs : ∀ b ∈ fs, b ∈ fs') (hx : ∀ b ∈ ex, b ∈ ex') : Un fs' ex' H H1 h h1 :=
 ⟨fun b ob q n hb he => u.keep b ob q n (fun z => hb (hs b z)) fun z => he (hx b z), fun _ _ q n _ he => u.any q n fun z => he (hx _ z), fun b ob q n he => u.free b ob q n fun z => he (hx b z), fun b ob q he => u.there b ob q fun z => he (hx b z), u.tups, u.frzs, u.tbls⟩
end
def trk (h : Heap) (H : Hp) : List Addr := (List.range h.objs.size).filter fun a => (H a).isSome
def hidT (h : Heap) (H : Hp) : Heap := PySem.W.hideAll h (trk h H)
theorem hidT_size (h : Heap) (H : Hp) : (hidT h H).objs.size = h.objs.size := PySem.W.hideAll_size _ _
theorem hidT_get {h : Heap} {H : Hp} {b : Addr} {o : Obj} (e : h.get? b = some o) (n : H b = none) : (hidT h H).get? b = some o :=
 PySem.W.hideAll_get _ e fun hm => by
  have q : (H b).isSome = true := (List.mem_filter.mp hm).2
  rw [n] at q; simp at q
theorem of_hidT {h : Heap} {H : Hp} {b : Addr} {o : Obj} (e : (hidT h H).get? b = some o) : h.get? b = some o ∧ H b = none := by
 have e' : h.get? b = some o := PySem.W.of_hideAll (trk h H) e
 refine ⟨e', ?_⟩
 cases q : H b with
 | none => rfl
 | some x =>
  have hm : b ∈ trk h H := List.mem_filter.mpr ⟨List.mem_range.mpr (Heap.lt_size e'), by simp [q]⟩
  have z : (hidT h H).get? b = none := PySem.W.hideAll_none (trk h H) hm
  rw [z] at e; cases e
def allNews (g h : Heap) (L : Addr) : List (Addr × Obj) := (List.range h.objs.size).filterMap fun a => if a = L ∨ (g.get? a).isSome = true then none else (h.get? a).map fun o => (a, o)
def rest (g h : Heap) (L d : Addr) : List (Addr × Obj) := (allNews g h L).filter fun p => decide (p.1 ≠ d)
end L2
namespace L2
open PySem PySem.Spec PyProof.Rows
structure Mod (K : PySem.W.Frag) (mg : Str → Option Value) (base : Heap) : Prop where
 kin : K.In base
 glob : base.Ns mainGlobals mg
 blt : ∃ mb, base.Ns builtinsNs mb ∧ ∀ x : Str, x ≠ "__name__" → mb x = bootBuiltins x
 nolimit : base.NoLimit
structure Cx where
 prog : Program
 w : World
 K : PySem.W.Frag
 mg : Str → Option Value
 base : Heap
 A : Around
 N : List Str
 s₀ : Shared
 H₀ : Hp
 env : Env
 outer : List Env
 stack : List Env
 ex : List Addr
 fn : Str → Bool
 calm : Bool
 pn : List (Addr × Obj)
 xe : Value → Shared → Prop
def frs (l : List Env) : List Addr := l.filterMap (·.frame)
abbrev Cx.fs (X : Cx) : List Addr := frs X.outer
def Vis (sc : Scope) (x : Str) : Prop := sc.names.lookup x = some .local ∨ sc.names.lookup x = some .cell ∨ sc.names.lookup x = some .free
def Loc (sc : Scope) (x : Str) : Prop := sc.names.lookup x = some .local ∨ sc.names.lookup x = some .cell
def Look (env : Env) (h : Heap) (m : Str → Option Value) (x : Str) (u : Value) : Prop :=
 (env.kindOf x = some .local ∧ m x = some u) ∨ ((env.kindOf x = some .cell ∨ env.kindOf x = some .free) ∧ ∃ c, env.cells.lookup x = some c ∧ h.IsCell c (some u))
structure Cx.Ok (X : Cx) : Prop where
 mod : Mod X.K X.mg X.base
 kind : X.env.scope.kind = .function
 glob : X.env.globals = mainGlobals
 blt : X.env.builtins = builtinsNs
 above : X.s₀.heap.objs.size ≤ X.env.locals
 inj : ∀ x y c, X.env.cells.lookup x = some c → X.env.cells.lookup y = some c → x = y
 has : ∀ x, (X.env.kindOf x = some .cell ∨ X.env.kindOf x = some .free) → ∃ c, X.env.cells.lookup x = some c
 cab : ∀ x c, X.fn x = true → X.env.cells.lookup x = some c → X.s₀.heap.objs.size ≤ c
 hd : X.calm = true → X.A.handled = none
 frames : X.A.frames = some X.stack
 stk : X.stack = X.outer ∨ (X.stack = X.env :: X.outer ∧ X.env.frame = some X.env.locals)
 exf : ∀ b ∈ X.ex, b ≠ X.env.locals ∧ ∀ x c, X.env.cells.lookup x = some c → c ≠ b
 bs : ∀ b o, X.base.get? b = some o → X.s₀.heap.get? b = some o ∧ X.H₀ b = none
 bsz : X.base.objs.size ≤ X.s₀.heap.objs.size
 noex : ∀ b o, X.base.get? b = some o → b ∉ X.ex
 exfs : ∀ b ∈ X.ex, b ∉ X.fs
 funs : X.s₀.heap.FunFrames X.base X.outer
 frf : ∀ b ∈ X.fs, X.H₀ b = none
structure Inv (X : Cx) (pins : List (Addr × Obj)) (σ : List (Option V)) (H : Hp) (s : Shared) : Prop where
 ok : X.Ok
 os : s.os = X.s₀.os
 bare : AllBare s.gens
 base : Un X.fs X.ex X.H₀ H X.s₀.heap s.heap
 loc : ∃ m, s.heap.Ns X.env.locals m ∧ ∀ (i : Nat) (x : Str) (v : V), X.N[i]? = some x → σ[i]? = some (some v) → Vis X.env.scope x → ∃ u, RelV v u ∧ Look X.env s.heap m x u
 cell : ∀ x c, X.env.cells.lookup x = some c → ∃ v, s.heap.IsCell c v
 free : H X.env.locals = none
 freeC : ∀ x c, X.env.cells.lookup x = some c → H c = none
 pin : ∀ p ∈ X.pn ++ pins, s.heap.get? p.1 = some p.2 ∧ H p.1 = none ∧ p.1 ≠ X.env.locals ∧ p.1 ∉ X.fs ∧ ∀ v, p.2.data ≠ .cell v
 hok : HOk X.prog X.w H s.heap
 len : σ.length = X.N.length
section
variable {X : Cx} {pins : List (Addr × Obj)} {σ : List (Option V)} {H H' : Hp} {s : Shared} {h' : Heap}
theorem Cx.Ok.nofr (ok : X.Ok) {b : Addr} {o : Obj} (e : X.base.get? b = some o) : b ∉ X.fs := fun hb => by
 have := (ok.funs.mem hb).1
 rw [e] at this; cases this
theorem Inv.bs (I : Inv X pins σ H s) : ∀ b o, X.base.get? b = some o → s.heap.get? b = some o ∧ H b = none := fun b o e =>
 ⟨I.base.keep b o (I.ok.bs b o e).1 (I.ok.bs b o e).2 (I.ok.nofr e) (I.ok.noex b o e), I.base.free b o (I.ok.bs b o e).1 (I.ok.bs b o e).2 (I.ok.noex b o e)⟩
theorem Inv.bk (I : Inv X pins σ H s) : ∀ b o, X.base.get? b = some o → s.heap.get? b = some o := fun b o e => (I.bs b o e).1
theorem Inv.mod (I : Inv X pins σ H s) : Mod X.K X.mg X.base := I.ok.mod
theorem Inv.kIn (I : Inv X pins σ H s) : X.K.In s.heap := I.ok.mod.kin.keeps I.bk
theorem Inv.nolimit (I : Inv X pins σ H s) : s.heap.NoLimit := I.ok.mod.nolimit.keeps I.bk
theorem Inv.fr (I : Inv X pins σ H s) : ∃ m, Fr X.base X.env.locals s.heap m :=
 let ⟨m, hn, _⟩ := I.loc
 ⟨m, hn, I.bk, Nat.le_trans I.ok.bsz I.ok.above⟩
theorem Inv.lt (I : Inv X pins σ H s) : X.env.locals < s.heap.objs.size := let ⟨_, hn, _⟩ := I.loc; hn.lt
theorem Inv.sz (I : Inv X pins σ H s) : X.s₀.heap.objs.size ≤ s.heap.objs.size := Nat.le_trans I.ok.above (Nat.le_of_lt I.lt)
theorem Inv.nofs (I : Inv X pins σ H s) {a : Addr} (h : s.heap.objs.size ≤ a) : a ∉ X.fs := fun hb => by
 obtain ⟨_, o, ho, _⟩ := I.ok.funs.mem hb
 exact absurd (Nat.lt_of_lt_of_le (Heap.lt_size ho) (Nat.le_trans I.sz h)) (Nat.lt_irrefl _)
theorem Inv.cne (I : Inv X pins σ H s) : ∀ x c, X.env.cells.lookup x = some c → c ≠ X.env.locals := fun x c e z => by
 obtain ⟨v, o, ho, hd⟩ := I.cell x c e
 obtain ⟨m, ⟨o', es, ep, ho', hd', _⟩, _⟩ := I.loc
 rw [z, ho'] at ho; cases ho; rw [hd'] at hd; cases hd
theorem Inv.funs (I : Inv X pins σ H s) : s.heap.FunFrames X.base X.outer := by
 have all : ∀ (l : List Env), (∀ b ∈ frs l, b ∈ X.fs) → X.s₀.heap.FunFrames X.base l → s.heap.FunFrames X.base l := by
  intro l
  induction l with
  | nil => intro _ _; trivial
  | cons env r ih =>
   intro hs hl
   obtain ⟨hk, ⟨L, o, hf, hn, ho, hd⟩, hr⟩ := hl
   have hL : L ∈ X.fs := hs L (by unfold frs; rw [List.filterMap_cons, hf]; exact List.mem_cons_self)
   obtain ⟨sl, e⟩ := I.base.slot L o ho (I.ok.frf L hL) hL fun z => I.ok.exfs L z hL
   exact ⟨hk, ⟨L, _, hf, hn, e, hd⟩, ih (fun b hb => hs b (by unfold frs; rw [List.filterMap_cons, hf]; exact List.mem_cons_of_mem _ hb)) hr⟩
 exact all X.outer (fun _ hb => hb) I.ok.funs
theorem Inv.stack (I : Inv X pins σ H s) : s.heap.FunFrames X.base X.stack := by
 rcases I.ok.stk with e | ⟨e, hf⟩
 ·rw [e]; exact I.funs
 ·rw [e]
  obtain ⟨m, hn, _⟩ := I.loc
  refine .cons (by rw [I.ok.kind]; decide) hf hn ?_ I.funs
  exact Heap.get?_none_of_le (Nat.le_trans I.ok.bsz I.ok.above)
theorem Inv.stkSub (I : Inv X pins σ H s) : ∀ b ∈ frs X.stack, b ∈ X.env.locals :: X.fs := fun b hb => by
 rcases I.ok.stk with e | ⟨e, hf⟩
 ·rw [e] at hb; exact List.mem_cons_of_mem _ hb
 ·rw [e] at hb
  unfold frs at hb
  rw [List.filterMap_cons, hf] at hb
  exact hb
theorem Inv.stkFree (I : Inv X pins σ H s) : ∀ b ∈ frs X.stack, H b = none := fun b hb => by
 rcases List.mem_cons.mp (I.stkSub b hb) with e | hb
 ·rw [e]; exact I.free
 ·obtain ⟨_, o, ho, _⟩ := I.ok.funs.mem hb
  exact I.base.free b o ho (I.ok.frf b hb) fun z => I.ok.exfs b z hb
theorem Inv.step {g' : Array GenState} {t' : Nat} {d' : Drawn} {ch : List Addr} (I : Inv X pins σ H s)
  (hch : ∀ b ∈ ch, (b ∈ X.ex ∨ X.s₀.heap.objs.size ≤ b) ∧ b ≠ X.env.locals ∧ (∀ x c, X.env.cells.lookup x = some c → c ≠ b) ∧ ∀ p ∈ X.pn ++ pins, p.1 ≠ b)
  (keep : ∀ b o, b ≠ X.env.locals → b ∉ X.fs → b ∉ ch → s.heap.get? b = some o → H b = none → h'.get? b = some o)
  (slot : ∀ b o, b ≠ X.env.locals → b ∈ X.fs → b ∉ ch → s.heap.get? b = some o → H b = none → ∃ sl, h'.get? b = some { o with slots := sl }) (free : ∀ b o, b ∉ ch → s.heap.get? b = some o → H b = none → H' b = none)
  (there : ∀ b o, b ∉ ch → s.heap.get? b = some o → ∃ o', h'.get? b = some o')
  (tups : ∀ b xs, H b = some (.tup xs) → H' b = some (.tup xs)) (frzs : ∀ b o u, H b = some (.frz o u) → H' b = some (.frz o u)) (tbls : ∀ b ps, H b = some (.tbl ps) → ∃ more, H' b = some (.tbl (ps ++ more)))
  (ns : ∀ m, s.heap.Ns X.env.locals m → h'.Ns X.env.locals m) (hok : HOk X.prog X.w H' h') (hg : AllBare g') :
  Inv X pins σ H' { s with heap := h', gens := g', drawn := d', toks := t' } := by
 have neL : ∀ b o, X.s₀.heap.get? b = some o → b ≠ X.env.locals := fun b o e => Nat.ne_of_lt (Nat.lt_of_lt_of_le (Heap.lt_size e) I.ok.above)
 have neC : ∀ b o, X.s₀.heap.get? b = some o → b ∉ X.ex → b ∉ ch := fun b o e hx hb => by
  rcases (hch b hb).1 with z | z
  ·exact hx z
  ·exact absurd (Nat.lt_of_lt_of_le (Heap.lt_size e) z) (Nat.lt_irrefl _)
 have cellK : ∀ x c, X.env.cells.lookup x = some c → ∀ v, s.heap.IsCell c v → h'.IsCell c v := fun x c e v ⟨o, ho, hd⟩ => by
  have nch : c ∉ ch := fun z => (hch c z).2.2.1 x c e rfl
  by_cases hc : c ∈ X.fs
  ·obtain ⟨sl, q⟩ := slot c o (I.cne x c e) hc nch ho (I.freeC x c e)
   exact ⟨_, q, hd⟩
  ·exact ⟨o, keep c o (I.cne x c e) hc nch ho (I.freeC x c e), hd⟩
 refine ⟨I.ok, I.os, hg, ⟨fun b o e n hb hx => ?_, fun b o e n hb hx => ?_, fun b o e n hx => ?_, fun b o e hx => ?_, fun b xs e => tups b xs (I.base.tups b xs e), fun b o xs e => frzs b o xs (I.base.frzs b o xs e), fun b ps e => ?_⟩, ?_, fun x c e => ?_, ?_, fun x c e => ?_, fun p hp => ?_, hok, I.len⟩
 ·exact keep b o (neL b o e) hb (neC b o e hx) (I.base.keep b o e n hb hx) (I.base.free b o e n hx)
 ·obtain ⟨sl, e1⟩ := I.base.slot b o e n hb hx
  obtain ⟨sl', e2⟩ := slot b _ (neL b o e) hb (neC b o e hx) e1 (I.base.free b o e n hx)
  exact ⟨sl', e2⟩
 ·obtain ⟨o', e1⟩ := I.base.there b o e hx
  exact free b o' (neC b o e hx) e1 (I.base.free b o e n hx)
 ·obtain ⟨o', e1⟩ := I.base.there b o e hx
  exact there b o' (neC b o e hx) e1
 ·obtain ⟨m1, e1⟩ := I.base.tbls b ps e
  obtain ⟨m2, e2⟩ := tbls b _ e1
  exact ⟨m1 ++ m2, by rw [e2, Array.append_assoc]⟩
 ·obtain ⟨m, hn, hl⟩ := I.loc
  refine ⟨m, ns m hn, fun i x v e1 e2 e3 => ?_⟩
  obtain ⟨u, r, l⟩ := hl i x v e1 e2 e3
  refine ⟨u, r, ?_⟩
  rcases l with l | ⟨k, c, e, z⟩
  ·exact .inl l
  ·exact .inr ⟨k, c, e, cellK x c e _ z⟩
 ·obtain ⟨v, z⟩ := I.cell x c e
  exact ⟨v, cellK x c e v z⟩
 ·obtain ⟨m, ⟨o, _, _, ho, _⟩, _⟩ := I.loc
  exact free _ o (fun z => (hch _ z).2.1 rfl) ho I.free
 ·obtain ⟨v, o, ho, hd⟩ := I.cell x c e
  exact free c o (fun z => (hch c z).2.2.1 x c e rfl) ho (I.freeC x c e)
 ·obtain ⟨e, n, ne, nf, d⟩ := I.pin p hp
  have nch : p.1 ∉ ch := fun z => (hch p.1 z).2.2.2 p hp rfl
  exact ⟨keep p.1 p.2 ne nf nch e n, free p.1 p.2 nch e n, ne, nf, d⟩
theorem Inv.un {t' : Nat} (I : Inv X pins σ H s) (u : Un X.fs [] H H' s.heap h') (hok : HOk X.prog X.w H' h') : Inv X pins σ H' { s with heap := h', toks := t' } := by
 obtain ⟨m, ⟨o, es, ep, ho, r⟩, _⟩ := id I.loc
 obtain ⟨sl, hL⟩ := u.any ho I.free (by simp)
 exact I.step (g' := s.gens) (d' := s.drawn) (ch := []) (fun _ z => nomatch z) (fun b o _ hb _ e n => u.keep b o e n hb (by simp)) (fun b o _ hb _ e n => u.slot b o e n hb (by simp)) (fun b o _ e n => u.free b o e n (by simp)) (fun b o _ e => u.there b o e (by simp)) u.tups u.frzs u.tbls (fun m' hm => by
  obtain ⟨o', es', ep', ho', r'⟩ := hm
  rw [ho] at ho'; cases ho'
  exact ⟨_, es', ep', hL, r'⟩) hok I.bare
theorem Inv.call {g' : Array GenState} {t' : Nat} {d' : Drawn} {ch : List Addr} (I : Inv X pins σ H s) (u : Un (frs X.stack) ch H H' s.heap h') (hok : HOk X.prog X.w H' h') (hg : AllBare g')
  (hch : ∀ b ∈ ch, (b ∈ X.ex ∨ X.s₀.heap.objs.size ≤ b) ∧ b ≠ X.env.locals ∧ (∀ x c, X.env.cells.lookup x = some c → c ≠ b) ∧ ∀ p ∈ X.pn ++ pins, p.1 ≠ b) :
  Inv X pins σ H' { s with heap := h', gens := g', drawn := d', toks := t' } := by
 obtain ⟨m, ⟨o, es, ep, ho, r⟩, _⟩ := id I.loc
 obtain ⟨sl, hL⟩ := u.any ho I.free fun z => (hch _ z).2.1 rfl
 exact I.step (ch := ch) hch (fun b o hL hb hc e n => u.keep b o e n (fun z => (List.mem_cons.mp (I.stkSub b z)).elim hL hb) hc) (fun b o _ _ hc e n => u.any e n hc) (fun b o hc e n => u.free b o e n hc) (fun b o hc e => u.there b o e hc) u.tups u.frzs u.tbls (fun m' hm => by
  obtain ⟨o', es', ep', ho', r'⟩ := hm
  rw [ho] at ho'; cases ho'
  exact ⟨_, es', ep', hL, r'⟩) hok hg
theorem Inv.turned {t' : Nat} {it : Addr} (I : Inv X pins σ H s) (k : ∀ b o, b ≠ it → s.heap.get? b = some o → h'.get? b = some o) (hn : H it = none) (hL : it ≠ X.env.locals)
  (h1 : it ∈ X.ex ∨ X.s₀.heap.objs.size ≤ it) (h2 : ∀ x c, X.env.cells.lookup x = some c → c ≠ it) (h3 : ∀ p ∈ X.pn ++ pins, p.1 ≠ it) : Inv X pins σ H { s with heap := h', toks := t' } := by
 have nit : ∀ b u, H b = some u → b ≠ it := fun b u e z => by rw [z, hn] at e; cases e
 refine I.step (g' := s.gens) (d' := s.drawn) (ch := [it]) (fun b hb => ?_) (fun b o _ _ hc e _ => k b o (fun z => hc (by simp [z])) e) (fun b o _ _ hc e _ => ⟨o.slots, k b o (fun z => hc (by simp [z])) e⟩) (fun _ _ _ _ n => n)
  (fun b o hc e => ⟨o, k b o (fun z => hc (by simp [z])) e⟩) (fun _ _ e => e) (fun _ _ _ e => e) (fun b ps e => ⟨#[], by rw [e]; simp⟩) (fun m hm => ?_) (fun b u e => ?_) I.bare
 ·have e : b = it := by simpa using hb
  subst e
  exact ⟨h1, hL, h2, h3⟩
 ·obtain ⟨o, es, ep, ho, r⟩ := hm
  exact ⟨o, es, ep, k _ o (Ne.symm hL) ho, r⟩
 ·refine (I.hok b u e).stay (fun c v hc q => k c v ?_ q) (fun _ q => q) fun _ _ q => q
  rcases hc with z | z
  ·rw [z]; exact nit b u e
  ·exact nit c _ z
theorem Inv.tok (I : Inv X pins σ H s) (t : Nat) : Inv X pins σ H { s with toks := t } := I.un (h' := s.heap) (t' := t) Un.refl I.hok
theorem Inv.kept {t' : Nat} (I : Inv X pins σ H s) (k : ∀ b u, s.heap.get? b = some u → h'.get? b = some u) : Inv X pins σ H { s with heap := h', toks := t' } := I.un (Un.kept k) (I.hok.kept k)
theorem Inv.laid {a : Addr} {o : HO} {t' : Nat} (I : Inv X pins σ H s) (k : ∀ b u, s.heap.get? b = some u → h'.get? b = some u) (hp : s.heap.objs.size ≤ a) (new : ObjOk X.prog X.w (upd H a o) h' a o) :
  Inv X pins σ (upd H a o) { s with heap := h', toks := t' } := I.un (Un.laid k hp (I.hok.fresh hp)) (I.hok.laid k hp new)
theorem Inv.write {x e : Addr} {o : HO} {t' : Nat} (I : Inv X pins σ H s) (mu : Mut (H x)) (he : e = x ∨ H e = some (.own x)) (k : ∀ b u, b ≠ e → s.heap.get? b = some u → h'.get? b = some u) (heo : ∃ u, h'.get? e = some u)
  (new : ObjOk X.prog X.w (upd H x o) h' x o) : Inv X pins σ (upd H x o) { s with heap := h', toks := t' } := I.un (Un.write mu he k heo) (I.hok.write mu he k heo new)
theorem Inv.pins_of {pins' : List (Addr × Obj)} (I : Inv X pins σ H s) (h : ∀ p ∈ pins', s.heap.get? p.1 = some p.2 ∧ H p.1 = none ∧ p.1 ≠ X.env.locals ∧ p.1 ∉ X.fs ∧ ∀ v, p.2.data ≠ .cell v) : Inv X pins' σ H s :=
 ⟨I.ok, I.os, I.bare, I.base, I.loc, I.cell, I.free, I.freeC, fun p hp => (List.mem_append.mp hp).elim (fun z => I.pin p (List.mem_append_left _ z)) (h p), I.hok, I.len⟩
theorem vR {N : List Str} (hN : N.Nodup) {i j : Nat} {x : Str} (a : N[i]? = some x) (b : N[j]? = some x) : i = j := by
 obtain ⟨h1, e1⟩ := List.getElem?_eq_some_iff.mp a
 obtain ⟨h2, e2⟩ := List.getElem?_eq_some_iff.mp b
 exact (List.getElem_inj hN).mp (e1.trans e2.symm)
theorem wT {M : Model} {A : Around} {E : Value → Shared → Prop} {i : Nat} {x : Str} {v : V} {u : Value} {Q : Unit → Shared → Prop} (I : Inv X pins σ H s) (hN : X.N.Nodup) (hi : X.N[i]? = some x) (hx : Loc X.env.scope x) (r : RelV v u)
  (h : ∀ s', Inv X pins (σ.set i (some v)) H s' → (∃ a, Heap.SameBut a s.heap s'.heap ∧ (a = X.env.locals ∨ X.env.cells.lookup x = some a)) → Q () s') (hf : X.fn x = true ∨ X.env.scope.names.lookup x = some .local := by walk_at "p") : wpAny M A (storeName X.env x u) Q E s := by
 obtain ⟨m, hn, hl⟩ := id I.loc
 have hcls : (X.env.scope.kind == .class || (X.env.scope.kind == .module && X.env.locals != X.env.globals)) = false := by rw [I.ok.kind]; rfl
 have hiσ : i < σ.length := by rw [I.len]; exact (List.getElem?_eq_some_iff.mp hi).1
 have cne := I.cne
 have tracked : ∀ {a : Addr} {h' : Heap}, (∃ o, s.heap.get? a = some o ∧ H a = none) → Heap.SameBut a s.heap h' → HOk X.prog X.w H h' := fun {a h'} ha hs b ob e => by
  obtain ⟨_, _, hfree⟩ := ha
  refine (I.hok b ob e).stay (fun c w' hc q => (hs.2 c ?_).trans q) (fun _ q => q) fun _ _ q => q
  rintro rfl
  rcases hc with rfl | hc
  ·rw [hfree] at e; cases e
  ·rw [hfree] at hc; cases hc
 rcases hx with hk | hk
 ·refine wpAny_storeName_local hk hn (fun h' hn' hs => ?_) hcls
  obtain ⟨oL, _, _, hoL, _⟩ := id hn
  refine h _ ⟨I.ok, I.os, I.bare, ⟨fun b o e n hb hx => ?_, fun b o e n hb hx => ?_, I.base.free, fun b o e hx => ?_, I.base.tups, I.base.frzs, I.base.tbls⟩, ⟨_, hn', fun j y v' e1 e2 e3 => ?_⟩, fun y c e => ?_, I.free, I.freeC, fun p hp => ?_, tracked ⟨oL, hoL, I.free⟩ hs, by simpa using I.len⟩ ⟨_, hs, .inl rfl⟩
  ·exact (hs.2 b (Nat.ne_of_lt (Nat.lt_of_lt_of_le (Heap.lt_size e) I.ok.above))).trans (I.base.keep b o e n hb hx)
  ·obtain ⟨sl, e1⟩ := I.base.slot b o e n hb hx
   exact ⟨sl, (hs.2 b (Nat.ne_of_lt (Nat.lt_of_lt_of_le (Heap.lt_size e) I.ok.above))).trans e1⟩
  ·obtain ⟨o', e1⟩ := I.base.there b o e hx
   exact ⟨o', (hs.2 b (Nat.ne_of_lt (Nat.lt_of_lt_of_le (Heap.lt_size e) I.ok.above))).trans e1⟩
  ·by_cases hj : j = i
   ·subst hj
    rw [hi] at e1; cases e1
    rw [List.getElem?_set_self hiσ] at e2
    cases e2
    exact ⟨u, r, .inl ⟨hk, by simp⟩⟩
   ·rw [List.getElem?_set_ne (Ne.symm hj)] at e2
    obtain ⟨u', r', q⟩ := hl j y v' e1 e2 e3
    refine ⟨u', r', ?_⟩
    rcases q with ⟨k, e⟩ | ⟨k, c, e, z⟩
    ·refine .inl ⟨k, ?_⟩
     have : y ≠ x := fun e => hj (vR hN e1 (e ▸ hi))
     simp [this, e]
    ·exact .inr ⟨k, c, e, z.sameBut hs (cne y c e)⟩
  ·obtain ⟨w', z⟩ := I.cell y c e
   exact ⟨w', z.sameBut hs (cne y c e)⟩
  ·obtain ⟨e, n, ne, nf, d⟩ := I.pin p hp
   exact ⟨(hs.2 p.1 ne).trans e, n, ne, nf, d⟩
 ·have hfn : X.fn x = true := by
   rcases hf with z | z
   ·exact z
   ·rw [z] at hk; cases hk
  obtain ⟨c, hc⟩ := I.ok.has x (.inl hk)
  obtain ⟨w', z⟩ := I.cell x c hc
  refine wpAny_storeName_cell I.ok.kind hk hc z (fun h' hc' hs => ?_)
  obtain ⟨oc, hoc, hocd⟩ := id z
  refine h { s with heap := h' } ⟨I.ok, I.os, I.bare, ⟨fun b o e n hb hx => ?_, fun b o e n hb hx => ?_, I.base.free, fun b o e hx => ?_, I.base.tups, I.base.frzs, I.base.tbls⟩, ⟨m, hn.sameBut hs (Ne.symm (cne x c hc)), fun j y v' e1 e2 e3 => ?_⟩, fun y c' e => ?_, I.free, I.freeC, fun p hp => ?_, tracked ⟨oc, hoc, I.freeC x c hc⟩ hs, by simpa using I.len⟩ ⟨c, hs, .inr hc⟩
  ·exact (hs.2 b (Nat.ne_of_lt (Nat.lt_of_lt_of_le (Heap.lt_size e) (I.ok.cab x c hfn hc)))).trans (I.base.keep b o e n hb hx)
  ·obtain ⟨sl, e1⟩ := I.base.slot b o e n hb hx
   exact ⟨sl, (hs.2 b (Nat.ne_of_lt (Nat.lt_of_lt_of_le (Heap.lt_size e) (I.ok.cab x c hfn hc)))).trans e1⟩
  ·obtain ⟨o', e1⟩ := I.base.there b o e hx
   exact ⟨o', (hs.2 b (Nat.ne_of_lt (Nat.lt_of_lt_of_le (Heap.lt_size e) (I.ok.cab x c hfn hc)))).trans e1⟩
  ·by_cases hj : j = i
   ·subst hj
    rw [hi] at e1; cases e1
    rw [List.getElem?_set_self hiσ] at e2
    cases e2
    exact ⟨u, r, .inr ⟨.inl hk, c, hc, hc'⟩⟩
   ·rw [List.getElem?_set_ne (Ne.symm hj)] at e2
    obtain ⟨u', r', q⟩ := hl j y v' e1 e2 e3
    refine ⟨u', r', ?_⟩
    rcases q with q | ⟨k, c', e, z'⟩
    ·exact .inl q
    ·refine .inr ⟨k, c', e, z'.sameBut hs ?_⟩
     rintro rfl
     exact hj (vR hN e1 (I.ok.inj _ _ _ e hc ▸ hi))
  ·by_cases hcc : c' = c
   ·subst hcc; exact ⟨_, hc'⟩
   ·obtain ⟨w2, z2⟩ := I.cell y c' e
    exact ⟨w2, z2.sameBut hs hcc⟩
  ·obtain ⟨e, n, ne, nf, d⟩ := I.pin p hp
   refine ⟨(hs.2 p.1 ?_).trans e, n, ne, nf, d⟩
   intro q
   rw [q, hoc] at e
   have q' : oc = p.2 := Option.some.inj e
   exact d w' (by rw [← q']; exact hocd)
theorem vH {M : Model} {A : Around} {E : Value → Shared → Prop} {i : Nat} {x : Str} {v : V} {u : Value} {Q : Unit → Shared → Prop} (I : Inv X pins σ H s) (hN : X.N.Nodup) (hi : X.N[i]? = some x) (hx : Loc X.env.scope x) (r : RelV v u)
  (h : ∀ s', Inv X pins (σ.set i (some v)) H s' → Q () s') (hf : X.fn x = true ∨ X.env.scope.names.lookup x = some .local := by walk_at "p") : wpAny M A (storeName X.env x u) Q E s :=
 wT I hN hi hx r (fun s' I' _ => h s' I') hf
theorem Inv.call' {s' : Shared} {ch : List Addr} (I : Inv X pins σ H s) (ho : s'.os = s.os) (u : Un (frs X.stack) ch H H' s.heap s'.heap) (hok : HOk X.prog X.w H' s'.heap) (hg : AllBare s'.gens)
  (hch : ∀ b ∈ ch, (b ∈ X.ex ∨ X.s₀.heap.objs.size ≤ b) ∧ b ≠ X.env.locals ∧ (∀ x c, X.env.cells.lookup x = some c → c ≠ b) ∧ ∀ p ∈ X.pn ++ pins, p.1 ≠ b) : Inv X pins σ H' s' := by
 obtain ⟨h', g', d', t', o'⟩ := s'
 have e : o' = s.os := ho
 subst e
 exact I.call (g' := g') (t' := t') (d' := d') u hok hg hch
end
abbrev XK := Value → Option Addr → Hp → Prop
abbrev St := List (Option V)
abbrev VK := V → Hp → Prop
abbrev TE := St → Hp → VK → Prop
abbrev TT := St → Hp → (Bool → Hp → Prop) → Prop
abbrev TA := St → Hp → (List V → Hp → Prop) → Prop
structure Ends where
 nx : St → Hp → Prop
 rt : VK
 bk : St → Hp → Prop := fun _ _ => False
 ct : St → Hp → Prop := fun _ _ => False
abbrev TS := Ends → St → Hp → Prop
def EP (X : Cx) (pins : List (Addr × Obj)) (σ : St) (Q : VK) (u : Value) (s' : Shared) : Prop := ∃ v H', Inv X pins σ H' s' ∧ RelV v u ∧ Q v H'
def TP (X : Cx) (pins : List (Addr × Obj)) (σ : St) (Q : Bool → Hp → Prop) (b : Bool) (s' : Shared) : Prop := ∃ H', Inv X pins σ H' s' ∧ Q b H'
def AP (X : Cx) (pins : List (Addr × Obj)) (σ : St) (Q : List V → Hp → Prop) (us : List Value) (s' : Shared) : Prop := ∃ vs H', Inv X pins σ H' s' ∧ Vals vs us ∧ Q vs H'
def SP (X : Cx) (pins : List (Addr × Obj)) (D : Ends) (f : Flow) (s' : Shared) : Prop :=
 match f with
 | .next => ∃ σ' H', Inv X pins σ' H' s' ∧ D.nx σ' H'
 | .brk => ∃ σ' H', Inv X pins σ' H' s' ∧ D.bk σ' H'
 | .cont => ∃ σ' H', Inv X pins σ' H' s' ∧ D.ct σ' H'
 | .ret u => ∃ v σ' H', Inv X pins σ' H' s' ∧ RelV v u ∧ D.rt v H'
def PE (X : Cx) (e : Expr) (t : TE) : Prop :=
 ∀ (pins : List (Addr × Obj)) (s : Shared) (σ : St) (H : Hp) (Q : VK), Inv X pins σ H s → t σ H Q → wpAny (model X.prog X.w) X.A (eval e X.env) (EP X pins σ Q) X.xe s
def PT (X : Cx) (e : Expr) (t : TT) : Prop :=
 ∀ (pins : List (Addr × Obj)) (s : Shared) (σ : St) (H : Hp) (Q : Bool → Hp → Prop), Inv X pins σ H s → t σ H Q → wpAny (model X.prog X.w) X.A (isTrue e X.env (eval e X.env)) (TP X pins σ Q) X.xe s
def PW (X : Cx) (e : Expr) (t : TT) : Prop :=
 ∀ (whole : Sem Value) (pins : List (Addr × Obj)) (s : Shared) (σ : St) (H : Hp) (Q : Bool → Hp → Prop), Inv X pins σ H s → t σ H Q → wpAny (model X.prog X.w) X.A (isTrue e X.env whole) (TP X pins σ Q) X.xe s
theorem PW.pt {X : Cx} {e : Expr} {t : TT} (h : PW X e t) : PT X e t := h _
def PA (X : Cx) (es : List Expr) (t : TA) : Prop :=
 ∀ (pos : Pos) (pins : List (Addr × Obj)) (s : Shared) (σ : St) (H : Hp) (Q : List V → Hp → Prop), Inv X pins σ H s → t σ H Q → wpAny (model X.prog X.w) X.A (spliced (backTo pos (starEach es X.env))) (AP X pins σ Q) X.xe s
def PS (X : Cx) (st : Stmt) (t : TS) : Prop :=
 ∀ (pins : List (Addr × Obj)) (s : Shared) (σ : St) (H : Hp) (D : Ends), Inv X pins σ H s → t D σ H → wpAny (model X.prog X.w) X.A (exec st X.env) (SP X pins D) X.xe s
def PSs (X : Cx) (st : List Stmt) (t : TS) : Prop :=
 ∀ (pins : List (Addr × Obj)) (s : Shared) (σ : St) (H : Hp) (D : Ends), Inv X pins σ H s → t D σ H → wpAny (model X.prog X.w) X.A (execs st X.env) (SP X pins D) X.xe s
theorem thn {α : Type} {t : Sem α} {Q Q' : α → Shared → Prop} {M : Model} {A : Around} {E : Value → Shared → Prop} {s : Shared} (h : wpAny M A t Q E s) (hQ : ∀ a s, Q a s → Q' a s) : wpAny M A t Q' E s := wpAny_mono h hQ fun _ _ x => x
end L2
namespace L2
open PySem PySem.Spec PyProof.Rows
section
variable {X : Cx}
def tVar (i : Nat) : TE := fun σ H Q => ∃ v, σ[i]? = some (some v) ∧ Q v H
def tC (v : V) : TE := fun _ H Q => Q v H
theorem pe_var {i : Nat} {x : Str} {pos : Pos} (hN : X.N[i]? = some x) (hv : Vis X.env.scope x) (hd : (x == ("__debug__" : Str)) = false := by decide) (hcd : (x == ("__classdict__" : Str)) = false := by decide) : PE X (.Name x pos) (tVar i) := by
 intro pins s σ H Q I h
 obtain ⟨v, e, h⟩ := h
 obtain ⟨m, hn, hl⟩ := I.loc
 obtain ⟨u, r, l⟩ := hl i x v hN e hv
 have fin : EP X pins σ Q u s := ⟨v, H, I, r, h⟩
 rcases l with ⟨hk, hm⟩ | ⟨hk, c, hc, hcell⟩
 ·exact wpAny_Name (wpAny_loadName_local I.ok.kind hk hn hm fin) hd
 ·rcases hk with hk | hk
  ·exact wpAny_Name (wpAny_loadName_cell I.ok.kind hk hc hcell fin) hd
  ·exact wpAny_Name (wpAny_loadName_free I.ok.kind hk hc hcell fin hcd) hd
theorem zd {i j pos} : PE X (.Constant (.int i) j pos) (tC (.int i)) := fun _ _ _ H _ I h => wpAny_Constant_int ⟨.int i, H, I.tok _, ⟨_, rfl⟩, h⟩
theorem jr {b j pos} : PE X (.Constant (.bool b) j pos) (tC (.bl b)) := fun _ _ _ H _ I h => Constant_bool ⟨.bl b, H, I, rfl, h⟩
theorem qi {j pos} : PE X (.Constant .none j pos) (tC .non) := fun _ _ _ H _ I h => Constant_none ⟨.non, H, I, rfl, h⟩
theorem zu {x j pos} : PE X (.Constant (.str x) j pos) (tC (.str x)) := fun _ _ _ H _ I h => Calls.Constant_str ⟨.str x, H, I.tok _, ⟨_, rfl⟩, h⟩
def Gl (X : Cx) (x : Str) : Prop := X.env.kindOf x = some .globalImplicit
theorem qE {E : Value → Shared → Prop} {pins : List (Addr × Obj)} {s : Shared} {σ : St} {H : Hp} {x : Str} {u : Value} {pos : Pos} {Q : Value → Shared → Prop} (I : Inv X pins σ H s) (hg : Gl X x) (hm : X.mg x = some u) (h : Q u s)
  (hd : (x == ("__debug__" : Str)) = false := by decide) : wpAny (model X.prog X.w) X.A (eval (.Name x pos) X.env) Q E s :=
 Calls.Name_function_global I.ok.kind hg (Calls.loadGlobal_global (by rw [I.ok.glob]; exact I.mod.glob.keeps I.bk) hm h) hd
theorem j3 {E : Value → Shared → Prop} {pins : List (Addr × Obj)} {s : Shared} {σ : St} {H : Hp} {x : Str} {u : Value} {pos : Pos} {Q : Value → Shared → Prop} (I : Inv X pins σ H s) (hg : Gl X x) (hm : X.mg x = none) (hv : bootBuiltins x = some u) (h : Q u s)
  (hn : x ≠ "__name__" := by decide) (hd : (x == ("__debug__" : Str)) = false := by decide) : wpAny (model X.prog X.w) X.A (eval (.Name x pos) X.env) Q E s := by
 obtain ⟨mb, h1, h2⟩ := I.mod.blt
 exact Calls.Name_function_global I.ok.kind hg (Calls.loadGlobal_builtin (by rw [I.ok.glob]; exact I.mod.glob.keeps I.bk) hm (by rw [I.ok.blt]; exact h1.keeps I.bk) ((h2 x hn).trans hv) h) hd
variable {a b : Expr} {ta tb : TE} {pos : Pos}
def PC (X : Cx) (op : CmpOp) (a b : Expr) (t : TE) : Prop :=
 ∀ (pins : List (Addr × Obj)) (s : Shared) (σ : St) (H : Hp) (Q : VK), Inv X pins σ H s → t σ H Q →
  wpAny (model X.prog X.w) X.A (eval a X.env) (fun v s₁ => wpAny (model X.prog X.w) X.A (eval b X.env) (fun u s₂ => wpAny (model X.prog X.w) X.A (compareOp op v u) (EP X pins σ Q) X.xe s₂) X.xe s₁) X.xe s
theorem nobehind (b : Expr) {op : CmpOp} (h : op ≠ .In) (h2 : op ≠ .NotIn) : behindInMarks op b = false := by
 have e1 : (op == CmpOp.In) = false := by cases op <;> first | rfl | exact absurd rfl h
 have e2 : (op == CmpOp.NotIn) = false := by cases op <;> first | rfl | exact absurd rfl h2
 cases b <;> simp [behindInMarks, e1, e2]
variable {tA tB' : TT} {rest : List Expr}
def tAnd (t u : TT) : TT := fun σ H Q => t σ H fun c H1 => if c = true then u σ H1 Q else Q false H1
def tOr (t u : TT) : TT := fun σ H Q => t σ H fun c H1 => if c = true then Q true H1 else u σ H1 Q
def tNot (t : TT) : TT := fun σ H Q => t σ H fun c H1 => Q (!c) H1
theorem pw_and1 (ha : PT X a tA) : PW X (.BoolOp .And [a] pos) tA := by
 intro wh pins s σ H Q I h
 refine isTrue_and (thn (ha pins s σ H Q I h) fun c s1 e => ?_)
 cases c with
 | true => exact isTrue_and_nil e
 | false => exact e
theorem pw_or1 (ha : PT X a tA) : PW X (.BoolOp .Or [a] pos) tA := by
 intro wh pins s σ H Q I h
 refine isTrue_or (thn (ha pins s σ H Q I h) fun c s1 e => ?_)
 cases c with
 | false => exact isTrue_or_nil e
 | true => exact e
theorem pw_and (ha : PT X a tA) (hb : PW X (.BoolOp .And (b :: rest) pos) tB') : PW X (.BoolOp .And (a :: b :: rest) pos) (tAnd tA tB') := by
 intro wh pins s σ H Q I h
 refine isTrue_and (thn (ha pins s σ H _ I h) fun c s1 ⟨H1, I1, q1⟩ => ?_)
 cases c with
 | true => exact hb wh pins s1 σ H1 Q I1 q1
 | false => exact ⟨H1, I1, q1⟩
theorem pw_or (ha : PT X a tA) (hb : PW X (.BoolOp .Or (b :: rest) pos) tB') : PW X (.BoolOp .Or (a :: b :: rest) pos) (tOr tA tB') := by
 intro wh pins s σ H Q I h
 refine isTrue_or (thn (ha pins s σ H _ I h) fun c s1 ⟨H1, I1, q1⟩ => ?_)
 cases c with
 | true => exact ⟨H1, I1, q1⟩
 | false => exact hb wh pins s1 σ H1 Q I1 q1
theorem zZ (ha : PT X a tA) : PT X (.UnaryOp .Not a pos) (tNot tA) := by
 intro pins s σ H Q I h
 exact isTrue_not (ha pins s σ H (fun c H1 => Q (!c) H1) I h)
def tAndV (ta tb : TE) : TE := fun σ H Q => ta σ H fun x H1 => ∃ c, x = .bl c ∧ if c = true then tb σ H1 Q else Q (.bl false) H1
def tOrV (ta tb : TE) : TE := fun σ H Q => ta σ H fun x H1 => ∃ c, x = .bl c ∧ if c = true then Q (.bl true) H1 else tb σ H1 Q
def tNotV (ta : TE) : TE := fun σ H Q => ta σ H fun x H1 => ∃ c, x = .bl c ∧ Q (.bl (!c)) H1
theorem xD {op} {t : TE} (h : PE X a t) : PE X (.BoolOp op [a] pos) t := fun pins s σ H Q I hw => BoolOp_one (h pins s σ H Q I hw)
theorem jY (ha : PE X a ta) (hb : PE X (.BoolOp .And (b :: rest) pos) tb) : PE X (.BoolOp .And (a :: b :: rest) pos) (tAndV ta tb) := by
 intro pins s σ H Q I h
 refine BoolOp_and (thn (ha pins s σ H _ I h) fun v s1 ⟨x, H1, I1, r1, q1⟩ => ?_)
 obtain ⟨c, rfl, q1⟩ := q1
 cases r1
 refine wpAny_truthy_bool ?_
 cases c with
 | true => exact hb pins s1 σ H1 Q I1 q1
 | false => exact ⟨.bl false, H1, I1, rfl, q1⟩
def tIf (t : TT) (ta tb : TE) : TE := fun σ H Q => t σ H fun c H1 => if c = true then ta σ H1 Q else tb σ H1 Q
theorem pe_ifExp {c : Expr} (hc : PT X c tA) (ha : PE X a ta) (hb : PE X b tb) : PE X (.IfExp c a b pos) (tIf tA ta tb) := by
 intro pins s σ H Q I h
 refine wpAny_IfExp (thn (hc pins s σ H _ I h) fun d s1 ⟨H1, I1, q1⟩ => ?_)
 cases d with
 | true => exact ha pins s1 σ H1 Q I1 q1
 | false => exact hb pins s1 σ H1 Q I1 q1
end
end L2
namespace L2
open PySem PySem.Spec PyProof.Rows
def SqL (K : PySem.W.Frag) (H : Hp) (a : Addr) (xs : List V) : Prop :=
 Rd H a (.lst xs) ∨
  ∃ (o : Obj) (its : Array Value) (n : Nat), K.lookup a = some o ∧ o.cls = .type "list" ∧ o.dict = none ∧ o.data = .seq its n ∧ its.size ≤ sizeLine ∧ Vals xs its.toList
def SqT (K : PySem.W.Frag) (H : Hp) (a : Addr) (xs : List V) : Prop :=
 Rd H a (.tup xs) ∨
  ∃ (o : Obj) (its : Array Value) (n : Nat), K.lookup a = some o ∧ o.cls = .type "tuple" ∧ o.data = .seq its n ∧ its.size ≤ sizeLine ∧ Vals xs its.toList
def absV : Value → Option V
 | .none => some .non
 | .bool b => some (.bl b)
 | .int i _ => some (.int i)
 | .str x _ => some (.str x)
 | .bytes b _ => some (.byt b)
 | .float b _ => some (.flt b)
 | .ref a => some (.ref a)
 | .type n => some (.ty n)
 | _ => none
theorem RelV.abs {x : V} {u : Value} (r : RelV x u) : absV u = some x := by
 cases x with
 | non => cases r; rfl
 | bl _ => cases r; rfl
 | int _ => obtain ⟨t, rfl⟩ := r; rfl
 | str _ => obtain ⟨t, rfl⟩ := r; rfl
 | byt _ => obtain ⟨t, rfl⟩ := r; rfl
 | flt _ => obtain ⟨t, rfl⟩ := r; rfl
 | ref _ => cases r; rfl
 | ty _ => cases r; rfl
theorem RelV.inj {x y : V} {u : Value} (r : RelV x u) (q : RelV y u) : x = y := Option.some.inj (r.abs.symm.trans q.abs)
theorem Vals.inj : ∀ {xs ys : List V} {us : List Value}, Vals xs us → Vals ys us → xs = ys
 | _, _, _, .nil, .nil => rfl
 | _, _, _, .cons r t, .cons r' t' => by rw [r.inj r', Vals.inj t t']
section
variable {X : Cx} {pins : List (Addr × Obj)} {σ : St} {H : Hp} {s : Shared} {a : Addr} {xs ys : List V}
theorem SqL.of {K : PySem.W.Frag} (h : H a = some (.lst xs)) : SqL K H a xs := .inl (.inl h)
theorem SqT.of {K : PySem.W.Frag} (h : H a = some (.tup xs)) : SqT K H a xs := .inl (.inl h)
theorem Inv.list (I : Inv X pins σ H s) (h : SqL X.K H a xs) : ∃ its : List Value, Vals xs its ∧ PlainL s.heap a its.toArray ∧ xs.length ≤ sizeLine := by
 rcases h with h | ⟨o, its, n, hk, hc, hd, hs, hz, r⟩
 ·obtain ⟨z, its, n, r, e⟩ := h.ok I.hok
  exact ⟨its, r, ⟨_, n, e, rfl, rfl, rfl⟩, z⟩
 ·refine ⟨its.toList, r, ⟨o, n, I.kIn a o hk, hc, hd, by simpa using hs⟩, ?_⟩
  have e := r.length
  simp only [Array.length_toList] at e
  omega
theorem Inv.tuple (I : Inv X pins σ H s) (h : SqT X.K H a xs) : ∃ its : List Value, Vals xs its ∧ IsTup s.heap a its.toArray ∧ xs.length ≤ sizeLine := by
 rcases h with h | ⟨o, its, n, hk, hc, hs, hz, r⟩
 ·obtain ⟨z, its, r, p⟩ := h.ok I.hok
  exact ⟨its, r, p, z⟩
 ·refine ⟨its.toList, r, ⟨o, I.kIn a o hk, hc, n, by simpa using hs⟩, ?_⟩
  have e := r.length
  simp only [Array.length_toList] at e
  omega
theorem Inv.list_inj (I : Inv X pins σ H s) (h : SqL X.K H a xs) (h' : SqL X.K H a ys) : xs = ys := by
 obtain ⟨its, r, ⟨o, n, e, _, _, d⟩, _⟩ := I.list h
 obtain ⟨its', r', ⟨o', n', e', _, _, d'⟩, _⟩ := I.list h'
 rw [e] at e'; cases e'
 rw [d] at d'
 injection d' with d1 _
 have : its = its' := by simpa using congrArg Array.toList d1
 subst this
 exact r.inj r'
theorem Inv.tuple_inj (I : Inv X pins σ H s) (h : SqT X.K H a xs) (h' : SqT X.K H a ys) : xs = ys := by
 obtain ⟨its, r, ⟨o, e, _, n, d⟩, _⟩ := I.tuple h
 obtain ⟨its', r', ⟨o', e', _, n', d'⟩, _⟩ := I.tuple h'
 rw [e] at e'; cases e'
 rw [d] at d'
 injection d' with d1 _
 have : its = its' := by simpa using congrArg Array.toList d1
 subst this
 exact r.inj r'
end
abbrev Cx.wish (X : Cx) (E : Value → Shared → Prop) : Cx := { X with xe := E }
abbrev Cx.nox (X : Cx) : Cx := X.wish fun _ _ => False
theorem Cx.Ok.wish {X : Cx} (ok : X.Ok) (E : Value → Shared → Prop) : (X.wish E).Ok :=
 ⟨ok.mod, ok.kind, ok.glob, ok.blt, ok.above, ok.inj, ok.has, ok.cab, ok.hd, ok.frames, ok.stk, ok.exf, ok.bs, ok.bsz, ok.noex, ok.exfs, ok.funs, ok.frf⟩
theorem Cx.Ok.unwish {X : Cx} {E : Value → Shared → Prop} (ok : (X.wish E).Ok) : X.Ok :=
 ⟨ok.mod, ok.kind, ok.glob, ok.blt, ok.above, ok.inj, ok.has, ok.cab, ok.hd, ok.frames, ok.stk, ok.exf, ok.bs, ok.bsz, ok.noex, ok.exfs, ok.funs, ok.frf⟩
section
variable {X : Cx} {pins : List (Addr × Obj)} {σ : St} {H : Hp} {s : Shared} {E : Value → Shared → Prop}
theorem Inv.wish (I : Inv X pins σ H s) (E : Value → Shared → Prop) : Inv (X.wish E) pins σ H s := ⟨I.ok.wish E, I.os, I.bare, I.base, I.loc, I.cell, I.free, I.freeC, I.pin, I.hok, I.len⟩
theorem Inv.unwish (I : Inv (X.wish E) pins σ H s) : Inv X pins σ H s := ⟨I.ok.unwish, I.os, I.bare, I.base, I.loc, I.cell, I.free, I.freeC, I.pin, I.hok, I.len⟩
theorem SP.unwish {D : Ends} {f : Flow} {s' : Shared} (h : SP (X.wish E) pins D f s') : SP X pins D f s' := by
 cases f with
 | next => obtain ⟨σ', H', I, q⟩ := h; exact ⟨σ', H', I.unwish, q⟩
 | brk => obtain ⟨σ', H', I, q⟩ := h; exact ⟨σ', H', I.unwish, q⟩
 | cont => obtain ⟨σ', H', I, q⟩ := h; exact ⟨σ', H', I.unwish, q⟩
 | ret u => obtain ⟨v, σ', H', I, r, q⟩ := h; exact ⟨v, σ', H', I.unwish, r, q⟩
theorem PE.nox {e : Expr} {t : TE} (h : PE X.nox e t) : PE X e t := fun pins s σ H Q I hw =>
 wpAny_mono (h pins s σ H Q (I.wish _) hw) (fun _ _ ⟨v, H', I', r, q⟩ => ⟨v, H', I'.unwish, r, q⟩) fun _ _ z => False.elim z
theorem PT.nox {e : Expr} {t : TT} (h : PT X.nox e t) : PT X e t := fun pins s σ H Q I hw =>
 wpAny_mono (h pins s σ H Q (I.wish _) hw) (fun _ _ ⟨H', I', q⟩ => ⟨H', I'.unwish, q⟩) fun _ _ z => False.elim z
theorem PSs.nox {st : List Stmt} {t : TS} (h : PSs X.nox st t) : PSs X st t := fun pins s σ H D I hw =>
 wpAny_mono (h pins s σ H D (I.wish _) hw) (fun _ _ q => q.unwish) fun _ _ z => False.elim z
end
section
variable {X : Cx} {st : Stmt} {rest : List Stmt} {t u : TS} {e : Expr} {te : TE} {pos : Pos}
def tNext : TS := fun D σ H => D.nx σ H
def tSeq (t u : TS) : TS := fun D σ H => t { D with nx := u D } σ H
theorem zk : PSs X [] tNext := fun _ _ σ H _ I h => wpAny_execs_nil ⟨σ, H, I, h⟩
theorem zt (h1 : PS X st t) (h2 : PSs X rest u) : PSs X (st :: rest) (tSeq t u) := by
 intro pins s σ H D I h
 refine wpAny_execs_cons (thn (h1 pins s σ H { D with nx := u D } I h) fun f s1 q => ?_)
 cases f with
 | next =>
  obtain ⟨σ', H', I', q⟩ := q
  exact h2 pins s1 σ' H' D I' q
 | ret v => exact q
 | brk => exact q
 | cont => exact q
theorem zf (h1 : PS X st t) : PSs X [st] t := by
 intro pins s σ H D I h
 refine wpAny_execs_cons (thn (h1 pins s σ H D I h) fun f s1 q => ?_)
 cases f with
 | next => exact wpAny_execs_nil q
 | ret v => exact q
 | brk => exact q
 | cont => exact q
def tBreak : TS := fun D σ H => D.bk σ H
def tCont : TS := fun D σ H => D.ct σ H
theorem Inv.quiet {pins : List (Addr × Obj)} {σ : St} {H : Hp} {s : Shared} (I : Inv X pins σ H s) : interactive X.env = false := by simp [interactive, I.ok.kind]
def tDrop (te : TE) : TS := fun D σ H => te σ H fun _ H1 => D.nx σ H1
theorem zv (he : PE X e te) (hs : swapsWith e none pos.line X.env = pure false := by rfl) : PS X (.Expr e pos) (tDrop te) := by
 intro pins s σ H D I h
 exact wpAny_Expr_any (thn (he pins s σ H _ I h) fun v s1 ⟨x, H1, I1, r1, q1⟩ => ⟨σ, H1, I1, q1⟩) I.quiet hs
def tRet (te : TE) : TS := fun D σ H => te σ H D.rt
theorem zo (he : PE X e te) : PS X (.Return (some e) pos) (tRet te) := by
 intro pins s σ H D I h
 exact wpAny_Return_some (thn (he pins s σ H _ I h) fun v s1 ⟨x, H1, I1, r1, q1⟩ => ⟨x, σ, H1, I1, r1, q1⟩)
def tRetN : TS := fun D _ H => D.rt .non H
def tIfS (c : TT) (t u : TS) : TS := fun D σ H => c σ H fun b H1 => if b = true then t D σ H1 else u D σ H1
theorem zw {c : Expr} {a b : List Stmt} {tc : TT} (hc : PT X c tc) (ha : PSs X a t) (hb : PSs X b u) : PS X (.If c a b pos) (tIfS tc t u) := by
 intro pins s σ H D I h
 refine wpAny_If (thn (hc pins s σ H _ I h) fun d s1 ⟨H1, I1, q1⟩ => ?_)
 cases d with
 | true => exact ha pins s1 σ H1 D I1 q1
 | false => exact hb pins s1 σ H1 D I1 q1
def tNever : TS := fun _ _ _ => False
theorem ps_never : PS X st tNever := fun _ _ _ _ _ _ h => h.elim
end
abbrev TG := V → St → Hp → (St → Hp → Prop) → Prop
abbrev TGs := List V → St → Hp → (St → Hp → Prop) → Prop
def PG (X : Cx) (target : Expr) (t : TG) : Prop :=
 ∀ (pins : List (Addr × Obj)) (s : Shared) (σ : St) (H : Hp) (v : V) (u : Value) (Q : St → Hp → Prop), Inv X pins σ H s → RelV v u → t v σ H Q →
  wpAny (model X.prog X.w) X.A (assign target X.env u) (fun _ s' => ∃ σ' H', Inv X pins σ' H' s' ∧ Q σ' H') X.xe s
def PGs (X : Cx) (ts : List Expr) (t : TGs) : Prop :=
 ∀ (pins : List (Addr × Obj)) (s : Shared) (σ : St) (H : Hp) (vs : List V) (us : List Value) (Q : St → Hp → Prop), Inv X pins σ H s → Vals vs us → t vs σ H Q →
  wpAny (model X.prog X.w) X.A (assignInOrder ((assignEach ts X.env).map (·.2)) us) (fun _ s' => ∃ σ' H', Inv X pins σ' H' s' ∧ Q σ' H') X.xe s
abbrev TSet := V → V → V → Hp → (Hp → Prop) → Prop
abbrev TIp := V → V → Hp → VK → Prop
section
variable {X : Cx} {pos : Pos}
def gName (i : Nat) : TG := fun v σ H Q => Q (σ.set i (some v)) H
theorem pg_name {i : Nat} {x : Str} (hN : X.N.Nodup) (hi : X.N[i]? = some x) (hx : Loc X.env.scope x) (hf : X.fn x = true ∨ X.env.scope.names.lookup x = some .local := by walk_at "p") : PG X (.Name x pos) (gName i) := by
 intro pins s σ H v u Q I r h
 exact wpAny_assign_Name (vH I hN hi hx r (fun s' I' => ⟨_, H, I', h⟩) hf)
def gNil : TGs := fun vs σ H Q => vs = [] ∧ Q σ H
def gCons (t : TG) (u : TGs) : TGs := fun vs σ H Q => ∃ v r, vs = v :: r ∧ t v σ H fun σ' H' => u r σ' H' Q
theorem qV : PGs X [] gNil := by
 intro pins s σ H vs us Q I r h
 obtain ⟨e, h⟩ := h
 subst e
 cases r
 exact assignInOrder_nil ⟨σ, H, I, h⟩
theorem zN {e : Expr} {es : List Expr} {t : TG} {u : TGs} (h1 : PG X e t) (h2 : PGs X es u)
  (hs : (assignEach (e :: es) X.env).map (·.2) = assign e X.env :: (assignEach es X.env).map (·.2) := by rfl) : PGs X (e :: es) (gCons t u) := by
 intro pins s σ H vs us Q I r h
 obtain ⟨v, vr, e1, h⟩ := h
 subst e1
 cases r with
 | cons r rr =>
  rw [hs]
  refine assignInOrder_cons (thn (h1 pins s σ H _ _ _ I r h) fun _ s1 ⟨σ1, H1, I1, q1⟩ => ?_)
  exact h2 pins s1 σ1 H1 _ _ Q I1 rr q1
def gTup (K : PySem.W.Frag) (n : Nat) (t : TGs) : TG := fun v σ H Q => ∃ a xs, v = .ref a ∧ SqT K H a xs ∧ xs.length = n ∧ t xs σ H Q
theorem jy {es : List Expr} {k : Nat} {t : TGs} {n : Nat} (hc : X.calm = true) (h : PGs X es t)
  (hn : (assignEach es X.env).length = n := by rfl) (hst : (assignEach es X.env).findIdx? (·.1) = none := by rfl) : PG X (.Tuple es k pos) (gTup X.K n t) := by
 intro pins s σ H v u Q I r hw
 obtain ⟨a, xs, e1, hq, hl, hw⟩ := hw
 subst e1
 cases r
 obtain ⟨its, rv, ht, hz⟩ := I.tuple hq
 refine assign_Tuple_tuple (I.ok.hd hc) ht (by simp [hn, ← hl, rv.length]) hst fun h' hx => ?_
 have I1 : Inv X pins σ H { s with heap := h' } := I.kept (t' := s.toks) fun b o e => hx b o (Nat.ne_of_lt (Heap.lt_size e)) e
 exact h pins _ σ H xs _ Q I1 (by simpa using rv) hw
def gSub (to ti : TE) (t : TSet) : TG := fun v σ H Q => to σ H fun o H1 => ti σ H1 fun i H2 => t o i v H2 fun H3 => Q σ H3
def tAsg (te : TE) (g : TG) : TS := fun D σ H => te σ H fun x H1 => g x σ H1 D.nx
theorem ps_asg {tg e : Expr} {te : TE} {g : TG} (he : PE X e te) (hg : PG X tg g) (hs : swapsWithSole [tg] e pos.line X.env = pure false := by rfl) (hw : swappedStores [tg] e X.env = pure none := by rfl)
  (h1 : (assignEach [tg] X.env).map (·.2) = [assign tg X.env] := by rfl) : PS X (.Assign [tg] e pos) (tAsg te g) := by
 intro pins s σ H D I h
 refine wpAny_Assign_stores (thn (he pins s σ H _ I h) fun v s1 ⟨x, H1, I1, r1, q1⟩ => ?_) hs hw
 rw [h1]
 exact thn (hg pins s1 σ H1 x v _ I1 r1 q1) fun _ s2 q => q
theorem Zm {i : Nat} {x : Str} {e : Expr} {te : TE} {pos' : Pos} (hN : X.N.Nodup) (hi : X.N[i]? = some x) (hx : Loc X.env.scope x) (he : PE X e te) (hs : swapsWith e (some (.Name x pos')) pos.line X.env = pure false := by rfl) (hf : X.fn x = true ∨ X.env.scope.names.lookup x = some .local := by walk_at "p") :
  PS X (.Assign [.Name x pos'] e pos) (tAsg te (gName i)) := by
 intro pins s σ H D I h
 refine wpAny_Assign_Name (thn (he pins s σ H _ I h) fun v s1 ⟨y, H1, I1, r1, q1⟩ => ?_) hs
 exact vH I1 hN hi hx r1 (fun s2 I2 => ⟨_, H1, I2, q1⟩) hf
def tAug (i : Nat) (te : TE) (ti : TIp) : TS := fun D σ H => ∃ x, σ[i]? = some (some x) ∧ te σ H fun y H1 => ti x y H1 fun z H2 => D.nx (σ.set i (some z)) H2
def ipI (f : Int → Int → Int) : TIp := fun x y H Q => ∃ i j, x = .int i ∧ y = .int j ∧ Q (.int (f i j)) H
end
section
variable {X : Cx} {pos : Pos}
end
structure It where
 go : Nat → Hp → Prop
 yld : Nat → Hp → V → Hp → Prop
 stop : Nat → Hp → Prop
def FpOk (X : Cx) (pins : List (Addr × Obj)) (H : Hp) (b : Addr) : Prop :=
 H b = none ∧ b ≠ X.env.locals ∧ b ∉ X.fs ∧ (b ∈ X.ex ∨ X.s₀.heap.objs.size ≤ b) ∧ (∀ x c, X.env.cells.lookup x = some c → c ≠ b) ∧ ∀ p ∈ X.pn ++ pins, p.1 ≠ b
theorem Inv.fpOk {X : Cx} {pins : List (Addr × Obj)} {σ : St} {H H' : Hp} {s : Shared} {b : Addr} (I : Inv X pins σ H s) (hb : s.heap.objs.size ≤ b) (hn : H' b = none) : FpOk X pins H' b := by
 refine ⟨hn, Nat.ne_of_gt (Nat.lt_of_lt_of_le I.lt hb), I.nofs hb, .inr (Nat.le_trans I.sz hb), fun x c e z => ?_, fun p hp z => ?_⟩
 ·obtain ⟨v, q⟩ := I.cell x c e
  exact absurd (Nat.lt_of_lt_of_le q.lt (by rw [z]; exact hb)) (Nat.lt_irrefl _)
 ·exact absurd (Nat.lt_of_lt_of_le (Heap.lt_size (I.pin p hp).1) (by rw [z]; exact hb)) (Nat.lt_irrefl _)
structure Turn (P : Program) (w : World) (K : PySem.W.Frag) (tg : Expr) (J : It) (fp : List Addr) (it : Addr) (tn : Nat → Heap → Prop) : Prop where
 mem : it ∈ fp
 obj : ∀ i h, tn i h → ∀ b ∈ fp, ∃ o, h.get? b = some o ∧ ∀ v, o.data ≠ .cell v
 keep : ∀ i h h', tn i h → (∀ b ∈ fp, ∀ o, h.get? b = some o → h'.get? b = some o) → tn i h'
 item : ∀ (X : Cx), X.prog = P → X.w = w → X.K = K → X.calm = true → ∀ (i : Nat) (pins : List (Addr × Obj)) (s : Shared) (σ : St) (H : Hp) (E : Value → Shared → Prop), Inv X pins σ H s → (∀ b ∈ fp, FpOk X pins H b) → tn i s.heap → J.go i H →
  wpAny (model P w) X.A (pyNext (.ref it)) (fun r s1 => ∃ u, r = some u ∧
   wpAny (model P w) X.A (letOwnedTupleGo tg (.ref it) u) (fun _ s2 => ∃ x H', Inv X pins σ H' s2 ∧ RelV x u ∧ J.yld i H x H' ∧ tn (i + 1) s2.heap ∧ ∀ b ∈ fp, H' b = none) E s1) E s
 done : ∀ (X : Cx), X.prog = P → X.w = w → X.K = K → X.calm = true → ∀ (i : Nat) (pins : List (Addr × Obj)) (s : Shared) (σ : St) (H : Hp) (E : Value → Shared → Prop), Inv X pins σ H s → (∀ b ∈ fp, FpOk X pins H b) → tn i s.heap → J.stop i H →
  wpAny (model P w) X.A (pyNext (.ref it)) (fun r s1 => r = none ∧ Inv X pins σ H s1) E s
 self : ∀ (A : Around) (i : Nat) (s : Shared) (Q : Value → Shared → Prop) (E : Value → Shared → Prop), tn i s.heap → Q (.ref it) s → wpAny (model P w) A (pyIter (.ref it)) Q E s
abbrev TI := St → Hp → (It → Hp → Prop) → Prop
def PIE (X : Cx) (pins : List (Addr × Obj)) (σ : St) (tg : Expr) (R : It → Hp → Prop) (itv : Value) (s2 : Shared) : Prop :=
 ∃ (it : Addr) (fp : List Addr) (tn : Nat → Heap → Prop) (J : It) (H' : Hp), itv = .ref it ∧ Inv X pins σ H' s2 ∧ Turn X.prog X.w X.K tg J fp it tn ∧ tn 0 s2.heap ∧ (∀ b ∈ fp, FpOk X pins H' b) ∧ R J H'
def PI (X : Cx) (tg iter : Expr) (wi : TI) : Prop :=
 ∀ (pins : List (Addr × Obj)) (s : Shared) (σ : St) (H : Hp) (R : It → Hp → Prop), Inv X pins σ H s → wi σ H R →
  wpAny (model X.prog X.w) X.A (eval iter X.env) (fun v s1 => wpAny (model X.prog X.w) X.A (pyIter v) (PIE X pins σ tg R) X.xe s1) X.xe s
theorem ZP {M : Model} {A : Around} {E : Value → Shared → Prop} {s : Shared} {tg : Expr} {it : Addr} {u : Value} {o : Obj} {n : String} {vs : Array Value} {Q : Unit → Shared → Prop} (ho : s.heap.get? it = some o) (hc : o.cls = .type n) (hd : o.data = .fields vs)
  (hn : ["enumerate", "zip", "dict_itemiterator", "dict_reverseitemiterator", "odict_iterator", "itertools.zip_longest", "itertools.pairwise"].contains n = false) (hQ : Q () s) : wpAny M A (letOwnedTupleGo tg (.ref it) u) Q E s := by
 unfold letOwnedTupleGo
 cases tg <;> first
  | exact wpAny_pure hQ
  | (cases u <;> first
    | exact wpAny_pure hQ
    | (refine wpAny_bind (wpAny_load ho ?_)
       rw [hc, hd]
       show wpAny M A (if (["enumerate", "zip", "dict_itemiterator", "dict_reverseitemiterator", "odict_iterator", "itertools.zip_longest", "itertools.pairwise"].contains n && vs[0]? == some (rawInt _)) = true then _ else _) Q E s
       rw [if_neg (by intro h; rw [hn, Bool.false_and] at h; cases h)]
       exact wpAny_pure hQ))
def Itl (K : PySem.W.Frag) (a : Addr) : It :=
 ⟨fun i H => ∃ xs x, SqL K H a xs ∧ xs[i]? = some x, fun i H x H' => H' = H ∧ ∀ xs, SqL K H a xs → xs[i]? = some x, fun i H => ∃ xs, SqL K H a xs ∧ xs.length ≤ i⟩
def Itt (K : PySem.W.Frag) (a : Addr) : It :=
 ⟨fun i H => ∃ xs x, SqT K H a xs ∧ xs[i]? = some x, fun i H x H' => H' = H ∧ ∀ xs, SqT K H a xs → xs[i]? = some x, fun i H => ∃ xs, SqT K H a xs ∧ xs.length ≤ i⟩
def Itr (lo : Int) (n : Nat) : It := ⟨fun i _ => i < n, fun i H x H' => H' = H ∧ x = .int (lo + i), fun i _ => n ≤ i⟩
theorem turn_list {P : Program} {w : World} {K : PySem.W.Frag} {tg : Expr} (a it : Addr) : Turn P w K tg (Itl K a) [it] it (fun i h => h.IsListIter it a i) where
 mem := by simp
 obj := fun i h st b hb => by
  have e : b = it := by simpa using hb
  subst e
  obtain ⟨o, e, c, d⟩ := st
  exact ⟨o, e, fun v z => by rw [d] at z; cases z⟩
 keep := fun i h h' st k => st.at fun o e => k it (by simp) o e
 item := by
  intro X hP hw hK hc i pins s σ H E I hf st hg
  subst hP hw hK
  obtain ⟨xs, x, hq, hx⟩ := hg
  obtain ⟨its, rv, p, hz⟩ := I.list hq
  obtain ⟨u, hu, ru⟩ := rv.get hx
  obtain ⟨f0, f1, f2, f3, f4, f5⟩ := hf it (by simp)
  refine wpAny_pyNext_list_item st p.isList (x := u) (by simpa using hu) fun h' st' sb => ?_
  have I1 : Inv X pins σ H { s with heap := h' } := I.turned (t' := s.toks) (fun b o hb e => (sb.2 b hb).trans e) f0 f1 f3 f4 f5
  obtain ⟨o, e, c, d⟩ := id st'
  exact ⟨u, rfl, ZP (s := { s with heap := h' }) e c d (by decide) ⟨x, H, I1, ru, ⟨rfl, fun ys hy => by rw [I.list_inj hy hq]; exact hx⟩, st', fun b hb => (hf b hb).1⟩⟩
 done := by
  intro X hP hw hK hc i pins s σ H E I hf st hg
  subst hP hw hK
  obtain ⟨xs, hq, hx⟩ := hg
  obtain ⟨its, rv, p, hz⟩ := I.list hq
  obtain ⟨f0, f1, f2, f3, f4, f5⟩ := hf it (by simp)
  have hl := rv.length
  exact wpAny_pyNext_list_end (I.ok.hd hc) st p.isList (by simp; omega) fun h' eb => ⟨rfl, I.turned (t' := s.toks) (fun b o hb e => eb b o hb e) f0 f1 f3 f4 f5⟩
 self := fun _ _ _ _ _ st h => wpAny_pyIter_listiter st h
theorem turn_tuple {P : Program} {w : World} {K : PySem.W.Frag} {tg : Expr} (a it : Addr) : Turn P w K tg (Itt K a) [it] it (fun i h => h.IsTupleIter it a i) where
 mem := by simp
 obj := fun i h st b hb => by
  have e : b = it := by simpa using hb
  subst e
  obtain ⟨o, e, c, d⟩ := st
  exact ⟨o, e, fun v z => by rw [d] at z; cases z⟩
 keep := fun i h h' st k => st.at fun o e => k it (by simp) o e
 item := by
  intro X hP hw hK hc i pins s σ H E I hf st hg
  subst hP hw hK
  obtain ⟨xs, x, hq, hx⟩ := hg
  obtain ⟨its, rv, p, hz⟩ := I.tuple hq
  obtain ⟨u, hu, ru⟩ := rv.get hx
  obtain ⟨f0, f1, f2, f3, f4, f5⟩ := hf it (by simp)
  refine wpAny_pyNext_tuple_item st (show s.heap.IsTuple a its.toArray from p) (x := u) (by simpa using hu) fun h' st' sb => ?_
  have I1 : Inv X pins σ H { s with heap := h' } := I.turned (t' := s.toks) (fun b o hb e => (sb.2 b hb).trans e) f0 f1 f3 f4 f5
  obtain ⟨o, e, c, d⟩ := id st'
  exact ⟨u, rfl, ZP (s := { s with heap := h' }) e c d (by decide) ⟨x, H, I1, ru, ⟨rfl, fun ys hy => by rw [I.tuple_inj hy hq]; exact hx⟩, st', fun b hb => (hf b hb).1⟩⟩
 done := by
  intro X hP hw hK hc i pins s σ H E I hf st hg
  subst hP hw hK
  obtain ⟨xs, hq, hx⟩ := hg
  obtain ⟨its, rv, p, hz⟩ := I.tuple hq
  obtain ⟨f0, f1, f2, f3, f4, f5⟩ := hf it (by simp)
  have hl := rv.length
  exact wpAny_pyNext_tuple_end (I.ok.hd hc) st (show s.heap.IsTuple a its.toArray from p) (by simp; omega) fun h' eb => ⟨rfl, I.turned (t' := s.toks) (fun b o hb e => eb b o hb e) f0 f1 f3 f4 f5⟩
 self := fun _ _ _ _ _ st h => wpAny_pyIter_tupleiter st h
theorem turn_range {P : Program} {w : World} {K : PySem.W.Frag} {tg : Expr} (it : Addr) (lo : Int) (n : Nat) : Turn P w K tg (Itr lo n) [it] it (fun i h => IsRangeIter h it (lo + (i : Nat) * 1) ((n : Int) - (i : Nat)) 1) where
 mem := by simp
 obj := fun i h st b hb => by
  have e : b = it := by simpa using hb
  subst e
  exact ⟨_, st, fun v z => by
   have z' : Data.fields _ = Data.cell v := z
   cases z'⟩
 keep := fun i h h' st k => k it (by simp) _ st
 item := by
  intro X hP hw hK hc i pins s σ H E I hf st hg
  subst hP hw hK
  obtain ⟨f0, f1, f2, f3, f4, f5⟩ := hf it (by simp)
  have W := Walks.range (prog := X.prog) (w := X.w) (I.ok.hd hc) it lo 1 n
  refine W.item i s _ _ hg st fun v h' tk hv st' kk => ?_
  obtain ⟨t, rfl⟩ := hv
  have I1 : Inv X pins σ H { s with heap := h', toks := tk } := I.turned (fun b o hb e => kk b o (by simpa using hb) e) f0 f1 f3 f4 f5
  refine ⟨_, rfl, ZP (s := { s with heap := h', toks := tk }) (n := "range_iterator") st' rfl rfl (by decide) ⟨.int (lo + i), H, I1, ⟨t, ?_⟩, ⟨rfl, rfl⟩, st', fun b hb => (hf b hb).1⟩⟩
  rw [Int.mul_one]
 done := by
  intro X hP hw hK hc i pins s σ H E I hf st hg
  subst hP hw hK
  obtain ⟨f0, f1, f2, f3, f4, f5⟩ := hf it (by simp)
  exact wpAny_pyNext_range_end (I.ok.hd hc) st (by have : n ≤ i := hg; omega) fun h' eb => ⟨rfl, I.turned (t' := s.toks) (fun b o hb e => eb b o hb e) f0 f1 f3 f4 f5⟩
 self := fun _ _ _ _ _ st h => wpAny_pyIter_rangeiter st h
end L2
namespace L2
open PySem PySem.Spec PyProof.Rows
section
variable {X : Cx} {tg : Expr}
theorem range_it {pins : List (Addr × Obj)} {σ : St} {H : Hp} {s : Shared} {R : It → Hp → Prop} {E : Value → Shared → Prop} {lo hi : Int} {t u v : Tok} {tk : Nat} (I : Inv X pins σ H s) (h1 : -(2 ^ 62) ≤ lo) (h2 : lo < 2 ^ 62) (h3 : -(2 ^ 62) ≤ hi) (h4 : hi < 2 ^ 62)
  (q : R (Itr lo (hi - lo).toNat) H) : wpAny (model X.prog X.w) X.A (pyIter (.ref s.heap.objs.size)) (PIE X pins σ tg R) E { s with heap := s.heap.push { cls := .type "range", data := .fields #[.int lo t, .int hi u, .int 1 v] }, toks := tk } := by
 refine wpAny_pyIter_range (IsRange.new ..) (small_one h1 h2 h3 h4) ?_
 have I1 : Inv X pins σ H { s with heap := s.heap.push { cls := .type "range", data := .fields #[.int lo t, .int hi u, .int 1 v] }, toks := tk } := I.kept fun b o e => Heap.get?_push_of_some _ e
 refine ⟨(s.heap.push { cls := .type "range", data := .fields #[.int lo t, .int hi u, .int 1 v] }).objs.size, [(s.heap.push { cls := .type "range", data := .fields #[.int lo t, .int hi u, .int 1 v] }).objs.size], _, _, H, rfl,
  I1.kept (t' := tk) fun b o e => Heap.get?_push_of_some _ e, turn_range _ lo (hi - lo).toNat, ?_, fun b hb => ?_, q⟩
 ·have e1 : lo + ((0 : Nat) : Int) * 1 = lo := by simp
  have e2 : (((hi - lo).toNat : Nat) : Int) - ((0 : Nat) : Int) = Builtin.Range.rangeSize lo hi 1 := by rw [rangeSize_one]; split <;> omega
  show IsRangeIter _ _ (lo + ((0 : Nat) : Int) * 1) ((((hi - lo).toNat : Nat) : Int) - ((0 : Nat) : Int)) 1
  rw [e1, e2]
  exact Heap.get?_push_size _ rfl
 ·have e : b = (s.heap.push { cls := .type "range", data := .fields #[.int lo t, .int hi u, .int 1 v] }).objs.size := by simpa using hb
  subst e
  exact I1.fpOk (Nat.le_refl _) (I1.hok.fresh (Nat.le_refl _))
def iRng1 (ta : TA) : TI := fun σ H R => ta σ H fun vs H1 => ∃ j : Int, vs = [.int j] ∧ -(2 ^ 62) ≤ j ∧ j < 2 ^ 62 ∧ R (Itr 0 j.toNat) H1
def iRng2 (ta : TA) : TI := fun σ H R => ta σ H fun vs H1 => ∃ i j : Int, vs = [.int i, .int j] ∧ (-(2 ^ 62) ≤ i ∧ i < 2 ^ 62 ∧ -(2 ^ 62) ≤ j ∧ j < 2 ^ 62) ∧ R (Itr i (j - i).toNat) H1
theorem pi_range1 {a : Expr} {ta : TA} {p pos : Pos} (hg : Gl X "range") (hm : X.mg "range" = none) (ha : PA X [a] ta) (hs : starEach [a] X.env = [(false, eval a X.env)] := by rfl) : PI X tg (.Call (.Name "range" p) [a] [] pos) (iRng1 ta) := by
 intro pins s σ H R I h
 refine Call_ (j3 I hg hm boot_range (PyProof.Rows.callWith_type1 (thn (ha pos pins s σ H _ I h) fun us s1 ⟨vs, H1, I1, r1, q1⟩ => ?_) hs rfl))
 obtain ⟨j, e, q1, q2, q⟩ := q1
 subst e
 cases r1 with
 | cons r rr =>
  cases rr
  obtain ⟨t, rfl⟩ := r
  exact call_range_1 (range_it I1 (by omega) (by omega) q1 q2 (by simpa using q))
def tFor (wi : TI) (g : TG) (tb : TS) : TS := fun D σ H => wi σ H fun J H1 => ∃ W : Nat → Nat → St → Hp → Prop, (∃ m, W 0 m σ H1) ∧ ∀ i m σ H, W i m σ H →
 (J.stop i H ∧ D.nx σ H) ∨ (J.go i H ∧ ∃ N : St → Hp → Prop, (∀ σ' H', N σ' H' → ∃ m', m' < m ∧ W (i + 1) m' σ' H') ∧ ∀ x H', J.yld i H x H' → g x σ H' fun σ2 H2 => tb { D with nx := N, ct := N, bk := D.nx } σ2 H2)
def wu (fp : List Addr) (h : Heap) : List (Addr × Obj) := fp.filterMap fun b => (h.get? b).map fun o => (b, o)
theorem jm {fp : List Addr} {h : Heap} {b : Addr} {o : Obj} (hb : b ∈ fp) (e : h.get? b = some o) : (b, o) ∈ wu fp h := List.mem_filterMap.mpr ⟨b, hb, by rw [e]; rfl⟩
theorem of_pinsAt {fp : List Addr} {h : Heap} {p : Addr × Obj} (hp : p ∈ wu fp h) : p.1 ∈ fp ∧ h.get? p.1 = some p.2 := by
 obtain ⟨b, hb, e⟩ := List.mem_filterMap.mp hp
 cases q : h.get? b with
 | none => rw [q] at e; cases e
 | some o =>
  rw [q] at e
  have e' : (b, o) = p := Option.some.inj e
  subst e'
  exact ⟨hb, q⟩
theorem Inv.pinned {pins : List (Addr × Obj)} {σ : St} {H : Hp} {s : Shared} {fp : List Addr} (I : Inv X pins σ H s) (hf : ∀ b ∈ fp, FpOk X pins H b) (ho : ∀ b ∈ fp, ∃ o, s.heap.get? b = some o ∧ ∀ v, o.data ≠ .cell v) : Inv X (pins ++ wu fp s.heap) σ H s :=
 I.pins_of fun p hp => (List.mem_append.mp hp).elim (fun z => I.pin p (List.mem_append_right _ z)) fun z => by
  obtain ⟨hb, e⟩ := of_pinsAt z
  obtain ⟨f0, f1, f2, _⟩ := hf p.1 hb
  obtain ⟨o, e', d⟩ := ho p.1 hb
  rw [e] at e'; cases e'
  exact ⟨e, f0, f1, f2, d⟩
theorem Inv.unpinned {pins pl : List (Addr × Obj)} {σ : St} {H : Hp} {s : Shared} (I : Inv X (pins ++ pl) σ H s) : Inv X pins σ H s := I.pins_of fun p hp => I.pin p (List.mem_append_right _ (List.mem_append_left _ hp))
theorem qy {iter : Expr} {body : List Stmt} {wi : TI} {g : TG} {tb : TS} {pos : Pos} (hp : PassesOwn (model X.prog X.w) X.A X.env X.xe) (hc : X.calm = true) (hi : PI X tg iter wi) (hg : PG X tg g) (hb : PSs X body tb)
  (hs : ∀ x, foldedSetIterable iter X.env x = pure x := by intro _; rfl) : PS X (.For tg iter body [] pos) (tFor wi g tb) := by
 intro pins s σ H D I h
 refine wpAny_For (thn (hi pins s σ H _ I h) fun v s1 h1 => thn h1 fun itv s2 h2 => ?_) hs
 obtain ⟨it, fp, tn, J, H2, e, I2, T, st2, f2, W, ⟨m0, w0⟩, turn⟩ := h2
 subst e
 have stat : ∀ {H' : Hp}, (∀ b ∈ fp, H' b = none) → ∀ b ∈ fp, FpOk X pins H' b := fun hn b hb => ⟨hn b hb, (f2 b hb).2⟩
 refine codeAny_forLoop_any (fun n s' => ∃ i σ' H', Inv X pins σ' H' s' ∧ tn i s'.heap ∧ (∀ b ∈ fp, H' b = none) ∧ W i n σ' H') ?_ m0 ⟨0, σ, H2, I2, st2, fun b hb => (f2 b hb).1, w0⟩
 rintro n s3 ⟨i, σ3, H3, I3, st3, fr3, w3⟩
 rcases turn i n σ3 H3 w3 with ⟨stop, qn⟩ | ⟨go, N, hN, step⟩
 ·refine wpAny_passesOwn hp (thn (T.done X rfl rfl rfl hc i pins s3 σ3 H3 X.xe I3 (stat fr3) st3 stop) fun r s4 ⟨hr, I4⟩ => ?_)
  subst hr
  exact wpAny_execs_nil ⟨σ3, H3, I4, qn⟩
 ·refine wpAny_passesOwn hp (thn (T.item X rfl rfl rfl hc i pins s3 σ3 H3 X.xe I3 (stat fr3) st3 go) fun r s4 ⟨u, hr, h4⟩ => ?_)
  subst hr
  refine wpAny_passesOwn hp (thn h4 fun _ s5 ⟨x, H5, I5, r5, y5, st5, fr5⟩ => ?_)
  have I5' := I5.pinned (stat fr5) (T.obj _ _ st5)
  refine wpAny_passesOwn hp (thn (hg _ s5 σ3 H5 x u _ I5' r5 (step x H5 y5)) fun _ s6 ⟨σ6, H6, I6, q6⟩ => ?_)
  refine wpAny_passesOwn hp (thn (hb _ s6 σ6 H6 _ I6 q6) fun f s7 q7 => ?_)
  have again : ∀ {σ7 : St} {H7 : Hp}, Inv X (pins ++ wu fp s5.heap) σ7 H7 s7 → N σ7 H7 → ∃ m, m < n ∧ ∃ i σ' H', Inv X pins σ' H' s7 ∧ tn i s7.heap ∧ (∀ b ∈ fp, H' b = none) ∧ W i m σ' H' := fun {σ7 H7} I7 n7 => by
   obtain ⟨m', hm, w7⟩ := hN σ7 H7 n7
   refine ⟨m', hm, i + 1, σ7, H7, I7.unpinned, T.keep _ _ _ st5 fun b hb o e => (I7.pin (b, o) (List.mem_append_right _ (List.mem_append_right _ (jm hb e)))).1, fun b hb => ?_, w7⟩
   obtain ⟨o, e, d⟩ := T.obj _ _ st5 b hb
   exact (I7.pin (b, o) (List.mem_append_right _ (List.mem_append_right _ (jm hb e)))).2.1
  cases f with
  | next => obtain ⟨σ7, H7, I7, n7⟩ := q7; exact again I7 n7
  | cont => obtain ⟨σ7, H7, I7, n7⟩ := q7; exact again I7 n7
  | brk => obtain ⟨σ7, H7, I7, q7⟩ := q7; exact ⟨σ7, H7, I7.unpinned, q7⟩
  | ret v => obtain ⟨x7, σ7, H7, I7, r7, q7⟩ := q7; exact ⟨x7, σ7, H7, I7.unpinned, r7, q7⟩
end
end L2
namespace L2
open PySem PySem.Spec PyProof.Rows
abbrev R2 := V → V → Hp → VK → Prop
def OpR (X : Cx) (f : Value → Value → Sem Value) (r : R2) : Prop :=
 ∀ (pins : List (Addr × Obj)) (s : Shared) (σ : St) (H : Hp) (x y : V) (v u : Value) (Q : VK), Inv X pins σ H s → RelV x v → RelV y u → r x y H Q →
  wpAny (model X.prog X.w) X.A (f v u) (EP X pins σ Q) X.xe s
def CallR (X : Cx) (f : Value) (r : List V → Hp → VK → Prop) : Prop :=
 ∀ (pins : List (Addr × Obj)) (s : Shared) (σ : St) (H : Hp) (xs : List V) (us : List Value) (Q : VK), Inv X pins σ H s → Vals xs us → r xs H Q →
  wpAny (model X.prog X.w) X.A (call f us) (EP X pins σ Q) X.xe s
def TruR (X : Cx) (r : V → Hp → (Bool → Hp → Prop) → Prop) : Prop :=
 ∀ (pins : List (Addr × Obj)) (s : Shared) (σ : St) (H : Hp) (x : V) (v : Value) (Q : Bool → Hp → Prop), Inv X pins σ H s → RelV x v → r x H Q →
  wpAny (model X.prog X.w) X.A (truthy v) (TP X pins σ Q) X.xe s
def tOp (r : R2) (ta tb : TE) : TE := fun σ H Q => ta σ H fun x H1 => tb σ H1 fun y H2 => r x y H2 Q
def tUn (r : V → Hp → VK → Prop) (ta : TE) : TE := fun σ H Q => ta σ H fun x H1 => r x H1 Q
def rI (C : Int → Int → Prop) (g : Int → Int → V) : R2 := fun x y H Q => ∃ i j, x = .int i ∧ y = .int j ∧ C i j ∧ Q (g i j) H
def rI0 (g : Int → Int → V) : R2 := fun x y H Q => ∃ i j, x = .int i ∧ y = .int j ∧ Q (g i j) H
def rU (g : Int → V) : V → Hp → VK → Prop := fun x H Q => ∃ i, x = .int i ∧ Q (g i) H
section
variable {X : Cx} {a b c : Expr} {ta tb tc : TE} {pos : Pos}
theorem binT (ha : PE X a ta) (hb : PE X b tb) {pins : List (Addr × Obj)} {s : Shared} {σ : St} {H : Hp} {R : V → V → Hp → Prop} (I : Inv X pins σ H s)
  (h : ta σ H fun x H1 => tb σ H1 fun y H2 => R x y H2) {Q : Value → Shared → Prop} {f : Value → Value → Sem Value}
  (hf : ∀ v u s2 x y H2, Inv X pins σ H2 s2 → RelV x v → RelV y u → R x y H2 → wpAny (model X.prog X.w) X.A (f v u) Q X.xe s2) :
  wpAny (model X.prog X.w) X.A (eval a X.env) (fun v s₁ => wpAny (model X.prog X.w) X.A (eval b X.env) (fun u s₂ => wpAny (model X.prog X.w) X.A (f v u) Q X.xe s₂) X.xe s₁) X.xe s := by
 refine thn (ha pins s σ H _ I h) fun v s1 ⟨x, H1, I1, r1, q1⟩ => ?_
 refine thn (hb pins s1 σ H1 _ I1 q1) fun u s2 ⟨y, H2, I2, r2, q2⟩ => ?_
 exact hf v u s2 x y H2 I2 r1 r2 q2
theorem zi {op : Operator} {r : R2} (ho : OpR X (binaryOp op) r) (ha : PE X a ta) (hb : PE X b tb) : PE X (.BinOp a op b pos) (tOp r ta tb) := by
 intro pins s σ H Q I h
 exact wpAny_BinOp (binT ha hb I h fun v u s2 x y H2 I2 rx ry q => ho pins s2 σ H2 x y v u Q I2 rx ry q)
theorem opI {f : Value → Value → Sem Value} {C : Int → Int → Prop} {g : Int → Int → Int}
  (rule : ∀ (i j : Int) (t u : Tok) (s : Shared) (Q : Value → Shared → Prop) (E : Value → Shared → Prop), C i j → Q (.int (g i j) s.toks) { s with toks := s.toks + 1 } → wpAny (model X.prog X.w) X.A (f (.int i t) (.int j u)) Q E s) :
  OpR X f (rI C fun i j => .int (g i j)) := by
 intro pins s σ H x y v u Q I rx ry h
 obtain ⟨i, j, rfl, rfl, hc, q⟩ := h
 obtain ⟨t, rfl⟩ := rx
 obtain ⟨t', rfl⟩ := ry
 exact rule i j t t' s _ _ hc ⟨.int (g i j), H, I.tok _, ⟨_, rfl⟩, q⟩
theorem opI0 {f : Value → Value → Sem Value} {g : Int → Int → Int}
  (rule : ∀ (i j : Int) (t u : Tok) (s : Shared) (Q : Value → Shared → Prop) (E : Value → Shared → Prop), Q (.int (g i j) s.toks) { s with toks := s.toks + 1 } → wpAny (model X.prog X.w) X.A (f (.int i t) (.int j u)) Q E s) :
  OpR X f (rI0 fun i j => .int (g i j)) := by
 intro pins s σ H x y v u Q I rx ry h
 obtain ⟨i, j, rfl, rfl, q⟩ := h
 obtain ⟨t, rfl⟩ := rx
 obtain ⟨t', rfl⟩ := ry
 exact rule i j t t' s _ _ ⟨.int (g i j), H, I.tok _, ⟨_, rfl⟩, q⟩
theorem opB0 {f : Value → Value → Sem Value} {g : Int → Int → Bool}
  (rule : ∀ (i j : Int) (t u : Tok) (s : Shared) (Q : Value → Shared → Prop) (E : Value → Shared → Prop), Q (.bool (g i j)) s → wpAny (model X.prog X.w) X.A (f (.int i t) (.int j u)) Q E s) :
  OpR X f (rI0 fun i j => .bl (g i j)) := by
 intro pins s σ H x y v u Q I rx ry h
 obtain ⟨i, j, rfl, rfl, q⟩ := h
 obtain ⟨t, rfl⟩ := rx
 obtain ⟨t', rfl⟩ := ry
 exact rule i j t t' s _ _ ⟨.bl (g i j), H, I, rfl, q⟩
def CPow (i j : Int) : Prop := 0 ≤ j ∧ j ≤ 1000000 ∧ i.natAbs < 2 ^ 64
def CMul (i j : Int) : Prop := (-(2 ^ 64) < i ∧ i < 2 ^ 64) ∨ (-(2 ^ 64) < j ∧ j < 2 ^ 64)
theorem CMul.ok {i j : Int} (h : CMul i j) : IntMulOk i j := by
 rcases h with ⟨h1, h2⟩ | ⟨h1, h2⟩
 ·exact .of_left (intBits_le_64 h1 h2)
 ·exact .of_right (intBits_le_64 h1 h2)
theorem op_add : OpR X (binaryOp .Add) (rI0 fun i j => .int (i + j)) := opI0 fun _ _ _ _ _ _ _ q => add_int q
theorem qS : OpR X (binaryOp .Sub) (rI0 fun i j => .int (i - j)) := opI0 fun _ _ _ _ _ _ _ q => sub_int q
theorem zL : OpR X (binaryOp .Mod) (rI (fun _ j => 0 < j) fun i j => .int (i % j)) := opI fun i j _ _ _ _ _ hc q => by
 have h1 : (0 : Int) < j := hc
 exact mod_int' (by omega) (by rw [Int.fmod_eq_emod_of_nonneg i (by omega)]; exact q)
theorem vy : OpR X (binaryOp .Pow) (rI CPow fun i j => .int (i ^ j.toNat)) := opI fun _ _ _ _ _ _ _ hc q => pow_int_small hc.1 hc.2.1 hc.2.2 q
end
def scal : V → V → Bool
 | .non, .non => true | .non, .int _ => true | .int _, .non => true | .non, .bl _ => true | .bl _, .non => true | .non, .str _ => true | .str _, .non => true
 | .int _, .int _ => true | .bl _, .bl _ => true | .str _, .str _ => true | .byt _, .byt _ => true
 | .int _, .str _ => true | .str _, .int _ => true | .bl _, .str _ => true | .str _, .bl _ => true
 | _, _ => false
def rEq : R2 := fun x y H Q => scal x y = true ∧ Q (.bl (decide (x = y))) H
def rNe : R2 := fun x y H Q => scal x y = true ∧ Q (.bl (!decide (x = y))) H
theorem ZU {i j : Int} : decide (V.int i = V.int j) = (i == j) := by
 rw [Bool.eq_iff_iff]
 simp
theorem Qf {i j : Bool} : decide (V.bl i = V.bl j) = (i == j) := by
 rw [Bool.eq_iff_iff]
 simp
theorem ZT {i j : Str} : decide (V.str i = V.str j) = (i == j) := by
 rw [Bool.eq_iff_iff]
 simp
theorem ZV {i j : Array UInt8} : decide (V.byt i = V.byt j) = (i.toList == j.toList) := by
 rw [Bool.eq_iff_iff]
 cases i
 cases j
 simp
section
variable {X : Cx} {a b c : Expr} {ta tb tc : TE} {pos : Pos}
theorem zP {pins : List (Addr × Obj)} {σ : St} {H : Hp} {s : Shared} {Q : VK} {k k' : Bool} (I : Inv X pins σ H s) (q : Q (.bl k) H) (e : k = k') : EP X pins σ Q (.bool k') s := by
 subst e
 exact ⟨.bl k, H, I, rfl, q⟩
theorem op_eq : OpR X (compareOp .Eq) rEq := by
 intro pins s σ H x y v u Q I rx ry h
 obtain ⟨hs, q⟩ := h
 cases x with
 | non =>
  cases rx
  cases y with
  | non => cases ry; exact PySem.EqNone.eq_none_none (zP I q (by simp))
  | bl j => cases ry; exact PySem.EqNone.eq_none_bool (zP I q (by simp))
  | int j => obtain ⟨t', rfl⟩ := ry; exact PySem.EqNone.eq_none_int (zP I q (by simp))
  | str j => obtain ⟨t', rfl⟩ := ry; exact PySem.EqNone.eq_none_str (zP I q (by simp))
  | _ => exact absurd (show false = true from hs) Bool.false_ne_true
 | bl i =>
  cases rx
  cases y with
  | non => cases ry; exact PySem.EqNone.eq_bool_none (zP I q (by simp))
  | bl j => cases ry; exact eq_bool (zP I q Qf)
  | str j => obtain ⟨t', rfl⟩ := ry; exact PySem.EqMixed.eq_bool_str (zP I q (by simp))
  | _ => exact absurd (show false = true from hs) Bool.false_ne_true
 | int i =>
  obtain ⟨t, rfl⟩ := rx
  cases y with
  | non => cases ry; exact PySem.EqNone.eq_int_none (zP I q (by simp))
  | int j => obtain ⟨t', rfl⟩ := ry; exact eq_int (zP I q ZU)
  | str j => obtain ⟨t', rfl⟩ := ry; exact PySem.EqMixed.eq_int_str (zP I q (by simp))
  | _ => exact absurd (show false = true from hs) Bool.false_ne_true
 | str i =>
  obtain ⟨t, rfl⟩ := rx
  cases y with
  | non => cases ry; exact PySem.EqNone.eq_str_none (zP I q (by simp))
  | bl j => cases ry; exact PySem.EqMixed.eq_str_bool (zP I q (by simp))
  | int j => obtain ⟨t', rfl⟩ := ry; exact PySem.EqMixed.eq_str_int (zP I q (by simp))
  | str j => obtain ⟨t', rfl⟩ := ry; exact eq_str (zP I q ZT)
  | _ => exact absurd (show false = true from hs) Bool.false_ne_true
 | byt i =>
  obtain ⟨t, rfl⟩ := rx
  cases y with
  | byt j => obtain ⟨t', rfl⟩ := ry; exact PySem.W.eq_bytes (zP I q ZV)
  | _ => exact absurd (show false = true from hs) Bool.false_ne_true
 | _ => cases y <;> exact absurd (show false = true from hs) Bool.false_ne_true
theorem op_ne : OpR X (compareOp .NotEq) rNe := by
 intro pins s σ H x y v u Q I rx ry h
 obtain ⟨hs, q⟩ := h
 cases x with
 | non =>
  cases rx
  cases y with
  | non => cases ry; exact PySem.EqNone.ne_none_none (zP I q (by simp))
  | bl j => cases ry; exact PySem.EqNone.ne_none_bool (zP I q (by simp))
  | int j => obtain ⟨t', rfl⟩ := ry; exact PySem.EqNone.ne_none_int (zP I q (by simp))
  | str j => obtain ⟨t', rfl⟩ := ry; exact PySem.EqNone.ne_none_str (zP I q (by simp))
  | _ => exact absurd (show false = true from hs) Bool.false_ne_true
 | bl i =>
  cases rx
  cases y with
  | non => cases ry; exact PySem.EqNone.ne_bool_none (zP I q (by simp))
  | bl j => cases ry; exact ne_bool (zP I q (congrArg not Qf))
  | str j => obtain ⟨t', rfl⟩ := ry; exact PySem.EqMixed.ne_bool_str (zP I q (by simp))
  | _ => exact absurd (show false = true from hs) Bool.false_ne_true
 | int i =>
  obtain ⟨t, rfl⟩ := rx
  cases y with
  | non => cases ry; exact PySem.EqNone.ne_int_none (zP I q (by simp))
  | int j => obtain ⟨t', rfl⟩ := ry; exact ne_int (zP I q (congrArg not ZU))
  | str j => obtain ⟨t', rfl⟩ := ry; exact PySem.EqMixed.ne_int_str (zP I q (by simp))
  | _ => exact absurd (show false = true from hs) Bool.false_ne_true
 | str i =>
  obtain ⟨t, rfl⟩ := rx
  cases y with
  | non => cases ry; exact PySem.EqNone.ne_str_none (zP I q (by simp))
  | bl j => cases ry; exact PySem.EqMixed.ne_str_bool (zP I q (by simp))
  | int j => obtain ⟨t', rfl⟩ := ry; exact PySem.EqMixed.ne_str_int (zP I q (by simp))
  | str j => obtain ⟨t', rfl⟩ := ry; exact ne_str (zP I q (congrArg not ZT))
  | _ => exact absurd (show false = true from hs) Bool.false_ne_true
 | byt i =>
  obtain ⟨t, rfl⟩ := rx
  cases y with
  | byt j => obtain ⟨t', rfl⟩ := ry; exact PySem.W.ne_bytes (zP I q (congrArg not ZV))
  | _ => exact absurd (show false = true from hs) Bool.false_ne_true
 | _ => cases y <;> exact absurd (show false = true from hs) Bool.false_ne_true
theorem op_lt : OpR X (compareOp .Lt) (rI0 fun i j => .bl (decide (i < j))) := opB0 fun _ _ _ _ _ _ _ q => lt_int q
theorem qF : OpR X (compareOp .LtE) (rI0 fun i j => .bl (decide (i ≤ j))) := opB0 fun _ _ _ _ _ _ _ q => le_int q
theorem op_gt : OpR X (compareOp .Gt) (rI0 fun i j => .bl (decide (j < i))) := opB0 fun _ _ _ _ _ _ _ q => gt_int q
theorem jP : OpR X (compareOp .GtE) (rI0 fun i j => .bl (decide (j ≤ i))) := opB0 fun _ _ _ _ _ _ _ q => ge_int q
theorem op_in_str : OpR X (compareOp .In) (fun x y H Q => ∃ i j, x = .str i ∧ y = .str j ∧ Q (.bl (!(Builtin.Str.occurrences j i 0 j.length 1).isEmpty)) H) := by
 intro pins s σ H x y v u Q I rx ry h
 obtain ⟨i, j, rfl, rfl, q⟩ := h
 obtain ⟨t, rfl⟩ := rx
 obtain ⟨t', rfl⟩ := ry
 exact in_str (zP I q rfl)
theorem Zp : OpR X (compareOp .Is) (fun x y H Q => y = .non ∧ Q (.bl (decide (x = .non))) H) := by
 intro pins s σ H x y v u Q I rx ry h
 obtain ⟨rfl, q⟩ := h
 cases ry
 refine is_none_gen (zP I q ?_)
 cases x <;> first
  | (cases rx; rfl)
  | (obtain ⟨t, rfl⟩ := rx; rfl)
theorem OpR.or {f : Value → Value → Sem Value} {r r' : R2} (h : OpR X f r) (h' : OpR X f r') : OpR X f (fun x y H Q => r x y H Q ∨ r' x y H Q) := by
 intro pins s σ H x y v u Q I rx ry q
 rcases q with q | q
 ·exact h pins s σ H x y v u Q I rx ry q
 ·exact h' pins s σ H x y v u Q I rx ry q
theorem zl (b : Expr) {op : CmpOp} (h : op ≠ .In := by decide) (h2 : op ≠ .NotIn := by decide) : behindInMarks op b = false := by
 have e1 : (op == CmpOp.In) = false := by cases op <;> first | rfl | exact absurd rfl h
 have e2 : (op == CmpOp.NotIn) = false := by cases op <;> first | rfl | exact absurd rfl h2
 cases b <;> simp [behindInMarks, e1, e2]
theorem xi {op : CmpOp} {r : R2} (ho : OpR X (compareOp op) r) (ha : PE X a ta) (hb : PE X b tb) (hm : behindInMarks op b = false) : PE X (.Compare a [op] [b] pos) (tOp r ta tb) := by
 intro pins s σ H Q I h
 exact wpAny_Compare1 (binT ha hb I h fun v u s2 x y H2 I2 rx ry q => ho pins s2 σ H2 x y v u Q I2 rx ry q) hm
def tTest (t : TE) : TT := fun σ H Q => t σ H fun x H' => ∃ k, x = .bl k ∧ Q k H'
theorem zj {op : CmpOp} {r : R2} (ho : OpR X (compareOp op) r) (ha : PE X a ta) (hb : PE X b tb) (hm : behindInMarks op b = false) : PT X (.Compare a [op] [b] pos) (tTest (tOp r ta tb)) := by
 intro pins s σ H Q I h
 refine wpAny_isTrue_Compare1 (thn (ha pins s σ H _ I h) fun v s1 ⟨x, H1, I1, r1, q1⟩ => thn (hb pins s1 σ H1 _ I1 q1) fun u s2 ⟨y, H2, I2, r2, q2⟩ =>
  thn (ho pins s2 σ H2 x y v u _ I2 r1 r2 q2) fun c s3 ⟨z, H3, I3, r3, k, e, q3⟩ => ?_) hm
 subst e
 cases r3
 exact wpAny_truthy_bool ⟨H3, I3, q3⟩
def tChain (r r' : R2) (ta tb tc : TE) : TE := fun σ H Q => ta σ H fun x H1 => tb σ H1 fun y H2 => r x y H2 fun z H3 => ∃ k, z = .bl k ∧
 (if k = true then tc σ H3 fun w' H4 => r' y w' H4 Q else Q (.bl false) H3)
theorem qz {op op' : CmpOp} {r r' : R2} (ho : OpR X (compareOp op) r) (ho' : OpR X (compareOp op') r') (ha : PE X a ta) (hb : PE X b tb) (hc : PE X c tc)
  (hm : lastMarks [op, op'] [b, c] = false := by with_unfolding_all rfl) : PT X (.Compare a [op, op'] [b, c] pos) (tTest (tChain r r' ta tb tc)) := by
 intro pins s σ H Q I h
 refine isTrue_chain (thn (ha pins s σ H _ I h) fun v s1 ⟨x, H1, I1, r1, q1⟩ => test_link (thn (hb pins s1 σ H1 _ I1 q1) fun u s2 ⟨y, H2, I2, r2, q2⟩ =>
  thn (ho pins s2 σ H2 x y v u _ I2 r1 r2 q2) fun d s3 ⟨z, H3, I3, r3, k, e, q3⟩ => ?_)) hm
 subst e
 cases r3
 refine wpAny_truthy_bool ?_
 cases k with
 | false =>
  obtain ⟨k', e', q'⟩ := q3
  cases e'
  exact ite_ff ⟨H3, I3, q'⟩
 | true =>
  refine ite_tt (test_last (thn (hc pins s3 σ H3 _ I3 q3) fun w' s4 ⟨z', H4, I4, r4, q4⟩ => thn (ho' pins s4 σ H4 y z' u w' _ I4 r2 r4 q4) fun d' s5 ⟨z2, H5, I5, r5, k2, e2, q5⟩ => ?_))
  subst e2
  cases r5
  exact wpAny_truthy_bool ⟨H5, I5, q5⟩
def TruV (K : PySem.W.Frag) (x : V) (H : Hp) (k : Bool) : Prop :=
 match x with
 | .non => k = false
 | .bl b => k = b
 | .int i => k = (i != 0)
 | .str y => y.length ≤ sizeLine ∧ k = ((y.length : Int) != 0)
 | .byt y => y.size ≤ sizeLine ∧ k = ((y.size : Int) != 0)
 | .ref p => (∃ xs, SqL K H p xs ∧ k = !xs.isEmpty) ∨ (∃ xs, SqT K H p xs ∧ k = !xs.isEmpty) ∨ ∃ kvs, H p = some (.dK kvs) ∧ k = !kvs.isEmpty
 | _ => False
theorem isEmpty_kv {κ : Type} {kvs : List (κ × V)} {vs : List (κ × Value)} (r : KV kvs vs) : (!vs.isEmpty) = !kvs.isEmpty := by
 cases r <;> rfl
theorem wE {xs : List V} {its : List Value} (r : Vals xs its) : (!its.toArray.isEmpty) = !xs.isEmpty := by
 cases r <;> simp
theorem wA : (sizeLine : Nat) < 2 ^ 63 := by rw [sizeLine_eq]; decide
theorem tru_ok : TruR X (fun x H Q => ∃ k, TruV X.K x H k ∧ Q k H) := by
 intro pins s σ H x v Q I rx h
 obtain ⟨k, e, q⟩ := h
 have hl := wA
 have hs : sizeLine = 16777216 := sizeLine_eq
 cases x with
 | non =>
  cases rx
  have e' : k = false := e
  subst e'
  exact truthy_none ⟨H, I, q⟩
 | bl b =>
  cases rx
  have e' : k = b := e
  subst e'
  exact wpAny_truthy_bool ⟨H, I, q⟩
 | int i =>
  obtain ⟨t, rfl⟩ := rx
  have e' : k = (i != 0) := e
  subst e'
  exact PySem.P.truthy_int ⟨H, I, q⟩
 | str y =>
  obtain ⟨t, rfl⟩ := rx
  obtain ⟨hy, e'⟩ : y.length ≤ sizeLine ∧ k = ((y.length : Int) != 0) := e
  subst e'
  exact PySem.P.truthy_str (by omega) ⟨H, I.tok _, q⟩
 | byt y =>
  obtain ⟨t, rfl⟩ := rx
  obtain ⟨hy, e'⟩ : y.size ≤ sizeLine ∧ k = ((y.size : Int) != 0) := e
  subst e'
  exact PySem.W.truthy_bytes (by omega) ⟨H, I.tok _, q⟩
 | ref p =>
  cases rx
  have e' : (∃ xs, SqL X.K H p xs ∧ k = !xs.isEmpty) ∨ (∃ xs, SqT X.K H p xs ∧ k = !xs.isEmpty) ∨ ∃ kvs, H p = some (.dK kvs) ∧ k = !kvs.isEmpty := e
  rcases e' with ⟨xs, hx, e'⟩ | ⟨xs, hx, e'⟩ | ⟨kvs, hx, e'⟩
  ·subst e'
   obtain ⟨its, r, pl, hz⟩ := I.list hx
   have hlen := r.length
   exact wpAny_truthy_list pl.isList (by simp only [List.size_toArray]; omega) ⟨H, I.tok _, by rw [wE r]; exact q⟩
  ·subst e'
   obtain ⟨its, r, pl, hz⟩ := I.tuple hx
   have hlen := r.length
   exact truthy_tuple pl (by simp only [List.size_toArray]; omega) ⟨H, I.tok _, by rw [wE r]; exact q⟩
  ·subst e'
   obtain ⟨hz, hS, vs, r, m⟩ : kvs.length ≤ sizeLine ∧ (p == sysModules) = false ∧ ∃ vs, KV kvs vs ∧ s.heap.DictOf (vA X.prog X.w) p vs := I.hok p _ hx
   have hlen : kvs.length = vs.length := Paired.length r
   exact wpAny_truthy_dict hS m (by omega) ⟨H, I.tok _, by rw [isEmpty_kv r]; exact q⟩
 | _ => exact (show False from e).elim
theorem zG (ha : PE X a ta) (he : ∀ whole, isTrue a X.env whole = (do let v ← whole; standAt a.pos; holding [v] (truthy v))) :
  PT X a (fun σ H Q => ta σ H fun x H' => ∃ k, TruV X.K x H' k ∧ Q k H') := by
 intro pins s σ H Q I h
 exact isTrue_plain (thn (ha pins s σ H _ I h) fun v s1 ⟨x, H1, I1, r1, q1⟩ => tru_ok pins s1 σ H1 x v Q I1 r1 q1) (he _)
theorem op_add_str : OpR X (binaryOp .Add) (fun x y H Q => ∃ i j, x = .str i ∧ y = .str j ∧ i.length + j.length ≤ sizeLine ∧ Q (.str (i ++ j)) H) := by
 intro pins s σ H x y v u Q I rx ry h
 obtain ⟨i, j, rfl, rfl, hz, q⟩ := h
 obtain ⟨t, rfl⟩ := rx
 obtain ⟨t', rfl⟩ := ry
 exact add_str (fun t' tk => ⟨.str (i ++ j), H, I.tok _, ⟨_, rfl⟩, q⟩) hz
theorem xK {x : V} {us : List Value} (r : Vals [x] us) : ∃ u, us = [u] ∧ RelV x u := by
 cases r with
 | cons r1 r2 => cases r2; exact ⟨_, rfl, r1⟩
theorem vals2 {x y : V} {us : List Value} (r : Vals [x, y] us) : ∃ u w', us = [u, w'] ∧ RelV x u ∧ RelV y w' := by
 cases r with
 | cons r1 r2 =>
  cases r2 with
  | cons r3 r4 => cases r4; exact ⟨_, _, rfl, r1, r3⟩
theorem call_str_int : CallR X (.type "str") (fun xs H Q => ∃ i, xs = [.int i] ∧ i.natAbs.log2 < 1920 ∧ Q (.str (toString i)) H) := by
 intro pins s σ H xs us Q I r h
 obtain ⟨i, rfl, hz, q⟩ := h
 obtain ⟨u, rfl, t, rfl⟩ := xK r
 exact PySem.P.str_of_int hz ⟨.str _, H, I.tok _, ⟨_, rfl⟩, q⟩
def LenV (K : PySem.W.Frag) (x : V) (H : Hp) (n : Nat) : Prop :=
 match x with
 | .str y => y.length ≤ sizeLine ∧ n = y.length
 | .byt y => y.size ≤ sizeLine ∧ n = y.size
 | .ref p => (∃ xs, SqL K H p xs ∧ n = xs.length) ∨ ∃ xs, SqT K H p xs ∧ n = xs.length
 | _ => False
theorem call_len : CallR X (.builtin "len") (fun xs H Q => ∃ x n, xs = [x] ∧ LenV X.K x H n ∧ Q (.int n) H) := by
 intro pins s σ H xs us Q I r h
 obtain ⟨x, n, rfl, e, q⟩ := h
 obtain ⟨u, rfl, rx⟩ := xK r
 have hl := wA
 have hs : sizeLine = 16777216 := sizeLine_eq
 cases x with
 | str y =>
  obtain ⟨t, rfl⟩ := rx
  obtain ⟨hy, e'⟩ : y.length ≤ sizeLine ∧ n = y.length := e
  subst e'
  exact len_str (by omega) ⟨.int _, H, I.tok _, ⟨_, rfl⟩, q⟩
 | byt y =>
  obtain ⟨t, rfl⟩ := rx
  obtain ⟨hy, e'⟩ : y.size ≤ sizeLine ∧ n = y.size := e
  subst e'
  exact PySem.W.len_bytes (by omega) ⟨.int _, H, I.tok _, ⟨_, rfl⟩, q⟩
 | ref p =>
  cases rx
  have e' : (∃ xs, SqL X.K H p xs ∧ n = xs.length) ∨ ∃ xs, SqT X.K H p xs ∧ n = xs.length := e
  rcases e' with ⟨xs, hx, e'⟩ | ⟨xs, hx, e'⟩
  ·subst e'
   obtain ⟨its, r', pl, hz⟩ := I.list hx
   have hlen := r'.length
   exact Calls.call_len_list pl.isList (by simp only [List.size_toArray]; omega) ⟨.int xs.length, H, I.tok _, ⟨_, by simp only [List.size_toArray]; rw [hlen]⟩, q⟩
  ·subst e'
   obtain ⟨its, r', pl, hz⟩ := I.tuple hx
   have hlen := r'.length
   exact len_tuple pl (by simp only [List.size_toArray]; omega) ⟨.int xs.length, H, I.tok _, ⟨_, by simp only [List.size_toArray]; rw [hlen]⟩, q⟩
 | _ => exact (show False from e).elim
end
end L2
namespace L2
open PySem PySem.Spec PyProof.Rows
structure ObjM (h : Heap) (x dx C : Addr) (mA : Str → Option Value) : Prop where
 obj : h.get? x = some (PySem.W.instObj C dx)
 ns : h.Ns1 dx mA
 ne : dx ≠ x
theorem lookIn_ns {h : Heap} {dx : Addr} {mA : Str → Option Value} (n : h.Ns1 dx mA) : ∃ od, h.get? dx = some od ∧ ∀ name, PySem.W.lookIn name od = some (mA name) := by
 obtain ⟨o, es, ep, ho, hd, hk, _, hm⟩ := n
 refine ⟨o, ho, fun name => ?_⟩
 have e := hm name
 unfold nsFind findBy at e
 rw [← Array.find?_toList] at e
 unfold PySem.W.lookIn
 rw [hd]
 dsimp only
 split
 ·rename_i y q
  rw [q] at e
  exact congrArg some e
 ·rename_i q
  rw [q] at e
  have a : es.toList.any (·.refKey) = false := by
   rw [List.any_eq_false]
   intro y hy
   obtain ⟨z, t, hkey⟩ := hk y (Array.mem_toList_iff.mp hy)
   simp [DictEntry.refKey, hkey]
  have a' : ¬ es.toList.any (·.refKey) = true := by rw [a]; exact Bool.false_ne_true
  rw [if_neg a']
  exact congrArg some e
theorem ObjM.look {h : Heap} {x dx C : Addr} {mA : Str → Option Value} (I : ObjM h x dx C mA) : ∃ od, PySem.W.InstAt h x (PySem.W.instObj C dx) C (some od) ∧ ∀ name, PySem.W.lookIn name od = some (mA name) :=
 let ⟨od, ho, hl⟩ := lookIn_ns I.ns
 ⟨od, ⟨I.obj, rfl, rfl, ho⟩, hl⟩
section
variable {prog : Program} {w : World} {A : Around} {E : Value → Shared → Prop} {s : Shared} {K : PySem.W.Frag} {x dx C f : Addr} {mA : Str → Option Value} {name : Str} {v : Value}
theorem get_map {expr : Bool} {Q : Value → Shared → Prop} (X : K.In s.heap) (I : ObjM s.heap x dx C mA) (hg : PySem.W.plainGet K C name = true) (hh : PySem.W.hasDictIn K C = true)
  (ha : PySem.W.findIn K (.ref C) name = some none) (hv : mA name = some v) (hv' : PySem.W.handedIn v = true) (h : Q v { s with toks := s.toks + 1 }) :
  wpAny (model prog w) A (getAttr (.ref x) name expr) Q E s := by
 obtain ⟨od, J, hl⟩ := I.look
 exact PySem.W.get_value X J (PySem.W.plainGet_of hg).1 (PySem.W.findObj_own hh ha rfl (by rw [hl, hv])) hv' h
theorem get_meth {pl : Sem Bool} {Q : Value × List Value → Shared → Prop} (X : K.In s.heap) (I : ObjM s.heap x dx C mA) (hg : PySem.W.plainGet K C name = true)
  (hf : PySem.W.findIn K (.ref C) name = some (some (.ref f))) (ht : PySem.W.isFn K (.ref f) = true) (hv : mA name = none) (h : Q (.ref f, [.ref x]) s) :
  wpAny (model prog w) A (getMethod (.ref x) name pl) Q E s := by
 obtain ⟨od, J, hl⟩ := I.look
 exact PySem.W.method_fn X J (PySem.W.plainGet_of hg).1 (PySem.W.plainGet_of hg).2 hf (beq_iff_eq.mp ht) (by show (PySem.W.lookIn name od).map (·.isSome) = some false; rw [hl, hv]; rfl) h
theorem set_map {ns : List Str} {Q : Unit → Shared → Prop} (X : K.In s.heap) (I : ObjM s.heap x dx C mA)
  (hs : PySem.W.findIn K (.ref C) "__setattr__" = some (some (.builtin "object.__setattr__"))) (hp : PySem.W.plainOver K C = true) (ht : PySem.W.takerIn K C name = some none) (hh : PySem.W.hasDictIn K C = true)
  (hw : PySem.Within mA ns) (hsz : ns.length ≤ sizeLine)
  (h : ∀ h', ObjM h' x dx C (fun y => if y = name then some v else mA y) → Heap.SameBut dx s.heap h' → Q () { s with heap := h', toks := s.toks + 2 }) :
  wpAny (model prog w) A (setAttr (.ref x) name v) Q E s := by
 obtain ⟨od, J, hl⟩ := I.look
 refine PySem.W.set_plain X J hs (PySem.W.osa_open (s := { s with toks := s.toks + 1 }) (r := none) X J hp ht fun b => ?_)
 obtain ⟨cd, hc, hd'⟩ := PySem.W.any_some hh
 have hx : s.heap.get? x = some ⟨.ref C, some dx, .plain, #[]⟩ := I.obj
 refine wpAny_bind (wpAny_pure (wpAny_bind (wpAny_bind (wpAny_loadPart hx (wpAny_bind (PySem.W.Looks.here (s := { s with toks := s.toks + 1 }) (PySem.W.looks_clsIn X hc) ?_))))))
 rw [hd']
 refine wpAny_pure (a := some dx) (wpAny_bind (wpAny_pure (wpAny_bind ?_)))
 refine wpAny_nsSet1 (s := { s with toks := s.toks + 1 }) I.ns fun h' hn2 hs2 => ?_
 obtain ⟨oD, esD, epD, hoD, hdD, hcD⟩ := hn2.count (PySem.Within.cons name v hw)
 refine wpAny_bind (wpAny_lookBehind hoD (by rw [hdD]; exact pastItsLine_dict (Nat.le_trans hcD (by rw [List.length_cons]; omega))) ?_)
 exact wpAny_pure (h _ ⟨(hs2.2 _ (Ne.symm I.ne)).trans I.obj, hn2, I.ne⟩ hs2)
theorem vU {R : Result → Shared → Prop} {vs : List Value} {kw : List (Str × Value)} (X : K.In s.heap) (hm : PySem.W.makesIn K C = true)
  (hi : PySem.W.findIn K (.ref C) "__init__" = some (some (.ref f))) (hf : PySem.W.typeIn K (.ref f) = some (.type "function"))
  (h : codeAny (model prog w) (A.under (.builtin "type.__call__" ⟨.ref C :: vs, kw⟩)) (.call (.ref f) ⟨.ref (s.heap.objs.size + 1) :: vs, kw⟩) (PySem.W.InitBack (s.heap.objs.size + 1) R)
   { s with heap := (s.heap.push PySem.W.emptyDict).push (PySem.W.instObj C s.heap.objs.size) }) :
  codeAny (model prog w) A (.call (.ref C) ⟨vs, kw⟩) R s := by
 obtain ⟨hh, g, d, t, os⟩ := s
 exact PySem.W.make_core (PySem.W.makes_of X hm) (PySem.W.looks_findIn X hi) (fun self => PySem.W.bind_fn X self hf) (.inl rfl) h
end
def putF (f : Str) (v : V) : List (Str × V) → List (Str × V)
 | [] => [(f, v)]
 | (g, x) :: r => if g = f then (g, v) :: r else (g, x) :: putF f v r
theorem jE (f g : Str) (v : V) : ∀ fs : List (Str × V), (putF f v fs).lookup g = if g = f then some v else fs.lookup g
 | [] => by
  show List.lookup g [(f, v)] = _
  by_cases h : g = f
  ·have hb : (g == f) = true := beq_iff_eq.mpr h
   simp only [List.lookup, hb, if_pos h]
  ·have hb : (g == f) = false := beq_eq_false_iff_ne.mpr h
   simp only [List.lookup, hb, if_neg h]
 | (k, x) :: r => by
  have ih := jE f g v r
  rw [show putF f v ((k, x) :: r) = (if k = f then (k, v) :: r else (k, x) :: putF f v r) from rfl]
  by_cases hk : k = f
  ·rw [if_pos hk]
   by_cases h : g = k
   ·have hb : (g == k) = true := beq_iff_eq.mpr h
    simp only [List.lookup, hb, if_pos (h.trans hk)]
   ·have hb : (g == k) = false := beq_eq_false_iff_ne.mpr h
    simp only [List.lookup, hb, if_neg (fun e : g = f => h (e.trans hk.symm))]
  ·rw [if_neg hk]
   by_cases h : g = k
   ·have hb : (g == k) = true := beq_iff_eq.mpr h
    simp only [List.lookup, hb, if_neg (fun e : g = f => hk (h.symm.trans e))]
   ·have hb : (g == k) = false := beq_eq_false_iff_ne.mpr h
    simp only [List.lookup, hb]
    exact ih
theorem xG (f : Str) (v : V) : ∀ fs : List (Str × V), f ∈ (putF f v fs).map (·.1) ∧ ∀ g, g ∈ fs.map (·.1) → g ∈ (putF f v fs).map (·.1)
 | [] => ⟨by simp [putF], fun g h => by simp at h⟩
 | (k, x) :: r => by
  obtain ⟨i1, i2⟩ := xG f v r
  rw [show putF f v ((k, x) :: r) = (if k = f then (k, v) :: r else (k, x) :: putF f v r) from rfl]
  by_cases hk : k = f
  ·rw [if_pos hk]
   subst hk
   exact ⟨by simp, fun g h => by simpa using h⟩
  ·rw [if_neg hk]
   refine ⟨?_, fun g h => ?_⟩
   ·rw [List.map_cons]
    exact List.mem_cons_of_mem _ i1
   ·rw [List.map_cons] at h ⊢
    rcases List.mem_cons.mp h with e | e
    ·exact List.mem_cons.mpr (.inl e)
    ·exact List.mem_cons_of_mem _ (i2 g e)
theorem qX (f : Str) (v : V) : ∀ fs : List (Str × V), (putF f v fs).length ≤ fs.length + 1
 | [] => by simp [putF]
 | (k, x) :: r => by
  have ih := qX f v r
  rw [show putF f v ((k, x) :: r) = (if k = f then (k, v) :: r else (k, x) :: putF f v r) from rfl]
  by_cases hk : k = f
  ·rw [if_pos hk, List.length_cons, List.length_cons]; omega
  ·rw [if_neg hk, List.length_cons, List.length_cons]; omega
theorem RelO.some_of {v : V} {o : Option Value} (r : RelO (some v) o) : ∃ u, o = some u ∧ RelV v u := by
 cases o with
 | none => exact (show False from r).elim
 | some u => exact ⟨u, rfl, r⟩
theorem RelO.none_of {o : Option Value} (r : RelO none o) : o = none := by
 cases o with
 | none => rfl
 | some u => exact (show False from r).elim
theorem handed_of {v : V} {u : Value} (r : RelV v u) : PySem.W.handedIn u = true := by
 cases v with
 | non => cases (show u = Value.none from r); rfl
 | bl b => cases (show u = Value.bool b from r); rfl
 | int i => obtain ⟨t, e⟩ := (show ∃ t, u = Value.int i t from r); cases e; rfl
 | str x => obtain ⟨t, e⟩ := (show ∃ t, u = Value.str x t from r); cases e; rfl
 | byt b => obtain ⟨t, e⟩ := (show ∃ t, u = Value.bytes b t from r); cases e; rfl
 | flt b => obtain ⟨t, e⟩ := (show ∃ t, u = Value.float b t from r); cases e; rfl
 | ref a => cases (show u = Value.ref a from r); rfl
 | ty n => cases (show u = Value.type n from r); rfl
section
variable {P : Program} {w : World} {H H' : Hp} {h h' : Heap} {a C dx : Addr} {fs fs' : List (Str × V)}
theorem wa (hok : HOk P w H h) (e : H a = some (.ins C dx fs)) : ∃ mA, ObjM h a dx C mA ∧ (∀ f, RelO (fs.lookup f) (mA f)) ∧ PySem.Within mA (fs.map (·.1)) ∧ fs.length ≤ 1000 ∧ H dx = some (.own a) := by
 obtain ⟨d, z, ne, ob, mA, n, r, q⟩ := (show ObjOk P w H h a (.ins C dx fs) from hok a _ e)
 exact ⟨mA, ⟨ob, n, ne⟩, r, q, z, d⟩
end
structure Cls (K : PySem.W.Frag) (C : Addr) : Prop where
 pg : PySem.W.plainGet K C Str.empty = true
 hd : PySem.W.hasDictIn K C = true
 po : PySem.W.plainOver K C = true
 sa : PySem.W.findIn K (.ref C) "__setattr__" = some (some (.builtin "object.__setattr__"))
theorem Cls.get {K : PySem.W.Frag} {C : Addr} (c : Cls K C) (f : Str) : PySem.W.plainGet K C f = true := c.pg
def NoAttr (K : PySem.W.Frag) (C : Addr) (f : Str) : Prop := PySem.W.findIn K (.ref C) f = some none
theorem NoAttr.taker {K : PySem.W.Frag} {C : Addr} {f : Str} (n : NoAttr K C f) : PySem.W.takerIn K C f = some none := by
 unfold PySem.W.takerIn
 rw [show PySem.W.findIn K (.ref C) f = some none from n]
 rfl
structure Meth (K : PySem.W.Frag) (C : Addr) (m : Str) (f : Addr) : Prop where
 at_ : PySem.W.findIn K (.ref C) m = some (some (.ref f))
 fn : PySem.W.isFn K (.ref f) = true
 kp : PySem.W.keepIn K (.ref f) = true
section
variable {X : Cx} {pins : List (Addr × Obj)} {σ : St} {H : Hp} {s : Shared} {a C dx : Addr} {fs : List (Str × V)} {f : Str} {v : V} {A : Around} {E : Value → Shared → Prop}
theorem getattr_ok {b : Bool} {Q : Value → Shared → Prop} (I : Inv X pins σ H s) (e : H a = some (.ins C dx fs)) (c : Cls X.K C) (n : NoAttr X.K C f) (l : fs.lookup f = some v)
  (h : ∀ u s', Inv X pins σ H s' → RelV v u → Q u s') : wpAny (model X.prog X.w) A (getAttr (.ref a) f b) Q E s := by
 obtain ⟨mA, O, r, _, _, _⟩ := wa I.hok e
 obtain ⟨u, hu, ru⟩ := RelO.some_of (v := v) (o := mA f) (by rw [← l]; exact r f)
 exact get_map I.kIn O (c.get f) c.hd n hu (handed_of ru) (h u _ (I.tok _) ru)
theorem wF {m : Str} {g : Addr} {pl : Sem Bool} {Q : Value × List Value → Shared → Prop} (I : Inv X pins σ H s) (e : H a = some (.ins C dx fs)) (c : Cls X.K C) (k : Meth X.K C m g) (l : fs.lookup m = none)
  (h : Q (.ref g, [.ref a]) s) : wpAny (model X.prog X.w) A (getMethod (.ref a) m pl) Q E s := by
 obtain ⟨mA, O, r, _, _, _⟩ := wa I.hok e
 have hn : mA m = none := RelO.none_of (by rw [← l]; exact r m)
 exact get_meth I.kIn O (c.get m) k.at_ k.fn hn h
theorem setattr_ok {y : V} {u : Value} {Q : Unit → Shared → Prop} (I : Inv X pins σ H s) (e : H a = some (.ins C dx fs)) (c : Cls X.K C) (n : NoAttr X.K C f) (hl : fs.length < 1000) (ry : RelV y u)
  (h : ∀ s', Inv X pins σ (upd H a (.ins C dx (putF f y fs))) s' → Q () s') : wpAny (model X.prog X.w) A (setAttr (.ref a) f u) Q E s := by
 obtain ⟨mA, O, r, wi, _, ho⟩ := wa I.hok e
 have hz : (fs.map (·.1)).length ≤ sizeLine := by rw [List.length_map, sizeLine_eq]; omega
 refine set_map I.kIn O c.sa c.po n.taker c.hd wi hz fun h' O' sb => h _ ?_
 have hd : ∃ o, h'.get? dx = some o := let ⟨o, _, _, e', _⟩ := O'.ns; ⟨o, e'⟩
 refine I.write (x := a) (e := dx) (by rw [e]; exact True.intro) (.inr ho) (fun b q hb z => (sb.2 b hb).trans z) hd ?_
 refine ⟨by rw [upd_ne O.ne]; exact ho, ?_, O.ne, O'.obj, _, O'.ns, fun g => ?_, fun g hg => ?_⟩
 ·have := qX f y fs; omega
 ·show RelO ((putF f y fs).lookup g) (if g = f then some u else mA g)
  rw [jE]
  by_cases q : g = f
  ·rw [if_pos q, if_pos q]; exact ry
  ·rw [if_neg q, if_neg q]; exact r g
 ·by_cases q : g = f
  ·rw [q]; exact (xG f y fs).1
  ·refine (xG f y fs).2 g (wi g fun z => hg ?_)
   show (if g = f then some u else mA g) = none
   rw [if_neg q]; exact z
theorem Inv.made (I : Inv X pins σ H s) : Inv X pins σ (upd (upd H s.heap.objs.size (.own (s.heap.objs.size + 1))) (s.heap.objs.size + 1) (.ins C s.heap.objs.size []))
  { s with heap := (s.heap.push PySem.W.emptyDict).push (PySem.W.instObj C s.heap.objs.size) } := by
 have e1 : (s.heap.push PySem.W.emptyDict).get? s.heap.objs.size = some PySem.W.emptyDict := Heap.get?_push_size s.heap rfl
 have e2 : ((s.heap.push PySem.W.emptyDict).push (PySem.W.instObj C s.heap.objs.size)).get? (s.heap.objs.size + 1) = some (PySem.W.instObj C s.heap.objs.size) := by
  have := Heap.get?_push_size (s.heap.push PySem.W.emptyDict) (o := PySem.W.instObj C s.heap.objs.size) rfl
  rwa [Heap.size_push] at this
 have e3 : (s.heap.push PySem.W.emptyDict).Ns s.heap.objs.size (fun _ => none) := ⟨PySem.W.emptyDict, #[], _, e1, rfl, (fun e he => absurd he (by simp)), fun _ => rfl⟩
 have I1 := I.laid (a := s.heap.objs.size) (o := .own (s.heap.objs.size + 1)) (h' := s.heap.push PySem.W.emptyDict) (t' := s.toks) (fun b u q => Heap.get?_push_of_some _ q) (Nat.le_refl _) ⟨_, e1⟩
 refine I1.laid (a := s.heap.objs.size + 1) (o := .ins C s.heap.objs.size []) (t' := s.toks) (fun b u q => Heap.get?_push_of_some _ q) (Nat.le_of_eq (Heap.size_push _ _)) ?_
 have ne : s.heap.objs.size ≠ s.heap.objs.size + 1 := Nat.ne_of_lt (Nat.lt_succ_self _)
 refine ⟨by rw [upd_ne ne, upd_same], Nat.zero_le _, ne, e2, fun _ => none, (Heap.Ns1.of_empty e3).at fun o q => Heap.get?_push_of_some _ q, fun _ => True.intro, fun y hy => absurd rfl hy⟩
theorem attr_of {prog : Program} {w : World} {env : Env} {e : Expr} {f : Str} {pos : Pos} {s : Shared} {Q : Value → Shared → Prop} (hb : attributeBase e f env (eval e env) = eval e env)
  (h : wpAny (model prog w) A (eval e env) (fun o s₁ => wpAny (model prog w) A (getAttr o f true) Q E s₁) E s) : wpAny (model prog w) A (eval (.Attribute e f pos) env) Q E s :=
 Attribute_any_ h (by rw [arm_eval_Attribute, hb])
end
def tFld (K : PySem.W.Frag) (ta : TE) (f : Str) : TE := fun σ H Q => ta σ H fun x H1 => ∃ a C dx fs v, x = .ref a ∧ H1 a = some (.ins C dx fs) ∧ Cls K C ∧ NoAttr K C f ∧ fs.lookup f = some v ∧ Q v H1
def sFld (K : PySem.W.Frag) (ta tv : TE) (f : Str) : TS := fun D σ H => tv σ H fun y H1 => ta σ H1 fun x H2 => ∃ a C dx fs, x = .ref a ∧ H2 a = some (.ins C dx fs) ∧ Cls K C ∧ NoAttr K C f ∧ fs.length < 1000 ∧
 D.nx σ (upd H2 a (.ins C dx (putF f y fs)))
section
variable {X : Cx} {o e value : Expr} {f : Str} {pos pos' tpos : Pos} {ta tv : TE}
theorem zy (he : PE X e ta) (hb : attributeBase e f X.env (eval e X.env) = eval e X.env) : PE X (.Attribute e f pos) (tFld X.K ta f) := by
 intro pins s σ H Q I h
 refine attr_of hb (thn (he pins s σ H _ I h) fun u s1 ⟨x, H1, I1, rx, a, C, dx, fs, v, ex, ea, c, n, l, q⟩ => ?_)
 subst ex
 obtain rfl : u = Value.ref a := rx
 exact getattr_ok I1 ea c n l fun u' s2 I2 ru => ⟨v, H1, I2, ru, q⟩
theorem ja (ha : PE X o ta) (hv : PE X value tv) (hs : swapsWith value (some (.Attribute o f pos')) pos.line X.env = pure false) : PS X (.Assign [.Attribute o f pos'] value pos) (sFld X.K ta tv f) := by
 intro pins s σ H D I h
 refine plainObj_wpAny_Assign_Attribute (thn (hv pins s σ H _ I h) fun u s1 ⟨y, H1, I1, ry, q⟩ => thn (ha pins s1 σ H1 _ I1 q) fun ov s2 ⟨x, H2, I2, rx, a, C, dx, fs, ex, ea, c, n, l, q2⟩ => ?_) hs
 subst ex
 obtain rfl : ov = Value.ref a := rx
 exact setattr_ok I2 ea c n l ry fun s3 I3 => ⟨σ, _, I3, q2⟩
end
section
variable {X : Cx} {pins : List (Addr × Obj)} {σ : St} {H : Hp} {s : Shared} {A : Around} {E : Value → Shared → Prop} {Q : Value → Shared → Prop} {c : Value} {b : Bool}
inductive TyOf (K : PySem.W.Frag) (H : Hp) : V → Value → Prop where
 | non : TyOf K H .non (.type "NoneType")
 | bl (x : Bool) : TyOf K H (.bl x) (.type "bool")
 | int (i : Int) : TyOf K H (.int i) (.type "int")
 | str (x : Str) : TyOf K H (.str x) (.type "str")
 | flt (x : UInt64) : TyOf K H (.flt x) (.type "float")
 | lst {a : Addr} {xs : List V} (e : H a = some (.lst xs)) : TyOf K H (.ref a) (.type "list")
 | frz {a : Addr} {o : Obj} {xs : List V} (e : H a = some (.frz o (.lst xs))) : TyOf K H (.ref a) (.type "list")
 | tup {a : Addr} {xs : List V} (e : H a = some (.tup xs)) : TyOf K H (.ref a) (.type "tuple")
 | dK {a : Addr} {kvs : List (Key × V)} (e : H a = some (.dK kvs)) : TyOf K H (.ref a) (.type "dict")
 | dT {a : Addr} {kvs : List (List Key × V)} (e : H a = some (.dT kvs)) : TyOf K H (.ref a) (.type "dict")
 | ins {a C dx : Addr} {fs : List (Str × V)} (e : H a = some (.ins C dx fs)) (cl : Cls K C) (ha : PySem.W.findIn K (.ref C) "__class__" = some (some (.builtin "object.__class__")))
   (hn : PySem.W.specialIn K (.builtin "object.__class__") "__get__" = some (some (.builtin "getset_descriptor.__get__"))) (htk : PySem.W.takesIn K (.builtin "object.__class__") = some true)
   (hm : PySem.W.mroIn K C (.type "object") = some true) : TyOf K H (.ref a) (.ref C)
end
end L2
namespace L2
open PySem PySem.Spec PyProof.Rows
structure Room (k : Nat) (A : Around) : Prop where
 hd : A.handled = none
 dp : A.depth + 3 * k + 5 < recursionLimit
 un : A.units + 16 * k + 200 < cLine
theorem Room.mono {j k : Nat} {A : Around} (r : Room k A) (h : j ≤ k) : Room j A := ⟨r.hd, by have := r.dp; omega, by have := r.un; omega⟩
theorem Room.deeper {k : Nat} {A : Around} (r : Room (k + 1) A) (env : Env) : Room k (A.deeper env) :=
 ⟨r.hd, by have := r.dp; show A.depth + 1 + 3 * k + 5 < _; omega, by have := r.un; show A.units + 3 + 16 * k + 200 < _; omega⟩
theorem Room.in1 {k : Nat} {A : Around} (r : Room (k + 1) A) : Room k A.in1 :=
 ⟨r.hd, by have := r.dp; show A.depth + 3 * k + 5 < _; omega, by have := r.un; show A.units + 1 + 16 * k + 200 < _; omega⟩
theorem make_depth {A : Around} {C : Addr} {us : List Value} {kw : List (Str × Value)} : (A.under (.builtin "type.__call__" ⟨.ref C :: us, kw⟩)).depth = A.depth + 1 := by
 first | rfl | simp [Around.under, Code.weight, Code.isCreation, Code.isGuard, Code.isCaller, Code.frames, Code.isFrame, guardIds]
theorem make_units {A : Around} {C : Addr} {us : List Value} {kw : List (Str × Value)} : (A.under (.builtin "type.__call__" ⟨.ref C :: us, kw⟩)).units = A.units + 1 := by
 first | rfl | simp [Around.under, Code.cUnits, Code.frames, Code.isFrame]
theorem Room.make {k : Nat} {A : Around} (r : Room (k + 1) A) (C : Addr) (us : List Value) (kw : List (Str × Value)) : Room k (A.under (.builtin "type.__call__" ⟨.ref C :: us, kw⟩)) :=
 ⟨r.hd, by have := r.dp; rw [make_depth]; omega, by have := r.un; rw [make_units]; omega⟩
theorem Room.depth {k : Nat} {A : Around} (r : Room k A) : A.depth < recursionLimit := by have := r.dp; omega
theorem Room.units {k : Nat} {A : Around} (r : Room k A) : A.units + 64 < cLine := by have := r.un; omega
def tNil : TA := fun _ H Q => Q [] H
def tCons (ta : TE) (tr : TA) : TA := fun σ H Q => ta σ H fun x H1 => tr σ H1 fun xs H2 => Q (x :: xs) H2
section
variable {X : Cx} {e : Expr} {es : List Expr} {te : TE} {t : TA} {pos : Pos}
theorem zb : PA X [] tNil := fun _ _ _ _ H Q I h => Calls.spliced_nil ⟨[], H, I, .nil, h⟩
theorem za (ha : PE X e te) (hr : PA X es t) (hs : starEach (e :: es) X.env = (false, eval e X.env) :: starEach es X.env := by rfl) : PA X (e :: es) (tCons te t) := by
 intro pos pins s σ H Q I h
 rw [hs]
 show wpAny _ _ (spliced ((false, eval e X.env) :: backTo pos (starEach es X.env))) _ _ s
 refine Calls.spliced_cons (thn (ha pins s σ H _ I h) fun u s1 ⟨x, H1, I1, r1, q1⟩ => ?_)
 exact thn (hr pos pins s1 σ H1 _ I1 q1) fun us s2 ⟨xs, H2, I2, r2, q2⟩ => ⟨x :: xs, H2, I2, .cons r1 r2, q2⟩
def tTup (t : TA) : TE := fun σ H Q => t σ H fun xs H1 => xs.length ≤ sizeLine ∧ ∀ p, H1 p = none → Q (.ref p) (upd H1 p (.tup xs))
def tLst (t : TA) : TE := fun σ H Q => t σ H fun xs H1 => xs.length ≤ sizeLine ∧ ∀ p, H1 p = none → Q (.ref p) (upd H1 p (.lst xs))
theorem qo {x1} (h : PA X es t) : PE X (.Tuple es x1 pos) (tTup t) := by
 intro pins s σ H Q I hq
 refine wpAny_Tuple_spliced (thn (h pos pins s σ H _ I hq) fun us s1 ⟨xs, H1, I1, r, z, q⟩ => ⟨by rw [← r.length]; exact z, ?_⟩)
 have hf : H1 s1.heap.objs.size = none := I1.hok.fresh (Nat.le_refl _)
 refine ⟨.ref s1.heap.objs.size, upd H1 s1.heap.objs.size (.tup xs), I1.laid (t' := s1.toks) (fun b u e => Heap.get?_push_of_some _ e) (Nat.le_refl _) ?_, rfl, q _ hf⟩
 exact ⟨z, us, r, ⟨_, Heap.get?_push_size _ rfl, rfl, _, rfl⟩⟩
theorem zz (h : PA X es t) : PE X (.List es pos) (tLst t) := by
 intro pins s σ H Q I hq
 refine wpAny_List_spliced (thn (h pos pins s σ H _ I hq) fun us s1 ⟨xs, H1, I1, r, z, q⟩ => ⟨by rw [← r.length]; exact z, ?_⟩)
 have hf : H1 s1.heap.objs.size = none := I1.hok.fresh (Nat.le_refl _)
 refine ⟨.ref s1.heap.objs.size, upd H1 s1.heap.objs.size (.lst xs), I1.laid (t' := s1.toks) (fun b u e => Heap.get?_push_of_some _ e) (Nat.le_refl _) ?_, rfl, q _ hf⟩
 exact ⟨z, us, 0, r, Heap.get?_push_size _ rfl⟩
end
abbrev Sp := List V → Hp → VK → XK → Prop
abbrev CXT := List Env → Hp → Shared → XK → Value → Shared → Prop
structure Env0 (P : Program) (w : World) (K : PySem.W.Frag) (mg : Str → Option Value) (base : Heap) (A : Around) (outer : List Env) (s : Shared) (H : Hp) : Prop where
 frames : A.frames = some outer
 mod : Mod K mg base
 bs : ∀ b o, base.get? b = some o → s.heap.get? b = some o ∧ H b = none
 bsz : base.objs.size ≤ s.heap.objs.size
 funs : s.heap.FunFrames base outer
 frf : ∀ b ∈ frs outer, H b = none
 hok : HOk P w H s.heap
 bare : AllBare s.gens
def CE (outer : List Env) (P : Program) (w : World) (H : Hp) (s : Shared) (Q : VK) (u : Value) (s' : Shared) : Prop :=
 ∃ v H', s'.os = s.os ∧ AllBare s'.gens ∧ Un (frs outer) [] H H' s.heap s'.heap ∧ HOk P w H' s'.heap ∧ RelV v u ∧ Q v H'
def CR (CX : CXT) (outer : List Env) (P : Program) (w : World) (H : Hp) (s : Shared) (Q : VK) (E : XK) (r : Result) (s' : Shared) : Prop :=
 match r with
 | .ok (.ret u) => CE outer P w H s Q u s'
 | .ok _ => False
 | .error e => CX outer H s E e s'
structure FnOk (P : Program) (w : World) (K : PySem.W.Frag) (mg : Str → Option Value) (base : Heap) (CX : CXT) (k : Nat) (f : Addr) (fd : FuncData) (ps : List Str) (sp : Sp) : Prop where
 len : ∀ vs H Q E, sp vs H Q E → vs.length = ps.length
 run : ∀ (A : Around) (outer : List Env) (s : Shared) (H : Hp) (args : Args) (us : List Value) (vs : List V) (Q : VK) (E : XK), Room k A → Env0 P w K mg base A outer s H → BindsTo s fd args (ps.zip us) → Vals vs us → sp vs H Q E →
  codeAny (model P w) A (.call (.ref f) args) (CR CX outer P w H s Q E) s
theorem FnOk.mono {P : Program} {w : World} {K : PySem.W.Frag} {mg : Str → Option Value} {base : Heap} {CX : CXT} {j k : Nat} {f : Addr} {fd : FuncData} {ps : List Str} {sp : Sp} (F : FnOk P w K mg base CX j f fd ps sp) (h : j ≤ k) :
  FnOk P w K mg base CX k f fd ps sp := ⟨F.len, fun A outer s H args us vs Q E hr => F.run A outer s H args us vs Q E (hr.mono h)⟩
theorem FnOk.imp {P : Program} {w : World} {K : PySem.W.Frag} {mg : Str → Option Value} {base : Heap} {CX : CXT} {k : Nat} {f : Addr} {fd : FuncData} {ps : List Str} {sp sp' : Sp} (F : FnOk P w K mg base CX k f fd ps sp)
  (h : ∀ vs H Q E, sp' vs H Q E → sp vs H Q E) : FnOk P w K mg base CX k f fd ps sp' :=
 ⟨fun vs H Q E q => F.len vs H Q E (h _ _ _ _ q), fun A outer s H args us vs Q E hr he hb hv hs => F.run A outer s H args us vs Q E hr he hb hv (h _ _ _ _ hs)⟩
theorem Env0.make {P : Program} {w : World} {K : PySem.W.Frag} {mg : Str → Option Value} {base : Heap} {A : Around} {outer : List Env} {s : Shared} {H : Hp} (e : Env0 P w K mg base A outer s H) (C : Addr) (us : List Value) (kw : List (Str × Value)) :
  Env0 P w K mg base (A.under (.builtin "type.__call__" ⟨.ref C :: us, kw⟩)) outer s H := ⟨by first | exact e.frames | (simpa [Around.under, Code.envs, Code.isFrame, pushEnvs] using e.frames), e.mod, e.bs, e.bsz, e.funs, e.frf, e.hok, e.bare⟩
theorem Env0.in1 {P : Program} {w : World} {K : PySem.W.Frag} {mg : Str → Option Value} {base : Heap} {A : Around} {outer : List Env} {s : Shared} {H : Hp} (e : Env0 P w K mg base A outer s H) :
  Env0 P w K mg base A.in1 outer s H := ⟨e.frames, e.mod, e.bs, e.bsz, e.funs, e.frf, e.hok, e.bare⟩
section
variable {X : Cx} {pins : List (Addr × Obj)} {σ : St} {H : Hp} {s s' : Shared}
theorem Inv.env0 (I : Inv X pins σ H s) : Env0 X.prog X.w X.K X.mg X.base X.A X.stack s H :=
 ⟨I.ok.frames, I.ok.mod, I.bs, Nat.le_trans I.ok.bsz I.sz, I.stack, I.stkFree, I.hok, I.bare⟩
theorem Inv.after {Q : VK} {u : Value} (I : Inv X pins σ H s) (h : CE X.stack X.prog X.w H s Q u s') : EP X pins σ Q u s' := by
 obtain ⟨v, H', os, bare, un, hok, r, q⟩ := h
 obtain ⟨hh, g, d, t, os'⟩ := s'
 obtain rfl : os' = s.os := os
 exact ⟨v, H', I.call (h' := hh) (g' := g) (d' := d) (t' := t) (ch := []) un hok bare (fun b z => absurd z (by simp)), r, q⟩
end
def Binds (K : PySem.W.Frag) (fd : FuncData) (ps : List Str) (ds : List Value) : Prop :=
 ∀ (s : Shared) (us : List Value), K.In s.heap → (us ++ ds).length = ps.length → BindsTo s fd ⟨us, []⟩ (ps.zip (us ++ ds))
theorem Binds.all {K : PySem.W.Frag} {fd : FuncData} {ps : List Str} (h : ∀ us : List Value, us.length = ps.length → bindArgs fd ⟨us, []⟩ = pure (ps.zip us)) : Binds K fd ps [] := fun s us _ hl => by
 rw [List.append_nil] at hl ⊢
 exact .of_eq (h us hl)
def Zv (CX : CXT) (X : Cx) (E : XK) : Prop := ∀ (pins : List (Addr × Obj)) (σ : St) (H : Hp) (s : Shared) (e : Value) (s' : Shared), Inv X pins σ H s → CX X.stack H s E e s' → X.xe e s'
section
variable {X : Cx} {CX : CXT} {k : Nat} {f C : Addr} {fd : FuncData} {ps : List Str} {sp : Sp} {dvs : List V} {ds : List Value} {E : XK} {x m : Str} {p pos apos : Pos} {e o : Expr} {es : List Expr} {ta : TE} {t : TA}
theorem Z4 {pins : List (Addr × Obj)} {σ : St} {H : Hp} {s : Shared} {Q : VK} {us : List Value} {vs : List V} (F : FnOk X.prog X.w X.K X.mg X.base CX k f fd ps sp) (hr : Room k X.A) (hb : Binds X.K fd ps ds) (hd : Vals dvs ds) (hx : Zv CX X E)
  (I : Inv X pins σ H s) (r : Vals vs us) (h : sp (vs ++ dvs) H Q E) : wpAny (model X.prog X.w) X.A (call (.ref f) us) (EP X pins σ Q) X.xe s := by
 have r2 : Vals (vs ++ dvs) (us ++ ds) := r.append hd
 have hl : (us ++ ds).length = ps.length := by rw [← r2.length]; exact F.len _ _ _ _ h
 refine wpAny_call (codeAny_mono (F.run X.A X.stack s H ⟨us, []⟩ (us ++ ds) (vs ++ dvs) Q E hr I.env0 (hb s us I.kIn hl) r2 h) fun r s' hq => ?_)
 cases r with
 | error e => exact hx pins σ H s e s' I hq
 | ok fl =>
  cases fl with
  | ret u => exact I.after hq
  | next => exact False.elim hq
  | brk => exact False.elim hq
  | cont => exact False.elim hq
structure Mk (K : PySem.W.Frag) (C f : Addr) : Prop where
 makes : PySem.W.makesIn K C = true
 init : PySem.W.findIn K (.ref C) "__init__" = some (some (.ref f))
 fn : PySem.W.isFn K (.ref f) = true
 kp : PySem.W.keepIn K (.ref C) = true
theorem run_make {pins : List (Addr × Obj)} {σ : St} {H : Hp} {s : Shared} {Q : VK} {us : List Value} {vs : List V} (M : Mk X.K C f) (F : FnOk X.prog X.w X.K X.mg X.base CX k f fd ps sp) (hr : Room (k + 1) X.A) (hb : Binds X.K fd ps ds) (hd : Vals dvs ds)
  (hx : Zv CX X E) (I : Inv X pins σ H s) (r : Vals vs us)
  (h : ∀ x dx, H x = none → H dx = none → dx ≠ x → sp (.ref x :: (vs ++ dvs)) (upd (upd H dx (.own x)) x (.ins C dx [])) (fun v H2 => v = .non ∧ Q (.ref x) H2) E) :
  wpAny (model X.prog X.w) X.A (call (.ref C) us) (EP X pins σ Q) X.xe s := by
 have hq := h (s.heap.objs.size + 1) s.heap.objs.size (I.hok.fresh (Nat.le_succ _)) (I.hok.fresh (Nat.le_refl _)) (Nat.ne_of_lt (Nat.lt_succ_self _))
 have I2 := Inv.made (C := C) I
 have r2 : Vals (V.ref (s.heap.objs.size + 1) :: (vs ++ dvs)) (Value.ref (s.heap.objs.size + 1) :: (us ++ ds)) := .cons rfl (r.append hd)
 have hl : (Value.ref (s.heap.objs.size + 1) :: us ++ ds).length = ps.length := by
  have e := r2.length
  rw [F.len _ _ _ _ hq] at e
  exact e.symm
 refine wpAny_call (vU (f := f) I.kIn M.makes M.init (beq_iff_eq.mp M.fn) (codeAny_mono (F.run _ X.stack _ _ ⟨Value.ref (s.heap.objs.size + 1) :: us, []⟩ (Value.ref (s.heap.objs.size + 1) :: (us ++ ds)) _ _ E (hr.make C us [])
  (I2.env0.make C us []) (hb _ (Value.ref (s.heap.objs.size + 1) :: us) I2.kIn hl) r2 hq) fun r s' hq' => ?_))
 cases r with
 | error e => exact hx pins σ _ _ e s' I2 hq'
 | ok fl =>
  cases fl with
  | ret u =>
   obtain ⟨v, H', I3, rv, ev, q3⟩ := I2.after hq'
   subst ev
   exact ⟨rv, ⟨V.ref (s.heap.objs.size + 1), H', I3, rfl, q3⟩⟩
  | next => exact False.elim hq'
  | brk => exact False.elim hq'
  | cont => exact False.elim hq'
end
def PK (X : Cx) (kws : List Keyword) (t : TA) : Prop :=
 ∀ (pos : Pos) (pins : List (Addr × Obj)) (s : Shared) (σ : St) (H : Hp) (Q : List V → Hp → Prop), Inv X pins σ H s → t σ H Q → wpAny (model X.prog X.w) X.A (evalAll ((backToKw pos (keywordEach kws X.env)).map (·.2))) (AP X pins σ Q) X.xe s
section
variable {X : Cx} {CX : CXT} {k : Nat} {f C : Addr} {fd : FuncData} {ps ks : List Str} {sp : Sp} {E : XK} {x m : Str} {p pos apos kpos : Pos} {e o : Expr} {es : List Expr} {kws : List Keyword} {te ta : TE} {t tk : TA} {nm : Option Str}
variable {g : List Value → List Value → List Value} {gV : List V → List V → List V}
end
structure FnScope (N P : List Str) (sc : Scope) : Prop where
 kind : sc.kind = .function
 co : sc.isCoroutine = false
 gen : sc.isGenerator = false
 nd : N.Nodup
 pre : N.take P.length = P
 par : ∀ x ∈ P, sc.names.lookup x = some .local ∨ sc.names.lookup x = some .cell
 nofree : ∀ y ∈ sc.names, y.2 ≠ .free
theorem vj {kindOf : Str → Option NameKind} {x : Str} : ∀ {binds : List (Str × Value)} {m : Str → Option Value}, (∀ v, (x, v) ∉ binds) → bindL kindOf binds m x = m x
 | [], _, _ => rfl
 | (n, v) :: r, m, h => by
  unfold bindL
  rw [vj fun w hw => h w (List.mem_cons_of_mem _ hw)]
  split
  ·have : x ≠ n := by rintro rfl; exact h v List.mem_cons_self
   simp [this]
  ·rfl
theorem vn {kindOf : Str → Option NameKind} {x : Str} : ∀ {binds : List (Str × Value)} {m : Str → Option Value}, (∀ v, (x, v) ∉ binds) → bindC kindOf binds m x = m x
 | [], _, _ => rfl
 | (n, v) :: r, m, h => by
  unfold bindC
  rw [vn fun w hw => h w (List.mem_cons_of_mem _ hw)]
  split
  ·rfl
  ·have : x ≠ n := by rintro rfl; exact h v List.mem_cons_self
   simp [this]
theorem vk {kindOf : Str → Option NameKind} {x : Str} {v : Value} : ∀ {P : List Str} {vs : List Value} {i : Nat} {m : Str → Option Value}, P.Nodup → P[i]? = some x → vs[i]? = some v → kindOf x = some .local →
  bindL kindOf (P.zip vs) m x = some v
 | [], _, _, _, _, h, _, _ => by simp at h
 | _ :: _, [], _, _, _, _, h, _ => by simp at h
 | p :: P, w :: vs, 0, m, nd, h1, h2, hk => by
  simp at h1 h2; subst h1; subst h2
  show bindL kindOf ((p, w) :: P.zip vs) m p = _
  unfold bindL
  rw [vj fun v hv => (List.nodup_cons.mp nd).1 (List.of_mem_zip hv).1, if_pos hk]
  simp
 | p :: P, w :: vs, i + 1, m, nd, h1, h2, hk => by
  show bindL kindOf ((p, w) :: P.zip vs) m x = _
  unfold bindL
  exact vk (i := i) (List.nodup_cons.mp nd).2 (by simpa using h1) (by simpa using h2) hk
theorem vo {kindOf : Str → Option NameKind} {x : Str} {v : Value} : ∀ {P : List Str} {vs : List Value} {i : Nat} {m : Str → Option Value}, P.Nodup → P[i]? = some x → vs[i]? = some v → kindOf x ≠ some .local →
  bindC kindOf (P.zip vs) m x = some v
 | [], _, _, _, _, h, _, _ => by simp at h
 | _ :: _, [], _, _, _, _, h, _ => by simp at h
 | p :: P, w :: vs, 0, m, nd, h1, h2, hk => by
  simp at h1 h2; subst h1; subst h2
  show bindC kindOf ((p, w) :: P.zip vs) m p = _
  unfold bindC
  rw [vn fun v hv => (List.nodup_cons.mp nd).1 (List.of_mem_zip hv).1, if_neg hk]
  simp
 | p :: P, w :: vs, i + 1, m, nd, h1, h2, hk => by
  show bindC kindOf ((p, w) :: P.zip vs) m x = _
  unfold bindC
  exact vo (i := i) (List.nodup_cons.mp nd).2 (by simpa using h1) (by simpa using h2) hk
def start (N : List Str) (vs : List V) : St := vs.map some ++ List.replicate (N.length - vs.length) none
def cxOf (CX : CXT) (P : Program) (w : World) (K : PySem.W.Frag) (mg : Str → Option Value) (base : Heap) (N : List Str) (qual : Str) (scope : Scope) (f : Addr) (cd : Value) (A : Around) (outer : List Env) (s : Shared) (H : Hp) (E : XK) : Cx where
 prog := P
 w := w
 K := K
 mg := mg
 base := base
 A := A.deeper (envOfC qual scope s.heap.objs.size f cd)
 N := N
 s₀ := s
 H₀ := H
 env := envOfC qual scope s.heap.objs.size f cd
 outer := outer
 stack := envOfC qual scope s.heap.objs.size f cd :: outer
 ex := []
 calm := true
 fn := fun _ => true
 pn := []
 xe := fun e s' => wpAny (model P w) (A.deeper (envOfC qual scope s.heap.objs.size f cd)) (leaving (envOfC qual scope s.heap.objs.size f cd) e) (fun _ s'' => CX outer H s E e s'') (fun e' s'' => CX outer H s E e' s'') s'
theorem Zj {sc : Scope} {n : Nat} {x : Str} (h : sc.names.lookup x = some .cell) : ∃ c, (cellsFrom n sc.names []).lookup x = some c := by
 have q := PySem.W.cellsFrom_some sc.names n [] (.inl h)
 exact Option.isSome_iff_exists.mp q
theorem inv_start {CX : CXT} {P : Program} {w : World} {K : PySem.W.Frag} {mg : Str → Option Value} {base : Heap} {N ps : List Str} {qual : Str} {scope : Scope} {f : Addr} {cd : Value} {A : Around} {outer : List Env} {s s1 : Shared} {H : Hp} {E : XK} {us : List Value} {vs : List V}
  (S : FnScope N ps scope) (hd : A.handled = none) (e0 : Env0 P w K mg base A outer s H) (hl : vs.length = ps.length) (r : Vals vs us)
  (x : InCallC s s.heap.objs.size (bindL (envOfC qual scope s.heap.objs.size f cd).kindOf (ps.zip us) fun _ => none) (cellsFrom (s.heap.objs.size + 1) scope.names []) (bindC (envOfC qual scope s.heap.objs.size f cd).kindOf (ps.zip us) fun _ => none) s1) :
  Inv (cxOf CX P w K mg base N qual scope f cd A outer s H E) [] (start N vs) H s1 := by
 have hpl : ps.length ≤ N.length := by have := congrArg List.length S.pre; rw [List.length_take] at this; omega
 obtain ⟨h1, tk, rfl, hk⟩ := x.done
 have noA : ∀ b : Addr, b ∉ (cxOf CX P w K mg base N qual scope f cd A outer s H E).ex := fun b z => absurd (show b ∈ ([] : List Addr) from z) (by simp)
 refine ⟨⟨e0.mod, S.kind, rfl, rfl, Nat.le_refl _, fun y z c h1 h2 => ?_, fun y hy => ?_, fun y c _ h => ?_, fun _ => hd, Around.frames_deeper e0.frames, .inr ⟨rfl, rfl⟩, fun b z => absurd z (noA b), e0.bs, e0.bsz, fun b _ _ => noA b, fun b z => absurd z (noA b), e0.funs, e0.frf⟩,
  rfl, e0.bare, Un.kept hk, ⟨_, x.toInCall.ns, fun i y v h1 h2 h3 => ?_⟩, fun y c h => ⟨_, x.cell y c h⟩, e0.hok.fresh (Nat.le_refl _), fun y c h => ?_, fun p hp => absurd (show p ∈ ([] : List (Addr × Obj)) from hp) (by simp), e0.hok.kept hk, ?_⟩
 ·exact name_of_addr x.apart (PySem.mem_of_lookup h1) (PySem.mem_of_lookup h2)
 ·have hy : scope.names.lookup y = some .cell ∨ scope.names.lookup y = some .free := hy
  rcases hy with hy | hy
  ·exact Zj hy
  ·exact absurd rfl (S.nofree _ (PySem.mem_of_lookup hy))
 ·exact Nat.le_of_lt (x.above y c (PySem.mem_of_lookup h))
 ·have hi : i < vs.length := by
   unfold start at h2
   by_cases hi : i < vs.length
   ·exact hi
   ·rw [List.getElem?_append_right (by simpa using hi)] at h2
    rw [List.getElem?_replicate] at h2
    split at h2 <;> cases h2
  have ha : vs[i]? = some v := by
   unfold start at h2
   rw [List.getElem?_append_left (by simpa using hi), List.getElem?_map] at h2
   cases e : vs[i]? with
   | none => rw [e] at h2; cases h2
   | some a => rw [e] at h2; cases h2; rfl
  obtain ⟨u, hu, rv⟩ := r.get ha
  have hp : ps[i]? = some y := by
   rw [← S.pre, List.getElem?_take_of_lt (by omega)]; exact h1
  have ndP : ps.Nodup := by rw [← S.pre]; exact S.nd.sublist (List.take_sublist _ _)
  refine ⟨u, rv, ?_⟩
  rcases S.par y (List.mem_of_getElem? hp) with k | k
  ·exact .inl ⟨k, vk ndP hp hu k⟩
  ·obtain ⟨c, e⟩ := Zj (n := s.heap.objs.size + 1) k
   refine .inr ⟨.inl k, c, e, ?_⟩
   have q := x.cell y c e
   rw [vo ndP hp hu (by show scope.names.lookup y ≠ _; rw [k]; decide)] at q
   exact q
 ·exact e0.hok.fresh (Nat.le_of_lt (x.above y c (PySem.mem_of_lookup h)))
 ·unfold start
  show _ = N.length
  rw [List.length_append, List.length_map, List.length_replicate]
  omega
theorem Qd {CX : CXT} {P : Program} {w : World} {K : PySem.W.Frag} {mg : Str → Option Value} {base : Heap} {k : Nat} {f : Addr} {name qual : Str} {params : Arguments} {body : List Stmt} {scope : Scope} {dV kV doc pm cdv ct oc : Value} {an od : Option Addr}
  {osl : Array (Option Value)} {N ps : List Str} {sp : Sp} (lk : K.lookup f = some ⟨oc, od, .func (PySem.W.fnOf name qual params body scope dV kV doc pm an cdv ct), osl⟩) (hcd : PySem.W.codeIn K cdv qual = true) (S : FnScope N ps scope)
  (len : ∀ vs H Q E, sp vs H Q E → vs.length = ps.length)
  (hbody : ∀ (A : Around) (outer : List Env) (s : Shared) (H : Hp) (vs : List V) (Q : VK) (E : XK), Room k (A.deeper (envOfC qual scope s.heap.objs.size f cdv)) → sp vs H Q E →
   ∃ t, PSs (cxOf CX P w K mg base N qual scope f cdv A outer s H E) body t ∧ t { nx := fun _ H' => Q .non H', rt := Q } (start N vs) H) :
  FnOk P w K mg base CX (k + 1) f (PySem.W.fnOf name qual params body scope dV kV doc pm an cdv ct) ps sp := by
 refine ⟨len, fun A outer s H args us vs Q E hr e0 hb r hsp => ?_⟩
 have hl := len _ _ _ _ hsp
 have KX : K.In s.heap := e0.mod.kin.keeps fun b o e => (e0.bs b o e).1
 have lim : s.heap.NoLimit := e0.mod.nolimit.keeps fun b o e => (e0.bs b o e).1
 have hkind : ∀ y ∈ ps.zip us, scope.names.lookup y.1 = some .local ∨ (scope.names.lookup y.1 = some .cell ∧ ((cellsFrom (s.heap.objs.size + 1) scope.names []).lookup y.1).isSome = true) := fun ⟨n, v⟩ hy => by
  rcases S.par n (List.of_mem_zip hy).1 with q | q
  ·exact .inl q
  ·exact .inr ⟨q, PySem.W.cellsFrom_some _ _ _ (.inl q)⟩
 refine codeAny_call_function hr.depth (KX _ _ lk) rfl S.co S.gen rfl (PySem.W.codeRec_of KX hcd) (hb _ _ _ _ ?_)
 refine wpAny_newFunctionEnv_cells S.kind hkind fun env he s1 x => ?_
 subst he
 refine ⟨lim.keeps x.toInCall.keep, codeAny_func ?_⟩
 obtain ⟨t, ht, hq⟩ := hbody A outer s H vs Q E (hr.deeper _) hsp
 have I : Inv (cxOf CX P w K mg base N qual scope f cdv A outer s H E) [] (start N vs) H s1 := inv_start S hr.hd e0 hl r x
 refine wpAny_mono (ht [] s1 (start N vs) H _ I hq) (fun fl s' hs => ?_) fun e s' hs => hs
 have fin : ∀ {σ' : St} {H' : Hp} {v : V} {u : Value}, Inv (cxOf CX P w K mg base N qual scope f cdv A outer s H E) [] σ' H' s' → RelV v u → Q v H' → CE outer P w H s Q u s' :=
  fun {σ' H' v u} J rv q => ⟨v, H', J.os, J.bare, J.base, J.hok, rv, q⟩
 cases fl with
 | ret u =>
  obtain ⟨v, σ', H', J, rv, q⟩ := hs
  exact fin J rv q
 | next =>
  obtain ⟨σ', H', J, q⟩ := hs
  exact fin (v := V.non) (u := Value.none) J rfl q
 | brk =>
  obtain ⟨_, _, _, q⟩ := hs
  exact False.elim q
 | cont =>
  obtain ⟨_, _, _, q⟩ := hs
  exact False.elim q
end L2
namespace L2
open PySem PySem.Spec PyProof.Rows
section
variable {X : Cx} {x : Str} {p pos : Pos} {e : Expr} {es : List Expr} {t : TA} {id T : String} {r : List V → Hp → VK → Prop}
def tCB (r : List V → Hp → VK → Prop) (t : TA) : TE := fun σ H Q => t σ H fun vs H1 => r vs H1 Q
theorem pe_callB (hc : CallR X (.builtin id) r) (hg : Gl X x) (hm : X.mg x = none) (hv : bootBuiltins x = some (.builtin id)) (ha : PA X (e :: es) t) (hn : x ≠ "__name__" := by decide) (hdb : (x == ("__debug__" : Str)) = false := by decide)
  (he : starEach (e :: es) X.env = (false, eval e X.env) :: starEach es X.env := by rfl) (hpl : (backTo pos (starEach es X.env)).any (·.1) = false := by rfl) : PE X (.Call (.Name x p) (e :: es) [] pos) (tCB r t) := by
 intro pins s σ H Q I h
 refine wpAny_Call_Name_kw (j3 I hg hm hv ?_ hn hdb)
 exact PyProof.Rows.callWith_builtin1 (thn (ha pos pins s σ H _ I h) fun us s1 ⟨vs, H1, I1, r1, q1⟩ => hc pins s1 σ H1 vs us Q I1 r1 q1) he hpl
theorem pe_callTy (hc : CallR X (.type T) r) (hg : Gl X x) (hm : X.mg x = none) (hv : bootBuiltins x = some (.type T)) (ha : PA X (e :: es) t) (hn : x ≠ "__name__" := by decide) (hdb : (x == ("__debug__" : Str)) = false := by decide)
  (he : starEach (e :: es) X.env = (false, eval e X.env) :: starEach es X.env := by rfl) (hpl : (backTo pos (starEach es X.env)).any (·.1) = false := by rfl) : PE X (.Call (.Name x p) (e :: es) [] pos) (tCB r t) := by
 intro pins s σ H Q I h
 refine wpAny_Call_Name_kw (j3 I hg hm hv ?_ hn hdb)
 exact PyProof.Rows.callWith_type1 (thn (ha pos pins s σ H _ I h) fun us s1 ⟨vs, H1, I1, r1, q1⟩ => hc pins s1 σ H1 vs us Q I1 r1 q1) he hpl
end
end L2
namespace HT
open PySem PyProof.Rows
section
open PySem.SeqAt
open PySem.AutoSeq1 (wpAny_loadPart')
open PySem.MeetsSeq PySem.MeetsSeq2 PySem.MeetsSeq3
end
section
variable {prog : Program} {w : World} {A : Around} {E : Value → Shared → Prop} {s : Shared}
def sIx (n d : Nat) : Option Int → Nat
 | none => d
 | some v => if v < 0 then (v + (n : Int)).toNat else min v.toNat n
theorem sIx_none (n d : Nat) : sIx n d none = d := rfl
theorem sIx_nat (n d k : Nat) : sIx n d (some (k : Int)) = min k n := by
 show (if (k : Int) < 0 then ((k : Int) + (n : Int)).toNat else min (k : Int).toNat n) = min k n
 rw [if_neg (by omega), Int.toNat_natCast]
end
end HT
namespace L2
open PySem PySem.Spec PyProof.Rows
abbrev TO := St → Hp → (Option Int → Hp → Prop) → Prop
def PO (X : Cx) (e : Option Expr) (t : TO) : Prop :=
 ∀ (pins : List (Addr × Obj)) (s : Shared) (σ : St) (H : Hp) (Q : Option Int → Hp → Prop), Inv X pins σ H s → t σ H Q →
  wpAny (model X.prog X.w) X.A (evalPart e X.env) (fun u s' => ∃ o H', Inv X pins σ H' s' ∧ IsPart u o ∧ Q o H') X.xe s
def tNoPart : TO := fun _ H Q => Q none H
def tPart (t : TE) : TO := fun σ H Q => t σ H fun x H1 => ∃ i, x = .int i ∧ Q (some i) H1
theorem intsAre_of {ns : List Int} : ∀ {us : List Value}, Vals (ns.map V.int) us → IntsAre us ns := by
 induction ns with
 | nil => intro us r; rw [List.map_nil] at r; cases r; exact .nil
 | cons n ns ih =>
  intro us r
  rw [List.map_cons] at r
  cases r with
  | cons r1 r2 =>
   obtain ⟨t, e⟩ := r1
   subst e
   exact .cons n t (ih r2)
section
variable {X : Cx} {e : Expr} {te : TE} {lo hi : Option Expr} {tl th : TO} {pos p2 : Pos}
theorem qg : PO X none tNoPart := by
 intro pins s σ H Q I h
 rw [evalPart_none]
 exact wpAny_pure ⟨none, H, I, .none, h⟩
theorem zX (h : PE X e te) : PO X (some e) (tPart te) := by
 intro pins s σ H Q I hw
 rw [evalPart_some]
 refine thn (h pins s σ H _ I hw) fun u s1 ⟨x, H1, I1, r1, q1⟩ => ?_
 obtain ⟨i, rfl, q⟩ := q1
 obtain ⟨t, rfl⟩ := r1
 exact ⟨some i, H1, I1, .int i t, q⟩
def SlR (X : Cx) (r : V → Option Int → Option Int → Hp → VK → Prop) : Prop :=
 ∀ (pins : List (Addr × Obj)) (s : Shared) (σ : St) (H : Hp) (x : V) (v vl vu : Value) (lo hi : Option Int) (sl : Addr) (Q : VK), Inv X pins σ H s → RelV x v → s.heap.IsSliceOf sl vl vu .none → IsPart vl lo → IsPart vu hi → r x lo hi H Q →
  ∃ T id, typeLookup (.type T) "__getitem__" = pure (some (.builtin id)) ∧ s.TypeIs v T ∧ wpAny (model X.prog X.w) X.A (getItem v (.ref sl)) (EP X pins σ Q) X.xe s
theorem SlR.or {r r' : V → Option Int → Option Int → Hp → VK → Prop} (h : SlR X r) (h' : SlR X r') : SlR X (fun x lo hi H Q => r x lo hi H Q ∨ r' x lo hi H Q) := by
 intro pins s σ H x v vl vu lo hi sl Q I rx hs pl pu q
 rcases q with q | q
 ·exact h pins s σ H x v vl vu lo hi sl Q I rx hs pl pu q
 ·exact h' pins s σ H x v vl vu lo hi sl Q I rx hs pl pu q
def tSl (r : V → Option Int → Option Int → Hp → VK → Prop) (te : TE) (tl th : TO) : TE := fun σ H Q => te σ H fun x H1 => tl σ H1 fun l H2 => th σ H2 fun u H3 => r x l u H3 Q
theorem zV {r : V → Option Int → Option Int → Hp → VK → Prop} (hr : SlR X r) (he : PE X e te) (hl : PO X lo tl) (hu : PO X hi th) : PE X (.Subscript e (.Slice lo hi none p2) pos) (tSl r te tl th) := by
 intro pins s σ H Q I h
 refine Subscript_ (thn (he pins s σ H _ I h) fun v s1 ⟨x, H1, I1, r1, q1⟩ => ?_)
 refine wpAny_Slice (thn (hl pins s1 σ H1 _ I1 q1) fun vl s2 ⟨l, H2, I2, pl, q2⟩ => thn (hu pins s2 σ H2 _ I2 q2) fun vu s3 ⟨u, H3, I3, pu, q3⟩ => ?_)
 rw [evalPart_none]
 refine wpAny_pure ?_
 have I4 : Inv X pins σ H3 { s3 with heap := s3.heap.push { cls := .type "slice", data := .fields #[vl, vu, .none] } } := I3.kept (t' := s3.toks) fun b ob q => Heap.get?_push_of_some _ q
 obtain ⟨T, id, hT, ht, hg⟩ := hr pins { s3 with heap := s3.heap.push { cls := .type "slice", data := .fields #[vl, vu, .none] } } σ H3 x v vl vu l u s3.heap.objs.size Q I4 r1 (Heap.IsSliceOf.new ..) pl pu q3
 show wpAny (model X.prog X.w) X.A (subscriptTail e (.Slice lo hi none p2) v (.ref s3.heap.objs.size)) (EP X pins σ Q) X.xe { s3 with heap := s3.heap.push { cls := .type "slice", data := .fields #[vl, vu, .none] } }
 exact tail_any (ops := [.ref s3.heap.objs.size, v]) ht hT hg (by with_unfolding_all rfl)
def cutV (xs : List V) (lo hi : Option Int) : List V := (xs.drop (HT.sIx xs.length 0 lo)).take (HT.sIx xs.length xs.length hi - HT.sIx xs.length 0 lo)
theorem cutV_length (xs : List V) (lo hi : Option Int) : (cutV xs lo hi).length ≤ xs.length := by
 unfold cutV
 rw [List.length_take, List.length_drop]
 omega
end
end L2
namespace L2
open PySem PySem.Spec PyProof.Rows
def ixN (n : Nat) (i : Int) : Option Nat := if 0 ≤ i then (if i < n then some i.toNat else none) else if -(n : Int) ≤ i then some (i + n).toNat else none
def atI {α : Type} (xs : List α) (i : Int) : Option α := (ixN xs.length i).bind fun j => xs[j]?
theorem ixN_seq {n : Nat} {i : Int} {j : Nat} (h : ixN n i = some j) : seqIndex? i n = some j ∧ j < n ∧ -(n : Int) ≤ i ∧ i < n := by
 unfold ixN at h
 by_cases h0 : 0 ≤ i
 ·rw [if_pos h0] at h
  by_cases h1 : i < n
  ·rw [if_pos h1] at h
   have e : i.toNat = j := Option.some.inj h
   exact ⟨by rw [seqIndex_of h0 h1, e], by omega, by omega, h1⟩
  ·rw [if_neg h1] at h; cases h
 ·rw [if_neg h0] at h
  by_cases h1 : -(n : Int) ≤ i
  ·rw [if_pos h1] at h
   have e : (i + n).toNat = j := Option.some.inj h
   exact ⟨by rw [seqIndex_neg (by omega) h1, e], by omega, h1, by omega⟩
  ·rw [if_neg h1] at h; cases h
theorem vE {α : Type} {xs : List α} {i : Int} {v : α} (h : atI xs i = some v) : ∃ j, seqIndex? i xs.length = some j ∧ xs[j]? = some v ∧ j < xs.length ∧ -(xs.length : Int) ≤ i ∧ i < xs.length := by
 unfold atI at h
 cases e : ixN xs.length i with
 | none => rw [e] at h; cases h
 | some j =>
  rw [e] at h
  obtain ⟨h1, h2, h3, h4⟩ := ixN_seq e
  exact ⟨j, h1, h, h2, h3, h4⟩
theorem jN {α : Type} {xs : List α} {j : Nat} {v : α} (h : xs[j]? = some v) : atI xs (j : Int) = some v := by
 have hj : j < xs.length := (List.getElem?_eq_some_iff.mp h).1
 have e : ixN xs.length (j : Int) = some j := by
  unfold ixN
  rw [if_pos (by omega), if_pos (by omega)]; simp
 unfold atI; rw [e]; exact h
def Z0 (b : Expr) : Prop := ∀ o i, subscripted b false o i = operate [o, i] (getItem o i)
def IxR (X : Cx) (r : R2) : Prop :=
 ∀ (value slice : Expr) (pins : List (Addr × Obj)) (s : Shared) (σ : St) (H : Hp) (x y : V) (v u : Value) (Q : VK), Inv X pins σ H s → RelV x v → RelV y u → r x y H Q →
  subscripted slice false v u = operate [v, u] (getItem v u) → wpAny (model X.prog X.w) X.A (subscriptTail value slice v u) (EP X pins σ Q) X.xe s
def MtR (X : Cx) (id : String) (r : V → List V → Hp → VK → Prop) : Prop :=
 ∀ (pins : List (Addr × Obj)) (s : Shared) (σ : St) (H : Hp) (x : V) (xs : List V) (v : Value) (us : List Value) (Q : VK), Inv X pins σ H s → RelV x v → Vals xs us → r x xs H Q →
  wpAny (model X.prog X.w) X.A (call (.builtin id) (v :: us)) (EP X pins σ Q) X.xe s
section
variable {X : Cx} {a b : Expr} {ta tb : TE} {pos : Pos}
theorem IxR.or {r r' : R2} (h : IxR X r) (h' : IxR X r') : IxR X (fun x y H Q => r x y H Q ∨ r' x y H Q) := by
 intro value slice pins s σ H x y v u Q I rx ry q hs
 rcases q with q | q
 ·exact h value slice pins s σ H x y v u Q I rx ry q hs
 ·exact h' value slice pins s σ H x y v u Q I rx ry q hs
theorem MtR.or {id : String} {r r' : V → List V → Hp → VK → Prop} (h : MtR X id r) (h' : MtR X id r') : MtR X id (fun x xs H Q => r x xs H Q ∨ r' x xs H Q) := by
 intro pins s σ H x xs v us Q I rx rs q
 rcases q with q | q
 ·exact h pins s σ H x xs v us Q I rx rs q
 ·exact h' pins s σ H x xs v us Q I rx rs q
theorem pe_ix {r : R2} (hr : IxR X r) (ha : PE X a ta) (hb : PE X b tb) (hs : Z0 b) : PE X (.Subscript a b pos) (tOp r ta tb) := by
 intro pins s σ H Q I h
 exact Subscript_ (binT ha hb I h fun v u s2 x y H2 I2 rx ry q => hr a b pins s2 σ H2 x y v u Q I2 rx ry q (hs _ _))
def rIxL (K : PySem.W.Frag) : R2 := fun x y H Q => ∃ p xs i v, x = .ref p ∧ y = .int i ∧ SqL K H p xs ∧ atI xs i = some v ∧ Q v H
def rIxT (K : PySem.W.Frag) : R2 := fun x y H Q => ∃ p xs i v, x = .ref p ∧ y = .int i ∧ SqT K H p xs ∧ atI xs i = some v ∧ Q v H
def rIxS : R2 := fun x y H Q => ∃ z i c, x = .str z ∧ y = .int i ∧ z.length ≤ sizeLine ∧ atI z.cps.toList i = some c ∧ Q (.str ⟨#[c]⟩) H
theorem ix_list : IxR X (rIxL X.K) := by
 intro value slice pins s σ H x y v u Q I rx ry h hs
 obtain ⟨p, xs, i, z, rfl, rfl, hq, he, q⟩ := h
 cases rx
 obtain ⟨t, rfl⟩ := ry
 obtain ⟨its, r, pl, hz⟩ := I.list hq
 obtain ⟨j, h1, h2, h3, h4, h5⟩ := vE he
 obtain ⟨w, ew, rw'⟩ := r.get h2
 have hl := r.length
 have hn := wA
 have fin : EP X pins σ Q w s := ⟨z, H, I, rw', q⟩
 by_cases h0 : 0 ≤ i
 ·have hj : i.toNat = j := by
   rw [seqIndex_of h0 h5] at h1
   exact Option.some.inj h1
  exact item_listR pl.isList h0 (by omega) (by rw [hj]; simpa using ew) fin hs
 ·have hj : (i + (its.toArray.size : Int)).toNat = j := by
   rw [seqIndex_neg (by omega) h4] at h1
   rw [List.size_toArray, ← hl]
   exact Option.some.inj h1
  exact subscriptTail_builtinR (x := w) pl.isList.typeIs slot_list_getitem.lookup
   (wpAny_getItem_list_neg (Q := fun r s' => r = w ∧ EP X pins σ Q r s') pl.isList (by omega) (by rw [List.size_toArray] <;> omega) (by omega) (by rw [hj]; simpa using ew) ⟨rfl, fin⟩) hs
theorem ix_tup : IxR X (rIxT X.K) := by
 intro value slice pins s σ H x y v u Q I rx ry h hs
 obtain ⟨p, xs, i, z, rfl, rfl, hq, he, q⟩ := h
 cases rx
 obtain ⟨t, rfl⟩ := ry
 obtain ⟨its, r, pl, hz⟩ := I.tuple hq
 obtain ⟨j, h1, h2, h3, h4, h5⟩ := vE he
 obtain ⟨w, ew, rw'⟩ := r.get h2
 have hl := r.length
 have hn := wA
 have fin : EP X pins σ Q w s := ⟨z, H, I, rw', q⟩
 exact subscriptTail_builtinR (x := w) pl.typeIs slot_tuple_getitem.lookup
  (getItem_tuple (j := j) (Q := fun r s' => r = w ∧ EP X pins σ Q r s') pl (by omega) (by omega) (by rw [List.size_toArray, ← hl]; exact h1) (by simpa using ew) ⟨rfl, fin⟩) hs
theorem ix_str : IxR X rIxS := by
 intro value slice pins s σ H x y v u Q I rx ry h hs
 obtain ⟨z, i, c, rfl, rfl, hz, he, q⟩ := h
 obtain ⟨t, rfl⟩ := rx
 obtain ⟨t', rfl⟩ := ry
 obtain ⟨j, h1, h2, h3, h4, h5⟩ := vE he
 have hl : z.cps.toList.length = z.length := by simp [Str.length]
 rw [hl] at h1 h4 h5
 have hn := wA
 exact tail_any (typeIs_str s z t) slot_str_getitem.lookup (getItem_str (c := c) (by
  have e1 : decide (i < -(2 ^ 63 : Int)) = false := decide_eq_false (by omega)
  have e2 : decide (i ≥ 2 ^ 63) = false := decide_eq_false (by omega)
  rw [e1, e2, Bool.or_false]) (by rw [h1]; simpa using h2) ⟨.str ⟨#[c]⟩, H, I.tok _, ⟨_, rfl⟩, q⟩) hs
def rIx (K : PySem.W.Frag) : R2 := fun x y H Q => rIxL K x y H Q ∨ rIxT K x y H Q ∨ rIxS x y H Q
theorem ix_seq : IxR X (rIx X.K) := ix_list.or (ix_tup.or ix_str)
theorem Inv.lst {pins : List (Addr × Obj)} {σ : St} {H : Hp} {s : Shared} {p : Addr} {xs : List V} (I : Inv X pins σ H s) (h : H p = some (.lst xs)) :
  ∃ (its : List Value) (n : Nat), Vals xs its ∧ s.heap.get? p = some { cls := .type "list", data := .seq its.toArray n } ∧ xs.length ≤ sizeLine := by
 obtain ⟨z, its, n, r, e⟩ := I.hok p _ h
 exact ⟨its, n, r, e, z⟩
theorem slice_bounds (lo hi : Option Int) (n : Nat) : (sliceBounds lo hi none n).1 = ((HT.sIx n 0 lo : Nat) : Int) ∧ (sliceBounds lo hi none n).2.1 = ((HT.sIx n n hi : Nat) : Int) ∧ (sliceBounds lo hi none n).2.2 = 1 := by
 refine ⟨?_, ?_, rfl⟩
 ·cases lo with
  | none => simp [sliceBounds, HT.sIx]
  | some i =>
   simp only [sliceBounds, HT.sIx, Option.getD_none, show (1 : Int) > 0 by decide, if_true]
   by_cases h : i < 0
   ·simp only [h, if_true] <;> omega
   ·simp only [h, if_false] <;> omega
 ·cases hi with
  | none => simp [sliceBounds, HT.sIx]
  | some i =>
   simp only [sliceBounds, HT.sIx, Option.getD_none, show (1 : Int) > 0 by decide, if_true]
   by_cases h : i < 0
   ·simp only [h, if_true] <;> omega
   ·simp only [h, if_false] <;> omega
theorem slicePick_cut (its : List Value) (lo hi : Option Int) : slicePick its.toArray lo hi none = ((its.drop (HT.sIx its.length 0 lo)).take (HT.sIx its.length its.length hi - HT.sIx its.length 0 lo)).toArray := by
 obtain ⟨h1, h2, h3⟩ := slice_bounds lo hi its.toArray.size
 unfold slicePick
 rw [h1, h2, h3]
 simp only [sliceRange_one, pick_run, List.size_toArray] <;> rfl
def rSlL (K : PySem.W.Frag) : V → Option Int → Option Int → Hp → VK → Prop := fun x lo hi H Q => ∃ a xs, x = .ref a ∧ SqL K H a xs ∧ ∀ p, H p = none → Q (.ref p) (upd H p (.lst (cutV xs lo hi)))
theorem sl_list : SlR X (rSlL X.K) := by
 intro pins s σ H x v vl vu lo hi sl Q I rx hs pl pu h
 obtain ⟨a, xs, rfl, hx, q⟩ := h
 cases rx
 obtain ⟨its, r, ht, hz⟩ := I.list hx
 have hlen := r.length
 refine ⟨"list", _, slot_list_getitem.lookup, ht.isList.typeIs, ?_⟩
 refine wpAny_getItem_list_slice ht.isList hs pl pu .none (by simp) ?_ (by rw [List.size_toArray] <;> omega)
 rw [slicePick_cut, ← hlen]
 refine ⟨.ref s.heap.objs.size, _, I.laid (t' := s.toks) (o := .lst (cutV xs lo hi)) (fun b ob q => Heap.get?_push_of_some _ q) (Nat.le_refl _) ?_, rfl, q _ (I.hok.fresh (Nat.le_refl _))⟩
 exact ⟨Nat.le_trans (cutV_length xs lo hi) hz, _, 0, (r.drop (HT.sIx xs.length 0 lo)).take (HT.sIx xs.length xs.length hi - HT.sIx xs.length 0 lo), Heap.get?_push_size _ rfl⟩
def qL : V → Bool
 | .non => true
 | .bl _ => true
 | .int _ => true
 | .str _ => true
 | _ => false
def eqV : V → V → Bool
 | .non, .non => true
 | .bl a, .bl b => a == b
 | .bl a, .int b => (if a then 1 else 0) == b
 | .int a, .bl b => a == (if b then 1 else 0)
 | .int a, .int b => a == b
 | .str a, .str b => a == b
 | _, _ => false
theorem xI {A : Around} {s : Shared} {y x : V} {u v : Value} (ry : RelV y u) (rx : RelV x v) (fy : qL y = true) (fx : qL x = true) : SeqAt.EqAt A s u v (eqV y x) := by
 cases y with
 | non =>
  cases ry
  cases x with
  | non => cases rx; exact SeqAt.EqAt.same _
  | bl b => cases rx; exact SeqAt.EqAt.none_bool b
  | int b => obtain ⟨t, rfl⟩ := rx; exact SeqAt.EqAt.none_int b t
  | str b => obtain ⟨t, rfl⟩ := rx; exact SeqAt.EqAt.none_str b t
  | _ => exact absurd (show false = true from fx) Bool.false_ne_true
 | bl a =>
  cases ry
  cases x with
  | non => cases rx; exact SeqAt.EqAt.bool_none a
  | bl b => cases rx; exact SeqAt.EqAt.bool_bool a b
  | int b => obtain ⟨t, rfl⟩ := rx; exact SeqAt.EqAt.bool_int a b t
  | str b => obtain ⟨t, rfl⟩ := rx; exact SeqAt.EqAt.bool_str a b t
  | _ => exact absurd (show false = true from fx) Bool.false_ne_true
 | int a =>
  obtain ⟨t', rfl⟩ := ry
  cases x with
  | non => cases rx; exact SeqAt.EqAt.int_none a t'
  | bl b => cases rx; exact SeqAt.EqAt.int_bool a t' b
  | int b => obtain ⟨t, rfl⟩ := rx; exact SeqAt.EqAt.int_int a t' b t
  | str b => obtain ⟨t, rfl⟩ := rx; exact SeqAt.EqAt.int_str a t' b t
  | _ => exact absurd (show false = true from fx) Bool.false_ne_true
 | str a =>
  obtain ⟨t', rfl⟩ := ry
  cases x with
  | non => cases rx; exact SeqAt.EqAt.str_none a t'
  | bl b => cases rx; exact SeqAt.EqAt.str_bool a t' b
  | int b => obtain ⟨t, rfl⟩ := rx; exact SeqAt.EqAt.str_int a t' b t
  | str b => obtain ⟨t, rfl⟩ := rx; exact SeqAt.EqAt.str_str a t' b t
  | _ => exact absurd (show false = true from fx) Bool.false_ne_true
 | _ => exact absurd (show false = true from fy) Bool.false_ne_true
def eqU (x : V) (u : Value) : Bool := match u with
 | .none => eqV .non x
 | .bool b => eqV (.bl b) x
 | .int i _ => eqV (.int i) x
 | .str z _ => eqV (.str z) x
 | _ => false
theorem Qe {x y : V} {u : Value} (r : RelV y u) (f : qL y = true) : eqU x u = eqV y x := by
 cases y with
 | non => cases r; rfl
 | bl b => cases r; rfl
 | int i => obtain ⟨t, rfl⟩ := r; rfl
 | str z => obtain ⟨t, rfl⟩ := r; rfl
 | _ => exact absurd (show false = true from f) Bool.false_ne_true
theorem xy {x : V} : ∀ {xs : List V} {us : List Value}, Vals xs us → xs.all qL = true → us.any (eqU x) = xs.any fun y => eqV y x
 | _, _, .nil, _ => rfl
 | y :: xs, u :: us, .cons r t, f => by
  rw [List.all_cons, Bool.and_eq_true] at f
  rw [List.any_cons, List.any_cons, Qe r f.1, xy t f.2]
theorem jD {A : Around} {s : Shared} {x : V} {v : Value} (rx : RelV x v) (fx : qL x = true) : ∀ {xs : List V} {us : List Value}, Vals xs us → xs.all qL = true → ∀ u ∈ us, SeqAt.EqAt A s u v (eqU x u)
 | _, _, .nil, _ => fun u hu => by cases hu
 | y :: xs, u :: us, .cons r t, f => fun u' hu => by
  rw [List.all_cons, Bool.and_eq_true] at f
  rcases List.mem_cons.mp hu with rfl | hu
  ·rw [Qe r f.1]; exact xI r rx f.1 fx
  ·exact jD rx fx t f.2 u' hu
def inV (x : V) (xs : List V) : Bool := xs.any fun y => eqV y x
def rIn (K : PySem.W.Frag) (neg : Bool) : R2 := fun x y H Q => ∃ p xs, y = .ref p ∧ (SqL K H p xs ∨ SqT K H p xs) ∧ qL x = true ∧ xs.all qL = true ∧ Q (.bl (if neg then !inV x xs else inV x xs)) H
theorem op_in_seq : OpR X (compareOp .In) (rIn X.K false) := by
 intro pins s σ H x y v u Q I rx ry h
 obtain ⟨p, xs, rfl, hq, fx, fs, q⟩ := h
 cases ry
 rcases hq with hq | hq
 ·obtain ⟨its, r, pl, hz⟩ := I.list hq
  refine SeqAt.in_listAt (eqU x) pl.isList (fun w hw => jD rx fx r fs w (by simpa using hw)) ⟨.bl _, H, I, rfl, ?_⟩
  rw [show its.toArray.any (eqU x) = its.any (eqU x) by simp, xy r fs]
  exact q
 ·obtain ⟨its, r, pl, hz⟩ := I.tuple hq
  refine SeqAt.in_tupleAt (eqU x) pl (fun w hw => jD rx fx r fs w (by simpa using hw)) ⟨.bl _, H, I, rfl, ?_⟩
  rw [show its.toArray.any (eqU x) = its.any (eqU x) by simp, xy r fs]
  exact q
theorem op_notIn_seq : OpR X (compareOp .NotIn) (rIn X.K true) := by
 intro pins s σ H x y v u Q I rx ry h
 obtain ⟨p, xs, rfl, hq, fx, fs, q⟩ := h
 cases ry
 rcases hq with hq | hq
 ·obtain ⟨its, r, pl, hz⟩ := I.list hq
  refine SeqAt.notIn_listAt (eqU x) pl.isList (fun w hw => jD rx fx r fs w (by simpa using hw)) ⟨.bl _, H, I, rfl, ?_⟩
  rw [show its.toArray.any (eqU x) = its.any (eqU x) by simp, xy r fs]
  exact q
 ·obtain ⟨its, r, pl, hz⟩ := I.tuple hq
  refine SeqAt.notIn_tupleAt (eqU x) pl (fun w hw => jD rx fx r fs w (by simpa using hw)) ⟨.bl _, H, I, rfl, ?_⟩
  rw [show its.toArray.any (eqU x) = its.any (eqU x) by simp, xy r fs]
  exact q
theorem CallR.or {f : Value} {r r' : List V → Hp → VK → Prop} (h : CallR X f r) (h' : CallR X f r') : CallR X f (fun xs H Q => r xs H Q ∨ r' xs H Q) := by
 intro pins s σ H xs us Q I rs q
 rcases q with q | q
 ·exact h pins s σ H xs us Q I rs q
 ·exact h' pins s σ H xs us Q I rs q
theorem call_list_of : CallR X (.type "list") (fun xs H Q => ∃ p ys, xs = [.ref p] ∧ (SqL X.K H p ys ∨ SqT X.K H p ys) ∧ ∀ l, H l = none → Q (.ref l) (upd H l (.lst ys))) := by
 intro pins s σ H xs us Q I r h
 obtain ⟨p, ys, rfl, hq, q⟩ := h
 obtain ⟨u, rfl, rx⟩ := xK r
 cases rx
 have fin : ∀ (its : List Value), Vals ys its → ys.length ≤ sizeLine → ∀ (h' : Heap) (c' : Nat), (∀ b o', s.heap.get? b = some o' → h'.get? b = some o') →
   h'.get? s.heap.objs.size = some { cls := .type "list", dict := none, data := .seq its.toArray c', slots := #[] } → EP X pins σ Q (.ref s.heap.objs.size) { s with heap := h' } := fun its r' hz h' c' kp e =>
  ⟨.ref s.heap.objs.size, _, I.laid (t' := s.toks) kp (Nat.le_refl _) (show ObjOk X.prog X.w _ h' _ (.lst ys) from ⟨hz, its, c', r', e⟩), rfl, q _ (I.hok.fresh (Nat.le_refl _))⟩
 rcases hq with hq | hq
 ·obtain ⟨its, r', pl, hz⟩ := I.list hq
  have hlen := r'.length
  obtain ⟨o, ho, hc, n, hd⟩ := pl.isList
  exact call_list_seq p (.inl rfl) ho hc hd (fun h' c' kp e => fin its r' hz h' c' kp e) (by simp only [List.size_toArray] <;> omega)
 ·obtain ⟨its, r', pl, hz⟩ := I.tuple hq
  have hlen := r'.length
  obtain ⟨o, ho, hc, n, hd⟩ := pl
  exact call_list_seq p (.inr rfl) ho hc hd (fun h' c' kp e => fin its r' hz h' c' kp e) (by simp only [List.size_toArray] <;> omega)
def tyV (K : PySem.W.Frag) (T : String) (x : V) (H : Hp) : Prop := match x with
 | .str _ => T = "str"
 | .int _ => T = "int"
 | .ref p => (T = "list" ∧ ∃ xs, SqL K H p xs) ∨ (T = "tuple" ∧ ∃ o, K.lookup p = some o ∧ o.cls = .type "tuple" ∧ o.dict = none) ∨
   (T = "dict" ∧ ((∃ kvs, H p = some (.dK kvs)) ∨ ∃ kvs, H p = some (.dT kvs))) ∨ (T = "set" ∧ ∃ S n, H p = some (.set S n))
 | _ => False
theorem Z1 {pins : List (Addr × Obj)} {σ : St} {H : Hp} {s : Shared} {T : String} {x : V} {v : Value} (I : Inv X pins σ H s) (r : RelV x v) (ty : tyV X.K T x H) :
  s.TypeIs v T ∧ ∀ a, v = .ref a → ∃ ob, s.heap.get? a = some ob ∧ ob.dict = none := by
 cases x with
 | str z =>
  obtain ⟨t, rfl⟩ := r
  cases (show T = "str" from ty)
  exact ⟨typeIs_str s z t, fun _ e => nomatch e⟩
 | int i =>
  obtain ⟨t, rfl⟩ := r
  cases (show T = "int" from ty)
  exact ⟨typeIs_int s i t, fun _ e => nomatch e⟩
 | ref p =>
  cases r
  rcases ty with ⟨rfl, xs, hq⟩ | ⟨rfl, o, hk, hc, hd⟩ | ⟨rfl, hk⟩ | ⟨rfl, S, n, hk⟩
  ·obtain ⟨its, _, pl, _⟩ := I.list hq
   refine ⟨pl.isList.typeIs, fun a e => ?_⟩
   cases e
   obtain ⟨o, n, e, c, hd, _⟩ := pl
   exact ⟨o, e, hd⟩
  ·refine ⟨⟨o, I.kIn p o hk, hc⟩, fun a e => ?_⟩
   cases e
   exact ⟨o, I.kIn _ o hk, hd⟩
  ·have z : ∃ o, s.heap.get? p = some o ∧ o.ExactDict := by
    rcases hk with ⟨kvs, hk⟩ | ⟨kvs, hk⟩
    ·obtain ⟨_, _, _, _, o, _, _, e, ex, _⟩ := I.hok p _ hk
     exact ⟨o, e, ex⟩
    ·obtain ⟨_, _, _, _, o, _, _, e, ex, _⟩ := I.hok p _ hk
     exact ⟨o, e, ex⟩
   obtain ⟨o, e, ex⟩ := z
   refine ⟨⟨o, e, ex.1⟩, fun a e2 => ?_⟩
   cases e2
   exact ⟨o, e, ex.2.1⟩
  ·obtain ⟨o, _, _, _, e, ex, _⟩ := I.hok p _ hk
   refine ⟨⟨o, e, ex.1⟩, fun a e2 => ?_⟩
   cases e2
   exact ⟨o, e, ex.2.1⟩
 | _ => exact False.elim ty
def tBM0 (K : PySem.W.Frag) (T : String) (r : V → List V → Hp → VK → Prop) (to : TE) : TE := fun σ H Q => to σ H fun x H1 => tyV K T x H1 ∧ r x [] H1 Q
def tBM (K : PySem.W.Frag) (T : String) (r : V → List V → Hp → VK → Prop) (to : TE) (t : TA) : TE := fun σ H Q => to σ H fun x H1 => tyV K T x H1 ∧ t σ H1 fun xs H2 => r x xs H2 Q
variable {o e : Expr} {es : List Expr} {to : TE} {t : TA} {name : Str} {apos cpos : Pos} {T id : String} {r : V → List V → Hp → VK → Prop}
theorem Zo (pa : PlainAttrs T) (slot : Slot T name id) (hty : typeOf (.builtin id) = pure (.type "method_descriptor")) (hm : MtR X id r) (ho : PE X o to)
  (hbase : attributeBase o name X.env (eval o X.env) = eval o X.env := by rfl) (hline : (apos.endLine == cpos.line) = true := by rfl) : PE X (.Call (.Attribute o name apos) [] [] cpos) (tBM0 X.K T r to) := by
 intro pins s σ H Q I h
 refine wpAny_Call_method0_late hbase hline (thn (ho pins s σ H _ I h) fun v s1 ⟨x, H1, I1, r1, ty, q1⟩ => ?_)
 obtain ⟨h1, h2⟩ := Z1 I1 r1 ty
 exact ⟨T, id, pa, slot, hty, h1, h2, Calls.callWith_builtin rfl (PySem.evalArgs_none (hm pins s1 σ H1 x [] v [] Q I1 r1 .nil q1))⟩
theorem zW (pa : PlainAttrs T) (slot : Slot T name id) (hty : typeOf (.builtin id) = pure (.type "method_descriptor")) (hm : MtR X id r) (ho : PE X o to) (ha : PA X (e :: es) t)
  (hbase : attributeBase o name X.env (eval o X.env) = eval o X.env := by rfl)
  (hfew : ((backTo cpos (starEach (e :: es) X.env)).all (fun x => !x.1) && (backToKw cpos (keywordEach [] X.env)).all (fun x => x.1.isSome)
   && decide ((e :: es).length + ([] : List Keyword).length + (if ([] : List Keyword).isEmpty then 0 else 1) < 30)) = true := by rfl)
  (hline : (apos.endLine == cpos.line) = true := by rfl) (hs : starEach (e :: es) X.env = (false, eval e X.env) :: starEach es X.env := by rfl) (hplain : (backTo cpos (starEach es X.env)).any (·.1) = false := by rfl) :
  PE X (.Call (.Attribute o name apos) (e :: es) [] cpos) (tBM X.K T r to t) := by
 intro pins s σ H Q I h
 refine wpAny_Call_method_late hbase hfew hline rfl (thn (ho pins s σ H _ I h) fun v s1 ⟨x, H1, I1, r1, ty, q1⟩ => ?_)
 obtain ⟨h1, h2⟩ := Z1 I1 r1 ty
 refine ⟨T, id, pa, slot, hty, h1, h2, ?_⟩
 have hA := ha cpos pins s1 σ H1 _ I1 q1
 rw [hs] at hA ⊢
 refine Calls.callWith_builtin (by show (false || (backTo cpos (starEach es X.env)).any (·.1)) = false; rw [hplain] <;> rfl) (Calls.evalArgs_plain ?_)
 exact thn hA fun us s2 ⟨vs, H2, I2, r2, q2⟩ => hm pins s2 σ H2 x vs v us Q I2 r1 r2 q2
end
end L2
namespace L2
open PySem PySem.Spec PyProof.Rows
def MtM (X : Cx) (id : String) (r : V → List V → Hp → VK → Prop) : Prop :=
 ∀ (pins : List (Addr × Obj)) (s : Shared) (σ : St) (H : Hp) (x : V) (xs : List V) (v : Value) (us : List Value) (Q : VK), Inv X pins σ H s → RelV x v → Vals xs us → r x xs H Q →
  wpAny (model X.prog X.w) X.A (call (.builtin id) (v :: us)) (EP X pins σ Q) X.xe s
theorem Vals.one : ∀ {x : V} {us : List Value}, Vals [x] us → ∃ u, us = [u] ∧ RelV x u
 | _, _, .cons r .nil => ⟨_, rfl, r⟩
theorem Vals.two : ∀ {x y : V} {us : List Value}, Vals [x, y] us → ∃ u v, us = [u, v] ∧ RelV x u ∧ RelV y v
 | _, _, _, .cons r (.cons q .nil) => ⟨_, _, rfl, r, q⟩
theorem Vals.zero : ∀ {us : List Value}, Vals [] us → us = []
 | _, .nil => rfl
theorem Vals.dropLast {xs : List V} {us : List Value} (h : Vals xs us) : Vals xs.dropLast us.dropLast := by
 induction h with
 | nil => exact .nil
 | cons r t ih =>
  cases t with
  | nil => exact .nil
  | cons q t' => exact .cons r ih
theorem Vals.eraseIdx : ∀ {xs : List V} {us : List Value} (i : Nat), Vals xs us → Vals (xs.eraseIdx i) (us.eraseIdx i)
 | _, _, _, .nil => .nil
 | _, _, 0, .cons _ t => t
 | _, _, i + 1, .cons r t => .cons r (Vals.eraseIdx i t)
theorem Vals.reverse {xs : List V} {us : List Value} (h : Vals xs us) : Vals xs.reverse us.reverse := by
 induction h with
 | nil => exact .nil
 | cons r t ih => rw [List.reverse_cons, List.reverse_cons]; exact Vals.append ih (.cons r .nil)
theorem va {α : Type} : ∀ (l : List α) (i : Nat), (l.eraseIdx i).length ≤ l.length
 | [], _ => Nat.le_refl _
 | _ :: _, 0 => Nat.le_succ _
 | _ :: r, i + 1 => Nat.succ_le_succ (va r i)
section
variable {X : Cx} {pins : List (Addr × Obj)} {σ : St} {H : Hp} {s : Shared} {l b : Addr} {xs ys zs : List V}
theorem Inv.lset {its its' : List Value} {n : Nat} {f : Array Value → Array Value} {t' : Nat} (I : Inv X pins σ H s) (hH : H l = some (.lst xs))
  (e : s.heap.get? l = some { cls := .type "list", data := .seq its.toArray n }) (hf : f its.toArray = its'.toArray) (hv : Vals ys its') (hz : ys.length ≤ sizeLine) :
  Inv X pins σ (upd H l (.lst ys)) { s with heap := s.heap.update l (Obj.mapSeq f), toks := t' } := by
 have q := PySem.IsL.update e f
 rw [hf] at q
 refine I.write (x := l) (e := l) (by rw [hH]; exact trivial) (.inl rfl) (fun b' u hb hu => (Heap.get?_update_other s.heap (Obj.mapSeq f) (Ne.symm hb)).trans hu) ⟨_, q⟩ ?_
 exact ⟨hz, its', _, hv, q⟩
theorem Inv.lnew {its : List Value} {t' : Nat} (I : Inv X pins σ H s) (hv : Vals ys its) (hz : ys.length ≤ sizeLine) :
  Inv X pins σ (upd H s.heap.objs.size (.lst ys)) { s with heap := s.heap.push { cls := .type "list", data := .seq its.toArray }, toks := t' } :=
 I.laid (fun _ _ q => Heap.get?_push_of_some _ q) (Nat.le_refl _) ⟨hz, its, 0, hv, Heap.get?_push_size _ rfl⟩
theorem Inv.fresh (I : Inv X pins σ H s) : H s.heap.objs.size = none := I.hok.fresh (Nat.le_refl _)
theorem Inv.lstM (I : Inv X pins σ H s) (hH : H l = some (.lst xs)) : xs.length ≤ sizeLine ∧ ∃ (its : List Value) (n : Nat), Vals xs its ∧ xs.length = its.length ∧ s.heap.get? l = some { cls := .type "list", data := .seq its.toArray n } := by
 obtain ⟨z, its, n, r, e⟩ := I.hok l _ hH
 exact ⟨z, its, n, r, r.length, e⟩
theorem notLongL {n : Nat} (h : n ≤ sizeLine) : Builtin.List.listTooLong n = false := by
 unfold Builtin.List.listTooLong
 exact decide_eq_false (by omega)
end
section
variable {X : Cx}
def ZG : V → List V → Hp → VK → Prop := fun x vs H Q => ∃ l xs y, x = .ref l ∧ vs = [y] ∧ H l = some (.lst xs) ∧ xs.length < sizeLine ∧ Q .non (upd H l (.lst (xs ++ [y])))
theorem zF : MtM X "list.append" ZG := by
 intro pins s σ H x vs v us Q I rx rv h
 obtain ⟨l, xs, y, rfl, rfl, hH, hz, q⟩ := h
 cases rx
 obtain ⟨u, rfl, ru⟩ := rv.one
 obtain ⟨z, its, n, r, hl, e⟩ := I.lstM hH
 refine call_meets F.slot_list_append ⟨_, e, rfl⟩ F.entry_list_append (F.args_list_append_2 _ _) (PySem.list_append l its.toArray n u (by rw [List.size_toArray]; omega)) ⟨e, ?_⟩
 refine ⟨.non, _, I.lset (its' := its ++ [u]) hH e (by simp) (r.append (.cons ru .nil)) ?_, rfl, q⟩
 rw [List.length_append, List.length_singleton]
 omega
def rExtend : V → List V → Hp → VK → Prop := fun x vs H Q => ∃ l b xs zs, x = .ref l ∧ vs = [.ref b] ∧ H l = some (.lst xs) ∧ H b = some (.lst zs) ∧ xs.length + zs.length ≤ sizeLine ∧ Q .non (upd H l (.lst (xs ++ zs)))
theorem xF : MtM X "list.extend" rExtend := by
 intro pins s σ H x vs v us Q I rx rv h
 obtain ⟨l, b, xs, zs, rfl, rfl, hH, hB, hz, q⟩ := h
 cases rx
 obtain ⟨u, rfl, ru⟩ := rv.one
 cases ru
 obtain ⟨z, its, n, r, hl, e⟩ := I.lstM hH
 obtain ⟨z2, its2, n2, r2, hl2, e2⟩ := I.lstM hB
 have hsz : its.toArray.size + its2.toArray.size ≤ sizeLine := by rw [List.size_toArray, List.size_toArray]; omega
 have hlong : ¬ (!its.toArray.isEmpty && Builtin.List.listTooLong (its.toArray.size + its2.toArray.size)) = true := by
  rw [notLongL hsz, Bool.and_false]
  exact Bool.false_ne_true
 refine call_meets F.slot_list_extend ⟨_, e, rfl⟩ F.entry_list_extend (F.args_list_extend_2 _ _)
  (AutoSeq1.list_extend_list_list_0 l its.toArray n b its2.toArray n2 hlong (by rw [List.size_toArray]; omega) (by omega)) ⟨e, e2, ?_⟩
 refine ⟨.non, _, I.lset (its' := its ++ its2) hH e (by simp) (r.append r2) ?_, rfl, q⟩
 rw [List.length_append]
 omega
def rPopAt : V → List V → Hp → VK → Prop := fun x vs H Q => ∃ l xs i k y, x = .ref l ∧ vs = [.int i] ∧ H l = some (.lst xs) ∧ -(2 ^ 63) ≤ i ∧ i < 2 ^ 63 ∧ seqIndex? i xs.length = some k ∧ xs[k]? = some y ∧ Q y (upd H l (.lst (xs.eraseIdx k)))
theorem jC : MtM X "list.pop" rPopAt := by
 intro pins s σ H x vs v us Q I rx rv h
 obtain ⟨l, xs, i, k, y, rfl, rfl, hH, h1, h2, hk, hy, q⟩ := h
 cases rx
 obtain ⟨u, rfl, ru⟩ := rv.one
 obtain ⟨t, rfl⟩ := ru
 obtain ⟨z, its, n, r, hl, e⟩ := I.lstM hH
 obtain ⟨w, hw, rw'⟩ := r.get hy
 refine call_meets F.slot_list_pop ⟨_, e, rfl⟩ F.entry_list_pop (F.args_list_pop_2 _ _)
  (MeetsSeq.list_pop_at l its.toArray n i t k w (fitsIndex_both h1 h2) (by rw [List.size_toArray, ← hl]; exact hk) (by rw [← Array.getElem?_toList]; exact hw) (by rw [List.size_toArray]; omega)) ⟨e, ?_⟩
 refine ⟨y, _, I.lset (its' := its.eraseIdx k) hH e ?_ (r.eraseIdx k) ?_, rw', q⟩
 ·show its.toArray.eraseIdxIfInBounds k = (its.eraseIdx k).toArray
  rw [List.eraseIdxIfInBounds_toArray]
 ·have := va xs k
  omega
def rReverse : V → List V → Hp → VK → Prop := fun x vs H Q => ∃ l xs, x = .ref l ∧ vs = [] ∧ H l = some (.lst xs) ∧ Q .non (upd H l (.lst xs.reverse))
theorem jZ : MtM X "list.reverse" rReverse := by
 intro pins s σ H x vs v us Q I rx rv h
 obtain ⟨l, xs, rfl, rfl, hH, q⟩ := h
 cases rx
 have hus := rv.zero
 subst hus
 obtain ⟨z, its, n, r, hl, e⟩ := I.lstM hH
 refine call_meets F.slot_list_reverse ⟨_, e, rfl⟩ F.entry_list_reverse (F.args_list_reverse_1 _) (AutoSeq1.list_reverse_list_0 l its.toArray n (by rw [List.size_toArray]; omega)) ⟨e, ?_⟩
 refine ⟨.non, _, I.lset (its' := its.reverse) hH e (by simp) r.reverse ?_, rfl, q⟩
 rw [List.length_reverse]
 omega
end
section
variable {prog : Program} {w : World} {A : Around} {E : Value → Shared → Prop} {s : Shared}
end
section
variable {X : Cx}
end
end L2
namespace Att
open PySem PySem.W PySem.Calls PyProof.Rows
theorem ints_of_wellAll {P : Params} {h : Heap} : ∀ (ns : List Int) (vs : List Value), WellAll P h vs (ns.map WData.int) → IntsAre vs ns := by
 intro ns
 induction ns with
 | nil =>
  intro vs w
  rw [List.map_nil] at w
  cases w
  exact .nil
 | cons n ns ih =>
  intro vs w
  rw [List.map_cons] at w
  cases w with
  | cons a b =>
   cases a
   exact .cons _ _ (ih _ b)
theorem script_of {l : OpenLaw} {n : Nat} (hn : l.most = some n) {P : Params} {h : Heap} {args : List WData} {vals : List Value}
  (hpre : l.row.toRowW.claim.pre args = true) (hwl : WellAll P h vals args) :
  ∃ a vs ns, vals = [Value.ref a] ∧ args = [WData.list (ns.map WData.int)] ∧ h.get? a = some { cls := .type "list", data := .seq vs.toArray } ∧ IntsAre vs ns ∧ ns.length ≤ n := by
 have hsh : WShape.hasAll [] args [.list .int] = true := (pre_splitW hpre).1
 have hc : l.pre.holds [] { args := args } = true := (pre_splitW hpre).2
 obtain ⟨d, r, rfl, h1, h2⟩ := hasAllW_cons hsh
 obtain rfl := hasAllW_nil h2
 obtain ⟨xs, rfl, h3⟩ := hasW_list h1
 obtain ⟨ns, rfl⟩ := items_int h3
 have hlen : ns.length ≤ n := by
  unfold OpenLaw.pre at hc
  have h4 : (WTm.not (.lt (.lit (.int (n : Int))) (.len (.arg 0)))).holds [] { args := [.list (ns.map .int)] } = true := by
   have h4 := (holds_andW hc).1
   rw [hn] at h4
   exact h4
  have h5 := condW_of h4 (w_not (w_lt w_lit (w_len_list (w_arg rfl))))
  rw [List.length_map] at h5
  refine Nat.le_of_not_lt fun q => ?_
  have q' : (n : Int) < ((ns.length : Nat) : Int) := by omega
  first
   | (rw [decide_eq_true q'] at h5; exact absurd h5 (by decide))
   | (simp at h5; omega)
 cases hwl with
 | cons w1 w2 =>
  cases w2
  cases w1 with
  | list ho hall => exact ⟨_, _, ns, rfl, rfl, ho, ints_of_wellAll ns _ hall, hlen⟩
theorem post_true (l : OpenLaw) (args : List WData) : l.row.toRowW.claim.post args (.bool true) args = true :=
 postW_of (r := l.row.toRowW) (X := (true == true))
  (show WShape.has [] (.bool true) .bool = true by first | rfl | decide | simp [WShape.has, WShape.arms, WShape.armsAll])
  (show (WTm.eq .res (.lit (.bool true))).value [] { args := args, res := some (.bool true), after := args } = some (.bool (true == true)) from w_eq_bool (w_res rfl) w_lit) rfl
theorem attach_call {l : OpenLaw} {n : Nat} {q : Program} {loose : List Str} {XP : (Str → Option Value) → Heap → Prop} {YP : World → Heap → Prop} {d : DefRec}
  (hn : l.most = some n) (hdf : d.params.defaults = [])
  (call : ∀ (w : World) (s₀ s₁ : Shared) (mg mb : Str → Option Value) (fa : Addr) (o : Obj) (pm cd doc : Value) (a : Addr) (vs : List Value) (ns : List Int),
   Ground q loose [] XP w s₀ mg mb s₁.heap → YP w s₁.heap →
   s₁.heap.get? fa = some o → o.data = .func (docDef d.name d.params d.body d.scope pm cd doc) → s₁.heap.CodeRec cd d.name → mg d.name = some (.ref fa) →
   s₁.heap.get? a = some { cls := .type "list", data := .seq vs.toArray } → IntsAre vs ns → ns.length ≤ n → s₁.gens = #[] →
   codeAny (model l.prog w) callerA (.call (.ref fa) ⟨[.ref a], []⟩) (fun r s' => r = .ok (.ret (.bool true)) ∧ OldK s₁.heap s'.heap ∧ s'.os = s₁.os ∧ AllBare s'.gens) s₁) :
  WalkO q loose XP YP l.row.toRowW d [] (fun f vs => PySem.call f vs) := by
 intro w s₀ s₁ mg mb G Y fa o pm cd doc dV kV ho hd hcd hD hmg hg args vals as hpre hlay hrd hwl hlo
 obtain rfl : dV = .none := Dflts.none hD hdf
 obtain rfl : kV = .none := Dflts.noKw hD
 obtain ⟨a, vs, ns, rfl, rfl, hobj, hints, hlen⟩ := script_of hn hpre hwl
 refine enter_call (codeAny_mono (call w s₀ s₁ mg mb fa o pm cd doc a vs ns G Y ho (fd_plain hd) hcd hmg hobj hints hlen hg) fun r s' hq => ?_)
 obtain ⟨rfl, h2, h3, h4⟩ := hq
 exact ⟨.inl ⟨.bool true, .bool true, [], rfl, fun _ => rfl, .bool true, post_true l _, fun _ => ⟨List.Pairwise.nil, fun _ hm => (nomatch hm)⟩⟩, h2, h3, h4⟩
section
variable {prog : Program} {w : World} {A : Around} {E : Value → Shared → Prop} {s : Shared} {K : Frag}
def ledger (h : Heap) (L d : Addr) : List (Addr × Obj) := (List.range h.objs.size).filterMap fun a => if a = L ∨ a = d then none else (h.get? a).map fun o => (a, o)
end
end Att
namespace L2
open PySem PySem.Spec PyProof.Rows
theorem wQ : ∀ {vs : List Value} {ns : List Int}, IntsAre vs ns → Vals (ns.map V.int) vs
 | _, _, .nil => .nil
 | _, _, .cons n t h => .cons ⟨t, rfl⟩ (wQ h)
def Only (H : Hp) : Prop := ∀ b, H b = none ∨ ∃ o xs, H b = some (.frz o (.lst xs))
theorem law_call {P : Program} {w : World} {K : PySem.W.Frag} {mg mb : Str → Option Value} {CX : CXT} {k : Nat} {fa a : Addr} {fd : FuncData} {x : Str} {sp : Sp} {s₁ : Shared} {vs : List Value} {ns : List Int}
  (KX : K.In s₁.heap) (hns : s₁.heap.Ns mainGlobals mg) (hb : s₁.heap.Ns builtinsNs mb) (hbb : ∀ x : Str, x ≠ "__name__" → mb x = bootBuiltins x) (hlim : s₁.heap.NoLimit) (hg : s₁.gens = #[])
  (ha : s₁.heap.get? a = some { cls := .type "list", data := .seq vs.toArray }) (hi : IntsAre vs ns) (hl : ns.length ≤ sizeLine) (hr : Room k callerA)
  (F : ∀ base : Heap, K.In base → base.Ns mainGlobals mg → FnOk P w K mg base CX k fa fd [x] sp) (hbind : ∀ (s : Shared) (u : Value), BindsTo s fd ⟨[u], []⟩ [(x, u)])
  (hsp : ∀ H : Hp, Only H → SqL K H a (ns.map V.int) → sp [.ref a] H (fun v _ => v = .bl true) fun _ _ _ => False)
  (hCX : ∀ H e s', CX [] H s₁ (fun _ _ _ => False) e s' → False) :
  codeAny (model P w) callerA (.call (.ref fa) ⟨[.ref a], []⟩) (fun r s' => r = .ok (.ret (.bool true)) ∧ OldK s₁.heap s'.heap ∧ s'.os = s₁.os ∧ AllBare s'.gens) s₁ := by
 have rv := wQ hi
 have lenV := hi.length
 have core : ∀ H : Hp, Only H → SqL K H a (ns.map V.int) → HOk P w H s₁.heap → (∀ b, H b ≠ none → b = a) → (H a ≠ none → K.lookup a = none) →
   codeAny (model P w) callerA (.call (.ref fa) ⟨[.ref a], []⟩) (fun r s' => r = .ok (.ret (.bool true)) ∧ OldK s₁.heap s'.heap ∧ s'.os = s₁.os ∧ AllBare s'.gens) s₁ := by
  intro H hO hS hok hA hK
  have base_of : ∀ {b : Addr} {o : Obj}, s₁.heap.get? b = some o → H b = none → (hidT s₁.heap H).get? b = some o := fun e n => hidT_get e n
  have noA : ∀ {b : Addr} {o : Obj} {es : Array DictEntry} {ep : Nat}, s₁.heap.get? b = some o → o.data = .dict es ep → H b = none := fun {b o es ep} e d => by
   cases q : H b with
   | none => rfl
   | some u =>
    have e' : b = a := hA b (by rw [q]; simp)
    subst e'
    rw [ha] at e; cases e
    have d' : Data.seq vs.toArray _ = Data.dict es ep := d
    cases d'
  have nsK : ∀ {b : Addr} {m : Str → Option Value}, s₁.heap.Ns b m → (hidT s₁.heap H).Ns b m := fun {b m} ⟨o, es, ep, e, d, r⟩ => ⟨o, es, ep, base_of e (noA e d), d, r⟩
  have hKb : K.In (hidT s₁.heap H) := fun b o e => base_of (KX b o e) (by
   cases q : H b with
   | none => rfl
   | some u =>
    have e' : b = a := hA b (by rw [q]; simp)
    subst e'
    rw [hK (by rw [q]; simp)] at e; cases e)
  have hM : Mod K mg (hidT s₁.heap H) := ⟨hKb, nsK hns, ⟨mb, nsK hb, hbb⟩, let ⟨mc, h1, h2⟩ := hlim; ⟨mc, nsK h1, h2⟩⟩
  have e0 : Env0 P w K mg (hidT s₁.heap H) callerA [] s₁ H := ⟨rfl, hM, fun b o e => of_hidT e, Nat.le_of_eq (hidT_size _ _), trivial, fun b hb => absurd (show b ∈ ([] : List Addr) from hb) (by simp), hok, .of_eq hg⟩
  refine codeAny_mono ((F _ hKb (nsK hns)).run callerA [] s₁ H ⟨[.ref a], []⟩ [.ref a] [.ref a] _ _ hr e0 (hbind s₁ (.ref a)) (.cons rfl .nil) (hsp H hO hS)) fun r s' h => ?_
  cases r with
  | error e => exact (hCX H e s' h).elim
  | ok fl =>
   cases fl with
   | next => exact False.elim h
   | brk => exact False.elim h
   | cont => exact False.elim h
   | ret u =>
    obtain ⟨v, H', os, bare, un, hok', r', q⟩ := h
    have q' : v = .bl true := q
    subst q'
    obtain rfl : u = Value.bool true := r'
    refine ⟨rfl, OldK.of_keep fun b o e => ?_, os, bare⟩
    cases q : H b with
    | none => exact un.keep b o e q (by intro z; exact absurd (show b ∈ ([] : List Addr) from z) (by simp)) (by simp)
    | some u =>
     rcases hO b with z | ⟨ob, xs, z⟩
     ·rw [q] at z; cases z
     ·have z2 := un.frzs b ob _ z
      obtain ⟨e1, _⟩ := hok b _ z
      obtain ⟨e2, _⟩ := hok' b _ z2
      rw [e] at e1; cases e1
      exact e2
 cases hk : K.lookup a with
 | some o =>
  have e := KX a o hk
  rw [ha] at e
  cases e
  refine core (fun _ => none) (fun _ => .inl rfl) (.inr ⟨_, vs.toArray, _, hk, rfl, rfl, rfl, by rw [List.size_toArray, lenV]; exact hl, by simpa using rv⟩) (fun b u z => by have z' : (none : Option HO) = some u := z; cases z') (fun b z => absurd rfl z) fun z => absurd rfl z
 | none =>
  refine core (fun b => if b = a then some (.frz { cls := .type "list", data := .seq vs.toArray } (.lst (ns.map V.int))) else none) (fun b => ?_) (.inl (.inr ⟨{ cls := .type "list", data := .seq vs.toArray }, if_pos rfl⟩)) (fun b u z => ?_) (fun b z => ?_) fun _ => hk
  ·by_cases hb : b = a
   ·exact .inr ⟨_, _, if_pos hb⟩
   ·exact .inl (if_neg hb)
  ·by_cases hb : b = a
   ·have z' := (if_pos hb).symm.trans z
    cases z'
    subst hb
    exact ⟨ha, by rw [List.length_map]; exact hl, vs, _, rv, ha⟩
   ·have z' := (if_neg hb).symm.trans z
    cases z'
  ·by_cases hb : b = a
   ·exact hb
   ·exact absurd (if_neg hb) z
end L2
namespace L2
open PySem PySem.Spec PyProof.Rows
theorem walk_of {l : PySem.W.OpenLaw} {n k : Nat} {q : Program} {loose : List Str} {XP : (Str → Option Value) → Heap → Prop} {YP : World → Heap → Prop} {d : DefRec} {K : Params → PySem.W.Frag} {CX : World → CXT} {sp : World → Sp} {x : Str}
  (hn : l.most = some n) (hn2 : n ≤ sizeLine) (hdf : d.params.defaults = []) (hr : Room k callerA)
  (hY : ∀ (w : World) (h : Heap), YP w h → (K w.params).In h)
  (F : ∀ (w : World) (mg : Str → Option Value) (fa : Addr) (h : Heap), (K w.params).In h → h.Ns mainGlobals mg → mg d.name = some (.ref fa) →
   ∃ fd : FuncData, (∀ (s : Shared) (u : Value), BindsTo s fd ⟨[u], []⟩ [(x, u)]) ∧
    ∀ base : Heap, (K w.params).In base → base.Ns mainGlobals mg → FnOk l.prog w (K w.params) mg base (CX w) k fa fd [x] (sp w))
  (hsp : ∀ (w : World) (H : Hp) (a : Addr) (ns : List Int), ns.length ≤ n → Only H → SqL (K w.params) H a (ns.map V.int) → sp w [.ref a] H (fun v _ => v = .bl true) fun _ _ _ => False)
  (hCX : ∀ (w : World) (H : Hp) (s : Shared) (e : Value) (s' : Shared), CX w [] H s (fun _ _ _ => False) e s' → False) :
  PySem.W.WalkO q loose XP YP l.row.toRowW d [] (fun f vs => PySem.call f vs) := by
 refine Att.attach_call hn hdf fun w s₀ s₁ mg mb fa o pm cd doc a vs ns G Y ho hd hcd hmg hobj hints hlen hg => ?_
 have KX := hY w _ Y
 obtain ⟨fd, hb, hF⟩ := F w mg fa _ KX G.T.g hmg
 exact law_call KX G.T.g G.T.b G.T.builtins G.T.nolimit hg hobj hints (Nat.le_trans hlen hn2) hr hF hb (fun H hO hS => hsp w H a ns hlen hO hS) fun H e s' => hCX w H s₁ e s'
end L2
namespace L2
open PySem PySem.Spec PyProof.Rows
def zI (s : Stmt) (j : Nat) : Stmt := match s with
 | .ClassDef _ _ _ body _ _ _ _ _ _ _ => body.getD j (.Pass ⟨0, 0, 0, 0⟩)
 | _ => .Pass ⟨0, 0, 0, 0⟩
def zU (s : Stmt) : Arguments := match s with
 | .FunctionDef _ a _ _ _ _ _ _ _ _ => a
 | _ => { posonlyargs := [], args := [], vararg := none, kwonlyargs := [], kw_defaults := [], kwarg := none, defaults := [] }
def zQ (s : Stmt) : List Stmt := match s with
 | .FunctionDef _ _ b _ _ _ _ _ _ _ => b
 | _ => []
def zg (s : Stmt) : Scope := match s with
 | .FunctionDef _ _ _ _ _ _ sc _ _ _ => sc
 | _ => { kind := .function, names := [], isGenerator := false, isCoroutine := false }
abbrev CX0 : CXT := fun _ _ _ _ _ _ => False
structure Fun (K : PySem.W.Frag) (x qual : Str) (st : Stmt) (f : Addr) (fd : FuncData) : Prop where
 ex : ∃ (oc : Value) (od : Option Addr) (kV doc pm : Value) (an : Option Addr) (cdv ct : Value) (osl : Array (Option Value)),
  fd = PySem.W.fnOf x qual (zU st) (zQ st) (zg st) .none kV doc pm an cdv ct ∧ K.lookup f = some ⟨oc, od, .func fd, osl⟩ ∧ PySem.W.codeIn K cdv qual = true
 kp : PySem.W.keepIn K (.ref f) = true
section
variable {P : Program} {w : World} {K : PySem.W.Frag} {mg : Str → Option Value} {base : Heap}
theorem Fun.ok {x qual : Str} {st : Stmt} {f : Addr} {fd : FuncData} {N ps : List Str} {k : Nat} {sp : Sp} (F : Fun K x qual st f fd) (S : FnScope N ps (zg st)) (len : ∀ vs H Q E, sp vs H Q E → vs.length = ps.length)
  (hbody : ∀ (cdv : Value) (A : Around) (outer : List Env) (s : Shared) (H : Hp) (vs : List V) (Q : VK) (E : XK), Room k (A.deeper (envOfC qual (zg st) s.heap.objs.size f cdv)) → sp vs H Q E →
   ∃ t, PSs (cxOf CX0 P w K mg base N qual (zg st) f cdv A outer s H E).nox (zQ st) t ∧ t { nx := fun _ H' => Q .non H', rt := Q } (start N vs) H) : FnOk P w K mg base CX0 (k + 1) f fd ps sp := by
 obtain ⟨oc, od, kV, doc, pm, an, cdv, ct, osl, rfl, lk, hcd⟩ := F.ex
 refine Qd lk hcd S len fun A outer s H vs Q E hr hsp => ?_
 obtain ⟨t, h, q⟩ := hbody cdv A outer s H vs Q E hr hsp
 exact ⟨t, h.nox, q⟩
theorem Fun.binds {x qual : Str} {st : Stmt} {f : Addr} {fd : FuncData} {ps : List Str} (F : Fun K x qual st f fd)
  (h : ∀ (kV doc pm : Value) (an : Option Addr) (cdv ct : Value) (us : List Value), us.length = ps.length → bindArgs (PySem.W.fnOf x qual (zU st) (zQ st) (zg st) .none kV doc pm an cdv ct) ⟨us, []⟩ = pure (ps.zip us)) : Binds K fd ps [] := by
 obtain ⟨oc, od, kV, doc, pm, an, cdv, ct, osl, rfl, lk, hcd⟩ := F.ex
 exact .all (h kV doc pm an cdv ct)
theorem jo {x qual : Str} {st : Stmt} {f : Addr} {oc : Value} {od an : Option Addr} {osl : Array (Option Value)} {kV doc pm cdv ct : Value} (l : K.lookup f = some ⟨oc, od, .func (PySem.W.fnOf x qual (zU st) (zQ st) (zg st) .none kV doc pm an cdv ct), osl⟩)
  (c : PySem.W.codeIn K cdv qual = true) (k : PySem.W.keepIn K (.ref f) = true) : Fun K x qual st f (PySem.W.fnOf x qual (zU st) (zQ st) (zg st) .none kV doc pm an cdv ct) := ⟨⟨oc, od, kV, doc, pm, an, cdv, ct, osl, rfl, l, c⟩, k⟩
end
theorem zq {n : Nat} (h : n ≤ 1000) : n < sizeLine := Nat.lt_of_le_of_lt h (by decide)
section
variable {X : Cx}
theorem pv (i : Nat) {x : Str} {pos : Pos} (hN : X.N[i]? = some x := by rfl) (hv : Vis X.env.scope x := by first | exact Or.inl rfl | exact Or.inr (Or.inl rfl) | exact Or.inr (Or.inr rfl)) (hd : (x == ("__debug__" : Str)) = false := by decide)
  (hcd : (x == ("__classdict__" : Str)) = false := by decide) : PE X (.Name x pos) (tVar i) := pe_var hN hv hd hcd
end
theorem ite2 {c A B : Prop} [Decidable c] (h1 : c → A) (h2 : ¬ c → B) : if c then A else B := by
 by_cases h : c
 ·rw [if_pos h]
  exact h1 h
 ·rw [if_neg h]
  exact h2 h
def Same (H H' : Hp) : Prop := ∀ b o, H b = some o → H' b = some o
theorem Same.refl (H : Hp) : Same H H := fun _ _ h => h
theorem Same.trans {H H1 H2 : Hp} (a : Same H H1) (b : Same H1 H2) : Same H H2 := fun c o h => b c o (a c o h)
theorem Same.free {H H' : Hp} (e : Same H H') {l : Addr} (h : H' l = Option.none) : H l = Option.none := by
 cases q : H l with
 | none => rfl
 | some o =>
  rw [e l o q] at h
  cases h
theorem Same.seq {K : PySem.W.Frag} {H H' : Hp} {a : Addr} {xs : List V} (e : Same H H') (h : SqL K H a xs) : SqL K H' a xs := by
 rcases h with (h | ⟨o, h⟩) | h
 ·exact .inl (.inl (e _ _ h))
 ·exact .inl (.inr ⟨o, e _ _ h⟩)
 ·exact .inr h
end L2
set_option maxHeartbeats 4000000
namespace L2
open PySem PySem.Spec PyProof.Rows
abbrev GK := Value → St → Hp → Prop
structure Exc (g h : Heap) (H : Hp) (pn : List (Addr × Obj)) (a : Addr) (cls : Value) : Prop where
 ex : ∃ (oe : Obj) (vs : Array Value) (T : Addr) (oT : Obj) (ts : Array Value), h.get? a = some oe ∧ oe.cls = cls ∧ oe.dict = none ∧ oe.data = .fields vs ∧ vs[1]? = some (.ref T) ∧ T ≠ a ∧
  h.get? T = some oT ∧ oT.data = .fields ts ∧ ts[3]? = some .none ∧ g.get? T = none ∧ H T = none ∧ ∀ p ∈ pn, p.1 ≠ T
 ga : g.get? a = none
 Ha : H a = none
 pa : ∀ p ∈ pn, p.1 ≠ a
theorem ObjOk.there {P : Program} {w : World} {H : Hp} {h : Heap} {a : Addr} {o : HO} (x : ObjOk P w H h a o) : ∃ ob, h.get? a = some ob := by
 cases o with
 | lst xs => obtain ⟨_, _, _, _, e⟩ := x; exact ⟨_, e⟩
 | tup xs => obtain ⟨_, _, _, ob, e, _⟩ := x; exact ⟨_, e⟩
 | dK kvs => obtain ⟨_, _, _, _, o, _, _, e, _⟩ := x; exact ⟨_, e⟩
 | dT kvs => obtain ⟨_, _, _, _, o, _, _, e, _⟩ := x; exact ⟨_, e⟩
 | set S n => obtain ⟨o, _, _, _, e, _⟩ := x; exact ⟨_, e⟩
 | ins C dx fs => obtain ⟨_, _, _, e, _⟩ := x; exact ⟨_, e⟩
 | own y => obtain ⟨_, e⟩ := x; exact ⟨_, e⟩
 | xd fs => obtain ⟨_, ⟨_, _, _, e, _⟩, _⟩ := x; exact ⟨_, e⟩
 | rng lo hi => obtain ⟨_, _, _, e⟩ := x; exact ⟨_, e⟩
 | frz ob u => obtain ⟨e, _⟩ := x; exact ⟨_, e⟩
 | tbl ps => exact ⟨_, (show h.get? a = some _ from x)⟩
 | met f y => exact ⟨_, (show h.get? a = some _ from x)⟩
 | ext φ => obtain ⟨_, ⟨_, e⟩, _⟩ := x; exact ⟨_, e⟩
section
variable {M : Model} {A : Around} {E : Value → Shared → Prop} {s : Shared}
theorem vi {base : Heap} {env : Env} {outer : List Env} {L e : Addr} {oe : Obj} {vs : Array Value} {head : Value} {hadNext : Bool} {Q : Unit → Shared → Prop}
  (hfr : A.frames = some (env :: outer)) (hl : s.heap.FunFrames base (env :: outer)) (hf : env.frame = some L) (he : s.heap.get? e = some oe) (hd : oe.data = .fields vs) (hsz : 1 < vs.size)
  (h : ∀ h' T, (∀ b o, b ∉ (env :: outer).filterMap (·.frame) → b ≠ e → s.heap.get? b = some o → h'.get? b = some o) → (∀ b o, b ≠ e → s.heap.get? b = some o → ∃ sl, h'.get? b = some { o with slots := sl }) →
   s.heap.get? T = none → T ≠ e → h'.get? e = some (oe.mapFields (·.setIfInBounds 1 (.ref T))) → (∃ oT ts, h'.get? T = some oT ∧ oT.data = .fields ts ∧ ts[3]? = some .none) → Q () { s with heap := h' }) :
  wpAny M A (do let a ← frameOf env; let pl ← entryPlaceOf L hadNext; let b ← EntryCells.newEntry head a .none (rawInt L) .none pl; setField (.ref e) 1 b) (fun _ s' => wpAny M A (setFlight (.ref e) none) Q E s') E s := by
 have hene : e ∉ (env :: outer).filterMap (·.frame) := fun hm => by
  obtain ⟨_, o, ho, hnf⟩ := hl.mem hm
  rw [he] at ho; injection ho with ho; subst ho; exact hnf vs hd
 refine wpAny_bind (wpAny_frameOf_fun hfr hl hf fun h₁ hs₁ => ?_)
 refine wpAny_bind (wpAny_entryPlaceOf fun pl hpl => ?_)
 unfold EntryCells.newEntry newFields
 refine wpAny_bind (wpAny_newObj_type ?_ (hpl.sizeOk5 _ _ _ _ _))
 have he₁ : h₁.get? e = some oe := (hs₁.2.1 e hene).trans he
 have he₂ := Heap.get?_push_of_some (h := h₁) { cls := .type "traceback", dict := none, data := .fields ([head, .ref L, .none, rawInt L, .none] ++ (if pl.isEmpty then List.replicate 6 Value.none else pl)).toArray } he₁
 refine wpAny_setField he₂ hd hsz ?_
 have hTe : h₁.objs.size ≠ e := Nat.ne_of_gt (Heap.lt_size he₁)
 have hd₃ := Obj.data_mapFields hd (·.setIfInBounds 1 (Value.ref h₁.objs.size))
 have he₃ := Heap.get?_update_self (Obj.mapFields (·.setIfInBounds 1 (Value.ref h₁.objs.size))) he₂ (Obj.isFreed_of_fields hd₃)
 have hT₃ := (Heap.get?_update_other (h₁.push { cls := .type "traceback", dict := none, data := .fields ([head, .ref L, .none, rawInt L, .none] ++ (if pl.isEmpty then List.replicate 6 Value.none else pl)).toArray })
  (Obj.mapFields (·.setIfInBounds 1 (Value.ref h₁.objs.size))) (Ne.symm hTe)).trans (Heap.get?_push_size h₁ rfl)
 unfold setFlight
 refine wpAny_bind (wpAny_field he₃ hd₃ (x := .ref h₁.objs.size) (by simp [hsz]) ?_)
 rw [if_pos (show (Value.ref h₁.objs.size != Value.none) = true from by simp)]
 refine wpAny_setField hT₃ rfl (by simp only [List.size_toArray, List.length_append, List.length_cons, List.length_nil] <;> omega) ?_
 have keep : ∀ b o, b ≠ e → h₁.get? b = some o →
   (((h₁.push { cls := .type "traceback", dict := none, data := .fields ([head, .ref L, .none, rawInt L, .none] ++ (if pl.isEmpty then List.replicate 6 Value.none else pl)).toArray }).update e (Obj.mapFields (·.setIfInBounds 1 (Value.ref h₁.objs.size)))).update h₁.objs.size
    (Obj.mapFields (·.setIfInBounds 3 ((none : Option Addr).elim Value.none fun f => rawInt f)))).get? b = some o := fun b o hbe hb => by
  have hbT : h₁.objs.size ≠ b := Nat.ne_of_gt (Heap.lt_size hb)
  rw [Heap.get?_update_other _ _ hbT, Heap.get?_update_other _ _ (Ne.symm hbe)]
  exact Heap.get?_push_of_some _ hb
 refine h _ h₁.objs.size (fun b o hb hbe q => keep b o hbe ((hs₁.2.1 b hb).trans q)) (fun b o hbe q => ?_) (Heap.get?_none_of_le (by rw [hs₁.1]; exact Nat.le_refl _)) hTe ?_ ?_
 ·obtain ⟨sl, hs⟩ := hs₁.2.2 b o q
  exact ⟨sl, keep b _ hbe hs⟩
 ·rw [Heap.get?_update_other _ _ hTe]; exact he₃
 ·exact ⟨_, _, Heap.get?_update_self _ hT₃ (Obj.isFreed_of_fields (Obj.data_mapFields rfl _)), Obj.data_mapFields rfl _, by first | (simp; done) | (rcases hpl with rfl | ⟨_, _, _, _, _, _, _, rfl⟩ <;> simp)⟩
theorem vb {base : Heap} {env : Env} {outer : List Env} {L e : Addr} {oe : Obj} {vs : Array Value} {ch : List Addr} {Q : Unit → Shared → Prop}
  (hfr : A.frames = some (env :: outer)) (hl : s.heap.FunFrames base (env :: outer)) (hf : env.frame = some L) (he : s.heap.get? e = some oe) (hd : oe.data = .fields vs)
  (h1 : (vs[1]? = some .none ∧ ch = [e]) ∨ ∃ T oT ts, vs[1]? = some (.ref T) ∧ T ≠ e ∧ s.heap.get? T = some oT ∧ oT.data = .fields ts ∧ ts[3]? = some .none ∧ ch = [e, T])
  (h : ∀ h' T, (∀ b o, b ∉ (env :: outer).filterMap (·.frame) → b ∉ ch → s.heap.get? b = some o → h'.get? b = some o) → (∀ b o, b ∉ ch → s.heap.get? b = some o → ∃ sl, h'.get? b = some { o with slots := sl }) →
   (∀ b ∈ ch, ∃ o, h'.get? b = some o) → s.heap.get? T = none → T ≠ e → h'.get? e = some (oe.mapFields (·.setIfInBounds 1 (.ref T))) → (∃ oT ts, h'.get? T = some oT ∧ oT.data = .fields ts ∧ ts[3]? = some .none) → Q () { s with heap := h' }) :
  wpAny M A (noteFrame (.ref e) env) (fun _ s' => wpAny M A (setFlight (.ref e) none) Q E s') E s := by
 rcases h1 with ⟨h1, rfl⟩ | ⟨T, oT, ts, h1, hTe, hT, hdT, h3, rfl⟩
 ·unfold noteFrame
  simp only [hf]
  refine wpAny_bind (wpAny_field he hd h1 ?_)
  rw [if_neg (by decide)]
  refine vi hfr hl hf he hd (Array.getElem?_eq_some_iff.mp h1).1 fun h' T k1 k2 k3 k4 k5 k6 => ?_
  refine h h' T (fun b o hb hc q => k1 b o hb (fun z => hc (by simp [z])) q) (fun b o hc q => k2 b o (fun z => hc (by simp [z])) q) (fun b hb => ?_) k3 k4 k5 k6
  obtain rfl : b = e := by simpa using hb
  exact ⟨_, k5⟩
 ·unfold noteFrame
  simp only [hf]
  refine wpAny_bind (wpAny_field he hd h1 ?_)
  rw [if_pos (show (Value.ref T != Value.none) = true from by simp)]
  refine wpAny_bind (wpAny_field hT hdT h3 ?_)
  rw [if_neg (show ¬ ((Value.none == rawInt L) = true) from by simp [rawInt])]
  refine wpAny_bind (wpAny_setField hT hdT (Array.getElem?_eq_some_iff.mp h3).1 ?_)
  have other : ∀ b, b ≠ T → (s.heap.update T (Obj.mapFields (·.setIfInBounds 3 Value.none))).get? b = s.heap.get? b := fun b hb => Heap.get?_update_other _ _ (Ne.symm hb)
  have noRecord : ∀ b o, s.heap.get? b = some o → (∀ vs, o.data ≠ .fields vs) → b ≠ T := fun b o hb hnf q => by
   rw [q, hT] at hb; injection hb with hb; subst hb; exact hnf ts hdT
  have hT' := Heap.get?_update_self (Obj.mapFields (·.setIfInBounds 3 Value.none)) hT (Obj.isFreed_of_fields (Obj.data_mapFields hdT _))
  refine vi hfr (hl.of_keeps fun b o hb hnf => ⟨o, (other b (noRecord b o hb hnf)).trans hb, rfl⟩) hf ((other e (Ne.symm hTe)).trans he) hd (Array.getElem?_eq_some_iff.mp h1).1 fun h' T' k1 k2 k3 k4 k5 k6 => ?_
  have hTT : T' ≠ T := fun z => by rw [z, hT'] at k3; cases k3
  refine h h' T' (fun b o hb hc q => k1 b o hb (fun z => hc (by simp [z])) ((other b (fun z => hc (by simp [z]))).trans q)) (fun b o hc q => k2 b o (fun z => hc (by simp [z])) ((other b (fun z => hc (by simp [z]))).trans q)) (fun b hb => ?_) ((other T' hTT).symm.trans k3) k4 k5 k6
  rcases List.mem_cons.mp hb with rfl | hb
  ·exact ⟨_, k5⟩
  ·obtain rfl : b = T := by simpa using hb
   obtain ⟨sl, q⟩ := k2 b _ hTe hT'
   exact ⟨_, q⟩
end
section
variable {X : Cx} {pins : List (Addr × Obj)} {σ : List (Option V)} {H : Hp} {s : Shared} {h' : Heap}
theorem Inv.stepx {ch : List Addr} (I : Inv X pins σ H s)
  (hch : ∀ b ∈ ch, X.s₀.heap.get? b = none ∧ H b = none ∧ ∀ p ∈ X.pn ++ pins, p.1 ≠ b) (hrec : ∀ b ∈ ch, ∃ o vs, s.heap.get? b = some o ∧ o.data = .fields vs)
  (keep : ∀ b o, b ∉ frs X.stack → b ∉ ch → s.heap.get? b = some o → h'.get? b = some o)
  (slot : ∀ b o, b ∉ ch → s.heap.get? b = some o → ∃ sl, h'.get? b = some { o with slots := sl }) (there : ∀ b ∈ ch, ∃ o, h'.get? b = some o) : Inv X pins σ H { s with heap := h' } := by
 have neL : ∀ b ∈ ch, b ≠ X.env.locals := fun b hb z => by
  obtain ⟨o, vs, ho, hd⟩ := hrec b hb
  obtain ⟨m, ⟨o', es, ep, ho', hd', _⟩, _⟩ := I.loc
  rw [z, ho'] at ho; cases ho; rw [hd'] at hd; cases hd
 have neC : ∀ b ∈ ch, ∀ x c, X.env.cells.lookup x = some c → c ≠ b := fun b hb x c e z => by
  obtain ⟨o, vs, ho, hd⟩ := hrec b hb
  obtain ⟨v, o', ho', hd'⟩ := I.cell x c e
  rw [z, ho] at ho'; cases ho'; rw [hd] at hd'; cases hd'
 have nch : ∀ b o, X.s₀.heap.get? b = some o → b ∉ ch := fun b o e hb => by rw [(hch b hb).1] at e; cases e
 have trk : ∀ b u, H b = some u → b ∉ ch ∧ b ∉ frs X.stack := fun b u e => ⟨(fun hb => by rw [(hch b hb).2.1] at e; cases e), (fun hb => by rw [I.stkFree b hb] at e; cases e)⟩
 have nfs : ∀ b, b ∉ X.fs → b ≠ X.env.locals → b ∉ frs X.stack := fun b h1 h2 z => (List.mem_cons.mp (I.stkSub b z)).elim h2 h1
 have ltL : ∀ b o, X.s₀.heap.get? b = some o → b ≠ X.env.locals := fun b o e => Nat.ne_of_lt (Nat.lt_of_lt_of_le (Heap.lt_size e) I.ok.above)
 have cellK : ∀ x c, X.env.cells.lookup x = some c → ∀ v, s.heap.IsCell c v → h'.IsCell c v := fun x c e v ⟨o, ho, hd⟩ => by
  obtain ⟨sl, q⟩ := slot c o (fun z => neC c z x c e rfl) ho
  exact ⟨_, q, hd⟩
 have hok : HOk X.prog X.w H h' := fun b u e => (I.hok b u e).stay (fun c v hc q => by
  have hcH : ∃ u', H c = some u' := by
   rcases hc with rfl | z
   ·exact ⟨_, e⟩
   ·exact ⟨_, z⟩
  obtain ⟨u', hu⟩ := hcH
  exact keep c v (trk c u' hu).2 (trk c u' hu).1 q) (fun _ q => q) fun _ _ q => q
 refine ⟨I.ok, I.os, I.bare, ⟨fun b o e n hb hx => ?_, fun b o e n hb hx => ?_, I.base.free, fun b o e hx => ?_, I.base.tups, I.base.frzs, I.base.tbls⟩, ?_, fun x c e => ?_, I.free, I.freeC, fun p hp => ?_, hok, I.len⟩
 ·exact keep b o (nfs b hb (ltL b o e)) (nch b o e) (I.base.keep b o e n hb hx)
 ·obtain ⟨sl, e1⟩ := I.base.slot b o e n hb hx
  obtain ⟨sl', e2⟩ := slot b _ (nch b o e) e1
  exact ⟨sl', e2⟩
 ·obtain ⟨o', e1⟩ := I.base.there b o e hx
  obtain ⟨sl', e2⟩ := slot b _ (nch b o e) e1
  exact ⟨_, e2⟩
 ·obtain ⟨m, ⟨o, es, ep, ho, r⟩, hl⟩ := I.loc
  obtain ⟨sl, q⟩ := slot _ o (fun z => neL _ z rfl) ho
  refine ⟨m, ⟨_, es, ep, q, r⟩, fun i x v e1 e2 e3 => ?_⟩
  obtain ⟨u, r', l⟩ := hl i x v e1 e2 e3
  refine ⟨u, r', ?_⟩
  rcases l with l | ⟨k, c, e, z⟩
  ·exact .inl l
  ·exact .inr ⟨k, c, e, cellK x c e _ z⟩
 ·obtain ⟨v, z⟩ := I.cell x c e
  exact ⟨v, cellK x c e v z⟩
 ·obtain ⟨e, n, ne, nf, d⟩ := I.pin p hp
  exact ⟨keep p.1 p.2 (nfs _ nf ne) (fun z => (hch p.1 z).2.2 p hp rfl) e, n, ne, nf, d⟩
theorem vc {a : Addr} {oe : Obj} {vs : Array Value} {E : Value → Shared → Prop} {Q : Unit → Shared → Prop} (I : Inv X pins σ H s) (hst : X.stack = X.env :: X.outer) (hfr : X.env.frame = some X.env.locals) (hex : X.ex = [])
  (he : s.heap.get? a = some oe) (hdict : oe.dict = none) (hd : oe.data = .fields vs) (ga : X.s₀.heap.get? a = none) (Ha : H a = none) (hpa : ∀ p ∈ X.pn ++ pins, p.1 ≠ a)
  (h1 : vs[1]? = some .none ∨ ∃ T oT ts, vs[1]? = some (.ref T) ∧ T ≠ a ∧ s.heap.get? T = some oT ∧ oT.data = .fields ts ∧ ts[3]? = some .none ∧ X.s₀.heap.get? T = none ∧ H T = none ∧ ∀ p ∈ X.pn ++ pins, p.1 ≠ T)
  (hQ : ∀ s', Inv X pins σ H s' → Exc X.s₀.heap s'.heap H (X.pn ++ pins) a oe.cls → Q () s') :
  wpAny (model X.prog X.w) X.A (noteFrame (.ref a) X.env) (fun _ s' => wpAny (model X.prog X.w) X.A (setFlight (.ref a) none) Q E s') E s := by
 have hfs := I.ok.frames
 have hFF := I.stack
 rw [hst] at hfs hFF
 have hS : frs X.stack = (X.env :: X.outer).filterMap (·.frame) := by rw [hst]; rfl
 have fin : ∀ (ch : List Addr), (∀ b ∈ ch, X.s₀.heap.get? b = none ∧ H b = none ∧ ∀ p ∈ X.pn ++ pins, p.1 ≠ b) → (∀ b ∈ ch, ∃ o vs, s.heap.get? b = some o ∧ o.data = .fields vs) → a ∈ ch →
   ∀ h' T, (∀ b o, b ∉ (X.env :: X.outer).filterMap (·.frame) → b ∉ ch → s.heap.get? b = some o → h'.get? b = some o) → (∀ b o, b ∉ ch → s.heap.get? b = some o → ∃ sl, h'.get? b = some { o with slots := sl }) →
   (∀ b ∈ ch, ∃ o, h'.get? b = some o) → s.heap.get? T = none → T ≠ a → h'.get? a = some (oe.mapFields (·.setIfInBounds 1 (.ref T))) → (∃ oT ts, h'.get? T = some oT ∧ oT.data = .fields ts ∧ ts[3]? = some .none) → Q () { s with heap := h' } := by
  intro ch hch hrec ha h' T k1 k2 k3 k4 k5 k6 k7
  have I' := I.stepx (h' := h') hch hrec (fun b o hb hc q => k1 b o (by rw [← hS]; exact hb) hc q) k2 k3
  refine hQ _ I' ⟨?_, ga, Ha, hpa⟩
  obtain ⟨oT, ts, q1, q2, q3⟩ := k7
  have hsz : 1 < vs.size := by
   rcases h1 with z | ⟨_, _, _, z, _⟩ <;> exact (Array.getElem?_eq_some_iff.mp z).1
  refine ⟨_, _, T, oT, ts, k6, Obj.cls_mapFields _ _, by obtain ⟨c, d, dt, sl⟩ := oe; cases dt <;> exact hdict, Obj.data_mapFields hd _, by simp [hsz], k5, q1, q2, q3, ?_, ?_, fun p hp z => ?_⟩
  ·cases e : X.s₀.heap.get? T with
   | none => rfl
   | some o =>
    obtain ⟨o', e'⟩ := I.base.there T o e (by rw [hex]; simp)
    rw [k4] at e'; cases e'
  ·cases e : H T with
   | none => rfl
   | some u =>
    obtain ⟨o', e'⟩ := (I.hok T u e).there
    rw [k4] at e'; cases e'
  ·have := (I.pin p hp).1
   rw [z, k4] at this; cases this
 rcases h1 with h1 | ⟨T, oT, ts, h1, hTa, hT, hdT, h3, gT, HT, pT⟩
 ·refine vb (ch := [a]) hfs hFF hfr he hd (.inl ⟨h1, rfl⟩) (fin [a] (fun b hb => ?_) (fun b hb => ?_) (by simp))
  ·obtain rfl : b = a := by simpa using hb
   exact ⟨ga, Ha, hpa⟩
  ·obtain rfl : b = a := by simpa using hb
   exact ⟨oe, vs, he, hd⟩
 ·refine vb (ch := [a, T]) hfs hFF hfr he hd (.inr ⟨T, oT, ts, h1, hTa, hT, hdT, h3, rfl⟩) (fin [a, T] (fun b hb => ?_) (fun b hb => ?_) (by simp))
  ·rcases List.mem_cons.mp hb with rfl | hb
   ·exact ⟨ga, Ha, hpa⟩
   ·obtain rfl : b = T := by simpa using hb
    exact ⟨gT, HT, pT⟩
  ·rcases List.mem_cons.mp hb with rfl | hb
   ·exact ⟨oe, vs, he, hd⟩
   ·obtain rfl : b = T := by simpa using hb
    exact ⟨oT, ts, hT, hdT⟩
end
def JG (X : Cx) (G : GK) (e : Value) (s : Shared) : Prop := ∃ a cls σ H, e = Value.ref a ∧ Inv X [] σ H s ∧ Exc X.s₀.heap s.heap H X.pn a cls ∧ G cls σ H
def xeG (X : Cx) (G : GK) (e : Value) (s : Shared) : Prop := wpAny (model X.prog X.w) X.A (noteFrame e X.env) (fun _ s' => wpAny (model X.prog X.w) X.A (setFlight e none) (fun _ s'' => JG X G e s'') (fun _ _ => False) s') (fun _ _ => False) s
abbrev Cx.exg (X : Cx) (G : GK) : Cx := X.wish (xeG X G)
structure Bod (X : Cx) : Prop where
 st : X.stack = X.env :: X.outer
 fr : X.env.frame = some X.env.locals
 ex : X.ex = []
theorem qR {X : Cx} {G : GK} : PassesOwn (model X.prog X.w) X.A X.env (xeG X G) := PassesOwn.looking
theorem Inv.nopins {X : Cx} {pins : List (Addr × Obj)} {σ : St} {H : Hp} {s : Shared} (I : Inv X pins σ H s) : Inv X [] σ H s := I.pins_of fun p hp => absurd hp (by simp)
theorem Exc.less {g h : Heap} {H : Hp} {pn pn' : List (Addr × Obj)} {a : Addr} {cls : Value} (x : Exc g h H pn a cls) (hp : ∀ p ∈ pn', p ∈ pn) : Exc g h H pn' a cls := by
 obtain ⟨⟨oe, vs, T, oT, ts, h1, h2, h3, h4, h5, h6, h7, h8, h9, h10, h11, h12⟩, ga, Ha, pa⟩ := x
 exact ⟨⟨oe, vs, T, oT, ts, h1, h2, h3, h4, h5, h6, h7, h8, h9, h10, h11, fun p q => h12 p (hp p q)⟩, ga, Ha, fun p q => pa p (hp p q)⟩
def CXr (P : Program) (w : World) : CXT := fun outer H s E e s' => ∃ a cls H', e = Value.ref a ∧ s'.os = s.os ∧ AllBare s'.gens ∧ Un (frs outer) [] H H' s.heap s'.heap ∧ HOk P w H' s'.heap ∧
 Exc s.heap s'.heap H' [] a cls ∧ E cls none H'
section
variable {X : Cx} {pins : List (Addr × Obj)} {σ : St} {H : Hp} {s : Shared} {G : GK}
theorem xJ {e : Value} {s' : Shared} (B : Bod X) (I : Inv X pins σ H s) (h : CXr X.prog X.w X.stack H s (fun cls _ H' => G cls σ H') e s') : xeG X G e s' := by
 obtain ⟨a, cls, H', rfl, os, bare, un, hok, ⟨⟨oe, vs, T, oT, ts, h1, h2, h3, h4, h5, h6, h7, h8, h9, h10, h11, _⟩, ga, Ha, _⟩, hG⟩ := h
 have I' : Inv X pins σ H' s' := I.call' os un hok bare (fun b z => absurd z (by simp))
 have old : ∀ b, s.heap.get? b = none → X.s₀.heap.get? b = none := fun b hb => by
  cases e : X.s₀.heap.get? b with
  | none => rfl
  | some o =>
   obtain ⟨o', e'⟩ := I.base.there b o e (by rw [B.ex]; simp)
   rw [hb] at e'; cases e'
 have pin : ∀ b, s.heap.get? b = none → ∀ p ∈ X.pn ++ pins, p.1 ≠ b := fun b hb p hp z => by
  have := (I.pin p hp).1
  rw [z, hb] at this; cases this
 refine vc I' B.st B.fr B.ex h1 h3 h4 (old a ga) Ha (pin a ga) (.inr ⟨T, oT, ts, h5, h6, h7, h8, h9, old T h10, h11, pin T h10⟩) fun s'' I2 x => ?_
 exact ⟨a, oe.cls, σ, H', rfl, I2.nopins, x.less fun p hp => List.mem_append_left _ hp, h2 ▸ hG⟩
theorem xeG_of_new {a : Addr} {cls : Value} {args : List Value} {h' : Heap} (B : Bod X) (I : Inv X pins σ H s) (hm : Heap.MadeExcOf s.heap h' a cls args) (hG : G cls σ H) : xeG X G (.ref a) { s with heap := h' } := by
 obtain ⟨t, h1, h2, h3⟩ := hm.there
 have I' : Inv X pins σ H { s with heap := h' } := I.kept (t' := s.toks) hm.keeps
 have ga : X.s₀.heap.get? a = none := by
  cases e : X.s₀.heap.get? a with
  | none => rfl
  | some o =>
   obtain ⟨o', e'⟩ := I.base.there a o e (by rw [B.ex]; simp)
   rw [hm.new] at e'; cases e'
 have Ha : H a = none := by
  cases e : H a with
  | none => rfl
  | some u =>
   obtain ⟨o', e'⟩ := (I.hok a u e).there
   rw [hm.new] at e'; cases e'
 refine vc (s := { s with heap := h' }) I' B.st B.fr B.ex h1 rfl rfl ga Ha (fun p hp z => ?_) (.inl rfl) fun s'' I2 x => ?_
 ·have := (I.pin p hp).1
  rw [z, hm.new] at this; cases this
 ·exact ⟨a, cls, σ, H, rfl, I2.nopins, x.less fun p hp => List.mem_append_left _ hp, hG⟩
end
section
variable {P : Program} {w : World} {K : PySem.W.Frag} {mg : Str → Option Value} {base : Heap}
abbrev cxR (P : Program) (w : World) (K : PySem.W.Frag) (mg : Str → Option Value) (base : Heap) (N : List Str) (qual : Str) (scope : Scope) (f : Addr) (cd : Value) (A : Around) (outer : List Env) (s : Shared) (H : Hp) (E : XK) : Cx :=
 cxOf (CXr P w) P w K mg base N qual scope f cd A outer s H E
theorem Fun.okx {x qual : Str} {st : Stmt} {f : Addr} {fd : FuncData} {N ps : List Str} {k : Nat} {sp : Sp} (F : Fun K x qual st f fd) (S : FnScope N ps (zg st)) (len : ∀ vs H Q E, sp vs H Q E → vs.length = ps.length)
  (hbody : ∀ (cdv : Value) (A : Around) (outer : List Env) (s : Shared) (H : Hp) (vs : List V) (Q : VK) (E : XK), Room k (A.deeper (envOfC qual (zg st) s.heap.objs.size f cdv)) → sp vs H Q E →
   ∃ t, PSs ((cxR P w K mg base N qual (zg st) f cdv A outer s H E).exg fun cls _ H' => E cls none H') (zQ st) t ∧ t { nx := fun _ H' => Q .non H', rt := Q } (start N vs) H) : FnOk P w K mg base (CXr P w) (k + 1) f fd ps sp := by
 obtain ⟨oc, od, kV, doc, pm, an, cdv, ct, osl, rfl, lk, hcd⟩ := F.ex
 refine Qd lk hcd S len fun A outer s H vs Q E hr hsp => ?_
 obtain ⟨t, h, q⟩ := hbody cdv A outer s H vs Q E hr hsp
 refine ⟨t, fun pins s σ H' D I hw => ?_, q⟩
 refine wpAny_mono (h pins s σ H' D (I.wish _) hw) (fun _ _ z => z.unwish) fun e s' z => ?_
 refine wpAny_bind (wpAny_mono (show wpAny _ _ _ _ _ _ from z) (fun _ s1 y1 => wpAny_mono y1 (fun _ s'' y => ?_) fun _ _ y => y.elim) fun _ _ y => y.elim)
 obtain ⟨a, cls, σ2, H2, rfl, J, xx, g⟩ := y
 exact ⟨a, cls, H2, rfl, J.os, J.bare, J.base, J.hok, xx.less (fun p hp => absurd hp (by simp)), g⟩
end
end L2
namespace L2
open PySem PySem.Spec PyProof.Rows
structure Cal (P : Program) (w : World) (K : PySem.W.Frag) (mg : Str → Option Value) (base : Heap) (x : Str) (k : Nat) (ps : List Str) (dvs : List V) (sp : Sp) : Prop where
 ex : ∃ f fd ds, FnOk P w K mg base (CXr P w) k f fd ps sp ∧ mg x = some (.ref f) ∧ PySem.W.keepIn K (.ref f) = true ∧ Binds K fd ps ds ∧ Vals dvs ds
structure MCal (P : Program) (w : World) (K : PySem.W.Frag) (mg : Str → Option Value) (base : Heap) (C : Addr) (m : Str) (k : Nat) (ps : List Str) (dvs : List V) (sp : Sp) : Prop where
 cl : Cls K C
 ex : ∃ f fd ds, FnOk P w K mg base (CXr P w) k f fd ps sp ∧ Meth K C m f ∧ Binds K fd ps ds ∧ Vals dvs ds
structure KCal (P : Program) (w : World) (K : PySem.W.Frag) (mg : Str → Option Value) (base : Heap) (x : Str) (C : Addr) (k : Nat) (ps : List Str) (dvs : List V) (sp : Sp) : Prop where
 gl : mg x = some (.ref C)
 ex : ∃ f fd ds, FnOk P w K mg base (CXr P w) k f fd ps sp ∧ Mk K C f ∧ Binds K fd ps ds ∧ Vals dvs ds
theorem Cal.mono {P : Program} {w : World} {K : PySem.W.Frag} {mg : Str → Option Value} {base : Heap} {x : Str} {j k : Nat} {ps : List Str} {dvs : List V} {sp : Sp} (c : Cal P w K mg base x j ps dvs sp) (h : j ≤ k := by decide) : Cal P w K mg base x k ps dvs sp :=
 let ⟨f, fd, ds, a, b⟩ := c.ex; ⟨f, fd, ds, a.mono h, b⟩
theorem MCal.mono {P : Program} {w : World} {K : PySem.W.Frag} {mg : Str → Option Value} {base : Heap} {C : Addr} {m : Str} {j k : Nat} {ps : List Str} {dvs : List V} {sp : Sp} (c : MCal P w K mg base C m j ps dvs sp) (h : j ≤ k := by decide) : MCal P w K mg base C m k ps dvs sp :=
 let ⟨f, fd, ds, a, b⟩ := c.ex; ⟨c.cl, f, fd, ds, a.mono h, b⟩
theorem KCal.mono {P : Program} {w : World} {K : PySem.W.Frag} {mg : Str → Option Value} {base : Heap} {x : Str} {C : Addr} {j k : Nat} {ps : List Str} {dvs : List V} {sp : Sp} (c : KCal P w K mg base x C j ps dvs sp) (h : j ≤ k := by decide) : KCal P w K mg base x C k ps dvs sp :=
 let ⟨f, fd, ds, a, b⟩ := c.ex; ⟨c.gl, f, fd, ds, a.mono h, b⟩
section
variable {X : Cx} {G : GK} {k : Nat} {f C : Addr} {fd : FuncData} {ps : List Str} {sp : Sp} {dvs : List V} {ds : List Value} {x m : Str} {p pos apos : Pos} {e o : Expr} {es : List Expr} {ta : TE} {t : TA}
theorem vt {pins : List (Addr × Obj)} {σ : St} {H : Hp} {s : Shared} {Q : VK} {us : List Value} {vs : List V} (B : Bod X) (F : FnOk X.prog X.w X.K X.mg X.base (CXr X.prog X.w) k f fd ps sp) (hr : Room k X.A) (hb : Binds X.K fd ps ds) (hd : Vals dvs ds)
  (I : Inv (X.exg G) pins σ H s) (r : Vals vs us) (h : sp (vs ++ dvs) H Q (fun cls _ H' => G cls σ H')) : wpAny (model X.prog X.w) X.A (call (.ref f) us) (EP (X.exg G) pins σ Q) (xeG X G) s := by
 have r2 : Vals (vs ++ dvs) (us ++ ds) := r.append hd
 have hl : (us ++ ds).length = ps.length := by rw [← r2.length]; exact F.len _ _ _ _ h
 refine wpAny_call (codeAny_mono (F.run X.A X.stack s H ⟨us, []⟩ (us ++ ds) (vs ++ dvs) Q _ hr I.unwish.env0 (hb s us I.kIn hl) r2 h) fun r s' hq => ?_)
 cases r with
 | error e => exact xJ B I.unwish hq
 | ok fl =>
  cases fl with
  | ret u => exact I.after hq
  | next => exact False.elim hq
  | brk => exact False.elim hq
  | cont => exact False.elim hq
theorem run_makex {pins : List (Addr × Obj)} {σ : St} {H : Hp} {s : Shared} {Q : VK} {us : List Value} {vs : List V} (B : Bod X) (M : Mk X.K C f) (F : FnOk X.prog X.w X.K X.mg X.base (CXr X.prog X.w) k f fd ps sp) (hr : Room (k + 1) X.A) (hb : Binds X.K fd ps ds) (hd : Vals dvs ds)
  (I : Inv (X.exg G) pins σ H s) (r : Vals vs us)
  (h : ∀ x dx, H x = none → H dx = none → dx ≠ x → sp (.ref x :: (vs ++ dvs)) (upd (upd H dx (.own x)) x (.ins C dx [])) (fun v H2 => v = .non ∧ Q (.ref x) H2) (fun cls _ H' => G cls σ H')) :
  wpAny (model X.prog X.w) X.A (call (.ref C) us) (EP (X.exg G) pins σ Q) (xeG X G) s := by
 have hq := h (s.heap.objs.size + 1) s.heap.objs.size (I.hok.fresh (Nat.le_succ _)) (I.hok.fresh (Nat.le_refl _)) (Nat.ne_of_lt (Nat.lt_succ_self _))
 have I2 := Inv.made (C := C) I
 have r2 : Vals (V.ref (s.heap.objs.size + 1) :: (vs ++ dvs)) (Value.ref (s.heap.objs.size + 1) :: (us ++ ds)) := .cons rfl (r.append hd)
 have hl : (Value.ref (s.heap.objs.size + 1) :: us ++ ds).length = ps.length := by
  have e := r2.length
  rw [F.len _ _ _ _ hq] at e
  exact e.symm
 refine wpAny_call (vU (f := f) I.kIn M.makes M.init (beq_iff_eq.mp M.fn) (codeAny_mono (F.run _ X.stack _ _ ⟨Value.ref (s.heap.objs.size + 1) :: us, []⟩ (Value.ref (s.heap.objs.size + 1) :: (us ++ ds)) _ _ _ (hr.make C us [])
  (I2.unwish.env0.make C us []) (hb _ (Value.ref (s.heap.objs.size + 1) :: us) I2.kIn hl) r2 hq) fun r s' hq' => ?_))
 cases r with
 | error e => exact xJ B I2.unwish hq'
 | ok fl =>
  cases fl with
  | ret u =>
   obtain ⟨v, H', I3, rv, ev, q3⟩ := I2.after hq'
   subst ev
   exact ⟨rv, ⟨V.ref (s.heap.objs.size + 1), H', I3, rfl, q3⟩⟩
  | next => exact False.elim hq'
  | brk => exact False.elim hq'
  | cont => exact False.elim hq'
def tCl (X : Cx) (k : Nat) (x : Str) (G : GK) (t : TA) : TE := fun σ H Q => ∃ ps dvs sp, Cal X.prog X.w X.K X.mg X.base x k ps dvs sp ∧ t σ H fun vs H1 => sp (vs ++ dvs) H1 Q (fun cls _ H' => G cls σ H')
theorem zH (B : Bod X) (hr : Room k X.A) (ha : PA (X.exg G) (e :: es) t) (hg : Gl X x := by rfl) (hdb : (x == ("__debug__" : Str)) = false := by decide)
  (he : starEach (e :: es) X.env = (false, eval e X.env) :: starEach es X.env := by rfl) (hpl : (backTo pos (starEach es X.env)).any (·.1) = false := by rfl) :
  PE (X.exg G) (.Call (.Name x p) (e :: es) [] pos) (tCl X k x G t) := by
 intro pins s σ H Q I h
 obtain ⟨ps, dvs, sp, ⟨f, fd, ds, F, hm, hk, hb, hd⟩, h⟩ := h
 refine wpAny_Call_Name_kw (qE I hg hm ?_ hdb)
 refine PySem.W.callWith_K (h₀ := X.base) I.ok.mod.kin hk (thn (ha pos pins s σ H _ I h) fun us s1 ⟨vs, H1, I1, r, q⟩ => ⟨I1.kIn, ?_⟩) he hpl
 exact vt B F hr hb hd I1 r q
def tMk (X : Cx) (k : Nat) (x : Str) (G : GK) (t : TA) : TE := fun σ H Q => ∃ C ps dvs sp, KCal X.prog X.w X.K X.mg X.base x C k ps dvs sp ∧ t σ H fun vs H1 => ∀ y dx, H1 y = none → H1 dx = none → dx ≠ y →
 sp (.ref y :: (vs ++ dvs)) (upd (upd H1 dx (.own y)) y (.ins C dx [])) (fun v H2 => v = .non ∧ Q (.ref y) H2) (fun cls _ H' => G cls σ H')
theorem qw (B : Bod X) (hr : Room (k + 1) X.A) (ha : PA (X.exg G) (e :: es) t) (hg : Gl X x := by rfl) (hdb : (x == ("__debug__" : Str)) = false := by decide)
  (he : starEach (e :: es) X.env = (false, eval e X.env) :: starEach es X.env := by rfl) (hpl : (backTo pos (starEach es X.env)).any (·.1) = false := by rfl) :
  PE (X.exg G) (.Call (.Name x p) (e :: es) [] pos) (tMk X k x G t) := by
 intro pins s σ H Q I h
 obtain ⟨C, ps, dvs, sp, ⟨hm, f, fd, ds, F, M, hb, hd⟩, h⟩ := h
 refine wpAny_Call_Name_kw (qE I hg hm ?_ hdb)
 refine PySem.W.callWith_K (h₀ := X.base) I.ok.mod.kin M.kp (thn (ha pos pins s σ H _ I h) fun us s1 ⟨vs, H1, I1, r, q⟩ => ⟨I1.kIn, ?_⟩) he hpl
 exact run_makex B M F hr hb hd I1 r q
def tMth (X : Cx) (k : Nat) (m : Str) (G : GK) (ta : TE) (t : TA) : TE := fun σ H Q => ta σ H fun y H1 => ∃ a C dx fs ps dvs sp, y = .ref a ∧ H1 a = some (.ins C dx fs) ∧ fs.lookup m = none ∧
 MCal X.prog X.w X.K X.mg X.base C m k ps dvs sp ∧ t σ H1 fun vs H2 => sp (.ref a :: (vs ++ dvs)) H2 Q (fun cls _ H' => G cls σ H')
theorem Z7 {pl : Sem Bool} (B : Bod X) (hr : Room k X.A) (he : PE (X.exg G) o ta) (ha : PA (X.exg G) (e :: es) t)
  (hst : starEach (e :: es) X.env = (false, eval e X.env) :: starEach es X.env := by rfl) (hpl : (backTo pos (starEach es X.env)).any (·.1) = false := by rfl)
  (ht : eval (.Call (.Attribute o m apos) (e :: es) [] pos) X.env = (do
   let ov ← eval o X.env
   standAt apos.atName
   let (f, first) ← holding [ov] (getMethod ov m pl)
   callWith pos f first (backTo pos (starEach (e :: es) X.env)) (backToKw pos (keywordEach [] X.env))) := by rfl) :
  PE (X.exg G) (.Call (.Attribute o m apos) (e :: es) [] pos) (tMth X k m G ta t) := by
 intro pins s σ H Q I h
 refine PySem.W.methodCall_KW (pl := pl) (thn (he pins s σ H _ I h) fun u s1 hz => ?_) ht
 obtain ⟨x, H1, I1, rx, a, C, dx, fs, ps, dvs, sp, ex, ea, l, ⟨c, f, fd, ds, F, hm, hb, hd⟩, q⟩ := hz
 subst ex
 obtain rfl : u = Value.ref a := rx
 refine wF I1 ea c hm l ?_
 refine PySem.W.callWith_K (first := [.ref a]) (h₀ := X.base) I.ok.mod.kin hm.kp (thn (ha pos pins s1 σ H1 _ I1 q) fun us s2 ⟨vs, H2, I2, r, q2⟩ => ⟨I2.kIn, ?_⟩) hst hpl
 exact vt (us := .ref a :: us) (vs := .ref a :: vs) B F hr hb hd I2 (.cons rfl r) q2
def tGl (X : Cx) (x : Str) : TE := fun _ H Q => ∃ v u, X.mg x = some u ∧ RelV v u ∧ Q v H
theorem qk (hg : Gl X x := by rfl) (hd : (x == ("__debug__" : Str)) = false := by decide) : PE X (.Name x pos) (tGl X x) := fun _ _ _ H _ I h => by
 obtain ⟨v, u, hm, r, h⟩ := h
 exact qE I hg hm ⟨v, H, I, r, h⟩ hd
def tBl (X : Cx) (x : Str) (v : V) : TE := fun _ H Q => X.mg x = none ∧ Q v H
theorem vP {n : String} (hv : bootBuiltins x = some (.type n)) (hg : Gl X x := by rfl) (hn : x ≠ "__name__" := by decide) (hd : (x == ("__debug__" : Str)) = false := by decide) : PE X (.Name x pos) (tBl X x (.ty n)) := fun _ _ _ H _ I h => by
 obtain ⟨hm, h⟩ := h
 exact j3 I hg hm hv ⟨.ty n, H, I, rfl, h⟩ hn hd
def tBi (X : Cx) (x : Str) (r : List V → Hp → VK → Prop) (t : TA) : TE := fun σ H Q => X.mg x = none ∧ t σ H fun vs H1 => r vs H1 Q
theorem zA {id : String} {r : List V → Hp → VK → Prop} (hc : CallR X (.builtin id) r) (hv : bootBuiltins x = some (.builtin id)) (ha : PA X (e :: es) t) (hg : Gl X x := by rfl) (hn : x ≠ "__name__" := by decide) (hdb : (x == ("__debug__" : Str)) = false := by decide)
  (he : starEach (e :: es) X.env = (false, eval e X.env) :: starEach es X.env := by rfl) (hpl : (backTo pos (starEach es X.env)).any (·.1) = false := by rfl) : PE X (.Call (.Name x p) (e :: es) [] pos) (tBi X x r t) := fun pins s σ H Q I h =>
 pe_callB hc hg h.1 hv ha hn hdb he hpl pins s σ H Q I h.2
theorem jz {T : String} {r : List V → Hp → VK → Prop} (hc : CallR X (.type T) r) (hv : bootBuiltins x = some (.type T)) (ha : PA X (e :: es) t) (hg : Gl X x := by rfl) (hn : x ≠ "__name__" := by decide) (hdb : (x == ("__debug__" : Str)) = false := by decide)
  (he : starEach (e :: es) X.env = (false, eval e X.env) :: starEach es X.env := by rfl) (hpl : (backTo pos (starEach es X.env)).any (·.1) = false := by rfl) : PE X (.Call (.Name x p) (e :: es) [] pos) (tBi X x r t) := fun pins s σ H Q I h =>
 pe_callTy hc hg h.1 hv ha hn hdb he hpl pins s σ H Q I h.2
end
end L2
namespace L2
open PySem PySem.Spec PyProof.Rows
section
variable {X : Cx} {tg : Expr} {a b c e o : Expr} {ta tb tc : TE} {pos : Pos}
def iSeq (K : PySem.W.Frag) (tl : TE) : TI := fun σ H R => tl σ H fun x H1 => ∃ a, x = .ref a ∧ (((∃ xs, SqL K H1 a xs) ∧ R (Itl K a) H1) ∨ ((∃ xs, SqT K H1 a xs) ∧ R (Itt K a) H1))
theorem ql {l : Expr} {tl : TE} (hl : PE X l tl) : PI X tg l (iSeq X.K tl) := by
 intro pins s σ H R I h
 refine thn (hl pins s σ H _ I h) fun v s1 ⟨x, H1, I1, r1, q1⟩ => ?_
 obtain ⟨a, e, q⟩ := q1
 subst e
 cases r1
 rcases q with ⟨⟨xs, hq⟩, q⟩ | ⟨⟨xs, hq⟩, q⟩
 ·obtain ⟨its, rv, p, hz⟩ := I1.list hq
  refine wpAny_pyIter_list p.isList ?_
  refine ⟨s1.heap.objs.size, [s1.heap.objs.size], _, _, H1, rfl, I1.kept (t' := s1.toks) fun b o e => Heap.get?_push_of_some _ e, turn_list a _, ⟨_, Heap.get?_push_size _ rfl, rfl, rfl⟩, fun b hb => ?_, q⟩
  have e : b = s1.heap.objs.size := by simpa using hb
  subst e
  exact I1.fpOk (Nat.le_refl _) (I1.hok.fresh (Nat.le_refl _))
 ·obtain ⟨its, rv, p, hz⟩ := I1.tuple hq
  refine wpAny_pyIter_tuple (show s1.heap.IsTuple a its.toArray from p) ?_
  refine ⟨s1.heap.objs.size, [s1.heap.objs.size], _, _, H1, rfl, I1.kept (t' := s1.toks) fun b o e => Heap.get?_push_of_some _ e, turn_tuple a _, ⟨_, Heap.get?_push_size _ rfl, rfl, rfl⟩, fun b hb => ?_, q⟩
  have e : b = s1.heap.objs.size := by simpa using hb
  subst e
  exact I1.fpOk (Nat.le_refl _) (I1.hok.fresh (Nat.le_refl _))
theorem vw {ta : TA} {p pos : Pos} (ha : PA X [a] ta) (hg : Gl X "range" := by rfl) (hs : starEach [a] X.env = [(false, eval a X.env)] := by rfl) : PI X tg (.Call (.Name "range" p) [a] [] pos) (fun σ H R => X.mg "range" = none ∧ iRng1 ta σ H R) :=
 fun pins s σ H R I h => pi_range1 hg h.1 ha hs pins s σ H R I h.2
def Qi (K : PySem.W.Frag) : R2 := fun x y H Q => ∃ l b xs zs, x = .ref l ∧ y = .ref b ∧ SqL K H l xs ∧ SqL K H b zs ∧ xs.length + zs.length ≤ sizeLine ∧ ∀ p, H p = none → Q (.ref p) (upd H p (.lst (xs ++ zs)))
theorem op_catS : OpR X (binaryOp .Add) (Qi X.K) := by
 intro pins s σ H x y v u Q I rx ry h
 obtain ⟨l, b, xs, zs, rfl, rfl, hH, hB, hz, q⟩ := h
 cases rx
 cases ry
 obtain ⟨its, r, p, z⟩ := I.list hH
 obtain ⟨its2, r2, p2, z2⟩ := I.list hB
 have e1 := r.length
 have e2 := r2.length
 obtain ⟨⟨cls, dd, data, sl⟩, n, ho, hc, hdd, hd⟩ := p
 obtain ⟨⟨cls2, dd2, data2, sl2⟩, n2, ho2, hc2, hdd2, hd2⟩ := p2
 simp only at hc hd hc2 hd2
 subst hc hd hc2 hd2
 have ea : its.toArray ++ its2.toArray = (its ++ its2).toArray := by simp
 refine concat_meets ⟨_, ho, rfl⟩ ⟨_, ho2, rfl⟩ noFill_list_add seq_list_add PySem.F.slot_list_add PySem.F.entry_list_add (PySem.F.args_list_add_2 _ _) (list_addW l b its.toArray its2.toArray n n2 dd dd2 sl sl2 (by simp only [List.size_toArray]; omega)) ⟨ho, ho2, ?_⟩
 rw [ea]
 exact ⟨.ref _, _, I.lnew (t' := s.toks) (r.append r2) (by rw [List.length_append]; omega), rfl, q _ I.fresh⟩
def ZH (K : PySem.W.Frag) : R2 := fun x y H Q => rI0 (fun i j => .int (i + j)) x y H Q ∨ (∃ i j, x = .str i ∧ y = .str j ∧ i.length + j.length ≤ sizeLine ∧ Q (.str (i ++ j)) H) ∨ Qi K x y H Q
theorem zB : OpR X (binaryOp .Add) (ZH X.K) := op_add.or (op_add_str.or op_catS)
theorem jA : OpR X (binaryOp .Mult) (rI (fun i j => IntMulOk i j) fun i j => .int (i * j)) := opI fun _ _ _ _ _ _ _ hc q => mul_int q hc
def CFd (_ j : Int) : Prop := j ≠ 0 ∧ j.natAbs.log2 < 9000
theorem zM : OpR X (binaryOp .FloorDiv) (rI CFd fun i j => .int (i.fdiv j)) := opI fun _ _ _ _ _ _ _ hc q => floordiv_int hc.1 q (.inl (PyProof.noPylong_of_log2 hc.2))
theorem Qj : OpR X (compareOp .Lt) (rI0 fun i j => .bl (decide (i < j))) := op_lt
theorem xk : OpR X (compareOp .Gt) (rI0 fun i j => .bl (decide (j < i))) := op_gt
theorem mul_okL {i j : Int} (h1 : -(2 ^ 64) < i) (h2 : i < 2 ^ 64) : IntMulOk i j := PySem.IntMulOk.of_left (PySem.intBits_le_64 h1 h2)
theorem mul_okR {i j : Int} (h1 : -(2 ^ 64) < j) (h2 : j < 2 ^ 64) : IntMulOk i j := PySem.IntMulOk.of_right (PySem.intBits_le_64 h1 h2)
theorem fd_ok {i j : Int} (h1 : 0 < j) (h2 : j.natAbs < 2 ^ 8999) : CFd i j := ⟨by omega, by
 have := (Nat.log2_lt (n := j.natAbs) (k := 8999) (by omega)).mpr h2
 omega⟩
theorem fdiv_pos {i j : Int} (h : 0 < j) : i.fdiv j = i / j := Int.fdiv_eq_ediv_of_nonneg i (Int.le_of_lt h)
def qK : List V → List V → Bool
 | [], [] => true
 | x :: xs, y :: ys => eqV x y && qK xs ys
 | _, _ => false
theorem je : ∀ {xs ys : List V}, xs.length ≠ ys.length → qK xs ys = false
 | [], [], h => absurd rfl h
 | [], _ :: _, _ => rfl
 | _ :: _, [], _ => rfl
 | x :: xs, y :: ys, h => by
  have := je (xs := xs) (ys := ys) (fun e => h (by simp [e]))
  unfold qK
  rw [this, Bool.and_false]
theorem jf : ∀ {xs ys : List V}, xs.length = ys.length → (List.range xs.length).all (fun j => eqV (xs.getD j .non) (ys.getD j .non)) = qK xs ys
 | [], [], _ => rfl
 | [], _ :: _, h => by simp at h
 | _ :: _, [], h => by simp at h
 | x :: xs, y :: ys, h => by
  have ih := jf (xs := xs) (ys := ys) (by simpa using h)
  unfold qK
  rw [← ih, List.length_cons, List.range_succ_eq_map, List.all_cons, List.all_map]
  rfl
theorem Vals.getD : ∀ {xs : List V} {us : List Value} {j : Nat} (h : j < us.length), Vals xs us → RelV (xs.getD j .non) us[j]
 | _, _, 0, _, .cons r _ => r
 | _, _, j + 1, h, .cons _ t => Vals.getD (j := j) (by simpa using h) t
theorem qJ {xs : List V} (f : xs.all qL = true) (j : Nat) : qL (xs.getD j .non) = true := by
 rw [List.getD_eq_getElem?_getD]
 cases e : xs[j]? with
 | none => rfl
 | some x => exact List.all_eq_true.mp f x (List.mem_of_getElem? e)
def rEqS (K : PySem.W.Frag) (neg : Bool) : R2 := fun x y H Q => ∃ a b xs ys, x = .ref a ∧ y = .ref b ∧ ((SqL K H a xs ∧ SqL K H b ys) ∨ (SqT K H a xs ∧ SqT K H b ys)) ∧ xs.all qL = true ∧ ys.all qL = true ∧ Q (.bl (if neg then !qK xs ys else qK xs ys)) H
theorem op_eq_seq (hu : X.A.units < cLine) : OpR X (compareOp .Eq) (rEqS X.K false) := by
 intro pins s σ H x y v u Q I rx ry h
 obtain ⟨a, b, xs, ys, rfl, rfl, hq, fx, fy, q⟩ := h
 cases rx
 cases ry
 have fin : EP X pins σ Q (.bool (qK xs ys)) s := ⟨.bl (qK xs ys), H, I, rfl, q⟩
 rcases hq with ⟨h1, h2⟩ | ⟨h1, h2⟩
 ·obtain ⟨its, r, p, _⟩ := I.list h1
  obtain ⟨its2, r2, p2, _⟩ := I.list h2
  have e1 := r.length
  have e2 := r2.length
  by_cases hl : xs.length = ys.length
  ·refine SeqAt.RcAt.lists (e := fun j => eqV (xs.getD j .non) (ys.getD j .non)) p.isList p2.isList (by simp only [List.size_toArray]; omega) hu (fun j h1 h2 => ?_) _ _ _ _ ?_
   ·exact xI (Vals.getD (by simpa using h1) r) (Vals.getD (by simpa using h2) r2) (qJ fx j) (qJ fy j)
   ·rw [List.size_toArray, ← e1, jf hl]; exact fin
  ·rw [je hl] at fin
   exact SeqAt.RcAt.lists_lengths p.isList p2.isList (by simp only [List.size_toArray]; simp; omega) hu _ _ _ _ fin
 ·obtain ⟨its, r, p, _⟩ := I.tuple h1
  obtain ⟨its2, r2, p2, _⟩ := I.tuple h2
  have e1 := r.length
  have e2 := r2.length
  refine SeqAt.RcAt.tuples (e := fun j => eqV (xs.getD j .non) (ys.getD j .non)) p p2 hu (fun j h1 h2 => ?_) _ _ _ _ ?_
  ·exact xI (Vals.getD (by simpa using h1) r) (Vals.getD (by simpa using h2) r2) (qJ fx j) (qJ fy j)
  ·by_cases hl : xs.length = ys.length
   ·have em : min its.toArray.size its2.toArray.size = xs.length := by simp only [List.size_toArray]; omega
    have es : (its.toArray.size == its2.toArray.size) = true := by simp only [List.size_toArray]; rw [beq_iff_eq]; omega
    rw [em, es, jf hl, Bool.and_true]; exact fin
   ·have es : (its.toArray.size == its2.toArray.size) = false := by simp only [List.size_toArray]; rw [beq_eq_false_iff_ne]; omega
    rw [es, Bool.and_false]
    rw [je hl] at fin
    exact fin
theorem op_ne_seq (hu : X.A.units < cLine) : OpR X (compareOp .NotEq) (rEqS X.K true) := by
 intro pins s σ H x y v u Q I rx ry h
 obtain ⟨a, b, xs, ys, rfl, rfl, hq, fx, fy, q⟩ := h
 cases rx
 cases ry
 have fin : EP X pins σ Q (.bool (!qK xs ys)) s := ⟨.bl (!qK xs ys), H, I, rfl, q⟩
 rcases hq with ⟨h1, h2⟩ | ⟨h1, h2⟩
 ·obtain ⟨its, r, p, _⟩ := I.list h1
  obtain ⟨its2, r2, p2, _⟩ := I.list h2
  have e1 := r.length
  have e2 := r2.length
  by_cases hl : xs.length = ys.length
  ·refine SeqAt.RcNeAt.lists (e := fun j => eqV (xs.getD j .non) (ys.getD j .non)) p.isList p2.isList (by simp only [List.size_toArray]; omega) hu (fun j h1 h2 => ?_) _ _ _ _ ?_
   ·exact xI (Vals.getD (by simpa using h1) r) (Vals.getD (by simpa using h2) r2) (qJ fx j) (qJ fy j)
   ·rw [List.size_toArray, ← e1, jf hl]; exact fin
  ·rw [je hl] at fin
   exact SeqAt.RcNeAt.lists_lengths p.isList p2.isList (by simp only [List.size_toArray]; simp; omega) hu _ _ _ _ fin
 ·obtain ⟨its, r, p, _⟩ := I.tuple h1
  obtain ⟨its2, r2, p2, _⟩ := I.tuple h2
  have e1 := r.length
  have e2 := r2.length
  refine SeqAt.RcNeAt.tuples (e := fun j => eqV (xs.getD j .non) (ys.getD j .non)) p p2 hu (fun j h1 h2 => ?_) _ _ _ _ ?_
  ·exact xI (Vals.getD (by simpa using h1) r) (Vals.getD (by simpa using h2) r2) (qJ fx j) (qJ fy j)
  ·by_cases hl : xs.length = ys.length
   ·have em : min its.toArray.size its2.toArray.size = xs.length := by simp only [List.size_toArray]; omega
    have es : (its.toArray.size == its2.toArray.size) = true := by simp only [List.size_toArray]; rw [beq_iff_eq]; omega
    rw [em, es, jf hl, Bool.and_true]; exact fin
   ·have es : (its.toArray.size == its2.toArray.size) = false := by simp only [List.size_toArray]; rw [beq_eq_false_iff_ne]; omega
    rw [es, Bool.and_false]
    rw [je hl] at fin
    exact fin
inductive DE (K : PySem.W.Frag) (H : Hp) : Nat → V → V → Bool → Prop
 | flat {n : Nat} {x y : V} : qL x = true → qL y = true → DE K H n x y (eqV x y)
 | same {n : Nat} {p : Addr} : DE K H n (.ref p) (.ref p) true
 | lists {n : Nat} {p q : Addr} {xs ys : List V} {e : Nat → Bool} : p ≠ q → SqL K H p xs → SqL K H q ys → xs.length = ys.length → (∀ j x y, xs[j]? = some x → ys[j]? = some y → DE K H n x y (e j)) → DE K H (n + 1) (.ref p) (.ref q) ((List.range xs.length).all e)
 | listsL {n : Nat} {p q : Addr} {xs ys : List V} : p ≠ q → SqL K H p xs → SqL K H q ys → xs.length ≠ ys.length → DE K H (n + 1) (.ref p) (.ref q) false
 | tuples {n : Nat} {p q : Addr} {xs ys : List V} {e : Nat → Bool} : p ≠ q → SqT K H p xs → SqT K H q ys → (∀ j x y, xs[j]? = some x → ys[j]? = some y → DE K H n x y (e j)) → DE K H (n + 1) (.ref p) (.ref q) ((List.range (min xs.length ys.length)).all e && xs.length == ys.length)
theorem Vals.at_ {xs : List V} {us : List Value} (r : Vals xs us) {j : Nat} (h : j < us.toArray.size) : ∃ x, xs[j]? = some x ∧ RelV x us.toArray[j] := by
 have h' : j < us.length := by simpa using h
 have hl : j < xs.length := by rw [r.length]; exact h'
 obtain ⟨u, hu, ru⟩ := r.get (List.getElem?_eq_getElem hl)
 have e : us.toArray[j] = u := by
  have := List.getElem?_eq_some_iff.mp hu
  obtain ⟨_, e⟩ := this
  simpa using e
 exact ⟨xs[j], List.getElem?_eq_getElem hl, e ▸ ru⟩
theorem ZW {pins : List (Addr × Obj)} {s : Shared} {σ : St} {H : Hp} {n : Nat} {x y : V} {b : Bool} (I : Inv X pins σ H s) (h : DE X.K H n x y b) : ∀ {u v : Value} {A : Around}, RelV x u → RelV y v → A.units + n < cLine → SeqAt.EqAt A s u v b := by
 induction h with
 | flat fx fy => intro u v A rx ry _; exact xI rx ry fx fy
 | same => intro u v A rx ry _; cases rx; cases ry; exact SeqAt.EqAt.same _
 | lists hne h1 h2 hl _ ih =>
  intro u v A rx ry hu
  cases rx; cases ry
  obtain ⟨its, r, p, _⟩ := I.list h1
  obtain ⟨its2, r2, p2, _⟩ := I.list h2
  have e1 := r.length
  have e2 := r2.length
  refine SeqAt.EqAt.of_refs hne ?_
  have := SeqAt.RcAt.lists (A := A) (s := s) p.isList p2.isList (by simp only [List.size_toArray]; omega) (by omega) (fun j h1 h2 => by
   obtain ⟨x, hx, rx⟩ := r.at_ h1
   obtain ⟨y, hy, ry⟩ := r2.at_ h2
   exact ih j x y hx hy rx ry (by show A.units + 1 + _ < _; omega))
  rw [List.size_toArray, ← e1] at this
  exact this
 | listsL hne h1 h2 hl =>
  intro u v A rx ry hu
  cases rx; cases ry
  obtain ⟨its, r, p, _⟩ := I.list h1
  obtain ⟨its2, r2, p2, _⟩ := I.list h2
  have e1 := r.length
  have e2 := r2.length
  exact SeqAt.EqAt.of_refs hne (SeqAt.RcAt.lists_lengths p.isList p2.isList (by simp only [List.size_toArray]; simp; omega) (by omega))
 | tuples hne h1 h2 _ ih =>
  intro u v A rx ry hu
  cases rx; cases ry
  obtain ⟨its, r, p, _⟩ := I.tuple h1
  obtain ⟨its2, r2, p2, _⟩ := I.tuple h2
  have e1 := r.length
  have e2 := r2.length
  refine SeqAt.EqAt.of_refs hne ?_
  have := SeqAt.RcAt.tuples (A := A) (s := s) p p2 (by omega) (fun j h1 h2 => by
   obtain ⟨x, hx, rx⟩ := r.at_ h1
   obtain ⟨y, hy, ry⟩ := r2.at_ h2
   exact ih j x y hx hy rx ry (by show A.units + 1 + _ < _; omega))
  simp only [List.size_toArray, ← e1, ← e2] at this
  exact this
def rEqD (K : PySem.W.Frag) (neg : Bool) : R2 := fun x y H Q => ∃ p q xs ys n e, x = .ref p ∧ y = .ref q ∧ n ≤ 8 ∧ (∀ j x y, xs[j]? = some x → ys[j]? = some y → DE K H n x y (e j)) ∧
 ((SqL K H p xs ∧ SqL K H q ys ∧ xs.length = ys.length ∧ Q (.bl (if neg then !((List.range xs.length).all e) else (List.range xs.length).all e)) H) ∨
   (SqT K H p xs ∧ SqT K H q ys ∧ Q (.bl (if neg then !((List.range (min xs.length ys.length)).all e && xs.length == ys.length) else ((List.range (min xs.length ys.length)).all e && xs.length == ys.length))) H))
theorem op_eq_deep (hu : X.A.units + 100 < cLine) : OpR X (compareOp .Eq) (rEqD X.K false) := by
 intro pins s σ H x y v u Q I rx ry h
 obtain ⟨p, q, xs, ys, n, e, rfl, rfl, hn, hde, h⟩ := h
 cases rx
 cases ry
 rcases h with ⟨h1, h2, hl, q⟩ | ⟨h1, h2, q⟩
 ·obtain ⟨its, r, p, _⟩ := I.list h1
  obtain ⟨its2, r2, p2, _⟩ := I.list h2
  have e1 := r.length
  have e2 := r2.length
  refine SeqAt.RcAt.lists (e := e) p.isList p2.isList (by simp only [List.size_toArray]; omega) (by omega) (fun j h1 h2 => ?_) _ _ _ _ ?_
  ·obtain ⟨x, hx, rx⟩ := r.at_ h1
   obtain ⟨y, hy, ry⟩ := r2.at_ h2
   exact ZW I (hde j x y hx hy) rx ry (by show X.A.units + 1 + _ < _; omega)
  ·rw [List.size_toArray, ← e1]; exact ⟨.bl _, H, I, rfl, q⟩
 ·obtain ⟨its, r, p, _⟩ := I.tuple h1
  obtain ⟨its2, r2, p2, _⟩ := I.tuple h2
  have e1 := r.length
  have e2 := r2.length
  refine SeqAt.RcAt.tuples (e := e) p p2 (by omega) (fun j h1 h2 => ?_) _ _ _ _ ?_
  ·obtain ⟨x, hx, rx⟩ := r.at_ h1
   obtain ⟨y, hy, ry⟩ := r2.at_ h2
   exact ZW I (hde j x y hx hy) rx ry (by show X.A.units + 1 + _ < _; omega)
  ·simp only [List.size_toArray, ← e1, ← e2]; exact ⟨.bl _, H, I, rfl, q⟩
theorem op_ne_deep (hu : X.A.units + 100 < cLine) : OpR X (compareOp .NotEq) (rEqD X.K true) := by
 intro pins s σ H x y v u Q I rx ry h
 obtain ⟨p, q, xs, ys, n, e, rfl, rfl, hn, hde, h⟩ := h
 cases rx
 cases ry
 rcases h with ⟨h1, h2, hl, q⟩ | ⟨h1, h2, q⟩
 ·obtain ⟨its, r, p, _⟩ := I.list h1
  obtain ⟨its2, r2, p2, _⟩ := I.list h2
  have e1 := r.length
  have e2 := r2.length
  refine SeqAt.RcNeAt.lists (e := e) p.isList p2.isList (by simp only [List.size_toArray]; omega) (by omega) (fun j h1 h2 => ?_) _ _ _ _ ?_
  ·obtain ⟨x, hx, rx⟩ := r.at_ h1
   obtain ⟨y, hy, ry⟩ := r2.at_ h2
   exact ZW I (hde j x y hx hy) rx ry (by show X.A.units + 1 + _ < _; omega)
  ·rw [List.size_toArray, ← e1]; exact ⟨.bl _, H, I, rfl, q⟩
 ·obtain ⟨its, r, p, _⟩ := I.tuple h1
  obtain ⟨its2, r2, p2, _⟩ := I.tuple h2
  have e1 := r.length
  have e2 := r2.length
  refine SeqAt.RcNeAt.tuples (e := e) p p2 (by omega) (fun j h1 h2 => ?_) _ _ _ _ ?_
  ·obtain ⟨x, hx, rx⟩ := r.at_ h1
   obtain ⟨y, hy, ry⟩ := r2.at_ h2
   exact ZW I (hde j x y hx hy) rx ry (by show X.A.units + 1 + _ < _; omega)
  ·simp only [List.size_toArray, ← e1, ← e2]; exact ⟨.bl _, H, I, rfl, q⟩
def rEqG (K : PySem.W.Frag) : R2 := fun x y H Q => rEq x y H Q ∨ rEqS K false x y H Q ∨ rEqD K false x y H Q
def rNeG (K : PySem.W.Frag) : R2 := fun x y H Q => rNe x y H Q ∨ rEqS K true x y H Q ∨ rEqD K true x y H Q
theorem zK (hu : X.A.units + 100 < cLine) : OpR X (compareOp .Eq) (rEqG X.K) := op_eq.or ((op_eq_seq (by omega)).or (op_eq_deep hu))
theorem w4 (hu : X.A.units + 100 < cLine) : OpR X (compareOp .NotEq) (rNeG X.K) := op_ne.or ((op_ne_seq (by omega)).or (op_ne_deep hu))
theorem Room.units1 {k : Nat} {A : Around} (r : Room k A) : A.units + 100 < cLine := by have := r.un; omega
def clsV : V → Option Value
 | .ty n => some (.type n)
 | .ref a => some (.ref a)
 | _ => none
theorem zC : bootBuiltins "len" = some (.builtin "len") := by decide +kernel
theorem zr : bootBuiltins "isinstance" = some (.builtin "isinstance") := by decide +kernel
theorem bo_all : bootBuiltins "all" = some (.builtin "all") := by decide +kernel
theorem bo_sorted : bootBuiltins "sorted" = some (.builtin "sorted") := by decide +kernel
theorem vD : bootBuiltins "str" = some (.type "str") := by decide +kernel
theorem Qg : bootBuiltins "int" = some (.type "int") := by decide +kernel
theorem qO : bootBuiltins "list" = some (.type "list") := by decide +kernel
theorem bo_bool : bootBuiltins "bool" = some (.type "bool") := by decide +kernel
theorem xU {K : PySem.W.Frag} : PySem.W.kitOne K (.type "int") (.type "int") = some true := by rfl
theorem xo {K : PySem.W.Frag} : PySem.W.kitOne K (.type "int") (.type "bool") = some false := by rfl
theorem jS {K : PySem.W.Frag} : PySem.W.kitOne K (.type "bool") (.type "bool") = some true := by rfl
theorem xT {K : PySem.W.Frag} : PySem.W.kitOne K (.type "str") (.type "str") = some true := by rfl
theorem ix_any : IxR X (rIx X.K) := ix_seq
theorem zD : CallR X (.builtin "len") (fun xs H Q => ∃ x n, xs = [x] ∧ LenV X.K x H n ∧ Q (.int n) H) := call_len
end
end L2
namespace L2
open PySem PySem.Spec PyProof.Rows
abbrev bmV : List Value := [.type "ValueError", .type "Exception", .type "BaseException", .type "object"]
structure XC (K : PySem.W.Frag) (C : Addr) : Prop where
 q : PySem.W.excIn K C bmV "ValueError.__new__" = true
theorem xc_obj {K : PySem.W.Frag} {C : Addr} {h₀ : Heap} (X : K.In h₀) (x : XC K C) : ∃ bm N nm q bs hdct sn sub ab col dd k0 k1 k2 k3 k5 mN, h₀.get? C = some (excClassObj nm q C N bs bm hdct sn sub ab col dd k0 k1 k2 k3 k5 "ValueError.__new__") ∧ h₀.Ns N mN ∧ mN "__init__" = none ∧ OwnTail h₀ bmV bm := by
 have q := x.q
 unfold PySem.W.excIn at q
 split at q
 ·rename_i dd cd sl ho
  split at q
  ·rename_i C' bm k0 k1 k2 k3 n k5 hm hs
   simp only [Bool.and_eq_true, beq_iff_eq, Bool.not_eq_true'] at q
   obtain ⟨⟨⟨⟨⟨rfl, rfl⟩, hdel⟩, ht⟩, hok⟩, hni⟩ := q
   obtain ⟨nm, bs, mro, ns, qn, hd, sn, sub, ab, col, del⟩ := cd
   dsimp only at hm hdel hok hni
   subst hm hdel
   have hsl : sl = #[k0, k1, k2, k3, some (.builtin "ValueError.__new__"), k5] := by
    obtain ⟨l⟩ := sl
    simp only at hs
    rw [hs]
   subst hsl
   exact ⟨bm, ns, nm, qn, bs, hd, sn, sub, ab, col, dd, k0, k1, k2, k3, k5, _, X _ _ ho, .of_isNs (PySem.W.isNs_of_in X hok), PySem.W.nsMap_none_of_in X hok hni, PySem.W.tail_of_in X ht⟩
  ·cases q
 ·cases q
section
variable {X : Cx} {G : GK} {x n : Str} {np cpos pos hpos : Pos} {e₀ : Expr} {es : List Expr} {t : TA}
def tRaise (X : Cx) (x : Str) (G : GK) (t : TA) : TS := fun _ σ H => ∃ C, X.mg x = some (.ref C) ∧ XC X.K C ∧ t σ H fun vs H1 => vs.length ≤ sizeLine ∧ G (.ref C) σ H1
theorem qu (B : Bod X) (hc : X.calm = true) (ha : PA (X.exg G) (e₀ :: es) t) (hg : Gl X x := by rfl) (hdb : (x == ("__debug__" : Str)) = false := by decide)
  (he : starEach (e₀ :: es) X.env = (false, eval e₀ X.env) :: starEach es X.env := by rfl) (hpl : (backTo cpos (starEach es X.env)).any (·.1) = false := by rfl) :
  PS (X.exg G) (.Raise (some (.Call (.Name x np) (e₀ :: es) [] cpos)) none pos) (tRaise X x G t) := by
 intro pins s σ H D I h
 obtain ⟨C, hm, xc, h⟩ := h
 obtain ⟨tl, N, nm, q, bs, hdct, sn, sub, ab, col, dd, k0, k1, k2, k3, k5, mN, hC, hN, hni, T⟩ := xc_obj I.ok.mod.kin xc
 refine wpAny_Raise_call_subT (C := C) (nm := nm) (q := q) (N := N) (bs := bs) (bm := tl) (hdct := hdct) (sn := sn) (sub := sub) (ab := ab) (col := col) (dd := dd) (k0 := k0) (k1 := k1) (k2 := k2) (k3 := k3) (k5 := k5)
  F.excBase_ValueError (mN := mN) (T.hasType F.excBase_ValueError.hasBase) (I.ok.hd hc) (by rw [he]; show (false || (backTo cpos (starEach es X.env)).any (·.1)) = false; rw [hpl]; rfl) hni (qE I hg hm ⟨rfl, ?_⟩ hdb)
 have hA := ha cpos pins s σ H _ I h
 rw [he] at hA ⊢
 refine Calls.evalArgs_plain (thn hA fun us s2 ⟨vs, H2, I2, r, hl, g⟩ => ?_)
 exact ⟨rfl, by rw [← r.length]; exact hl, I2.bk _ _ hC, hN.keeps I2.bk, T.keeps I2.bk, fun h' a hm => xeG_of_new B I2.unwish hm g⟩
end
def excO (a : Addr) (cls : Value) : HO := .ext fun h => ∃ o vs, h.get? a = some o ∧ o.cls = cls ∧ o.dict = none ∧ o.data = .fields vs
theorem Exc.obj {g h : Heap} {H : Hp} {pn : List (Addr × Obj)} {a : Addr} {cls : Value} (x : Exc g h H pn a cls) : ∃ o vs, h.get? a = some o ∧ o.cls = cls ∧ o.dict = none ∧ o.data = .fields vs :=
 let ⟨oe, vs, _, _, _, h1, h2, h3, h4, _⟩ := x.ex; ⟨oe, vs, h1, h2, h3, h4⟩
section
variable {X : Cx} {pins : List (Addr × Obj)} {σ : St} {H : Hp} {s : Shared}
theorem wH {M : Model} {A : Around} {E : Value → Shared → Prop} {a : Addr} {cls : Value} {Q : Unit → Shared → Prop} (I : Inv X pins σ H s) (x : Exc X.s₀.heap s.heap H (X.pn ++ pins) a cls)
  (hQ : ∀ s', Inv X pins σ H s' → Exc X.s₀.heap s'.heap H (X.pn ++ pins) a cls → Q () s') : wpAny M A (setFlight (.ref a) none) Q E s := by
 obtain ⟨⟨oe, vs, T, oT, ts, h1, h2, h3, h4, h5, h6, h7, h8, h9, h10, h11, h12⟩, ga, Ha, pa⟩ := x
 have h3s : 3 < ts.size := (Array.getElem?_eq_some_iff.mp h9).1
 refine wpAny_setFlight_none h1 h4 h5 h7 h8 h3s ?_
 have hT := Heap.get?_update_self (Obj.mapFields (·.setIfInBounds 3 Value.none)) h7 (Obj.isFreed_of_fields (Obj.data_mapFields h8 _))
 have other : ∀ b, b ≠ T → (s.heap.update T (Obj.mapFields (·.setIfInBounds 3 Value.none))).get? b = s.heap.get? b := fun b hb => Heap.get?_update_other _ _ (Ne.symm hb)
 refine hQ _ (I.stepx (ch := [T]) (fun b hb => ?_) (fun b hb => ?_) (fun b o _ hc q => (other b (fun z => hc (by simp [z]))).trans q) (fun b o hc q => ⟨o.slots, (other b (fun z => hc (by simp [z]))).trans q⟩) fun b hb => ?_)
  ⟨⟨oe, vs, T, _, _, (other a (Ne.symm h6)).trans h1, h2, h3, h4, h5, h6, hT, Obj.data_mapFields h8 _, by simp [h3s], h10, h11, h12⟩, ga, Ha, pa⟩
 ·obtain rfl : b = T := by simpa using hb
  exact ⟨h10, h11, h12⟩
 ·obtain rfl : b = T := by simpa using hb
  exact ⟨oT, ts, h7, h8⟩
 ·obtain rfl : b = T := by simpa using hb
  exact ⟨_, hT⟩
end
abbrev Cx.suite (X : Cx) (pn : List (Addr × Obj)) (a : Addr) : Cx := { X with pn := pn, A := X.A.mark (some (.ref a)), calm := false, xe := fun _ _ => False }
abbrev Cx.pinned (X : Cx) (pn : List (Addr × Obj)) : Cx := { X with pn := pn }
section
variable {X : Cx} {pins : List (Addr × Obj)} {σ : St} {H : Hp} {s : Shared}
theorem Inv.topn (I : Inv X pins σ H s) : Inv (X.pinned (X.pn ++ pins)) [] σ H s :=
 ⟨⟨I.ok.mod, I.ok.kind, I.ok.glob, I.ok.blt, I.ok.above, I.ok.inj, I.ok.has, I.ok.cab, I.ok.hd, I.ok.frames, I.ok.stk, I.ok.exf, I.ok.bs, I.ok.bsz, I.ok.noex, I.ok.exfs, I.ok.funs, I.ok.frf⟩,
  I.os, I.bare, I.base, I.loc, I.cell, I.free, I.freeC, fun p hp => I.pin p (by rwa [List.append_nil] at hp), I.hok, I.len⟩
theorem Inv.ofpn (I : Inv (X.pinned (X.pn ++ pins)) [] σ H s) : Inv X pins σ H s :=
 ⟨⟨I.ok.mod, I.ok.kind, I.ok.glob, I.ok.blt, I.ok.above, I.ok.inj, I.ok.has, I.ok.cab, I.ok.hd, I.ok.frames, I.ok.stk, I.ok.exf, I.ok.bs, I.ok.bsz, I.ok.noex, I.ok.exfs, I.ok.funs, I.ok.frf⟩,
  I.os, I.bare, I.base, I.loc, I.cell, I.free, I.freeC, fun p hp => I.pin p (by rw [List.append_nil]; exact hp), I.hok, I.len⟩
theorem Inv.tosuite {pn : List (Addr × Obj)} {a : Addr} (I : Inv (X.pinned pn) [] σ H s) : Inv (X.suite pn a) [] σ H s :=
 ⟨⟨I.ok.mod, I.ok.kind, I.ok.glob, I.ok.blt, I.ok.above, I.ok.inj, I.ok.has, I.ok.cab, fun h => Bool.noConfusion h, I.ok.frames, I.ok.stk, I.ok.exf, I.ok.bs, I.ok.bsz, I.ok.noex, I.ok.exfs, I.ok.funs, I.ok.frf⟩,
  I.os, I.bare, I.base, I.loc, I.cell, I.free, I.freeC, I.pin, I.hok, I.len⟩
theorem Inv.ofsuite {pn : List (Addr × Obj)} {a : Addr} (hd : X.calm = true → X.A.handled = none) (I : Inv (X.suite pn a) [] σ H s) : Inv (X.pinned pn) [] σ H s :=
 ⟨⟨I.ok.mod, I.ok.kind, I.ok.glob, I.ok.blt, I.ok.above, I.ok.inj, I.ok.has, I.ok.cab, hd, I.ok.frames, I.ok.stk, I.ok.exf, I.ok.bs, I.ok.bsz, I.ok.noex, I.ok.exfs, I.ok.funs, I.ok.frf⟩,
  I.os, I.bare, I.base, I.loc, I.cell, I.free, I.freeC, I.pin, I.hok, I.len⟩
end
theorem jG {K : PySem.W.Frag} {M : Model} {A : Around} {E : Value → Shared → Prop} {s : Shared} {e C D : Addr} {oe : Obj} {b : Bool} {Q : Bool → Shared → Prop} (X : K.In s.heap) (he : s.heap.get? e = some oe) (hcls : oe.cls = .ref C)
  (k1 : PySem.W.kitCls K (.ref C) (.ref D) = some b) (k2 : PySem.W.subIn K (.ref D) (.type "BaseException") = some true) (hq : Q b s) : wpAny M A (excMatches (.ref e) (.ref D)) Q E s := by
 obtain ⟨L1, L2, L3⟩ := PySem.W.kit_cls (M := M) X k1
 have L4 := PySem.W.looks_subIn (M := M) X k2
 have f := tc_notTuple
 obtain ⟨hp, g, d, tk, os⟩ := s
 unfold excMatches
 repeat (first | (with_reducible refine wpAny_loadPart_at he ?_; rw [hcls]) | with_reducible refine L1.at ?_ | with_reducible refine L2.at ?_ | with_reducible refine L3.at ?_ | with_reducible refine L4.at ?_ | wp_step)
 cases b
 ·wp_walk
  exact hq
 ·wp_walk
  exact hq
section
variable {X : Cx} {G : GK} {x n : Str} {np pos hpos : Pos} {i : Nat} {body suite : List Stmt} {b₀ : Stmt} {tb : List (Addr × Obj) → GK → TS} {th : List (Addr × Obj) → Addr → TS}
def tTryAs (X : Cx) (i : Nat) (x : Str) (tb : List (Addr × Obj) → GK → TS) (th : List (Addr × Obj) → Addr → TS) : TS := fun D σ H => ∃ Dc, X.mg x = some (.ref Dc) ∧ PySem.W.subIn X.K (.ref Dc) (.type "BaseException") = some true ∧
 ∀ pn, tb pn (fun cls σ' H' => ∃ C, cls = .ref C ∧ PySem.W.kitCls X.K (.ref C) (.ref Dc) = some true ∧ ∀ a, H' a = none →
  th pn a { nx := fun σ2 H2 => D.nx (σ2.set i none) H2, rt := D.rt, bk := fun σ2 H2 => D.bk (σ2.set i none) H2, ct := fun σ2 H2 => D.ct (σ2.set i none) H2 } (σ'.set i (some (.ref a))) (upd H' a (excO a (.ref C)))) D σ H
end
structure FA (K : PySem.W.Frag) (mg : Str → Option Value) (x : Str) (st : Stmt) (ps : List Str) : Prop where
 ex : ∃ f fd, Fun K x x st f fd ∧ mg x = some (.ref f) ∧ Binds K fd ps []
theorem FA.cal {P : Program} {w : World} {K : PySem.W.Frag} {mg : Str → Option Value} {base : Heap} {x : Str} {st : Stmt} {ps : List Str} {k : Nat} {sp : Sp} (h : FA K mg x st ps) (ok : ∀ {f fd}, Fun K x x st f fd → FnOk P w K mg base (CXr P w) k f fd ps sp) :
  Cal P w K mg base x k ps [] sp := let ⟨f, fd, F, m, b⟩ := h.ex; ⟨f, fd, [], ok F, m, F.kp, b, .nil⟩
theorem fa_mk {K : PySem.W.Frag} {mg : Str → Option Value} {h : Heap} {x : Str} {st : Stmt} {ps : List Str} {f : Addr} {oc : Value} {od an : Option Addr} {osl : Array (Option Value)} {kV doc pm cdv ct : Value} (X : K.In h) (G : h.Ns mainGlobals mg)
  (a : PySem.W.nsIn K mainGlobals x = some (some (.ref f))) (l : K.lookup f = some ⟨oc, od, .func (PySem.W.fnOf x x (zU st) (zQ st) (zg st) .none kV doc pm an cdv ct), osl⟩)
  (c : PySem.W.codeIn K cdv x = true) (k : PySem.W.keepIn K (.ref f) = true)
  (hb : ∀ (kV doc pm : Value) (an : Option Addr) (cdv ct : Value) (us : List Value), us.length = ps.length → bindArgs (PySem.W.fnOf x x (zU st) (zQ st) (zg st) .none kV doc pm an cdv ct) ⟨us, []⟩ = pure (ps.zip us)) : FA K mg x st ps :=
 ⟨f, _, jo l c k, PySem.W.mg_of X G a, (jo l c k).binds hb⟩
theorem cxr_false {P : Program} {w : World} {H : Hp} {s : Shared} {e : Value} {s' : Shared} (h : CXr P w [] H s (fun _ _ _ => False) e s') : False := let ⟨_, _, _, _, _, _, _, _, _, z⟩ := h; z
end L2
namespace L2
open PySem PySem.Spec PySem.Calls PyProof.Rows
structure XI (K : PySem.W.Frag) (C : Addr) : Prop where
 ga : PySem.W.findIn K (.ref C) "__getattribute__" = some (some (.builtin "BaseException.__getattribute__"))
 gt : PySem.W.findIn K (.ref C) "__getattr__" = some none
 cl : PySem.W.findIn K (.ref C) "__class__" = some (some (.builtin "object.__class__"))
 hd : PySem.W.hasDictIn K C = true
 gn : PySem.W.specialIn K (.builtin "object.__class__") "__get__" = some (some (.builtin "getset_descriptor.__get__"))
 tk : PySem.W.takesIn K (.builtin "object.__class__") = some true
 mo : PySem.W.mroIn K C (.type "object") = some true
 mb : PySem.W.subIn K (.ref C) (.type "BaseException") = some true
section
variable {prog : Program} {w : World} {A : Around} {E : Value → Shared → Prop} {s : Shared} {K : PySem.W.Frag} {a C : Addr} {o : Obj} {vs : Array Value}
theorem Zg {hp : Heap} (hx : hp.get? a = some o) (hc : o.cls = .ref C) (hd : o.dict = none) (hv : o.data = .fields vs) : PySem.W.InstAt hp a o C none := by
 refine ⟨hx, hc, ?_, ?_⟩
 ·obtain ⟨c, d, dt, sl⟩ := o
  simp only at hv
  subst hv
  rfl
 ·rw [hd]
  trivial
theorem exc_class {Q : Option Value → Shared → Prop} (X : K.In s.heap) (f : XI K C) (hx : s.heap.get? a = some o) (hc : o.cls = .ref C) (hd : o.dict = none) (hv : o.data = .fields vs)
  (h : Q (some (.ref C)) { s with toks := s.toks + 1 }) : wpAny (model prog w) A (getAttr? (.ref a) "__class__") Q E s := by
 have I := Zg hx hc hd hv
 have hf : PySem.W.findObj K C none "__class__" = some (.bind (.builtin "getset_descriptor.__get__") (.builtin "object.__class__")) := by
   obtain ⟨cd, hcd, _⟩ := PySem.W.any_some f.hd
   simp [PySem.W.findObj, hcd, f.cl, f.gn, f.tk]
 obtain ⟨hh, g, d, t, os⟩ := s
 have T0 := I.type (M := model prog w)
 have T1 := PySem.W.looks_findIn (M := model prog w) X f.ga
 have T2 := PySem.W.looks_find (M := model prog w) X I hf
 have T3 := PySem.W.looks_findIn (M := model prog w) X f.gt
 have T4 := PySem.W.looks_subIn (M := model prog w) X f.mb
 have f3 := F.attr_ValueError.ga.bind (.ref a)
 unfold getAttr? getAttrBy? getAttrBy
 refine wpAny_bind (wpAny_mkText (wpAny_bind (wpAny_attempt (wpAny_holding (wpAny_bind (T0.at (wpAny_bind (T1.at ?_))))))))
 dsimp only
 have nga : (onTheHeap (Value.ref C) && Value.builtin "BaseException.__getattribute__" == Value.builtin "object.__getattribute__") = false := by
  have z : (Value.builtin "BaseException.__getattribute__" == Value.builtin "object.__getattribute__") = false := by decide +kernel
  rw [z, Bool.and_false]
 rw [nga, if_neg Bool.false_ne_true]
 unfold getAttrByItsOwn
 repeat (any_goals (first | assumption | with_reducible refine T0.at ?_ | with_reducible refine T3.at ?_ | with_reducible refine T1.at ?_ | wp_step))
 refine codeAny_call_builtin F.attr_ValueError.ga.plain F.entry_bexc_ga ?_
 have hk : builtinKind "BaseException.__getattribute__" = some .slot := by decide +kernel
 have hsp : splitId "BaseException.__getattribute__" = some ("BaseException", "__getattribute__") := by decide +kernel
 have hav := F.args_bexc_ga (.ref a) (Value.str (Str.ofString "__class__") t)
 simp only [checkBuiltinCall, hk, hsp]
 refine wpAny_bind ?_
 unfold isInstance
 repeat (first | with_reducible refine T2.at ?_ | with_reducible refine T0.at ?_ | with_reducible refine T4.at ?_ | wp_step)
 refine PySem.W.class_get (s := ⟨hh, g, d, t + 1, os⟩) (ox := o) (od := none) X I f.mo ?_
 refine wpAny_pure ?_
 refine PySem.W.handed_on rfl ?_
 exact wpAny_pure h
theorem kitx_exc {vs : Array Value} (f : XI K C) : PySem.W.KitX K (.ref a) (.ref C) (fun h => ∃ o vs, h.get? a = some o ∧ o.cls = .ref C ∧ o.dict = none ∧ o.data = .fields vs) where
 ty := fun M h _ ⟨o, vs, e, c, d, v⟩ => (Zg e c d v).type
 it := fun _ _ X _ => by
  obtain ⟨cd, hcd, _⟩ := PySem.W.any_some f.hd
  unfold PySem.W.clsIn at hcd
  split at hcd
  ·rename_i c' d' cd' sl' ho
   intro A' Q' E' s' k q
   unfold isType loadHead
   exact wpAny_bind (wpAny_loadPart (k _ _ (X _ _ ho)) (wpAny_pure q))
  ·cases hcd
 ne := fun h tp dd its n sl X htp => by
  obtain ⟨cd, hcd, _⟩ := PySem.W.any_some f.hd
  refine Bool.eq_false_iff.mpr fun q => ?_
  have e : C = tp := Value.ref.inj (beq_iff_eq.mp q)
  subst e
  unfold PySem.W.clsIn at hcd
  split at hcd
  ·rename_i ho
   have z := (X _ _ ho).symm.trans htp
   cases z
  ·cases hcd
 ca := fun X ⟨o, vs, e, c, d, v⟩ k => exc_class X f e c d v k
end
inductive TyX (K : PySem.W.Frag) (H : Hp) : V → Value → Prop where
 | old {x : V} {t : Value} (h : TyOf K H x t) : TyX K H x t
 | exc {a C : Addr} (h : H a = some (excO a (.ref C))) (f : XI K C) : TyX K H (.ref a) (.ref C)
def ZY : List V → Option (List Value)
 | [] => some []
 | c :: r => match clsV c, ZY r with
  | some u, some us => some (u :: us)
  | _, _ => none
theorem ZZ {c : V} {u v : Value} (h : clsV c = some u) (r : RelV c v) : v = u := by
 cases c with
 | ty n => cases r; exact Option.some.inj h
 | ref a => cases r; exact Option.some.inj h
 | _ => cases h
theorem Zi : ∀ {cs : List V} {us vs : List Value}, ZY cs = some us → Vals cs vs → vs = us
 | [], _, _, h, .nil => Option.some.inj h
 | c :: r, us, v :: vs, h, .cons rc rr => by
  unfold ZY at h
  split at h
  ·rename_i u us' h1 h2
   cases h
   rw [ZZ h1 rc, Zi h2 rr]
  ·cases h
theorem kit_of {X : Cx} {pins : List (Addr × Obj)} {σ : St} {H : Hp} {s : Shared} {x : V} {u t : Value} (I : Inv X pins σ H s) (rx : RelV x u) (ty : TyX X.K H x t) :
  ∃ Hx : Heap → Prop, PySem.W.KitX X.K u t Hx ∧ Hx s.heap ∧ u ≠ .builtin "__main__.__loader__#opaque" := by
 cases ty with
 | @exc a C ea f =>
  cases (show u = Value.ref a from rx)
  obtain ⟨p, _⟩ := (show ObjOk X.prog X.w H s.heap a (excO a (.ref C)) from I.hok a _ ea)
  exact ⟨_, kitx_exc (vs := #[]) f, p, fun z => nomatch z⟩
 | old ty =>
  cases ty with
  | non => cases (show u = Value.none from rx); exact ⟨_, PySem.W.kitx_none, True.intro, fun z => nomatch z⟩
  | bl y => cases (show u = Value.bool y from rx); exact ⟨_, PySem.W.kitx_bool, True.intro, fun z => nomatch z⟩
  | int i => obtain ⟨t, q⟩ := (show ∃ t, u = Value.int i t from rx); cases q; exact ⟨_, PySem.W.kitx_int, True.intro, fun z => nomatch z⟩
  | str y => obtain ⟨t, q⟩ := (show ∃ t, u = Value.str y t from rx); cases q; exact ⟨_, PySem.W.kitx_str, True.intro, fun z => nomatch z⟩
  | flt y => obtain ⟨t, q⟩ := (show ∃ t, u = Value.float y t from rx); cases q; exact ⟨_, PySem.W.kitx_float, True.intro, fun z => nomatch z⟩
  | @lst a xs ea =>
   cases (show u = Value.ref a from rx)
   obtain ⟨_, _, n, _, h1⟩ := (show ObjOk X.prog X.w H s.heap a (.lst xs) from I.hok a _ ea)
   exact ⟨_, PySem.W.kitx_list, ⟨_, h1, rfl⟩, fun z => nomatch z⟩
  | @frz a ob xs ea =>
   cases (show u = Value.ref a from rx)
   obtain ⟨_, _, _, n, _, h1⟩ := (show ObjOk X.prog X.w H s.heap a (.frz ob (.lst xs)) from I.hok a _ ea)
   exact ⟨_, PySem.W.kitx_list, ⟨_, h1, rfl⟩, fun z => nomatch z⟩
  | @tup a xs ea =>
   cases (show u = Value.ref a from rx)
   obtain ⟨_, _, _, p⟩ := (show ObjOk X.prog X.w H s.heap a (.tup xs) from I.hok a _ ea)
   obtain ⟨o, h1, h2, _⟩ := p
   exact ⟨_, PySem.W.kitx_tuple, ⟨o, h1, h2⟩, fun z => nomatch z⟩
  | @dK a kvs ea =>
   cases (show u = Value.ref a from rx)
   obtain ⟨_, _, vs, _, p⟩ := (show ObjOk X.prog X.w H s.heap a (.dK kvs) from I.hok a _ ea)
   obtain ⟨o, es, ep, h1, h2, _⟩ := p
   exact ⟨_, PySem.W.kitx_dict, ⟨o, h1, h2.1⟩, fun z => nomatch z⟩
  | @dT a kvs ea =>
   cases (show u = Value.ref a from rx)
   obtain ⟨_, _, xs, _, o, es, ep, h1, h2, _⟩ := (show ObjOk X.prog X.w H s.heap a (.dT kvs) from I.hok a _ ea)
   exact ⟨_, PySem.W.kitx_dict, ⟨o, h1, h2.1⟩, fun z => nomatch z⟩
  | @ins a C dx fs ea cl ha hn htk hm =>
   cases (show u = Value.ref a from rx)
   obtain ⟨mA, O, _⟩ := wa I.hok ea
   obtain ⟨od, J, _⟩ := O.look
   exact ⟨_, PySem.W.kitx_own (cl.get _) cl.hd ha hn htk hm, J, fun z => nomatch z⟩
def rIsi (K : PySem.W.Frag) : List V → Hp → VK → Prop := fun xs H Q => ∃ x c t b, xs = [x, c] ∧ TyX K H x t ∧ ((∃ u, clsV c = some u ∧ PySem.W.kitOne K t u = some b) ∨ (∃ p cs us, c = .ref p ∧ H p = some (.tup cs) ∧ ZY cs = some us ∧ PySem.W.kitAny K t us = some b)) ∧ Q (.bl b) H
theorem qf {X : Cx} : CallR X (.builtin "isinstance") (rIsi X.K) := by
 intro pins s σ H xs us Q I r h
 obtain ⟨x, c, t, b, rfl, ty, hc, q⟩ := h
 obtain ⟨v, v2, rfl, rx, rc⟩ := r.two
 obtain ⟨Hx, Z, p, nx⟩ := kit_of I rx ty
 rcases hc with ⟨u, hu, e⟩ | ⟨pt, cs, us, rfl, hp, hu, e⟩
 ·obtain rfl := ZZ hu rc
  exact PySem.W.kia_one Z I.kIn p e nx fun tk => ⟨.bl b, H, I.tok tk, rfl, q⟩
 ·cases rc
  obtain ⟨_, its, rv, o, h1, h2, n, h3⟩ := (show ObjOk X.prog X.w H s.heap pt (.tup cs) from I.hok pt _ hp)
  obtain rfl := Zi hu rv
  obtain ⟨cl, dd, dt, sl⟩ := o
  simp only at h2 h3
  subst h2 h3
  exact PySem.W.kia_tup Z I.kIn p h1 e nx fun tk => ⟨.bl b, H, I.tok tk, rfl, q⟩
theorem qP {K : PySem.W.Frag} {t : Value} {D : Addr} {b : Bool} (h1 : PySem.W.hasDictIn K D = true) (h2 : PySem.W.typeIn K (.ref D) = some (.type "type")) (h3 : PySem.W.subIn K t (.ref D) = some b) : PySem.W.kitCls K t (.ref D) = some b := by
 obtain ⟨cd, hcd, _⟩ := PySem.W.any_some h1
 simp [PySem.W.kitCls, hcd, h2, h3]
structure FK (K : PySem.W.Frag) (C : Addr) (qual : Str) (st : Stmt) (ps : List Str) : Prop where
 ex : ∃ f fd, Fun K "__init__" qual st f fd ∧ Mk K C f ∧ Binds K fd ps []
structure FM (K : PySem.W.Frag) (C : Addr) (m qual : Str) (st : Stmt) (ps : List Str) : Prop where
 ex : ∃ f fd, Fun K m qual st f fd ∧ Meth K C m f ∧ Binds K fd ps []
theorem FK.cal {P : Program} {w : World} {K : PySem.W.Frag} {mg : Str → Option Value} {base : Heap} {x : Str} {C : Addr} {qual : Str} {st : Stmt} {ps : List Str} {k : Nat} {sp : Sp} (h : FK K C qual st ps) (gl : mg x = some (.ref C))
  (ok : ∀ {f fd}, Fun K "__init__" qual st f fd → FnOk P w K mg base (CXr P w) k f fd ps sp) : KCal P w K mg base x C k ps [] sp := let ⟨f, fd, F, m, b⟩ := h.ex; ⟨gl, f, fd, [], ok F, m, b, .nil⟩
theorem FM.cal {P : Program} {w : World} {K : PySem.W.Frag} {mg : Str → Option Value} {base : Heap} {C : Addr} {m qual : Str} {st : Stmt} {ps : List Str} {k : Nat} {sp : Sp} (h : FM K C m qual st ps) (cl : Cls K C)
  (ok : ∀ {f fd}, Fun K m qual st f fd → FnOk P w K mg base (CXr P w) k f fd ps sp) : MCal P w K mg base C m k ps [] sp := let ⟨f, fd, F, mm, b⟩ := h.ex; ⟨cl, f, fd, [], ok F, mm, b, .nil⟩
theorem Qm {K : PySem.W.Frag} {C : Addr} {qual : Str} {st : Stmt} {ps : List Str} {f : Addr} {oc : Value} {od an : Option Addr} {osl : Array (Option Value)} {kV doc pm cdv ct : Value} (mk : PySem.W.makesIn K C = true) (kc : PySem.W.keepIn K (.ref C) = true)
  (a : PySem.W.findIn K (.ref C) "__init__" = some (some (.ref f))) (i : PySem.W.isFn K (.ref f) = true) (l : K.lookup f = some ⟨oc, od, .func (PySem.W.fnOf "__init__" qual (zU st) (zQ st) (zg st) .none kV doc pm an cdv ct), osl⟩)
  (c : PySem.W.codeIn K cdv qual = true) (k : PySem.W.keepIn K (.ref f) = true)
  (hb : ∀ (kV doc pm : Value) (an : Option Addr) (cdv ct : Value) (us : List Value), us.length = ps.length → bindArgs (PySem.W.fnOf "__init__" qual (zU st) (zQ st) (zg st) .none kV doc pm an cdv ct) ⟨us, []⟩ = pure (ps.zip us)) : FK K C qual st ps :=
 ⟨f, _, jo l c k, ⟨mk, a, i, kc⟩, (jo l c k).binds hb⟩
theorem fm_mk {K : PySem.W.Frag} {C : Addr} {m qual : Str} {st : Stmt} {ps : List Str} {f : Addr} {oc : Value} {od an : Option Addr} {osl : Array (Option Value)} {kV doc pm cdv ct : Value}
  (a : PySem.W.findIn K (.ref C) m = some (some (.ref f))) (i : PySem.W.isFn K (.ref f) = true) (l : K.lookup f = some ⟨oc, od, .func (PySem.W.fnOf m qual (zU st) (zQ st) (zg st) .none kV doc pm an cdv ct), osl⟩)
  (c : PySem.W.codeIn K cdv qual = true) (k : PySem.W.keepIn K (.ref f) = true)
  (hb : ∀ (kV doc pm : Value) (an : Option Addr) (cdv ct : Value) (us : List Value), us.length = ps.length → bindArgs (PySem.W.fnOf m qual (zU st) (zQ st) (zg st) .none kV doc pm an cdv ct) ⟨us, []⟩ = pure (ps.zip us)) : FM K C m qual st ps :=
 ⟨f, _, jo l c k, ⟨a, i, k⟩, (jo l c k).binds hb⟩
structure WI (K : PySem.W.Frag) (C : Addr) : Prop where
 c : PySem.W.findIn K (.ref C) "__class__" = some (some (.builtin "object.__class__"))
 m : PySem.W.mroIn K C (.type "object") = some true
 g : PySem.W.specialIn K (.builtin "object.__class__") "__get__" = some (some (.builtin "getset_descriptor.__get__"))
 t : PySem.W.takesIn K (.builtin "object.__class__") = some true
theorem WI.ty {K : PySem.W.Frag} {H : Hp} {a C dx : Addr} {fs : List (Str × V)} (f : WI K C) (cl : Cls K C) (h : H a = some (.ins C dx fs)) : TyX K H (.ref a) (.ref C) := .old (.ins h cl f.c f.g f.t f.m)
end L2
namespace L2
open PySem PySem.Spec PySem.Calls PyProof.Rows
section
variable {prog : Program} {w : World} {A : Around} {E : Value → Shared → Prop} {s : Shared}
end
section
variable {X : Cx} {a e : Expr} {ta : TA} {te : TE} {pos p kp : Pos}
def tSumK (X : Cx) (ta : TA) (te : TE) : TE := fun σ H Q => X.mg "sum" = none ∧ ta σ H fun vs H1 => te σ H1 fun y H2 => ∃ l ns c, vs = [.ref l] ∧ y = .int c ∧ SqL X.K H2 l (ns.map V.int) ∧ (c = 0 ∨ ns = []) ∧ Q (.int (c + ns.sum)) H2
theorem qm : SlR X (rSlL X.K) := sl_list
theorem xw : CallR X (.type "list") (fun xs H Q => ∃ p ys, xs = [.ref p] ∧ (SqL X.K H p ys ∨ SqT X.K H p ys) ∧ ∀ l, H l = none → Q (.ref l) (upd H l (.lst ys))) := call_list_of
end
end L2
namespace L2
open PySem PySem.Spec PySem.Calls PyProof.Rows
section
variable {X : Cx} {v v1 v2 : Expr} {es : List Expr} {te : TE} {pos p : Pos}
def tFv (te : TE) : TE := fun σ H Q => te σ H fun x H1 => (∃ i, x = .int i ∧ i.natAbs.log2 < 1920 ∧ Q (.str (toString i)) H1) ∨ (∃ y, x = .str y ∧ y.length ≤ sizeLine ∧ Q (.str y) H1)
abbrev TJ := Str → TE
def tJ0 : TJ := fun out _ H Q => out.length ≤ sizeLine ∧ Q (.str out) H
def tJ1 (te : TE) (t : TJ) : TJ := fun out σ H Q => te σ H fun x H1 => ∃ y, x = .str y ∧ (out ++ y).length ≤ sizeLine ∧ t (out ++ y) σ H1 Q
theorem vC : CallR X (.type "str") (fun xs H Q => ∃ i, xs = [.int i] ∧ i.natAbs.log2 < 1920 ∧ Q (.str (toString i)) H) := call_str_int
def tCut (t u : TS) : TS := fun D σ H => ∃ M : St → Hp → Prop, t { D with nx := M } σ H ∧ ∀ σ' H', M σ' H' → u D σ' H'
theorem qc {st : Stmt} {rest : List Stmt} {t u : TS} (h1 : PS X st t) (h2 : PSs X rest u) : PSs X (st :: rest) (tCut t u) := by
 intro pins s σ H D I ⟨M, ht, hu⟩
 refine wpAny_execs_cons (thn (h1 pins s σ H _ I ht) fun f s1 q => ?_)
 cases f with
 | next => exact let ⟨σ', H', I', q⟩ := q; h2 pins s1 σ' H' D I' (hu σ' H' q)
 | _ => exact q
def Qh (t u : TS) : TS := fun D σ H => tSeq t u D σ H
theorem zh {st : Stmt} {rest : List Stmt} {t u : TS} (h1 : PS X st t) (h2 : PSs X rest u) : PSs X (st :: rest) (Qh t u) := show PSs X (st :: rest) (tSeq t u) from zt h1 h2
structure Nx (N : St → Hp → Prop) (u : TS) (D : Ends) : Prop where
 h : ∀ σ H, u D σ H → N σ H
theorem nxt {t u : TS} {D : Ends} {σ : St} {H : Hp} (k : ∀ N, Nx N u D → t { D with nx := N } σ H) : Qh t u D σ H := k (u D) ⟨fun _ _ h => h⟩
theorem useN {N : St → Hp → Prop} {u : TS} {D : Ends} {σ : St} {H : Hp} (n : Nx N u D) (q : u D σ H) : N σ H := n.h σ H q
theorem cut {t u : TS} {D : Ends} {σ : St} {H : Hp} (M : St → Hp → Prop) (h1 : t { D with nx := M } σ H) (h2 : ∀ σ' H', M σ' H' → u D σ' H') : tCut t u D σ H := ⟨M, h1, h2⟩
end
end L2
namespace L2
open PySem PySem.Spec PySem.Calls PyProof.Rows
section
variable {X : Cx} {k : Nat} {x m : Str} {p pos apos : Pos} {e o : Expr} {es : List Expr} {ta : TE} {t : TA}
theorem Z8 : Zv (CXr X.prog X.w) X (fun _ _ _ => False) := fun _ _ _ _ _ _ _ h => let ⟨_, _, _, _, _, _, _, _, _, z⟩ := h; z.elim
def tClN (X : Cx) (k : Nat) (x : Str) (t : TA) : TE := fun σ H Q => ∃ ps dvs sp, Cal X.prog X.w X.K X.mg X.base x k ps dvs sp ∧ t σ H fun vs H1 => sp (vs ++ dvs) H1 Q (fun _ _ _ => False)
theorem vx (hr : Room k X.A) (ha : PA X (e :: es) t) (hg : Gl X x := by rfl) (hdb : (x == ("__debug__" : Str)) = false := by decide)
  (he : starEach (e :: es) X.env = (false, eval e X.env) :: starEach es X.env := by rfl) (hpl : (backTo pos (starEach es X.env)).any (·.1) = false := by rfl) :
  PE X (.Call (.Name x p) (e :: es) [] pos) (tClN X k x t) := by
 intro pins s σ H Q I h
 obtain ⟨ps, dvs, sp, ⟨f, fd, ds, F, hm, hk, hb, hd⟩, h⟩ := h
 refine wpAny_Call_Name_kw (qE I hg hm ?_ hdb)
 refine PySem.W.callWith_K (h₀ := X.base) I.ok.mod.kin hk (thn (ha pos pins s σ H _ I h) fun us s1 ⟨vs, H1, I1, r, q⟩ => ⟨I1.kIn, ?_⟩) he hpl
 exact Z4 F hr hb hd Z8 I1 r q
def tMkN (X : Cx) (k : Nat) (x : Str) (t : TA) : TE := fun σ H Q => ∃ C ps dvs sp, KCal X.prog X.w X.K X.mg X.base x C k ps dvs sp ∧ t σ H fun vs H1 => ∀ y dx, H1 y = none → H1 dx = none → dx ≠ y →
 sp (.ref y :: (vs ++ dvs)) (upd (upd H1 dx (.own y)) y (.ins C dx [])) (fun v H2 => v = .non ∧ Q (.ref y) H2) (fun _ _ _ => False)
theorem pe_mkN (hr : Room (k + 1) X.A) (ha : PA X (e :: es) t) (hg : Gl X x := by rfl) (hdb : (x == ("__debug__" : Str)) = false := by decide)
  (he : starEach (e :: es) X.env = (false, eval e X.env) :: starEach es X.env := by rfl) (hpl : (backTo pos (starEach es X.env)).any (·.1) = false := by rfl) :
  PE X (.Call (.Name x p) (e :: es) [] pos) (tMkN X k x t) := by
 intro pins s σ H Q I h
 obtain ⟨C, ps, dvs, sp, ⟨hm, f, fd, ds, F, M, hb, hd⟩, h⟩ := h
 refine wpAny_Call_Name_kw (qE I hg hm ?_ hdb)
 refine PySem.W.callWith_K (h₀ := X.base) I.ok.mod.kin M.kp (thn (ha pos pins s σ H _ I h) fun us s1 ⟨vs, H1, I1, r, q⟩ => ⟨I1.kIn, ?_⟩) he hpl
 exact run_make M F hr hb hd Z8 I1 r q
def tMthN (X : Cx) (k : Nat) (m : Str) (ta : TE) (t : TA) : TE := fun σ H Q => ta σ H fun y H1 => ∃ a C dx fs ps dvs sp, y = .ref a ∧ H1 a = some (.ins C dx fs) ∧ fs.lookup m = none ∧
 MCal X.prog X.w X.K X.mg X.base C m k ps dvs sp ∧ t σ H1 fun vs H2 => sp (.ref a :: (vs ++ dvs)) H2 Q (fun _ _ _ => False)
theorem pe_mthN0 {pl : Sem Bool} (hr : Room k X.A) (he : PE X o ta)
  (ht : eval (.Call (.Attribute o m apos) [] [] pos) X.env = (do
   let ov ← eval o X.env
   standAt apos.atName
   let (f, first) ← holding [ov] (getMethod ov m pl)
   callWith pos f first (backTo pos (starEach [] X.env)) (backToKw pos (keywordEach [] X.env))) := by rfl) :
  PE X (.Call (.Attribute o m apos) [] [] pos) (tMthN X k m ta tNil) := by
 intro pins s σ H Q I h
 refine PySem.W.methodCall_KW (pl := pl) (thn (he pins s σ H _ I h) fun u s1 hz => ?_) ht
 obtain ⟨x, H1, I1, rx, a, C, dx, fs, ps, dvs, sp, ex, ea, l, ⟨c, f, fd, ds, F, hm, hb, hd⟩, q⟩ := hz
 subst ex
 obtain rfl : u = Value.ref a := rx
 refine wF I1 ea c hm l ?_
 exact PySem.W.callWith_K0 (first := [.ref a]) I1.kIn hm.kp (Z4 (us := [.ref a]) (vs := [.ref a]) F hr hb hd Z8 I1 (.cons rfl .nil) q)
end
def qp (cells : List (Str × Addr)) : List (Str × NameKind) → List (Str × Addr) → List (Str × Addr)
 | [], cs => cs
 | (n, k) :: r, cs => if k = .free then qp cells r ((n, (cells.lookup n).getD 0) :: cs) else qp cells r cs
def clOk (cells : List (Str × Addr)) (ns : List (Str × NameKind)) : Prop := ∀ y ∈ ns, y.2 = .free → ∃ c, cells.lookup y.1 = some c
theorem jV {scope : Scope} {env : Env} (h : clOk env.cells scope.names) : closureFor scope env = pure (qp env.cells scope.names []) := by
 simp only [closureFor]
 have key : ∀ (ns : List (Str × NameKind)) (cs : List (Str × Addr)), clOk env.cells ns →
   (forIn ns cs fun x r => if (x.2 == NameKind.free) = true then do let c ← cellOf env x.1; pure (ForInStep.yield ((x.1, c) :: r)) else pure (ForInStep.yield r) : Sem (List (Str × Addr))) = pure (qp env.cells ns cs) := by
  intro ns
  induction ns with
  | nil => intro cs _; rfl
  | cons y r ih =>
   intro cs hc
   obtain ⟨n, k⟩ := y
   have hr : clOk env.cells r := fun z hz => hc z (List.mem_cons_of_mem _ hz)
   rw [List.forIn_cons]
   by_cases hk : k = .free
   ·subst hk
    obtain ⟨c, e⟩ := hc (n, .free) List.mem_cons_self rfl
    have e' : cellOf env n = pure c := by unfold cellOf; simp only at e; rw [e]
    simp only [beq_self_eq_true, if_true, e', pure_bind]
    rw [ih _ hr]
    simp only at e
    simp [qp, e]
   ·have hb : (k == NameKind.free) = false := by simpa using hk
    simp only [hb, Bool.false_eq_true, if_false, pure_bind]
    rw [ih _ hr]
    simp [qp, hk]
 have := key scope.names [] h
 first
  | exact this
  | (simp only [bind_pure] at *; exact this)
theorem j6 {cells : List (Str × Addr)} {x : Str} {c : Addr} : ∀ {ns : List (Str × NameKind)} {cs : List (Str × Addr)}, clOk cells ns → (∀ c, cs.lookup x = some c → cells.lookup x = some c) → (qp cells ns cs).lookup x = some c → cells.lookup x = some c
 | [], _, _, hs, h => hs c h
 | (n, k) :: r, cs, hc, hs, h => by
  have hr : clOk cells r := fun z hz => hc z (List.mem_cons_of_mem _ hz)
  unfold qp at h
  split at h
  ·rename_i hk
   obtain ⟨d, e⟩ := hc (n, k) List.mem_cons_self hk
   refine j6 hr (fun c' hc' => ?_) h
   rw [List.lookup_cons] at hc'
   split at hc'
   ·rename_i hx
    have hx : x = n := by simpa using hx
    subst hx
    simp only at e
    rw [e] at hc' ⊢
    exact hc'
   ·exact hs c' hc'
  ·exact j6 hr hs h
theorem jH {cells : List (Str × Addr)} {x : Str} : ∀ {ns : List (Str × NameKind)} {cs : List (Str × Addr)}, (∃ c, cs.lookup x = some c) → ∃ c, (qp cells ns cs).lookup x = some c
 | [], _, h => h
 | (n, k) :: r, cs, h => by
  unfold qp
  split
  ·refine jH ?_
   rw [List.lookup_cons]
   split
   ·exact ⟨_, rfl⟩
   ·exact h
  ·exact jH h
theorem j5 {cells : List (Str × Addr)} {x : Str} : ∀ {ns : List (Str × NameKind)} {cs : List (Str × Addr)}, (x, NameKind.free) ∈ ns → ∃ c, (qp cells ns cs).lookup x = some c
 | [], _, h => by simp at h
 | (n, k) :: r, cs, h => by
  unfold qp
  rcases List.mem_cons.mp h with h | h
  ·cases h
   rw [if_pos rfl]
   exact jH ⟨(cells.lookup x).getD 0, by rw [List.lookup_cons]; simp⟩
  ·split <;> exact j5 h
def Z5 (scope osc : Scope) : Scope :=
 { scope with names := scope.names.map fun (n, k) => if (k == .free && osc.kind == .function && osc.names.lookup n == some .cell) then (n, .cell) else (n, k) }
theorem relab_free {scope osc : Scope} {x : Str} (hcell : ∀ y ∈ scope.names, y.2 ≠ .cell) (h : (Z5 scope osc).names.lookup x = some .cell ∨ (Z5 scope osc).names.lookup x = some .free) : (x, NameKind.free) ∈ scope.names := by
 have key : ∀ k, (k = .cell ∨ k = .free) → (Z5 scope osc).names.lookup x = some k → (x, NameKind.free) ∈ scope.names := fun k hk hl => by
  have hm := PySem.mem_of_lookup hl
  obtain ⟨⟨n, k'⟩, hm', e⟩ := List.mem_map.mp hm
  simp only at e
  split at e
  ·rename_i hc
   simp only [Bool.and_eq_true, beq_iff_eq] at hc
   cases e
   rw [← hc.1.1]; exact hm'
  ·cases e
   rcases hk with rfl | rfl
   ·exact absurd rfl (hcell _ hm')
   ·exact hm'
 rcases h with h | h
 ·exact key _ (.inl rfl) h
 ·exact key _ (.inr rfl) h
def cxC (X : Cx) (N : List Str) (scope : Scope) (s : Shared) (H : Hp) (fp : List Addr) (pins : List (Addr × Obj)) : Cx where
 prog := X.prog
 w := X.w
 K := X.K
 mg := X.mg
 base := X.base
 A := X.A
 N := N
 s₀ := s
 H₀ := H
 env := compEnvC scope (qp X.env.cells scope.names []) s.heap.objs.size X.env
 outer := X.stack
 stack := X.stack
 ex := fp
 fn := fun _ => false
 calm := X.calm
 pn := X.pn ++ pins
 xe := fun _ _ => False
def stC (nv : Nat) (caps : List Nat) (σ : St) : St := List.replicate nv none ++ caps.map fun k => (σ[k]?).getD none
structure CompOk (osc scope : Scope) (ON : List Str) (vars : List Str) (caps : List Nat) : Prop where
 kind : scope.kind = .function
 cell : ∀ y ∈ scope.names, y.2 ≠ .cell
 loc : ∀ y ∈ scope.names, y.2 = .local → scope.names.lookup y.1 = some .local
 free : ∀ y ∈ scope.names, y.2 = .free → osc.names.lookup y.1 = some .cell ∨ osc.names.lookup y.1 = some .free
 caps : ∀ k ∈ caps, k < ON.length ∧ scope.names.lookup (ON.getD k Str.empty) = some .free
def ZX (osc scope : Scope) (ON : List Str) (caps : List Nat) : Bool :=
 scope.kind == .function && scope.names.all (fun y => y.2 != .cell) && scope.names.all (fun y => y.2 != .local || scope.names.lookup y.1 == some .local) &&
 scope.names.all (fun y => y.2 != .free || (osc.names.lookup y.1 == some .cell || osc.names.lookup y.1 == some .free)) && caps.all fun k => decide (k < ON.length) && scope.names.lookup (ON.getD k Str.empty) == some .free
theorem Zh {osc scope : Scope} {ON vars : List Str} {caps : List Nat} (h : ZX osc scope ON caps = true) : CompOk osc scope ON vars caps := by
 simp only [ZX, Bool.and_eq_true, List.all_eq_true, beq_iff_eq, bne_iff_ne, Bool.or_eq_true, decide_eq_true_eq] at h
 obtain ⟨⟨⟨⟨h1, h2⟩, h3⟩, h4⟩, h5⟩ := h
 refine ⟨h1, h2, fun y hy e => (h3 y hy).resolve_left (fun z => z e), fun y hy e => (h4 y hy).resolve_left (fun z => z e), fun k hk => h5 k hk⟩
theorem wt {osc : Scope} {x : Str} : ∀ {ns : List (Str × NameKind)}, ns.lookup x = some .free →
  (ns.map fun (n, k) => if (k == NameKind.free && osc.kind == .function && osc.names.lookup n == some .cell) then (n, NameKind.cell) else (n, k)).lookup x = some .cell ∨
  (ns.map fun (n, k) => if (k == NameKind.free && osc.kind == .function && osc.names.lookup n == some .cell) then (n, NameKind.cell) else (n, k)).lookup x = some .free
 | [], h => by simp at h
 | (n, k) :: r, h => by
  have ih := @wt osc x r
  rw [List.map_cons]
  show List.lookup x ((if (k == NameKind.free && osc.kind == .function && osc.names.lookup n == some .cell) = true then (n, NameKind.cell) else (n, k)) :: _) = _ ∨ List.lookup x ((if (k == NameKind.free && osc.kind == .function && osc.names.lookup n == some .cell) = true then (n, NameKind.cell) else (n, k)) :: _) = _
  cases hx : x == n with
  | true =>
   simp only [List.lookup_cons, hx] at h
   cases h
   split
   ·exact .inl (by simp [List.lookup_cons, hx])
   ·exact .inr (by simp [List.lookup_cons, hx])
  | false =>
   simp only [List.lookup_cons, hx] at h
   split <;> (simp only [List.lookup_cons, hx]; exact ih h)
section
variable {X : Cx} {pins : List (Addr × Obj)} {σ : St} {H : Hp} {s : Shared} {fp : List Addr} {N vars : List Str} {caps : List Nat} {scope osc : Scope}
theorem inv_comp (I : Inv X pins σ H s) (hosc : X.env.scope = osc) (C : CompOk osc scope X.N vars caps) (hN : N = vars ++ caps.map fun k => X.N.getD k Str.empty)
  (hf : ∀ b ∈ fp, FpOk X pins H b) (hfo : ∀ b ∈ fp, ∃ o, s.heap.get? b = some o)
  {h' : Heap} {tk : Nat} {mm : Str → Option Value} (hns : h'.Ns s.heap.objs.size mm) (hk : ∀ b o, s.heap.get? b = some o → h'.get? b = some o) :
  Inv (cxC X N scope s H fp pins) [] (stC vars.length caps σ) H { s with heap := h', toks := tk } := by
 have hkf : ∀ y ∈ scope.names, y.2 = .free → X.env.kindOf y.1 = some .cell ∨ X.env.kindOf y.1 = some .free := fun y hy e => by
  have z := C.free y hy e
  rw [← hosc] at z
  exact z
 have hcl : clOk X.env.cells scope.names := fun y hy e => I.ok.has y.1 (hkf y hy e)
 have get : ∀ x c, (qp X.env.cells scope.names []).lookup x = some c → X.env.cells.lookup x = some c := fun x c h => j6 hcl (fun c h => by simp at h) h
 refine ⟨⟨I.ok.mod, C.kind, I.ok.glob, I.ok.blt, Nat.le_refl _, fun x y c h1 h2 => I.ok.inj x y c (get x c h1) (get y c h2), fun x hx => j5 (relab_free (osc := X.env.scope) C.cell hx), fun _ _ h _ => Bool.noConfusion h, I.ok.hd, I.ok.frames, .inl rfl,
   fun b hb => ⟨?_, fun x c h => (hf b hb).2.2.2.2.1 x c (get x c h)⟩, I.bs, Nat.le_trans I.ok.bsz I.sz, fun b o e hb => ?_, fun b hb z => (List.mem_cons.mp (I.stkSub b z)).elim (hf b hb).2.1 (hf b hb).2.2.1, I.stack, I.stkFree⟩,
  rfl, I.bare, Un.kept hk, ⟨_, hns, fun i x v e1 e2 e3 => ?_⟩, fun x c h => ?_, I.hok.fresh (Nat.le_refl _), fun x c h => I.freeC x c (get x c h), fun p hp => ?_, I.hok.kept hk, ?_⟩
 ·obtain ⟨o, e⟩ := hfo b hb
  exact Nat.ne_of_lt (Heap.lt_size e)
 ·rcases (hf b hb).2.2.2.1 with z | z
  ·exact I.ok.noex b o e z
  ·exact absurd (Nat.lt_of_lt_of_le (Heap.lt_size (I.ok.bs b o e).1) z) (Nat.lt_irrefl _)
 ·have hi : ¬ i < vars.length := fun hi => by
   unfold stC at e2
   rw [List.getElem?_append_left (by simpa using hi), List.getElem?_replicate] at e2
   split at e2 <;> cases e2
  have e1' : (vars ++ caps.map fun k => X.N.getD k Str.empty)[i]? = some x := by rw [← hN]; exact e1
  unfold stC at e2
  rw [List.getElem?_append_right (by simpa using hi), List.length_replicate, List.getElem?_map] at e2
  rw [List.getElem?_append_right (by omega), List.getElem?_map] at e1'
  cases ek : caps[i - vars.length]? with
  | none => rw [ek] at e2; cases e2
  | some k =>
   rw [ek] at e1' e2
   obtain ⟨hkl, hlk⟩ := C.caps k (List.mem_of_getElem? ek)
   have ex : X.N.getD k Str.empty = x := by simpa using e1'
   have es : σ[k]?.getD none = some v := by simpa using e2
   have es' : σ[k]? = some (some v) := by
    cases q : σ[k]? with
    | none => rw [q] at es; cases es
    | some z => rw [q] at es; simp only [Option.getD_some] at es; rw [es]
   have eN : X.N[k]? = some x := by
    rw [← ex, List.getD_eq_getElem?_getD, List.getElem?_eq_getElem hkl]; rfl
   rw [ex] at hlk
   have hm : (x, NameKind.free) ∈ scope.names := PySem.mem_of_lookup hlk
   have hkx := hkf _ hm rfl
   obtain ⟨m, _, hl⟩ := I.loc
   obtain ⟨u, r, L⟩ := hl k x v eN es' (hkx.elim (fun z => .inr (.inl z)) fun z => .inr (.inr z))
   refine ⟨u, r, .inr ⟨wt (osc := X.env.scope) hlk, ?_⟩⟩
   obtain ⟨c', ec⟩ := j5 (cells := X.env.cells) (cs := []) hm
   rcases L with ⟨z, _⟩ | ⟨_, c, ec2, o, ho, hd⟩
   ·rcases hkx with y | y <;> (simp only at y; rw [y] at z; cases z)
   ·have z := get x c' ec
    rw [ec2] at z
    obtain rfl : c = c' := Option.some.inj z
    exact ⟨c, ec, o, hk _ _ ho, hd⟩
 ·obtain ⟨v, o, ho, hd⟩ := I.cell x c (get x c h)
  exact ⟨v, o, hk _ _ ho, hd⟩
 ·have hp' : p ∈ X.pn ++ pins := by simpa [cxC] using hp
  obtain ⟨e, n, ne, nf, d⟩ := I.pin p hp'
  exact ⟨hk _ _ e, n, Nat.ne_of_lt (Heap.lt_size e), fun z => (List.mem_cons.mp (I.stkSub _ z)).elim ne nf, d⟩
 ·show (stC vars.length caps σ).length = N.length
  rw [hN]
  simp [stC]
theorem inv_uncomp {σ' : St} {H' : Hp} {s' : Shared} (I : Inv X pins σ H s) (hf : ∀ b ∈ fp, FpOk X pins H b) (I' : Inv (cxC X N scope s H fp pins) [] σ' H' s') : Inv X pins σ H' s' :=
 I.call' (ch := fp) I'.os I'.base I'.hok I'.bare fun b hb => ⟨(hf b hb).2.2.2.1, (hf b hb).2.1, (hf b hb).2.2.2.2.1, (hf b hb).2.2.2.2.2⟩
end
section
variable {prog : Program} {w : World} {A : Around} {R : Result → Shared → Prop} {s : Shared}
abbrev NoX : Value → Shared → Prop := fun _ _ => False
theorem comp_loop {elt target iter : Expr} {ifs : List Expr} {scope : Scope} {pos : Pos} {it acc : Value} {env : Env} (I : Nat → Shared → Prop)
  (turn : ∀ n s, I n s → wpAny (model prog w) A (pyNext it) (fun r s₁ => match r with
   | none => R (.ok .next) s₁
   | some v => wpAny (model prog w) A (letOwnedTupleGo target it v) (fun _ s₁' => wpAny (model prog w) A (assign target env v) (fun _ s₂ =>
     wpAny (model prog w) A (forIn ifs true fun c r => if r = true then do let ok ← isTrue c env (eval c env); pure (ForInStep.yield ok) else pure (ForInStep.yield r)) (fun ok s₃ =>
      if ok = true then wpAny (model prog w) A (eval elt env) (fun x s₄ =>
       wpAny (model prog w) A (call (.builtin "list.append") [acc, x]) (fun _ s₅ => ∃ m, m < n ∧ I m s₅) NoX s₄) NoX s₃
      else ∃ m, m < n ∧ I m s₃) NoX s₂) NoX s₁') NoX s₁) NoX s)
  (n : Nat) (h : I n s) :
  codeAny (model prog w) A (.compLoop (.ListComp elt [⟨target, iter, ifs, 0⟩] scope pos) 0 it acc env) R s := by
 refine codeAny_loop rfl I (fun n s hI => ?_) n h
 show wpAny _ A ((compTurn (.ListComp elt [⟨target, iter, ifs, 0⟩] scope pos) 0 it acc env).onRaise (fun x => do noteFrame x env; theTreesLotGoes x)) _ _ s
 refine wpAny_noted ?_
 rw [compTurn_list]
 refine wpAny_bind (wpAny_standAt (wpAny_bind (wpAny_mono (turn n s hI) (fun r s₁ h₁ => ?_) fun _ _ h' => h'.elim)))
 cases r with
 | none => exact wpAny_pure h₁
 | some v =>
  refine wpAny_bind (wpAny_mono h₁ (fun _ s₁' h₁' => ?_) fun _ _ h' => h'.elim)
  refine wpAny_bind (wpAny_mono h₁' (fun _ s₂ h₂ => wpAny_bind (wpAny_mono h₂ (fun ok s₃ h₃ => ?_) fun _ _ h' => h'.elim)) fun _ _ h' => h'.elim)
  cases ok with
  | false => exact wpAny_pure ⟨rfl, h₃⟩
  | true =>
   exact wpAny_bind (wpAny_bind (wpAny_mono h₃ (fun x s₄ h₄ => wpAny_bind (wpAny_mono h₄ (fun _ s₅ h₅ => wpAny_pure (wpAny_pure ⟨rfl, h₅⟩)) fun _ _ h' => h'.elim)) fun _ _ h' => h'.elim))
end
def PIfs (X : Cx) (ifs : List Expr) (t : TT) : Prop :=
 ∀ (pins : List (Addr × Obj)) (s : Shared) (σ : St) (H : Hp) (Q : Bool → Hp → Prop), Inv X pins σ H s → t σ H Q →
  wpAny (model X.prog X.w) X.A (forIn ifs true fun c r => if r = true then do let ok ← isTrue c X.env (eval c X.env); pure (ForInStep.yield ok) else pure (ForInStep.yield r)) (TP X pins σ Q) X.xe s
def tYes : TT := fun _ H Q => Q true H
theorem qt {X : Cx} : PIfs X [] tYes := fun _ _ _ H _ I h => wpAny_tests_nil ⟨H, I, h⟩
abbrev CB (α : Type) := Shared → Hp → List Addr → List (Addr × Obj) → α
def tLc (wi : TI) (nv : Nat) (caps : List Nat) (g : CB TG) (tt : CB TT) (te : CB TE) : TE := fun σ H Q => wi σ H fun J H1 => ∀ (s3 : Shared) (H3 : Hp) (fp : List Addr) (pns : List (Addr × Obj)) acc, H1 acc = none →
 ∃ W : Nat → Nat → St → Hp → Prop, (∃ m, W 0 m (stC nv caps σ) (upd H1 acc (.lst []))) ∧ ∀ i m σ' H', W i m σ' H' →
  (J.stop i H' ∧ Q (.ref acc) H') ∨ (J.go i H' ∧ ∃ N : St → Hp → Prop, (∀ σ'' H'', N σ'' H'' → ∃ m', m' < m ∧ W (i + 1) m' σ'' H'') ∧ ∀ x H'', J.yld i H' x H'' → g s3 H3 fp pns x σ' H'' fun σ2 H2 => tt s3 H3 fp pns σ2 H2 fun b H5 =>
   if b = true then te s3 H3 fp pns σ2 H5 fun y H4 => ∃ ys, H4 acc = some (.lst ys) ∧ ys.length < sizeLine ∧ N σ2 (upd H4 acc (.lst (ys ++ [y]))) else N σ2 H5)
section
variable {X : Cx} {elt target iter : Expr} {ifs : List Expr} {scope osc : Scope} {pos : Pos} {wi : TI} {g : CB TG} {tt : CB TT} {te : CB TE} {N vars : List Str} {caps : List Nat}
theorem wN {pins : List (Addr × Obj)} {σ : St} {H2 : Hp} {s2 : Shared} {it : Addr} {fp : List Addr} {tn : Nat → Heap → Prop} {J : It} {Q : VK} {RR : Value → Addr → Result → Shared → Prop} {E : Value → Shared → Prop}
  (hosc : X.env.scope = osc) (C : CompOk osc scope X.N vars caps) (hN : N = vars ++ caps.map fun k => X.N.getD k Str.empty) (hc : X.calm = true)
  (hg : ∀ s H fp pins, PG (cxC X N scope s H fp pins) target (g s H fp pins)) (ht : ∀ s H fp pins, PIfs (cxC X N scope s H fp pins) ifs (tt s H fp pins)) (he : ∀ s H fp pins, PE (cxC X N scope s H fp pins) elt (te s H fp pins))
  (I2 : Inv X pins σ H2 s2) (T : Turn X.prog X.w X.K target J fp it tn) (st2 : tn 0 s2.heap) (hf : ∀ b ∈ fp, FpOk X pins H2 b)
  (h : ∀ (s3 : Shared) (H3 : Hp) (fp : List Addr) (pns : List (Addr × Obj)) acc, H2 acc = none → ∃ W : Nat → Nat → St → Hp → Prop, (∃ m, W 0 m (stC vars.length caps σ) (upd H2 acc (.lst []))) ∧ ∀ i m σ' H', W i m σ' H' →
   (J.stop i H' ∧ Q (.ref acc) H') ∨ (J.go i H' ∧ ∃ N : St → Hp → Prop, (∀ σ'' H'', N σ'' H'' → ∃ m', m' < m ∧ W (i + 1) m' σ'' H'') ∧ ∀ x H'', J.yld i H' x H'' → g s3 H3 fp pns x σ' H'' fun σ2 H2 => tt s3 H3 fp pns σ2 H2 fun b H5 =>
    if b = true then te s3 H3 fp pns σ2 H5 fun y H4 => ∃ ys, H4 acc = some (.lst ys) ∧ ys.length < sizeLine ∧ N σ2 (upd H4 acc (.lst (ys ++ [y]))) else N σ2 H5))
  (hRR : ∀ acc C s' H' m, Inv X pins σ H' s' → Q (.ref acc) H' → s'.heap.Ns C m → H' C = none → C ≠ X.env.locals → X.s₀.heap.objs.size ≤ C → (∀ x c, X.env.cells.lookup x = some c → c ≠ C) → (∀ p ∈ X.pn ++ pins, p.1 ≠ C) → RR (.ref acc) C (.ok .next) s') :
  wpAny (model X.prog X.w) X.A (newList []) (fun acc s₃ => wpAny (model X.prog X.w) X.A (newFunctionEnv scope X.env.globals (qp X.env.cells scope.names []) [] X.env.qual none .none (some X.env)) (fun cenv s₄ =>
   codeAny (model X.prog X.w) X.A (.compStart (.ListComp elt [⟨target, iter, ifs, 0⟩] scope pos) 0 (.ref it) acc { cenv with scope := relabel scope X.env }) (RR acc cenv.locals) s₄) E s₃) E s2 := by
 refine wpAny_newObj_type (wpAny_newFunctionEnv C.cell (by intro y hy; simp at hy) (fun h₁ hns₁ hsb₁ => ?_) C.kind)
 obtain ⟨W, ⟨m0, w0⟩, turn⟩ := h { s2 with heap := s2.heap.push { cls := .type "list", dict := none, data := .seq ([] : List Value).toArray } } (upd H2 s2.heap.objs.size (.lst [])) fp pins s2.heap.objs.size I2.fresh
 have I3 : Inv X pins σ (upd H2 s2.heap.objs.size (.lst [])) { s2 with heap := s2.heap.push { cls := .type "list", dict := none, data := .seq ([] : List Value).toArray } } := I2.lnew (its := []) (t' := s2.toks) .nil (by decide)
 dsimp only at hns₁ hsb₁ ⊢
 have hfo : ∀ b ∈ fp, ∃ o, s2.heap.get? b = some o := fun b hb => let ⟨o, e, _⟩ := T.obj _ _ st2 b hb; ⟨o, e⟩
 have hf3 : ∀ b ∈ fp, FpOk X pins (upd H2 s2.heap.objs.size (.lst [])) b := fun b hb => by
  refine ⟨?_, (hf b hb).2⟩
  obtain ⟨o, e⟩ := hfo b hb
  rw [upd_ne (Nat.ne_of_lt (Heap.lt_size e))]
  exact (hf b hb).1
 generalize hs3 : ({ s2 with heap := s2.heap.push { cls := .type "list", dict := none, data := .seq ([] : List Value).toArray } } : Shared) = s3 at I3 turn
 have eh : s2.heap.push { cls := .type "list", dict := none, data := .seq ([] : List Value).toArray } = s3.heap := by rw [← hs3]
 have old : ∀ b o, s2.heap.get? b = some o → s3.heap.get? b = some o := fun b o e => by rw [← eh]; exact Heap.get?_push_of_some _ e
 rw [eh] at hns₁ hsb₁ ⊢
 have es : ({ s2 with heap := h₁, toks := s2.toks + ([] : List (Str × Value)).length } : Shared) = { s3 with heap := h₁, toks := s2.toks } := by rw [← hs3]; rfl
 rw [es]
 generalize hH3 : upd H2 s2.heap.objs.size (.lst []) = H3 at *
 have hk : ∀ b o, s3.heap.get? b = some o → h₁.get? b = some o := fun b o e => hsb₁.extBut b o (Nat.ne_of_lt (Heap.lt_size e)) (Heap.get?_push_of_some _ e)
 have I4 : Inv (cxC X N scope s3 H3 fp pins) [] (stC vars.length caps σ) H3 { s3 with heap := h₁, toks := s2.toks } := inv_comp I3 hosc C hN hf3 (fun b hb => let ⟨o, e⟩ := hfo b hb; ⟨o, old b o e⟩) hns₁ hk
 have st4 : tn 0 h₁ := T.keep _ _ _ st2 fun b hb o e => hk b o (old b o e)
 have stat : ∀ {H' : Hp}, (∀ b ∈ fp, H' b = none) → ∀ b ∈ fp, FpOk (cxC X N scope s3 H3 fp pins) [] H' b := fun hn b hb =>
  ⟨hn b hb, (I4.ok.exf b hb).1, I4.ok.exfs b hb, .inl hb, (I4.ok.exf b hb).2, fun p hp => (hf b hb).2.2.2.2.2 p (by simpa [cxC] using hp)⟩
 have loop : ∀ s4 : Shared, s4 = { s3 with heap := h₁, toks := s2.toks } →
   codeAny (model X.prog X.w) X.A (.compLoop (.ListComp elt [⟨target, iter, ifs, 0⟩] scope pos) 0 (.ref it) (.ref s2.heap.objs.size) (cxC X N scope s3 H3 fp pins).env) (RR (.ref s2.heap.objs.size) s3.heap.objs.size) s4 := by
  rintro s4 rfl
  refine comp_loop (fun n s' => ∃ i σ' H', Inv (cxC X N scope s3 H3 fp pins) [] σ' H' s' ∧ tn i s'.heap ∧ (∀ b ∈ fp, H' b = none) ∧ W i n σ' H') ?_ m0 ⟨0, _, H3, I4, st4, fun b hb => (hf3 b hb).1, w0⟩
  rintro n s5 ⟨i, σ5, H5, I5, st5, fr5, w5⟩
  rcases turn i n σ5 H5 w5 with ⟨stop, qn⟩ | ⟨go, NN, hNN, step⟩
  ·refine thn (T.done (cxC X N scope s3 H3 fp pins) rfl rfl rfl hc i [] s5 σ5 H5 NoX I5 (stat fr5) st5 stop) fun r s6 ⟨hr, I6⟩ => ?_
   subst hr
   obtain ⟨m, hn, _⟩ := I6.loc
   have hlt : ∀ b o, s3.heap.get? b = some o → b ≠ s3.heap.objs.size := fun b o e => Nat.ne_of_lt (Heap.lt_size e)
   obtain ⟨m3, ⟨oL, _, _, hoL, _⟩, _⟩ := I3.loc
   refine hRR _ _ s6 H5 m (inv_uncomp I3 hf3 I6) qn hn I6.free (fun z => hlt _ _ hoL z.symm) I3.sz (fun x c ec z => ?_) fun p hp z => hlt _ _ (I3.pin p hp).1 z
   obtain ⟨v, o, ho, _⟩ := I3.cell x c ec
   exact hlt _ _ ho z
  ·refine thn (T.item (cxC X N scope s3 H3 fp pins) rfl rfl rfl hc i [] s5 σ5 H5 NoX I5 (stat fr5) st5 go) fun r s6 ⟨u, hr, h6⟩ => ?_
   subst hr
   refine thn h6 fun _ s7 ⟨x, H7, I7, r7, y7, st7, fr7⟩ => ?_
   have I7' := I7.pinned (stat fr7) (T.obj _ _ st7)
   have again : ∀ {σ8 : St} {H8 : Hp} {s8 : Shared}, Inv (cxC X N scope s3 H3 fp pins) ([] ++ wu fp s7.heap) σ8 H8 s8 → NN σ8 H8 → ∃ m, m < n ∧ ∃ i σ' H', Inv (cxC X N scope s3 H3 fp pins) [] σ' H' s8 ∧ tn i s8.heap ∧ (∀ b ∈ fp, H' b = none) ∧ W i m σ' H' := fun {σ8 H8 s8} I8 n8 => by
    obtain ⟨m', hm, w8⟩ := hNN σ8 H8 n8
    refine ⟨m', hm, i + 1, σ8, H8, I8.unpinned, T.keep _ _ _ st7 fun b hb o e => (I8.pin (b, o) (List.mem_append_right _ (List.mem_append_right _ (jm hb e)))).1, fun b hb => ?_, w8⟩
    obtain ⟨o, e, d⟩ := T.obj _ _ st7 b hb
    exact (I8.pin (b, o) (List.mem_append_right _ (List.mem_append_right _ (jm hb e)))).2.1
   refine thn (hg s3 H3 fp pins _ s7 σ5 H7 x u _ I7' r7 (step x H7 y7)) fun _ s8 ⟨σ8, H8, I8, q8⟩ => ?_
   refine thn (ht s3 H3 fp pins _ s8 σ8 H8 _ I8 q8) fun b s9 ⟨H9, I9, q9⟩ => ?_
   cases b with
   | false => exact again I9 q9
   | true =>
    refine thn (he s3 H3 fp pins _ s9 σ8 H9 _ I9 q9) fun v s10 ⟨y, H10, I10, r10, ys, ea, hz, q10⟩ => ?_
    refine thn (zF (X := cxC X N scope s3 H3 fp pins) _ s10 σ8 H10 (.ref s2.heap.objs.size) [y] (.ref s2.heap.objs.size) [v] (fun _ H' => NN σ8 H') I10 rfl (.cons r10 .nil) ⟨_, ys, y, rfl, rfl, ea, hz, q10⟩) fun _ s11 ⟨_, H11, I11, _, q11⟩ => ?_
    exact again I11 q11
 exact codeAny_compStart_list (loop _ rfl) (T.self X.A 0 _ _ _ st4 (loop _ rfl))
theorem xR {ON : List Str} (hosc : X.env.scope = osc) (hON : X.N = ON) (hB : ZX osc scope ON caps = true) (hN : N = vars ++ caps.map fun k => ON.getD k Str.empty) (hc : X.calm = true) (hi : PI X target iter wi)
  (hg : ∀ s H fp pins, PG (cxC X N scope s H fp pins) target (g s H fp pins)) (ht : ∀ s H fp pins, PIfs (cxC X N scope s H fp pins) ifs (tt s H fp pins)) (he : ∀ s H fp pins, PE (cxC X N scope s H fp pins) elt (te s H fp pins))
  (hs : ∀ x, foldedSetIterable iter X.env x = pure x := by intro _; rfl) : PE X (.ListComp elt [⟨target, iter, ifs, 0⟩] scope pos) (tLc wi vars.length caps g tt te) := by
 subst hON
 intro pins s σ H Q I h
 have C : CompOk osc scope X.N vars caps := Zh hB
 have hclos : closureFor scope X.env = pure (qp X.env.cells scope.names []) := jV fun y hy e => I.ok.has y.1 (by have z := C.free y hy e; rw [← hosc] at z; exact z)
 rw [eval_ListComp]
 refine wpAny_comprehension_free (use := none) rfl hs hclos C.kind C.loc (thn (hi pins s σ H _ I h) fun v s1 h1 => thn h1 fun itv s2 h2 => ?_)
 obtain ⟨it, fp, tn, J, H2, e, I2, T, st2, f2, hw⟩ := h2
 subst e
 refine wN (N := N) (RR := fun acc Cc => compPost (model X.prog X.w) X.A X.xe none (EP X pins σ Q) acc Cc) hosc C hN hc hg ht he I2 T st2 f2 hw fun acc Cc s' H' m I' q hn hC hL hsz hcc hpp => ?_
 refine ⟨m, hn, fun h' hs' => ⟨.ref acc, H', ?_, rfl, q⟩⟩
 exact I'.turned (t' := s'.toks) (it := Cc) (fun b o hb e => (hs'.2 b hb).trans e) hC (fun z => hL z) (.inr hsz) hcc hpp
theorem vO {ON : List Str} {i : Nat} {x : Str} {pos' spos : Pos} (hNd : X.N.Nodup) (hix : X.N[i]? = some x) (hx : Loc X.env.scope x)
  (hosc : X.env.scope = osc) (hON : X.N = ON) (hB : ZX osc scope ON caps = true) (hN : N = vars ++ caps.map fun k => ON.getD k Str.empty) (hc : X.calm = true) (hi : PI X target iter wi)
  (hg : ∀ s H fp pins, PG (cxC X N scope s H fp pins) target (g s H fp pins)) (ht : ∀ s H fp pins, PIfs (cxC X N scope s H fp pins) ifs (tt s H fp pins)) (he : ∀ s H fp pins, PE (cxC X N scope s H fp pins) elt (te s H fp pins))
  (hsw : swapsWith (.ListComp elt [⟨target, iter, ifs, 0⟩] scope pos) (some (.Name x pos')) spos.line X.env = pure true := by rfl)
  (hf : X.fn x = true ∨ X.env.scope.names.lookup x = some .local := by walk_at "p")
  (hs : ∀ x, foldedSetIterable iter X.env x = pure x := by intro _; rfl) : PS X (.Assign [.Name x pos'] (.ListComp elt [⟨target, iter, ifs, 0⟩] scope pos) spos) (tAsg (tLc wi vars.length caps g tt te) (gName i)) := by
 subst hON
 intro pins s σ H D I h
 have C : CompOk osc scope X.N vars caps := Zh hB
 have hclos : closureFor scope X.env = pure (qp X.env.cells scope.names []) := jV fun y hy e => I.ok.has y.1 (by have z := C.free y hy e; rw [← hosc] at z; exact z)
 rw [exec_Assign_Name_used _ _ _ _ hsw]
 refine wpAny_bind (wpAny_standAt (wpAny_bind ?_))
 show wpAny _ X.A (do let _ ← comprehension (.ListComp elt [⟨target, iter, ifs, 0⟩] scope pos) scope X.env _ (newList []) false (eval iter X.env) (some (assign (.Name x pos') X.env))) _ _ s
 refine wpAny_bind (wpAny_mono (wpAny_comprehension_free (use := some (assign (.Name x pos') X.env)) (Q := fun _ s' => SP X pins D .next s') rfl hs hclos C.kind C.loc (thn (hi pins s σ H _ I h) fun v s1 h1 => thn h1 fun itv s2 h2 => ?_)) (fun _ s' hq => wpAny_pure (wpAny_pure hq)) fun _ _ e => e)
 obtain ⟨it, fp, tn, J, H2, e, I2, T, st2, f2, hw⟩ := h2
 subst e
 refine wN (N := N) (Q := fun v H1 => gName i v σ H1 D.nx) (RR := fun acc Cc => compPost (model X.prog X.w) X.A X.xe (some (assign (.Name x pos') X.env)) (fun _ s' => SP X pins D .next s') acc Cc) hosc C hN hc hg ht he I2 T st2 f2 hw fun acc Cc s' H' m I' q hn hC hL hsz hcc hpp => ?_
 refine wpAny_assign_Name (wT I' hNd hix hx (v := .ref acc) rfl (fun s3 I3 ⟨a, sb, ha⟩ => ?_) hf)
 have hne : Cc ≠ a := fun z => by
  rcases ha with e | e
  ·exact hL (z.trans e)
  ·exact hcc x a e z.symm
 refine ⟨m, hn.sameBut sb hne, fun h' hs' => ⟨_, H', ?_, q⟩⟩
 exact I3.turned (t' := s3.toks) (it := Cc) (fun b o hb e => (hs'.2 b hb).trans e) hC (fun z => hL z) (.inr hsz) hcc hpp
end
end L2
namespace L2
open PySem PySem.Spec PySem.Calls PyProof.Rows
section
variable {X : Cx} {pins : List (Addr × Obj)} {σ : St} {H : Hp} {s : Shared} {h' : Heap} {ch : List Addr}
theorem Inv.turnNew {T : Addr} {o : HO} {t' : Nat} (I : Inv X pins σ H s) (hch : ∀ b ∈ ch, FpOk X pins H b) (hT : s.heap.objs.size ≤ T) (keep : ∀ b o, b ∉ ch → s.heap.get? b = some o → h'.get? b = some o)
  (new : ObjOk X.prog X.w (upd H T o) h' T o) : Inv X pins σ (upd H T o) { s with heap := h', toks := t' } := by
 have hn : H T = none := I.hok.fresh hT
 have lt : ∀ b u, s.heap.get? b = some u → b ≠ T := fun b u e => Nat.ne_of_lt (Nat.lt_of_lt_of_le (Heap.lt_size e) hT)
 have nch : ∀ b u, H b = some u → b ∉ ch := fun b u e z => by rw [(hch b z).1] at e; cases e
 refine I.step (g' := s.gens) (d' := s.drawn) (ch := ch) (fun b hb => ⟨(hch b hb).2.2.2.1, (hch b hb).2.1, (hch b hb).2.2.2.2.1, (hch b hb).2.2.2.2.2⟩) (fun b o _ _ hc e _ => keep b o hc e) (fun b o _ _ hc e _ => ⟨o.slots, keep b o hc e⟩)
  (fun b o _ e n => by rw [upd_ne (lt b o e)]; exact n) (fun b o hc e => ⟨o, keep b o hc e⟩) (fun b xs e => by rw [upd_ne (ne_of_none e hn)]; exact e) (fun b o u e => by rw [upd_ne (ne_of_none e hn)]; exact e)
  (fun b ps e => ⟨#[], by rw [upd_ne (ne_of_none e hn), e]; simp⟩) (fun m hm => ?_) (fun b u e => ?_) I.bare
 ·obtain ⟨o, es, ep, ho, r⟩ := hm
  exact ⟨o, es, ep, keep _ o (fun z => (hch _ z).2.1 rfl) ho, r⟩
 ·by_cases hb : b = T
  ·subst hb
   rw [upd_same] at e
   cases e
   exact new
  ·rw [upd_ne hb] at e
   refine (I.hok b u e).stay (fun c v hc q => keep c v ?_ q) (fun c q => by rw [upd_ne (ne_of_none q hn)]; exact q) fun c xs q => by rw [upd_ne (ne_of_none q hn)]; exact q
   rcases hc with z | z
   ·rw [z]; exact nch b u e
   ·exact nch c _ z
theorem Inv.turnL {t' : Nat} (I : Inv X pins σ H s) (hch : ∀ b ∈ ch, FpOk X pins H b) (keep : ∀ b o, b ∉ ch → s.heap.get? b = some o → h'.get? b = some o) : Inv X pins σ H { s with heap := h', toks := t' } := by
 have nch : ∀ b u, H b = some u → b ∉ ch := fun b u e z => by rw [(hch b z).1] at e; cases e
 refine I.step (g' := s.gens) (d' := s.drawn) (ch := ch) (fun b hb => ⟨(hch b hb).2.2.2.1, (hch b hb).2.1, (hch b hb).2.2.2.2.1, (hch b hb).2.2.2.2.2⟩) (fun b o _ _ hc e _ => keep b o hc e) (fun b o _ _ hc e _ => ⟨o.slots, keep b o hc e⟩)
  (fun _ _ _ _ n => n) (fun b o hc e => ⟨o, keep b o hc e⟩) (fun _ _ e => e) (fun _ _ _ e => e) (fun b ps e => ⟨#[], by rw [e]; simp⟩) (fun m hm => ?_) (fun b u e => ?_) I.bare
 ·obtain ⟨o, es, ep, ho, r⟩ := hm
  exact ⟨o, es, ep, keep _ o (fun z => (hch _ z).2.1 rfl) ho, r⟩
 ·refine (I.hok b u e).stay (fun c v hc q => keep c v ?_ q) (fun _ q => q) fun _ _ q => q
  rcases hc with z | z
  ·rw [z]; exact nch b u e
  ·exact nch c _ z
end
def Ite (K : PySem.W.Frag) (a : Addr) : It :=
 ⟨fun i H => ∃ xs x, SqL K H a xs ∧ xs[i]? = some x, fun i H v H' => ∃ t x, H t = none ∧ v = .ref t ∧ (∀ xs, SqL K H a xs → xs[i]? = some x) ∧ H' = upd H t (.tup [.int i, x]), fun i H => ∃ xs, SqL K H a xs ∧ xs.length ≤ i⟩
theorem turn_enum {P : Program} {w : World} {K : PySem.W.Frag} {elts : List Expr} {x1} {pos : Pos} (a e it : Addr) (hne : e ≠ it) :
  Turn P w K (.Tuple elts x1 pos) (Ite K a) [e, it] e (fun i h => (∃ old, IsEnum h e it i old) ∧ h.IsListIter it a i) where
 mem := by simp
 obj := fun i h st b hb => by
  obtain ⟨⟨old, he⟩, o, ho, c, d⟩ := st
  rcases List.mem_cons.mp hb with rfl | hb
  ·exact ⟨_, he, fun v z => by cases z⟩
  ·obtain rfl : b = it := by simpa using hb
   exact ⟨o, ho, fun v z => by rw [d] at z; cases z⟩
 keep := fun i h h' st k => by
  obtain ⟨⟨old, he⟩, hi⟩ := st
  exact ⟨⟨old, k e (by simp) _ he⟩, hi.at fun o z => k it (by simp) o z⟩
 item := by
  intro X hP hw hK hc i pins s σ H E I hf st hg
  subst hP hw hK
  obtain ⟨⟨old, he⟩, hi⟩ := st
  obtain ⟨xs, x, hq, hx⟩ := hg
  obtain ⟨its, rv, p, hz⟩ := I.list hq
  obtain ⟨u, hu, ru⟩ := rv.get hx
  refine wpAny_pyNext_enum_item he hi p.isList (x := u) (by simpa using hu) hne fun h' he' hi' hT hsz hk => ?_
  refine ⟨_, rfl, ?_⟩
  have I1 : Inv X pins σ (upd H s.heap.objs.size (.tup [.int i, x])) { s with heap := h', toks := s.toks + 1 } := I.turnNew hf (Nat.le_refl _) (fun b o hb q => hk b o (fun z => hb (by simp [z])) (fun z => hb (by simp [z])) q)
   ⟨by show 2 ≤ sizeLine; decide, [.int i s.toks, u], .cons ⟨_, rfl⟩ (.cons ru .nil), ⟨_, hT, rfl, _, rfl⟩⟩
  have hn : H s.heap.objs.size = none := I.hok.fresh (Nat.le_refl _)
  have ne : ∀ b ∈ [e, it], b ≠ s.heap.objs.size := fun b hb => by
   rcases List.mem_cons.mp hb with rfl | hb
   ·exact Nat.ne_of_lt (Heap.lt_size he)
   ·obtain rfl : b = it := by simpa using hb
    obtain ⟨o, ho, _⟩ := hi
    exact Nat.ne_of_lt (Heap.lt_size ho)
  have fr : ∀ b ∈ [e, it], (upd H s.heap.objs.size (.tup [.int i, x])) b = none := fun b hb => by rw [upd_ne (ne b hb)]; exact (hf b hb).1
  refine wpAny_letOwnedTupleGo_enum he' fun h'' he'' hs'' => ?_
  refine ⟨.ref s.heap.objs.size, _, I1.turnL (t' := s.toks + 1) (ch := [e]) (fun b hb => ?_) (fun b o hb q => (hs''.2 b (fun z => hb (by simp [z]))).trans q), rfl,
   ⟨s.heap.objs.size, x, hn, rfl, fun ys hy => by rw [I.list_inj hy hq]; exact hx, rfl⟩, ⟨⟨u, ?_⟩, hi'.extBut hs''.extBut (Ne.symm hne)⟩, fr⟩
  ·obtain rfl : b = e := by simpa using hb
   exact ⟨fr b (by simp), (hf b (by simp)).2⟩
  ·exact he''
 done := by
  intro X hP hw hK hc i pins s σ H E I hf st hg
  subst hP hw hK
  obtain ⟨⟨old, he⟩, hi⟩ := st
  obtain ⟨xs, hq, hx⟩ := hg
  obtain ⟨its, rv, p, hz⟩ := I.list hq
  have hl := rv.length
  exact wpAny_pyNext_enum_end (I.ok.hd hc) he hi p.isList (by simp; omega) fun h' eb => ⟨rfl, I.turnL (t' := s.toks) hf fun b o hb q => eb b o (fun z => hb (by simp [z])) q⟩
 self := fun _ _ _ _ _ st h => by
  obtain ⟨⟨old, he⟩, _⟩ := st
  exact wpAny_pyIter_enum he h
theorem bo_enumerate : bootBuiltins "enumerate" = some (.type "enumerate") := by decide +kernel
theorem bo_zip : bootBuiltins "zip" = some (.type "zip") := by decide +kernel
def iEnum (X : Cx) (ta : TA) : TI := fun σ H R => X.mg "enumerate" = none ∧ ta σ H fun vs H1 => ∃ a xs, vs = [.ref a] ∧ H1 a = some (.lst xs) ∧ R (Ite X.K a) H1
theorem pi_enumerate {X : Cx} {a : Expr} {elts : List Expr} {x1} {tp p pos : Pos} {ta : TA} (ha : PA X [a] ta) (hg : Gl X "enumerate" := by rfl)
  (hs : starEach [a] X.env = (false, eval a X.env) :: starEach [] X.env := by rfl) (hpl : (backTo pos (starEach [] X.env)).any (·.1) = false := by rfl) :
  PI X (.Tuple elts x1 tp) (.Call (.Name "enumerate" p) [a] [] pos) (iEnum X ta) := by
 intro pins s σ H R I h
 refine wpAny_Call_Name_kw (j3 I hg h.1 bo_enumerate ?_)
 refine PyProof.Rows.callWith_type1 (thn (ha pos pins s σ H _ I h.2) fun us s1 ⟨vs, H1, I1, r1, q1⟩ => ?_) hs hpl
 obtain ⟨l, xs, rfl, hq, hR⟩ := q1
 obtain ⟨u, rfl, rx⟩ := xK r1
 cases rx
 obtain ⟨hz, its, n, rv, hl, e⟩ := I1.lstM hq
 refine call_enumerate_1 e fun h' he hi hsz hk => wpAny_pyIter_enum he ?_
 refine ⟨s1.heap.objs.size + 1, [s1.heap.objs.size + 1, s1.heap.objs.size], _, _, H1, rfl, I1.kept (t' := s1.toks) hk, turn_enum l _ _ (Nat.succ_ne_self _), ⟨⟨_, he⟩, hi⟩, fun b hb => ?_, hR⟩
 rcases List.mem_cons.mp hb with rfl | hb
 ·exact I1.fpOk (Nat.le_succ _) (I1.hok.fresh (Nat.le_succ _))
 ·obtain rfl : b = s1.heap.objs.size := by simpa using hb
  exact I1.fpOk (Nat.le_refl _) (I1.hok.fresh (Nat.le_refl _))
def ItAt (b : Bool) (h : Heap) (it a : Addr) (i : Nat) : Prop := if b = true then h.IsListIter it a i else h.IsTupleIter it a i
def SqAt (b : Bool) (h : Heap) (a : Addr) (items : Array Value) : Prop := if b = true then h.IsList a items else h.IsTuple a items
def xH (b : Bool) : String := if b = true then "list_iterator" else "tuple_iterator"
theorem ItAt.at' {b : Bool} {h h' : Heap} {it a : Addr} {i : Nat} (x : ItAt b h it a i) (hk : ∀ o, h.get? it = some o → h'.get? it = some o) : ItAt b h' it a i := by
 cases b <;> exact let ⟨o, ho, r⟩ := x; ⟨o, hk o ho, r⟩
theorem ItAt.obj {b : Bool} {h : Heap} {it a : Addr} {i : Nat} (x : ItAt b h it a i) : ∃ o, h.get? it = some o ∧ ∀ v, o.data ≠ .cell v := by
 cases b <;> exact let ⟨o, ho, _, hd⟩ := x; ⟨o, ho, fun v z => by rw [hd] at z; cases z⟩
theorem SqAt.at' {b : Bool} {h h' : Heap} {a : Addr} {items : Array Value} (x : SqAt b h a items) (hk : ∀ o, h.get? a = some o → h'.get? a = some o) : SqAt b h' a items := by
 cases b <;> exact let ⟨o, ho, r⟩ := x; ⟨o, hk o ho, r⟩
section
variable {prog : Program} {w : World} {A : Around} {E : Value → Shared → Prop} {s : Shared}
theorem nextOf_tuple_item {it t : Addr} {i : Nat} {items} {x : Value} {Q : Value → Shared → Prop} (hit : s.heap.IsTupleIter it t i) (ht : s.heap.IsTuple t items) (hx : items[i]? = some x)
  (hQ : ∀ h', h'.IsTupleIter it t (i + 1) → Heap.SameBut it s.heap h' → Q x { s with heap := h' }) : wpAny (model prog w) A (Builtin.SmallTypes.nextOf (.ref it)) Q E s := by
 obtain ⟨o, ho, hc, hd⟩ := id hit
 obtain ⟨ol, hol, _, nl, hdl⟩ := ht
 unfold Builtin.SmallTypes.nextOf
 refine wpAny_bind (wpAny_callSpecial?_slot (name := Str.ofString "__next__") hit.typeIs F.slot_tuple_iterator_next
  (wpAny_call_entry F.slot_tuple_iterator_next hit.typeIs F.entry_tuple_iterator_next ?_ (F.args_tuple_iterator_next_1 _)))
 show wpAny _ _ (field (.ref it) 0 >>= _) _ _ s
 refine wpAny_bind (wpAny_field ho hd (x := .ref t) rfl ?_)
 show wpAny _ _ (if (Value.ref t == Value.none) = true then _ else _) _ _ s
 rw [if_neg (show ¬ ((Value.ref t == Value.none) = true) from Bool.false_ne_true)]
 show wpAny _ _ (field (.ref it) 1 >>= _) _ _ s
 refine wpAny_bind (wpAny_field ho hd (x := .int i 0) rfl ?_)
 show wpAny _ _ (seqItems? (.ref t) >>= _) _ _ s
 refine wpAny_bind (wpAny_seqItems hol hdl ?_)
 simp only [Int.toNat_natCast, hx]
 refine wpAny_bind (wpAny_setField ho hd (by simp) (wpAny_pure ⟨x, rfl, wpAny_pure (hQ _ ?_ (Heap.SameBut.update ..))⟩))
 exact ⟨_, Heap.get?_update_self _ ho (Obj.isFreed_of_fields (Obj.data_mapFields hd _)), (Obj.cls_mapFields ..).trans hc, by
  rw [Obj.data_mapFields hd]; simp [rawInt]⟩
theorem nextOf_tuple_end {it t : Addr} {i : Nat} {items} {Q : Value → Shared → Prop} (hh : A.handled = none) (hit : s.heap.IsTupleIter it t i) (ht : s.heap.IsTuple t items) (hx : items[i]? = none)
  (hE : ∀ h' e, Heap.ExtBut it s.heap h' → (∃ o, h'.get? e = some o ∧ o.cls = .type "StopIteration") → E (.ref e) { s with heap := h' }) :
  wpAny (model prog w) A (Builtin.SmallTypes.nextOf (.ref it)) Q E s := by
 obtain ⟨o, ho, hc, hd⟩ := id hit
 obtain ⟨ol, hol, _, nl, hdl⟩ := ht
 unfold Builtin.SmallTypes.nextOf
 refine wpAny_bind (wpAny_callSpecial?_slot (name := Str.ofString "__next__") hit.typeIs F.slot_tuple_iterator_next
  (wpAny_call_entry F.slot_tuple_iterator_next hit.typeIs F.entry_tuple_iterator_next ?_ (F.args_tuple_iterator_next_1 _)))
 show wpAny _ _ (field (.ref it) 0 >>= _) _ _ s
 refine wpAny_bind (wpAny_field ho hd (x := .ref t) rfl ?_)
 show wpAny _ _ (if (Value.ref t == Value.none) = true then _ else _) _ _ s
 rw [if_neg (show ¬ ((Value.ref t == Value.none) = true) from Bool.false_ne_true)]
 show wpAny _ _ (field (.ref it) 1 >>= _) _ _ s
 refine wpAny_bind (wpAny_field ho hd (x := .int i 0) rfl ?_)
 show wpAny _ _ (seqItems? (.ref t) >>= _) _ _ s
 refine wpAny_bind (wpAny_seqItems hol hdl ?_)
 simp only [Int.toNat_natCast, hx]
 refine wpAny_bind (wpAny_rule (wpAny_bind (wpAny_setField ho hd (by simp) ?_)))
 show wpAny _ _ (newExc (.type "StopIteration") [] >>= _) _ _ _
 refine wpAny_bind ?_
 simp only [newExc, newTuple]
 refine wpAny_bind (wpAny_newObj_type ?_ (by size_fits))
 refine wpAny_bind (m := firstArgMember _ _) (wpAny_of_eq (a := Value.none) (by first | rfl | (simp only [firstArgMember]; rfl)) ?_)
 refine wpAny_newObj_type ?_ (by size_fits)
 simp only [raiseNew]
 refine wpAny_bind (wpAny_handled ?_)
 first | rw [show A.in1.handled = none from hh] | rw [hh]
 refine wpAny_bind (wpAny_pure (wpAny_throw ?_))
 exact hE _ _ (((Heap.SameBut.update ..).extBut.push _).push _) ⟨_, Heap.get?_push_size _ rfl, rfl⟩
theorem jB {b : Bool} {it t : Addr} {i : Nat} {items} {x : Value} {Q : Value → Shared → Prop} (hit : ItAt b s.heap it t i) (ht : SqAt b s.heap t items) (hx : items[i]? = some x)
  (hQ : ∀ h', ItAt b h' it t (i + 1) → Heap.SameBut it s.heap h' → Q x { s with heap := h' }) : wpAny (model prog w) A (Builtin.SmallTypes.nextOf (.ref it)) Q E s := by
 cases b
 ·exact nextOf_tuple_item hit ht hx hQ
 ·exact wpAny_nextOf_list_item hit ht hx hQ
theorem wx {b : Bool} {it t : Addr} {i : Nat} {items} {Q : Value → Shared → Prop} (hh : A.handled = none) (hit : ItAt b s.heap it t i) (ht : SqAt b s.heap t items) (hx : items[i]? = none)
  (hE : ∀ h' e, Heap.ExtBut it s.heap h' → (∃ o, h'.get? e = some o ∧ o.cls = .type "StopIteration") → E (.ref e) { s with heap := h' }) :
  wpAny (model prog w) A (Builtin.SmallTypes.nextOf (.ref it)) Q E s := by
 cases b
 ·exact nextOf_tuple_end hh hit ht hx hE
 ·exact wpAny_nextOf_list_end hh hit ht hx hE
theorem wY {b : Bool} {t : Addr} {items} {Q : Value → Shared → Prop} (ht : SqAt b s.heap t items)
  (hQ : Q (.ref s.heap.objs.size) { s with heap := s.heap.push { cls := .type (xH b), data := .fields #[.ref t, .int 0 0] } }) : wpAny (model prog w) A (pyIter (.ref t)) Q E s := by
 cases b
 ·exact wpAny_pyIter_tuple ht hQ
 ·exact wpAny_pyIter_list ht hQ
theorem zip_item {b1 b2 : Bool} {z TI TO i1 i2 l1 l2 : Addr} {k1 k2 : Nat} {xs ys : Array Value} {x y a b : Value} {Q : Value → Shared → Prop} (D : ZipApart z TI TO i1 i2 l1 l2)
  (hz : IsZip s.heap z TI TO .none) (hTI : IsPair s.heap TI (.ref i1) (.ref i2)) (hTO : IsPair s.heap TO a b)
  (h1 : ItAt b1 s.heap i1 l1 k1) (h2 : ItAt b2 s.heap i2 l2 k2) (hl1 : SqAt b1 s.heap l1 xs) (hl2 : SqAt b2 s.heap l2 ys) (hx : xs[k1]? = some x) (hy : ys[k2]? = some y)
  (hQ : ∀ h', IsZip h' z TI TO (rawInt s.heap.objs.size) → IsPair h' TO x y → ItAt b1 h' i1 l1 (k1 + 1) → ItAt b2 h' i2 l2 (k2 + 1) → IsPair h' s.heap.objs.size x y → h'.objs.size = s.heap.objs.size + 1 →
   (∀ c o, c ≠ z → c ≠ TO → c ≠ i1 → c ≠ i2 → s.heap.get? c = some o → h'.get? c = some o) → Q (.ref s.heap.objs.size) { s with heap := h' }) :
  wpAny (model prog w) A (Builtin.«zip.__next__» ⟨[.ref z], []⟩) (fun fin s' => ∃ v, fin = .done (.ret v) ∧ Q v s') E s := by
 show wpAny _ _ (field (.ref z) 2 >>= _) _ _ _
 refine wpAny_bind (wpAny_field hz rfl (x := .bool false) rfl ?_)
 show wpAny _ _ (field (.ref z) 3 >>= _) _ _ _
 refine wpAny_bind (wpAny_field hz rfl (x := .ref TI) rfl ?_)
 refine wpAny_bind (wpAny_seqItems hTI rfl ?_)
 show wpAny _ _ (Builtin.SmallTypes.ownedTupleIsFree (.ref z) >>= _) _ _ _
 refine wpAny_bind ?_
 unfold Builtin.SmallTypes.ownedTupleIsFree
 refine wpAny_bind (wpAny_field hz rfl (x := .none) rfl (wpAny_pure ?_))
 simp only [if_true]
 refine wpAny_bind (wpAny_rule ?_)
 refine wpAny_bind (wpAny_field hz rfl (x := .ref TO) rfl ?_)
 refine wpAny_bind (wpAny_setField_rec hz (by simp) fun h₁ hz₁ hs₁ => ?_)
 replace hz₁ : IsZip h₁ z TI TO .ellipsis := hz₁
 refine wpAny_bind ?_
 simp only [List.zipIdx_cons, List.zipIdx_nil, List.forIn_cons, List.forIn_nil]
 refine wpAny_bind (wpAny_bind (wpAny_onRaise ?_))
 show wpAny _ _ (Builtin.SmallTypes.nextOf (.ref i1) >>= _) _ _ _
 refine wpAny_bind (jB (h1.at' fun o e => hs₁.extBut _ _ D.i1z e) (hl1.at' fun o e => hs₁.extBut _ _ D.l1z e) hx fun h₂ h1₂ hs₂ => wpAny_pure ?_)
 have hTO₂ : IsPair h₂ TO a b := hs₂.extBut _ _ D.TOi1 (hs₁.extBut _ _ D.TOz hTO)
 refine wpAny_bind (wpAny_seqItems hTO₂ rfl ?_)
 refine wpAny_bind (wpAny_updateSeq_pair hTO₂ fun h₃ hTO₃ hs₃ => ?_)
 replace hTO₃ : IsPair h₃ TO x b := hTO₃
 refine wpAny_bind (wpAny_letGo (wpAny_pure ?_))
 refine wpAny_bind (wpAny_bind (wpAny_onRaise ?_))
 show wpAny _ _ (Builtin.SmallTypes.nextOf (.ref i2) >>= _) _ _ _
 refine wpAny_bind (jB (h2.at' fun o e => hs₃.extBut _ _ D.TOi2.symm (hs₂.extBut _ _ D.i12.symm (hs₁.extBut _ _ D.i2z e)))
  (hl2.at' fun o e => hs₃.extBut _ _ D.l2TO (hs₂.extBut _ _ D.l2i1 (hs₁.extBut _ _ D.l2z e))) hy fun h₄ h2₄ hs₄ => wpAny_pure ?_)
 have hTO₄ : IsPair h₄ TO x b := hs₄.extBut _ _ D.TOi2 hTO₃
 refine wpAny_bind (wpAny_seqItems hTO₄ rfl ?_)
 refine wpAny_bind (wpAny_updateSeq_pair hTO₄ fun h₅ hTO₅ hs₅ => ?_)
 replace hTO₅ : IsPair h₅ TO x y := hTO₅
 refine wpAny_bind (wpAny_letGo (wpAny_pure (wpAny_pure ?_)))
 refine wpAny_bind (wpAny_seqItems hTO₅ rfl ?_)
 refine wpAny_bind (wpAny_newTuple ?_)
 have hsz : h₅.objs.size = s.heap.objs.size := by rw [hs₅.1, hs₄.1, hs₃.1, hs₂.1, hs₁.1]
 have hz₅ : IsZip h₅ z TI TO .ellipsis := hs₅.extBut _ _ D.TOz.symm (hs₄.extBut _ _ D.i2z.symm (hs₃.extBut _ _ D.TOz.symm (hs₂.extBut _ _ D.i1z.symm hz₁)))
 have hk₅ : ∀ c o, c ≠ z → c ≠ TO → c ≠ i1 → c ≠ i2 → s.heap.get? c = some o → h₅.get? c = some o := fun c o c1 c2 c3 c4 e =>
  hs₅.extBut _ _ c2 (hs₄.extBut _ _ c4 (hs₃.extBut _ _ c2 (hs₂.extBut _ _ c3 (hs₁.extBut _ _ c1 e))))
 have h1₅ : ItAt b1 h₅ i1 l1 (k1 + 1) := h1₂.at' fun o e => hs₅.extBut _ _ D.TOi1.symm (hs₄.extBut _ _ D.i12 (hs₃.extBut _ _ D.TOi1.symm e))
 have h2₅ : ItAt b2 h₅ i2 l2 (k2 + 1) := h2₄.at' fun o e => hs₅.extBut _ _ D.TOi2.symm e
 have hzlt : z < h₅.objs.size := Heap.lt_size hz₅
 show wpAny _ _ (Builtin.SmallTypes.ownedTupleHandOut (.ref z) (.ref h₅.objs.size) >>= _) _ _ _
 refine wpAny_bind ?_
 unfold Builtin.SmallTypes.ownedTupleHandOut
 have hz₆ : IsZip (h₅.push { cls := .type "tuple", data := .seq #[x, y] }) z TI TO .ellipsis := Heap.get?_push_of_some _ hz₅
 refine wpAny_bind (wpAny_setField_rec hz₆ (by simp) fun h₇ hz₇ hs₇ => ?_)
 replace hz₇ : IsZip h₇ z TI TO (rawInt h₅.objs.size) := hz₇
 refine wpAny_setField_rec hz₇ (by simp) fun h₈ hz₈ hs₈ => ?_
 replace hz₈ : IsZip h₈ z TI TO (rawInt h₅.objs.size) := hz₈
 have up : ∀ c o, c ≠ z → h₅.get? c = some o → h₈.get? c = some o := fun c o c1 e => hs₈.extBut _ _ c1 (hs₇.extBut _ _ c1 (Heap.get?_push_of_some _ e))
 have hT₈ : IsPair h₈ h₅.objs.size x y := hs₈.extBut _ _ (Nat.ne_of_gt hzlt) (hs₇.extBut _ _ (Nat.ne_of_gt hzlt) (Heap.get?_push_size _ rfl))
 have hz8 : h₈.objs.size = h₅.objs.size + 1 := by rw [hs₈.1, hs₇.1, Heap.size_push]
 rw [hsz] at hz₈ hT₈ hz8
 refine wpAny_pure ⟨_, rfl, ?_⟩
 show Q (.ref h₅.objs.size) _
 rw [hsz]
 exact hQ h₈ hz₈ (up _ _ D.TOz hTO₅) (h1₅.at' fun o e => up _ o D.i1z e) (h2₅.at' fun o e => up _ o D.i2z e) hT₈ hz8 fun c o c1 c2 c3 c4 e => up c o c1 (hk₅ c o c1 c2 c3 c4 e)
theorem zip_end {b1 b2 : Bool} {z TI TO i1 i2 l1 l2 : Addr} {k1 k2 : Nat} {xs ys : Array Value} {a b : Value} {Q : Fin → Shared → Prop} (hh : A.handled = none) (D : ZipApart z TI TO i1 i2 l1 l2)
  (hz : IsZip s.heap z TI TO .none) (hTI : IsPair s.heap TI (.ref i1) (.ref i2)) (hTO : IsPair s.heap TO a b)
  (h1 : ItAt b1 s.heap i1 l1 k1) (h2 : ItAt b2 s.heap i2 l2 k2) (hl1 : SqAt b1 s.heap l1 xs) (hl2 : SqAt b2 s.heap l2 ys) (hend : xs[k1]? = none ∨ ys[k2]? = none)
  (hE : ∀ h' e, (∀ c o, c ≠ z → c ≠ TO → c ≠ i1 → c ≠ i2 → s.heap.get? c = some o → h'.get? c = some o) → (∃ o, h'.get? e = some o ∧ o.cls = .type "StopIteration") → E (.ref e) { s with heap := h' }) :
  wpAny (model prog w) A (Builtin.«zip.__next__» ⟨[.ref z], []⟩) Q E s := by
 show wpAny _ _ (field (.ref z) 2 >>= _) _ _ _
 refine wpAny_bind (wpAny_field hz rfl (x := .bool false) rfl ?_)
 show wpAny _ _ (field (.ref z) 3 >>= _) _ _ _
 refine wpAny_bind (wpAny_field hz rfl (x := .ref TI) rfl ?_)
 refine wpAny_bind (wpAny_seqItems hTI rfl ?_)
 show wpAny _ _ (Builtin.SmallTypes.ownedTupleIsFree (.ref z) >>= _) _ _ _
 refine wpAny_bind ?_
 unfold Builtin.SmallTypes.ownedTupleIsFree
 refine wpAny_bind (wpAny_field hz rfl (x := .none) rfl (wpAny_pure ?_))
 simp only [if_true]
 refine wpAny_bind (wpAny_rule ?_)
 refine wpAny_bind (wpAny_field hz rfl (x := .ref TO) rfl ?_)
 refine wpAny_bind (wpAny_setField_rec hz (by simp) fun h₁ hz₁ hs₁ => ?_)
 replace hz₁ : IsZip h₁ z TI TO .ellipsis := hz₁
 refine wpAny_bind ?_
 simp only [List.zipIdx_cons, List.zipIdx_nil, List.forIn_cons, List.forIn_nil]
 refine wpAny_bind (wpAny_bind (wpAny_onRaise ?_))
 show wpAny _ _ (Builtin.SmallTypes.nextOf (.ref i1) >>= _) _ _ _
 cases hx : xs[k1]? with
 | none =>
  refine wpAny_bind (wx hh (h1.at' fun o e => hs₁.extBut _ _ D.i1z e) (hl1.at' fun o e => hs₁.extBut _ _ D.l1z e) hx fun h₂ e hs₂ he => ?_)
  obtain ⟨oe, hoe, hce⟩ := he
  have hz₂ : IsZip h₂ z TI TO .ellipsis := hs₂ _ _ D.i1z.symm hz₁
  have hez : e ≠ z := fun x => by subst x; rw [hz₂] at hoe; cases hoe; simp at hce
  refine wpAny_setField_rec hz₂ (by simp) fun h₃ _ hs₃ => hE h₃ e (fun c o c1 _ c3 _ x => hs₃.extBut _ _ c1 (hs₂ _ _ c3 (hs₁.extBut _ _ c1 x))) ⟨oe, hs₃.extBut _ _ hez hoe, hce⟩
 | some x =>
  have hy : ys[k2]? = none := by rcases hend with h | h; rw [hx] at h; cases h; exact h
  refine wpAny_bind (jB (h1.at' fun o e => hs₁.extBut _ _ D.i1z e) (hl1.at' fun o e => hs₁.extBut _ _ D.l1z e) hx fun h₂ h1₂ hs₂ => wpAny_pure ?_)
  have hTO₂ : IsPair h₂ TO a b := hs₂.extBut _ _ D.TOi1 (hs₁.extBut _ _ D.TOz hTO)
  refine wpAny_bind (wpAny_seqItems hTO₂ rfl ?_)
  refine wpAny_bind (wpAny_updateSeq_pair hTO₂ fun h₃ hTO₃ hs₃ => ?_)
  refine wpAny_bind (wpAny_letGo (wpAny_pure ?_))
  refine wpAny_bind (wpAny_bind (wpAny_onRaise ?_))
  show wpAny _ _ (Builtin.SmallTypes.nextOf (.ref i2) >>= _) _ _ _
  refine wpAny_bind (wx hh (h2.at' fun o e => hs₃.extBut _ _ D.TOi2.symm (hs₂.extBut _ _ D.i12.symm (hs₁.extBut _ _ D.i2z e)))
   (hl2.at' fun o e => hs₃.extBut _ _ D.l2TO (hs₂.extBut _ _ D.l2i1 (hs₁.extBut _ _ D.l2z e))) hy fun h₄ e hs₄ he => ?_)
  obtain ⟨oe, hoe, hce⟩ := he
  have hz₄ : IsZip h₄ z TI TO .ellipsis := hs₄ _ _ D.i2z.symm (hs₃.extBut _ _ D.TOz.symm (hs₂.extBut _ _ D.i1z.symm hz₁))
  have hez : e ≠ z := fun x => by subst x; rw [hz₄] at hoe; cases hoe; simp at hce
  refine wpAny_setField_rec hz₄ (by simp) fun h₅ _ hs₅ => hE h₅ e (fun c o c1 c2 c3 c4 x => hs₅.extBut _ _ c1 (hs₄ _ _ c4 (hs₃.extBut _ _ c2 (hs₂.extBut _ _ c3 (hs₁.extBut _ _ c1 x))))) ⟨oe, hs₅.extBut _ _ hez hoe, hce⟩
abbrev zH1 (h : Heap) (b1 : Bool) (l1 : Addr) : Heap := h.push { cls := .type (xH b1), data := .fields #[.ref l1, .int 0 0] }
abbrev zH2 (h : Heap) (b1 b2 : Bool) (l1 l2 : Addr) : Heap := (zH1 h b1 l1).push { cls := .type (xH b2), data := .fields #[.ref l2, .int 0 0] }
noncomputable abbrev zH3 (h : Heap) (b1 b2 : Bool) (l1 l2 : Addr) : Heap := (zH2 h b1 b2 l1 l2).push { cls := .type "tuple", data := .seq #[.ref h.objs.size, .ref (zH1 h b1 l1).objs.size] }
noncomputable abbrev zH4 (h : Heap) (b1 b2 : Bool) (l1 l2 : Addr) : Heap := (zH3 h b1 b2 l1 l2).push { cls := .type "tuple", data := .seq #[.none, .none] }
noncomputable abbrev zH5 (h : Heap) (b1 b2 : Bool) (l1 l2 : Addr) : Heap := (zH4 h b1 b2 l1 l2).push { cls := .type "zip", data := .fields #[.none, .bool false, .bool false, .ref (zH2 h b1 b2 l1 l2).objs.size, .ref (zH3 h b1 b2 l1 l2).objs.size] }
end
theorem meets_zip {b1 b2 : Bool} (l1 l2 : Addr) (xs ys : Array Value) :
  Meets (Builtin.«zip.__new__» ⟨[.type "zip", .ref l1, .ref l2], []⟩) (fun _ R s => SqAt b1 s.heap l1 xs ∧ SqAt b2 s.heap l2 ys ∧
   R (.ok (.ret (.ref (zH4 s.heap b1 b2 l1 l2).objs.size))) { s with heap := zH5 s.heap b1 b2 l1 l2 }) :=
 .of_wp fun prog w A R s h => by
  obtain ⟨hp, g, d, tk, os⟩ := s; obtain ⟨hl1, hl2, h⟩ := h
  have hsub := sub_zip
  have hL1 : SqAt b1 (Shared.heap ⟨hp, g, d, tk, os⟩) l1 xs := hl1
  have hL2 : SqAt b2 (Shared.heap ⟨hp.push { cls := .type (xH b1), data := .fields #[.ref l1, .int 0 0] }, g, d, tk, os⟩) l2 ys := hl2.at' fun o e => Heap.get?_push_of_some _ e
  wp_walk using wY hL1, wY hL2
  exact ⟨_, rfl, h⟩
section
variable {prog : Program} {w : World} {A : Around} {E : Value → Shared → Prop} {s : Shared}
theorem ItAt.new {b : Bool} {h : Heap} {it l : Addr} (e : h.get? it = some { cls := .type (xH b), data := .fields #[.ref l, .int 0 0] }) : ItAt b h it l 0 := by
 cases b <;> exact ⟨_, e, rfl, rfl⟩
theorem call_zip {b1 b2 : Bool} {l1 l2 : Addr} {xs ys : Array Value} {Q : Value → Shared → Prop} (hl1 : SqAt b1 s.heap l1 xs) (hl2 : SqAt b2 s.heap l2 ys)
  (h : ∀ h', IsZip h' (s.heap.objs.size + 4) (s.heap.objs.size + 2) (s.heap.objs.size + 3) .none → IsPair h' (s.heap.objs.size + 2) (.ref s.heap.objs.size) (.ref (s.heap.objs.size + 1)) →
   IsPair h' (s.heap.objs.size + 3) .none .none → ItAt b1 h' s.heap.objs.size l1 0 → ItAt b2 h' (s.heap.objs.size + 1) l2 0 → h'.objs.size = s.heap.objs.size + 5 →
   (∀ c o, s.heap.get? c = some o → h'.get? c = some o) → Q (.ref (s.heap.objs.size + 4)) { s with heap := h' }) :
  wpAny (model prog w) A (call (.type "zip") [.ref l1, .ref l2]) Q E s := by
 refine callType_new F.called_zip (by decide) (F.typeCall_zip_2 _ _) (F.newCall_zip_2 _ _) (fun obj => F.args_object_init_3 obj _ _) F.entry_zip_new
  (meets_zip (b1 := b1) (b2 := b2) l1 l2 xs ys) ⟨hl1, hl2, ?_⟩
 have z1 : (zH1 s.heap b1 l1).objs.size = s.heap.objs.size + 1 := Heap.size_push ..
 have z2 : (zH2 s.heap b1 b2 l1 l2).objs.size = s.heap.objs.size + 2 := by rw [Heap.size_push, z1]
 have z3 : (zH3 s.heap b1 b2 l1 l2).objs.size = s.heap.objs.size + 3 := by rw [Heap.size_push, z2]
 have z4 : (zH4 s.heap b1 b2 l1 l2).objs.size = s.heap.objs.size + 4 := by rw [Heap.size_push, z3]
 have z5 : (zH5 s.heap b1 b2 l1 l2).objs.size = s.heap.objs.size + 5 := by rw [Heap.size_push, z4]
 have g5 : (zH5 s.heap b1 b2 l1 l2).get? (zH4 s.heap b1 b2 l1 l2).objs.size = some _ := Heap.get?_push_size _ rfl
 have g4 : (zH5 s.heap b1 b2 l1 l2).get? (zH3 s.heap b1 b2 l1 l2).objs.size = some _ := Heap.get?_push_of_some _ (Heap.get?_push_size _ rfl)
 have g3 : (zH5 s.heap b1 b2 l1 l2).get? (zH2 s.heap b1 b2 l1 l2).objs.size = some _ := Heap.get?_push_of_some _ (Heap.get?_push_of_some _ (Heap.get?_push_size _ rfl))
 have g2 : (zH5 s.heap b1 b2 l1 l2).get? (zH1 s.heap b1 l1).objs.size = some _ := Heap.get?_push_of_some _ (Heap.get?_push_of_some _ (Heap.get?_push_of_some _ (Heap.get?_push_size _ rfl)))
 have g1 : (zH5 s.heap b1 b2 l1 l2).get? s.heap.objs.size = some _ := Heap.get?_push_of_some _ (Heap.get?_push_of_some _ (Heap.get?_push_of_some _ (Heap.get?_push_of_some _ (Heap.get?_push_size _ rfl))))
 show _ ∧ _
 rw [z2, z3, z4] at g5
 rw [z1, z2] at g3
 rw [z3] at g4
 rw [z1] at g2
 rw [z4]
 exact ⟨⟨_, g5, rfl⟩, h _ g5 g3 g4 (ItAt.new g1) (ItAt.new g2) z5 fun c o x =>
  Heap.get?_push_of_some _ (Heap.get?_push_of_some _ (Heap.get?_push_of_some _ (Heap.get?_push_of_some _ (Heap.get?_push_of_some _ x))))⟩
end
def SqB (b : Bool) (K : PySem.W.Frag) (H : Hp) (a : Addr) (xs : List V) : Prop := if b = true then SqL K H a xs else SqT K H a xs
theorem Inv.sqB {X : Cx} {pins : List (Addr × Obj)} {σ : St} {H : Hp} {s : Shared} {b : Bool} {a : Addr} {xs : List V} (I : Inv X pins σ H s) (h : SqB b X.K H a xs) : ∃ its : List Value, Vals xs its ∧ SqAt b s.heap a its.toArray := by
 cases b
 ·obtain ⟨its, r, p, _⟩ := I.tuple (show SqT X.K H a xs from h)
  exact ⟨its, r, p⟩
 ·obtain ⟨its, r, p, _⟩ := I.list (show SqL X.K H a xs from h)
  exact ⟨its, r, p.isList⟩
theorem Inv.sqB_inj {X : Cx} {pins : List (Addr × Obj)} {σ : St} {H : Hp} {s : Shared} {b : Bool} {a : Addr} {xs ys : List V} (I : Inv X pins σ H s) (h1 : SqB b X.K H a xs) (h2 : SqB b X.K H a ys) : xs = ys := by
 cases b
 ·exact I.tuple_inj (show SqT X.K H a xs from h1) (show SqT X.K H a ys from h2)
 ·exact I.list_inj (show SqL X.K H a xs from h1) (show SqL X.K H a ys from h2)
def Itz (K : PySem.W.Frag) (b1 b2 : Bool) (a1 a2 : Addr) : It :=
 ⟨fun i H => ∃ xs ys x y, SqB b1 K H a1 xs ∧ SqB b2 K H a2 ys ∧ xs[i]? = some x ∧ ys[i]? = some y,
   fun i H v H' => ∃ t x y, H t = none ∧ v = .ref t ∧ (∀ xs, SqB b1 K H a1 xs → xs[i]? = some x) ∧ (∀ ys, SqB b2 K H a2 ys → ys[i]? = some y) ∧ H' = upd H t (.tup [x, y]),
   fun i H => ∃ xs ys, SqB b1 K H a1 xs ∧ SqB b2 K H a2 ys ∧ (xs.length ≤ i ∨ ys.length ≤ i)⟩
theorem SqB.there {X : Cx} {pins : List (Addr × Obj)} {σ : St} {H : Hp} {s : Shared} {b : Bool} {a : Addr} {xs : List V} (I : Inv X pins σ H s) (h : SqB b X.K H a xs) : ∃ o, s.heap.get? a = some o ∧ (o.cls = .type "list" ∨ o.cls = .type "tuple") ∧ ∃ its n, o.data = .seq its n := by
 obtain ⟨its, _, p⟩ := I.sqB h
 cases b
 ·obtain ⟨o, e, c, n, d⟩ := p; exact ⟨o, e, .inr c, _, n, d⟩
 ·obtain ⟨o, e, c, n, d⟩ := p; exact ⟨o, e, .inl c, _, n, d⟩
theorem turn_zip {P : Program} {w : World} {K : PySem.W.Frag} {elts : List Expr} {x1} {pos : Pos} {b1 b2 : Bool} (z TI TO i1 i2 l1 l2 : Addr) (D : ZipApart z TI TO i1 i2 l1 l2) :
  Turn P w K (.Tuple elts x1 pos) (Itz K b1 b2 l1 l2) [z, TI, TO, i1, i2] z (fun i h => IsZip h z TI TO .none ∧ IsPair h TI (.ref i1) (.ref i2) ∧ (∃ a b, IsPair h TO a b) ∧ ItAt b1 h i1 l1 i ∧ ItAt b2 h i2 l2 i) where
 mem := by simp
 obj := fun i h st b hb => by
  obtain ⟨hz, hTI, ⟨a, b', hTO⟩, h1, h2⟩ := st
  simp only [List.mem_cons, List.not_mem_nil, or_false] at hb
  rcases hb with rfl | rfl | rfl | rfl | rfl
  ·exact ⟨_, hz, fun v z => by cases z⟩
  ·exact ⟨_, hTI, fun v z => by cases z⟩
  ·exact ⟨_, hTO, fun v z => by cases z⟩
  ·exact h1.obj
  ·exact h2.obj
 keep := fun i h h' st k => by
  obtain ⟨hz, hTI, ⟨a, b', hTO⟩, h1, h2⟩ := st
  exact ⟨k z (by simp) _ hz, k TI (by simp) _ hTI, ⟨a, b', k TO (by simp) _ hTO⟩, h1.at' fun o e => k i1 (by simp) o e, h2.at' fun o e => k i2 (by simp) o e⟩
 item := by
  intro X hP hw hK hc i pins s σ H E I hf st hg
  subst hP hw hK
  obtain ⟨hz, hTI, ⟨a, b', hTO⟩, h1, h2⟩ := st
  obtain ⟨xs, ys, x, y, q1, q2, hx, hy⟩ := hg
  obtain ⟨its1, r1, p1⟩ := I.sqB q1
  obtain ⟨its2, r2, p2⟩ := I.sqB q2
  obtain ⟨u1, hu1, ru1⟩ := r1.get hx
  obtain ⟨u2, hu2, ru2⟩ := r2.get hy
  have hT : s.TypeIs (.ref z) "zip" := ⟨_, hz, rfl⟩
  unfold pyNext
  refine wpAny_bind (wpAny_attempt (wpAny_callSpecial?_slot (name := Str.ofString "__next__") hT F.slot_zip_next (wpAny_call_entry F.slot_zip_next hT F.entry_zip_next
   (zip_item D hz hTI hTO h1 h2 p1 p2 (x := u1) (y := u2) (by simpa using hu1) (by simpa using hu2) fun h' a1 a2 a3 a4 a5 a6 hk => wpAny_pure ?_) (F.args_zip_next_1 _))))
  refine ⟨_, rfl, ?_⟩
  have I1 : Inv X pins σ (upd H s.heap.objs.size (.tup [x, y])) { s with heap := h' } := I.turnNew (t' := s.toks) hf (Nat.le_refl _) (fun b o hb q => hk b o (fun z => hb (by simp [z])) (fun z => hb (by simp [z])) (fun z => hb (by simp [z])) (fun z => hb (by simp [z])) q)
   ⟨by show 2 ≤ sizeLine; decide, [u1, u2], .cons ru1 (.cons ru2 .nil), ⟨_, a5, rfl, _, rfl⟩⟩
  have hn : H s.heap.objs.size = none := I.hok.fresh (Nat.le_refl _)
  have ne : ∀ b ∈ [z, TI, TO, i1, i2], b ≠ s.heap.objs.size := fun b hb => by
   have : ∃ o, s.heap.get? b = some o := by
    simp only [List.mem_cons, List.not_mem_nil, or_false] at hb
    rcases hb with rfl | rfl | rfl | rfl | rfl
    ·exact ⟨_, hz⟩
    ·exact ⟨_, hTI⟩
    ·exact ⟨_, hTO⟩
    ·exact let ⟨o, e, _⟩ := h1.obj; ⟨o, e⟩
    ·exact let ⟨o, e, _⟩ := h2.obj; ⟨o, e⟩
   obtain ⟨o, e⟩ := this
   exact Nat.ne_of_lt (Heap.lt_size e)
  have fr : ∀ b ∈ [z, TI, TO, i1, i2], (upd H s.heap.objs.size (.tup [x, y])) b = none := fun b hb => by rw [upd_ne (ne b hb)]; exact (hf b hb).1
  have hTI' : IsPair h' TI (.ref i1) (.ref i2) := hk _ _ D.TIz D.TITO D.TIi1 D.TIi2 hTI
  refine wpAny_letOwnedTupleGo_zip a1 fun h'' hz'' hs'' => ?_
  refine ⟨.ref s.heap.objs.size, _, I1.turnL (t' := s.toks) (ch := [z]) (fun b hb => ?_) (fun b o hb q => (hs''.2 b (fun z => hb (by simp [z]))).trans q), rfl,
   ⟨s.heap.objs.size, x, y, hn, rfl, fun zs hy => by rw [I.sqB_inj hy q1]; exact hx, fun zs hz => by rw [I.sqB_inj hz q2]; exact hy, rfl⟩,
   ⟨hz'', hs''.extBut _ _ D.TIz hTI', ⟨_, _, hs''.extBut _ _ D.TOz a2⟩, a3.at' fun o e => hs''.extBut _ _ D.i1z e, a4.at' fun o e => hs''.extBut _ _ D.i2z e⟩, fr⟩
  obtain rfl : b = z := by simpa using hb
  exact ⟨fr b (by simp), (hf b (by simp)).2⟩
 done := by
  intro X hP hw hK hc i pins s σ H E I hf st hg
  subst hP hw hK
  obtain ⟨hz, hTI, ⟨a, b', hTO⟩, h1, h2⟩ := st
  obtain ⟨xs, ys, q1, q2, hx⟩ := hg
  obtain ⟨its1, r1, p1⟩ := I.sqB q1
  obtain ⟨its2, r2, p2⟩ := I.sqB q2
  have e1 := r1.length
  have e2 := r2.length
  have hT : s.TypeIs (.ref z) "zip" := ⟨_, hz, rfl⟩
  have hend : its1.toArray[i]? = none ∨ its2.toArray[i]? = none := by
   rcases hx with h | h
   ·exact .inl (by simp; omega)
   ·exact .inr (by simp; omega)
  unfold pyNext
  refine wpAny_bind (wpAny_attempt (wpAny_callSpecial?_slot (name := Str.ofString "__next__") hT F.slot_zip_next
   (wpAny_call_entry F.slot_zip_next hT F.entry_zip_next (zip_end (I.ok.hd hc) D hz hTI hTO h1 h2 p1 p2 hend fun h' e hk he => ?_) (F.args_zip_next_1 _))))
  obtain ⟨o, ho, hcl⟩ := he
  refine wpAny_bind (wpAny_isInstance (T := "StopIteration") (b := true) ⟨o, ho, hcl⟩ isSubtype_stop ?_)
  exact wpAny_pure ⟨rfl, I.turnL (t' := s.toks) hf fun b o hb q => hk b o (fun z => hb (by simp [z])) (fun z => hb (by simp [z])) (fun z => hb (by simp [z])) (fun z => hb (by simp [z])) q⟩
 self := fun _ _ _ _ _ st h => wpAny_pyIter_zip st.1 h
theorem zip_apart (n l1 l2 : Nat) (h1 : l1 < n) (h2 : l2 < n) : ZipApart (n + 4) (n + 2) (n + 3) n (n + 1) l1 l2 := by
 constructor <;> (show (_ : Nat) ≠ _) <;> omega
def iZip (X : Cx) (ta : TA) : TI := fun σ H R => X.mg "zip" = none ∧ ta σ H fun vs H1 => ∃ b1 b2 l1 l2 xs ys, vs = [.ref l1, .ref l2] ∧ SqB b1 X.K H1 l1 xs ∧ SqB b2 X.K H1 l2 ys ∧ R (Itz X.K b1 b2 l1 l2) H1
theorem Zn {X : Cx} {a b : Expr} {elts : List Expr} {x1} {tp p pos : Pos} {ta : TA} (ha : PA X [a, b] ta) (hg : Gl X "zip" := by rfl)
  (hs : starEach [a, b] X.env = (false, eval a X.env) :: starEach [b] X.env := by rfl) (hpl : (backTo pos (starEach [b] X.env)).any (·.1) = false := by rfl) :
  PI X (.Tuple elts x1 tp) (.Call (.Name "zip" p) [a, b] [] pos) (iZip X ta) := by
 intro pins s σ H R I h
 refine wpAny_Call_Name_kw (j3 I hg h.1 bo_zip ?_)
 refine PyProof.Rows.callWith_type1 (thn (ha pos pins s σ H _ I h.2) fun us s1 ⟨vs, H1, I1, r1, q1⟩ => ?_) hs hpl
 obtain ⟨b1, b2, l1, l2, xs, ys, rfl, q1, q2, hR⟩ := q1
 obtain ⟨u1, u2, rfl, rx, ry⟩ := vals2 r1
 cases rx
 cases ry
 obtain ⟨its1, rv1, p1⟩ := I1.sqB q1
 obtain ⟨its2, rv2, p2⟩ := I1.sqB q2
 obtain ⟨o1, e1, _⟩ := SqB.there I1 q1
 obtain ⟨o2, e2, _⟩ := SqB.there I1 q2
 have n1 := Heap.lt_size e1
 have n2 := Heap.lt_size e2
 refine call_zip p1 p2 fun h' hz hTI hTO h1 h2 hsz hk => wpAny_pyIter_zip hz ?_
 refine ⟨s1.heap.objs.size + 4, [s1.heap.objs.size + 4, s1.heap.objs.size + 2, s1.heap.objs.size + 3, s1.heap.objs.size, s1.heap.objs.size + 1], _, _, H1, rfl, I1.kept (t' := s1.toks) hk,
  turn_zip _ _ _ _ _ l1 l2 (zip_apart _ _ _ n1 n2), ⟨hz, hTI, ⟨_, _, hTO⟩, h1, h2⟩, fun b hb => ?_, hR⟩
 have ge : s1.heap.objs.size ≤ b := by
  simp only [List.mem_cons, List.not_mem_nil, or_false] at hb
  rcases hb with rfl | rfl | rfl | rfl | rfl
  ·exact Nat.le_add_right _ _
  ·exact Nat.le_add_right _ _
  ·exact Nat.le_add_right _ _
  ·exact Nat.le_refl _
  ·exact Nat.le_add_right _ _
 exact I1.fpOk ge (I1.hok.fresh ge)
section
variable {K : PySem.W.Frag} {σ : St} {H : Hp}
theorem for_E {a : Addr} {xs : List V} {DN : St → Hp → Prop} {B : (St → Hp → Prop) → V → St → Hp → Prop} (Pv : Nat → St → Hp → Prop) (h0 : Pv 0 σ H) (hl : ∀ i σ H, i ≤ xs.length → Pv i σ H → SqL K H a xs)
  (hs : ∀ i x t σ H, xs[i]? = some x → H t = none → Pv i σ H → B (Pv (i + 1)) (.ref t) σ (upd H t (.tup [.int i, x]))) (hd : ∀ σ H, Pv xs.length σ H → DN σ H) :
  ∃ W : Nat → Nat → St → Hp → Prop, (∃ m, W 0 m σ H) ∧ ∀ i m σ H, W i m σ H →
   ((Ite K a).stop i H ∧ DN σ H) ∨ ((Ite K a).go i H ∧ ∃ N : St → Hp → Prop, (∀ σ' H', N σ' H' → ∃ m', m' < m ∧ W (i + 1) m' σ' H') ∧ ∀ x H', (Ite K a).yld i H x H' → B N x σ H') := by
 refine ⟨fun i m σ H => m = xs.length - i ∧ i ≤ xs.length ∧ Pv i σ H, ⟨xs.length, by simp, Nat.zero_le _, h0⟩, ?_⟩
 rintro i m σ H ⟨rfl, hi, p⟩
 have q := hl i σ H hi p
 by_cases hlt : i < xs.length
 ·refine .inr ⟨⟨xs, xs[i], q, by simp [hlt]⟩, Pv (i + 1), fun σ' H' p' => ⟨xs.length - (i + 1), by omega, rfl, hlt, p'⟩, fun v H' y => ?_⟩
  obtain ⟨t, x, ht, rfl, hx, rfl⟩ := y
  exact hs i x t σ _ (hx xs q) ht p
 ·have e : i = xs.length := by omega
  subst e
  exact .inl ⟨⟨xs, q, Nat.le_refl _⟩, hd σ H p⟩
theorem Qc {b1 b2 : Bool} {a1 a2 : Addr} {xs ys : List V} {DN : St → Hp → Prop} {B : (St → Hp → Prop) → V → St → Hp → Prop} (Pv : Nat → St → Hp → Prop) (h0 : Pv 0 σ H) (hl : ∀ i σ H, i ≤ min xs.length ys.length → Pv i σ H → SqB b1 K H a1 xs ∧ SqB b2 K H a2 ys)
  (hs : ∀ i x y t σ H, xs[i]? = some x → ys[i]? = some y → H t = none → Pv i σ H → B (Pv (i + 1)) (.ref t) σ (upd H t (.tup [x, y]))) (hd : ∀ σ H, Pv (min xs.length ys.length) σ H → DN σ H) :
  ∃ W : Nat → Nat → St → Hp → Prop, (∃ m, W 0 m σ H) ∧ ∀ i m σ H, W i m σ H →
   ((Itz K b1 b2 a1 a2).stop i H ∧ DN σ H) ∨ ((Itz K b1 b2 a1 a2).go i H ∧ ∃ N : St → Hp → Prop, (∀ σ' H', N σ' H' → ∃ m', m' < m ∧ W (i + 1) m' σ' H') ∧ ∀ x H', (Itz K b1 b2 a1 a2).yld i H x H' → B N x σ H') := by
 refine ⟨fun i m σ H => m = min xs.length ys.length - i ∧ i ≤ min xs.length ys.length ∧ Pv i σ H, ⟨min xs.length ys.length, by simp, Nat.zero_le _, h0⟩, ?_⟩
 rintro i m σ H ⟨rfl, hi, p⟩
 obtain ⟨q1, q2⟩ := hl i σ H hi p
 by_cases hlt : i < min xs.length ys.length
 ·have l1 : i < xs.length := by omega
  have l2 : i < ys.length := by omega
  refine .inr ⟨⟨xs, ys, xs[i], ys[i], q1, q2, by simp [l1], by simp [l2]⟩, Pv (i + 1), fun σ' H' p' => ⟨min xs.length ys.length - (i + 1), by omega, rfl, hlt, p'⟩, fun v H' y => ?_⟩
  obtain ⟨t, x, y, ht, rfl, hx, hy, rfl⟩ := y
  exact hs i x y t σ _ (hx xs q1) (hy ys q2) ht p
 ·have e : i = min xs.length ys.length := by omega
  subst e
  exact .inl ⟨⟨xs, ys, q1, q2, by omega⟩, hd σ H p⟩
end
section
variable {X : Cx} {N : List Str} {scope : Scope} {s : Shared} {H : Hp} {fp : List Addr} {pins : List (Addr × Obj)}
theorem cxC_K : (cxC X N scope s H fp pins).K = X.K := rfl
theorem cxC_mg : (cxC X N scope s H fp pins).mg = X.mg := rfl
theorem cxC_prog : (cxC X N scope s H fp pins).prog = X.prog := rfl
theorem cxC_w : (cxC X N scope s H fp pins).w = X.w := rfl
theorem cxC_base : (cxC X N scope s H fp pins).base = X.base := rfl
end
end L2
namespace L2
open PySem PySem.Spec PySem.Calls PyProof.Rows
structure BCal (P : Program) (w : World) (K : PySem.W.Frag) (mg : Str → Option Value) (base : Heap) (x m : Str) (k : Nat) (ps : List Str) (dvs : List V) (sp : Sp) : Prop where
 ex : ∃ C f fd ds, mg x = some (.ref C) ∧ PySem.W.specialIn K (.ref C) "__getattribute__" = some (some (.builtin "type.__getattribute__")) ∧ PySem.W.readsIn K C (.type "type") = true ∧
  PySem.W.findCls K (.ref C) (.type "type") m = some (.val (.ref f)) ∧ PySem.W.handedIn (.ref f) = true ∧ FnOk P w K mg base (CXr P w) k f fd ps sp ∧ PySem.W.keepIn K (.ref f) = true ∧ Binds K fd ps ds ∧ Vals dvs ds
theorem BCal.mono {P : Program} {w : World} {K : PySem.W.Frag} {mg : Str → Option Value} {base : Heap} {x m : Str} {j k : Nat} {ps : List Str} {dvs : List V} {sp : Sp} (c : BCal P w K mg base x m j ps dvs sp) (h : j ≤ k := by decide) : BCal P w K mg base x m k ps dvs sp :=
 let ⟨C, f, fd, ds, a, b, c, d, e, g, r⟩ := c.ex; ⟨C, f, fd, ds, a, b, c, d, e, g.mono h, r⟩
section
variable {X : Cx} {G : GK} {k : Nat} {x m : Str} {p pos apos : Pos} {e : Expr} {es : List Expr} {t : TA}
def tBase (X : Cx) (k : Nat) (x m : Str) (G : GK) (t : TA) : TE := fun σ H Q => ∃ ps dvs sp, BCal X.prog X.w X.K X.mg X.base x m k ps dvs sp ∧ t σ H fun vs H1 => sp (vs ++ dvs) H1 Q (fun cls _ H' => G cls σ H')
theorem jL {pl : Sem Bool} (B : Bod X) (hr : Room k X.A) (ha : PA (X.exg G) (e :: es) t) (hg : Gl X x := by rfl) (hdb : (x == ("__debug__" : Str)) = false := by decide)
  (hst : starEach (e :: es) X.env = (false, eval e X.env) :: starEach es X.env := by rfl) (hpl : (backTo pos (starEach es X.env)).any (·.1) = false := by rfl)
  (ht : eval (.Call (.Attribute (.Name x p) m apos) (e :: es) [] pos) X.env = (do
   let ov ← eval (.Name x p) X.env
   standAt apos.atName
   let (f, first) ← holding [ov] (getMethod ov m pl)
   callWith pos f first (backTo pos (starEach (e :: es) X.env)) (backToKw pos (keywordEach [] X.env))) := by rfl) :
  PE (X.exg G) (.Call (.Attribute (.Name x p) m apos) (e :: es) [] pos) (tBase X k x m G t) := by
 intro pins s σ H Q I h
 obtain ⟨ps, dvs, sp, ⟨C, f, fd, ds, hm, hga, hrd, hfc, hhd, F, hk, hb, hd⟩, h⟩ := h
 refine PySem.W.methodCall_KW (pl := pl) (qE I hg hm ?_ hdb) ht
 refine PySem.W.method_cls I.kIn hga (PySem.W.cls_value I.kIn hrd hfc hhd ?_)
 have I0 := I.tok (s.toks + 1)
 refine PySem.W.callWith_K (first := []) (h₀ := X.base) I.ok.mod.kin hk (thn (ha pos pins _ σ H _ I0 h) fun us s1 ⟨vs, H1, I1, r, q⟩ => ⟨I1.kIn, ?_⟩) hst hpl
 exact vt B F hr hb hd I1 r q
end
structure FB (K : PySem.W.Frag) (mg : Str → Option Value) (x m qual : Str) (st : Stmt) (ps : List Str) : Prop where
 ex : ∃ C f fd, mg x = some (.ref C) ∧ PySem.W.specialIn K (.ref C) "__getattribute__" = some (some (.builtin "type.__getattribute__")) ∧ PySem.W.readsIn K C (.type "type") = true ∧
  PySem.W.findCls K (.ref C) (.type "type") m = some (.val (.ref f)) ∧ Fun K m qual st f fd ∧ PySem.W.keepIn K (.ref f) = true ∧ Binds K fd ps []
theorem FB.cal {P : Program} {w : World} {K : PySem.W.Frag} {mg : Str → Option Value} {base : Heap} {x m qual : Str} {st : Stmt} {ps : List Str} {k : Nat} {sp : Sp} (h : FB K mg x m qual st ps)
  (ok : ∀ {f fd}, Fun K m qual st f fd → FnOk P w K mg base (CXr P w) k f fd ps sp) : BCal P w K mg base x m k ps [] sp := let ⟨C, f, fd, a, b, c, d, F, kp, bi⟩ := h.ex; ⟨C, f, fd, [], a, b, c, d, rfl, ok F, kp, bi, .nil⟩
theorem fb_mk {K : PySem.W.Frag} {mg : Str → Option Value} {C : Addr} {x m qual : Str} {st : Stmt} {ps : List Str} {f : Addr} {oc : Value} {od an : Option Addr} {osl : Array (Option Value)} {kV doc pm cdv ct : Value} (gl : mg x = some (.ref C))
  (ga : PySem.W.specialIn K (.ref C) "__getattribute__" = some (some (.builtin "type.__getattribute__"))) (rd : PySem.W.readsIn K C (.type "type") = true) (fc : PySem.W.findCls K (.ref C) (.type "type") m = some (.val (.ref f)))
  (l : K.lookup f = some ⟨oc, od, .func (PySem.W.fnOf m qual (zU st) (zQ st) (zg st) .none kV doc pm an cdv ct), osl⟩)
  (c : PySem.W.codeIn K cdv qual = true) (k : PySem.W.keepIn K (.ref f) = true)
  (hb : ∀ (kV doc pm : Value) (an : Option Addr) (cdv ct : Value) (us : List Value), us.length = ps.length → bindArgs (PySem.W.fnOf m qual (zU st) (zQ st) (zg st) .none kV doc pm an cdv ct) ⟨us, []⟩ = pure (ps.zip us)) : FB K mg x m qual st ps :=
 ⟨C, f, _, gl, ga, rd, fc, jo l c k, k, (jo l c k).binds hb⟩
section
variable {X : Cx} {a b : Expr} {ta : TA} {p pos lp lpos : Pos}
def rgL (lo : Int) (n : Nat) : List V := (List.range n).map fun (i : Nat) => V.int (lo + (i : Int))
theorem vals_range {lo : Int} {n : Nat} {acc : Array Value} (h : ItemsOf (fun i v => ∃ t, v = .int (lo + i * 1) t) acc n) : Vals (rgL lo n) acc.toList := by
 have key : ∀ (k : Nat) (l : List Value) (m : Nat), l.length = m → (∀ i v, l[i]? = some v → ∃ t, v = Value.int (lo + ((k + i : Nat) : Int)) t) → Vals ((List.range' k m).map fun (i : Nat) => V.int (lo + (i : Int))) l := by
  intro k l
  induction l generalizing k with
  | nil => intro m hm _; simp at hm; subst hm; exact .nil
  | cons x r ih =>
   intro m hm hv
   obtain ⟨m, rfl⟩ : ∃ m', m = m' + 1 := ⟨r.length, by simpa using hm.symm⟩
   rw [List.range'_succ, List.map_cons]
   refine .cons ?_ (ih (k + 1) m (by simpa using hm) fun i v e => ?_)
   ·obtain ⟨t, e⟩ := hv 0 x rfl
    exact ⟨t, by simpa using e⟩
   ·obtain ⟨t, e'⟩ := hv (i + 1) v (by simpa using e)
    exact ⟨t, by rw [e']; congr 2; omega⟩
 have := key 0 acc.toList n (by simpa using h.1) fun i v e => by
  obtain ⟨t, e'⟩ := h.2 i v (by simpa using e)
  exact ⟨t, by rw [e']; simp⟩
 rw [rgL, List.range_eq_range']
 exact this
def tRg1 (X : Cx) (ta : TA) : TE := fun σ H Q => X.mg "range" = none ∧ ta σ H fun vs H1 => ∃ j : Int, vs = [.int j] ∧ ∀ p, H1 p = none → Q (.ref p) (upd H1 p (.rng 0 j))
def tRg2 (X : Cx) (ta : TA) : TE := fun σ H Q => X.mg "range" = none ∧ ta σ H fun vs H1 => ∃ i j : Int, vs = [.int i, .int j] ∧ ∀ p, H1 p = none → Q (.ref p) (upd H1 p (.rng i j))
theorem pe_rg1 (ha : PA X [a] ta) (hg : Gl X "range" := by rfl) (hs : starEach [a] X.env = [(false, eval a X.env)] := by rfl) : PE X (.Call (.Name "range" p) [a] [] pos) (tRg1 X ta) := by
 intro pins s σ H Q I h
 refine Call_ (j3 I hg h.1 boot_range (PyProof.Rows.callWith_type1 (thn (ha pos pins s σ H _ I h.2) fun us s1 ⟨vs, H1, I1, r1, q1⟩ => ?_) hs rfl))
 obtain ⟨j, e, q⟩ := q1
 subst e
 cases r1 with
 | cons r rr =>
  cases rr
  obtain ⟨t, rfl⟩ := r
  exact call_range_1 ⟨.ref _, _, I1.laid (o := .rng 0 j) (fun b o e => Heap.get?_push_of_some _ e) (Nat.le_refl _) ⟨_, _, _, Heap.get?_push_size _ rfl⟩, rfl, q _ I1.fresh⟩
theorem rgL_length {lo : Int} {n : Nat} : (rgL lo n).length = n := by simp [rgL]
theorem bt_listR (hc : X.calm = true) : CallR X (.type "list") (fun xs H Q => ∃ p lo hi, xs = [.ref p] ∧ H p = some (.rng lo hi) ∧ (-(2 ^ 62) ≤ lo ∧ lo < 2 ^ 62 ∧ -(2 ^ 62) ≤ hi ∧ hi < 2 ^ 62 ∧ (hi - lo).toNat ≤ 1000) ∧ ∀ l, H l = none → Q (.ref l) (upd H l (.lst (rgL lo (hi - lo).toNat)))) := by
 intro pins s σ H xs us Q I r h
 obtain ⟨p, lo, hi, rfl, hq, ⟨h1, h2, h3, h4, h5⟩, q⟩ := h
 obtain ⟨u, rfl, rx⟩ := xK r
 cases rx
 obtain ⟨t, u, v, e⟩ := I.hok p _ hq
 refine call_list_range (n := (hi - lo).toNat) (I.ok.hd hc) e (small_one h1 h2 h3 h4) (by rw [rangeSize_one]; split <;> omega) (by omega) fun h' tk acc' c' hk hS hit => ?_
 exact ⟨.ref _, _, I.laid (o := .lst (rgL lo (hi - lo).toNat)) (t' := tk) hk (Nat.le_refl _) ⟨by rw [rgL_length]; exact Nat.le_of_lt (zq h5), acc'.toList, c', vals_range hit, by simpa using hS⟩, rfl, q _ I.fresh⟩
end
end L2
namespace L2
open PySem PySem.Spec PyProof.Rows
def Itd (lo : Int) (n : Nat) : It := ⟨fun i _ => i < n, fun i H x H' => H' = H ∧ x = .int (lo - i), fun i _ => n ≤ i⟩
section
variable {X : Cx} {tg : Expr}
def iRng3 (X : Cx) (ta : TA) : TI := fun σ H R => X.mg "range" = none ∧ ta σ H fun vs H1 => ∃ i j : Int, vs = [.int i, .int j, .int (-1)] ∧ (-1000 ≤ i ∧ i < 1000 ∧ -1000 ≤ j ∧ j < 1000) ∧ R (Itd i (i - j).toNat) H1
end
end L2
namespace L2
open PySem PySem.Spec PyProof.Rows
section
variable {X : Cx} {tg : Expr}
def Its (x : Str) : It := ⟨fun i _ => i < x.cps.size, fun i H v H' => H' = H ∧ ∃ c, x.cps[i]? = some c ∧ v = .str ⟨#[c]⟩, fun i _ => i = x.cps.size⟩
theorem turn_str {P : Program} {w : World} {K : PySem.W.Frag} {tg : Expr} (it : Addr) (x : Str) (t : Tok) (nm : String) (hn : nm = "str_ascii_iterator" ∨ nm = "str_iterator")
  (W : ∀ A : Around, A.handled = none → Walks P w A it [it] [it] x.cps.size (SignAt x) (fun i h => h.IsStrIter it nm x t i))
  (hself : ∀ (A : Around) (i : Nat) (s : Shared) (Q : Value → Shared → Prop) (E : Value → Shared → Prop), s.heap.IsStrIter it nm x t i → Q (.ref it) s → wpAny (model P w) A (pyIter (.ref it)) Q E s) : Turn P w K tg (Its x) [it] it (fun i h => h.IsStrIter it nm x t i) where
 mem := by simp
 obj := fun i h st b hb => by
  have e : b = it := by simpa using hb
  subst e
  obtain ⟨o, e, c, d⟩ := st
  exact ⟨o, e, fun v z => by rw [d] at z; cases z⟩
 keep := fun i h h' st k => let ⟨o, e, r⟩ := st; ⟨o, k it (by simp) o e, r⟩
 item := by
  intro X hP hw hK hc i pins s σ H E I hf st hg
  subst hP hw hK
  obtain ⟨f0, f1, f2, f3, f4, f5⟩ := hf it (by simp)
  refine (W X.A (I.ok.hd hc)).item i s _ _ hg st fun v h' tk hv st' kk => ?_
  obtain ⟨c, u, hcx, rfl⟩ := hv
  have I1 : Inv X pins σ H { s with heap := h', toks := tk } := I.turned (fun b o hb e => kk b o (by simpa using hb) e) f0 f1 f3 f4 f5
  obtain ⟨o, e, c1, d⟩ := id st'
  refine ⟨_, rfl, ZP (s := { s with heap := h', toks := tk }) e c1 d (by rcases hn with rfl | rfl <;> decide) ⟨.str ⟨#[c]⟩, H, I1, ⟨_, rfl⟩, ⟨rfl, c, hcx, rfl⟩, st', fun b hb => (hf b hb).1⟩⟩
 done := by
  intro X hP hw hK hc i pins s σ H E I hf st hg
  subst hP hw hK
  have hg : i = x.cps.size := hg
  subst hg
  obtain ⟨f0, f1, f2, f3, f4, f5⟩ := hf it (by simp)
  exact (W X.A (I.ok.hd hc)).done s _ _ st fun h' tk kk => ⟨rfl, I.turned (fun b o hb e => kk b o (by simpa using hb) e) f0 f1 f3 f4 f5⟩
 self := hself
def iStr (tl : TE) : TI := fun σ H R => tl σ H fun v H1 => ∃ x, v = .str x ∧ R (Its x) H1
theorem pi_str {l : Expr} {tl : TE} (hl : PE X l tl) : PI X tg l (iStr tl) := by
 intro pins s σ H R I h
 refine thn (hl pins s σ H _ I h) fun v s1 ⟨y, H1, I1, r1, q1⟩ => ?_
 obtain ⟨x, e, q⟩ := q1
 subst e
 obtain ⟨t, rfl⟩ := r1
 have fin : ∀ nm, nm = "str_ascii_iterator" ∨ nm = "str_iterator" → (∀ A : Around, A.handled = none → Walks X.prog X.w A s1.heap.objs.size [s1.heap.objs.size] [s1.heap.objs.size] x.cps.size (SignAt x) (fun i h => h.IsStrIter s1.heap.objs.size nm x t i)) →
   (∀ (A : Around) (i : Nat) (s : Shared) (Q : Value → Shared → Prop) (E : Value → Shared → Prop), s.heap.IsStrIter s1.heap.objs.size nm x t i → Q (.ref s1.heap.objs.size) s → wpAny (model X.prog X.w) A (pyIter (.ref s1.heap.objs.size)) Q E s) →
   PIE X pins σ tg R (.ref s1.heap.objs.size) { s1 with heap := s1.heap.push { cls := .type nm, data := .fields #[.str x t, .int 0 0] } } := by
  intro nm hn W hs
  refine ⟨s1.heap.objs.size, [s1.heap.objs.size], _, _, H1, rfl, I1.kept (t' := s1.toks) fun b o e => Heap.get?_push_of_some _ e, turn_str _ x t nm hn W hs, ⟨_, Heap.get?_push_size _ rfl, rfl, rfl⟩, fun b hb => ?_, q⟩
  have e : b = s1.heap.objs.size := by simpa using hb
  subst e
  exact I1.fpOk (Nat.le_refl _) (I1.hok.fresh (Nat.le_refl _))
 cases ha : x.cps.all (· < 128)
 ·exact wpAny_pyIter_wide ha (fin _ (.inr rfl) (fun A hA => Walks.strWide hA _ x t) fun _ _ _ _ _ st h => wpAny_pyIter_striter_wide st h)
 ·exact wpAny_pyIter_ascii ha (fin _ (.inl rfl) (fun A hA => Walks.strAscii hA _ x t) fun _ _ _ _ _ st h => wpAny_pyIter_striter_ascii st h)
theorem for_S {σ : St} {H : Hp} {x : Str} {DN : St → Hp → Prop} {B : (St → Hp → Prop) → V → St → Hp → Prop} (Pv : Nat → St → Hp → Prop) (h0 : Pv 0 σ H)
  (hs : ∀ i c σ H, x.cps[i]? = some c → Pv i σ H → B (Pv (i + 1)) (.str ⟨#[c]⟩) σ H) (hd : ∀ σ H, Pv x.cps.size σ H → DN σ H) :
  ∃ W : Nat → Nat → St → Hp → Prop, (∃ m, W 0 m σ H) ∧ ∀ i m σ H, W i m σ H →
   ((Its x).stop i H ∧ DN σ H) ∨ ((Its x).go i H ∧ ∃ N : St → Hp → Prop, (∀ σ' H', N σ' H' → ∃ m', m' < m ∧ W (i + 1) m' σ' H') ∧ ∀ v H', (Its x).yld i H v H' → B N v σ H') := by
 refine ⟨fun i m σ H => m = x.cps.size - i ∧ i ≤ x.cps.size ∧ Pv i σ H, ⟨x.cps.size, by simp, Nat.zero_le _, h0⟩, ?_⟩
 rintro i m σ H ⟨rfl, hi, p⟩
 by_cases hlt : i < x.cps.size
 ·refine .inr ⟨hlt, Pv (i + 1), fun σ' H' p' => ⟨x.cps.size - (i + 1), by omega, rfl, hlt, p'⟩, fun v H' y => ?_⟩
  obtain ⟨e, c, hc, y⟩ := y
  subst e y
  exact hs i c σ _ hc p
 ·have e : i = x.cps.size := by omega
  subst e
  exact .inl ⟨rfl, hd σ H p⟩
theorem og_inS : OpR X (compareOp .In) (fun x y H Q => ∃ i j, x = .str i ∧ y = .str j ∧ Q (.bl (!(Builtin.Str.occurrences j i 0 j.length 1).isEmpty)) H) := op_in_str
theorem bt_intS : CallR X (.type "int") (fun xs H Q => ∃ x n, xs = [.str x] ∧ PySem.intText? x = some n ∧ x.length ≤ 640 ∧ Q (.int n) H) := by
 intro pins s σ H xs us Q I r h
 obtain ⟨x, n, rfl, hn, hl, q⟩ := h
 obtain ⟨u, rfl, rx⟩ := xK r
 obtain ⟨t, rfl⟩ := rx
 exact PySem.W.KIN.call_text hn hl ⟨.int n, H, I.tok _, ⟨_, rfl⟩, q⟩
theorem bi_all (hc : X.calm = true) : CallR X (.builtin "all") (fun xs H Q => ∃ p, ∃ bs : List Bool, xs = [.ref p] ∧ H p = some (.lst (bs.map V.bl)) ∧ Q (.bl (bs.all id)) H) := by
 intro pins s σ H xs us Q I r h
 obtain ⟨p, bs, rfl, hp, q⟩ := h
 obtain ⟨u, rfl, rx⟩ := xK r
 cases rx
 obtain ⟨its, rv, hl, hz⟩ := I.list (SqL.of (K := X.K) hp)
 have hl' := hl.isList
 have hlt : p < s.heap.objs.size := by obtain ⟨_, e, _⟩ := hl'; exact Heap.lt_size e
 have hlen : its.length = bs.length := by have := rv.length; rw [List.length_map] at this; exact this.symm
 refine call_all_walk (wpAny_pyIter_list hl' ?_)
 refine ⟨s.heap.objs.size, [s.heap.objs.size, p], [s.heap.objs.size], its.toArray.size, _, _, fun i => (bs[i]?).getD true, rfl, Walks.list (A := X.A.in1) (I.ok.hd hc) _ p (Nat.ne_of_lt hlt) its.toArray,
  ⟨⟨_, Heap.get?_push_size _ rfl, rfl, rfl⟩, hl'.push _⟩, fun i v s' Q' E' hP hQ => ?_, fun h' tk hk => ?_⟩
 ·have hP : its[i]? = some v := by simpa using hP
  have hib : i < bs.length := by rw [← hlen]; exact (List.getElem?_eq_some_iff.mp hP).1
  obtain ⟨u, hu, ru⟩ := rv.get (i := i) (x := .bl bs[i]) (by rw [List.getElem?_map, List.getElem?_eq_getElem hib]; rfl)
  rw [hu] at hP
  cases hP
  cases ru
  have e : (bs[i]?).getD true = bs[i] := by rw [List.getElem?_eq_getElem hib]; rfl
  simp only [e] at hQ
  exact wpAny_truthy_bool hQ
 ·have e : ((List.range its.toArray.size).all fun i => (bs[i]?).getD true) = bs.all id := by
   rw [List.size_toArray, hlen]
   cases hb : bs.all id with
   | true =>
    rw [List.all_eq_true] at hb ⊢
    intro i hi
    have hi := List.mem_range.mp hi
    rw [List.getElem?_eq_getElem hi]
    exact hb _ (List.getElem_mem hi)
   | false =>
    rw [List.all_eq_false] at hb ⊢
    obtain ⟨b, hbm, hbf⟩ := hb
    obtain ⟨i, hi, rfl⟩ := List.getElem_of_mem hbm
    exact ⟨i, List.mem_range.mpr hi, by rw [List.getElem?_eq_getElem hi]; exact hbf⟩
  rw [e]
  refine ⟨.bl (bs.all id), H, I.kept (t' := tk) (fun b o eb => hk b o (fun hm => ?_) (Heap.get?_push_of_some _ eb)), rfl, q⟩
  rw [List.mem_singleton.mp hm] at eb
  exact Nat.lt_irrefl _ (Heap.lt_size eb)
end
def jU (c : Nat) : Bool := decide (48 ≤ c) && decide (c ≤ 57)
theorem wJ : (("0123456789" : Str)).length = 10 := by decide +kernel
theorem occ_fig (c : Nat) : Builtin.Str.occurrences ("0123456789" : Str) ⟨#[c]⟩ 0 10 1 = if jU c = true then [c - 48] else [] := by
 by_cases h : jU c = true
 ·rw [if_pos h]
  have h1 : 48 ≤ c ∧ c ≤ 57 := by simpa [jU] using h
  have h2 : c = 48 ∨ c = 49 ∨ c = 50 ∨ c = 51 ∨ c = 52 ∨ c = 53 ∨ c = 54 ∨ c = 55 ∨ c = 56 ∨ c = 57 := by omega
  rcases h2 with rfl | rfl | rfl | rfl | rfl | rfl | rfl | rfl | rfl | rfl <;> decide +kernel
 ·rw [if_neg h]
  have h1 : ¬ (48 ≤ c ∧ c ≤ 57) := by simpa [jU] using h
  have := PySem.W.occ_nil_of_no (x := ("0123456789" : Str)) (y := ⟨#[c]⟩) 1 (fun i hi => ?_)
  ·rw [wJ] at this; exact this
  ·have hi : i + 1 ≤ 10 := by rw [wJ] at hi; exact hi
   have h3 : i = 0 ∨ i = 1 ∨ i = 2 ∨ i = 3 ∨ i = 4 ∨ i = 5 ∨ i = 6 ∨ i = 7 ∨ i = 8 ∨ i = 9 := by omega
   have key : ∀ d : Nat, 48 ≤ d ∧ d ≤ 57 → ((#[d] : Array Nat) == #[c]) = false := fun d hd => by
    rw [beq_eq_false_iff_ne]
    intro z
    have : d = c := by simpa using z
    omega
   rcases h3 with rfl | rfl | rfl | rfl | rfl | rfl | rfl | rfl | rfl | rfl <;> exact key _ (by decide)
end L2
namespace L2
open PySem PySem.Spec PySem.Calls PyProof.Rows
theorem j7 : ∀ {us : List Value} {ns : List Int}, IntsAre us ns → Vals (ns.map V.int) us
 | _, _, .nil => .nil
 | _, _, .cons n t h => .cons ⟨t, rfl⟩ (j7 h)
section
variable {X : Cx}
theorem bi_sorted : CallR X (.builtin "sorted") (fun xs H Q => ∃ p, ∃ ns : List Int, xs = [.ref p] ∧ SqL X.K H p (ns.map V.int) ∧ ns.length < 64 ∧
  ∀ (ms : List Int) l, ms.Perm ns → ms.Pairwise (· ≤ ·) → H l = none → Q (.ref l) (upd H l (.lst (ms.map V.int)))) := by
 intro pins s σ H xs us Q I r h
 obtain ⟨p, ns, rfl, hp, h64, q⟩ := h
 obtain ⟨u, rfl, rx⟩ := xK r
 cases rx
 obtain ⟨its, rv, hl, hz⟩ := I.list hp
 have hlen : its.length = ns.length := by have := rv.length; rw [List.length_map] at this; exact this.symm
 refine sorted_ints hl.isList (intsAre_of rv) (by omega) fun out ms a1 a2 a3 => ?_
 obtain ⟨e, he⟩ := sortedAll_at s.heap its out
 exact ⟨.ref _, _, I.laid (a := s.heap.objs.size + 1) (o := .lst (ms.map V.int)) (t' := s.toks) (fun b o h => sortedAll_old h) (Nat.le_succ _) ⟨by rw [List.length_map, a2.length_eq]; exact Nat.le_of_lt (zq (by omega)), out.toList, e, j7 a1, by simpa using he⟩, rfl, q ms _ a2 a3 (I.hok.fresh (Nat.le_succ _))⟩
end
structure FunD (K : PySem.W.Frag) (x qual : Str) (st : Stmt) (f : Addr) (fd : FuncData) : Prop where
 ex : ∃ (oc : Value) (od : Option Addr) (dV kV doc pm : Value) (an : Option Addr) (cdv ct : Value) (osl : Array (Option Value)),
  fd = PySem.W.fnOf x qual (zU st) (zQ st) (zg st) dV kV doc pm an cdv ct ∧ K.lookup f = some ⟨oc, od, .func fd, osl⟩ ∧ PySem.W.codeIn K cdv qual = true
 kp : PySem.W.keepIn K (.ref f) = true
section
variable {P : Program} {w : World} {K : PySem.W.Frag} {mg : Str → Option Value} {base : Heap}
theorem FunD.okx {x qual : Str} {st : Stmt} {f : Addr} {fd : FuncData} {N ps : List Str} {k : Nat} {sp : Sp} (F : FunD K x qual st f fd) (S : FnScope N ps (zg st)) (len : ∀ vs H Q E, sp vs H Q E → vs.length = ps.length)
  (hbody : ∀ (cdv : Value) (A : Around) (outer : List Env) (s : Shared) (H : Hp) (vs : List V) (Q : VK) (E : XK), Room k (A.deeper (envOfC qual (zg st) s.heap.objs.size f cdv)) → sp vs H Q E →
   ∃ t, PSs ((cxR P w K mg base N qual (zg st) f cdv A outer s H E).exg fun cls _ H' => E cls none H') (zQ st) t ∧ t { nx := fun _ H' => Q .non H', rt := Q } (start N vs) H) : FnOk P w K mg base (CXr P w) (k + 1) f fd ps sp := by
 obtain ⟨oc, od, dV, kV, doc, pm, an, cdv, ct, osl, rfl, lk, hcd⟩ := F.ex
 refine Qd lk hcd S len fun A outer s H vs Q E hr hsp => ?_
 obtain ⟨t, h, q⟩ := hbody cdv A outer s H vs Q E hr hsp
 refine ⟨t, fun pins s σ H' D I hw => ?_, q⟩
 refine wpAny_mono (h pins s σ H' D (I.wish _) hw) (fun _ _ z => z.unwish) fun e s' z => ?_
 refine wpAny_bind (wpAny_mono (show wpAny _ _ _ _ _ _ from z) (fun _ s1 y1 => wpAny_mono y1 (fun _ s'' y => ?_) fun _ _ y => y.elim) fun _ _ y => y.elim)
 obtain ⟨a, cls, σ2, H2, rfl, J, xx, g⟩ := y
 exact ⟨a, cls, H2, rfl, J.os, J.bare, J.base, J.hok, xx.less (fun p hp => absurd hp (by simp)), g⟩
structure FD (K : PySem.W.Frag) (mg : Str → Option Value) (x : Str) (st : Stmt) (ps : List Str) (dvs : List V) : Prop where
 ex : ∃ f fd ds, FunD K x x st f fd ∧ mg x = some (.ref f) ∧ Binds K fd ps [] ∧ Binds K fd ps ds ∧ Vals dvs ds
theorem FD.cal {x : Str} {st : Stmt} {ps : List Str} {dvs : List V} {k : Nat} {sp : Sp} (h : FD K mg x st ps dvs) (ok : ∀ {f fd}, FunD K x x st f fd → FnOk P w K mg base (CXr P w) k f fd ps sp) :
  Cal P w K mg base x k ps [] sp := let ⟨f, fd, _, F, m, b, _⟩ := h.ex; ⟨f, fd, [], ok F, m, F.kp, b, .nil⟩
end
end L2
namespace L2
open PySem PySem.Spec PySem.Calls PyProof.Rows
section
variable {prog : Program} {w : World} {A : Around} {E : Value → Shared → Prop} {s : Shared} {R : Result → Shared → Prop}
end
section
variable {X : Cx} {a : Expr} {ta : TA} {p p2 pos pos2 : Pos}
end
section
variable {X : Cx}
end
end L2
namespace L2
open PySem PySem.Spec PyProof.Rows
inductive D where
 | non | bl (b : Bool) | int (i : Int) | str (x : Str) | lst (xs : List D) | tup (xs : List D) | ob (C : Addr) (fs : List (Str × D))
inductive Rep (H : Hp) (p : Addr → Prop) : V → D → Prop where
 | non : Rep H p .non .non
 | bl {b : Bool} : Rep H p (.bl b) (.bl b)
 | int {i : Int} : Rep H p (.int i) (.int i)
 | str {x : Str} : Rep H p (.str x) (.str x)
 | lst {l : Addr} {vs : List V} {ds : List D} : p l → H l = some (.lst vs) → vs.length = ds.length → (∀ (i : Nat) v d, vs[i]? = some v → ds[i]? = some d → Rep H p v d) → Rep H p (.ref l) (.lst ds)
 | tup {l : Addr} {vs : List V} {ds : List D} : p l → H l = some (.tup vs) → vs.length = ds.length → (∀ (i : Nat) v d, vs[i]? = some v → ds[i]? = some d → Rep H p v d) → Rep H p (.ref l) (.tup ds)
 | ob {l C dx : Addr} {fs : List (Str × V)} {ds : List (Str × D)} : p l → H l = some (.ins C dx fs) → fs.map (·.1) = ds.map (·.1) → (∀ (i : Nat) f g, fs[i]? = some f → ds[i]? = some g → Rep H p f.2 g.2) → Rep H p (.ref l) (.ob C ds)
theorem Rep.keep {H H' : Hp} {p q : Addr → Prop} (s : ∀ b o, p b → H b = some o → q b ∧ H' b = some o) {v : V} {d : D} (h : Rep H p v d) : Rep H' q v d := by
 induction h with
 | non => exact .non
 | bl => exact .bl
 | int => exact .int
 | str => exact .str
 | lst pl hl e _ ih => exact .lst (s _ _ pl hl).1 (s _ _ pl hl).2 e ih
 | tup pl hl e _ ih => exact .tup (s _ _ pl hl).1 (s _ _ pl hl).2 e ih
 | ob pl hl e _ ih => exact .ob (s _ _ pl hl).1 (s _ _ pl hl).2 e ih
structure Reps (H : Hp) (p : Addr → Prop) (vs : List V) (ds : List D) : Prop where
 len : vs.length = ds.length
 g : ∀ (i : Nat) v d, vs[i]? = some v → ds[i]? = some d → Rep H p v d
section
variable {H H' : Hp} {p q : Addr → Prop} {vs us : List V} {ds es : List D} {v : V} {d : D}
theorem Reps.keep (s : ∀ b o, p b → H b = some o → q b ∧ H' b = some o) (h : Reps H p vs ds) : Reps H' q vs ds := ⟨h.len, fun i v d a b => (h.g i v d a b).keep s⟩
theorem Reps.nil : Reps H p [] [] := ⟨rfl, fun i v d h => by simp at h⟩
theorem Reps.cons (h : Rep H p v d) (k : Reps H p vs ds) : Reps H p (v :: vs) (d :: ds) := ⟨by simp [k.len], fun i u e a b => by
 cases i with
 | zero =>
  have a : v = u := by simpa using a
  have b : d = e := by simpa using b
  rw [← a, ← b]; exact h
 | succ i => exact k.g i u e (by simpa using a) (by simpa using b)⟩
theorem Reps.one (h : Rep H p v d) : Reps H p [v] [d] := .cons h .nil
theorem Reps.append (h : Reps H p vs ds) (k : Reps H p us es) : Reps H p (vs ++ us) (ds ++ es) := by
 refine ⟨by rw [List.length_append, List.length_append, h.len, k.len], fun i v r e1 e2 => ?_⟩
 by_cases hi : i < vs.length
 ·rw [List.getElem?_append_left hi] at e1
  rw [List.getElem?_append_left (by rw [← h.len]; exact hi)] at e2
  exact h.g i v r e1 e2
 ·rw [List.getElem?_append_right (by omega)] at e1
  rw [List.getElem?_append_right (by rw [← h.len]; omega), ← h.len] at e2
  exact k.g _ v r e1 e2
theorem Reps.at (h : Reps H p vs ds) {i : Nat} (e : vs[i]? = some v) : ∃ d, ds[i]? = some d ∧ Rep H p v d := by
 have hi := (List.getElem?_eq_some_iff.mp e).1
 have e2 : ds[i]? = some (ds[i]'(by rw [← h.len]; exact hi)) := List.getElem?_eq_getElem _
 exact ⟨_, e2, h.g i v _ e e2⟩
theorem Reps.of (h : Reps H p vs ds) {i : Nat} (e : ds[i]? = some d) : ∃ v, vs[i]? = some v ∧ Rep H p v d := by
 have hi := (List.getElem?_eq_some_iff.mp e).1
 have e2 : vs[i]? = some (vs[i]'(by rw [h.len]; exact hi)) := List.getElem?_eq_getElem _
 exact ⟨_, e2, h.g i _ d e2 e⟩
theorem Reps.take (h : Reps H p vs ds) (n : Nat) : Reps H p (vs.take n) (ds.take n) := ⟨by rw [List.length_take, List.length_take, h.len], fun i v d a b => by
 rw [List.getElem?_take] at a b
 by_cases hn : i < n
 ·rw [if_pos hn] at a b; exact h.g i v d a b
 ·rw [if_neg hn] at a; cases a⟩
theorem Reps.drop (h : Reps H p vs ds) (n : Nat) : Reps H p (vs.drop n) (ds.drop n) := ⟨by rw [List.length_drop, List.length_drop, h.len], fun i v d a b => by
 rw [List.getElem?_drop] at a b
 exact h.g _ v d a b⟩
theorem Reps.reverse (h : Reps H p vs ds) : Reps H p vs.reverse ds.reverse := ⟨by rw [List.length_reverse, List.length_reverse, h.len], fun i v d a b => by
 have hi : i < vs.length := by have := (List.getElem?_eq_some_iff.mp a).1; rw [List.length_reverse] at this; exact this
 rw [List.getElem?_reverse hi] at a
 rw [List.getElem?_reverse (by rw [← h.len]; exact hi), ← h.len] at b
 exact h.g _ v d a b⟩
theorem Reps.mk' {l : Addr} (h : Reps H p vs ds) (pl : p l) (e : H l = some (.lst vs)) : Rep H p (.ref l) (.lst ds) := .lst pl e h.len h.g
theorem Reps.mkT {l : Addr} (h : Reps H p vs ds) (pl : p l) (e : H l = some (.tup vs)) : Rep H p (.ref l) (.tup ds) := .tup pl e h.len h.g
theorem Rep.lst' (h : Rep H p v (.lst ds)) : ∃ l us, v = .ref l ∧ p l ∧ H l = some (.lst us) ∧ Reps H p us ds := by
 cases h with | lst a b c e => exact ⟨_, _, rfl, a, b, c, e⟩
theorem Rep.tup' (h : Rep H p v (.tup ds)) : ∃ l us, v = .ref l ∧ p l ∧ H l = some (.tup us) ∧ Reps H p us ds := by
 cases h with | tup a b c e => exact ⟨_, _, rfl, a, b, c, e⟩
theorem j0 {f : Str} : ∀ {fs : List (Str × V)} {gs : List (Str × D)}, fs.map (·.1) = gs.map (·.1) → (∀ (i : Nat) x y, fs[i]? = some x → gs[i]? = some y → Rep H p x.2 y.2) →
  (∀ d, gs.lookup f = some d → ∃ u, fs.lookup f = some u ∧ Rep H p u d) ∧ (gs.lookup f = none → fs.lookup f = none)
 | [], [], _, _ => ⟨fun d h => by simp at h, fun _ => rfl⟩
 | [], _ :: _, e, _ => by simp at e
 | _ :: _, [], e, _ => by simp at e
 | (a, u) :: fs, (b, c) :: gs, e, r => by
  have e1 : a = b := by simpa using (List.cons.inj e).1
  subst e1
  have ih := j0 (f := f) (fs := fs) (gs := gs) (List.cons.inj e).2 fun i x y hx hy => r (i + 1) x y (by simpa using hx) (by simpa using hy)
  by_cases hf : f = a
  ·have hb : (f == a) = true := beq_iff_eq.mpr hf
   refine ⟨fun d h => ?_, fun h => ?_⟩
   ·simp only [List.lookup, hb] at h ⊢
    cases h
    exact ⟨_, rfl, r 0 (a, u) (a, c) rfl rfl⟩
   ·simp only [List.lookup, hb] at h
    cases h
  ·have hb : (f == a) = false := beq_eq_false_iff_ne.mpr hf
   simp only [List.lookup, hb]
   exact ih
theorem Rep.ob' {C : Addr} {gs : List (Str × D)} (h : Rep H p v (.ob C gs)) : ∃ l dx fs, v = .ref l ∧ p l ∧ H l = some (.ins C dx fs) ∧ (∀ f d, gs.lookup f = some d → ∃ u, fs.lookup f = some u ∧ Rep H p u d) ∧ (∀ f, gs.lookup f = none → fs.lookup f = none) := by
 cases h with | ob a b c e => exact ⟨_, _, _, rfl, a, b, fun f => (j0 c e).1, fun f => (j0 c e).2⟩
abbrev D.ints (ns : List Int) : D := .lst (ns.map D.int)
theorem reps_ints : ∀ {ns : List Int}, Reps H p (ns.map V.int) (ns.map D.int)
 | [] => .nil
 | _ :: _ => .cons .int reps_ints
theorem ZO : ∀ {ns : List Int} {vs : List V}, Reps H p vs (ns.map D.int) → vs = ns.map V.int
 | [], [], _ => rfl
 | [], _ :: _, h => by have := h.len; simp at this
 | _ :: _, [], h => by have := h.len; simp at this
 | n :: ns, v :: vs, h => by
  have h1 := h.g 0 v (.int n) rfl rfl
  have h2 : Reps H p vs (ns.map D.int) := ⟨by have := h.len; simpa using this, fun i u d a b => h.g (i + 1) u d (by simpa using a) (by simpa using b)⟩
  cases h1
  rw [List.map_cons, ZO h2]
theorem Rep.ints' {ns : List Int} (h : Rep H p v (.ints ns)) : ∃ l, v = .ref l ∧ p l ∧ H l = some (.lst (ns.map V.int)) := by
 obtain ⟨l, us, e, a, b, c⟩ := h.lst'
 rw [ZO c] at b
 exact ⟨l, e, a, b⟩
theorem zY {l : Addr} {ns : List Int} (pl : p l) (e : H l = some (.lst (ns.map V.int))) : Rep H p (.ref l) (.ints ns) := reps_ints.mk' pl e
end
def Off (ms : List Addr) : Addr → Prop := fun b => b ∉ ms
def Fr (ms : List Addr) (H H' : Hp) : Prop := ∀ b o, b ∉ ms → H b = some o → H' b = some o
section
variable {H H' H2 : Hp} {ms ns : List Addr} {x : Addr} {o : HO} {v : V} {d : D} {vs : List V} {ds : List D}
theorem Fr.refl : Fr ms H H := fun _ _ _ h => h
theorem Fr.trans (a : Fr ms H H') (b : Fr ms H' H2) : Fr ms H H2 := fun c o n h => b c o n (a c o n h)
theorem Fr.more (a : Fr ms H H') (s : ∀ b, b ∈ ms → b ∈ ns) : Fr ns H H' := fun b o n h => a b o (fun z => n (s b z)) h
theorem Same.fr (a : Same H H') : Fr ms H H' := fun b o _ h => a b o h
theorem qB (h : x ∈ ms) : Fr ms H (upd H x o) := fun b u n hb => by
 rw [upd_ne (fun z => n (by rw [z]; exact h))]; exact hb
theorem Fr.same (a : Fr ms H H') (h : ∀ m ∈ ms, H m = none) : Same H H' := fun b o hb => a b o (fun z => by rw [h b z] at hb; cases hb) hb
theorem Rep.fr (h : Rep H (Off ms) v d) (s : Fr ms H H') : Rep H' (Off ms) v d := h.keep fun b o pb hb => ⟨pb, s b o pb hb⟩
theorem Reps.fr (h : Reps H (Off ms) vs ds) (s : Fr ms H H') : Reps H' (Off ms) vs ds := h.keep fun b o pb hb => ⟨pb, s b o pb hb⟩
theorem Rep.more (h : Rep H (Off ms) v d) (s : ∀ b, b ∈ ns → b ∈ ms ∨ H b = none) : Rep H (Off ns) v d := h.keep fun b o pb hb => ⟨fun z => (s b z).elim pb (fun q => by rw [q] at hb; cases hb), hb⟩
theorem Reps.more (h : Reps H (Off ms) vs ds) (s : ∀ b, b ∈ ns → b ∈ ms ∨ H b = none) : Reps H (Off ns) vs ds := h.keep fun b o pb hb => ⟨fun z => (s b z).elim pb (fun q => by rw [q] at hb; cases hb), hb⟩
theorem Rep.same (h : Rep H (Off ms) v d) (s : Same H H') : Rep H' (Off ms) v d := h.fr s.fr
theorem Reps.same (h : Reps H (Off ms) vs ds) (s : Same H H') : Reps H' (Off ms) vs ds := h.fr s.fr
theorem Rep.ahead (h : Rep H (Off []) v d) (s : Same H H') (n : ∀ m ∈ ms, H m = none) : Rep H' (Off ms) v d := h.keep fun b o _ hb => ⟨(fun z => nomatch (n b z).symm.trans hb), s b o hb⟩
theorem Reps.ahead (h : Reps H (Off []) vs ds) (s : Same H H') (n : ∀ m ∈ ms, H m = none) : Reps H' (Off ms) vs ds := h.keep fun b o _ hb => ⟨(fun z => nomatch (n b z).symm.trans hb), s b o hb⟩
theorem Rep.all {p : Addr → Prop} (h : Rep H p v d) : Rep H (Off []) v d := h.keep fun b o _ hb => ⟨(fun z => nomatch z), hb⟩
theorem Reps.all {p : Addr → Prop} (h : Reps H p vs ds) : Reps H (Off []) vs ds := h.keep fun b o _ hb => ⟨(fun z => nomatch z), hb⟩
end
theorem fd_small {i j : Int} (h1 : 0 < j) (h2 : j < 1000000) : CFd i j := fd_ok h1 (Nat.lt_of_lt_of_le (show j.natAbs < 2 ^ 20 by omega) (Nat.pow_le_pow_right (by decide) (by decide)))
theorem jx {α : Type} {xs : List α} {k : Int} (h0 : 0 ≤ k) (h1 : k < xs.length) : seqIndex? k xs.length = some k.toNat := by
 unfold seqIndex?
 have : ¬ k < 0 := by omega
 simp [this, h0, h1]
theorem qQ {K : PySem.W.Frag} {H H' : Hp} {l : Addr} {xs : List V} (s : Same H H') (h : SqL K H l xs) : SqL K H' l xs := s.seq h
theorem Qk {X : Cx} : OpR X (compareOp .In) (rIn X.K false) := op_in_seq
theorem og_notin {X : Cx} : OpR X (compareOp .NotIn) (rIn X.K true) := op_notIn_seq
def del (H : Hp) (x : Addr) : Hp := fun b => if b = x then none else H b
theorem qI {H : Hp} {x : Addr} : Same (del H x) H := fun b o h => by
 unfold del at h
 by_cases e : b = x
 ·rw [if_pos e] at h; cases h
 ·rw [if_neg e] at h; exact h
theorem Zu {H : Hp} {x b : Addr} (h : b ≠ x) : del H x b = H b := by unfold del; rw [if_neg h]
theorem wK {H : Hp} {x y : Addr} {o : HO} (h : y ≠ x) : del (upd H y o) x = upd (del H x) y o := by
 funext b
 by_cases e : b = x
 ·subst e
  rw [upd_ne (Ne.symm h)]
  unfold del
  rw [if_pos rfl, if_pos rfl]
 ·rw [Zu e]
  by_cases e2 : b = y
  ·subst e2; rw [upd_same, upd_same]
  ·rw [upd_ne e2, upd_ne e2, Zu e]
theorem Zt {H : Hp} {x : Addr} {o : HO} : del (upd H x o) x = del H x := by
 funext b
 unfold del
 by_cases e : b = x
 ·rw [if_pos e, if_pos e]
 ·rw [if_neg e, if_neg e, upd_ne e]
theorem del_new {H : Hp} {x : Addr} {o : HO} (h : H x = none) : del (upd H x o) x = H := by
 funext b
 unfold del
 by_cases e : b = x
 ·rw [if_pos e, e, h]
 ·rw [if_neg e, upd_ne e]
section
variable {K : PySem.W.Frag} {H : Hp} {Q : VK} {p : Addr → Prop} {v : V} {d : D} {ds : List D} {f : Str}
theorem rdR_fld {C : Addr} {gs : List (Str × D)} {R : V → Prop} (h : Rep H p v (.ob C gs)) (c : Cls K C) (n : NoAttr K C f) (e : gs.lookup f = some d) (q : ∀ u, Rep H p u d → R u) :
  ∃ a C dx fs u, v = .ref a ∧ H a = some (.ins C dx fs) ∧ Cls K C ∧ NoAttr K C f ∧ fs.lookup f = some u ∧ R u := by
 obtain ⟨l, dx, fs, rfl, _, a, b, _⟩ := h.ob'
 obtain ⟨u, e1, r⟩ := b f d e
 exact ⟨l, C, dx, fs, u, rfl, a, c, n, e1, q u r⟩
end
end L2
namespace L2
open PySem PySem.Spec PyProof.Rows
section
variable {X : Cx}
end
inductive Hard : D → Prop where
 | non : Hard .non
 | bl {b : Bool} : Hard (.bl b)
 | int {i : Int} : Hard (.int i)
 | str {x : Str} : Hard (.str x)
 | tup {ds : List D} : (∀ (i : Nat) d, ds[i]? = some d → Hard d) → Hard (.tup ds)
structure NL (H : Hp) (p : Addr → Prop) (G : Addr) (as : List Addr) (xss : List (List D)) : Prop where
 out : H G = some (.lst (as.map V.ref))
 len : as.length = xss.length
 nd : as.Nodup
 nG : G ∉ as
 g : ∀ (i : Nat) b xs, as[i]? = some b → xss[i]? = some xs → ∃ vs, H b = some (.lst vs) ∧ Reps H p vs xs
section
variable {H H' : Hp} {p q : Addr → Prop} {G : Addr} {as : List Addr} {xss : List (List D)}
theorem NL.keep (h : NL H p G as xss) (s : ∀ b o, (b = G ∨ b ∈ as ∨ p b) → H b = some o → H' b = some o) (sp : ∀ b, p b → H b ≠ none → q b) : NL H' q G as xss := by
 refine ⟨s _ _ (.inl rfl) h.out, h.len, h.nd, h.nG, fun i b xs e1 e2 => ?_⟩
 obtain ⟨vs, h1, h2⟩ := h.g i b xs e1 e2
 exact ⟨vs, s _ _ (.inr (.inl (List.mem_of_getElem? e1))) h1, h2.keep fun c o pc hc => ⟨sp c pc (by rw [hc]; intro z; cases z), s c o (.inr (.inr pc)) hc⟩⟩
theorem NL.same (h : NL H p G as xss) (s : Same H H') : NL H' p G as xss := h.keep (fun b o _ hb => s b o hb) fun _ hp _ => hp
theorem NL.at (h : NL H p G as xss) {i : Nat} {xs : List D} (e : xss[i]? = some xs) : ∃ b vs, as[i]? = some b ∧ H b = some (.lst vs) ∧ Reps H p vs xs := by
 have hi := (List.getElem?_eq_some_iff.mp e).1
 have e2 : as[i]? = some (as[i]'(by rw [h.len]; exact hi)) := List.getElem?_eq_getElem _
 obtain ⟨vs, h1, h2⟩ := h.g i _ xs e2 e
 exact ⟨_, vs, e2, h1, h2⟩
theorem NL.push {b : Addr} {vs : List V} {ys : List D} (h : NL H p G as xss) (hb : H b = some (.lst vs)) (nb : b ∉ as) (nG : b ≠ G) (np : ¬ p G) (r : Reps H p vs ys) : NL (upd H G (.lst (as.map V.ref ++ [.ref b]))) p G (as ++ [b]) (xss ++ [ys]) := by
 have rk : ∀ {us : List V} {zs : List D}, Reps H p us zs → Reps (upd H G (.lst (as.map V.ref ++ [.ref b]))) p us zs := fun r => r.keep fun c o pc hc => ⟨pc, by rw [upd_ne (fun z => np (by rw [← z]; exact pc))]; exact hc⟩
 refine ⟨by rw [upd_same, List.map_append]; rfl, by simp [h.len], ?_, ?_, fun j c xs e1 e2 => ?_⟩
 ·rw [List.nodup_append]
  refine ⟨h.nd, by simp, ?_⟩
  intro x hx y hy z
  rw [List.mem_singleton.mp hy] at z
  exact nb (by rw [← z]; exact hx)
 ·intro z
  rcases List.mem_append.mp z with z | z
  ·exact h.nG z
  ·exact nG (List.mem_singleton.mp z).symm
 ·by_cases hj : j < as.length
  ·rw [List.getElem?_append_left hj] at e1
   rw [List.getElem?_append_left (by rw [← h.len]; exact hj)] at e2
   obtain ⟨us, h1, h2⟩ := h.g j c xs e1 e2
   have nc : c ≠ G := fun z => h.nG (by rw [← z]; exact List.mem_of_getElem? e1)
   exact ⟨us, by rw [upd_ne nc]; exact h1, rk h2⟩
  ·rw [List.getElem?_append_right (by omega)] at e1
   rw [List.getElem?_append_right (by rw [← h.len]; omega), ← h.len] at e2
   have hj0 : j - as.length = 0 := by have := (List.getElem?_eq_some_iff.mp e1).1; simp at this; omega
   rw [hj0] at e1 e2
   have e1 : b = c := by simpa using e1
   have e2 : ys = xs := by simpa using e2
   subst e1 e2
   exact ⟨vs, by rw [upd_ne nG]; exact hb, rk r⟩
end
def TupP (H : Hp) : Addr → Prop := fun b => ∃ xs, H b = some (.tup xs)
theorem NL.tup {H H' : Hp} {G : Addr} {as : List Addr} {xss : List (List D)} (h : NL H (TupP H) G as xss) (s : ∀ b o, (b = G ∨ b ∈ as ∨ TupP H b) → H b = some o → H' b = some o) : NL H' (TupP H') G as xss :=
 h.keep s fun b hb _ => by
  obtain ⟨xs, hx⟩ := hb
  exact ⟨xs, s b _ (.inr (.inr ⟨xs, hx⟩)) hx⟩
theorem uc {P : Program} {w : World} {K : PySem.W.Frag} {mg : Str → Option Value} {base : Heap} {x : Str} {k : Nat} {G : List V → Sp → Prop} {ps : List Str} {dvs : List V} {sp : Sp} (c : Cal P w K mg base x k ps dvs sp) (h : G dvs sp) : ∃ ps dvs sp, Cal P w K mg base x k ps dvs sp ∧ G dvs sp := ⟨ps, dvs, sp, c, h⟩
theorem un2 {K : PySem.W.Frag} {H : Hp} {t : Addr} {x y : V} {G : V → V → Prop} (h : H t = some (.tup [x, y])) (q : G x y) : ∃ a xs, V.ref t = .ref a ∧ SqT K H a xs ∧ xs.length = 2 ∧ ∃ v r, xs = v :: r ∧ ∃ v' r', r = v' :: r' ∧ r' = [] ∧ G v v' := ⟨t, _, rfl, SqT.of h, rfl, x, _, rfl, y, _, rfl, rfl, q⟩
theorem ra {K : PySem.W.Frag} {H : Hp} {a C dx : Addr} {fs : List (Str × V)} {v : V} {f : Str} {G : V → Prop} (h : H a = some (.ins C dx fs)) (c : Cls K C) (n : NoAttr K C f) (e : fs.lookup f = some v) (q : G v) : ∃ a' C dx fs v, V.ref a = .ref a' ∧ H a' = some (.ins C dx fs) ∧ Cls K C ∧ NoAttr K C f ∧ fs.lookup f = some v ∧ G v := ⟨a, C, dx, fs, v, rfl, h, c, n, e, q⟩
end L2
namespace L2
open PySem PySem.Spec PyProof.Rows
section
variable {prog : Program} {w : World} {A : Around} {E : Value → Shared → Prop} {s : Shared}
abbrev lit (l : Addr) : Obj := { cls := .type (xH true), data := .fields #[.ref l, .int 0 0] }
end
section
variable {prog : Program} {w : World} {A : Around} {E : Value → Shared → Prop} {s : Shared}
end
def Itz3 (K : PySem.W.Frag) (a1 a2 a3 : Addr) : It :=
 ⟨fun i H => ∃ xs ys zs x y u, SqL K H a1 xs ∧ SqL K H a2 ys ∧ SqL K H a3 zs ∧ xs[i]? = some x ∧ ys[i]? = some y ∧ zs[i]? = some u,
   fun i H v H' => ∃ t x y u, H t = none ∧ v = .ref t ∧ (∀ xs, SqL K H a1 xs → xs[i]? = some x) ∧ (∀ ys, SqL K H a2 ys → ys[i]? = some y) ∧ (∀ zs, SqL K H a3 zs → zs[i]? = some u) ∧ H' = upd H t (.tup [x, y, u]),
   fun i H => ∃ xs, SqL K H a1 xs ∧ xs.length ≤ i⟩
def iZip3 (X : Cx) (ta : TA) : TI := fun σ H R => X.mg "zip" = none ∧ ta σ H fun vs H1 => ∃ l1 l2 l3 xs ys zs, vs = [.ref l1, .ref l2, .ref l3] ∧ SqL X.K H1 l1 xs ∧ SqL X.K H1 l2 ys ∧ SqL X.K H1 l3 zs ∧ R (Itz3 X.K l1 l2 l3) H1
end L2
namespace L2
open PySem PySem.Spec PyProof.Rows
def Itv (K : PySem.W.Frag) (a : Addr) (n : Nat) : It :=
 ⟨fun i H => ∃ xs x, SqL K H a xs ∧ xs.length = n ∧ xs.reverse[i]? = some x, fun i H x H' => H' = H ∧ ∀ xs, SqL K H a xs → xs.reverse[i]? = some x, fun i _ => n ≤ i⟩
def iRev (X : Cx) (ta : TA) : TI := fun σ H R => X.mg "reversed" = none ∧ ta σ H fun vs H1 => ∃ l xs, vs = [.ref l] ∧ SqL X.K H1 l xs ∧ R (Itv X.K l xs.length) H1
section
variable {X : Cx} {pos pos' : Pos} {x : Str}
theorem zO (i : Nat) {e : Expr} {te : TE} (hN : X.N.Nodup) (he : PE X e te) (hi : X.N[i]? = some x := by rfl) (hx : Loc X.env.scope x := by exact Or.inl rfl) (hs : swapsWith e (some (.Name x pos')) pos.line X.env = pure false := by rfl)
  (hf : Or (X.fn x = true) (X.env.scope.names.lookup x = some .local) := by walk_at "p") : PS X (.Assign [.Name x pos'] e pos) (tAsg te (gName i)) := Zm hN hi hx he hs hf
theorem pg_n (i : Nat) (hN : X.N.Nodup) (hi : X.N[i]? = some x := by rfl) (hx : Loc X.env.scope x := by exact Or.inl rfl) (hf : Or (X.fn x = true) (X.env.scope.names.lookup x = some .local) := by walk_at "p") : PG X (.Name x pos) (gName i) := pg_name hN hi hx hf
theorem zR {a b : Expr} {ta tb : TE} (ha : PE X a ta) (hb : PE X b tb) (hs : Z0 b := by intro _ _; rfl) : PE X (.Subscript a b pos) (tOp (rIx X.K) ta tb) := pe_ix ix_any ha hb hs
end
end L2
namespace L2
open PySem PySem.Spec PyProof.Rows
section
variable {X : Cx}
theorem Zx : ∀ {ys : List Str} {us : List Value}, Vals (ys.map V.str) us → StrsAre us ys
 | [], _, h => by cases h; exact .nil
 | y :: ys, _, h => by
  cases h with
  | cons r rr =>
   obtain ⟨t, rfl⟩ := r
   exact .cons y t (Zx rr)
def rJoin : V → List V → Hp → VK → Prop := fun x vs H Q => ∃ sep l ys, x = .str sep ∧ vs = [.ref l] ∧ H l = some (.lst (ys.map V.str)) ∧ (ys.map (·.length)).sum + ys.length * sep.length ≤ 16777216 ∧ Q (.str (Str.join sep ys)) H
theorem xm : MtM X "str.join" rJoin := by
 intro pins s σ H x vs v us Q I rx rv h
 obtain ⟨sep, l, ys, rfl, rfl, hH, hz, q⟩ := h
 obtain ⟨t, rfl⟩ := rx
 obtain ⟨u, rfl, ru⟩ := rv.one
 cases ru
 obtain ⟨its, r, hl, _⟩ := I.list (SqL.of hH)
 have e : Txt.join sep ys = Str.join sep ys := StrLaws.glued_eq_join sep ys
 exact join_list hl.isList (by simpa using Zx r) hz fun t' k => ⟨.str _, H, I.tok _, ⟨_, rfl⟩, by rw [e]; exact q⟩
theorem j9 (x y z : Str) : x ++ y ++ z = x ++ (y ++ z) := congrArg Str.mk (Array.append_assoc ..)
theorem Zk (x : Str) : x ++ ("" : Str) = x := congrArg Str.mk (Array.append_empty ..)
theorem wC : ∀ (xs : List Str) (n : Str), Str.join " " (n :: xs) = n ++ Str.join "" (xs.map fun x => " " ++ x)
 | [], n => (Zk n).symm
 | x :: r, n => by
  have ih := wC r x
  show n ++ " " ++ Str.join " " (x :: r) = _
  rw [ih]
  cases r with
  | nil =>
   show n ++ " " ++ (x ++ ("" : Str)) = n ++ (" " ++ x)
   rw [Zk, j9]
  | cons y r =>
   show n ++ " " ++ (x ++ Str.join "" ((y :: r).map fun x => " " ++ x)) = n ++ (" " ++ x ++ "" ++ Str.join "" ((y :: r).map fun x => " " ++ x))
   rw [Zk, j9, j9]
end
end L2
namespace L2
open PySem PySem.Spec PyProof.Rows
section
variable {X : Cx} {G : GK} {x y : Str} {np mp pos hpos gpos : Pos} {body su sv : List Stmt} {b₀ c₀ : Stmt} {tb : List (Addr × Obj) → GK → TS} {th ti : List (Addr × Obj) → Addr → TS}
def tTry2 (X : Cx) (x y : Str) (tb : List (Addr × Obj) → GK → TS) (th ti : List (Addr × Obj) → Addr → TS) : TS := fun D σ H => ∃ Dc Ec, X.mg x = some (.ref Dc) ∧ PySem.W.subIn X.K (.ref Dc) (.type "BaseException") = some true ∧ X.mg y = some (.ref Ec) ∧ PySem.W.subIn X.K (.ref Ec) (.type "BaseException") = some true ∧
 ∀ pn, tb pn (fun cls σ' H' => ∃ C, cls = .ref C ∧ ((PySem.W.kitCls X.K (.ref C) (.ref Dc) = some true ∧ ∀ a, H' a = none → th pn a D σ' H') ∨ (PySem.W.kitCls X.K (.ref C) (.ref Dc) = some false ∧ PySem.W.kitCls X.K (.ref C) (.ref Ec) = some true ∧ ∀ a, H' a = none → ti pn a D σ' H'))) D σ H
theorem ZI (B : Bod X) (hc : X.calm = true)
  (hb : ∀ pn G', PSs ((X.pinned pn).exg G') body (tb pn G')) (hs : ∀ pn a, PSs (X.suite pn a) (b₀ :: su) (th pn a)) (ht : ∀ pn a, PSs (X.suite pn a) (c₀ :: sv) (ti pn a)) (hg : Gl X x := by rfl) (hg2 : Gl X y := by rfl) (hdb : (x == ("__debug__" : Str)) = false := by decide) (hdb2 : (y == ("__debug__" : Str)) = false := by decide) :
  PS (X.exg G) (.Try body [.ExceptHandler (some (.Name x np)) none (b₀ :: su) hpos, .ExceptHandler (some (.Name y mp)) none (c₀ :: sv) gpos] [] [] pos) (tTry2 X x y tb th ti) := by
 intro pins s σ H D I h
 obtain ⟨Dc, Ec, hm, hsub, hm2, hsub2, h⟩ := h
 have I1 := I.unwish.topn
 refine wpAny_Try_except (wpAny_mono (hb (X.pn ++ pins) _ [] s σ H D (I1.wish _) (h (X.pn ++ pins))) (fun f s1 q => ?_) fun e s1 q => ?_)
 ·cases f with
  | next =>
   obtain ⟨σ', H', J, q⟩ := q
   exact wpAny_execs_nil ⟨σ', H', J.unwish.ofpn.wish _, q⟩
  | brk => obtain ⟨σ', H', J, q⟩ := q; exact ⟨σ', H', J.unwish.ofpn.wish _, q⟩
  | cont => obtain ⟨σ', H', J, q⟩ := q; exact ⟨σ', H', J.unwish.ofpn.wish _, q⟩
  | ret u => obtain ⟨v, σ', H', J, r, q⟩ := q; exact ⟨v, σ', H', J.unwish.ofpn.wish _, r, q⟩
 ·refine wpAny_mono (show wpAny _ _ _ _ _ _ from q) (fun _ s2 q2 => wpAny_mono q2 (fun _ s3 q3 => ?_) fun _ _ z => z.elim) fun _ _ z => z.elim
  obtain ⟨a, cls, σ', H', rfl, J, xx, C, rfl, hth⟩ := q3
  have J2 : Inv (X.suite (X.pn ++ pins) a) [] σ' H' s3 := J.tosuite
  obtain ⟨oe, vs, he, hcls, _, _⟩ := xx.obj
  rcases hth with ⟨hk, hth⟩ | ⟨hk, hk2, hth⟩
  ·refine wpAny_handleBy_cons (codeAny_handlers_test (qE J2 hg hm (jG J2.kIn he hcls hk hsub ?_) hdb)) (by intro z; cases z)
   refine codeAny_handlers_suite ?_
   refine wH J2 (xx.less fun p hp => by rwa [List.append_nil] at hp) fun s4 J4 x4 => ?_
   refine wpAny_mono (hs (X.pn ++ pins) a [] s4 _ _ _ J4 (hth a xx.Ha)) (fun f s6 q6 => ?_) fun _ _ z => False.elim z
   cases f with
   | next => obtain ⟨σ7, H7, J7, q7⟩ := q6; exact ⟨σ7, H7, (J7.ofsuite I.ok.hd).ofpn.wish _, q7⟩
   | brk => obtain ⟨σ7, H7, J7, q7⟩ := q6; exact ⟨σ7, H7, (J7.ofsuite I.ok.hd).ofpn.wish _, q7⟩
   | cont => obtain ⟨σ7, H7, J7, q7⟩ := q6; exact ⟨σ7, H7, (J7.ofsuite I.ok.hd).ofpn.wish _, q7⟩
   | ret u => obtain ⟨v, σ7, H7, J7, r7, q7⟩ := q6; exact ⟨v, σ7, H7, (J7.ofsuite I.ok.hd).ofpn.wish _, r7, q7⟩
  ·refine wpAny_handleBy_cons (codeAny_handlers_test (qE J2 hg hm (jG J2.kIn he hcls hk hsub ?_) hdb)) (by intro z; cases z)
   refine wpAny_handleBy_cons (codeAny_handlers_test (qE J2 hg2 hm2 (jG J2.kIn he hcls hk2 hsub2 ?_) hdb2)) (by intro z; cases z)
   refine codeAny_handlers_suite ?_
   refine wH J2 (xx.less fun p hp => by rwa [List.append_nil] at hp) fun s4 J4 x4 => ?_
   refine wpAny_mono (ht (X.pn ++ pins) a [] s4 _ _ _ J4 (hth a xx.Ha)) (fun f s6 q6 => ?_) fun _ _ z => False.elim z
   cases f with
   | next => obtain ⟨σ7, H7, J7, q7⟩ := q6; exact ⟨σ7, H7, (J7.ofsuite I.ok.hd).ofpn.wish _, q7⟩
   | brk => obtain ⟨σ7, H7, J7, q7⟩ := q6; exact ⟨σ7, H7, (J7.ofsuite I.ok.hd).ofpn.wish _, q7⟩
   | cont => obtain ⟨σ7, H7, J7, q7⟩ := q6; exact ⟨σ7, H7, (J7.ofsuite I.ok.hd).ofpn.wish _, q7⟩
   | ret u => obtain ⟨v, σ7, H7, J7, r7, q7⟩ := q6; exact ⟨v, σ7, H7, (J7.ofsuite I.ok.hd).ofpn.wish _, r7, q7⟩
end
section
variable {X : Cx}
theorem call_split {prog : Program} {w : World} {A : Around} {E : Value → Shared → Prop} {s : Shared} {Q : Value → Shared → Prop} {x y : Str} {t u : Tok} (hy : (y.length == 0) = false) (hx : x.length + 2 ≤ sizeLine)
  (hq : ∀ (l : List (Str × Tok)) (k : Nat), l.map (·.1) = Txt.split x y → Q (.ref s.heap.objs.size) { s with toks := k, heap := s.heap.push { cls := .type "list", data := .seq (strValues l).toArray } }) :
  wpAny (model prog w) A (call (.builtin "str.split") [.str x t, .str y u]) Q E s := by
 cases h1 : (decide (x.length < y.length) || decide (Builtin.Str.strKind x < Builtin.Str.strKind y))
 ·cases hf : (Builtin.Str.occurrences x y 0 x.length (x.length + 1)).isEmpty
  ·have e : Txt.split x y = Builtin.Str.partsBetween x (Builtin.Str.occurrences x y 0 x.length (x.length + 1)) y.length := (if_neg (ne_true_of_eq_false h1)).trans (if_neg (ne_true_of_eq_false hf))
   have hl := split_le x y
   rw [e] at hl
   refine call_meets F.slot_str_split (typeIs_str _ _ _) F.entry_str_split (F.args_str_split_2 _ _) (meets_str_split_sep x y t u h1 hy hf (by omega) (by omega)) ?_
   show wants Q E _ { s with toks := _, heap := s.heap.push { cls := .type "list", data := .seq (strsFrom s.toks (Builtin.Str.partsBetween x (Builtin.Str.occurrences x y 0 x.length (x.length + 1)) y.length)).toArray } }
   rw [strsFrom_eq]
   exact hq (numbered s.toks _) _ ((numbered_texts _ _).trans e.symm)
  ·exact call_meets F.slot_str_split (typeIs_str _ _ _) F.entry_str_split (F.args_str_split_2 _ _) (meets_str_split_not_found x y t u h1 hy hf)
    (hq [(x, t)] _ ((if_neg (ne_true_of_eq_false h1)).trans (if_pos hf)).symm)
 ·exact call_meets F.slot_str_split (typeIs_str _ _ _) F.entry_str_split (F.args_str_split_2 _ _) (meets_str_split_cannot_occur x y t u h1)
   (hq [(x, t)] _ (if_pos h1).symm)
theorem wP : ∀ (l : List (Str × Tok)), Vals ((l.map (·.1)).map V.str) (strValues l)
 | [] => .nil
 | p :: l => .cons ⟨p.2, rfl⟩ (wP l)
def rSplit : V → List V → Hp → VK → Prop := fun x vs H Q => ∃ t y, x = .str t ∧ vs = [.str y] ∧ (y.length == 0) = false ∧ t.length + 2 ≤ sizeLine ∧ ∀ l, H l = none → Q (.ref l) (upd H l (.lst ((Txt.split t y).map V.str)))
theorem wy : MtM X "str.split" rSplit := by
 intro pins s σ H x vs v us Q I rx rv h
 obtain ⟨t, y, rfl, rfl, hy, hz, q⟩ := h
 obtain ⟨tk, rfl⟩ := rx
 obtain ⟨u, rfl, ru⟩ := rv.one
 obtain ⟨tk2, rfl⟩ := ru
 refine call_split hy hz fun l k e => ?_
 have hf : H s.heap.objs.size = none := I.hok.fresh (Nat.le_refl _)
 have hl := split_le t y
 refine ⟨.ref s.heap.objs.size, upd H s.heap.objs.size (.lst ((Txt.split t y).map V.str)), I.laid (t' := k) (fun b u e => Heap.get?_push_of_some _ e) (Nat.le_refl _) ?_, rfl, q _ hf⟩
 rw [← e]
 exact ⟨by rw [List.length_map, e]; omega, strValues l, 0, wP l, Heap.get?_push_size _ rfl⟩
end
theorem wG {c : Nat} : ∀ {a b A B : List Nat}, c ∉ a → c ∉ b → a ++ c :: A = b ++ c :: B → a = b ∧ A = B
 | [], [], _, _, _, _, h => ⟨rfl, (List.cons.inj h).2⟩
 | [], y :: b, _, _, _, hb, h => absurd (List.cons.inj h).1 (fun e => hb (by rw [e]; exact List.mem_cons_self ..))
 | x :: a, [], _, _, ha, _, h => absurd (List.cons.inj h).1 (fun e => ha (by rw [← e]; exact List.mem_cons_self ..))
 | x :: a, y :: b, A, B, ha, hb, h => by
  obtain ⟨e1, e2⟩ := List.cons.inj h
  obtain ⟨e3, e4⟩ := wG (fun z => ha (List.mem_cons_of_mem _ z)) (fun z => hb (List.mem_cons_of_mem _ z)) e2
  exact ⟨by rw [e1, e3], e4⟩
theorem Zy {x y : Str} (h : x.cps.toList = y.cps.toList) : x = y := by
 obtain ⟨x⟩ := x
 obtain ⟨y⟩ := y
 exact congrArg Str.mk (Array.toList_inj.mp h)
theorem jM (c : Nat) (x y : Str) (r : List Str) : (Str.join ⟨#[c]⟩ (x :: y :: r)).cps.toList = x.cps.toList ++ c :: (Str.join ⟨#[c]⟩ (y :: r)).cps.toList := by
 show ((x.cps ++ #[c]) ++ (Str.join ⟨#[c]⟩ (y :: r)).cps).toList = _
 simp
theorem Zd {c : Nat} : ∀ {xs ys : List Str}, xs ≠ [] → ys ≠ [] → (∀ x ∈ xs, c ∉ x.cps.toList) → (∀ y ∈ ys, c ∉ y.cps.toList) → Str.join ⟨#[c]⟩ xs = Str.join ⟨#[c]⟩ ys → xs = ys
 | [], _, h, _, _, _, _ => absurd rfl h
 | _, [], _, h, _, _, _ => absurd rfl h
 | [x], [y], _, _, _, _, e => by rw [show x = y from e]
 | [x], y :: z :: r, _, _, hx, _, e => by
  have e := congrArg (fun s : Str => s.cps.toList) e
  simp only [jM] at e
  have e : x.cps.toList = y.cps.toList ++ c :: (Str.join ⟨#[c]⟩ (z :: r)).cps.toList := e
  exact absurd (by rw [e]; simp) (hx x (List.mem_cons_self ..))
 | x :: z :: r, [y], _, _, _, hy, e => by
  have e := congrArg (fun s : Str => s.cps.toList) e
  simp only [jM] at e
  have e : x.cps.toList ++ c :: (Str.join ⟨#[c]⟩ (z :: r)).cps.toList = y.cps.toList := e
  exact absurd (by rw [← e]; simp) (hy y (List.mem_cons_self ..))
 | x :: x2 :: r, y :: y2 :: q, _, _, hx, hy, e => by
  have e := congrArg (fun s : Str => s.cps.toList) e
  simp only [jM] at e
  obtain ⟨e1, e2⟩ := wG (hx x (List.mem_cons_self ..)) (hy y (List.mem_cons_self ..)) e
  have := Zd (xs := x2 :: r) (ys := y2 :: q) (by simp) (by simp) (fun z hz => hx z (List.mem_cons_of_mem _ hz)) (fun z hz => hy z (List.mem_cons_of_mem _ hz)) (Zy e2)
  rw [Zy e1, this]
theorem we {c : Nat} {xs : List Str} (h0 : xs ≠ []) (h : ∀ x ∈ xs, c ∉ x.cps.toList) : Txt.split (Str.join ⟨#[c]⟩ xs) ⟨#[c]⟩ = xs :=
 Zd (fun z => by have := split_pos (Str.join ⟨#[c]⟩ xs) ⟨#[c]⟩; rw [z] at this; simp at this) h0 (StrLaws.split_free _ c) h (StrLaws.join_split _ _)
end L2
namespace L2
section
variable {G : Prop} {A B C D E F H I : Type}
theorem iE2 {k : A → B → Prop} (a : A) (b : B) (p : k a b) : ∃ a b, k a b := ⟨a, b, p⟩
theorem iE3 {k : A → B → C → Prop} (a : A) (b : B) (c : C) (p : k a b c) : ∃ a b c, k a b c := ⟨a, b, c, p⟩
theorem iE4 {k : A → B → C → D → Prop} (a : A) (b : B) (c : C) (d : D) (p : k a b c d) : ∃ a b c d, k a b c d := ⟨a, b, c, d, p⟩
theorem iE5 {k : A → B → C → D → E → Prop} (a : A) (b : B) (c : C) (d : D) (e : E) (p : k a b c d e) : ∃ a b c d e, k a b c d e := ⟨a, b, c, d, e, p⟩
theorem iE6 {k : A → B → C → D → E → F → Prop} (a : A) (b : B) (c : C) (d : D) (e : E) (f : F) (p : k a b c d e f) : ∃ a b c d e f, k a b c d e f := ⟨a, b, c, d, e, f, p⟩
theorem iE7 {k : A → B → C → D → E → F → H → Prop} (a : A) (b : B) (c : C) (d : D) (e : E) (f : F) (g : H) (p : k a b c d e f g) : ∃ a b c d e f g, k a b c d e f g := ⟨a, b, c, d, e, f, g, p⟩
theorem oE1 {k : A → Prop} (h : ∃ a, k a) (w : ∀ a, k a → G) : G := by obtain ⟨a, p⟩ := h; exact w a p
theorem oE2 {k : A → B → Prop} (h : ∃ a b, k a b) (w : ∀ a b, k a b → G) : G := by obtain ⟨a, b, p⟩ := h; exact w a b p
theorem oE3 {k : A → B → C → Prop} (h : ∃ a b c, k a b c) (w : ∀ a b c, k a b c → G) : G := by obtain ⟨a, b, c, p⟩ := h; exact w a b c p
theorem oE4 {k : A → B → C → D → Prop} (h : ∃ a b c d, k a b c d) (w : ∀ a b c d, k a b c d → G) : G := by obtain ⟨a, b, c, d, p⟩ := h; exact w a b c d p
theorem oE5 {k : A → B → C → D → E → Prop} (h : ∃ a b c d e, k a b c d e) (w : ∀ a b c d e, k a b c d e → G) : G := by obtain ⟨a, b, c, d, e, p⟩ := h; exact w a b c d e p
theorem oE6 {k : A → B → C → D → E → F → Prop} (h : ∃ a b c d e f, k a b c d e f) (w : ∀ a b c d e f, k a b c d e f → G) : G := by obtain ⟨a, b, c, d, e, f, p⟩ := h; exact w a b c d e f p
theorem oE7 {k : A → B → C → D → E → F → H → Prop} (h : ∃ a b c d e f g, k a b c d e f g) (w : ∀ a b c d e f g, k a b c d e f g → G) : G := by obtain ⟨a, b, c, d, e, f, g, p⟩ := h; exact w a b c d e f g p
theorem oE8 {k : A → B → C → D → E → F → H → I → Prop} (h : ∃ a b c d e f g i, k a b c d e f g i) (w : ∀ a b c d e f g i, k a b c d e f g i → G) : G := by obtain ⟨a, b, c, d, e, f, g, i, p⟩ := h; exact w a b c d e f g i p
end
section
variable {G A B C D E F H I J : Prop}
theorem iA3 (a : A) (b : B) (c : C) : A ∧ B ∧ C := ⟨a, b, c⟩
theorem iA4 (a : A) (b : B) (c : C) (d : D) : A ∧ B ∧ C ∧ D := ⟨a, b, c, d⟩
theorem iA5 (a : A) (b : B) (c : C) (d : D) (e : E) : A ∧ B ∧ C ∧ D ∧ E := ⟨a, b, c, d, e⟩
theorem iA6 (a : A) (b : B) (c : C) (d : D) (e : E) (f : F) : A ∧ B ∧ C ∧ D ∧ E ∧ F := ⟨a, b, c, d, e, f⟩
theorem iA9 (a : A) (b : B) (c : C) (d : D) (e : E) (f : F) (g : H) (i : I) (j : J) : A ∧ B ∧ C ∧ D ∧ E ∧ F ∧ H ∧ I ∧ J := ⟨a, b, c, d, e, f, g, i, j⟩
theorem oA2 (h : A ∧ B) (k : A → B → G) : G := by obtain ⟨a, b⟩ := h; exact k a b
theorem oA3 (h : A ∧ B ∧ C) (k : A → B → C → G) : G := by obtain ⟨a, b, c⟩ := h; exact k a b c
theorem oA4 (h : A ∧ B ∧ C ∧ D) (k : A → B → C → D → G) : G := by obtain ⟨a, b, c, d⟩ := h; exact k a b c d
theorem oA5 (h : A ∧ B ∧ C ∧ D ∧ E) (k : A → B → C → D → E → G) : G := by obtain ⟨a, b, c, d, e⟩ := h; exact k a b c d e
theorem oA6 (h : A ∧ B ∧ C ∧ D ∧ E ∧ F) (k : A → B → C → D → E → F → G) : G := by obtain ⟨a, b, c, d, e, f⟩ := h; exact k a b c d e f
theorem oA7 (h : A ∧ B ∧ C ∧ D ∧ E ∧ F ∧ H) (k : A → B → C → D → E → F → H → G) : G := by obtain ⟨a, b, c, d, e, f, g⟩ := h; exact k a b c d e f g
theorem oA8 (h : A ∧ B ∧ C ∧ D ∧ E ∧ F ∧ H ∧ I) (k : A → B → C → D → E → F → H → I → G) : G := by obtain ⟨a, b, c, d, e, f, g, i⟩ := h; exact k a b c d e f g i
theorem oA9 (h : A ∧ B ∧ C ∧ D ∧ E ∧ F ∧ H ∧ I ∧ J) (k : A → B → C → D → E → F → H → I → J → G) : G := by obtain ⟨a, b, c, d, e, f, g, i, j⟩ := h; exact k a b c d e f g i j
end
end L2
namespace Mine
theorem gcd_pos {a b : Int} (h : ¬ (a = 0 ∧ b = 0)) : 1 ≤ (Int.gcd a b : Int) := by
 have : 0 < Int.gcd a b := Int.gcd_pos_iff.mpr (by omega)
 omega
end Mine
namespace Mine
structure IsLcm (ns : List Int) (l : Int) : Prop where
 pos : 0 < l
 dv : ∀ n ∈ ns, n ∣ l
 least : ∀ m : Int, (∀ n ∈ ns, n ∣ m) → l ∣ m
theorem IsLcm.nil : IsLcm [] 1 := ⟨by decide, (fun _ h => nomatch h), fun m _ => Int.one_dvd m⟩
theorem lcm_eq {a b : Int} (ha : 0 < a) (hb : 0 < b) : a / (Int.gcd a b : Int) * b = (Nat.lcm a.natAbs b.natAbs : Int) := by
 have g : (Int.gcd a b : Int) ∣ a := Int.gcd_dvd_left ..
 obtain ⟨k, hk⟩ := g
 have gp : 0 < (Int.gcd a b : Int) := by have := gcd_pos (a := a) (b := b) (by omega); omega
 have e1 : a / (Int.gcd a b : Int) = k := by
  conv => lhs; rw [hk]
  have hk' := hk
  rw [Int.mul_comm (Int.gcd a b : Int) k]
  have e2 : Int.gcd (k * (Int.gcd a b : Int)) b = Int.gcd a b := by rw [Int.mul_comm, ← hk]
  rw [e2]
  exact Int.mul_ediv_cancel _ (by omega)
 have hkn : 0 < k := by
  rcases (by omega : k ≤ 0 ∨ 0 < k) with h | h
  ·have := Int.mul_nonpos_of_nonneg_of_nonpos (Int.le_of_lt gp) h
   omega
  ·exact h
 have hg : Nat.gcd a.natAbs b.natAbs * Nat.lcm a.natAbs b.natAbs = a.natAbs * b.natAbs := Nat.gcd_mul_lcm ..
 have ea : a.natAbs = Nat.gcd a.natAbs b.natAbs * k.natAbs := by
  have := congrArg Int.natAbs hk
  rw [Int.natAbs_mul, Int.natAbs_natCast] at this
  exact this
 have gp' : 0 < Nat.gcd a.natAbs b.natAbs := by
  have : (Nat.gcd a.natAbs b.natAbs : Int) = (Int.gcd a b : Int) := rfl
  omega
 have e3 : Nat.lcm a.natAbs b.natAbs = k.natAbs * b.natAbs := by
  apply Nat.eq_of_mul_eq_mul_left gp'
  rw [hg, ← Nat.mul_assoc, ← ea]
 rw [e1, e3]
 rw [Int.natCast_mul]
 have h1 : k = (k.natAbs : Int) := by omega
 have h2 : b = (b.natAbs : Int) := by omega
 rw [← h1, ← h2]
theorem jQ {a b : Int} (h : a ∣ b) : a.natAbs ∣ b.natAbs := Int.natAbs_dvd_natAbs.mpr h
theorem IsLcm.step {ns : List Int} {l p : Int} (x : IsLcm ns l) (hp : 0 < p) : IsLcm (ns ++ [p]) (l / (Int.gcd l p : Int) * p) := by
 rw [lcm_eq x.pos hp]
 have lp : 0 < l.natAbs := by have := x.pos; omega
 have pp : 0 < p.natAbs := by omega
 refine ⟨?_, fun n hn => ?_, fun m hm => ?_⟩
 ·have := Nat.lcm_pos lp pp
  omega
 ·rcases List.mem_append.mp hn with h | h
  ·have h1 := x.dv n h
   refine Int.dvd_trans h1 ?_
   rw [← Int.natAbs_dvd_natAbs, Int.natAbs_natCast]
   exact Nat.dvd_lcm_left ..
  ·rw [List.mem_singleton.mp h, ← Int.natAbs_dvd_natAbs, Int.natAbs_natCast]
   exact Nat.dvd_lcm_right ..
 ·have h1 := x.least m fun n hn => hm n (List.mem_append_left _ hn)
  have h2 := hm p (List.mem_append_right _ (List.mem_singleton.mpr rfl))
  rw [← Int.natAbs_dvd_natAbs, Int.natAbs_natCast]
  exact Nat.lcm_dvd (jQ h1) (jQ h2)
end Mine
namespace L2
open PySem PySem.Spec PyProof.Rows
section
variable {X : Cx} {K : PySem.W.Frag} {σ : St} {H : Hp} {Q : VK} {D : Ends}
theorem rd_I {C : Int → Int → Prop} {g : Int → Int → V} {i j : Int} : rI C g (.int i) (.int j) H Q ↔ C i j ∧ Q (g i j) H :=
 ⟨fun ⟨_, _, e1, e2, h⟩ => by cases e1; cases e2; exact h, fun h => ⟨i, j, rfl, rfl, h⟩⟩
theorem rd_I0 {g : Int → Int → V} {i j : Int} : rI0 g (.int i) (.int j) H Q ↔ Q (g i j) H :=
 ⟨fun ⟨_, _, e1, e2, h⟩ => by cases e1; cases e2; exact h, fun h => ⟨i, j, rfl, rfl, h⟩⟩
theorem rd_ipI {f : Int → Int → Int} {i j : Int} : ipI f (.int i) (.int j) H Q ↔ Q (.int (f i j)) H := ⟨fun ⟨_, _, e1, e2, h⟩ => by cases e1; cases e2; exact h, fun h => ⟨i, j, rfl, rfl, h⟩⟩
theorem rd_U {g : Int → V} {i : Int} : rU g (.int i) H Q ↔ Q (g i) H := ⟨fun ⟨_, e, h⟩ => by cases e; exact h, fun h => ⟨i, rfl, h⟩⟩
theorem rd_addI {i j : Int} : ZH K (.int i) (.int j) H Q ↔ Q (.int (i + j)) H := by
 constructor
 ·rintro (h | ⟨_, _, e, _⟩ | ⟨_, _, _, _, e, _⟩)
  ·exact rd_I0.mp h
  ·cases e
  ·cases e
 ·intro h; exact .inl (rd_I0.mpr h)
theorem rd_addS {i j : Str} : ZH K (.str i) (.str j) H Q ↔ i.length + j.length ≤ sizeLine ∧ Q (.str (i ++ j)) H := by
 constructor
 ·rintro (⟨_, _, e, _⟩ | ⟨_, _, e1, e2, h⟩ | ⟨_, _, _, _, e, _⟩)
  ·cases e
  ·cases e1; cases e2; exact h
  ·cases e
 ·intro h; exact .inr (.inl ⟨i, j, rfl, rfl, h⟩)
theorem rd_var {i : Nat} : tVar i σ H Q ↔ ∃ v, σ[i]? = some (some v) ∧ Q v H := Iff.rfl
theorem rd_varS {v : V} {P : V → Prop} : (∃ u, some (some v) = some (some u) ∧ P u) ↔ P v := ⟨fun ⟨_, e, h⟩ => by cases e; exact h, fun h => ⟨v, rfl, h⟩⟩
theorem rd_test {b : Bool} {P : Bool → Prop} : (∃ k, V.bl b = V.bl k ∧ P k) ↔ P b := ⟨fun ⟨_, e, h⟩ => by cases e; exact h, fun h => ⟨b, rfl, h⟩⟩
theorem rd_truB {b : Bool} {P : Bool → Prop} : (∃ k, TruV K (.bl b) H k ∧ P k) ↔ P b := ⟨fun ⟨_, e, h⟩ => by cases (show _ = b from e); exact h, fun h => ⟨b, rfl, h⟩⟩
theorem rd_eqI {i j : Int} : rEqG K (.int i) (.int j) H Q ↔ Q (.bl (decide (i = j))) H := by
 have e : decide (V.int i = V.int j) = decide (i = j) := by simp
 unfold rEqG rEq
 rw [e]
 exact ⟨fun h => h.elim (fun h => h.2) (fun h => h.elim (fun ⟨_, _, _, _, z, _⟩ => nomatch z) (fun ⟨_, _, _, _, _, _, z, _⟩ => nomatch z)), fun h => .inl ⟨rfl, h⟩⟩
theorem rd_neI {i j : Int} : rNeG K (.int i) (.int j) H Q ↔ Q (.bl (!decide (i = j))) H := by
 have e : decide (V.int i = V.int j) = decide (i = j) := by simp
 unfold rNeG rNe
 rw [e]
 exact ⟨fun h => h.elim (fun h => h.2) (fun h => h.elim (fun ⟨_, _, _, _, z, _⟩ => nomatch z) (fun ⟨_, _, _, _, _, _, z, _⟩ => nomatch z)), fun h => .inl ⟨rfl, h⟩⟩
theorem rd_eqS {i j : Str} : rEqG K (.str i) (.str j) H Q ↔ Q (.bl (decide (i = j))) H := by
 have e : decide (V.str i = V.str j) = decide (i = j) := by simp
 unfold rEqG rEq
 rw [e]
 exact ⟨fun h => h.elim (fun h => h.2) (fun h => h.elim (fun ⟨_, _, _, _, z, _⟩ => nomatch z) (fun ⟨_, _, _, _, _, _, z, _⟩ => nomatch z)), fun h => .inl ⟨rfl, h⟩⟩
theorem rd_eqB {i j : Bool} : rEqG K (.bl i) (.bl j) H Q ↔ Q (.bl (decide (i = j))) H := by
 have e : decide (V.bl i = V.bl j) = decide (i = j) := by simp
 unfold rEqG rEq
 rw [e]
 exact ⟨fun h => h.elim (fun h => h.2) (fun h => h.elim (fun ⟨_, _, _, _, z, _⟩ => nomatch z) (fun ⟨_, _, _, _, _, _, z, _⟩ => nomatch z)), fun h => .inl ⟨rfl, h⟩⟩
theorem rd_fvI {i : Int} {P : Str → Prop} {R : Str → Prop} : ((∃ j, V.int i = V.int j ∧ j.natAbs.log2 < 1920 ∧ P (toString j)) ∨ (∃ y, V.int i = V.str y ∧ y.length ≤ sizeLine ∧ R y)) ↔ i.natAbs.log2 < 1920 ∧ P (toString i) :=
 ⟨fun h => h.elim (fun ⟨_, e, h⟩ => by cases e; exact h) (fun ⟨_, e, _⟩ => nomatch e), fun h => .inl ⟨i, rfl, h⟩⟩
theorem rd_strS {y : Str} {P : Str → Prop} : (∃ z, V.str y = V.str z ∧ P z) ↔ P y := ⟨fun ⟨_, e, h⟩ => by cases e; exact h, fun h => ⟨y, rfl, h⟩⟩
theorem rd_c0 : ((0 : Nat) : Int) = 0 := rfl
theorem rd_c1 : ((1 : Nat) : Int) = 1 := rfl
theorem rd_c2 : ((2 : Nat) : Int) = 2 := rfl
theorem rd_c3 : ((3 : Nat) : Int) = 3 := rfl
theorem rd_c4 : ((4 : Nat) : Int) = 4 := rfl
theorem rd_c5 : ((5 : Nat) : Int) = 5 := rfl
theorem rd_c6 : ((6 : Nat) : Int) = 6 := rfl
theorem rd_sz0 : (0 ≤ sizeLine) = True := eq_true (by decide)
theorem rd_sz1 : (1 ≤ sizeLine) = True := eq_true (by decide)
theorem rd_sz2 : (2 ≤ sizeLine) = True := eq_true (by decide)
theorem rd_sz3 : (3 ≤ sizeLine) = True := eq_true (by decide)
theorem rd_sz4 : (4 ≤ sizeLine) = True := eq_true (by decide)
theorem rd_sz5 : (5 ≤ sizeLine) = True := eq_true (by decide)
theorem rd_sz6 : (6 ≤ sizeLine) = True := eq_true (by decide)
theorem rd_sz7 : (7 ≤ sizeLine) = True := eq_true (by decide)
theorem rd_sz8 : (8 ≤ sizeLine) = True := eq_true (by decide)
theorem rd_sz9 : (9 ≤ sizeLine) = True := eq_true (by decide)
theorem cx_K {CX : CXT} {P : Program} {w : World} {K : PySem.W.Frag} {mg : Str → Option Value} {base : Heap} {N : List Str} {qual : Str} {scope : Scope} {f : Addr} {cd : Value} {A : Around} {outer : List Env} {s : Shared} {H : Hp} {E : XK} : (cxOf CX P w K mg base N qual scope f cd A outer s H E).K = K := rfl
theorem cx_mg {CX : CXT} {P : Program} {w : World} {K : PySem.W.Frag} {mg : Str → Option Value} {base : Heap} {N : List Str} {qual : Str} {scope : Scope} {f : Addr} {cd : Value} {A : Around} {outer : List Env} {s : Shared} {H : Hp} {E : XK} : (cxOf CX P w K mg base N qual scope f cd A outer s H E).mg = mg := rfl
theorem cx_prog {CX : CXT} {P : Program} {w : World} {K : PySem.W.Frag} {mg : Str → Option Value} {base : Heap} {N : List Str} {qual : Str} {scope : Scope} {f : Addr} {cd : Value} {A : Around} {outer : List Env} {s : Shared} {H : Hp} {E : XK} : (cxOf CX P w K mg base N qual scope f cd A outer s H E).prog = P := rfl
theorem cx_w {CX : CXT} {P : Program} {w : World} {K : PySem.W.Frag} {mg : Str → Option Value} {base : Heap} {N : List Str} {qual : Str} {scope : Scope} {f : Addr} {cd : Value} {A : Around} {outer : List Env} {s : Shared} {H : Hp} {E : XK} : (cxOf CX P w K mg base N qual scope f cd A outer s H E).w = w := rfl
theorem cx_base {CX : CXT} {P : Program} {w : World} {K : PySem.W.Frag} {mg : Str → Option Value} {base : Heap} {N : List Str} {qual : Str} {scope : Scope} {f : Addr} {cd : Value} {A : Around} {outer : List Env} {s : Shared} {H : Hp} {E : XK} : (cxOf CX P w K mg base N qual scope f cd A outer s H E).base = base := rfl
theorem rd_cpow {n : Int} : CPow 10 n ↔ 0 ≤ n ∧ n ≤ 1000000 := ⟨fun h => ⟨h.1, h.2.1⟩, fun h => ⟨h.1, h.2, by decide⟩⟩
theorem rd_isiI {i : Int} : rIsi K [.int i, .ty "int"] H Q ↔ Q (.bl true) H := by
 refine ⟨fun h => ?_, fun q => ⟨_, _, _, _, rfl, .old (.int i), .inl ⟨_, rfl, xU⟩, q⟩⟩
 obtain ⟨x, c, t, b, e, ty, k, q⟩ := h
 cases e
 rcases k with ⟨u, hu, k⟩ | ⟨_, _, _, e, _⟩
 ·cases hu; cases ty with | old ty => cases ty; rw [xU] at k; cases k; exact q
 ·cases e
theorem rd_isiIB {i : Int} : rIsi K [.int i, .ty "bool"] H Q ↔ Q (.bl false) H := by
 refine ⟨fun h => ?_, fun q => ⟨_, _, _, _, rfl, .old (.int i), .inl ⟨_, rfl, xo⟩, q⟩⟩
 obtain ⟨x, c, t, b, e, ty, k, q⟩ := h
 cases e
 rcases k with ⟨u, hu, k⟩ | ⟨_, _, _, e, _⟩
 ·cases hu; cases ty with | old ty => cases ty; rw [xo] at k; cases k; exact q
 ·cases e
theorem rd_isiB {i : Bool} : rIsi K [.bl i, .ty "bool"] H Q ↔ Q (.bl true) H := by
 refine ⟨fun h => ?_, fun q => ⟨_, _, _, _, rfl, .old (.bl i), .inl ⟨_, rfl, jS⟩, q⟩⟩
 obtain ⟨x, c, t, b, e, ty, k, q⟩ := h
 cases e
 rcases k with ⟨u, hu, k⟩ | ⟨_, _, _, e, _⟩
 ·cases hu; cases ty with | old ty => cases ty; rw [jS] at k; cases k; exact q
 ·cases e
theorem rd_isiS {i : Str} : rIsi K [.str i, .ty "str"] H Q ↔ Q (.bl true) H := by
 refine ⟨fun h => ?_, fun q => ⟨_, _, _, _, rfl, .old (.str i), .inl ⟨_, rfl, xT⟩, q⟩⟩
 obtain ⟨x, c, t, b, e, ty, k, q⟩ := h
 cases e
 rcases k with ⟨u, hu, k⟩ | ⟨_, _, _, e, _⟩
 ·cases hu; cases ty with | old ty => cases ty; rw [xT] at k; cases k; exact q
 ·cases e
theorem qa {a b : Addr} {xs ys : List V} (h1 : SqL K H a xs) (h2 : SqL K H b ys) (hl : xs.length + ys.length ≤ sizeLine) (q : ∀ p, H p = none → Q (.ref p) (upd H p (.lst (xs ++ ys)))) : ZH K (.ref a) (.ref b) H Q :=
 .inr (.inr ⟨a, b, xs, ys, rfl, rfl, h1, h2, hl, q⟩)
theorem z9 {n : Nat} (h : n ≤ 1000) : n ≤ sizeLine := Nat.le_of_lt (zq h)
theorem qx {a : Addr} {xs : List V} {DN : St → Hp → Prop} {B : (St → Hp → Prop) → V → St → Hp → Prop} (Pv : Nat → St → Hp → Prop) (h0 : Pv 0 σ H) (hl : ∀ i σ H, i ≤ xs.length → Pv i σ H → SqL K H a xs)
  (hs : ∀ i x σ H, xs[i]? = some x → Pv i σ H → B (Pv (i + 1)) x σ H) (hd : ∀ σ H, Pv xs.length σ H → DN σ H) :
  ∃ W : Nat → Nat → St → Hp → Prop, (∃ m, W 0 m σ H) ∧ ∀ i m σ H, W i m σ H →
   ((Itl K a).stop i H ∧ DN σ H) ∨ ((Itl K a).go i H ∧ ∃ N : St → Hp → Prop, (∀ σ' H', N σ' H' → ∃ m', m' < m ∧ W (i + 1) m' σ' H') ∧ ∀ x H', (Itl K a).yld i H x H' → B N x σ H') := by
 refine ⟨fun i m σ H => m = xs.length - i ∧ i ≤ xs.length ∧ Pv i σ H, ⟨xs.length, by simp, Nat.zero_le _, h0⟩, ?_⟩
 rintro i m σ H ⟨rfl, hi, p⟩
 have q := hl i σ H hi p
 by_cases hlt : i < xs.length
 ·refine .inr ⟨⟨xs, xs[i], q, by simp [hlt]⟩, Pv (i + 1), fun σ' H' p' => ⟨xs.length - (i + 1), by omega, rfl, hlt, p'⟩, fun x H' y => ?_⟩
  obtain ⟨e, y⟩ := y
  subst e
  exact hs i x σ _ (y xs q) p
 ·have e : i = xs.length := by omega
  subst e
  exact .inl ⟨⟨xs, q, Nat.le_refl _⟩, hd σ H p⟩
theorem ZR {lo : Int} {n : Nat} {DN : St → Hp → Prop} {B : (St → Hp → Prop) → V → St → Hp → Prop} (Pv : Nat → St → Hp → Prop) (h0 : Pv 0 σ H)
  (hs : ∀ i σ H, i < n → Pv i σ H → B (Pv (i + 1)) (.int (lo + i)) σ H) (hd : ∀ σ H, Pv n σ H → DN σ H) :
  ∃ W : Nat → Nat → St → Hp → Prop, (∃ m, W 0 m σ H) ∧ ∀ i m σ H, W i m σ H →
   ((Itr lo n).stop i H ∧ DN σ H) ∨ ((Itr lo n).go i H ∧ ∃ N : St → Hp → Prop, (∀ σ' H', N σ' H' → ∃ m', m' < m ∧ W (i + 1) m' σ' H') ∧ ∀ x H', (Itr lo n).yld i H x H' → B N x σ H') := by
 refine ⟨fun i m σ H => m = n - i ∧ i ≤ n ∧ Pv i σ H, ⟨n, by simp, Nat.zero_le _, h0⟩, ?_⟩
 rintro i m σ H ⟨rfl, hi, p⟩
 by_cases hlt : i < n
 ·refine .inr ⟨hlt, Pv (i + 1), fun σ' H' p' => ⟨n - (i + 1), by omega, rfl, hlt, p'⟩, fun x H' y => ?_⟩
  obtain ⟨e, y⟩ := y
  subst e y
  exact hs i σ _ hlt p
 ·have e : i = n := by omega
  subst e
  exact .inl ⟨Nat.le_refl _, hd σ H p⟩
theorem rd_l1 {i : Int} {P : Int → Prop} : (∃ j, [V.int i] = [V.int j] ∧ P j) ↔ P i := ⟨fun ⟨_, e, h⟩ => by cases e; exact h, fun h => ⟨i, rfl, h⟩⟩
theorem rd_part {i : Int} {P : Int → Prop} : (∃ j, V.int i = V.int j ∧ P j) ↔ P i := ⟨fun ⟨_, e, h⟩ => by cases e; exact h, fun h => ⟨i, rfl, h⟩⟩
theorem Z6 {a b : Addr} {xs : List V} (h1 : SqT K H a xs) (h2 : SqT K H b xs) (hf : xs.all qL = true) (hs : qK xs xs = true) (q : Q (.bl true) H) : rEqG K (.ref a) (.ref b) H Q :=
 .inr (.inl ⟨a, b, xs, xs, rfl, rfl, .inr ⟨h1, h2⟩, hf, hf, by rw [hs]; exact q⟩)
theorem qD {a : Addr} {xs : List V} {lo hi : Option Int} (h : SqL K H a xs) (q : ∀ p, H p = none → Q (.ref p) (upd H p (.lst (cutV xs lo hi)))) : rSlL K (.ref a) lo hi H Q := ⟨a, xs, rfl, h, q⟩
theorem rd_len {v : V} {P : V → Nat → Prop} : (∃ x n, [v] = [x] ∧ P x n) ↔ ∃ n, P v n := ⟨fun ⟨_, n, e, h⟩ => by cases e; exact ⟨n, h⟩, fun ⟨n, h⟩ => ⟨v, n, rfl, h⟩⟩
theorem upd_keep {a b : Addr} {o u : HO} (h : H b = some u) (ha : H a = none) : upd H a o b = some u := by rw [upd_ne (ne_of_none h ha)]; exact h
theorem ze {a : Addr} {o : HO} (ha : H a = none) : Same H (upd H a o) := fun _ _ h => upd_keep h ha
theorem rd_ixT {a : Addr} {xs : List V} {i : Int} {v : V} (h : H a = some (.tup xs)) (e : atI xs i = some v) (q : Q v H) : rIx K (.ref a) (.int i) H Q := .inr (.inl ⟨a, xs, i, v, rfl, rfl, SqT.of h, e, q⟩)
theorem z7 {a : Addr} {xs : List V} {i : Int} {v : V} (h : SqL K H a xs) (e : atI xs i = some v) (q : Q v H) : rIx K (.ref a) (.int i) H Q := .inl ⟨a, xs, i, v, rfl, rfl, h, e, q⟩
end
end L2
set_option hygiene false
local macro_rules | `(tactic| walk_at "rd") => `(tactic| (simp only [L2.start, List.map_cons, List.map_nil, List.length_cons, List.length_nil, List.cons_append, List.nil_append, L2.tSeq, L2.tAsg, L2.gName, L2.tC, L2.tOp, L2.tUn, L2.tTest, L2.tIfS, L2.tRet, L2.tRetN, L2.tNext, L2.tDrop, L2.tNot, L2.tAnd, L2.tOr, L2.tAndV, L2.tOrV, L2.tNotV, L2.tCons, L2.tNil, L2.tTup, L2.tLst, L2.tBi, L2.tBl,
 L2.rd_var, L2.rd_varS, L2.rd_I, L2.rd_I0, L2.rd_U, L2.tAug, L2.rd_ipI, L2.rd_addI, L2.rd_addS, L2.rd_test, L2.rd_truB, L2.rd_eqI, L2.rd_neI, L2.rd_eqS, L2.rd_eqB, L2.tFv, L2.tJ0, L2.tJ1, L2.rd_fvI, L2.rd_strS, L2.rd_sz0, L2.rd_sz1, L2.rd_sz2, L2.rd_sz3, L2.rd_sz4, L2.rd_sz5, L2.rd_sz6, L2.rd_sz7, L2.gSub, L2.tCont, L2.tBreak, L2.rd_sz8, L2.rd_sz9, L2.cx_K, L2.cx_mg, L2.cx_prog, L2.cx_w, L2.cx_base, L2.gTup, L2.gCons, L2.gNil, L2.tCl, L2.tGl, L2.tChain, L2.tRaise, L2.tTryAs, L2.tTry2, L2.tNever, L2.sFld, L2.tFld, L2.tMk, L2.tMth, L2.tBM, L2.tBM0, L2.tSl, L2.tNoPart, L2.tPart, L2.rd_part, L2.tSumK, L2.rd_l1, L2.rd_len, L2.tClN, L2.tMkN, L2.tMthN, L2.tBase, L2.tYes, L2.tRg1, L2.tRg2, L2.tIf, L2.cxC_K, L2.cxC_mg, L2.cxC_prog, L2.cxC_w, L2.cxC_base, eq_self, reduceCtorEq, decide_false, Option.getD_some, Option.getD_none,
 List.getElem?_cons_zero, List.getElem?_cons_succ, List.set_cons_zero, List.set_cons_succ, List.replicate, Nat.reduceSub, Nat.reduceAdd, true_and, and_true, List.append_nil, L2.rd_cpow, Int.reduceToNat, Int.reducePow, Int.reduceLT, Int.reduceLE, Int.reduceNeg, L2.fdiv_pos, L2.rd_isiI, L2.rd_isiIB, L2.rd_isiB, L2.rd_isiS, Bool.not_true, Bool.not_false, Bool.false_eq_true, reduceIte, decide_true, decide_eq_true_eq, Bool.true_eq_false, Bool.not_eq_true', decide_eq_false_iff_not, L2.rd_c0, L2.rd_c1, L2.rd_c2, L2.rd_c3, L2.rd_c4, L2.rd_c5, L2.rd_c6, Int.reduceEq, not_true_eq_false, not_false_eq_true, Int.reduceMul, Int.reduceAdd, Int.reduceSub]))
local macro_rules | `(tactic| walk_at "r") => `(tactic| try walk_at "rd")
local macro_rules | `(tactic| walk_at "ixT") => `(tactic| (refine L2.rd_ixT (by assumption) rfl ?_; try walk_at "rd"))
local macro_rules | `(tactic| walk_at "sd") => `(tactic| first | assumption | exact L2.mul_okR (by decide) (by decide) | exact L2.mul_okL (by decide) (by decide) | exact L2.mul_okR (by omega) (by omega) | exact L2.mul_okL (by omega) (by omega) | exact L2.fd_ok (by decide) (by decide +kernel) | decide | omega | exact L2.fd_small (by omega) (by omega))
local macro_rules | `(tactic| walk_at "sds") => `(tactic| repeat (refine And.intro (by walk_at "sd") ?_))
local macro_rules | `(tactic| walk_at "for") => `(tactic| (walk_at "go"; (try simp only [L2.tFor, L2.iSeq, L2.iRng1, L2.iRng2, L2.iRng3, L2.iStr, L2.iEnum, L2.iZip, L2.iZip3, L2.iRev]); try walk_at "rd"))
local macro_rules | `(tactic| walk_at "lc") => `(tactic| (walk_at "go"; (try simp only [L2.tLc, L2.iSeq, L2.stC, L2.iRng1, L2.iRng2, L2.iRng3, L2.iStr, L2.iEnum, L2.iZip, L2.iZip3, L2.iRev]); try walk_at "rd"))
local macro_rules | `(tactic| walk_at "go") => `(tactic| repeat (first | walk_at "rd" | refine And.intro (by assumption) ?_ | refine L2.nxt fun Nq_ hNq_ => ?_ | refine L2.useN (by assumption) ?_))
local macro_rules | `(tactic| walk_at "ne") => `(tactic| first | assumption | exact Ne.symm (by assumption) | exact L2.ne_of_none (by assumption) (by assumption) | exact Ne.symm (L2.ne_of_none (by assumption) (by assumption)))
local macro_rules | `(tactic| walk_at "hp") => `(tactic| first | assumption | exact L2.upd_same | (refine L2.upd_keep ?_ (by assumption); walk_at "hp") | (rw [L2.upd_ne (by walk_at "ne")]; walk_at "hp"))
set_option hygiene false
local macro_rules | `(tactic| walk_at "i") => `(tactic| (intro vs H Q E h; repeat (first | (obtain ⟨rfl, _⟩ := h; rfl) | obtain ⟨_, h⟩ := h)))
local macro_rules | `(tactic| walk_at "j") => `(tactic| intro cdv A outer s H vs Q EX hr h)
local macro_rules | `(tactic| walk_at "k") => `(tactic| intro cdv A outer s H vs Q E hr h)
seal L2.PE L2.PT L2.PA L2.PS L2.PSs L2.PC L2.PG L2.PGs L2.PI L2.PO L2.PK
namespace K15
open PySem L2 Mine
def top (i : Nat) : Stmt := PySem.Challenge.pw_beltshares_k15_whole_text_back.main.body.getD i (.Pass ⟨0, 0, 0, 0⟩)
local macro_rules | `(tactic| walk_at "sc") => `(tactic| exact ⟨rfl, rfl, rfl, by decide +kernel, rfl, by decide +kernel, by decide +kernel⟩)
abbrev s__wall : Stmt := top 0
abbrev s_Belt_init : Stmt := zI (top 10) 0
theorem sc_Belt_init : FnScope ["self", "room", "pace"] ["self", "room", "pace"] (zg s_Belt_init) := by walk_at "sc"
abbrev s_check_pace : Stmt := top 15
theorem sc_check_pace : FnScope ["pace", "least"] ["pace", "least"] (zg s_check_pace) := by walk_at "sc"
abbrev s_check_kind : Stmt := top 16
theorem sc_check_kind : FnScope ["kind"] ["kind"] (zg s_check_kind) := by walk_at "sc"
abbrev s_check_ways : Stmt := top 17
theorem sc_check_ways : FnScope ["belts"] ["belts"] (zg s_check_ways) := by walk_at "sc"
abbrev s_first_place : Stmt := top 18
theorem sc_first_place : FnScope ["wanted", "side", "step", "place"] ["wanted", "side"] (zg s_first_place) := by walk_at "sc"
abbrev s_place_for_ware : Stmt := top 19
theorem sc_place_for_ware : FnScope ["head", "free", "side"] ["head", "free", "side"] (zg s_place_for_ware) := by walk_at "sc"
abbrev s_Knot_init : Stmt := zI (top 20) 0
theorem sc_Knot_init : FnScope ["self", "ins", "outs"] ["self", "ins", "outs"] (zg s_Knot_init) := by walk_at "sc"
abbrev s_Knot_choice : Stmt := zI (top 20) 1
abbrev s_Knot_copied : Stmt := zI (top 20) 2
abbrev s_Source_init : Stmt := zI (top 21) 0
theorem sc_Source_init : FnScope ["self", "out", "pace", "kinds", "kind"] ["self", "out", "pace", "kinds"] (zg s_Source_init) := by walk_at "sc"
abbrev s_Source_choice : Stmt := zI (top 21) 1
abbrev s_Source_copied : Stmt := zI (top 21) 2
theorem sc_Source_copied : FnScope ["self"] ["self"] (zg s_Source_copied) := by walk_at "sc"
abbrev s_Drain_init : Stmt := zI (top 22) 0
theorem sc_Drain_init : FnScope ["self", "into", "pace"] ["self", "into", "pace"] (zg s_Drain_init) := by walk_at "sc"
abbrev s_Drain_choice : Stmt := zI (top 22) 1
abbrev s_Drain_copied : Stmt := zI (top 22) 2
theorem sc_Drain_copied : FnScope ["self"] ["self"] (zg s_Drain_copied) := by walk_at "sc"
abbrev s_Parter_init : Stmt := zI (top 23) 0
theorem sc_Parter_init : FnScope ["self", "into", "outs"] ["self", "into", "outs"] (zg s_Parter_init) := by walk_at "sc"
abbrev s_Parter_choice : Stmt := zI (top 23) 1
theorem sc_Parter_choice : FnScope ["self", "heads", "free", "turn", "side", "place"] ["self", "heads", "free", "turn", "side"] (zg s_Parter_choice) := by walk_at "sc"
abbrev s_Parter_copied : Stmt := zI (top 23) 2
theorem sc_Parter_copied : FnScope ["self"] ["self"] (zg s_Parter_copied) := by walk_at "sc"
abbrev s_FirstParter_init : Stmt := zI (top 24) 0
theorem sc_FirstParter_init : FnScope ["self", "into", "outs"] ["self", "into", "outs"] (zg s_FirstParter_init) := by walk_at "sc"
abbrev s_FirstParter_choice : Stmt := zI (top 24) 1
theorem sc_FirstParter_choice : FnScope ["self", "heads", "free", "turn", "side", "place"] ["self", "heads", "free", "turn", "side"] (zg s_FirstParter_choice) := by walk_at "sc"
abbrev s_FirstParter_copied : Stmt := zI (top 24) 2
theorem sc_FirstParter_copied : FnScope ["self"] ["self"] (zg s_FirstParter_copied) := by walk_at "sc"
abbrev s_Sieve_init : Stmt := zI (top 25) 0
theorem sc_Sieve_init : FnScope ["self", "into", "outs", "kind"] ["self", "into", "outs", "kind"] (zg s_Sieve_init) := by walk_at "sc"
abbrev s_Sieve_choice : Stmt := zI (top 25) 1
abbrev s_Sieve_place_for : Stmt := zI (top 25) 2
abbrev s_Sieve_copied : Stmt := zI (top 25) 3
theorem sc_Sieve_copied : FnScope ["self"] ["self"] (zg s_Sieve_copied) := by walk_at "sc"
abbrev s_Joiner_init : Stmt := zI (top 26) 0
theorem sc_Joiner_init : FnScope ["self", "ins", "out"] ["self", "ins", "out"] (zg s_Joiner_init) := by walk_at "sc"
abbrev s_Joiner_choice : Stmt := zI (top 26) 1
abbrev s_Joiner_copied : Stmt := zI (top 26) 2
theorem sc_Joiner_copied : FnScope ["self"] ["self"] (zg s_Joiner_copied) := by walk_at "sc"
abbrev s_number_from : Stmt := top 30
theorem sc_number_from : FnScope ["word"] ["word"] (zg s_number_from) := by walk_at "sc"
abbrev s_check_size : Stmt := top 34
theorem sc_check_size : FnScope ["belts", "knots"] ["belts", "knots"] (zg s_check_size) := by walk_at "sc"
abbrev s_check_each_once : Stmt := top 35
theorem sc_check_each_once : FnScope ["named", "size"] ["named", "size"] (zg s_check_each_once) := by walk_at "sc"
abbrev s_Work_init : Stmt := zI (top 36) 0
theorem sc_Work_init : FnScope ["self", "belts", "knots", "fed", "taken", "knot"] ["self", "belts", "knots"] (zg s_Work_init) := by walk_at "sc"
abbrev s_Work_feeder : Stmt := zI (top 36) 1
abbrev s_Work_taker : Stmt := zI (top 36) 2
abbrev s_Work_drains : Stmt := zI (top 36) 3
abbrev s_Work_sources : Stmt := zI (top 36) 4
abbrev s_Work_beat : Stmt := zI (top 36) 5
abbrev s_made_part : Stmt := top 38
theorem sc_made_part : FnScope ["name", "numbers", "many"] ["name", "numbers"] (zg s_made_part) := by walk_at "sc"
abbrev s_part_from : Stmt := top 39
theorem sc_part_from : FnScope ["row", "words", "numbers"] ["row"] (zg s_part_from) := by walk_at "sc"
abbrev s_read_work : Stmt := top 40
theorem sc_read_work : FnScope ["text", "belts", "knots", "place", "row", "part"] ["text"] (zg s_read_work) := by walk_at "sc"
abbrev s_row_of : Stmt := top 42
theorem sc_row_of : FnScope ["name", "numbers"] ["name", "numbers"] (zg s_row_of) := by walk_at "sc"
abbrev s_knot_row : Stmt := top 43
theorem sc_knot_row : FnScope ["knot"] ["knot"] (zg s_knot_row) := by walk_at "sc"
abbrev s_work_text : Stmt := top 44
theorem sc_work_text : FnScope ["work", "rows"] ["work"] (zg s_work_text) := by walk_at "sc"
abbrev s_L_cell_at : Stmt := top 46
theorem sc_L_cell_at : FnScope ["_law_script", "_law_k"] ["_law_script", "_law_k"] (zg s_L_cell_at) := by walk_at "sc"
abbrev s_L_kinds_of : Stmt := top 47
theorem sc_L_kinds_of : FnScope ["_law_cell", "_law_kinds", "_law_k", "_law_step_here", "_law_kind"] ["_law_cell"] (zg s_L_kinds_of) := by walk_at "sc"
abbrev s_L_outs_of : Stmt := top 48
theorem sc_L_outs_of : FnScope ["_law_cell", "_law_many", "_law_belts", "_law_ends", "_law_loops", "_law_outs", "_law_k"] ["_law_cell", "_law_many", "_law_belts", "_law_ends", "_law_loops"] (zg s_L_outs_of) := by walk_at "sc"
abbrev s_L_joined : Stmt := top 49
theorem sc_L_joined : FnScope ["_law_cell", "_law_belts", "_law_knots", "_law_ends", "_law_loops", "_law_ins", "_law_k"] ["_law_cell", "_law_belts", "_law_knots", "_law_ends", "_law_loops"] (zg s_L_joined) := by walk_at "sc"
abbrev s_L_step : Stmt := top 50
theorem sc_L_step : FnScope ["_law_cell", "_law_belts", "_law_knots", "_law_ends", "_law_loops", "_law_left", "_law_room", "_law_way", "_law_many", "_law_outs", "_law_ins"] ["_law_cell", "_law_belts", "_law_knots", "_law_ends", "_law_loops"] (zg s_L_step) := by walk_at "sc"
abbrev s_L_parts_of : Stmt := top 51
theorem sc_L_parts_of : FnScope ["_law_script", "_law_belts", "_law_knots", "_law_ends", "_law_loops", "_law_cell", "_law_turn", "_law_at", "_law_many", "_law_moved", "_law_turned", "_law_word", "_law_ins", "_law_outs", "_law_numbers_here", "_law_cut"] ["_law_script"] (zg s_L_parts_of) := by walk_at "sc"
abbrev s_L_rows_of : Stmt := top 52
theorem sc_L_rows_of : FnScope ["_law_made", "_law_rows", "_law_word", "_law_ins", "_law_outs", "_law_numbers_here", "_law_due"] ["_law_made"] (zg s_L_rows_of) := by walk_at "sc"
abbrev s_L_numbers : Stmt := top 53
theorem sc_L_numbers : FnScope ["_law_found", "_law_due", "_law_one", "_law_other"] ["_law_found", "_law_due"] (zg s_L_numbers) := by walk_at "sc"
abbrev s_L_is_part : Stmt := top 54
theorem sc_L_is_part : FnScope ["_law_knot", "_law_part", "_law_word", "_law_ins", "_law_outs", "_law_numbers_here", "_law_free"] ["_law_knot", "_law_part"] (zg s_L_is_part) := by walk_at "sc"
abbrev s_L_is_work : Stmt := top 55
theorem sc_L_is_work : FnScope ["_law_work", "_law_made", "_law_belt", "_law_pair", "_law_knot", "_law_part"] ["_law_work", "_law_made"] (zg s_L_is_work) := by walk_at "sc"
abbrev s_law : Stmt := top 56
theorem sc_law : FnScope ["_law_script", "_law_made", "_law_turned", "_law_other", "_law_first", "_law_second", "_law_work", "_law_beside"] ["_law_script"] (zg s_law) := by walk_at "sc"
local macro_rules | `(tactic| walk_at "T") => `(tactic| (have m_len := T.m_len; have m_range := T.m_range; have m_list := T.m_list; have m_int := T.m_int; have m_all := T.m_all; have m_sorted := T.m_sorted; have m_enumerate := T.m_enumerate; have m_isinstance := T.m_isinstance; have m_str := T.m_str; have m_zip := T.m_zip; have m_bool := T.m_bool))
structure Ad where
 WorkError : Addr
 BadBelt : Addr
 BadKnot : Addr
 BadWork : Addr
 BadRow : Addr
 Belt : Addr
 Knot : Addr
 Source : Addr
 Drain : Addr
 Parter : Addr
 FirstParter : Addr
 Sieve : Addr
 Joiner : Addr
 Work : Addr
structure Txt (K : PySem.W.Frag) (mg : Str → Option Value) (a : Ad) : Prop where
 h__wall : FA K mg "_wall" s__wall ["k"]
 h_check_pace : FA K mg "check_pace" s_check_pace ["pace", "least"]
 h_check_kind : FA K mg "check_kind" s_check_kind ["kind"]
 h_check_ways : FA K mg "check_ways" s_check_ways ["belts"]
 h_first_place : FA K mg "first_place" s_first_place ["wanted", "side"]
 h_place_for_ware : FA K mg "place_for_ware" s_place_for_ware ["head", "free", "side"]
 h_number_from : FA K mg "number_from" s_number_from ["word"]
 h_check_size : FA K mg "check_size" s_check_size ["belts", "knots"]
 h_check_each_once : FA K mg "check_each_once" s_check_each_once ["named", "size"]
 h_made_part : FA K mg "made_part" s_made_part ["name", "numbers"]
 h_part_from : FA K mg "part_from" s_part_from ["row"]
 h_read_work : FA K mg "read_work" s_read_work ["text"]
 h_row_of : FA K mg "row_of" s_row_of ["name", "numbers"]
 h_knot_row : FA K mg "knot_row" s_knot_row ["knot"]
 h_work_text : FA K mg "work_text" s_work_text ["work"]
 h_L_cell_at : FA K mg "_law_cell_at" s_L_cell_at ["_law_script", "_law_k"]
 h_L_kinds_of : FA K mg "_law_kinds_of" s_L_kinds_of ["_law_cell"]
 h_L_outs_of : FA K mg "_law_outs_of" s_L_outs_of ["_law_cell", "_law_many", "_law_belts", "_law_ends", "_law_loops"]
 h_L_joined : FA K mg "_law_joined" s_L_joined ["_law_cell", "_law_belts", "_law_knots", "_law_ends", "_law_loops"]
 h_L_step : FA K mg "_law_step" s_L_step ["_law_cell", "_law_belts", "_law_knots", "_law_ends", "_law_loops"]
 h_L_parts_of : FA K mg "_law_parts_of" s_L_parts_of ["_law_script"]
 h_L_rows_of : FA K mg "_law_rows_of" s_L_rows_of ["_law_made"]
 h_L_numbers : FA K mg "_law_numbers" s_L_numbers ["_law_found", "_law_due"]
 h_L_is_part : FA K mg "_law_is_part" s_L_is_part ["_law_knot", "_law_part"]
 h_L_is_work : FA K mg "_law_is_work" s_L_is_work ["_law_work", "_law_made"]
 m_len : mg "len" = none
 m_range : mg "range" = none
 m_list : mg "list" = none
 m_int : mg "int" = none
 m_all : mg "all" = none
 m_sorted : mg "sorted" = none
 m_enumerate : mg "enumerate" = none
 m_isinstance : mg "isinstance" = none
 m_str : mg "str" = none
 m_zip : mg "zip" = none
 m_bool : mg "bool" = none
 g_WorkError : mg "WorkError" = some (.ref a.WorkError)
 g_BadBelt : mg "BadBelt" = some (.ref a.BadBelt)
 g_BadKnot : mg "BadKnot" = some (.ref a.BadKnot)
 g_BadWork : mg "BadWork" = some (.ref a.BadWork)
 g_BadRow : mg "BadRow" = some (.ref a.BadRow)
 g_Belt : mg "Belt" = some (.ref a.Belt)
 g_Knot : mg "Knot" = some (.ref a.Knot)
 g_Source : mg "Source" = some (.ref a.Source)
 g_Drain : mg "Drain" = some (.ref a.Drain)
 g_Parter : mg "Parter" = some (.ref a.Parter)
 g_FirstParter : mg "FirstParter" = some (.ref a.FirstParter)
 g_Sieve : mg "Sieve" = some (.ref a.Sieve)
 g_Joiner : mg "Joiner" = some (.ref a.Joiner)
 g_Work : mg "Work" = some (.ref a.Work)
 C_Belt : Cls K a.Belt
 N_Belt_room : NoAttr K a.Belt "room"
 N_Belt_pace : NoAttr K a.Belt "pace"
 W_Belt : WI K a.Belt
 h_Belt_init : FK K a.Belt "Belt.__init__" s_Belt_init ["self", "room", "pace"]
 C_Knot : Cls K a.Knot
 N_Knot_ins : NoAttr K a.Knot "ins"
 N_Knot_outs : NoAttr K a.Knot "outs"
 W_Knot : WI K a.Knot
 h_Knot_init : FK K a.Knot "Knot.__init__" s_Knot_init ["self", "ins", "outs"]
 b_Knot_init : FB K mg "Knot" "__init__" "Knot.__init__" s_Knot_init ["self", "ins", "outs"]
 h_Knot_choice : FM K a.Knot "choice" "Knot.choice" s_Knot_choice ["self", "heads", "free", "turn", "side"]
 h_Knot_copied : FM K a.Knot "copied" "Knot.copied" s_Knot_copied ["self"]
 C_Source : Cls K a.Source
 N_Source_pace : NoAttr K a.Source "pace"
 N_Source_kinds : NoAttr K a.Source "kinds"
 N_Source_ins : NoAttr K a.Source "ins"
 N_Source_outs : NoAttr K a.Source "outs"
 W_Source : WI K a.Source
 h_Source_init : FK K a.Source "Source.__init__" s_Source_init ["self", "out", "pace", "kinds"]
 h_Source_choice : FM K a.Source "choice" "Source.choice" s_Source_choice ["self", "heads", "free", "turn", "side"]
 h_Source_copied : FM K a.Source "copied" "Source.copied" s_Source_copied ["self"]
 C_Drain : Cls K a.Drain
 N_Drain_pace : NoAttr K a.Drain "pace"
 N_Drain_ins : NoAttr K a.Drain "ins"
 N_Drain_outs : NoAttr K a.Drain "outs"
 W_Drain : WI K a.Drain
 h_Drain_init : FK K a.Drain "Drain.__init__" s_Drain_init ["self", "into", "pace"]
 h_Drain_choice : FM K a.Drain "choice" "Drain.choice" s_Drain_choice ["self", "heads", "free", "turn", "side"]
 h_Drain_copied : FM K a.Drain "copied" "Drain.copied" s_Drain_copied ["self"]
 C_Parter : Cls K a.Parter
 N_Parter_ins : NoAttr K a.Parter "ins"
 N_Parter_outs : NoAttr K a.Parter "outs"
 W_Parter : WI K a.Parter
 h_Parter_init : FK K a.Parter "Parter.__init__" s_Parter_init ["self", "into", "outs"]
 h_Parter_choice : FM K a.Parter "choice" "Parter.choice" s_Parter_choice ["self", "heads", "free", "turn", "side"]
 h_Parter_copied : FM K a.Parter "copied" "Parter.copied" s_Parter_copied ["self"]
 C_FirstParter : Cls K a.FirstParter
 N_FirstParter_ins : NoAttr K a.FirstParter "ins"
 N_FirstParter_outs : NoAttr K a.FirstParter "outs"
 W_FirstParter : WI K a.FirstParter
 h_FirstParter_init : FK K a.FirstParter "FirstParter.__init__" s_FirstParter_init ["self", "into", "outs"]
 h_FirstParter_choice : FM K a.FirstParter "choice" "FirstParter.choice" s_FirstParter_choice ["self", "heads", "free", "turn", "side"]
 h_FirstParter_copied : FM K a.FirstParter "copied" "FirstParter.copied" s_FirstParter_copied ["self"]
 C_Sieve : Cls K a.Sieve
 N_Sieve_kind : NoAttr K a.Sieve "kind"
 N_Sieve_ins : NoAttr K a.Sieve "ins"
 N_Sieve_outs : NoAttr K a.Sieve "outs"
 W_Sieve : WI K a.Sieve
 h_Sieve_init : FK K a.Sieve "Sieve.__init__" s_Sieve_init ["self", "into", "outs", "kind"]
 h_Sieve_choice : FM K a.Sieve "choice" "Sieve.choice" s_Sieve_choice ["self", "heads", "free", "turn", "side"]
 h_Sieve_place_for : FM K a.Sieve "place_for" "Sieve.place_for" s_Sieve_place_for ["self", "kind"]
 h_Sieve_copied : FM K a.Sieve "copied" "Sieve.copied" s_Sieve_copied ["self"]
 C_Joiner : Cls K a.Joiner
 N_Joiner_ins : NoAttr K a.Joiner "ins"
 N_Joiner_outs : NoAttr K a.Joiner "outs"
 W_Joiner : WI K a.Joiner
 h_Joiner_init : FK K a.Joiner "Joiner.__init__" s_Joiner_init ["self", "ins", "out"]
 h_Joiner_choice : FM K a.Joiner "choice" "Joiner.choice" s_Joiner_choice ["self", "heads", "free", "turn", "side"]
 h_Joiner_copied : FM K a.Joiner "copied" "Joiner.copied" s_Joiner_copied ["self"]
 C_Work : Cls K a.Work
 N_Work_belts : NoAttr K a.Work "belts"
 N_Work_knots : NoAttr K a.Work "knots"
 W_Work : WI K a.Work
 h_Work_init : FK K a.Work "Work.__init__" s_Work_init ["self", "belts", "knots"]
 h_Work_feeder : FM K a.Work "feeder" "Work.feeder" s_Work_feeder ["self", "belt"]
 h_Work_taker : FM K a.Work "taker" "Work.taker" s_Work_taker ["self", "belt"]
 h_Work_drains : FM K a.Work "drains" "Work.drains" s_Work_drains ["self"]
 h_Work_sources : FM K a.Work "sources" "Work.sources" s_Work_sources ["self"]
 h_Work_beat : FM K a.Work "beat" "Work.beat" s_Work_beat ["self"]
 g_MOST_ROOM : ∃ t, mg "MOST_ROOM" = some (.int 6 t)
 g_MOST_PACE : ∃ t, mg "MOST_PACE" = some (.int 4 t)
 g_MOST_KINDS : ∃ t, mg "MOST_KINDS" = some (.int 6 t)
 g_FEWEST_WAYS : ∃ t, mg "FEWEST_WAYS" = some (.int 2 t)
 g_MOST_WAYS : ∃ t, mg "MOST_WAYS" = some (.int 4 t)
 g_FIGURES : ∃ t, mg "FIGURES" = some (.str "0123456789" t)
 g_MOST_FIGURES : ∃ t, mg "MOST_FIGURES" = some (.int 30 t)
 g_MOST_BELTS : ∃ t, mg "MOST_BELTS" = some (.int 24 t)
 g_MOST_KNOTS : ∃ t, mg "MOST_KNOTS" = some (.int 24 t)
 X_BadBelt : XC K a.BadBelt
 XI_BadBelt : XI K a.BadBelt
 X_BadKnot : XC K a.BadKnot
 XI_BadKnot : XI K a.BadKnot
 X_BadWork : XC K a.BadWork
 XI_BadWork : XI K a.BadWork
 S_BadBelt : PySem.W.subIn K (.ref a.BadBelt) (.type "BaseException") = some true
 E_BadBelt_BadBelt : PySem.W.kitCls K (.ref a.BadBelt) (.ref a.BadBelt) = some true
 E_BadKnot_BadBelt : PySem.W.kitCls K (.ref a.BadKnot) (.ref a.BadBelt) = some false
 E_BadWork_BadBelt : PySem.W.kitCls K (.ref a.BadWork) (.ref a.BadBelt) = some false
 S_BadKnot : PySem.W.subIn K (.ref a.BadKnot) (.type "BaseException") = some true
 E_BadBelt_BadKnot : PySem.W.kitCls K (.ref a.BadBelt) (.ref a.BadKnot) = some false
 E_BadKnot_BadKnot : PySem.W.kitCls K (.ref a.BadKnot) (.ref a.BadKnot) = some true
 E_BadWork_BadKnot : PySem.W.kitCls K (.ref a.BadWork) (.ref a.BadKnot) = some false
 k1_Belt_Knot : PySem.W.kitOne K (.ref a.Belt) (.ref a.Knot) = some false
 k1_Knot_Knot : PySem.W.kitOne K (.ref a.Knot) (.ref a.Knot) = some true
 k1_Source_Knot : PySem.W.kitOne K (.ref a.Source) (.ref a.Knot) = some true
 k1_Drain_Knot : PySem.W.kitOne K (.ref a.Drain) (.ref a.Knot) = some true
 k1_Parter_Knot : PySem.W.kitOne K (.ref a.Parter) (.ref a.Knot) = some true
 k1_FirstParter_Knot : PySem.W.kitOne K (.ref a.FirstParter) (.ref a.Knot) = some true
 k1_Sieve_Knot : PySem.W.kitOne K (.ref a.Sieve) (.ref a.Knot) = some true
 k1_Joiner_Knot : PySem.W.kitOne K (.ref a.Joiner) (.ref a.Knot) = some true
 k1_Work_Knot : PySem.W.kitOne K (.ref a.Work) (.ref a.Knot) = some false
 k1_Belt_Belt : PySem.W.kitOne K (.ref a.Belt) (.ref a.Belt) = some true
 k1_Knot_Belt : PySem.W.kitOne K (.ref a.Knot) (.ref a.Belt) = some false
 k1_Source_Belt : PySem.W.kitOne K (.ref a.Source) (.ref a.Belt) = some false
 k1_Drain_Belt : PySem.W.kitOne K (.ref a.Drain) (.ref a.Belt) = some false
 k1_Parter_Belt : PySem.W.kitOne K (.ref a.Parter) (.ref a.Belt) = some false
 k1_FirstParter_Belt : PySem.W.kitOne K (.ref a.FirstParter) (.ref a.Belt) = some false
 k1_Sieve_Belt : PySem.W.kitOne K (.ref a.Sieve) (.ref a.Belt) = some false
 k1_Joiner_Belt : PySem.W.kitOne K (.ref a.Joiner) (.ref a.Belt) = some false
 k1_Work_Belt : PySem.W.kitOne K (.ref a.Work) (.ref a.Belt) = some false
 k1_Belt_Source : PySem.W.kitOne K (.ref a.Belt) (.ref a.Source) = some false
 k1_Knot_Source : PySem.W.kitOne K (.ref a.Knot) (.ref a.Source) = some false
 k1_Source_Source : PySem.W.kitOne K (.ref a.Source) (.ref a.Source) = some true
 k1_Drain_Source : PySem.W.kitOne K (.ref a.Drain) (.ref a.Source) = some false
 k1_Parter_Source : PySem.W.kitOne K (.ref a.Parter) (.ref a.Source) = some false
 k1_FirstParter_Source : PySem.W.kitOne K (.ref a.FirstParter) (.ref a.Source) = some false
 k1_Sieve_Source : PySem.W.kitOne K (.ref a.Sieve) (.ref a.Source) = some false
 k1_Joiner_Source : PySem.W.kitOne K (.ref a.Joiner) (.ref a.Source) = some false
 k1_Work_Source : PySem.W.kitOne K (.ref a.Work) (.ref a.Source) = some false
 k1_Belt_Drain : PySem.W.kitOne K (.ref a.Belt) (.ref a.Drain) = some false
 k1_Knot_Drain : PySem.W.kitOne K (.ref a.Knot) (.ref a.Drain) = some false
 k1_Source_Drain : PySem.W.kitOne K (.ref a.Source) (.ref a.Drain) = some false
 k1_Drain_Drain : PySem.W.kitOne K (.ref a.Drain) (.ref a.Drain) = some true
 k1_Parter_Drain : PySem.W.kitOne K (.ref a.Parter) (.ref a.Drain) = some false
 k1_FirstParter_Drain : PySem.W.kitOne K (.ref a.FirstParter) (.ref a.Drain) = some false
 k1_Sieve_Drain : PySem.W.kitOne K (.ref a.Sieve) (.ref a.Drain) = some false
 k1_Joiner_Drain : PySem.W.kitOne K (.ref a.Joiner) (.ref a.Drain) = some false
 k1_Work_Drain : PySem.W.kitOne K (.ref a.Work) (.ref a.Drain) = some false
 k1_Belt_Parter : PySem.W.kitOne K (.ref a.Belt) (.ref a.Parter) = some false
 k1_Knot_Parter : PySem.W.kitOne K (.ref a.Knot) (.ref a.Parter) = some false
 k1_Source_Parter : PySem.W.kitOne K (.ref a.Source) (.ref a.Parter) = some false
 k1_Drain_Parter : PySem.W.kitOne K (.ref a.Drain) (.ref a.Parter) = some false
 k1_Parter_Parter : PySem.W.kitOne K (.ref a.Parter) (.ref a.Parter) = some true
 k1_FirstParter_Parter : PySem.W.kitOne K (.ref a.FirstParter) (.ref a.Parter) = some false
 k1_Sieve_Parter : PySem.W.kitOne K (.ref a.Sieve) (.ref a.Parter) = some false
 k1_Joiner_Parter : PySem.W.kitOne K (.ref a.Joiner) (.ref a.Parter) = some false
 k1_Work_Parter : PySem.W.kitOne K (.ref a.Work) (.ref a.Parter) = some false
 k1_Belt_FirstParter : PySem.W.kitOne K (.ref a.Belt) (.ref a.FirstParter) = some false
 k1_Knot_FirstParter : PySem.W.kitOne K (.ref a.Knot) (.ref a.FirstParter) = some false
 k1_Source_FirstParter : PySem.W.kitOne K (.ref a.Source) (.ref a.FirstParter) = some false
 k1_Drain_FirstParter : PySem.W.kitOne K (.ref a.Drain) (.ref a.FirstParter) = some false
 k1_Parter_FirstParter : PySem.W.kitOne K (.ref a.Parter) (.ref a.FirstParter) = some false
 k1_FirstParter_FirstParter : PySem.W.kitOne K (.ref a.FirstParter) (.ref a.FirstParter) = some true
 k1_Sieve_FirstParter : PySem.W.kitOne K (.ref a.Sieve) (.ref a.FirstParter) = some false
 k1_Joiner_FirstParter : PySem.W.kitOne K (.ref a.Joiner) (.ref a.FirstParter) = some false
 k1_Work_FirstParter : PySem.W.kitOne K (.ref a.Work) (.ref a.FirstParter) = some false
 k1_Belt_Sieve : PySem.W.kitOne K (.ref a.Belt) (.ref a.Sieve) = some false
 k1_Knot_Sieve : PySem.W.kitOne K (.ref a.Knot) (.ref a.Sieve) = some false
 k1_Source_Sieve : PySem.W.kitOne K (.ref a.Source) (.ref a.Sieve) = some false
 k1_Drain_Sieve : PySem.W.kitOne K (.ref a.Drain) (.ref a.Sieve) = some false
 k1_Parter_Sieve : PySem.W.kitOne K (.ref a.Parter) (.ref a.Sieve) = some false
 k1_FirstParter_Sieve : PySem.W.kitOne K (.ref a.FirstParter) (.ref a.Sieve) = some false
 k1_Sieve_Sieve : PySem.W.kitOne K (.ref a.Sieve) (.ref a.Sieve) = some true
 k1_Joiner_Sieve : PySem.W.kitOne K (.ref a.Joiner) (.ref a.Sieve) = some false
 k1_Work_Sieve : PySem.W.kitOne K (.ref a.Work) (.ref a.Sieve) = some false
 k1_Belt_Joiner : PySem.W.kitOne K (.ref a.Belt) (.ref a.Joiner) = some false
 k1_Knot_Joiner : PySem.W.kitOne K (.ref a.Knot) (.ref a.Joiner) = some false
 k1_Source_Joiner : PySem.W.kitOne K (.ref a.Source) (.ref a.Joiner) = some false
 k1_Drain_Joiner : PySem.W.kitOne K (.ref a.Drain) (.ref a.Joiner) = some false
 k1_Parter_Joiner : PySem.W.kitOne K (.ref a.Parter) (.ref a.Joiner) = some false
 k1_FirstParter_Joiner : PySem.W.kitOne K (.ref a.FirstParter) (.ref a.Joiner) = some false
 k1_Sieve_Joiner : PySem.W.kitOne K (.ref a.Sieve) (.ref a.Joiner) = some false
 k1_Joiner_Joiner : PySem.W.kitOne K (.ref a.Joiner) (.ref a.Joiner) = some true
 k1_Work_Joiner : PySem.W.kitOne K (.ref a.Work) (.ref a.Joiner) = some false
 k1_Belt_Work : PySem.W.kitOne K (.ref a.Belt) (.ref a.Work) = some false
 k1_Knot_Work : PySem.W.kitOne K (.ref a.Knot) (.ref a.Work) = some false
 k1_Source_Work : PySem.W.kitOne K (.ref a.Source) (.ref a.Work) = some false
 k1_Drain_Work : PySem.W.kitOne K (.ref a.Drain) (.ref a.Work) = some false
 k1_Parter_Work : PySem.W.kitOne K (.ref a.Parter) (.ref a.Work) = some false
 k1_FirstParter_Work : PySem.W.kitOne K (.ref a.FirstParter) (.ref a.Work) = some false
 k1_Sieve_Work : PySem.W.kitOne K (.ref a.Sieve) (.ref a.Work) = some false
 k1_Joiner_Work : PySem.W.kitOne K (.ref a.Joiner) (.ref a.Work) = some false
 k1_Work_Work : PySem.W.kitOne K (.ref a.Work) (.ref a.Work) = some true
section
variable {P : Program} {w : World} {K : PySem.W.Frag} {mg : Str → Option Value} {base : Heap} {a : Ad} {f : Addr} {fd : FuncData}
theorem at0 {α : Type} {x : α} {xs : List α} : atI (x :: xs) 0 = some x := by
 have := jN (xs := x :: xs) (j := 0) rfl
 simpa using this
def iv (ns : List Int) : List V := ns.map V.int
def kf (l1 l2 : Addr) : List (Str × V) := putF "outs" (.ref l2) (putF "ins" (.ref l1) [])
theorem kf_outs {l1 l2 : Addr} : (kf l1 l2).lookup ("outs" : Str) = some (.ref l2) := by
 unfold kf; rw [jE, if_pos rfl]
theorem Zq {l1 l2 : Addr} : (kf l1 l2).length < 1000 := by
 unfold kf; have := qX "outs" (V.ref l2) (putF "ins" (.ref l1) []); have := qX "ins" (V.ref l1) []; simp at *; omega
def Own (H H' : Hp) (y : Addr) : Prop := ∀ b o, b ≠ y → H b = some o → H' b = some o
theorem Same.own {H H' : Hp} {y : Addr} (s : Same H H') : Own H H' y := fun b o _ h => s b o h
theorem Own.trans {H1 H2 H3 : Hp} {y : Addr} (s : Own H1 H2 y) (t : Own H2 H3 y) : Own H1 H3 y := fun b o hb h => t b o hb (s b o hb h)
theorem qW {H : Hp} {y : Addr} {o : HO} : Own H (upd H y o) y := fun b u hb h => by rw [upd_ne hb]; exact h
theorem Own.of_new {H H' : Hp} {y dx : Addr} {o p : HO} (hy : H y = none) (hd : H dx = none) (s : Own (upd (upd H dx o) y p) H' y) : Same H H' := fun b u h =>
 s b u (ne_of_none h hy) (by rw [upd_ne (ne_of_none h hy), upd_ne (ne_of_none h hd)]; exact h)
theorem zp {H : Hp} {p b : Addr} {o : HO} (h : upd H p o b = none) : H b = none := by
 by_cases e : b = p
 ·subst e; rw [upd_same] at h; cases h
 ·rw [upd_ne e] at h; exact h
def wk (K : PySem.W.Frag) : Sp := fun vs H Q _ => ∃ (y C dx i o : Addr) (xs ys : List V), vs = [.ref y, .ref i, .ref o] ∧ H y = some (.ins C dx []) ∧ Cls K C ∧ NoAttr K C "ins" ∧ NoAttr K C "outs" ∧ SqL K H i xs ∧ SqL K H o ys ∧ i ≠ y ∧ o ≠ y ∧
 ∀ H' l1 l2, Own H H' y → H' y = some (.ins C dx (kf l1 l2)) → H' l1 = some (.lst xs) → H' l2 = some (.lst ys) → H l1 = none → H l2 = none → Q .non H'
theorem Zz {H H' : Hp} {y l : Addr} {xs : List V} (h : SqL K H l xs) (s : Own H H' y) (hl : l ≠ y) : SqL K H' l xs := by
 rcases h with h | h
 ·refine .inl ?_
  rcases h with h | ⟨ob, h⟩
  ·exact .inl (s _ _ hl h)
  ·exact .inr ⟨ob, s _ _ hl h⟩
 ·exact .inr h
theorem ok_Knot_init (T : Txt K mg a) (F : Fun K "__init__" "Knot.__init__" s_Knot_init f fd) : FnOk P w K mg base (CXr P w) 1 f fd ["self", "ins", "outs"] (wk K) := by
 refine F.okx sc_Knot_init ?_ ?_
 ·walk_at "i"
 walk_at "k"
 refine oE7 h fun y C dx i o xs ys z1_ => oA6 z1_ fun z2_ hy hC hN1 hN2 z3_ => oA5 z3_ fun hi ho hiy hoy k => ?_
 clear h
 subst z2_
 walk_at "T"
 refine ⟨_, (zt (ja (pv 0) (jz xw qO (za (pv 1) zb)) rfl)  (zf (ja (pv 0) (jz xw qO (za (pv 2) zb)) rfl))), ?_⟩
 walk_at "go"
 refine iE2 i xs (iA3 rfl (.inl hi) (fun l1 h1 => ?_))
 walk_at "go"
 have y1 : y ≠ l1 := ne_of_none hy h1
 refine iE4 y C dx ([]) (iA6 rfl (upd_keep hy h1) hC hN1 (by decide) ?_)
 walk_at "go"
 have s1 : Own H (upd (upd H l1 (.lst xs)) y (.ins C dx (putF "ins" (.ref l1) []))) y := (Same.own (ze h1)).trans qW
 refine iE2 o ys (iA3 rfl (.inl (Zz ho s1 hoy)) (fun l2 h2 => ?_))
 walk_at "go"
 have y2 : y ≠ l2 := ne_of_none upd_same h2
 have l12 : l1 ≠ l2 := fun z => by
  rw [← z, upd_ne (Ne.symm y1), upd_same] at h2; cases h2
 refine iE4 y C dx _ (iA6 rfl (upd_keep upd_same h2) hC hN2 (by show 1 < 1000; decide) ?_)
 refine k _ l1 l2 (s1.trans ((Same.own (ze h2)).trans qW)) upd_same ?_ ?_ h1 ?_
 ·rw [upd_ne (Ne.symm y1), upd_ne l12, upd_ne (Ne.symm y1), upd_same]
 ·rw [upd_ne (Ne.symm y2), upd_same]
 ·rw [upd_ne (Ne.symm y2), upd_ne (Ne.symm l12)] at h2
  exact h2
theorem b_Knot_init (T : Txt K mg a) : BCal P w K mg base "Knot" "__init__" 1 ["self", "ins", "outs"] [] (wk K) := T.b_Knot_init.cal (ok_Knot_init T)
def xN (K : PySem.W.Frag) (a : Ad) : Sp := fun vs H Q E => ∃ (l : Addr) (xs : List V), vs = [.ref l] ∧ SqL K H l xs ∧ if 2 ≤ xs.length ∧ xs.length ≤ 4 then Q .non H else E (.ref a.BadKnot) none H
theorem ok_check_ways (T : Txt K mg a) (F : Fun K "check_ways" "check_ways" s_check_ways f fd) : FnOk P w K mg base (CXr P w) 1 f fd ["belts"] (xN K a) := by
 refine F.okx sc_check_ways ?_ ?_
 ·walk_at "i"
 walk_at "k"
 refine oE2 h fun l xs z1_ => oA3 z1_ fun z2_ hl k => ?_
 clear h
 subst z2_
 walk_at "T"
 refine ⟨_, (zf (zw (zZ (qz qF qF qk (zA zD zC (za (pv 0) zb)) qk))  (zf (qu ⟨rfl, rfl, rfl⟩ rfl (za zu zb)))  zk)), ?_⟩
 walk_at "go"
 obtain ⟨t1, g1⟩ := T.g_FEWEST_WAYS
 obtain ⟨t2, g2⟩ := T.g_MOST_WAYS
 have bad : ¬ (2 ≤ xs.length ∧ xs.length ≤ 4) → ∃ C, mg "BadKnot" = some (Value.ref C) ∧ XC K C ∧ E (Value.ref C) none H := fun h => by
  rw [if_neg h] at k
  exact ⟨a.BadKnot, iA3 T.g_BadKnot T.X_BadKnot k⟩
 refine iE2 (.int 2) _ (iA3 g1 ⟨_, rfl⟩ ?_)
 walk_at "go"
 refine ⟨_, .inl ⟨_, hl, rfl⟩, ?_⟩
 walk_at "r"
 refine ite2 (fun h1 => ?_) (fun h1 => bad (by omega))
 refine iE2 (.int 4) _ (iA3 g2 ⟨_, rfl⟩ ?_)
 walk_at "r"
 refine ite2 (fun h2 => bad (by omega)) (fun h2 => ?_)
 rw [if_pos (by omega)] at k
 exact k
theorem jp (T : Txt K mg a) : Cal P w K mg base "check_ways" 1 ["belts"] [] (xN K a) := T.h_check_ways.cal (ok_check_ways T)
def fpAt (bs : List Bool) (side : Nat) : Nat → Nat → Option Nat
 | 0, _ => none
 | n + 1, k => if bs.getD ((side + k) % bs.length) false = true then some ((side + k) % bs.length) else fpAt bs side n (k + 1)
def jb (bs : List Bool) (side : Nat) : Option Nat := fpAt bs side bs.length 0
def optV : Option Nat → V
 | none => .non
 | some n => .int n
theorem ZQ {bs : List Bool} {side : Nat} (h : 0 < bs.length) : ∀ {n k p : Nat}, fpAt bs side n k = some p → p < bs.length
 | 0, _, _, e => by simp [fpAt] at e
 | n + 1, k, p, e => by
  unfold fpAt at e
  split at e
  ·cases e; exact Nat.mod_lt _ h
  ·exact ZQ h e
theorem firstP_lt {bs : List Bool} {side p : Nat} (e : jb bs side = some p) : p < bs.length := by
 by_cases h : 0 < bs.length
 ·exact ZQ h e
 ·unfold jb at e
  rw [show bs.length = 0 by omega] at e
  simp [fpAt] at e
def xf (K : PySem.W.Frag) : Sp := fun vs H Q _ => ∃ (l : Addr) (bs : List Bool) (side : Nat), vs = [.ref l, .int side] ∧ SqL K H l (bs.map V.bl) ∧ bs.length ≤ 1000 ∧ Q (optV (jb bs side)) H
theorem ok_first_place (T : Txt K mg a) (F : Fun K "first_place" "first_place" s_first_place f fd) : FnOk P w K mg base (CXr P w) 1 f fd ["wanted", "side"] (xf K) := by
 refine F.okx sc_first_place ?_ ?_
 ·walk_at "i"
 walk_at "k"
 obtain ⟨l, bs, side, rfl, hl, hb, k⟩ := h
 walk_at "T"
 refine ⟨_, (zt (qy qR rfl (vw (za (zA zD zC (za (pv 0) zb)) zb)) (pg_n 2 sc_first_place.nd)  (zt (zO 3 sc_first_place.nd (zi zL (zi zB (pv 1) (pv 2)) (zA zD zC (za (pv 0) zb))))  (zf (zw (zG (zR (pv 0) (pv 3)) (fun _ => rfl))  (zf (zo (pv 3)))  zk))))  (zf (zo qi))), ?_⟩
 walk_at "for"
 walk_at "go"
 refine ⟨_, .inl ⟨_, hl, rfl⟩, by omega, by rw [List.length_map]; omega, ?_⟩
 refine ZR (fun i σ H' => ∃ v2 v3, σ = [some (.ref l), some (.int side), v2, v3] ∧ H' = H ∧ Q (optV (fpAt bs side (bs.length - i) i)) H) ⟨_, _, rfl, rfl, k⟩ ?_ ?_
 ·rintro i σ H' hi ⟨v2, v3, rfl, rfl, k⟩
  have hi : i < bs.length := by simpa using hi
  walk_at "go"
  refine ⟨_, .inl ⟨_, hl, rfl⟩, ?_⟩
  walk_at "r"
  rw [List.length_map]
  refine And.intro (by omega) ?_
  have e : ((side : Int) + (0 + (i : Int))) % (bs.length : Int) = (((side + i) % bs.length : Nat) : Int) := by push_cast; rw [Int.zero_add]
  rw [e]
  have hlt : (side + i) % bs.length < bs.length := Nat.mod_lt _ (by omega)
  refine z7 hl (jN (by rw [List.getElem?_map, List.getElem?_eq_getElem hlt]; rfl)) ?_
  walk_at "r"
  have em : bs.length - i = (bs.length - (i + 1)) + 1 := by omega
  rw [em, fpAt] at k
  have eg : bs.getD ((side + i) % bs.length) false = bs[(side + i) % bs.length] := by simp [hlt]
  rw [eg] at k
  cases hbb : bs[(side + i) % bs.length] with
  | true =>
   rw [hbb, if_pos rfl] at k
   walk_at "r"
   exact k
  | false =>
   rw [hbb, if_neg (by decide)] at k
   walk_at "r"
   first | exact ⟨_, _, rfl, rfl, k⟩ | exact ⟨_, _, rfl, k⟩ | exact k
 ·rintro σ H' ⟨v2, v3, rfl, rfl, k⟩
  walk_at "r"
  simpa [fpAt, optV] using k
theorem c_first_place (T : Txt K mg a) : Cal P w K mg base "first_place" 1 ["wanted", "side"] [] (xf K) := T.h_first_place.cal (ok_first_place T)
def wj (K : PySem.W.Frag) : Sp := fun vs H Q _ => ∃ (v : V) (l : Addr) (bs : List Bool) (side : Nat), vs = [v, .ref l, .int side] ∧ SqL K H l (bs.map V.bl) ∧ bs.length ≤ 1000 ∧ Q (if v = .non then .non else optV (jb bs side)) H
theorem ok_place_for_ware (T : Txt K mg a) (F : Fun K "place_for_ware" "place_for_ware" s_place_for_ware f fd) : FnOk P w K mg base (CXr P w) 2 f fd ["head", "free", "side"] (wj K) := by
 refine F.okx sc_place_for_ware ?_ ?_
 ·walk_at "i"
 walk_at "k"
 refine oE4 h fun v l bs side z1_ => oA4 z1_ fun z2_ hl hb k => ?_
 clear h
 subst z2_
 walk_at "T"
 refine ⟨_, (zf (zo (pe_ifExp (zj Zp (pv 0) qi (zl _)) qi (zH ⟨rfl, rfl, rfl⟩ hr (za (pv 1) (za (pv 2) zb)))))), ?_⟩
 walk_at "go"
 refine ite2 (fun h => ?_) (fun h => ?_)
 ·rw [if_pos h] at k
  walk_at "r"
  exact k
 ·rw [if_neg h] at k
  walk_at "r"
  exact iE3 _ _ _ ⟨c_first_place T, ⟨l, bs, side, rfl, hl, hb, k⟩⟩
theorem ji (T : Txt K mg a) : Cal P w K mg base "place_for_ware" 2 ["head", "free", "side"] [] (wj K) := T.h_place_for_ware.cal (ok_place_for_ware T)
def xP (a : Ad) : Sp := fun vs H Q E => ∃ p q : Int, vs = [.int p, .int q] ∧ if q ≤ p ∧ p ≤ 4 then Q .non H else E (.ref a.BadKnot) none H
theorem ok_check_pace (T : Txt K mg a) (F : Fun K "check_pace" "check_pace" s_check_pace f fd) : FnOk P w K mg base (CXr P w) 1 f fd ["pace", "least"] (xP a) := by
 refine F.okx sc_check_pace ?_ ?_
 ·walk_at "i"
 walk_at "k"
 refine oE2 h fun p q z1_ => oA2 z1_ fun z2_ k => ?_
 clear h
 subst z2_
 walk_at "T"
 refine ⟨_, (zf (zw (zZ (qz qF qF (pv 1) (pv 0) qk))  (zf (qu ⟨rfl, rfl, rfl⟩ rfl (za zu zb)))  zk)), ?_⟩
 walk_at "go"
 obtain ⟨t1, g1⟩ := T.g_MOST_PACE
 have bad : ¬ (q ≤ p ∧ p ≤ 4) → ∃ C, mg "BadKnot" = some (Value.ref C) ∧ XC K C ∧ E (Value.ref C) none H := fun h => by
  rw [if_neg h] at k
  exact ⟨a.BadKnot, iA3 T.g_BadKnot T.X_BadKnot k⟩
 refine ite2 (fun h1 => ?_) (fun h1 => bad (by omega))
 refine iE2 (.int 4) _ (iA3 g1 ⟨_, rfl⟩ ?_)
 walk_at "go"
 refine ite2 (fun h2 => bad (by omega)) (fun h2 => ?_)
 rw [if_pos (by omega)] at k
 walk_at "go"
 exact k
theorem xr (T : Txt K mg a) : Cal P w K mg base "check_pace" 1 ["pace", "least"] [] (xP a) := T.h_check_pace.cal (ok_check_pace T)
abbrev zJ : Int := 1000000000000000000000000000000
def xQ (a : Ad) : Sp := fun vs H Q E => ∃ n : Int, vs = [.int n] ∧ if 0 ≤ n ∧ n < zJ then Q .non H else E (.ref a.BadKnot) none H
theorem ok_check_kind (T : Txt K mg a) (F : Fun K "check_kind" "check_kind" s_check_kind f fd) : FnOk P w K mg base (CXr P w) 1 f fd ["kind"] (xQ a) := by
 refine F.okx sc_check_kind ?_ ?_
 ·walk_at "i"
 walk_at "k"
 obtain ⟨n, rfl, k⟩ := h
 walk_at "T"
 refine ⟨_, (zf (zw (zZ (qz qF Qj zd (pv 0) (zi vy zd zd)))  (zf (qu ⟨rfl, rfl, rfl⟩ rfl (za zu zb)))  zk)), ?_⟩
 walk_at "go"
 have bad : ¬ (0 ≤ n ∧ n < zJ) → ∃ C, mg "BadKnot" = some (Value.ref C) ∧ XC K C ∧ E (Value.ref C) none H := fun h => by
  rw [if_neg h] at k
  exact ⟨a.BadKnot, iA3 T.g_BadKnot T.X_BadKnot k⟩
 refine ite2 (fun h1 => ?_) (fun h1 => bad (by omega))
 walk_at "go"
 refine ite2 (fun h2 => bad (by unfold zJ; omega)) (fun h2 => ?_)
 rw [if_pos (by unfold zJ; omega)] at k
 walk_at "go"
 exact k
theorem xt (T : Txt K mg a) : Cal P w K mg base "check_kind" 1 ["kind"] [] (xQ a) := T.h_check_kind.cal (ok_check_kind T)
def Told (H : Hp) (v : V) (r : Option (List V)) : Prop := match r with
 | none => v = .non
 | some xs => ∃ p, v = .ref p ∧ H p = some (.tup xs)
theorem Told.same {H H' : Hp} {v : V} {r : Option (List V)} (h : Told H v r) (s : Same H H') : Told H' v r := by
 cases r with
 | none => exact h
 | some xs => exact let ⟨p, e, hp⟩ := h; ⟨p, e, s _ _ hp⟩
def qM (K : PySem.W.Frag) (C CB : Addr) : Sp := fun vs H Q E => ∃ (y dx o : Addr) (into : V) (ys : List V), vs = [.ref y, into, .ref o] ∧ H y = some (.ins C dx []) ∧ SqL K H o ys ∧ o ≠ y ∧
 if 2 ≤ ys.length ∧ ys.length ≤ 4 then ∀ H' l1 l2, Own H H' y → H' y = some (.ins C dx (kf l1 l2)) → H' l1 = some (.lst [into]) → H' l2 = some (.lst ys) → H l1 = none → H l2 = none → Q .non H' else E (.ref CB) none H
theorem ok_Parter_init (T : Txt K mg a) (F : Fun K "__init__" "Parter.__init__" s_Parter_init f fd) : FnOk P w K mg base (CXr P w) 2 f fd ["self", "into", "outs"] (qM K a.Parter a.BadKnot) := by
 refine F.okx sc_Parter_init ?_ ?_
 ·walk_at "i"
 walk_at "k"
 refine oE5 h fun y dx o into ys z1_ => oA5 z1_ fun z2_ hy ho hoy k => ?_
 clear h
 subst z2_
 walk_at "T"
 refine ⟨_, (zt (zv (zH ⟨rfl, rfl, rfl⟩ hr (za (pv 2) zb)))  (zf (zv (jL ⟨rfl, rfl, rfl⟩ hr (za (pv 0) (za (zz (za (pv 1) zb)) (za (pv 2) zb))))))), ?_⟩
 walk_at "go"
 refine iE3 _ _ _ ⟨jp T, ⟨o, ys, rfl, ho, ite2 (fun hok => ?_) (fun hok => ?_)⟩⟩
 ·rw [if_pos hok] at k
  walk_at "go"
  refine iE3 _ _ _ ⟨b_Knot_init T, fun p hp => (iE7 y a.Parter dx p o ([into]) ys (iA6 rfl (upd_keep hy hp) T.C_Parter T.N_Parter_ins T.N_Parter_outs (iA5 (SqL.of upd_same) ((ze hp).seq ho) ((ne_of_none hy hp).symm) hoy (fun H' l1 l2 s h1 h2 h3 h4 h5 => ?_))))⟩
  exact k H' l1 l2 ((Same.own (ze hp)).trans s) h1 h2 h3 (zp h4) (zp h5)
 ·rw [if_neg hok] at k
  exact k
theorem Zb (T : Txt K mg a) : KCal P w K mg base "Parter" a.Parter 2 ["self", "into", "outs"] [] (qM K a.Parter a.BadKnot) := T.h_Parter_init.cal T.g_Parter (ok_Parter_init T)
def partT (n : Nat) (p : Option Nat) : Option (List V) := p.map fun (p : Nat) => [.int 0, .int p, .int ((p + 1) % n : Nat)]
def jv (K : PySem.W.Frag) (C : Addr) : Sp := fun vs H Q _ => ∃ (y dx l1 l2 hl fl : Addr) (turn : V) (side : Nat) (hd : V) (hs outs : List V) (bs : List Bool), vs = [.ref y, .ref hl, .ref fl, turn, .int side] ∧ H y = some (.ins C dx (kf l1 l2)) ∧ H l2 = some (.lst outs) ∧
 SqL K H hl (hd :: hs) ∧ SqL K H fl (bs.map V.bl) ∧ bs.length = outs.length ∧ bs.length ≤ 1000 ∧
 ∀ v H', Same H H' → Told H' v (if hd = .non then none else partT bs.length (jb bs side)) → Q v H'
theorem ok_Parter_choice (T : Txt K mg a) (F : Fun K "choice" "Parter.choice" s_Parter_choice f fd) : FnOk P w K mg base (CXr P w) 3 f fd ["self", "heads", "free", "turn", "side"] (jv K a.Parter) := by
 refine F.okx sc_Parter_choice ?_ ?_
 ·walk_at "i"
 walk_at "k"
 refine oE8 h fun y dx l1 l2 hl fl turn side z1_ => oE4 z1_ fun hd hs outs bs z2_ => oA8 z2_ fun z3_ hy h2 hh hf hbl hb k => ?_
 clear h
 subst z3_
 walk_at "T"
 refine ⟨_, (zt (zO 5 sc_Parter_choice.nd (zH ⟨rfl, rfl, rfl⟩ hr (za (zR (pv 1) zd) (za (pv 2) (za (pv 4) zb)))))  (zt (zw (zj Zp (pv 5) qi (zl _))  (zf (zo qi))  zk)  (zf (zo (qo (za zd (za (pv 5) (za (zi zL (zi zB (pv 5) zd) (zA zD zC (za (zy (pv 0) rfl) zb))) zb)))))))), ?_⟩
 walk_at "go"
 refine iE3 _ _ _ ⟨ji T, z7 hh at0 (iE4 hd fl bs side (iA4 rfl hf hb ?_))⟩
 by_cases hn : hd = .non
 ·rw [if_pos hn] at k ⊢
  walk_at "go"
  exact k _ _ (Same.refl _) rfl
 ·rw [if_neg hn] at k ⊢
  cases hp : jb bs side with
  | none =>
   rw [hp] at k
   simp only [optV]
   walk_at "go"
   exact k _ _ (Same.refl _) rfl
  | some p =>
   rw [hp] at k
   simp only [optV]
   have hlt := firstP_lt hp
   walk_at "go"
   refine ra hy T.C_Parter T.N_Parter_outs kf_outs ⟨_, .inl ⟨_, SqL.of h2, rfl⟩, ?_⟩
   walk_at "go"
   rw [← hbl]
   refine And.intro (by omega) ?_
   walk_at "go"
   intro q hq
   have e : ((p : Int) + 1) % (bs.length : Int) = (((p + 1) % bs.length : Nat) : Int) := by push_cast; rfl
   rw [e]
   exact k _ _ (ze hq) ⟨q, rfl, upd_same⟩
theorem m_Parter_choice (T : Txt K mg a) : MCal P w K mg base a.Parter "choice" 3 ["self", "heads", "free", "turn", "side"] [] (jv K a.Parter) := T.h_Parter_choice.cal T.C_Parter (ok_Parter_choice T)
theorem ok_FirstParter_init (T : Txt K mg a) (F : Fun K "__init__" "FirstParter.__init__" s_FirstParter_init f fd) : FnOk P w K mg base (CXr P w) 2 f fd ["self", "into", "outs"] (qM K a.FirstParter a.BadKnot) := by
 refine F.okx sc_FirstParter_init ?_ ?_
 ·walk_at "i"
 walk_at "k"
 refine oE5 h fun y dx o into ys z1_ => oA5 z1_ fun z2_ hy ho hoy k => ?_
 clear h
 subst z2_
 walk_at "T"
 refine ⟨_, (zt (zv (zH ⟨rfl, rfl, rfl⟩ hr (za (pv 2) zb)))  (zf (zv (jL ⟨rfl, rfl, rfl⟩ hr (za (pv 0) (za (zz (za (pv 1) zb)) (za (pv 2) zb))))))), ?_⟩
 walk_at "go"
 refine iE3 _ _ _ ⟨jp T, ⟨o, ys, rfl, ho, ite2 (fun hok => ?_) (fun hok => ?_)⟩⟩
 ·rw [if_pos hok] at k
  walk_at "go"
  refine iE3 _ _ _ ⟨b_Knot_init T, fun p hp => (iE7 y a.FirstParter dx p o ([into]) ys (iA6 rfl (upd_keep hy hp) T.C_FirstParter T.N_FirstParter_ins T.N_FirstParter_outs (iA5 (SqL.of upd_same) ((ze hp).seq ho) ((ne_of_none hy hp).symm) hoy (fun H' l1 l2 s h1 h2 h3 h4 h5 => ?_))))⟩
  exact k H' l1 l2 ((Same.own (ze hp)).trans s) h1 h2 h3 (zp h4) (zp h5)
 ·rw [if_neg hok] at k
  exact k
theorem jT (T : Txt K mg a) : KCal P w K mg base "FirstParter" a.FirstParter 2 ["self", "into", "outs"] [] (qM K a.FirstParter a.BadKnot) := T.h_FirstParter_init.cal T.g_FirstParter (ok_FirstParter_init T)
def firstT (side : V) (p : Option Nat) : Option (List V) := p.map fun (p : Nat) => [.int 0, .int p, side]
def jO (K : PySem.W.Frag) : Sp := fun vs H Q _ => ∃ (y hl fl : Addr) (turn side : V) (hd : V) (hs : List V) (bs : List Bool), vs = [.ref y, .ref hl, .ref fl, turn, side] ∧
 SqL K H hl (hd :: hs) ∧ SqL K H fl (bs.map V.bl) ∧ bs.length ≤ 1000 ∧ ∀ v H', Same H H' → Told H' v (if hd = .non then none else firstT side (jb bs 0)) → Q v H'
theorem ok_FirstParter_choice (T : Txt K mg a) (F : Fun K "choice" "FirstParter.choice" s_FirstParter_choice f fd) : FnOk P w K mg base (CXr P w) 3 f fd ["self", "heads", "free", "turn", "side"] (jO K) := by
 refine F.okx sc_FirstParter_choice ?_ ?_
 ·walk_at "i"
 walk_at "k"
 refine oE8 h fun y hl fl turn side hd hs bs z1_ => oA5 z1_ fun z2_ hh hf hb k => ?_
 clear h
 subst z2_
 walk_at "T"
 refine ⟨_, (zt (zO 5 sc_FirstParter_choice.nd (zH ⟨rfl, rfl, rfl⟩ hr (za (zR (pv 1) zd) (za (pv 2) (za zd zb)))))  (zt (zw (zj Zp (pv 5) qi (zl _))  (zf (zo qi))  zk)  (zf (zo (qo (za zd (za (pv 5) (za (pv 4) zb)))))))), ?_⟩
 walk_at "go"
 refine iE3 _ _ _ ⟨ji T, z7 hh at0 (iE4 hd fl bs 0 (iA4 rfl hf hb ?_))⟩
 by_cases hn : hd = .non
 ·rw [if_pos hn] at k ⊢
  walk_at "go"
  exact k _ _ (Same.refl _) rfl
 ·rw [if_neg hn] at k ⊢
  cases hp : jb bs 0 with
  | none =>
   rw [hp] at k
   simp only [optV]
   walk_at "go"
   exact k _ _ (Same.refl _) rfl
  | some p =>
   rw [hp] at k
   simp only [optV]
   walk_at "go"
   intro q hq
   exact k _ _ (ze hq) ⟨q, rfl, upd_same⟩
theorem m_FirstParter_choice (T : Txt K mg a) : MCal P w K mg base a.FirstParter "choice" 3 ["self", "heads", "free", "turn", "side"] [] (jO K) := T.h_FirstParter_choice.cal T.C_FirstParter (ok_FirstParter_choice T)
def vf (l1 l2 : Addr) (n : Int) : List (Str × V) := putF "kind" (.int n) (kf l1 l2)
def xL (K : PySem.W.Frag) (C CB : Addr) : Sp := fun vs H Q E => ∃ (y dx o : Addr) (into : V) (ys : List V) (n : Int), vs = [.ref y, into, .ref o, .int n] ∧ H y = some (.ins C dx []) ∧ SqL K H o ys ∧ o ≠ y ∧
 if ys.length = 2 ∧ 0 ≤ n ∧ n < zJ then ∀ H' l1 l2, Own H H' y → H' y = some (.ins C dx (vf l1 l2 n)) → H' l1 = some (.lst [into]) → H' l2 = some (.lst ys) → H l1 = none → H l2 = none → Q .non H' else E (.ref CB) none H
theorem ok_Sieve_init (T : Txt K mg a) (F : Fun K "__init__" "Sieve.__init__" s_Sieve_init f fd) : FnOk P w K mg base (CXr P w) 2 f fd ["self", "into", "outs", "kind"] (xL K a.Sieve a.BadKnot) := by
 refine F.okx sc_Sieve_init ?_ ?_
 ·walk_at "i"
 walk_at "k"
 refine oE6 h fun y dx o into ys n z1_ => oA5 z1_ fun z2_ hy ho hoy k => ?_
 clear h
 subst z2_
 walk_at "T"
 refine ⟨_, (zt (zw (zj (w4 hr.units1) (zA zD zC (za (pv 2) zb)) zd (zl _))  (zf (qu ⟨rfl, rfl, rfl⟩ rfl (za zu zb)))  zk)  (zt (zv (zH ⟨rfl, rfl, rfl⟩ hr (za (pv 3) zb)))  (zt (zv (jL ⟨rfl, rfl, rfl⟩ hr (za (pv 0) (za (zz (za (pv 1) zb)) (za (pv 2) zb)))))  (zf (ja (pv 0) (pv 3) rfl))))), ?_⟩
 walk_at "go"
 refine ⟨_, .inl ⟨_, ho, rfl⟩, ?_⟩
 walk_at "go"
 refine ite2 (fun h1 => ?_) (fun h1 => ?_)
 ·rw [if_neg (by omega)] at k
  exact ⟨a.BadKnot, iA3 T.g_BadKnot T.X_BadKnot k⟩
 ·refine iE3 _ _ _ ⟨xt T, ⟨n, rfl, ite2 (fun hok => ?_) (fun hok => ?_)⟩⟩
  ·rw [if_pos ⟨by omega, hok⟩] at k
   walk_at "go"
   refine iE3 _ _ _ ⟨b_Knot_init T, fun p hp => (iE7 y a.Sieve dx p o ([into]) ys (iA6 rfl (upd_keep hy hp) T.C_Sieve T.N_Sieve_ins T.N_Sieve_outs (iA5 (SqL.of upd_same) ((ze hp).seq ho) ((ne_of_none hy hp).symm) hoy (fun H' l1 l2 s h1 h2 h3 h4 h5 => ?_))))⟩
   walk_at "go"
   refine iE4 y a.Sieve dx _ (iA6 rfl h1 T.C_Sieve T.N_Sieve_kind Zq ?_)
   exact k _ l1 l2 (((Same.own (ze hp)).trans s).trans qW) upd_same (by rw [upd_ne (xS h2 h1 (by intro z; cases z))]; exact h2) (by rw [upd_ne (xS h3 h1 (by intro z; cases z))]; exact h3) (zp h4) (zp h5)
  ·rw [if_neg (fun z => hok z.2)] at k
   exact k
theorem ZM (T : Txt K mg a) : KCal P w K mg base "Sieve" a.Sieve 2 ["self", "into", "outs", "kind"] [] (xL K a.Sieve a.BadKnot) := T.h_Sieve_init.cal T.g_Sieve (ok_Sieve_init T)
def xb (K : PySem.W.Frag) (C CB : Addr) : Sp := fun vs H Q E => ∃ (y dx o : Addr) (out : V) (ys : List V), vs = [.ref y, .ref o, out] ∧ H y = some (.ins C dx []) ∧ SqL K H o ys ∧ o ≠ y ∧
 if 2 ≤ ys.length ∧ ys.length ≤ 4 then ∀ H' l1 l2, Own H H' y → H' y = some (.ins C dx (kf l1 l2)) → H' l1 = some (.lst ys) → H' l2 = some (.lst [out]) → H l1 = none → H l2 = none → Q .non H' else E (.ref CB) none H
theorem ok_Joiner_init (T : Txt K mg a) (F : Fun K "__init__" "Joiner.__init__" s_Joiner_init f fd) : FnOk P w K mg base (CXr P w) 2 f fd ["self", "ins", "out"] (xb K a.Joiner a.BadKnot) := by
 refine F.okx sc_Joiner_init ?_ ?_
 ·walk_at "i"
 walk_at "k"
 refine oE5 h fun y dx o out ys z1_ => oA5 z1_ fun z2_ hy ho hoy k => ?_
 clear h
 subst z2_
 walk_at "T"
 refine ⟨_, (zt (zv (zH ⟨rfl, rfl, rfl⟩ hr (za (pv 1) zb)))  (zf (zv (jL ⟨rfl, rfl, rfl⟩ hr (za (pv 0) (za (pv 1) (za (zz (za (pv 2) zb)) zb))))))), ?_⟩
 walk_at "go"
 refine iE3 _ _ _ ⟨jp T, ⟨o, ys, rfl, ho, ite2 (fun hok => ?_) (fun hok => ?_)⟩⟩
 ·rw [if_pos hok] at k
  walk_at "go"
  refine iE3 _ _ _ ⟨b_Knot_init T, fun p hp => (iE7 y a.Joiner dx o p ys ([out]) (iA6 rfl (upd_keep hy hp) T.C_Joiner T.N_Joiner_ins T.N_Joiner_outs (iA5 ((ze hp).seq ho) (SqL.of upd_same) hoy ((ne_of_none hy hp).symm) (fun H' l1 l2 s h1 h2 h3 h4 h5 => ?_))))⟩
  exact k H' l1 l2 ((Same.own (ze hp)).trans s) h1 h2 h3 (zp h4) (zp h5)
 ·rw [if_neg hok] at k
  exact k
theorem Zc (T : Txt K mg a) : KCal P w K mg base "Joiner" a.Joiner 2 ["self", "ins", "out"] [] (xb K a.Joiner a.BadKnot) := T.h_Joiner_init.cal T.g_Joiner (ok_Joiner_init T)
def df (l1 l2 : Addr) (p : Int) : List (Str × V) := putF "pace" (.int p) (kf l1 l2)
theorem xh (f : Str) (v : V) : ∀ fs : List (Str × V), (putF f v fs).length ≤ fs.length + 1
 | [] => by simp [putF]
 | (g, x) :: r => by
  unfold putF
  split
  ·simp
  ·have := xh f v r
   simp; omega
theorem kf_len3 {l1 l2 : Addr} : (kf l1 l2).length ≤ 2 := by
 unfold kf
 have h1 := xh "outs" (V.ref l2) (putF "ins" (.ref l1) [])
 have h2 := xh "ins" (V.ref l1) []
 simp only [List.length_nil] at h2
 omega
theorem df_len {l1 l2 : Addr} {p : Int} : (df l1 l2 p).length < 1000 := by
 unfold df
 have h1 := xh "pace" (V.int p) (kf l1 l2)
 have h2 := kf_len3 (l1 := l1) (l2 := l2)
 omega
def xM (C CB : Addr) : Sp := fun vs H Q E => ∃ (y dx : Addr) (into : V) (p : Int), vs = [.ref y, into, .int p] ∧ H y = some (.ins C dx []) ∧
 if 0 ≤ p ∧ p ≤ 4 then ∀ H' l1 l2, Own H H' y → H' y = some (.ins C dx (df l1 l2 p)) → H' l1 = some (.lst [into]) → H' l2 = some (.lst []) → H l1 = none → H l2 = none → Q .non H' else E (.ref CB) none H
theorem ok_Drain_init (T : Txt K mg a) (F : Fun K "__init__" "Drain.__init__" s_Drain_init f fd) : FnOk P w K mg base (CXr P w) 2 f fd ["self", "into", "pace"] (xM a.Drain a.BadKnot) := by
 refine F.okx sc_Drain_init ?_ ?_
 ·walk_at "i"
 walk_at "k"
 refine oE4 h fun y dx into p z1_ => oA3 z1_ fun z2_ hy k => ?_
 clear h
 subst z2_
 walk_at "T"
 refine ⟨_, (zt (zv (zH ⟨rfl, rfl, rfl⟩ hr (za (pv 2) (za zd zb))))  (zt (zv (jL ⟨rfl, rfl, rfl⟩ hr (za (pv 0) (za (zz (za (pv 1) zb)) (za (zz zb) zb)))))  (zf (ja (pv 0) (pv 2) rfl)))), ?_⟩
 walk_at "go"
 refine iE3 _ _ _ ⟨xr T, ⟨p, 0, rfl, ite2 (fun hok => ?_) (fun hok => ?_)⟩⟩
 ·rw [if_pos hok] at k
  walk_at "go"
  refine iE3 _ _ _ ⟨b_Knot_init T, fun q1 hq1 q2 hq2 => ?_⟩
  have n12 : q1 ≠ q2 := ne_of_none upd_same hq2
  have hy2 := upd_keep (o := .lst []) (upd_keep (o := .lst [into]) hy hq1) hq2
  refine iE7 y a.Drain dx q1 q2 ([into]) ([]) (iA6 rfl hy2 T.C_Drain T.N_Drain_ins T.N_Drain_outs (iA5 (SqL.of (upd_keep upd_same hq2)) (SqL.of upd_same) ((ne_of_none hy hq1).symm) ((ne_of_none (upd_keep hy hq1) hq2).symm) (fun H' l1 l2 s h1 h2 h3 h4 h5 => ?_)))
  walk_at "go"
  refine iE4 y a.Drain dx _ (iA6 rfl h1 T.C_Drain T.N_Drain_pace Zq ?_)
  exact k _ l1 l2 (((Same.own ((ze hq1).trans (ze hq2))).trans s).trans qW) upd_same (by rw [upd_ne (xS h2 h1 (by intro z; cases z))]; exact h2) (by rw [upd_ne (xS h3 h1 (by intro z; cases z))]; exact h3) (zp (zp h4)) (zp (zp h5))
 ·rw [if_neg hok] at k
  exact k
theorem ZN (T : Txt K mg a) : KCal P w K mg base "Drain" a.Drain 2 ["self", "into", "pace"] [] (xM a.Drain a.BadKnot) := T.h_Drain_init.cal T.g_Drain (ok_Drain_init T)
def sf (l1 l2 : Addr) (p : Int) (l3 : Addr) : List (Str × V) := putF "kinds" (.ref l3) (df l1 l2 p)
def xz (ks : List Int) : Prop := ∀ n ∈ ks, 0 ≤ n ∧ n < zJ
def xa (K : PySem.W.Frag) (C CB : Addr) : Sp := fun vs H Q E => ∃ (y dx l : Addr) (out : V) (p : Int) (ks : List Int), vs = [.ref y, out, .int p, .ref l] ∧ H y = some (.ins C dx []) ∧ SqL K H l (ks.map V.int) ∧ l ≠ y ∧
 ((1 ≤ p ∧ p ≤ 4 ∧ 1 ≤ ks.length ∧ ks.length ≤ 6 ∧ xz ks → ∀ H' l1 l2 l3, Own H H' y → H' y = some (.ins C dx (sf l1 l2 p l3)) → H' l1 = some (.lst []) → H' l2 = some (.lst [out]) → H' l3 = some (.lst (ks.map V.int)) → H l1 = none → H l2 = none → H l3 = none → Q .non H') ∧
   (¬ (1 ≤ p ∧ p ≤ 4 ∧ 1 ≤ ks.length ∧ ks.length ≤ 6 ∧ xz ks) → E (.ref CB) none H))
theorem ok_Source_init (T : Txt K mg a) (F : Fun K "__init__" "Source.__init__" s_Source_init f fd) : FnOk P w K mg base (CXr P w) 2 f fd ["self", "out", "pace", "kinds"] (xa K a.Source a.BadKnot) := by
 refine F.okx sc_Source_init ?_ ?_
 ·walk_at "i"
 walk_at "k"
 refine oE6 h fun y dx l out p ks z1_ => oA6 z1_ fun z2_ hy hl hly kok kbad => ?_
 clear h
 subst z2_
 obtain ⟨t1, g1⟩ := T.g_MOST_KINDS
 walk_at "T"
 refine ⟨_, (zt (zv (zH ⟨rfl, rfl, rfl⟩ hr (za (pv 2) (za zd zb))))  (zt (zw (zZ (qz qF qF zd (zA zD zC (za (pv 3) zb)) qk))  (zf (qu ⟨rfl, rfl, rfl⟩ rfl (za zu zb)))  zk)  (zt (qy qR rfl (ql (pv 3)) (pg_n 4 sc_Source_init.nd)  (zf (zv (zH ⟨rfl, rfl, rfl⟩ hr (za (pv 4) zb)))))  (zt (zv (jL ⟨rfl, rfl, rfl⟩ hr (za (pv 0) (za (zz zb) (za (zz (za (pv 1) zb)) zb)))))  (zt (ja (pv 0) (pv 2) rfl)  (zf (ja (pv 0) (jz xw qO (za (pv 3) zb)) rfl))))))), ?_⟩
 walk_at "go"
 refine iE3 _ _ _ ⟨xr T, ⟨p, 1, rfl, ite2 (fun hp => ?_) (fun hp => kbad fun z => hp ⟨z.1, z.2.1⟩)⟩⟩
 walk_at "go"
 refine ⟨_, .inl ⟨_, hl, rfl⟩, ?_⟩
 rw [List.length_map]
 walk_at "go"
 have bad : ¬ (1 ≤ ks.length ∧ ks.length ≤ 6) → ∃ C, mg "BadKnot" = some (Value.ref C) ∧ XC K C ∧ E (Value.ref C) none H := fun h => ⟨a.BadKnot, T.g_BadKnot, T.X_BadKnot, kbad fun z => h ⟨z.2.2.1, z.2.2.2.1⟩⟩
 refine ite2 (fun h1 => ?_) (fun h1 => bad (by omega))
 refine iE2 (.int 6) _ (iA3 g1 ⟨_, rfl⟩ ?_)
 walk_at "go"
 refine ite2 (fun h2 => bad (by omega)) (fun h2 => ?_)
 walk_at "for"
 refine ⟨l, rfl, .inl ⟨⟨_, hl⟩, ?_⟩⟩
 refine qx (K := K) (a := l) (xs := ks.map V.int) (fun i σ H' => ∃ v4, σ = [some (.ref y), some out, some (.int p), some (.ref l), v4] ∧ H' = H ∧ xz (ks.take i)) ⟨_, iA3 rfl rfl (fun _ h => nomatch h)⟩ (fun i σ H' _ ⟨_, _, e, _⟩ => e ▸ hl) ?_ ?_
 ·intro i x σ H' hi zz_
  refine oE1 zz_ fun v4 z1_ => oA3 z1_ fun z2_ z3_ hk => ?_
  clear zz_
  subst z2_ z3_
  rw [List.getElem?_map, Option.map_eq_some_iff] at hi
  obtain ⟨n, hn, rfl⟩ := hi
  walk_at "go"
  refine iE3 _ _ _ ⟨xt T, ⟨n, rfl, ite2 (fun hok => ?_) (fun hok => kbad fun z => hok (z.2.2.2.2 n (List.mem_of_getElem? hn)))⟩⟩
  walk_at "go"
  have : xz (ks.take (i + 1)) := fun m hm => by
   rw [List.take_succ, hn] at hm
   rcases List.mem_append.mp hm with z | z
   ·exact hk m z
   ·have e : m = n := by simpa using z
    rw [e]; exact hok
  first | exact ⟨_, rfl, rfl, this⟩ | exact ⟨_, rfl, this⟩
 ·intro σ H' zz_
  refine oE1 zz_ fun v4 z1_ => oA3 z1_ fun z2_ z3_ hk => ?_
  clear zz_
  subst z2_ z3_
  rw [List.length_map, List.take_length] at hk
  have kok := kok ⟨hp.1, hp.2, by omega, by omega, hk⟩
  walk_at "go"
  refine iE3 _ _ _ ⟨b_Knot_init T, fun q1 hq1 q2 hq2 => ?_⟩
  have hy2 := upd_keep (o := .lst [out]) (upd_keep (o := .lst []) hy hq1) hq2
  have s12 : Same H' (upd (upd H' q1 (.lst [])) q2 (.lst [out])) := (ze hq1).trans (ze hq2)
  refine iE7 y a.Source dx q1 q2 ([]) ([out]) (iA6 rfl hy2 T.C_Source T.N_Source_ins T.N_Source_outs (iA5 (SqL.of (upd_keep upd_same hq2)) (SqL.of upd_same) ((ne_of_none hy hq1).symm) ((ne_of_none (upd_keep hy hq1) hq2).symm) (fun H2 l1 l2 s h1 h2 h3 h4 h5 => ?_)))
  walk_at "go"
  refine iE4 y a.Source dx _ (iA6 rfl h1 T.C_Source T.N_Source_pace Zq ?_)
  walk_at "go"
  have s3 : Own H' (upd H2 y (.ins a.Source dx (df l1 l2 p))) y := ((Same.own s12).trans s).trans qW
  have h2' : upd H2 y (.ins a.Source dx (df l1 l2 p)) l1 = some (.lst []) := by rw [upd_ne (xS h2 h1 (by intro z; cases z))]; exact h2
  have h3' : upd H2 y (.ins a.Source dx (df l1 l2 p)) l2 = some (.lst [out]) := by rw [upd_ne (xS h3 h1 (by intro z; cases z))]; exact h3
  refine iE2 l _ (iA3 rfl (.inl (Zz hl s3 hly)) (fun l3 hl3 => ?_))
  walk_at "go"
  have hy3 : upd (upd H2 y (.ins a.Source dx (df l1 l2 p))) l3 (.lst (ks.map V.int)) y = some (.ins a.Source dx (df l1 l2 p)) := upd_keep upd_same hl3
  refine iE4 y a.Source dx _ (iA6 rfl hy3 T.C_Source T.N_Source_kinds df_len ?_)
  have n1 : l1 ≠ y := xS h2 h1 (by intro z; cases z)
  have n2 : l2 ≠ y := xS h3 h1 (by intro z; cases z)
  have n3 : l3 ≠ y := (ne_of_none (upd_same (H := H2)) hl3).symm
  refine kok _ l1 l2 l3 ((s3.trans (Same.own (ze hl3))).trans qW) upd_same ?_ ?_ ?_ (zp (zp h4)) (zp (zp h5)) ?_
  ·rw [upd_ne n1]; exact upd_keep h2' hl3
  ·rw [upd_ne n2]; exact upd_keep h3' hl3
  ·rw [upd_ne n3]; exact upd_same
  ·cases e : H' l3 with
   | none => rfl
   | some o => exact absurd (hl3.symm.trans (s3 l3 o n3 e)) (by intro z; cases z)
theorem Za (T : Txt K mg a) : KCal P w K mg base "Source" a.Source 2 ["self", "out", "pace", "kinds"] [] (xa K a.Source a.BadKnot) := T.h_Source_init.cal T.g_Source (ok_Source_init T)
def bf (rm pc : Int) : List (Str × V) := putF "pace" (.int pc) (putF "room" (.int rm) [])
abbrev qj (rm pc : Int) : Prop := 1 ≤ rm ∧ rm ≤ 6 ∧ 1 ≤ pc ∧ pc ≤ 4
def wp (C CB : Addr) : Sp := fun vs H Q E => ∃ (y dx : Addr) (rm pc : Int), vs = [.ref y, .int rm, .int pc] ∧ H y = some (.ins C dx []) ∧ if qj rm pc then Q .non (upd H y (.ins C dx (bf rm pc))) else E (.ref CB) none H
theorem ok_Belt_init (T : Txt K mg a) (F : Fun K "__init__" "Belt.__init__" s_Belt_init f fd) : FnOk P w K mg base (CXr P w) 1 f fd ["self", "room", "pace"] (wp a.Belt a.BadBelt) := by
 refine F.okx sc_Belt_init ?_ ?_
 ·walk_at "i"
 walk_at "k"
 refine oE4 h fun y dx rm pc z1_ => oA3 z1_ fun z2_ hy k => ?_
 clear h
 subst z2_
 obtain ⟨t1, g1⟩ := T.g_MOST_ROOM
 obtain ⟨t2, g2⟩ := T.g_MOST_PACE
 walk_at "T"
 refine ⟨_, (zt (zw (zZ (qz qF qF zd (pv 1) qk))  (zf (qu ⟨rfl, rfl, rfl⟩ rfl (za zu zb)))  zk)  (zt (zw (zZ (qz qF qF zd (pv 2) qk))  (zf (qu ⟨rfl, rfl, rfl⟩ rfl (za zu zb)))  zk)  (zt (ja (pv 0) (pv 1) rfl)  (zf (ja (pv 0) (pv 2) rfl))))), ?_⟩
 walk_at "go"
 have bad : ¬ qj rm pc → ∃ C, mg "BadBelt" = some (Value.ref C) ∧ XC K C ∧ E (Value.ref C) none H := fun h => by
  rw [if_neg h] at k
  exact ⟨a.BadBelt, iA3 T.g_BadBelt T.X_BadBelt k⟩
 refine ite2 (fun h1 => ?_) (fun h1 => bad (by unfold qj; omega))
 refine iE2 (.int 6) _ (iA3 g1 ⟨_, rfl⟩ ?_)
 walk_at "go"
 refine ite2 (fun h2 => bad (by unfold qj; omega)) (fun h2 => ?_)
 walk_at "go"
 refine ite2 (fun h3 => ?_) (fun h3 => bad (by unfold qj; omega))
 refine iE2 (.int 4) _ (iA3 g2 ⟨_, rfl⟩ ?_)
 walk_at "go"
 refine ite2 (fun h4 => bad (by unfold qj; omega)) (fun h4 => ?_)
 rw [if_pos (by unfold qj; omega)] at k
 walk_at "go"
 refine iE4 y a.Belt dx ([]) (iA6 rfl hy T.C_Belt T.N_Belt_room (by decide) ?_)
 walk_at "go"
 refine iE4 y a.Belt dx _ (iA6 rfl upd_same T.C_Belt T.N_Belt_pace (by show 1 < 1000; decide) ?_)
 rw [vq]
 exact k
theorem Qa (T : Txt K mg a) : KCal P w K mg base "Belt" a.Belt 1 ["self", "room", "pace"] [] (wp a.Belt a.BadBelt) := T.h_Belt_init.cal T.g_Belt (ok_Belt_init T)
theorem qd {H : Hp} {y dx b C : Addr} {u : HO} (hy : H y = none) (hdx : H dx = none) (h : H b = some u) : upd (upd H dx (.own y)) y (.ins C dx []) b = some u := by
 rw [upd_ne (ne_of_none h hy), upd_ne (ne_of_none h hdx)]; exact h
theorem zE {H : Hp} {y dx b : Addr} {o p : HO} (h : upd (upd H dx o) y p b = none) : H b = none := zp (zp h)
theorem zS {H H' : Hp} {b : Addr} (s : Same H H') (h : H' b = none) : H b = none := by
 cases e : H b with
 | none => rfl
 | some o => rw [s b o e] at h; cases h
inductive Wd | source | drain | parter | first | sieve | joiner
deriving DecidableEq
def clsA (a : Ad) : Wd → Addr
 | .source => a.Source
 | .drain => a.Drain
 | .parter => a.Parter
 | .first => a.FirstParter
 | .sieve => a.Sieve
 | .joiner => a.Joiner
structure Row where
 wd : Wd
 ins : List Int
 outs : List Int
 pace : Int
 kinds : List Int
def Row.ok (r : Row) : Prop := match r.wd with
 | .source => r.ins = [] ∧ (∃ o, r.outs = [o]) ∧ 1 ≤ r.pace ∧ r.pace ≤ 4 ∧ 1 ≤ r.kinds.length ∧ r.kinds.length ≤ 6 ∧ xz r.kinds
 | .drain => (∃ i, r.ins = [i]) ∧ r.outs = [] ∧ 0 ≤ r.pace ∧ r.pace ≤ 4
 | .parter => (∃ i, r.ins = [i]) ∧ 2 ≤ r.outs.length ∧ r.outs.length ≤ 4
 | .first => (∃ i, r.ins = [i]) ∧ 2 ≤ r.outs.length ∧ r.outs.length ≤ 4
 | .sieve => (∃ i, r.ins = [i]) ∧ r.outs.length = 2 ∧ ∃ k, r.kinds = [k] ∧ 0 ≤ k ∧ k < zJ
 | .joiner => (∃ o, r.outs = [o]) ∧ 2 ≤ r.ins.length ∧ r.ins.length ≤ 4
def vS (r : Row) : List (Str × D) := match r.wd with
 | .source => [("pace", .int r.pace), ("kinds", .ints r.kinds)]
 | .drain => [("pace", .int r.pace)]
 | .sieve => [("kind", .int (r.kinds.headD 0))]
 | _ => []
def wB (r : Row) : List (Str × D) := ("ins", .ints r.ins) :: ("outs", .ints r.outs) :: vS r
def xW (a : Ad) (r : Row) : D := .ob (clsA a r.wd) (wB r)
def xX (a : Ad) (b : Int × Int) : D := .ob a.Belt [("room", .int b.1), ("pace", .int b.2)]
theorem jn {α : Type} {f : Str} {x : α} {r : List (Str × α)} : ((f, x) :: r).lookup f = some x := by simp [List.lookup]
theorem zT {α : Type} {f g : Str} {x : α} {r : List (Str × α)} (h : f ≠ g) : ((g, x) :: r).lookup f = r.lookup f := by
 have hb : (f == g) = false := beq_eq_false_iff_ne.mpr h
 simp [List.lookup, hb]
theorem knF_ins (r : Row) : (wB r).lookup ("ins" : Str) = some (.ints r.ins) := jn
theorem knF_outs (r : Row) : (wB r).lookup ("outs" : Str) = some (.ints r.outs) := (zT (by decide +kernel)).trans jn
theorem knF_pace {r : Row} (h : r.wd = .source ∨ r.wd = .drain) : (wB r).lookup ("pace" : Str) = some (.int r.pace) := by
 refine (zT (by decide +kernel)).trans ((zT (by decide +kernel)).trans ?_)
 unfold vS
 rcases h with h | h <;> (rw [h]; exact jn)
theorem knF_kinds {r : Row} (h : r.wd = .source) : (wB r).lookup ("kinds" : Str) = some (.ints r.kinds) := by
 refine (zT (by decide +kernel)).trans ((zT (by decide +kernel)).trans ?_)
 unfold vS
 rw [h]
 exact (zT (by decide +kernel)).trans jn
theorem vZ {r : Row} {k : Int} (h : r.wd = .sieve) (e : r.kinds = [k]) : (wB r).lookup ("kind" : Str) = some (.int k) := by
 refine (zT (by decide +kernel)).trans ((zT (by decide +kernel)).trans ?_)
 unfold vS
 rw [h, e]
 exact jn
theorem knF_no {r : Row} {f : Str} (h1 : f ≠ "ins") (h2 : f ≠ "outs") (h3 : f ≠ "pace") (h4 : f ≠ "kinds") (h5 : f ≠ "kind") : (wB r).lookup f = none := by
 refine (zT h1).trans ((zT h2).trans ?_)
 unfold vS
 split
 ·exact (zT h3).trans (zT h4)
 ·exact zT h3
 ·exact zT h5
 ·rfl
def KnP (a : Ad) (H : Hp) (p : Addr → Prop) (v : V) (r : Row) : Prop := Rep H p v (xW a r)
theorem KnP.keep {H H' : Hp} {p q : Addr → Prop} {v : V} {r : Row} (h : KnP a H p v r) (s : ∀ b o, p b → H b = some o → q b ∧ H' b = some o) : KnP a H' q v r := Rep.keep s h
theorem KnP.inv {H : Hp} {p : Addr → Prop} {v : V} {r : Row} (h : KnP a H p v r) : ∃ y dx l1 l2 l3 fs, v = .ref y ∧ p y ∧ p l1 ∧ p l2 ∧ (r.wd = .source → p l3) ∧ H y = some (.ins (clsA a r.wd) dx fs) ∧ fs.lookup ("ins" : Str) = some (.ref l1) ∧ fs.lookup ("outs" : Str) = some (.ref l2) ∧
  fs.lookup ("copied" : Str) = none ∧ H l1 = some (.lst (iv r.ins)) ∧ H l2 = some (.lst (iv r.outs)) ∧ (r.wd = .source → fs.lookup ("kinds" : Str) = some (.ref l3) ∧ H l3 = some (.lst (iv r.kinds))) ∧ ((r.wd = .source ∨ r.wd = .drain) → fs.lookup ("pace" : Str) = some (.int r.pace)) := by
 obtain ⟨y, dx, fs, rfl, py, hy, g1, g2⟩ := Rep.ob' h
 obtain ⟨u1, e1, r1⟩ := g1 _ _ (knF_ins r)
 obtain ⟨l1, rfl, p1, h1⟩ := r1.ints'
 obtain ⟨u2, e2, r2⟩ := g1 _ _ (knF_outs r)
 obtain ⟨l2, rfl, p2, h2⟩ := r2.ints'
 have e3 := g2 ("copied" : Str) (knF_no (by decide +kernel) (by decide +kernel) (by decide +kernel) (by decide +kernel) (by decide +kernel))
 have pc : (r.wd = .source ∨ r.wd = .drain) → fs.lookup ("pace" : Str) = some (.int r.pace) := fun z => by
  obtain ⟨u, e, ru⟩ := g1 _ _ (knF_pace z)
  cases ru
  exact e
 by_cases hs : r.wd = .source
 ·obtain ⟨u3, e4, r3⟩ := g1 _ _ (knF_kinds hs)
  obtain ⟨l3, rfl, p3, h3⟩ := r3.ints'
  exact ⟨y, dx, l1, l2, l3, fs, rfl, py, p1, p2, fun _ => p3, hy, e1, e2, e3, h1, h2, fun _ => ⟨e4, h3⟩, pc⟩
 ·exact ⟨y, dx, l1, l2, l1, fs, rfl, py, p1, p2, fun z => absurd z hs, hy, e1, e2, e3, h1, h2, fun z => absurd z hs, pc⟩
theorem xp {l1 l2 : Addr} : kf l1 l2 = ([(("ins" : Str), V.ref l1), (("outs" : Str), V.ref l2)] : List (Str × V)) := by
 unfold kf; simp only [putF]; rw [if_neg (by decide +kernel)]
theorem Qn {l1 l2 : Addr} {n : Int} : df l1 l2 n = ([(("ins" : Str), V.ref l1), (("outs" : Str), V.ref l2), (("pace" : Str), V.int n)] : List (Str × V)) := by
 unfold df; rw [xp]; simp only [putF]; rw [if_neg (by decide +kernel), if_neg (by decide +kernel)]
theorem sf_eq {l1 l2 l3 : Addr} {n : Int} : sf l1 l2 n l3 = ([(("ins" : Str), V.ref l1), (("outs" : Str), V.ref l2), (("pace" : Str), V.int n), (("kinds" : Str), V.ref l3)] : List (Str × V)) := by
 unfold sf; rw [Qn]; simp only [putF]; rw [if_neg (by decide +kernel), if_neg (by decide +kernel), if_neg (by decide +kernel)]
theorem vf_eq {l1 l2 : Addr} {n : Int} : vf l1 l2 n = ([(("ins" : Str), V.ref l1), (("outs" : Str), V.ref l2), (("kind" : Str), V.int n)] : List (Str × V)) := by
 unfold vf; rw [xp]; simp only [putF]; rw [if_neg (by decide +kernel), if_neg (by decide +kernel)]
theorem jw {H : Hp} {p : Addr → Prop} {l C dx : Addr} {fs : List (Str × V)} {gs : List (Str × D)} (pl : p l) (e : H l = some (.ins C dx fs)) (n : fs.map (·.1) = gs.map (·.1)) (r : Reps H p (fs.map (·.2)) (gs.map (·.2))) : Rep H p (.ref l) (.ob C gs) :=
 .ob pl e n fun i f g hf hg => r.g i f.2 g.2 (by rw [List.getElem?_map, hf]; rfl) (by rw [List.getElem?_map, hg]; rfl)
section
variable {H : Hp} {p : Addr → Prop} {z dz m1 m2 m3 : Addr} {ins outs kinds : List Int} {pace : Int}
theorem ve (q0 : p z) (q1 : p m1) (q2 : p m2) (q3 : p m3) (h0 : H z = some (.ins a.Source dz (sf m1 m2 pace m3))) (h1 : H m1 = some (.lst (iv ins))) (h2 : H m2 = some (.lst (iv outs))) (h3 : H m3 = some (.lst (iv kinds))) : KnP a H p (.ref z) ⟨.source, ins, outs, pace, kinds⟩ := by
 rw [sf_eq] at h0
 exact jw q0 h0 rfl (.cons (zY q1 h1) (.cons (zY q2 h2) (.cons .int (.cons (zY q3 h3) .nil))))
theorem vY (q0 : p z) (q1 : p m1) (q2 : p m2) (h0 : H z = some (.ins a.Drain dz (df m1 m2 pace))) (h1 : H m1 = some (.lst (iv ins))) (h2 : H m2 = some (.lst (iv outs))) : KnP a H p (.ref z) ⟨.drain, ins, outs, pace, kinds⟩ := by
 rw [Qn] at h0
 exact jw q0 h0 rfl (.cons (zY q1 h1) (.cons (zY q2 h2) (.cons .int .nil)))
theorem vW {k : Int} (q0 : p z) (q1 : p m1) (q2 : p m2) (h0 : H z = some (.ins a.Sieve dz (vf m1 m2 k))) (h1 : H m1 = some (.lst (iv ins))) (h2 : H m2 = some (.lst (iv outs))) : KnP a H p (.ref z) ⟨.sieve, ins, outs, pace, [k]⟩ := by
 rw [vf_eq] at h0
 exact jw q0 h0 rfl (.cons (zY q1 h1) (.cons (zY q2 h2) (.cons .int .nil)))
theorem vg (q0 : p z) (q1 : p m1) (q2 : p m2) (h0 : H z = some (.ins a.Parter dz (kf m1 m2))) (h1 : H m1 = some (.lst (iv ins))) (h2 : H m2 = some (.lst (iv outs))) : KnP a H p (.ref z) ⟨.parter, ins, outs, pace, kinds⟩ := by
 rw [xp] at h0
 exact jw q0 h0 rfl (.cons (zY q1 h1) (.cons (zY q2 h2) .nil))
theorem vX (q0 : p z) (q1 : p m1) (q2 : p m2) (h0 : H z = some (.ins a.FirstParter dz (kf m1 m2))) (h1 : H m1 = some (.lst (iv ins))) (h2 : H m2 = some (.lst (iv outs))) : KnP a H p (.ref z) ⟨.first, ins, outs, pace, kinds⟩ := by
 rw [xp] at h0
 exact jw q0 h0 rfl (.cons (zY q1 h1) (.cons (zY q2 h2) .nil))
theorem vh (q0 : p z) (q1 : p m1) (q2 : p m2) (h0 : H z = some (.ins a.Joiner dz (kf m1 m2))) (h1 : H m1 = some (.lst (iv ins))) (h2 : H m2 = some (.lst (iv outs))) : KnP a H p (.ref z) ⟨.joiner, ins, outs, pace, kinds⟩ := by
 rw [xp] at h0
 exact jw q0 h0 rfl (.cons (zY q1 h1) (.cons (zY q2 h2) .nil))
end
def BtP (a : Ad) (H : Hp) (p : Addr → Prop) (v : V) (r : Int × Int) : Prop := Rep H p v (xX a r)
theorem BtP.keep {H H' : Hp} {p q : Addr → Prop} {v : V} {r : Int × Int} (h : BtP a H p v r) (s : ∀ b o, p b → H b = some o → q b ∧ H' b = some o) : BtP a H' q v r := Rep.keep s h
theorem bf_eq {rm pc : Int} : bf rm pc = ([(("room" : Str), V.int rm), (("pace" : Str), V.int pc)] : List (Str × V)) := by
 unfold bf; simp only [putF]; rw [if_neg (by decide +kernel)]
theorem Qo {H : Hp} {p : Addr → Prop} {y dx : Addr} {rm pc : Int} (q0 : p y) (h0 : H y = some (.ins a.Belt dx (bf rm pc))) : BtP a H p (.ref y) (rm, pc) := by
 rw [bf_eq] at h0
 exact jw q0 h0 rfl (.cons .int (.cons .int .nil))
theorem BtP.inv {H : Hp} {p : Addr → Prop} {v : V} {r : Int × Int} (h : BtP a H p v r) : ∃ y dx fs, v = .ref y ∧ p y ∧ H y = some (.ins a.Belt dx fs) ∧ fs.lookup ("room" : Str) = some (.int r.1) ∧ fs.lookup ("pace" : Str) = some (.int r.2) := by
 obtain ⟨y, dx, fs, rfl, py, hy, g1, g2⟩ := Rep.ob' h
 obtain ⟨u1, e1, r1⟩ := g1 ("room" : Str) _ jn
 obtain ⟨u2, e2, r2⟩ := g1 ("pace" : Str) _ ((zT (by decide +kernel)).trans jn)
 cases r1
 cases r2
 exact ⟨y, dx, fs, rfl, py, hy, e1, e2⟩
structure Kns (a : Ad) (H : Hp) (p : Addr → Prop) (vs : List V) (rs : List Row) : Prop where
 len : vs.length = rs.length
 g : ∀ (i : Nat) v r, vs[i]? = some v → rs[i]? = some r → KnP a H p v r
theorem Kns.keep {H H' : Hp} {p q : Addr → Prop} {vs : List V} {rs : List Row} (h : Kns a H p vs rs) (s : ∀ b o, p b → H b = some o → q b ∧ H' b = some o) : Kns a H' q vs rs := ⟨h.len, fun i v r e1 e2 => (h.g i v r e1 e2).keep s⟩
theorem Kns.nil {H : Hp} {p : Addr → Prop} : Kns a H p [] [] := ⟨rfl, fun i v r h => by simp at h⟩
theorem Kns.append {H : Hp} {p : Addr → Prop} {vs us : List V} {rs qs : List Row} (h : Kns a H p vs rs) (k : Kns a H p us qs) : Kns a H p (vs ++ us) (rs ++ qs) := by
 refine ⟨by rw [List.length_append, List.length_append, h.len, k.len], fun i v r e1 e2 => ?_⟩
 by_cases hi : i < vs.length
 ·rw [List.getElem?_append_left hi] at e1
  rw [List.getElem?_append_left (by rw [← h.len]; exact hi)] at e2
  exact h.g i v r e1 e2
 ·rw [List.getElem?_append_right (by omega)] at e1
  rw [List.getElem?_append_right (by rw [← h.len]; omega), ← h.len] at e2
  exact k.g _ v r e1 e2
theorem Kns.one {H : Hp} {p : Addr → Prop} {v : V} {r : Row} (h : KnP a H p v r) : Kns a H p [v] [r] :=
 ⟨rfl, fun i u q e1 e2 => by
  have hi := (List.getElem?_eq_some_iff.mp e1).1
  have : i = 0 := by simp at hi; omega
  subst this
  have e1 : v = u := by simpa using e1
  have e2 : r = q := by simpa using e2
  rw [← e1, ← e2]; exact h⟩
theorem Kns.at {H : Hp} {p : Addr → Prop} {vs : List V} {rs : List Row} (h : Kns a H p vs rs) {i : Nat} {v : V} (e : vs[i]? = some v) : ∃ r, rs[i]? = some r ∧ KnP a H p v r := by
 have hi := (List.getElem?_eq_some_iff.mp e).1
 have e2 : rs[i]? = some (rs[i]'(by rw [← h.len]; exact hi)) := List.getElem?_eq_getElem _
 exact ⟨_, e2, h.g i v _ e e2⟩
structure Bts (a : Ad) (H : Hp) (p : Addr → Prop) (vs : List V) (rs : List (Int × Int)) : Prop where
 len : vs.length = rs.length
 g : ∀ (i : Nat) v r, vs[i]? = some v → rs[i]? = some r → BtP a H p v r
theorem Bts.keep {H H' : Hp} {p q : Addr → Prop} {vs : List V} {rs : List (Int × Int)} (h : Bts a H p vs rs) (s : ∀ b o, p b → H b = some o → q b ∧ H' b = some o) : Bts a H' q vs rs := ⟨h.len, fun i v r e1 e2 => (h.g i v r e1 e2).keep s⟩
theorem Bts.nil {H : Hp} {p : Addr → Prop} : Bts a H p [] [] := ⟨rfl, fun i v r h => by simp at h⟩
theorem Bts.push {H : Hp} {p : Addr → Prop} {vs : List V} {v : V} {rs : List (Int × Int)} {r : Int × Int} (h : Bts a H p vs rs) (k : BtP a H p v r) : Bts a H p (vs ++ [v]) (rs ++ [r]) := by
 refine ⟨by rw [List.length_append, List.length_append, h.len]; rfl, fun i u q e1 e2 => ?_⟩
 by_cases hi : i < vs.length
 ·rw [List.getElem?_append_left hi] at e1
  rw [List.getElem?_append_left (by rw [← h.len]; exact hi)] at e2
  exact h.g i u q e1 e2
 ·rw [List.getElem?_append_right (by omega)] at e1
  rw [List.getElem?_append_right (by rw [← h.len]; omega), ← h.len] at e2
  have hj := (List.getElem?_eq_some_iff.mp e1).1
  have : i - vs.length = 0 := by simp at hj; omega
  rw [this] at e1 e2
  have e1 : v = u := by simpa using e1
  have e2 : r = q := by simpa using e2
  rw [← e1, ← e2]; exact k
theorem Bts.at {H : Hp} {p : Addr → Prop} {vs : List V} {rs : List (Int × Int)} (h : Bts a H p vs rs) {i : Nat} {v : V} (e : vs[i]? = some v) : ∃ r, rs[i]? = some r ∧ BtP a H p v r := by
 have hi := (List.getElem?_eq_some_iff.mp e).1
 have e2 : rs[i]? = some (rs[i]'(by rw [← h.len]; exact hi)) := List.getElem?_eq_getElem _
 exact ⟨_, e2, h.g i v _ e e2⟩
abbrev New (H : Hp) : Addr → Prop := fun b => H b = none
def qh (a : Ad) (wd : Wd) : Sp := fun vs H Q _ => ∃ (y : Addr) (r : Row) (p : Addr → Prop), vs = [.ref y] ∧ KnP a H p (.ref y) r ∧ r.wd = wd ∧ r.ok ∧ ∀ v H', Same H H' → KnP a H' (New H) v r → Q v H'
theorem Kns.reps {H : Hp} {p : Addr → Prop} {vs : List V} {rs : List Row} (h : Kns a H p vs rs) : Reps H p vs (rs.map (xW a)) := ⟨by rw [h.len, List.length_map], fun i v d e1 e2 => by
 rw [List.getElem?_map, Option.map_eq_some_iff] at e2
 obtain ⟨r, e2, rfl⟩ := e2
 exact h.g i v r e1 e2⟩
theorem Bts.reps {H : Hp} {p : Addr → Prop} {vs : List V} {rs : List (Int × Int)} (h : Bts a H p vs rs) : Reps H p vs (rs.map (xX a)) := ⟨by rw [h.len, List.length_map], fun i v d e1 e2 => by
 rw [List.getElem?_map, Option.map_eq_some_iff] at e2
 obtain ⟨r, e2, rfl⟩ := e2
 exact h.g i v r e1 e2⟩
theorem Kns.of {H : Hp} {p : Addr → Prop} {vs : List V} {rs : List Row} (h : Reps H p vs (rs.map (xW a))) : Kns a H p vs rs := ⟨by rw [h.len, List.length_map], fun i v r e1 e2 => h.g i v _ e1 (by rw [List.getElem?_map, e2]; rfl)⟩
theorem Bts.of {H : Hp} {p : Addr → Prop} {vs : List V} {rs : List (Int × Int)} (h : Reps H p vs (rs.map (xX a))) : Bts a H p vs rs := ⟨by rw [h.len, List.length_map], fun i v r e1 e2 => h.g i v _ e1 (by rw [List.getElem?_map, e2]; rfl)⟩
theorem ok_Source_copied (T : Txt K mg a) (F : Fun K "copied" "Source.copied" s_Source_copied f fd) : FnOk P w K mg base (CXr P w) 4 f fd ["self"] (qh a .source) := by
 refine F.okx sc_Source_copied ?_ ?_
 ·walk_at "i"
 walk_at "k"
 refine oE3 h fun y z1_ p z2_ => oA5 z2_ fun z3_ hK hw hok k => ?_
 clear h
 obtain ⟨wd, ins, outs, pace, kinds⟩ := z1_
 subst z3_
 cases hw
 have hK0 := hK
 refine oE6 hK.inv fun y' dx l1 l2 l3 fs z1_ => oA9 z1_ fun e p0 p1 p2 p3 h0 e1 e2 z2_ => oA5 z2_ fun e3 h1 h2 h3 h4 => ?_
 cases e
 obtain ⟨hk, hk'⟩ := h3 rfl
 have hp := h4 (.inl rfl)
 refine oA7 hok fun q1 z1_ q3 q4 q5 q6 q7 => ?_
 clear hok
 obtain ⟨ov, q2⟩ := z1_
 simp only at q1 q2
 subst q1 q2
 walk_at "T"
 refine ⟨_, (zf (zo (qw ⟨rfl, rfl, rfl⟩ hr (za (zR (zy (pv 0) rfl) zd) (za (zy (pv 0) rfl) (za (zy (pv 0) rfl) zb)))))), ?_⟩
 walk_at "go"
 refine iE4 a.Source _ _ _ ⟨(Za T).mono, iE5 y a.Source dx fs _ (iA6 rfl h0 T.C_Source T.N_Source_outs e2 (z7 (SqL.of h2) at0 ?_))⟩
 refine ra h0 T.C_Source T.N_Source_pace hp ?_
 refine ra h0 T.C_Source T.N_Source_kinds hk ?_
 intro z dz hz hdz hne
 refine iE6 z dz l3 (.int ov) pace kinds (iA6 rfl upd_same (SqL.of (qd hz hdz hk')) (ne_of_none hk' hz) (fun _ H' m1 m2 m3 s' g1 g2 g3 g4 n1 n2 n3 => ⟨rfl, ?_⟩) (fun hbad => absurd (iA5 q3 q4 q5 q6 q7) hbad))
 exact k _ _ (Own.of_new hz hdz s') (ve (p := New H) (ins := []) (outs := [ov]) hz (zE n1) (zE n2) (zE n3) g1 g2 g3 g4)
theorem m_Source_copied (T : Txt K mg a) : MCal P w K mg base a.Source "copied" 4 ["self"] [] (qh a .source) := T.h_Source_copied.cal T.C_Source (ok_Source_copied T)
theorem ok_Drain_copied (T : Txt K mg a) (F : Fun K "copied" "Drain.copied" s_Drain_copied f fd) : FnOk P w K mg base (CXr P w) 4 f fd ["self"] (qh a .drain) := by
 refine F.okx sc_Drain_copied ?_ ?_
 ·walk_at "i"
 walk_at "k"
 refine oE3 h fun y z1_ p z2_ => oA5 z2_ fun z3_ hK hw hok k => ?_
 clear h
 obtain ⟨wd, ins, outs, pace, kinds⟩ := z1_
 subst z3_
 cases hw
 have hK0 := hK
 refine oE6 hK.inv fun y' dx l1 l2 l3 fs z1_ => oA9 z1_ fun e p0 p1 p2 p3 h0 e1 e2 z2_ => oA5 z2_ fun e3 h1 h2 h3 h4 => ?_
 cases e
 have hp := h4 (.inr rfl)
 refine oA4 hok fun z1_ q2 q3 q4 => ?_
 clear hok
 obtain ⟨iv', q1⟩ := z1_
 simp only at q1 q2
 subst q1 q2
 walk_at "T"
 refine ⟨_, (zf (zo (qw ⟨rfl, rfl, rfl⟩ hr (za (zR (zy (pv 0) rfl) zd) (za (zy (pv 0) rfl) zb))))), ?_⟩
 walk_at "go"
 refine iE4 a.Drain _ _ _ ⟨(ZN T).mono, iE5 y a.Drain dx fs _ (iA6 rfl h0 T.C_Drain T.N_Drain_ins e1 (z7 (SqL.of h1) at0 ?_))⟩
 refine ra h0 T.C_Drain T.N_Drain_pace hp ?_
 intro z dz hz hdz hne
 refine iE4 z dz (.int iv') pace (iA3 rfl upd_same ?_)
 rw [if_pos ⟨q3, q4⟩]
 intro H' m1 m2 s' g1 g2 g3 n1 n2
 exact ⟨rfl, k _ _ (Own.of_new hz hdz s') (vY (p := New H) (ins := [iv']) (outs := []) hz (zE n1) (zE n2) g1 g2 g3)⟩
theorem m_Drain_copied (T : Txt K mg a) : MCal P w K mg base a.Drain "copied" 4 ["self"] [] (qh a .drain) := T.h_Drain_copied.cal T.C_Drain (ok_Drain_copied T)
theorem ok_Parter_copied (T : Txt K mg a) (F : Fun K "copied" "Parter.copied" s_Parter_copied f fd) : FnOk P w K mg base (CXr P w) 4 f fd ["self"] (qh a .parter) := by
 refine F.okx sc_Parter_copied ?_ ?_
 ·walk_at "i"
 walk_at "k"
 refine oE3 h fun y z1_ p z2_ => oA5 z2_ fun z3_ hK hw hok k => ?_
 clear h
 obtain ⟨wd, ins, outs, pace, kinds⟩ := z1_
 subst z3_
 cases hw
 have hK0 := hK
 refine oE6 hK.inv fun y' dx l1 l2 l3 fs z1_ => oA9 z1_ fun e p0 p1 p2 p3 h0 e1 e2 z2_ => oA5 z2_ fun e3 h1 h2 h3 h4 => ?_
 cases e
 obtain ⟨⟨iv', q1⟩, q3, q4⟩ := hok
 simp only at q1 q3 q4
 subst q1
 walk_at "T"
 refine ⟨_, (zf (zo (qw ⟨rfl, rfl, rfl⟩ hr (za (zR (zy (pv 0) rfl) zd) (za (zy (pv 0) rfl) zb))))), ?_⟩
 walk_at "go"
 refine iE4 a.Parter _ _ _ ⟨(Zb T).mono, iE5 y a.Parter dx fs _ (iA6 rfl h0 T.C_Parter T.N_Parter_ins e1 (z7 (SqL.of h1) at0 ?_))⟩
 refine ra h0 T.C_Parter T.N_Parter_outs e2 ?_
 intro z dz hz hdz hne
 refine iE5 z dz l2 (.int iv') (iv outs) (iA5 rfl upd_same (SqL.of (qd hz hdz h2)) (ne_of_none h2 hz) ?_)
 rw [if_pos (by rw [iv, List.length_map]; exact ⟨q3, q4⟩)]
 intro H' m1 m2 s' g1 g2 g3 n1 n2
 exact ⟨rfl, k _ _ (Own.of_new hz hdz s') (vg (p := New H) (ins := [iv']) (outs := outs) hz (zE n1) (zE n2) g1 g2 g3)⟩
theorem m_Parter_copied (T : Txt K mg a) : MCal P w K mg base a.Parter "copied" 4 ["self"] [] (qh a .parter) := T.h_Parter_copied.cal T.C_Parter (ok_Parter_copied T)
theorem ok_FirstParter_copied (T : Txt K mg a) (F : Fun K "copied" "FirstParter.copied" s_FirstParter_copied f fd) : FnOk P w K mg base (CXr P w) 4 f fd ["self"] (qh a .first) := by
 refine F.okx sc_FirstParter_copied ?_ ?_
 ·walk_at "i"
 walk_at "k"
 refine oE3 h fun y z1_ p z2_ => oA5 z2_ fun z3_ hK hw hok k => ?_
 clear h
 obtain ⟨wd, ins, outs, pace, kinds⟩ := z1_
 subst z3_
 cases hw
 have hK0 := hK
 refine oE6 hK.inv fun y' dx l1 l2 l3 fs z1_ => oA9 z1_ fun e p0 p1 p2 p3 h0 e1 e2 z2_ => oA5 z2_ fun e3 h1 h2 h3 h4 => ?_
 cases e
 obtain ⟨⟨iv', q1⟩, q3, q4⟩ := hok
 simp only at q1 q3 q4
 subst q1
 walk_at "T"
 refine ⟨_, (zf (zo (qw ⟨rfl, rfl, rfl⟩ hr (za (zR (zy (pv 0) rfl) zd) (za (zy (pv 0) rfl) zb))))), ?_⟩
 walk_at "go"
 refine iE4 a.FirstParter _ _ _ ⟨(jT T).mono, iE5 y a.FirstParter dx fs _ (iA6 rfl h0 T.C_FirstParter T.N_FirstParter_ins e1 (z7 (SqL.of h1) at0 ?_))⟩
 refine ra h0 T.C_FirstParter T.N_FirstParter_outs e2 ?_
 intro z dz hz hdz hne
 refine iE5 z dz l2 (.int iv') (iv outs) (iA5 rfl upd_same (SqL.of (qd hz hdz h2)) (ne_of_none h2 hz) ?_)
 rw [if_pos (by rw [iv, List.length_map]; exact ⟨q3, q4⟩)]
 intro H' m1 m2 s' g1 g2 g3 n1 n2
 exact ⟨rfl, k _ _ (Own.of_new hz hdz s') (vX (p := New H) (ins := [iv']) (outs := outs) hz (zE n1) (zE n2) g1 g2 g3)⟩
theorem m_FirstParter_copied (T : Txt K mg a) : MCal P w K mg base a.FirstParter "copied" 4 ["self"] [] (qh a .first) := T.h_FirstParter_copied.cal T.C_FirstParter (ok_FirstParter_copied T)
theorem ok_Sieve_copied (T : Txt K mg a) (F : Fun K "copied" "Sieve.copied" s_Sieve_copied f fd) : FnOk P w K mg base (CXr P w) 4 f fd ["self"] (qh a .sieve) := by
 refine F.okx sc_Sieve_copied ?_ ?_
 ·walk_at "i"
 walk_at "k"
 refine oE3 h fun y z1_ p z2_ => oA5 z2_ fun z3_ hK hw hok k => ?_
 clear h
 obtain ⟨wd, ins, outs, pace, kinds⟩ := z1_
 subst z3_
 cases hw
 have hK0 := hK
 refine oE6 hK.inv fun y' dx l1 l2 l3 fs z1_ => oA9 z1_ fun e p0 p1 p2 p3 h0 e1 e2 z2_ => oA5 z2_ fun e3 h1 h2 h3 h4 => ?_
 cases e
 refine oA3 hok fun z1_ q3 z2_ => oE1 z2_ fun kk z3_ => oA3 z3_ fun q4 q5 q6 => ?_
 clear hok
 obtain ⟨iv', q1⟩ := z1_
 simp only at q1 q3 q4
 subst q1 q4
 walk_at "T"
 refine ⟨_, (zf (zo (qw ⟨rfl, rfl, rfl⟩ hr (za (zR (zy (pv 0) rfl) zd) (za (zy (pv 0) rfl) (za (zy (pv 0) rfl) zb)))))), ?_⟩
 walk_at "go"
 refine iE4 a.Sieve _ _ _ ⟨(ZM T).mono, iE5 y a.Sieve dx fs _ (iA6 rfl h0 T.C_Sieve T.N_Sieve_ins e1 (z7 (SqL.of h1) at0 ?_))⟩
 refine ra h0 T.C_Sieve T.N_Sieve_outs e2 ?_
 refine rdR_fld hK0 T.C_Sieve T.N_Sieve_kind (vZ rfl rfl) fun u ru => ?_
 cases ru
 intro z dz hz hdz hne
 refine iE6 z dz l2 (.int iv') (iv outs) kk (iA5 rfl upd_same (SqL.of (qd hz hdz h2)) (ne_of_none h2 hz) ?_)
 rw [if_pos (by rw [iv, List.length_map]; exact ⟨q3, q5, q6⟩)]
 intro H' m1 m2 s' g1 g2 g3 n1 n2
 exact ⟨rfl, k _ _ (Own.of_new hz hdz s') (vW (p := New H) (ins := [iv']) (outs := outs) hz (zE n1) (zE n2) g1 g2 g3)⟩
theorem m_Sieve_copied (T : Txt K mg a) : MCal P w K mg base a.Sieve "copied" 4 ["self"] [] (qh a .sieve) := T.h_Sieve_copied.cal T.C_Sieve (ok_Sieve_copied T)
theorem ok_Joiner_copied (T : Txt K mg a) (F : Fun K "copied" "Joiner.copied" s_Joiner_copied f fd) : FnOk P w K mg base (CXr P w) 4 f fd ["self"] (qh a .joiner) := by
 refine F.okx sc_Joiner_copied ?_ ?_
 ·walk_at "i"
 walk_at "k"
 refine oE3 h fun y z1_ p z2_ => oA5 z2_ fun z3_ hK hw hok k => ?_
 clear h
 obtain ⟨wd, ins, outs, pace, kinds⟩ := z1_
 subst z3_
 cases hw
 have hK0 := hK
 refine oE6 hK.inv fun y' dx l1 l2 l3 fs z1_ => oA9 z1_ fun e p0 p1 p2 p3 h0 e1 e2 z2_ => oA5 z2_ fun e3 h1 h2 h3 h4 => ?_
 cases e
 obtain ⟨⟨ov, q1⟩, q3, q4⟩ := hok
 simp only at q1 q3 q4
 subst q1
 walk_at "T"
 refine ⟨_, (zf (zo (qw ⟨rfl, rfl, rfl⟩ hr (za (zy (pv 0) rfl) (za (zR (zy (pv 0) rfl) zd) zb))))), ?_⟩
 walk_at "go"
 refine iE4 a.Joiner _ _ _ ⟨(Zc T).mono, iE5 y a.Joiner dx fs _ (iA6 rfl h0 T.C_Joiner T.N_Joiner_ins e1 ?_)⟩
 refine ra h0 T.C_Joiner T.N_Joiner_outs e2 (z7 (SqL.of h2) at0 ?_)
 intro z dz hz hdz hne
 refine iE5 z dz l1 (.int ov) (iv ins) (iA5 rfl upd_same (SqL.of (qd hz hdz h1)) (ne_of_none h1 hz) ?_)
 rw [if_pos (by rw [iv, List.length_map]; exact ⟨q3, q4⟩)]
 intro H' m1 m2 s' g1 g2 g3 n1 n2
 exact ⟨rfl, k _ _ (Own.of_new hz hdz s') (vh (p := New H) (ins := ins) (outs := [ov]) hz (zE n1) (zE n2) g1 g2 g3)⟩
theorem m_Joiner_copied (T : Txt K mg a) : MCal P w K mg base a.Joiner "copied" 4 ["self"] [] (qh a .joiner) := T.h_Joiner_copied.cal T.C_Joiner (ok_Joiner_copied T)
theorem CT (T : Txt K mg a) (wd : Wd) : Cls K (clsA a wd) := by
 cases wd
 ·exact T.C_Source
 ·exact T.C_Drain
 ·exact T.C_Parter
 ·exact T.C_FirstParter
 ·exact T.C_Sieve
 ·exact T.C_Joiner
theorem NI (T : Txt K mg a) (wd : Wd) : NoAttr K (clsA a wd) "ins" := by
 cases wd
 ·exact T.N_Source_ins
 ·exact T.N_Drain_ins
 ·exact T.N_Parter_ins
 ·exact T.N_FirstParter_ins
 ·exact T.N_Sieve_ins
 ·exact T.N_Joiner_ins
theorem NO (T : Txt K mg a) (wd : Wd) : NoAttr K (clsA a wd) "outs" := by
 cases wd
 ·exact T.N_Source_outs
 ·exact T.N_Drain_outs
 ·exact T.N_Parter_outs
 ·exact T.N_FirstParter_outs
 ·exact T.N_Sieve_outs
 ·exact T.N_Joiner_outs
theorem WT (T : Txt K mg a) (wd : Wd) : WI K (clsA a wd) := by
 cases wd
 ·exact T.W_Source
 ·exact T.W_Drain
 ·exact T.W_Parter
 ·exact T.W_FirstParter
 ·exact T.W_Sieve
 ·exact T.W_Joiner
theorem m_copied (T : Txt K mg a) (wd : Wd) : MCal P w K mg base (clsA a wd) "copied" 4 ["self"] [] (qh a wd) := by
 cases wd
 ·exact m_Source_copied T
 ·exact m_Drain_copied T
 ·exact m_Parter_copied T
 ·exact m_FirstParter_copied T
 ·exact m_Sieve_copied T
 ·exact m_Joiner_copied T
theorem wX : ∀ (xs ys : List Int), xs.Perm ys → xs.Pairwise (· ≤ ·) → ys.Pairwise (· ≤ ·) → xs = ys
 | [], ys, h, _, _ => (List.nil_perm.mp h).symm
 | x :: xs, [], h, _, _ => absurd h.length_eq (by simp)
 | x :: xs, y :: ys, h, hx, hy => by
  have e : x = y := by
   have h1 : y ∈ x :: xs := h.mem_iff.mpr (by simp)
   have h2 : x ∈ y :: ys := h.mem_iff.mp (by simp)
   rcases List.mem_cons.mp h1 with e | m1
   ·exact e.symm
   rcases List.mem_cons.mp h2 with e | m2
   ·exact e
   have := (List.pairwise_cons.mp hx).1 y m1
   have := (List.pairwise_cons.mp hy).1 x m2
   omega
  subst e
  rw [wX xs ys h.cons_inv (List.pairwise_cons.mp hx).2 (List.pairwise_cons.mp hy).2]
def rgI (n : Nat) : List Int := (List.range n).map fun (i : Nat) => (i : Int)
theorem rgI_sorted (n : Nat) : (rgI n).Pairwise (· ≤ ·) := by
 unfold rgI
 rw [List.pairwise_map]
 exact List.pairwise_lt_range.imp fun {i j} h => by omega
theorem rgL_rgI (n : Nat) : rgL 0 n = iv (rgI n) := by
 simp [rgL, iv, rgI, List.map_map, Function.comp_def]
theorem wq : ∀ ms ns : List Int, qK (iv ms) (iv ns) = decide (ms = ns)
 | [], [] => rfl
 | [], _ :: _ => rfl
 | _ :: _, [] => rfl
 | m :: ms, n :: ns => by
  show (eqV (.int m) (.int n) && qK (iv ms) (iv ns)) = _
  rw [wq ms ns]
  by_cases e : m = n
  ·subst e; simp [eqV]
  ·simp [eqV, e]
theorem wb (ns : List Int) : (iv ns).all qL = true := List.all_eq_true.mpr fun x hx => by
 obtain ⟨n, _, rfl⟩ := List.mem_map.mp hx
 rfl
theorem rd_neI2 {H : Hp} {Q : VK} {p q : Addr} {ms ns : List Int} (h1 : SqL K H p (iv ms)) (h2 : SqL K H q (iv ns)) (k : Q (.bl (!decide (ms = ns))) H) : rNeG K (.ref p) (.ref q) H Q :=
 .inr (.inl ⟨p, q, iv ms, iv ns, rfl, rfl, .inl ⟨h1, h2⟩, wb ms, wb ns, by rw [wq]; exact k⟩)
def xO (K : PySem.W.Frag) (a : Ad) : Sp := fun vs H Q E => ∃ (bl kl : Addr) (xs ys : List V), vs = [.ref bl, .ref kl] ∧ SqL K H bl xs ∧ SqL K H kl ys ∧ if (1 ≤ xs.length ∧ xs.length ≤ 24) ∧ 1 ≤ ys.length ∧ ys.length ≤ 24 then Q .non H else E (.ref a.BadWork) none H
theorem ok_check_size (T : Txt K mg a) (F : Fun K "check_size" "check_size" s_check_size f fd) : FnOk P w K mg base (CXr P w) 1 f fd ["belts", "knots"] (xO K a) := by
 refine F.okx sc_check_size ?_ ?_
 ·walk_at "i"
 walk_at "k"
 refine oE4 h fun bl kl xs ys z1_ => oA4 z1_ fun z2_ h1 h2 k => ?_
 clear h
 subst z2_
 obtain ⟨t1, g1⟩ := T.g_MOST_BELTS
 obtain ⟨t2, g2⟩ := T.g_MOST_KNOTS
 walk_at "T"
 refine ⟨_, (zt (zw (zZ (qz qF qF zd (zA zD zC (za (pv 0) zb)) qk))  (zf (qu ⟨rfl, rfl, rfl⟩ rfl (za zu zb)))  zk)  (zf (zw (zZ (qz qF qF zd (zA zD zC (za (pv 1) zb)) qk))  (zf (qu ⟨rfl, rfl, rfl⟩ rfl (za zu zb)))  zk))), ?_⟩
 walk_at "go"
 have bad : ¬ ((1 ≤ xs.length ∧ xs.length ≤ 24) ∧ 1 ≤ ys.length ∧ ys.length ≤ 24) → ∃ C, mg "BadWork" = some (Value.ref C) ∧ XC K C ∧ E (Value.ref C) none H := fun h => by
  rw [if_neg h] at k
  exact ⟨a.BadWork, iA3 T.g_BadWork T.X_BadWork k⟩
 refine ⟨_, .inl ⟨_, h1, rfl⟩, ?_⟩
 walk_at "go"
 refine ite2 (fun b1 => ?_) (fun b1 => bad (by omega))
 refine iE2 (.int 24) _ (iA3 g1 ⟨_, rfl⟩ ?_)
 walk_at "go"
 refine ite2 (fun b2 => bad (by omega)) (fun b2 => ?_)
 walk_at "go"
 refine ⟨_, .inl ⟨_, h2, rfl⟩, ?_⟩
 walk_at "go"
 refine ite2 (fun b3 => ?_) (fun b3 => bad (by omega))
 refine iE2 (.int 24) _ (iA3 g2 ⟨_, rfl⟩ ?_)
 walk_at "go"
 refine ite2 (fun b4 => bad (by omega)) (fun b4 => ?_)
 rw [if_pos (by omega)] at k
 walk_at "go"
 exact k
theorem c_check_size (T : Txt K mg a) : Cal P w K mg base "check_size" 1 ["belts", "knots"] [] (xO K a) := T.h_check_size.cal (ok_check_size T)
def wo (K : PySem.W.Frag) (a : Ad) : Sp := fun vs H Q E => ∃ (l : Addr) (ns : List Int) (n : Nat), vs = [.ref l, .int n] ∧ SqL K H l (iv ns) ∧ ns.length < 64 ∧ n ≤ 1000 ∧ (ns.Perm (rgI n) → ∀ H', Same H H' → Q .non H') ∧ (¬ ns.Perm (rgI n) → ∀ H', Same H H' → E (.ref a.BadWork) none H')
theorem ok_check_each_once (T : Txt K mg a) (F : Fun K "check_each_once" "check_each_once" s_check_each_once f fd) : FnOk P w K mg base (CXr P w) 1 f fd ["named", "size"] (wo K a) := by
 refine F.okx sc_check_each_once ?_ ?_
 ·walk_at "i"
 walk_at "k"
 refine oE3 h fun l ns n z1_ => oA6 z1_ fun z2_ hl h64 hn kok kbad => ?_
 clear h
 subst z2_
 walk_at "T"
 refine ⟨_, (zf (zw (zj (w4 hr.units1) (zA bi_sorted bo_sorted (za (pv 0) zb)) (jz (bt_listR rfl) qO (za (pe_rg1 (za (pv 1) zb)) zb)) (zl _))  (zf (qu ⟨rfl, rfl, rfl⟩ rfl (za zu zb)))  zk)), ?_⟩
 walk_at "go"
 refine iE2 l ns (iA4 rfl hl h64 (fun ms q1 hp hs hq1 => ?_))
 walk_at "go"
 intro q2 hq2
 refine iE3 q2 0 n (iA4 rfl upd_same (iA5 (by omega) (by omega) (by omega) (by omega) (by omega)) (fun q3 hq3 => ?_))
 rw [show ((n : Int) - 0).toNat = n by omega, rgL_rgI]
 walk_at "go"
 have sm : Same H (upd (upd (upd H q1 (.lst (iv ms))) q2 (.rng 0 n)) q3 (.lst (iv (rgI n)))) := (ze hq1).trans ((ze hq2).trans (ze hq3))
 refine rd_neI2 (ms := ms) (ns := rgI n) (SqL.of (upd_keep (upd_keep upd_same hq2) hq3)) (SqL.of upd_same) ?_
 walk_at "go"
 refine ite2 (fun b1 => ?_) (fun b1 => ?_)
 ·refine ⟨a.BadWork, iA3 T.g_BadWork T.X_BadWork (kbad (fun z => b1 (wX _ _ (hp.trans z) hs (rgI_sorted n))) _ sm)⟩
 ·walk_at "go"
  refine kok ?_ _ sm
  have e : ms = rgI n := Decidable.of_not_not b1
  rw [← e]
  exact hp.symm
theorem qZ (T : Txt K mg a) : Cal P w K mg base "check_each_once" 1 ["named", "size"] [] (wo K a) := T.h_check_each_once.cal (ok_check_each_once T)
def qH (rs : List Row) : List Int := rs.flatMap Row.outs
def z8 (rs : List Row) : List Int := rs.flatMap Row.ins
def wf (l1 l2 : Addr) : List (Str × V) := putF "knots" (.ref l2) (putF "belts" (.ref l1) [])
def jt (bs : List (Int × Int)) (rs : List Row) : Prop := ((1 ≤ bs.length ∧ bs.length ≤ 24) ∧ 1 ≤ rs.length ∧ rs.length ≤ 24) ∧ (qH rs).Perm (rgI bs.length) ∧ (z8 rs).Perm (rgI bs.length)
def wg (K : PySem.W.Frag) (a : Ad) : Sp := fun vs H Q E => ∃ (y dx bl kl : Addr) (bvs kvs : List V) (bs : List (Int × Int)) (rs : List Row) (p : Addr → Prop), vs = [.ref y, .ref bl, .ref kl] ∧ H y = some (.ins a.Work dx []) ∧ bl ≠ y ∧ kl ≠ y ∧ (∀ b, p b → b ≠ y) ∧
 H bl = some (.lst bvs) ∧ H kl = some (.lst kvs) ∧ Bts a H p bvs bs ∧ Kns a H p kvs rs ∧ (∀ b ∈ bs, qj b.1 b.2) ∧ (∀ r ∈ rs, r.ok) ∧ (qH rs).length < 64 ∧ (z8 rs).length < 64 ∧ bs.length ≤ 1000 ∧
 (jt bs rs → ∀ H' l1 l2 bvs' kvs', Own H H' y → H' y = some (.ins a.Work dx (wf l1 l2)) → H' l1 = some (.lst bvs') → H' l2 = some (.lst kvs') → Bts a H' (New H) bvs' bs → Kns a H' (New H) kvs' rs → H l1 = none → H l2 = none → Q .non H') ∧
 (¬ jt bs rs → ∀ H', Same H H' → E (.ref a.BadWork) none H')
theorem fedOf_succ {rs : List Row} {i : Nat} {r : Row} (h : rs[i]? = some r) : qH (rs.take (i + 1)) = qH (rs.take i) ++ r.outs := by
 unfold qH; rw [List.take_add_one, h, List.flatMap_append]; simp
theorem takenOf_succ {rs : List Row} {i : Nat} {r : Row} (h : rs[i]? = some r) : z8 (rs.take (i + 1)) = z8 (rs.take i) ++ r.ins := by
 unfold z8; rw [List.take_add_one, h, List.flatMap_append]; simp
theorem qN (f : Row → List Int) (rs : List Row) (i : Nat) : ((rs.take i).flatMap f).length ≤ (rs.flatMap f).length := by
 conv => rhs; rw [← List.take_append_drop i rs, List.flatMap_append, List.length_append]
 omega
theorem Qb (xs ys : List Int) : iv xs ++ iv ys = iv (xs ++ ys) := by rw [iv, iv, iv, List.map_append]
theorem ok_Work_init (T : Txt K mg a) (F : Fun K "__init__" "Work.__init__" s_Work_init f fd) : FnOk P w K mg base (CXr P w) 5 f fd ["self", "belts", "knots"] (wg K a) := by
 refine F.okx sc_Work_init ?_ ?_
 ·walk_at "i"
 walk_at "k"
 refine oE5 h fun y dx bl kl bvs z1_ => oE4 z1_ fun kvs bs rs p z2_ => oA9 z2_ fun z3_ hy nby nky hpy hb hk hB z4_ => oA8 z4_ fun hKs hbo hro h64 h64' hlb kok kbad => ?_
 clear h
 subst z3_
 walk_at "T"
 refine ⟨_, (zh (zv (zH ⟨rfl, rfl, rfl⟩ hr (za (pv 1) (za (pv 2) zb))))  (zh (zO 3 sc_Work_init.nd (zz zb))  (zh (zO 4 sc_Work_init.nd (zz zb))  (zh (qy qR rfl (ql (pv 2)) (pg_n 5 sc_Work_init.nd)  (zh (zv (zW PySem.F.plainAttrs_list PySem.F.slot_list_extend PySem.F.type_list_extend xF (pv 3) (za (zy (pv 5) rfl) zb)))  (zf (zv (zW PySem.F.plainAttrs_list PySem.F.slot_list_extend PySem.F.type_list_extend xF (pv 4) (za (zy (pv 5) rfl) zb))))))  (zh (zv (zH ⟨rfl, rfl, rfl⟩ hr (za (pv 3) (za (zA zD zC (za (pv 1) zb)) zb))))  (zh (zv (zH ⟨rfl, rfl, rfl⟩ hr (za (pv 4) (za (zA zD zC (za (pv 1) zb)) zb))))  (zh (ja (pv 0) (xR (vars := ["belt"]) (caps := []) (N := ["belt"]) (ON := ["self", "belts", "knots", "fed", "taken", "knot"]) (osc := zg s_Work_init) rfl rfl (by first | decide +kernel | kernel_rfl) rfl rfl (ql (pv 1)) (fun s H fp pins => (pg_n 0 (show (["belt"] : List Str).Nodup from by decide +kernel))) (fun s H fp pins => qt) (fun s H fp pins => (pe_mkN hr (za (zy (pv 0) rfl) (za (zy (pv 0) rfl) zb))))) rfl)  (zf (ja (pv 0) (xR (vars := ["knot"]) (caps := []) (N := ["knot"]) (ON := ["self", "belts", "knots", "fed", "taken", "knot"]) (osc := zg s_Work_init) rfl rfl (by first | decide +kernel | kernel_rfl) rfl rfl (ql (pv 2)) (fun s H fp pins => (pg_n 0 (show (["knot"] : List Str).Nodup from by decide +kernel))) (fun s H fp pins => qt) (fun s H fp pins => (pe_mthN0 hr (pv 0)))) rfl))))))))), ?_⟩
 walk_at "go"
 refine uc (c_check_size T).mono (iE4 bl kl bvs kvs (iA4 rfl (SqL.of hb) (SqL.of hk) (ite2 (fun b1 => ?_) (fun b1 => ?_))))
 rotate_left
 ·refine kbad (fun z => b1 ?_) H (Same.refl _)
  rw [hB.len, hKs.len]; exact z.1
 rw [hB.len, hKs.len] at b1
 walk_at "go"
 intro fl hfl
 walk_at "go"
 intro tl htl
 have nft : fl ≠ tl := ne_of_none upd_same htl
 have htl0 : H tl = none := zp htl
 walk_at "for"
 walk_at "go"
 have s2 : Same H (upd (upd H fl (.lst [])) tl (.lst [])) := (ze hfl).trans (ze htl)
 refine ⟨kl, rfl, .inl ⟨⟨_, SqL.of (s2 _ _ hk)⟩, ?_⟩⟩
 let M1_ : Nat → St → Hp → Prop := fun i σ H' => ∃ v5, σ = [some (.ref y), some (.ref bl), some (.ref kl), some (.ref fl), some (.ref tl), v5] ∧ Same H H' ∧ H' fl = some (.lst (iv (qH (rs.take i)))) ∧ H' tl = some (.lst (iv (z8 (rs.take i))))
 refine qx (K := K) (a := kl) (xs := kvs) M1_ ⟨_, iA4 rfl s2 (upd_keep upd_same htl) upd_same⟩ (fun i σ H' _ ⟨_, _, s, _⟩ => SqL.of (s _ _ hk)) ?_ ?_
 ·intro i x σ H' hi zz_
  refine oE1 zz_ fun v5 z1_ => oA4 z1_ fun z2_ s3 e1 e2 => ?_
  clear zz_
  subst z2_
  obtain ⟨r, hr', hKn0⟩ := hKs.at hi
  refine oE6 hKn0.inv fun y1 dx1 l1 l2 l3 fs z1_ => oA9 z1_ fun z2_ p0 p1 p2 p3 h0 f1 f2 z3_ => oA5 z3_ fun f3 h1 h2 h3 h4 => ?_
  subst z2_
  have L1 := qN Row.outs rs i
  have L2' := qN Row.ins rs i
  have L3 := qN Row.outs rs (i + 1)
  have L4 := qN Row.ins rs (i + 1)
  have E1 := fedOf_succ hr'
  have E2 := takenOf_succ hr'
  have n1 : ∀ {b : Addr} {o : HO}, H b = some o → b ≠ fl := fun h => ne_of_none h hfl
  have n2 : ∀ {b : Addr} {o : HO}, H b = some o → b ≠ tl := fun h => ne_of_none h htl0
  walk_at "go"
  refine ⟨.inl ⟨rfl, _, SqL.of e1⟩, iE5 y1 (clsA a r.wd) dx1 fs _ (iA6 rfl (s3 _ _ h0) (CT T _) (NO T _) f2 ?_)⟩
  refine iE4 fl l2 _ _ (iA6 rfl rfl e1 (s3 _ _ h2) ?_ ?_)
  ·refine Nat.le_of_lt (zq ?_)
   have := congrArg List.length E1
   rw [List.length_append] at this
   rw [iv, iv, List.length_map, List.length_map]
   unfold qH at this h64 ⊢
   omega
  walk_at "go"
  have e2' : upd H' fl (.lst (iv (qH (rs.take i)) ++ iv r.outs)) tl = some (.lst (iv (z8 (rs.take i)))) := by rw [upd_ne (Ne.symm nft)]; exact e2
  refine ⟨.inl ⟨rfl, _, SqL.of e2'⟩, iE5 y1 (clsA a r.wd) dx1 fs _ (iA6 rfl ?_ (CT T _) (NI T _) f1 ?_)⟩
  ·rw [upd_ne (n1 h0)]; exact s3 _ _ h0
  refine iE4 tl l1 _ (iv r.ins) (iA6 rfl rfl e2' ?_ ?_ ?_)
  ·rw [upd_ne (n1 h1)]; exact s3 _ _ h1
  ·refine Nat.le_of_lt (zq ?_)
   have := congrArg List.length E2
   rw [List.length_append] at this
   rw [iv, iv, List.length_map, List.length_map]
   unfold z8 at this h64' ⊢
   omega
  refine ⟨_, iA4 rfl (fun b o hb => ?_) ?_ ?_⟩
  ·rw [upd_ne (n2 hb), upd_ne (n1 hb)]; exact s3 _ _ hb
  ·rw [upd_ne nft, upd_same, E1, Qb]
  ·rw [upd_same, E2, Qb]
 ·intro σ H1 zz_
  refine oE1 zz_ fun v5 z1_ => oA4 z1_ fun z2_ s3 e1 e2 => ?_
  clear zz_
  subst z2_
  rw [hKs.len, List.take_length] at e1 e2
  walk_at "go"
  refine uc (qZ T).mono ⟨m_len, ⟨_, ⟨.inl ⟨_, SqL.of (s3 _ _ hb), rfl⟩, ?_⟩⟩⟩
  rw [hB.len]
  refine iE3 fl (qH rs) bs.length (iA6 rfl (SqL.of e1) h64 hlb (fun g1 H2 s4 => ?_) (fun g1 H2 s4 => kbad (fun z => g1 z.2.1) _ (s3.trans s4)))
  walk_at "go"
  refine uc (qZ T).mono ⟨m_len, ⟨_, ⟨.inl ⟨_, SqL.of (s4 _ _ (s3 _ _ hb)), rfl⟩, ?_⟩⟩⟩
  rw [hB.len]
  refine iE3 tl (z8 rs) bs.length (iA6 rfl (SqL.of (s4 _ _ e2)) h64' hlb (fun g2 H3 s5 => ?_) (fun g2 H3 s5 => kbad (fun z => g2 z.2.2) _ (s3.trans (s4.trans s5))))
  have kok := kok ⟨b1, g1, g2⟩
  have s6 := s3.trans (s4.trans s5)
  clear s3 s4 s5 e1 e2
  clear g1 g2
  walk_at "go"
  walk_at "lc"
  walk_at "go"
  refine ⟨bl, rfl, .inl ⟨⟨_, SqL.of (s6 _ _ hb)⟩, fun _ _ _ _ acc hacc => ?_⟩⟩
  have nacc : H acc = none := zS s6 hacc
  let M2_ : Nat → St → Hp → Prop := fun i σ H' => ∃ v us, σ = [v] ∧ Same H3 H' ∧ H' acc = some (.lst us) ∧ Bts a H' (fun b => H3 b = none ∧ b ≠ acc) us (bs.take i)
  refine qx (K := K) (a := bl) (xs := bvs) M2_ (iE2 _ ([]) (iA4 rfl (ze hacc) upd_same (by rw [List.take_zero]; exact .nil))) (fun i σ H' _ ⟨_, _, _, s, _⟩ => SqL.of (s _ _ (s6 _ _ hb))) ?_ ?_
  ·intro i x σ H' hi zz_
   refine oE2 zz_ fun v us z1_ => oA4 z1_ fun z2_ s7 e1 hU => ?_
   clear zz_
   subst z2_
   obtain ⟨⟨rm, pc⟩, hr', hBt0⟩ := hB.at hi
   refine oE3 hBt0.inv fun y1 dx1 fs z1_ => oA5 z1_ fun z2_ p0 h0 f1 f2 => ?_
   subst z2_
   have hok := hbo _ (List.mem_of_getElem? hr')
   have hil : i < bs.length := (List.getElem?_eq_some_iff.mp hr').1
   have h0' := s7 _ _ (s6 _ _ h0)
   walk_at "go"
   refine iE4 a.Belt _ _ _ ⟨(Qa T).mono, iE5 y1 a.Belt dx1 fs _ (iA6 rfl h0' T.C_Belt T.N_Belt_room f1 (iE5 y1 a.Belt dx1 fs _ (iA6 rfl h0' T.C_Belt T.N_Belt_pace f2 ?_)))⟩
   intro z dz hz hdz hne
   refine iE4 z dz rm pc (iA3 rfl upd_same ?_)
   rw [if_pos hok, vq]
   have sN : Same H' (upd (upd H' dz (.own z)) z (.ins a.Belt dz (bf rm pc))) := fun b o h => by rw [upd_ne (ne_of_none h hz), upd_ne (ne_of_none h hdz)]; exact h
   have hz' : upd (upd H' dz (.own z)) z (.ins a.Belt dz (bf rm pc)) z = some (.ins a.Belt dz (bf rm pc)) := upd_same
   generalize upd (upd H' dz (.own z)) z (.ins a.Belt dz (bf rm pc)) = H4 at sN hz' ⊢
   have hzn : z ≠ acc := fun q => by rw [q, e1] at hz; cases hz
   refine ⟨rfl, ⟨_, iA3 (sN _ _ e1) (zq (by have := hU.len; rw [List.length_take] at this; omega)) (iE2 _ (us ++ [.ref z]) (iA4 rfl (fun b o hb => ?_) upd_same ?_))⟩⟩
   ·rw [upd_ne (ne_of_none hb hacc)]; exact sN _ _ (s7 _ _ hb)
   ·rw [List.take_add_one, hr']
    refine Bts.push (hU.keep fun b o hp hb => ⟨hp, by rw [upd_ne hp.2]; exact sN _ _ hb⟩) (Qo (p := fun b => H3 b = none ∧ b ≠ acc) ⟨zS s7 hz, hzn⟩ (by rw [upd_ne hzn]; exact hz'))
  ·intro σ H4 zz_
   refine oE2 zz_ fun v us z1_ => oA4 z1_ fun z2_ s7 e1 hU => ?_
   clear zz_
   subst z2_
   rw [hB.len, List.take_length] at hU
   have s8 := s6.trans s7
   have nacy : acc ≠ y := (ne_of_none hy nacc).symm
   walk_at "go"
   refine iE4 y a.Work dx ([]) (iA6 rfl (s8 _ _ hy) T.C_Work T.N_Work_belts (by decide) ?_)
   have o9 : Own H (upd H4 y (.ins a.Work dx (putF "belts" (.ref acc) []))) y := (Same.own s8).trans qW
   have hy9 : upd H4 y (.ins a.Work dx (putF "belts" (.ref acc) [])) y = some (.ins a.Work dx (putF "belts" (.ref acc) [])) := upd_same
   have e9 : upd H4 y (.ins a.Work dx (putF "belts" (.ref acc) [])) acc = some (.lst us) := by rw [upd_ne nacy]; exact e1
   have hU9 : Bts a (upd H4 y (.ins a.Work dx (putF "belts" (.ref acc) []))) (fun b => H b = none ∧ b ≠ y) us bs := hU.keep fun b o hp hb => by
    have q1 : H b = none := zS s6 hp.1
    have q2 : b ≠ y := (ne_of_none hy q1).symm
    exact ⟨⟨q1, q2⟩, by rw [upd_ne q2]; exact hb⟩
   generalize upd H4 y (.ins a.Work dx (putF "belts" (.ref acc) [])) = H5 at o9 hy9 e9 hU9 ⊢
   walk_at "go"
   walk_at "lc"
   walk_at "go"
   refine ⟨kl, rfl, .inl ⟨⟨_, SqL.of (o9 _ _ nky hk)⟩, fun _ _ _ _ ac2 hac2 => ?_⟩⟩
   let M3_ : Nat → St → Hp → Prop := fun i σ H' => ∃ v us2, σ = [v] ∧ Same H5 H' ∧ H' ac2 = some (.lst us2) ∧ Kns a H' (fun b => H5 b = none ∧ b ≠ ac2) us2 (rs.take i)
   refine qx (K := K) (a := kl) (xs := kvs) M3_ (iE2 _ ([]) (iA4 rfl (ze hac2) upd_same (by rw [List.take_zero]; exact .nil))) (fun i σ H' _ ⟨_, _, _, s, _⟩ => SqL.of (s _ _ (o9 _ _ nky hk))) ?_ ?_
   ·intro i x σ H' hi zz_
    refine oE2 zz_ fun v us2 z1_ => oA4 z1_ fun z2_ s10 e2 hV => ?_
    clear zz_
    subst z2_
    obtain ⟨r, hr', hKn⟩ := hKs.at hi
    have hok := hro _ (List.mem_of_getElem? hr')
    have hil : i < rs.length := (List.getElem?_eq_some_iff.mp hr').1
    have hKn' : KnP a H' p x r := hKn.keep fun b o hp hb => ⟨hp, s10 _ _ (o9 _ _ (hpy b hp) hb)⟩
    refine oE6 hKn'.inv fun y1 dx1 l1 l2 l3 fs z1_ => oA9 z1_ fun z2_ p0 p1 p2 p3 h0 f1 f2 z3_ => oA5 z3_ fun f3 h1 h2 h3 h4 => ?_
    subst z2_
    walk_at "go"
    refine iE7 y1 (clsA a r.wd) dx1 fs _ _ _ (iA5 rfl h0 f3 ((m_copied T r.wd).mono) ?_)
    refine iE3 y1 r p (iA5 rfl hKn' rfl hok (fun v' H6 s11 hN => ?_))
    refine ⟨_, iA3 (s11 _ _ e2) (zq (by have := hV.len; rw [List.length_take] at this; omega)) (iE2 _ (us2 ++ [v']) (iA4 rfl (fun b o hb => ?_) upd_same ?_))⟩
    ·rw [upd_ne (ne_of_none hb hac2)]; exact s11 _ _ (s10 _ _ hb)
    ·rw [List.take_add_one, hr']
     refine Kns.append (hV.keep fun b o hp hb => ⟨hp, by rw [upd_ne hp.2]; exact s11 _ _ hb⟩) (Kns.one (hN.keep fun b o hp hb => ?_))
     have q2 : b ≠ ac2 := fun z => by rw [z] at hp; rw [New, e2] at hp; cases hp
     exact ⟨⟨zS s10 hp, q2⟩, by rw [upd_ne q2]; exact hb⟩
   ·intro σ H6 zz_
    refine oE2 zz_ fun v us2 z1_ => oA4 z1_ fun z2_ s10 e2 hV => ?_
    clear zz_
    subst z2_
    rw [hKs.len, List.take_length] at hV
    have hy10 := s10 _ _ hy9
    walk_at "go"
    refine iE4 y a.Work dx _ (iA6 rfl hy10 T.C_Work T.N_Work_knots (by show 1 < 1000; decide) ?_)
    have n2y : ac2 ≠ y := fun z => by rw [z, hy9] at hac2; cases hac2
    have ho : ∀ b, H5 b = none → b ≠ y → H b = none := fun b h1 h2 => by
     cases e : H b with
     | none => rfl
     | some o => rw [o9 b o h2 e] at h1; cases h1
    refine kok _ acc ac2 us us2 ((o9.trans (Same.own s10)).trans qW) upd_same ?_ ?_ ?_ ?_ nacc (ho _ hac2 n2y)
    ·rw [upd_ne nacy]; exact s10 _ _ e9
    ·rw [upd_ne n2y]; exact e2
    ·exact hU9.keep fun b o hp hb => ⟨hp.1, by rw [upd_ne hp.2]; exact s10 _ _ hb⟩
    ·refine hV.keep fun b o hp hb => ?_
     have q : b ≠ y := fun z => by rw [z, hy9] at hp; cases hp.1
     exact ⟨ho b hp.1 q, by rw [upd_ne q]; exact hb⟩
theorem k_Work (T : Txt K mg a) : KCal P w K mg base "Work" a.Work 5 ["self", "belts", "knots"] [] (wg K a) := T.h_Work_init.cal T.g_Work (ok_Work_init T)
def js (b : Int × Int) : D := .tup [.int b.1, .int b.2]
def segI (lo : Nat) (n : Nat) : List Int := (List.range n).map fun (i : Nat) => ((lo + i : Nat) : Int)
theorem xC (lo n : Nat) : segI lo (n + 1) = segI lo n ++ [((lo + n : Nat) : Int)] := by simp [segI, List.range_succ]
theorem xg (lo n : Nat) : (segI lo n).length = n := by simp [segI]
theorem x8 (m n : Nat) : rgI m ++ segI m n = rgI (m + n) := by
 induction n with
 | zero => simp [segI]
 | succ n ih => rw [xC, ← List.append_assoc, ih, ← Nat.add_assoc]; simp [rgI, List.range_succ]
theorem vv (n : Nat) : (rgI n).length = n := by simp [rgI]
theorem vN (n : Nat) : rgI (n + 1) = rgI n ++ [(n : Int)] := by simp [rgI, List.range_succ]
theorem zm (ns : List Int) : (iv ns).length = ns.length := by rw [iv, List.length_map]
theorem xV {ns : List Int} {i : Nat} {x : V} (h : (iv ns)[i]? = some x) : ∃ n, ns[i]? = some n ∧ x = .int n := by
 rw [iv, List.getElem?_map, Option.map_eq_some_iff] at h
 obtain ⟨n, h1, h2⟩ := h
 exact ⟨n, h1, h2.symm⟩
theorem wD {ns : List Int} {i : Nat} {n : Int} (h : ns[i]? = some n) : (iv ns)[i]? = some (.int n) := by rw [iv, List.getElem?_map, h]; rfl
theorem jF (ns : List Int) (k : Nat) : (iv ns).eraseIdx k = iv (ns.eraseIdx k) := by
 induction ns generalizing k with
 | nil => simp [iv]
 | cons n ns ih =>
  cases k with
  | zero => simp [iv]
  | succ k => simpa [iv] using ih k
theorem qA (ns : List Int) (n : Int) : iv ns ++ [.int n] = iv (ns ++ [n]) := by simp [iv]
theorem Zr (ns : List Int) : (iv ns).reverse = iv ns.reverse := by simp [iv]
def qU (n : Nat) (es ks : List Int) (bs : List (Int × Int)) (outs es' ks' : List Int) (bs' : List (Int × Int)) : Prop :=
 outs.length = n ∧ ks'.length ≤ ks.length ∧ ∃ nb : List (Int × Int), es' = es ++ segI bs.length nb.length ∧ bs' = bs ++ nb ∧ (∀ b ∈ nb, qj b.1 b.2) ∧ (outs ++ ks').Perm (ks ++ segI bs.length nb.length)
theorem xj {es ks : List Int} {bs : List (Int × Int)} : qU 0 es ks bs [] es ks bs := ⟨rfl, Nat.le_refl _, [], by simp [segI], by simp, (fun b hb => nomatch hb), by simp [segI]⟩
theorem outs_new {n : Nat} {es ks outs es' ks' : List Int} {bs bs' : List (Int × Int)} {b : Int × Int} (h : qU n es ks bs outs es' ks' bs') (hb : qj b.1 b.2) : qU (n + 1) es ks bs (outs ++ [(bs'.length : Int)]) (es' ++ [(bs'.length : Int)]) ks' (bs' ++ [b]) := by
 refine oA3 h fun h1 h0 z1_ => oE1 z1_ fun nb z2_ => oA4 z2_ fun h2 h3 h4 h5 => ?_
 clear h
 have e : bs'.length = bs.length + nb.length := by rw [h3, List.length_append]
 refine iA3 (by simp [h1]) h0 ⟨nb ++ [b], iA4 ?_ (by rw [h3, List.append_assoc]) ?_ ?_⟩
 ·rw [List.length_append, List.length_singleton, xC, h2, List.append_assoc, e]
 ·intro x hx
  rcases List.mem_append.mp hx with hx | hx
  ·exact h4 x hx
  ·rw [List.mem_singleton.mp hx]; exact hb
 ·rw [List.length_append, List.length_singleton, xC, e, List.append_assoc]
  refine ((List.Perm.append_left _ List.perm_append_comm).trans ?_)
  rw [← List.append_assoc, ← List.append_assoc]
  exact List.Perm.append_right _ h5
theorem outs_rev {n : Nat} {es ks outs es' ks' : List Int} {bs bs' : List (Int × Int)} (h : qU n es ks bs outs es' ks' bs') : qU n es ks bs outs.reverse es' ks' bs' := by
 refine oA3 h fun h1 h0 z1_ => oE1 z1_ fun nb z2_ => oA4 z2_ fun h2 h3 h4 h5 => ?_
 clear h
 exact iA3 (by simp [h1]) h0 ⟨nb, iA4 h2 h3 h4 ((List.Perm.append_right _ (List.reverse_perm _)).trans h5)⟩
def wdS : Wd → Str
 | .source => "source"
 | .drain => "drain"
 | .parter => "parter"
 | .first => "first"
 | .sieve => "sieve"
 | .joiner => "joiner"
theorem wdS_inj {x y : Wd} (h : wdS x = wdS y) : x = y := by
 cases x <;> cases y <;> first | rfl | exact absurd h (by decide +kernel)
abbrev ms4 (L R E B : Addr) : List Addr := [L, R, E, B]
structure WInv (bs : List (Int × Int)) (rs : List Row) (es ks : List Int) : Prop where
 tk : (z8 rs ++ es).Perm (rgI bs.length)
 fd : (qH rs ++ ks).Perm (rgI bs.length)
 ro : ∀ r ∈ rs, r.ok
 bo : ∀ b ∈ bs, qj b.1 b.2
theorem fedOf_snoc (rs : List Row) (r : Row) : qH (rs ++ [r]) = qH rs ++ r.outs := by simp [qH]
theorem takenOf_snoc (rs : List Row) (r : Row) : z8 (rs ++ [r]) = z8 rs ++ r.ins := by simp [z8]
theorem jc {n : Nat} {bs bs2 : List (Int × Int)} {rs : List Row} {es es1 es2 ks ks2 : List Int} {r : Row} (h : WInv bs rs es ks) (p : (r.ins ++ es1).Perm es) (o : qU n es1 ks bs r.outs es2 ks2 bs2) (ok : r.ok) : WInv bs2 (rs ++ [r]) es2 ks2 := by
 refine oA3 o fun _ _ z1_ => oE1 z1_ fun nb z2_ => oA4 z2_ fun e1 e2 b2 pp => ?_
 clear o
 have el : bs2.length = bs.length + nb.length := by rw [e2, List.length_append]
 refine ⟨?_, ?_, ?_, ?_⟩
 ·rw [takenOf_snoc, e1, el, ← x8, ← List.append_assoc]
  refine List.Perm.append_right _ ?_
  rw [List.append_assoc]
  exact (List.Perm.append_left _ p).trans h.tk
 ·rw [fedOf_snoc, el, ← x8, List.append_assoc]
  refine (List.Perm.append_left _ pp).trans ?_
  rw [← List.append_assoc]
  exact List.Perm.append_right _ h.fd
 ·intro x hx
  rcases List.mem_append.mp hx with hx | hx
  ·exact h.ro x hx
  ·rw [List.mem_singleton.mp hx]; exact ok
 ·intro x hx
  rw [e2] at hx
  rcases List.mem_append.mp hx with hx | hx
  ·exact h.bo x hx
  ·exact b2 x hx
theorem wc {us : List V} {n : Nat} (h : us.length = n + 1) : ∃ a vs, us = a :: vs ∧ vs.length = n := by
 cases us with
 | nil => cases h
 | cons a vs => exact ⟨a, vs, rfl, Nat.succ.inj h⟩
theorem two_of {us : List V} (h : us.length = 2) : ∃ a b, us = [a, b] := by
 obtain ⟨a, _, rfl, h1⟩ := wc h
 obtain ⟨b, _, rfl, h2⟩ := wc h1
 exact ⟨a, b, by rw [List.length_eq_zero_iff.mp h2]⟩
theorem wZ {H : Hp} {p : Addr → Prop} {ns : List Addr} {vs : List V} {bs : List (Int × Int)} (h : Reps H p vs (bs.map js)) (k : ∀ m ∈ ns, ∃ xs, H m = some (.lst xs)) : Reps H (Off ns) vs (bs.map js) := by
 refine ⟨h.len, fun i v d e1 e2 => ?_⟩
 have r := h.g i v d e1 e2
 rw [List.getElem?_map, Option.map_eq_some_iff] at e2
 obtain ⟨b, _, rfl⟩ := e2
 obtain ⟨t, us, rfl, _, ht, rr⟩ := Rep.tup' r
 have r1 := rr.g
 obtain ⟨x, y, rfl⟩ := two_of rr.len
 have a1 := r1 0 x _ rfl rfl
 have a2 := r1 1 y _ rfl rfl
 cases a1
 cases a2
 refine Reps.mkT (.cons .int (.cons .int .nil)) (fun z => ?_) ht
 obtain ⟨xs, hx⟩ := k t z
 rw [ht] at hx
 cases hx
theorem jg : ∀ {es : List Int} {j : Nat} {y : Int}, es[j]? = some y → (y :: es.eraseIdx j).Perm es
 | [], _, _, h => by simp at h
 | e :: es, 0, y, h => by
  have h : e = y := by simpa using h
  subst h
  simp
 | e :: es, j + 1, y, h => by
  have ih := jg (es := es) (j := j) (y := y) (by simpa using h)
  rw [List.eraseIdx_cons_succ]
  exact (List.Perm.swap e y _).trans (ih.cons e)
theorem x9 {n : Nat} {x : Int} (h : x ∈ rgI n) : 0 ≤ x ∧ x < n := by
 unfold rgI at h
 obtain ⟨i, hi, rfl⟩ := List.mem_map.mp h
 have := List.mem_range.mp hi
 omega
theorem ZS {α : Type} {xs : List α} {i : Nat} {x : α} (h : xs[i]? = some x) : xs.drop i = x :: xs.drop (i + 1) := by
 obtain ⟨hi, rfl⟩ := List.getElem?_eq_some_iff.mp h
 exact List.drop_eq_getElem_cons hi
theorem vQ {H : Hp} {p : Addr → Prop} {v : V} {b : Int × Int} (h : Rep H p v (js b)) : ∃ t, v = .ref t ∧ H t = some (.tup [.int b.1, .int b.2]) := by
 obtain ⟨t, us, rfl, _, ht, rr⟩ := Rep.tup' h
 have g := rr.g
 obtain ⟨x0, x1, rfl⟩ := two_of rr.len
 have a0 := g 0 x0 _ rfl rfl
 have a1 := g 1 x1 _ rfl rfl
 cases a0
 cases a1
 exact ⟨t, rfl, ht⟩
def xY (ns : List Int) (k : Nat) : Int := ns.getD k 0
def Z3 (K : PySem.W.Frag) : Sp := fun vs H Q _ => ∃ (l : Addr) (ns : List Int) (k : Nat), vs = [.ref l, .int k] ∧ SqL K H l (ns.map V.int) ∧ Q (.int (xY ns k)) H
theorem ok_L_cell_at (T : Txt K mg a) (F : Fun K "_law_cell_at" "_law_cell_at" s_L_cell_at f fd) : FnOk P w K mg base (CXr P w) 1 f fd ["_law_script", "_law_k"] (Z3 K) := by
 refine F.okx sc_L_cell_at ?_ ?_
 ·walk_at "i"
 walk_at "k"
 obtain ⟨l, ns, n, rfl, hl, k⟩ := h
 walk_at "T"
 refine ⟨_, (zt (zw (zj Qj (pv 1) (zA zD zC (za (pv 0) zb)) (zl _))  (zf (zo (zR (pv 0) (pv 1))))  zk)  (zf (zo zd))), ?_⟩
 walk_at "go"
 refine ⟨_, .inl ⟨_, hl, rfl⟩, ?_⟩
 walk_at "r"
 rw [List.length_map]
 refine ite2 (fun h => ?_) (fun h => ?_)
 ·have h : n < ns.length := by omega
  refine z7 hl (jN (by rw [List.getElem?_map, List.getElem?_eq_getElem h]; rfl)) ?_
  have e : ns[n] = xY ns n := by simp [xY, h]
  rw [e]; exact k
 ·have e : xY ns n = 0 := by
   have h : ns.length ≤ n := by omega
   simp [xY, h]
  rw [e] at k
  walk_at "r"
  exact k
theorem c_L_cell_at (T : Txt K mg a) : Cal P w K mg base "_law_cell_at" 1 ["_law_script", "_law_k"] [] (Z3 K) := T.h_L_cell_at.cal (ok_L_cell_at T)
def wW : Sp := fun vs H Q _ => ∃ c : Int, vs = [.int c] ∧ ∀ O ks H', Same H H' → H O = none → H' O = some (.lst (iv ks)) → 1 ≤ ks.length → ks.length ≤ 6 → xz ks → Q (.ref O) H'
theorem ok_L_kinds_of (T : Txt K mg a) (F : Fun K "_law_kinds_of" "_law_kinds_of" s_L_kinds_of f fd) : FnOk P w K mg base (CXr P w) 1 f fd ["_law_cell"] wW := by
 refine F.okx sc_L_kinds_of ?_ ?_
 ·walk_at "i"
 walk_at "j"
 obtain ⟨c, rfl, k⟩ := h
 walk_at "T"
 refine ⟨_, (zh (zO 1 sc_L_kinds_of.nd (zz zb))  (qc (qy qR rfl (vw (za (zi zB zd (zi zL (zi zM (pv 0) zd) zd)) zb)) (pg_n 2 sc_L_kinds_of.nd)  (zh (zO 3 sc_L_kinds_of.nd (pv 2))  (qc (zw (zj (zK hr.units1) (zi zL (zi zM (pv 0) zd) zd) zd (zl _))  (zf (zO 3 sc_L_kinds_of.nd (zi zM (pv 2) zd)))  zk)  (zh (zO 4 sc_L_kinds_of.nd (zi zL (zi jA (zi zB (zi zB (zi zM (pv 0) zd) (zi jA (pv 3) (pv 3))) (pv 3)) zd) (zi vy zd zd)))  (qc (zw (PW.pt (pw_and (zj (zK hr.units1) (zi zL (zi zM (pv 0) zd) zd) zd (zl _)) (pw_and1 (zj (zK hr.units1) (pv 2) (zi zL (zi zM (pv 0) zd) zd) (zl _)))))  (zf (zO 4 sc_L_kinds_of.nd (zi qS (zi vy zd zd) zd)))  zk)  (zf (zv (zW PySem.F.plainAttrs_list PySem.F.slot_list_append PySem.F.type_list_append zF (pv 1) (za (pv 4) zb)))))))))  (zf (zo (pv 1))))), ?_⟩
 walk_at "go"
 intro O hO
 walk_at "go"
 refine cut (fun σ' H' => ∃ v2 v3 v4 ks, σ' = [some (.int c), some (.ref O), v2, v3, v4] ∧ Same H H' ∧ H' O = some (.lst (iv ks)) ∧ 1 ≤ ks.length ∧ ks.length ≤ 6 ∧ xz ks) ?_ ?_
 ·walk_at "for"
  walk_at "go"
  walk_at "sds"
  walk_at "go"
  refine ZR (n := (1 + c / 3 % 6).toNat) (fun i σ' H' => ∃ v2 v3 v4 ks, σ' = [some (.int c), some (.ref O), v2, v3, v4] ∧ Same H H' ∧ H' O = some (.lst (iv ks)) ∧ ks.length = i ∧ xz ks) ⟨_, _, _, [], rfl, ze hO, upd_same, rfl, (fun _ z => nomatch z)⟩ ?_ ?_
  ·rintro i σ' H' hi ⟨v2, v3, v4, ks, rfl, s1, h1, lk, kk⟩
   walk_at "go"
   simp only [Int.zero_add]
   refine cut (fun σ' H2 => ∃ st : Int, σ' = [some (.int c), some (.ref O), some (.int i), some (.int st), v4] ∧ H2 = H' ∧ 0 ≤ st ∧ st ≤ 6) ?_ ?_
   ·walk_at "go"
    walk_at "sds"
    walk_at "go"
    refine ite2 (fun b => ?_) (fun b => ?_)
    ·walk_at "go"
     walk_at "sds"
     exact ⟨_, rfl, by omega, by omega⟩
    ·exact ⟨_, rfl, by omega, by omega⟩
   rintro σ' H2 ⟨st, rfl, rfl, st0, st6⟩
   walk_at "go"
   walk_at "sds"
   walk_at "go"
   have y0 := Int.emod_nonneg ((c / 5 + st * st + st) * 48271) (show (1000000000000000000000000000000 : Int) ≠ 0 by decide)
   have y1 := Int.emod_lt_of_pos ((c / 5 + st * st + st) * 48271) (show (0 : Int) < 1000000000000000000000000000000 by decide)
   generalize (c / 5 + st * st + st) * 48271 % 1000000000000000000000000000000 = kd at y0 y1 ⊢
   refine cut (fun σ' H3 => ∃ kd : Int, σ' = [some (.int c), some (.ref O), some (.int i), some (.int st), some (.int kd)] ∧ H3 = H2 ∧ 0 ≤ kd ∧ kd < zJ) ?_ ?_
   ·walk_at "go"
    have no : ∃ kd_1 : Int, ([some (V.int c), some (V.ref O), some (V.int ↑i), some (V.int st), some (V.int kd)] : St) = [some (V.int c), some (V.ref O), some (V.int ↑i), some (V.int st), some (V.int kd_1)] ∧ 0 ≤ kd_1 ∧ kd_1 < zJ := ⟨kd, rfl, y0, y1⟩
    refine ⟨fd_ok (by decide) (by decide +kernel), ite2 (fun _ => ⟨fd_ok (by decide) (by decide +kernel), ite2 (fun _ => ?_) (fun _ => no)⟩) (fun _ => no)⟩
    exact ⟨_, rfl, by decide, by decide +kernel⟩
   rintro σ' H3 ⟨kd, rfl, rfl, k0, k1⟩
   walk_at "go"
   refine ⟨.inl ⟨rfl, _, SqL.of h1⟩, O, _, _, rfl, rfl, h1, zq (by rw [zm]; omega), ?_⟩
   rw [qA]
   refine ⟨_, _, _, ks ++ [kd], rfl, (fun b o hb => by rw [upd_ne (ne_of_none hb hO)]; exact s1 b o hb), upd_same, by simp [lk], fun n hn => ?_⟩
   rcases List.mem_append.mp hn with hn | hn
   ·exact kk n hn
   ·rw [List.mem_singleton.mp hn]; exact ⟨k0, k1⟩
  ·rintro σ' H' ⟨v2, v3, v4, ks, rfl, s1, h1, lk, kk⟩
   exact ⟨v2, v3, v4, ks, rfl, s1, h1, by omega, by omega, kk⟩
 rintro σ' H' ⟨v2, v3, v4, ks, rfl, s1, h1, k1, k6, kk⟩
 walk_at "go"
 exact k O ks _ s1 hO h1 k1 k6 kk
theorem xv (T : Txt K mg a) : Cal P w K mg base "_law_kinds_of" 1 ["_law_cell"] [] wW := T.h_L_kinds_of.cal (ok_L_kinds_of T)
theorem ZJ {n j : Nat} {es ks outs es' ks' : List Int} {bs bs' : List (Int × Int)} {y : Int} (h : qU n es ks bs outs es' ks' bs') (hy : ks'[j]? = some y) : qU (n + 1) es ks bs (outs ++ [y]) es' (ks'.eraseIdx j) bs' := by
 obtain ⟨h1, h0, nb, h2, h3, h4, h5⟩ := h
 have pp := jg hy
 have pl := pp.length_eq
 rw [List.length_cons] at pl
 refine ⟨by simp [h1], by omega, nb, h2, h3, h4, ?_⟩
 refine List.Perm.trans ?_ h5
 rw [List.append_assoc]
 exact List.Perm.append_left _ pp
structure OS (H0 H : Hp) (L E B O : Addr) (bs : List (Int × Int)) (es ks outs : List Int) : Prop where
 f : Fr [E, B, L] H0 H
 nO : H0 O = none
 nEB : E ≠ B
 nEL : E ≠ L
 nBL : B ≠ L
 nOE : O ≠ E
 nOB : O ≠ B
 nOL : O ≠ L
 hO : H O = some (.lst (iv outs))
 hE : H E = some (.lst (iv es))
 hB : H B = some (.lst (iv ks))
 hL : ∃ bvs, H L = some (.lst bvs) ∧ Reps H (Off [E, B, L, O]) bvs (bs.map js)
section
variable {H0 H H' : Hp} {L E B O : Addr} {bs : List (Int × Int)} {es ks outs : List Int}
theorem OS.same (W : OS H0 H L E B O bs es ks outs) (s : Same H H') : OS H0 H' L E B O bs es ks outs := by
 obtain ⟨bvs, h1, r1⟩ := W.hL
 exact { W with f := W.f.trans s.fr, hO := s _ _ W.hO, hE := s _ _ W.hE, hB := s _ _ W.hB, hL := ⟨bvs, s _ _ h1, r1.same s⟩ }
theorem OS.setO (W : OS H0 H L E B O bs es ks outs) (outs' : List Int) : OS H0 (upd H O (.lst (iv outs'))) L E B O bs es ks outs' := by
 obtain ⟨bvs, h1, r1⟩ := W.hL
 exact { W with f := fun b o nb hb => by rw [upd_ne (fun z => by rw [z, W.nO] at hb; cases hb)]; exact W.f b o nb hb, hO := upd_same, hE := by rw [upd_ne W.nOE.symm]; exact W.hE, hB := by rw [upd_ne W.nOB.symm]; exact W.hB, hL := ⟨bvs, by rw [upd_ne W.nOL.symm]; exact h1, r1.fr (qB (by simp))⟩ }
theorem OS.setE (W : OS H0 H L E B O bs es ks outs) (es' : List Int) : OS H0 (upd H E (.lst (iv es'))) L E B O bs es' ks outs := by
 obtain ⟨bvs, h1, r1⟩ := W.hL
 exact { W with f := W.f.trans (qB (by simp)), hO := by rw [upd_ne W.nOE]; exact W.hO, hE := upd_same, hB := by rw [upd_ne W.nEB.symm]; exact W.hB, hL := ⟨bvs, by rw [upd_ne W.nEL.symm]; exact h1, r1.fr (qB (by simp))⟩ }
theorem OS.setB (W : OS H0 H L E B O bs es ks outs) (ks' : List Int) : OS H0 (upd H B (.lst (iv ks'))) L E B O bs es ks' outs := by
 obtain ⟨bvs, h1, r1⟩ := W.hL
 exact { W with f := W.f.trans (qB (by simp)), hO := by rw [upd_ne W.nOB]; exact W.hO, hE := by rw [upd_ne W.nEB]; exact W.hE, hB := upd_same, hL := ⟨bvs, by rw [upd_ne W.nBL.symm]; exact h1, r1.fr (qB (by simp))⟩ }
theorem OS.off (W : OS H0 H L E B O bs es ks outs) {t : Addr} (h : H t = none) : t ∉ [E, B, L, O] := fun z => by
 obtain ⟨bvs, h1, _⟩ := W.hL
 simp only [List.mem_cons, List.not_mem_nil, or_false] at z
 rcases z with rfl | rfl | rfl | rfl
 ·rw [W.hE] at h; cases h
 ·rw [W.hB] at h; cases h
 ·rw [h1] at h; cases h
 ·rw [W.hO] at h; cases h
theorem OS.addL (W : OS H0 H L E B O bs es ks outs) {t : Addr} {rm pc : Int} (ht : H t = none) : ∃ bvs, upd H t (.tup [.int rm, .int pc]) L = some (.lst bvs) ∧ bvs.length = bs.length ∧ OS H0 (upd (upd H t (.tup [.int rm, .int pc])) L (.lst (bvs ++ [.ref t]))) L E B O (bs ++ [(rm, pc)]) es ks outs := by
 have nt := W.off ht
 have W1 := W.same (ze (o := .tup [.int rm, .int pc]) ht)
 have e1 : upd H t (.tup [.int rm, .int pc]) t = some (.tup [.int rm, .int pc]) := upd_same
 generalize upd H t (.tup [.int rm, .int pc]) = H1 at W1 e1 ⊢
 obtain ⟨bvs, h1, r1⟩ := W1.hL
 have f : Fr [E, B, L, O] H1 (upd H1 L (.lst (bvs ++ [.ref t]))) := qB (by simp)
 refine ⟨bvs, h1, by rw [r1.len, List.length_map], { W1 with f := W1.f.trans (qB (by simp)), hO := by rw [upd_ne W.nOL]; exact W1.hO, hE := by rw [upd_ne W.nEL]; exact W1.hE, hB := by rw [upd_ne W.nBL]; exact W1.hB, hL := ⟨_, upd_same, ?_⟩ }⟩
 rw [List.map_append]
 exact (r1.fr f).append (.one (Reps.mkT (vs := [.int rm, .int pc]) (.cons .int (.cons .int .nil)) nt (f _ _ nt e1)))
end
theorem iteAnd2 {A B X Y P R : Prop} [Decidable A] [Decidable B] (hx : A → X ∧ Y) (h1 : A → B → P) (h2 : R) : if A then X ∧ Y ∧ (if B then P else R) else R := by
 by_cases a : A
 ·rw [if_pos a]
  refine ⟨(hx a).1, (hx a).2, ?_⟩
  by_cases b : B
  ·rw [if_pos b]; exact h1 a b
  ·rw [if_neg b]; exact h2
 ·rw [if_neg a]; exact h2
def vJ : Sp := fun vs H Q _ => ∃ (c : Int) (n : Nat) (L En B : Addr) (es ks : List Int) (bvs : List V) (bs : List (Int × Int)), vs = [.int c, .int n, .ref L, .ref En, .ref B] ∧ n ≤ 4 ∧ En ≠ B ∧ En ≠ L ∧ B ≠ L ∧
 H En = some (.lst (iv es)) ∧ H B = some (.lst (iv ks)) ∧ H L = some (.lst bvs) ∧ Reps H (Off [En, B, L]) bvs (bs.map js) ∧ es.length ≤ 100 ∧ ks.length ≤ 100 ∧ bs.length ≤ 100 ∧
 ∀ H' O es' ks' bs' outs, OS H H' L En B O bs' es' ks' outs → qU n es ks bs outs es' ks' bs' → Q (.ref O) H'
theorem ok_L_outs_of (T : Txt K mg a) (F : Fun K "_law_outs_of" "_law_outs_of" s_L_outs_of f fd) : FnOk P w K mg base (CXr P w) 1 f fd ["_law_cell", "_law_many", "_law_belts", "_law_ends", "_law_loops"] vJ := by
 refine F.okx sc_L_outs_of ?_ ?_
 ·walk_at "i"
 walk_at "j"
 obtain ⟨c, n, L, E, B, es, ks, bvs, bs, rfl, hn, nEB, nEL, nBL, hE, hB, hL, hR, le, lk0, lb, k⟩ := h
 walk_at "T"
 refine ⟨_, (zh (zO 5 sc_L_outs_of.nd (zz zb))  (qc (qy qR rfl (vw (za (pv 1) zb)) (pg_n 6 sc_L_outs_of.nd)  (zf (zw (PW.pt (pw_and (zj xk (zA zD zC (za (pv 4) zb)) zd (zl _)) (pw_and1 (zj (zK hr.units1) (zi zL (zi zM (pv 0) (zi zB zd (zi jA zd (pv 6)))) zd) zd (zl _)))))  (zf (zv (zW PySem.F.plainAttrs_list PySem.F.slot_list_append PySem.F.type_list_append zF (pv 5) (za (zW PySem.F.plainAttrs_list PySem.F.slot_list_pop PySem.F.type_list_pop jC (pv 4) (za (zi zL (zi zM (pv 0) zd) (zA zD zC (za (pv 4) zb))) zb)) zb))))  (zh (zv (zW PySem.F.plainAttrs_list PySem.F.slot_list_append PySem.F.type_list_append zF (pv 2) (za (qo (za (zi zB zd (zi zL (zi zM (pv 0) (zi zB zd (zi jA zd (pv 6)))) zd)) (za (zi zB zd (zi zL (zi zM (pv 0) (zi zB zd (pv 6))) zd)) zb))) zb)))  (zh (zv (zW PySem.F.plainAttrs_list PySem.F.slot_list_append PySem.F.type_list_append zF (pv 3) (za (zi qS (zA zD zC (za (pv 2) zb)) zd) zb)))  (zf (zv (zW PySem.F.plainAttrs_list PySem.F.slot_list_append PySem.F.type_list_append zF (pv 5) (za (zi qS (zA zD zC (za (pv 2) zb)) zd) zb)))))))))  (qc (zw (zj (zK hr.units1) (zi zL (zi zM (pv 0) zd) zd) zd (zl _))  (zf (zv (Zo PySem.F.plainAttrs_list PySem.F.slot_list_reverse PySem.F.type_list_reverse jZ (pv 5))))  zk)  (zf (zo (pv 5)))))), ?_⟩
 walk_at "go"
 intro O hO
 have W0 : OS H (upd H O (.lst [])) L E B O bs es ks [] := by
  have s := ze (o := .lst []) hO
  refine ⟨s.fr, hO, nEB, nEL, nBL, (ne_of_none hE hO).symm, (ne_of_none hB hO).symm, (ne_of_none hL hO).symm, upd_same, s _ _ hE, s _ _ hB, bvs, s _ _ hL, (hR.more (ns := [E, B, L, O]) ?_).same s⟩
  intro b hb
  simp only [List.mem_cons, List.not_mem_nil, or_false] at hb ⊢
  rcases hb with rfl | rfl | rfl | rfl
  ·exact .inl (.inl rfl)
  ·exact .inl (.inr (.inl rfl))
  ·exact .inl (.inr (.inr rfl))
  ·exact .inr hO
 generalize upd H O (.lst []) = H1 at W0 ⊢
 walk_at "go"
 refine cut (fun σ' H' => ∃ v6 es' ks' bs' outs, σ' = [some (.int c), some (.int n), some (.ref L), some (.ref E), some (.ref B), some (.ref O), v6] ∧ OS H H' L E B O bs' es' ks' outs ∧ qU n es ks bs outs es' ks' bs') ?_ ?_
 ·walk_at "for"
  walk_at "go"
  refine ⟨by omega, by omega, ?_⟩
  refine ZR (n := (n : Int).toNat) (fun i σ' H' => ∃ v6 es' ks' bs' outs, σ' = [some (.int c), some (.int n), some (.ref L), some (.ref E), some (.ref B), some (.ref O), v6] ∧ OS H H' L E B O bs' es' ks' outs ∧ qU i es ks bs outs es' ks' bs')
   ⟨_, es, ks, bs, [], rfl, W0, xj⟩ ?_ ?_
  ·clear W0
   rintro i σ' H' hi ⟨v6, es', ks', bs', outs, rfl, W, hO'⟩
   have hi : i < n := by simpa using hi
   have ln := hO'.1
   have lk := hO'.2.1
   obtain ⟨nb, e1, e2, _, pp⟩ := hO'.2.2
   have pl := pp.length_eq
   rw [List.length_append, List.length_append, xg] at pl
   have le' : es'.length ≤ es.length + 4 := by rw [e1, List.length_append, xg]; omega
   have lb' : bs'.length ≤ bs.length + 4 := by rw [e2, List.length_append]; omega
   clear pl e1 e2 pp
   walk_at "go"
   simp only [Int.zero_add]
   refine ⟨_, .inl ⟨_, SqL.of W.hB, rfl⟩, ?_⟩
   walk_at "go"
   rw [zm]
   refine iteAnd2 (fun _ => ⟨mul_okL (by decide) (by decide), fd_small (by omega) (by omega)⟩) (fun b1 _ => ?_) ?_
   ·refine ⟨.inl ⟨rfl, _, SqL.of W.hO⟩, .inl ⟨rfl, _, SqL.of W.hB⟩, fd_ok (by decide) (by decide +kernel), m_len, _, .inl ⟨_, SqL.of W.hB, rfl⟩, ?_⟩
    rw [zm]
    have v0 := Int.emod_nonneg (c / 5) (show (ks'.length : Int) ≠ 0 by omega)
    have v1 := Int.emod_lt_of_pos (c / 5) b1
    refine ⟨b1, ?_⟩
    generalize c / 5 % (ks'.length : Int) = jj at v0 v1 ⊢
    obtain ⟨y, hy⟩ : ∃ y, ks'[jj.toNat]? = some y := ⟨ks'[jj.toNat]'(by omega), List.getElem?_eq_getElem _⟩
    refine ⟨B, iv ks', jj, jj.toNat, .int y, rfl, rfl, W.hB, by omega, by omega, jx v0 (by rw [zm]; exact v1), wD hy, ?_⟩
    rw [jF]
    have W1 := W.setB (ks'.eraseIdx jj.toNat)
    refine ⟨O, iv outs, _, rfl, rfl, W1.hO, zq (by rw [zm]; omega), ?_⟩
    rw [qA]
    exact ⟨_, es', _, bs', _, rfl, W1.setO (outs ++ [y]), ZJ hO' hy⟩
   ·walk_at "go"
    obtain ⟨bv0, hL0, rL0⟩ := W.hL
    refine ⟨.inl ⟨rfl, _, SqL.of hL0⟩, mul_okL (by decide) (by decide), fd_small (by omega) (by omega), fd_small (by omega) (by omega), fun t ht => ?_⟩
    have z0 := Int.emod_nonneg (c.fdiv (11 + 4 * (i : Int))) (show (6 : Int) ≠ 0 by decide)
    have z1 := Int.emod_lt_of_pos (c.fdiv (11 + 4 * (i : Int))) (show (0 : Int) < 6 by decide)
    have z2 := Int.emod_nonneg (c.fdiv (3 + (i : Int))) (show (4 : Int) ≠ 0 by decide)
    have z3 := Int.emod_lt_of_pos (c.fdiv (3 + (i : Int))) (show (0 : Int) < 4 by decide)
    obtain ⟨bv, hL1, lv, W1⟩ := W.addL (rm := 1 + c.fdiv (11 + 4 * (i : Int)) % 6) (pc := 1 + c.fdiv (3 + (i : Int)) % 4) ht
    have hO2 := outs_new (b := (1 + c.fdiv (11 + 4 * (i : Int)) % 6, 1 + c.fdiv (3 + (i : Int)) % 4)) hO' ⟨by omega, by omega, by omega, by omega⟩
    refine ⟨L, bv, _, rfl, rfl, hL1, zq (by omega), ?_⟩
    have lb2 : (bs' ++ [(1 + c.fdiv (11 + 4 * (i : Int)) % 6, 1 + c.fdiv (3 + (i : Int)) % 4)]).length = bs'.length + 1 := by simp
    generalize bs' ++ [(1 + c.fdiv (11 + 4 * (i : Int)) % 6, 1 + c.fdiv (3 + (i : Int)) % 4)] = bs2 at W1 hO2 lb2
    generalize upd (upd H' t _) L _ = H2 at W1 ⊢
    clear W hL0 rL0 hL1 lv z0 z1 z2 z3 ht
    obtain ⟨bv2, hL2, rL2⟩ := W1.hL
    have lv2 : bv2.length = bs2.length := by rw [rL2.len, List.length_map]
    walk_at "go"
    refine ⟨.inl ⟨rfl, _, SqL.of W1.hE⟩, m_len, _, .inl ⟨_, SqL.of hL2, rfl⟩, E, _, _, rfl, rfl, W1.hE, zq (by rw [zm]; omega), ?_⟩
    rw [qA, lv2, show ((bs2.length : Nat) : Int) - 1 = (bs'.length : Int) by omega]
    have W2 := W1.setE (es' ++ [(bs'.length : Int)])
    generalize upd H2 E _ = H3 at W2 ⊢
    obtain ⟨bv3, hL3, rL3⟩ := W2.hL
    have lv3 : bv3.length = bs2.length := by rw [rL3.len, List.length_map]
    walk_at "go"
    refine ⟨.inl ⟨rfl, _, SqL.of W2.hO⟩, m_len, _, .inl ⟨_, SqL.of hL3, rfl⟩, O, _, _, rfl, rfl, W2.hO, zq (by rw [zm]; omega), ?_⟩
    rw [qA, lv3, show ((bs2.length : Nat) : Int) - 1 = (bs'.length : Int) by omega]
    exact ⟨_, _, ks', bs2, _, rfl, W2.setO _, hO2⟩
  ·rintro σ' H' ⟨v6, es', ks', bs', outs, rfl, W, hO'⟩
   exact ⟨v6, es', ks', bs', outs, rfl, W, by simpa using hO'⟩
 rintro σ' H' ⟨v6, es', ks', bs', outs, rfl, W, hO'⟩
 walk_at "go"
 refine cut (fun σ' H' => ∃ outs, σ' = [some (.int c), some (.int n), some (.ref L), some (.ref E), some (.ref B), some (.ref O), v6] ∧ OS H H' L E B O bs' es' ks' outs ∧ qU n es ks bs outs es' ks' bs') ?_ ?_
 ·walk_at "go"
  walk_at "sds"
  walk_at "go"
  refine ite2 (fun b => ?_) (fun b => ⟨outs, W, hO'⟩)
  walk_at "go"
  refine ⟨.inl ⟨rfl, _, SqL.of W.hO⟩, O, _, rfl, rfl, W.hO, ?_⟩
  rw [Zr]
  exact ⟨outs.reverse, W.setO _, outs_rev hO'⟩
 rintro σ' H2 ⟨outs, rfl, W, hO'⟩
 walk_at "go"
 exact k _ O es' ks' bs' outs W hO'
theorem jI (T : Txt K mg a) : Cal P w K mg base "_law_outs_of" 1 ["_law_cell", "_law_many", "_law_belts", "_law_ends", "_law_loops"] [] vJ := T.h_L_outs_of.cal (ok_L_outs_of T)
def z6 (r : Row) : List Int := match r.wd with
 | .source => r.pace :: r.kinds
 | .drain => [r.pace]
 | .sieve => r.kinds
 | _ => []
def qY (r : Row) : D := .tup [.str (wdS r.wd), .ints r.ins, .ints r.outs, .ints (z6 r)]
theorem jh {H : Hp} {p : Addr → Prop} {t l1 l2 l3 : Addr} {r : Row} (nt : p t) (n1 : p l1) (n2 : p l2) (n3 : p l3) (ht : H t = some (.tup [.str (wdS r.wd), .ref l1, .ref l2, .ref l3])) (h1 : H l1 = some (.lst (iv r.ins))) (h2 : H l2 = some (.lst (iv r.outs))) (h3 : H l3 = some (.lst (iv (z6 r)))) : Rep H p (.ref t) (qY r) :=
 Reps.mkT (.cons .str (.cons (zY n1 h1) (.cons (zY n2 h2) (.cons (zY n3 h3) .nil)))) nt ht
theorem vV {H : Hp} {t l1 l2 l3 : Addr} (r : Row) (n1 : H l1 = none) (n2 : upd H l1 (.lst (iv r.ins)) l2 = none) (n3 : upd (upd H l1 (.lst (iv r.ins))) l2 (.lst (iv r.outs)) l3 = none) (nt : upd (upd (upd H l1 (.lst (iv r.ins))) l2 (.lst (iv r.outs))) l3 (.lst (iv (z6 r))) t = none) :
  Same H (upd (upd (upd (upd H l1 (.lst (iv r.ins))) l2 (.lst (iv r.outs))) l3 (.lst (iv (z6 r)))) t (.tup [.str (wdS r.wd), .ref l1, .ref l2, .ref l3])) ∧
  ∀ p : Addr → Prop, (∀ b, H b = none → p b) → Rep (upd (upd (upd (upd H l1 (.lst (iv r.ins))) l2 (.lst (iv r.outs))) l3 (.lst (iv (z6 r)))) t (.tup [.str (wdS r.wd), .ref l1, .ref l2, .ref l3])) p (.ref t) (qY r) := by
 have s1 := ze (o := .lst (iv r.ins)) n1
 have s2 := ze (o := .lst (iv r.outs)) n2
 have s3 := ze (o := .lst (iv (z6 r))) n3
 have s4 := ze (o := .tup [.str (wdS r.wd), .ref l1, .ref l2, .ref l3]) nt
 have s12 := s1.trans s2
 have s13 := s12.trans s3
 exact ⟨s13.trans s4, fun p hp => jh (hp _ (zS s13 nt)) (hp _ n1) (hp _ (zS s1 n2)) (hp _ (zS s12 n3)) upd_same (s4 _ _ (s3 _ _ (s2 _ _ upd_same))) (s4 _ _ (s3 _ _ upd_same)) (s4 _ _ upd_same)⟩
structure GS (H0 H : Hp) (L R E B : Addr) (bs : List (Int × Int)) (rs : List Row) (es ks : List Int) : Prop where
 f : Fr (ms4 L R E B) H0 H
 nLR : L ≠ R
 nLE : L ≠ E
 nLB : L ≠ B
 nRE : R ≠ E
 nRB : R ≠ B
 nEB : E ≠ B
 hL : ∃ bvs, H L = some (.lst bvs) ∧ Reps H (Off (ms4 L R E B)) bvs (bs.map js)
 hR : ∃ rvs, H R = some (.lst rvs) ∧ Reps H (Off (ms4 L R E B)) rvs (rs.map qY)
 hE : H E = some (.lst (iv es))
 hB : H B = some (.lst (iv ks))
section
variable {H0 H H' : Hp} {L R E B : Addr} {bs bs' : List (Int × Int)} {rs : List Row} {es ks : List Int}
theorem GS.same (w : GS H0 H L R E B bs rs es ks) (s : Same H H') : GS H0 H' L R E B bs rs es ks := by
 obtain ⟨bvs, h1, r1⟩ := w.hL
 obtain ⟨rvs, h2, r2⟩ := w.hR
 exact { w with f := w.f.trans s.fr, hL := ⟨bvs, s _ _ h1, r1.same s⟩, hR := ⟨rvs, s _ _ h2, r2.same s⟩, hE := s _ _ w.hE, hB := s _ _ w.hB }
theorem GS.off (w : GS H0 H L R E B bs rs es ks) {x : Addr} (h : H x = none) : x ∉ ms4 L R E B := by
 intro z
 simp only [List.mem_cons, List.not_mem_nil, or_false] at z
 obtain ⟨bvs, h1, r1⟩ := w.hL
 obtain ⟨rvs, h2, r2⟩ := w.hR
 rcases z with rfl | rfl | rfl | rfl
 ·rw [h1] at h; cases h
 ·rw [h2] at h; cases h
 ·rw [w.hE] at h; cases h
 ·rw [w.hB] at h; cases h
theorem GS.setE (w : GS H0 H L R E B bs rs es ks) (es' : List Int) : GS H0 (upd H E (.lst (iv es'))) L R E B bs rs es' ks := by
 obtain ⟨bvs, h1, r1⟩ := w.hL
 obtain ⟨rvs, h2, r2⟩ := w.hR
 have f : Fr (ms4 L R E B) H (upd H E (.lst (iv es'))) := qB (by simp)
 exact { w with f := w.f.trans f, hL := ⟨bvs, by rw [upd_ne w.nLE]; exact h1, r1.fr f⟩, hR := ⟨rvs, by rw [upd_ne w.nRE]; exact h2, r2.fr f⟩, hE := upd_same, hB := by rw [upd_ne w.nEB.symm]; exact w.hB }
theorem GS.setB (w : GS H0 H L R E B bs rs es ks) (ks' : List Int) : GS H0 (upd H B (.lst (iv ks'))) L R E B bs rs es ks' := by
 obtain ⟨bvs, h1, r1⟩ := w.hL
 obtain ⟨rvs, h2, r2⟩ := w.hR
 have f : Fr (ms4 L R E B) H (upd H B (.lst (iv ks'))) := qB (by simp)
 exact { w with f := w.f.trans f, hL := ⟨bvs, by rw [upd_ne w.nLB]; exact h1, r1.fr f⟩, hR := ⟨rvs, by rw [upd_ne w.nRB]; exact h2, r2.fr f⟩, hE := by rw [upd_ne w.nEB]; exact w.hE, hB := upd_same }
theorem GS.addL (w : GS H0 H L R E B bs rs es ks) {t : Addr} {rm pc : Int} (ht : H t = none) : ∃ bvs, upd H t (.tup [.int rm, .int pc]) L = some (.lst bvs) ∧ bvs.length = bs.length ∧
  GS H0 (upd (upd H t (.tup [.int rm, .int pc])) L (.lst (bvs ++ [.ref t]))) L R E B (bs ++ [(rm, pc)]) rs es ks := by
 have nt := w.off ht
 have w1 := w.same (ze (o := .tup [.int rm, .int pc]) ht)
 have e1 : upd H t (.tup [.int rm, .int pc]) t = some (.tup [.int rm, .int pc]) := upd_same
 generalize upd H t (.tup [.int rm, .int pc]) = H1 at w1 e1 ⊢
 obtain ⟨bvs, h1, r1⟩ := w1.hL
 obtain ⟨rvs, h2, r2⟩ := w1.hR
 have f : Fr (ms4 L R E B) H1 (upd H1 L (.lst (bvs ++ [.ref t]))) := qB (by simp)
 refine ⟨bvs, h1, by rw [r1.len, List.length_map], { w1 with f := w1.f.trans f, hL := ⟨_, upd_same, ?_⟩, hR := ⟨rvs, by rw [upd_ne w.nLR.symm]; exact h2, r2.fr f⟩, hE := by rw [upd_ne w.nLE.symm]; exact w1.hE, hB := by rw [upd_ne w.nLB.symm]; exact w1.hB }⟩
 rw [List.map_append]
 exact (r1.fr f).append (.one (Reps.mkT (vs := [.int rm, .int pc]) (.cons .int (.cons .int .nil)) nt (f _ _ nt e1)))
theorem GS.addR (w : GS H0 H L R E B bs rs es ks) {t : Addr} {r : Row} (q : Rep H (Off (ms4 L R E B)) (.ref t) (qY r)) : ∃ rvs, H R = some (.lst rvs) ∧ rvs.length = rs.length ∧ GS H0 (upd H R (.lst (rvs ++ [.ref t]))) L R E B bs (rs ++ [r]) es ks := by
 obtain ⟨bvs, h1, r1⟩ := w.hL
 obtain ⟨rvs, h2, r2⟩ := w.hR
 have f : Fr (ms4 L R E B) H (upd H R (.lst (rvs ++ [.ref t]))) := qB (by simp)
 refine ⟨rvs, h2, by rw [r2.len, List.length_map], { w with f := w.f.trans f, hL := ⟨bvs, by rw [upd_ne w.nLR]; exact h1, r1.fr f⟩, hR := ⟨_, upd_same, ?_⟩, hE := by rw [upd_ne w.nRE.symm]; exact w.hE, hB := by rw [upd_ne w.nRB.symm]; exact w.hB }⟩
 rw [List.map_append]
 exact (r2.fr f).append (.one (q.fr f))
theorem GS.lists (w : GS H0 H L R E B bs rs es ks) : ∀ m ∈ ms4 L R E B, ∃ xs, H m = some (.lst xs) := fun m hm => by
 obtain ⟨bvs, h1, r1⟩ := w.hL
 obtain ⟨rvs, h2, r2⟩ := w.hR
 simp only [List.mem_cons, List.not_mem_nil, or_false] at hm
 rcases hm with rfl | rfl | rfl | rfl
 ·exact ⟨_, h1⟩
 ·exact ⟨_, h2⟩
 ·exact ⟨_, w.hE⟩
 ·exact ⟨_, w.hB⟩
theorem Zs {H H' : Hp} (f : Fr [E, B, L] H H') : Fr (ms4 L R E B) H H' := fun b o nb hb => f b o (fun z => nb (by
 simp only [List.mem_cons, List.not_mem_nil, or_false] at z ⊢
 rcases z with rfl | rfl | rfl <;> simp)) hb
theorem GS.outs (w : GS H0 H L R E B bs rs es ks) {O : Addr} {es' ks' outs : List Int} (W : OS H H' L E B O bs' es' ks' outs) : GS H0 H' L R E B bs' rs es' ks' ∧ O ∉ ms4 L R E B ∧ H' O = some (.lst (iv outs)) := by
 obtain ⟨rvs, h2, r2⟩ := w.hR
 obtain ⟨bvs, h1, r1⟩ := W.hL
 have f : Fr (ms4 L R E B) H H' := Zs W.f
 have hR' := W.f _ _ (show R ∉ [E, B, L] from fun z => by
  simp only [List.mem_cons, List.not_mem_nil, or_false] at z
  rcases z with z | z | z
  ·exact w.nRE z
  ·exact w.nRB z
  ·exact w.nLR z.symm) h2
 have ls : ∀ m ∈ ms4 L R E B, ∃ xs, H' m = some (.lst xs) := fun m hm => by
  simp only [List.mem_cons, List.not_mem_nil, or_false] at hm
  rcases hm with rfl | rfl | rfl | rfl
  ·exact ⟨_, h1⟩
  ·exact ⟨_, hR'⟩
  ·exact ⟨_, W.hE⟩
  ·exact ⟨_, W.hB⟩
 exact ⟨{ w with f := w.f.trans f, hL := ⟨bvs, h1, wZ r1 ls⟩, hR := ⟨rvs, hR', r2.fr f⟩, hE := W.hE, hB := W.hB }, w.off W.nO, W.hO⟩
theorem GS.outs0 (w : GS H0 H L R E B bs rs es ks) {O X : Addr} {es' ks' outs : List Int} (hX : H X = none) (W : OS (upd H X (.lst [])) H' L E X O bs' es' ks' outs) : GS H0 H' L R E B bs' rs es' ks ∧ O ∉ ms4 L R E B ∧ H' O = some (.lst (iv outs)) := by
 obtain ⟨rvs, h2, r2⟩ := w.hR
 obtain ⟨bvs, h1, r1⟩ := W.hL
 have s := ze (o := .lst []) hX
 have nX := w.off hX
 have f : Fr (ms4 L R E B) H H' := fun b o nb hb => W.f b o (fun z => by
  simp only [List.mem_cons, List.not_mem_nil, or_false] at z nb
  rcases z with rfl | rfl | rfl
  ·simp at nb
  ·rw [hb] at hX; cases hX
  ·simp at nb) (s _ _ hb)
 have keep : ∀ {b : Addr} {o : HO}, b ≠ E → b ≠ L → H b = some o → H' b = some o := fun {b o} a1 a2 hb => W.f b o (fun z => by
  simp only [List.mem_cons, List.not_mem_nil, or_false] at z
  rcases z with rfl | rfl | rfl
  ·exact a1 rfl
  ·rw [hb] at hX; cases hX
  ·exact a2 rfl) (s _ _ hb)
 have hR' := keep w.nRE w.nLR.symm h2
 have hB' := keep w.nEB.symm w.nLB.symm w.hB
 have ls : ∀ m ∈ ms4 L R E B, ∃ xs, H' m = some (.lst xs) := fun m hm => by
  simp only [List.mem_cons, List.not_mem_nil, or_false] at hm
  rcases hm with rfl | rfl | rfl | rfl
  ·exact ⟨_, h1⟩
  ·exact ⟨_, hR'⟩
  ·exact ⟨_, W.hE⟩
  ·exact ⟨_, hB'⟩
 exact ⟨{ w with f := w.f.trans f, hL := ⟨bvs, h1, wZ r1 ls⟩, hR := ⟨rvs, hR', r2.fr f⟩, hE := W.hE, hB := hB' }, (w.same s).off W.nO, W.hO⟩
end
theorem xE {n : Nat} {es ks outs es' ks' : List Int} {bs bs' : List (Int × Int)} (h : qU n es ks bs outs es' ks' bs') : ∃ m, es'.length = es.length + m ∧ bs'.length = bs.length + m ∧ n + ks'.length = ks.length + m ∧ ks'.length ≤ ks.length ∧ outs.length = n := by
 obtain ⟨h1, h0, nb, h2, h3, h4, h5⟩ := h
 have pl := h5.length_eq
 rw [List.length_append, List.length_append, xg, h1] at pl
 exact ⟨nb.length, by rw [h2, List.length_append, xg], by rw [h3, List.length_append], pl, h0, h1⟩
theorem outs_own {n : Nat} {es ks outs es' ks' : List Int} {bs bs' : List (Int × Int)} (h : qU n es [] bs outs es' ks' bs') : qU n es ks bs outs es' ks bs' := by
 obtain ⟨h1, h0, nb, h2, h3, h4, h5⟩ := h
 have : ks' = [] := List.length_eq_zero_iff.mp (Nat.le_zero.mp h0)
 subst this
 refine ⟨h1, Nat.le_refl _, nb, h2, h3, h4, ?_⟩
 simp only [List.append_nil, List.nil_append] at h5
 exact (List.Perm.append_right _ h5).trans List.perm_append_comm
theorem WInv.loop {bs : List (Int × Int)} {rs : List Row} {es ks : List Int} {b : Int × Int} (h : WInv bs rs es ks) (hb : qj b.1 b.2) : WInv (bs ++ [b]) rs (es ++ [(bs.length : Int)]) (ks ++ [(bs.length : Int)]) := by
 refine ⟨?_, ?_, h.ro, fun x hx => ?_⟩
 ·rw [List.length_append, List.length_singleton, vN, ← List.append_assoc]
  exact List.Perm.append_right _ h.tk
 ·rw [List.length_append, List.length_singleton, vN, ← List.append_assoc]
  exact List.Perm.append_right _ h.fd
 ·rcases List.mem_append.mp hx with hx | hx
  ·exact h.bo x hx
  ·rw [List.mem_singleton.mp hx]; exact hb
abbrev gPs : List Str := ["_law_cell", "_law_belts", "_law_knots", "_law_ends", "_law_loops"]
def wm : Sp := fun vs H Q _ => ∃ (c : Int) (L R En B : Addr) (bs : List (Int × Int)) (rs : List Row) (es ks : List Int), vs = [.int c, .ref L, .ref R, .ref En, .ref B] ∧ GS H H L R En B bs rs es ks ∧ WInv bs rs es ks ∧ 1 ≤ es.length ∧ (c % 8 = 5 ∨ 2 ≤ es.length) ∧ bs.length ≤ 24 ∧ rs.length + es.length + ks.length ≤ 24 ∧
 ∀ H' bs' rs' es' ks', GS H H' L R En B bs' rs' es' ks' → WInv bs' rs' es' ks' → bs.length ≤ bs'.length → (c % 8 ≠ 5 → bs'.length ≤ bs.length + 1 ∧ rs'.length + es'.length + ks'.length ≤ rs.length + es.length + ks.length) → (c % 8 = 5 → bs'.length ≤ bs.length + 2 ∧ rs'.length + es'.length + ks'.length ≤ rs.length + es.length + ks.length + 2) → Q .non H'
theorem i_spJoined {vs : List V} {H : Hp} {Q : VK} {E : XK} (c : Int) (L R En B : Addr) (bs : List (Int × Int)) (rs : List Row) (es ks : List Int) (q0 : vs = [.int c, .ref L, .ref R, .ref En, .ref B]) (q1 : GS H H L R En B bs rs es ks) (q2 : WInv bs rs es ks) (q3 : 1 ≤ es.length) (q4 : (c % 8 = 5 ∨ 2 ≤ es.length)) (q5 : bs.length ≤ 24) (q6 : rs.length + es.length + ks.length ≤ 24) (q7 : ∀ H' bs' rs' es' ks', GS H H' L R En B bs' rs' es' ks' → WInv bs' rs' es' ks' → bs.length ≤ bs'.length → (c % 8 ≠ 5 → bs'.length ≤ bs.length + 1 ∧ rs'.length + es'.length + ks'.length ≤ rs.length + es.length + ks.length) → (c % 8 = 5 → bs'.length ≤ bs.length + 2 ∧ rs'.length + es'.length + ks'.length ≤ rs.length + es.length + ks.length + 2) → Q .non H') : wm vs H Q E := ⟨c, L, R, En, B, bs, rs, es, ks, q0, q1, q2, q3, q4, q5, q6, q7⟩
theorem ok_L_joined (T : Txt K mg a) (F : Fun K "_law_joined" "_law_joined" s_L_joined f fd) : FnOk P w K mg base (CXr P w) 2 f fd gPs wm := by
 refine F.okx sc_L_joined ?_ ?_
 ·walk_at "i"
 walk_at "j"
 obtain ⟨c, L, R, E, B, bs, rs, es, ks, rfl, W, I0, e1, e2, b24, l24, k⟩ := h
 walk_at "T"
 refine ⟨_, (zh (zO 5 sc_L_joined.nd (zz (za (zW PySem.F.plainAttrs_list PySem.F.slot_list_pop PySem.F.type_list_pop jC (pv 3) (za (zi zL (zi zM (pv 0) zd) (zA zD zC (za (pv 3) zb))) zb)) zb)))  (qc (zw (zj (zK hr.units1) (zi zL (pv 0) zd) zd (zl _))  (zh (zv (zW PySem.F.plainAttrs_list PySem.F.slot_list_append PySem.F.type_list_append zF (pv 1) (za (qo (za (zi zB zd (zi zL (zi zM (pv 0) zd) zd)) (za (zi zB zd (zi zL (zi zM (pv 0) zd) zd)) zb))) zb)))  (zh (zv (zW PySem.F.plainAttrs_list PySem.F.slot_list_append PySem.F.type_list_append zF (pv 4) (za (zi qS (zA zD zC (za (pv 1) zb)) zd) zb)))  (zf (zv (zW PySem.F.plainAttrs_list PySem.F.slot_list_append PySem.F.type_list_append zF (pv 5) (za (zi qS (zA zD zC (za (pv 1) zb)) zd) zb))))))  (zf (qy qR rfl (vw (za (zi zB zd (zi zL (zi zM (pv 0) zd) zd)) zb)) (pg_n 6 sc_L_joined.nd)  (zf (zw (zj xk (zA zD zC (za (pv 3) zb)) zd (zl _))  (zf (zv (zW PySem.F.plainAttrs_list PySem.F.slot_list_append PySem.F.type_list_append zF (pv 5) (za (zW PySem.F.plainAttrs_list PySem.F.slot_list_pop PySem.F.type_list_pop jC (pv 3) (za (zi zL (zi zM (pv 0) (zi zB zd (pv 6))) (zA zD zC (za (pv 3) zb))) zb)) zb))))  zk)))))  (qc (zw (zj (zK hr.units1) (zi zL (zi zM (pv 0) zd) zd) zd (zl _))  (zf (zv (Zo PySem.F.plainAttrs_list PySem.F.slot_list_reverse PySem.F.type_list_reverse jZ (pv 5))))  zk)  (zf (zv (zW PySem.F.plainAttrs_list PySem.F.slot_list_append PySem.F.type_list_append zF (pv 2) (za (qo (za zu (za (pv 5) (za (zH ⟨rfl, rfl, rfl⟩ hr (za (pv 0) (za zd (za (pv 1) (za (pv 3) (za (pv 4) zb)))))) (za (zz zb) zb))))) zb))))))), ?_⟩
 walk_at "go"
 refine ⟨.inl ⟨rfl, _, SqL.of W.hE⟩, fd_ok (by decide) (by decide +kernel), m_len, _, .inl ⟨_, SqL.of W.hE, rfl⟩, ?_⟩
 rw [zm]
 have el : (0 : Int) < es.length := by omega
 refine ⟨el, ?_⟩
 have v0 := Int.emod_nonneg (c / 9) (show (es.length : Int) ≠ 0 by omega)
 have v1 := Int.emod_lt_of_pos (c / 9) el
 generalize c / 9 % (es.length : Int) = jj at v0 v1 ⊢
 obtain ⟨y, hy⟩ : ∃ y, es[jj.toNat]? = some y := ⟨es[jj.toNat]'(by omega), List.getElem?_eq_getElem _⟩
 refine ⟨E, iv es, jj, jj.toNat, .int y, rfl, rfl, W.hE, by omega, by omega, jx v0 (by rw [zm]; exact v1), wD hy, ?_⟩
 rw [jF]
 have W1 := W.setE (es.eraseIdx jj.toNat)
 have pp := jg hy
 have pl := pp.length_eq
 rw [List.length_cons] at pl
 generalize upd H E (.lst (iv (es.eraseIdx jj.toNat))) = H1 at W1 ⊢
 generalize es.eraseIdx jj.toNat = es1 at pp pl W1 ⊢
 intro I hI
 have nI := W1.off hI
 have W2 : GS H (del (upd H1 I (.lst [.int y])) I) L R E B bs rs es1 ks := by rw [del_new hI]; exact W1
 have hI2 : upd H1 I (.lst [.int y]) I = some (.lst (iv [y])) := upd_same
 have nIE : E ≠ I := fun z => nI (by rw [← z]; simp)
 have nIL : L ≠ I := fun z => nI (by rw [← z]; simp)
 have nIB : B ≠ I := fun z => nI (by rw [← z]; simp)
 have nIR : R ≠ I := fun z => nI (by rw [← z]; simp)
 generalize upd H1 I (.lst [.int y]) = H2 at W2 hI2 ⊢
 clear hI W1
 walk_at "go"
 refine cut (fun σ' H' => ∃ v6 bs1 ins es2 ks2, ∃ esV : List Int, σ' = [some (.int c), some (.ref L), some (.ref R), some (.ref E), some (.ref B), some (.ref I), v6] ∧ GS H (del H' I) L R E B bs1 rs es2 ks2 ∧ H' I = some (.lst (iv ins)) ∧ WInv bs1 rs esV ks2 ∧ (ins ++ es2).Perm esV ∧ 2 ≤ ins.length ∧ ins.length ≤ 4 ∧
  (c % 8 ≠ 5 → bs1.length = bs.length ∧ esV.length = es.length ∧ ks2.length = ks.length) ∧ (c % 8 = 5 → bs1.length = bs.length + 1 ∧ esV.length = es.length + 1 ∧ ks2.length = ks.length + 1)) ?_ ?_
 ·walk_at "go"
  refine ite2 (fun b => ?_) (fun b => ?_)
  ·walk_at "go"
   obtain ⟨bv0, hL0, rL0⟩ := W2.hL
   refine ⟨.inl ⟨rfl, _, SqL.of (qI _ _ hL0)⟩, fd_ok (by decide) (by decide +kernel), fd_ok (by decide) (by decide +kernel), fun t ht => ?_⟩
   have z0 := Int.emod_nonneg (c / 17) (show (6 : Int) ≠ 0 by decide)
   have z1 := Int.emod_lt_of_pos (c / 17) (show (0 : Int) < 6 by decide)
   have z2 := Int.emod_nonneg (c / 19) (show (4 : Int) ≠ 0 by decide)
   have z3 := Int.emod_lt_of_pos (c / 19) (show (0 : Int) < 4 by decide)
   have nT : t ≠ I := (ne_of_none hI2 ht).symm
   obtain ⟨bv, hL1, lv, W3⟩ := W2.addL (t := t) (rm := 1 + c / 17 % 6) (pc := 1 + c / 19 % 4) (by rw [Zu nT]; exact ht)
   rw [← wK nT, ← wK nIL] at W3
   have I1 := I0.loop (b := (1 + c / 17 % 6, 1 + c / 19 % 4)) ⟨by omega, by omega, by omega, by omega⟩
   rw [← wK nT] at hL1
   refine ⟨L, bv, _, rfl, rfl, qI _ _ hL1, zq (by omega), ?_⟩
   have hI3 : upd (upd H2 t (.tup [.int (1 + c / 17 % 6), .int (1 + c / 19 % 4)])) L (.lst (bv ++ [.ref t])) I = some (.lst (iv [y])) := by rw [upd_ne nIL.symm, upd_ne nT.symm]; exact hI2
   generalize upd (upd H2 t _) L _ = H3 at W3 hI3 ⊢
   have lb2 : (bs ++ [(1 + c / 17 % 6, 1 + c / 19 % 4)]).length = bs.length + 1 := by simp
   generalize bs ++ [(1 + c / 17 % 6, 1 + c / 19 % 4)] = bs2 at W3 I1 lb2
   clear W2 hL0 rL0 hL1 lv z0 z1 z2 z3 ht hI2
   obtain ⟨bv2, hL2, rL2⟩ := W3.hL
   have lv2 : bv2.length = bs2.length := by rw [rL2.len, List.length_map]
   walk_at "go"
   refine ⟨.inl ⟨rfl, _, SqL.of (qI _ _ W3.hB)⟩, m_len, _, .inl ⟨_, SqL.of (qI _ _ hL2), rfl⟩, B, _, _, rfl, rfl, qI _ _ W3.hB, zq (by rw [zm]; omega), ?_⟩
   rw [qA, lv2, show ((bs2.length : Nat) : Int) - 1 = (bs.length : Int) by omega]
   have W4 := W3.setB (ks ++ [(bs.length : Int)])
   rw [← wK nIB] at W4
   have hI4 : upd H3 B (.lst (iv (ks ++ [(bs.length : Int)]))) I = some (.lst (iv [y])) := by rw [upd_ne nIB.symm]; exact hI3
   generalize upd H3 B _ = H4 at W4 hI4 ⊢
   obtain ⟨bv3, hL3, rL3⟩ := W4.hL
   have lv3 : bv3.length = bs2.length := by rw [rL3.len, List.length_map]
   walk_at "go"
   refine ⟨.inl ⟨rfl, _, SqL.of hI4⟩, m_len, _, .inl ⟨_, SqL.of (qI _ _ hL3), rfl⟩, I, _, _, rfl, rfl, hI4, zq (by rw [zm]; show 1 ≤ 1000; decide), ?_⟩
   rw [qA, lv3, show ((bs2.length : Nat) : Int) - 1 = (bs.length : Int) by omega]
   refine ⟨_, bs2, [y] ++ [(bs.length : Int)], es1, _, _, rfl, by rw [Zt]; exact W4, upd_same, I1, ?_, by simp, by simp, fun z => absurd b z, fun _ => ⟨lb2, by simp, by simp⟩⟩
   rw [List.append_assoc]
   exact (List.Perm.append_left [y] List.perm_append_comm).trans (List.Perm.append_right _ pp)
  ·walk_at "go"
   walk_at "for"
   walk_at "go"
   have z0 := Int.emod_nonneg (c / 8) (show (3 : Int) ≠ 0 by decide)
   have z1 := Int.emod_lt_of_pos (c / 8) (show (0 : Int) < 3 by decide)
   generalize c / 8 % 3 = mm at z0 z1 ⊢
   refine ⟨fd_ok (by decide) (by decide +kernel), by omega, by omega, ?_⟩
   have e2 : 2 ≤ es.length := e2.resolve_left b
   refine ZR (n := (1 + mm).toNat) (fun i σ' H' => ∃ v6 ins es2, σ' = [some (.int c), some (.ref L), some (.ref R), some (.ref E), some (.ref B), some (.ref I), v6] ∧ GS H (del H' I) L R E B bs rs es2 ks ∧ H' I = some (.lst (iv ins)) ∧ (ins ++ es2).Perm es ∧ 1 ≤ ins.length ∧ ins.length ≤ 1 + i ∧ (1 ≤ i → 2 ≤ ins.length)) ⟨_, [y], es1, rfl, W2, hI2, pp, Nat.le_refl _, Nat.le_refl _, fun z => absurd z (by decide)⟩ ?_ ?_
   ·clear W2 hI2 pp pl
    rintro i σ' H3 hi ⟨v6, ins, es2, rfl, W3, hI3, p3, i1, ii, i2⟩
    have pl := p3.length_eq
    rw [List.length_append] at pl
    have hE3 := qI _ _ W3.hE
    walk_at "go"
    simp only [Int.zero_add]
    refine ⟨_, .inl ⟨_, SqL.of hE3, rfl⟩, ?_⟩
    rw [zm]
    refine ite2 (fun q => ?_) (fun q => ⟨_, ins, es2, rfl, W3, hI3, p3, i1, by omega, fun _ => by omega⟩)
    refine ⟨.inl ⟨rfl, _, SqL.of hI3⟩, .inl ⟨rfl, _, SqL.of hE3⟩, fd_small (by omega) (by omega), m_len, _, .inl ⟨_, SqL.of hE3, rfl⟩, ?_⟩
    rw [zm]
    refine ⟨q, ?_⟩
    have v0 := Int.emod_nonneg (c.fdiv (10 + (i : Int))) (show (es2.length : Int) ≠ 0 by omega)
    have v1 := Int.emod_lt_of_pos (c.fdiv (10 + (i : Int))) q
    generalize c.fdiv (10 + (i : Int)) % (es2.length : Int) = jj at v0 v1 ⊢
    obtain ⟨y2, hy⟩ : ∃ y, es2[jj.toNat]? = some y := ⟨es2[jj.toNat]'(by omega), List.getElem?_eq_getElem _⟩
    refine ⟨E, iv es2, jj, jj.toNat, .int y2, rfl, rfl, hE3, by omega, by omega, jx v0 (by rw [zm]; exact v1), wD hy, ?_⟩
    rw [jF]
    have W5 := W3.setE (es2.eraseIdx jj.toNat)
    rw [← wK nIE] at W5
    have p5 := jg hy
    have hI5 : upd H3 E (.lst (iv (es2.eraseIdx jj.toNat))) I = some (.lst (iv ins)) := by rw [upd_ne nIE.symm]; exact hI3
    generalize upd H3 E (.lst (iv (es2.eraseIdx jj.toNat))) = H4 at W5 hI5 ⊢
    generalize es2.eraseIdx jj.toNat = es3 at p5 W5 ⊢
    refine ⟨I, _, _, rfl, rfl, hI5, zq (by rw [zm]; omega), ?_⟩
    rw [qA]
    refine ⟨_, ins ++ [y2], es3, rfl, by rw [Zt]; exact W5, upd_same, ?_, by simp, by simp; omega, fun _ => by simp; omega⟩
    rw [List.append_assoc]
    exact (List.Perm.append_left _ p5).trans p3
   ·rintro σ' H3 ⟨v6, ins, es2, rfl, W3, hI3, p3, i1, ii, i2⟩
    exact ⟨v6, bs, ins, es2, ks, es, rfl, W3, hI3, I0, p3, i2 (by omega), by omega, fun _ => ⟨rfl, rfl, rfl⟩, fun z => absurd z b⟩
 rintro σ' H3 ⟨v6, bs1, ins, es2, ks2, esV, rfl, W3, hI3, I3, p3, i2, i4, q1, q2⟩
 clear W2 hI2 pp pl W
 walk_at "go"
 refine cut (fun σ' H' => ∃ ins, σ' = [some (.int c), some (.ref L), some (.ref R), some (.ref E), some (.ref B), some (.ref I), v6] ∧ GS H (del H' I) L R E B bs1 rs es2 ks2 ∧ H' I = some (.lst (iv ins)) ∧ (ins ++ es2).Perm esV ∧ 2 ≤ ins.length ∧ ins.length ≤ 4) ?_ ?_
 ·walk_at "go"
  walk_at "sds"
  walk_at "go"
  refine ite2 (fun b => ?_) (fun b => ⟨ins, W3, hI3, p3, i2, i4⟩)
  walk_at "go"
  refine ⟨.inl ⟨rfl, _, SqL.of hI3⟩, I, _, rfl, rfl, hI3, ?_⟩
  rw [Zr]
  exact ⟨ins.reverse, by rw [Zt]; exact W3, upd_same, (List.Perm.append_right _ (List.reverse_perm _)).trans p3, by rw [List.length_reverse]; exact i2, by rw [List.length_reverse]; exact i4⟩
 clear W3 hI3 p3 i2 i4
 rintro σ' H4 ⟨ins, rfl, W3, hI3, p3, i2, i4⟩
 have pl := p3.length_eq
 rw [List.length_append] at pl
 have W4 := W3.same qI
 obtain ⟨bv, hL4, rL4⟩ := W4.hL
 obtain ⟨rv, hR4, rR4⟩ := W4.hR
 have nE : 1 ≤ es.length := e1
 walk_at "go"
 refine ⟨.inl ⟨rfl, _, SqL.of hR4⟩, _, _, _, (jI T).mono, ?_⟩
 refine ⟨c, 1, L, E, B, es2, ks2, bv, bs1, rfl, by decide, W4.nEB, W4.nLE.symm, W4.nLB.symm, W4.hE, W4.hB, hL4, rL4.more (by intro b hb; left; simp only [List.mem_cons, List.not_mem_nil, or_false] at hb ⊢; rcases hb with h | h | h <;> simp [h]), by omega, by omega, by omega, ?_⟩
 intro H5 O es5 ks5 bs5 outs WO oR
 obtain ⟨W5, nO, hO5⟩ := W4.outs WO
 have hI5 : H5 I = some (.lst (iv ins)) := Zs (R := R) WO.f _ _ nI hI3
 obtain ⟨m, n1, n2, n3, n4, n5⟩ := xE oR
 intro p hp t ht
 have s6 := (ze (o := .lst []) hp).trans (ze (o := .tup [.str "joiner", .ref I, .ref O, .ref p]) ht)
 have W6 := W5.same s6
 have q := jh (p := Off (ms4 L R E B)) (r := ⟨.joiner, ins, outs, 0, []⟩) (W5.off (zp ht)) nI nO (W5.off hp) (upd_same (H := upd H5 p (.lst []))) (s6 _ _ hI5) (s6 _ _ hO5) (upd_keep upd_same ht)
 obtain ⟨rv6, hR6, lr6, W7⟩ := W6.addR q
 refine ⟨R, rv6, _, rfl, rfl, hR6, zq (by omega), k _ bs5 _ es5 ks5 W7 (jc (r := ⟨.joiner, ins, outs, 0, []⟩) I3 p3 oR ⟨List.length_eq_one_iff.mp n5, i2, i4⟩) ?_ (fun z => ?_) (fun z => ?_)⟩
 ·by_cases z : c % 8 = 5
  ·have := q2 z; omega
  ·have := q1 z; omega
 ·have := q1 z
  rw [List.length_append, List.length_singleton]
  omega
 ·have := q2 z
  rw [List.length_append, List.length_singleton]
  omega
theorem c_L_joined (T : Txt K mg a) : Cal P w K mg base "_law_joined" 2 gPs [] wm := T.h_L_joined.cal (ok_L_joined T)
theorem ite_or1 {A C P G : Prop} [Decidable A] (p : A ∨ C → P) (g : ¬ A → (C → P) → G) : if A then P else G := by
 by_cases a : A
 ·rw [if_pos a]; exact p (.inl a)
 ·rw [if_neg a]; exact g a fun c => p (.inr c)
theorem ways45 {A D A2 B2 D2 P Z m : Prop} {B L : Nat → Prop} [Decidable A] [∀ n, Decidable (B n)] [Decidable D] [Decidable A2] [Decidable B2] [Decidable D2] (hm : m) (n : Nat) (hl : L n) (p : (A ∧ B n ∧ D) ∨ (A2 ∧ B2 ∧ D2) → P) (z : Z) :
  if A then m ∧ ∃ n, L n ∧ (if B n then (if D then P else if A2 then (if B2 then (if D2 then P else Z) else Z) else Z) else if A2 then (if B2 then (if D2 then P else Z) else Z) else Z) else if A2 then (if B2 then (if D2 then P else Z) else Z) else Z := by
 have y : if A2 then (if B2 then (if D2 then P else Z) else Z) else Z := by
  by_cases a : A2
  ·rw [if_pos a]
   by_cases b : B2
   ·rw [if_pos b]
    by_cases d : D2
    ·rw [if_pos d]; exact p (.inr ⟨a, b, d⟩)
    ·rw [if_neg d]; exact z
   ·rw [if_neg b]; exact z
  ·rw [if_neg a]; exact z
 by_cases a : A
 ·rw [if_pos a]
  refine ⟨hm, n, hl, ?_⟩
  by_cases b : B n
  ·rw [if_pos b]
   by_cases d : D
   ·rw [if_pos d]; exact p (.inl ⟨a, b, d⟩)
   ·rw [if_neg d]; exact y
  ·rw [if_neg b]; exact y
 ·rw [if_neg a]; exact y
def Z2 : Sp := fun vs H Q _ => ∃ (c : Int) (L R En B : Addr) (bs : List (Int × Int)) (rs : List Row) (es ks : List Int), vs = [.int c, .ref L, .ref R, .ref En, .ref B] ∧ GS H H L R En B bs rs es ks ∧ WInv bs rs es ks ∧ bs.length ≤ 24 ∧ rs.length + es.length + ks.length ≤ 24 ∧
 ∀ H' bs' rs' es' ks', GS H H' L R En B bs' rs' es' ks' → WInv bs' rs' es' ks' → bs'.length ≤ 24 → rs'.length + es'.length + ks'.length ≤ 24 → bs.length ≤ bs'.length → (rs.length + es.length + ks.length = 0 → bs.length = 0 → 1 ≤ bs'.length) → Q .non H'
theorem ok_L_step (T : Txt K mg a) (F : Fun K "_law_step" "_law_step" s_L_step f fd) : FnOk P w K mg base (CXr P w) 3 f fd gPs Z2 := by
 refine F.okx sc_L_step ?_ ?_
 ·walk_at "i"
 walk_at "j"
 obtain ⟨c, L, R, E, B, bs, rs, es, ks, rfl, W, I0, b24, l24, k⟩ := h
 obtain ⟨bv, hL, rL⟩ := W.hL
 obtain ⟨rv, hR, rR⟩ := W.hR
 have lL : bv.length = bs.length := by rw [rL.len, List.length_map]
 have lR : rv.length = rs.length := by rw [rR.len, List.length_map]
 walk_at "T"
 refine ⟨_, (zh (zO 5 sc_L_step.nd (zi qS (zi qS (zi qS zd (zA zD zC (za (pv 2) zb))) (zA zD zC (za (pv 3) zb))) (zA zD zC (za (pv 4) zb))))  (zh (zO 6 sc_L_step.nd (zi qS zd (zA zD zC (za (pv 1) zb))))  (zh (zO 7 sc_L_step.nd (zi zL (pv 0) zd))  (zh (zO 8 sc_L_step.nd (zi zB zd (zi zL (zi zM (pv 0) zd) zd)))  (qc (zw (zj (zK hr.units1) (pv 7) zd (zl _))  (zf (zO 8 sc_L_step.nd zd))  zk)  (zf (zw (PW.pt (pw_or (zj (zK hr.units1) (pv 7) zd (zl _)) (pw_or1 (zj (zK hr.units1) (zA zD zC (za (pv 3) zb)) zd (zl _)))))  (zf (zw (PW.pt (pw_and (zj xk (pv 5) zd (zl _)) (pw_and1 (zj xk (pv 6) zd (zl _)))))  (zh (zO 9 sc_L_step.nd (zH ⟨rfl, rfl, rfl⟩ hr (za (pv 0) (za zd (za (pv 1) (za (pv 3) (za (zz zb) zb)))))))  (zf (zv (zW PySem.F.plainAttrs_list PySem.F.slot_list_append PySem.F.type_list_append zF (pv 2) (za (qo (za zu (za (zz zb) (za (pv 9) (za (zi zB (zz (za (zi zB zd (zi zL (zi zM (pv 0) zd) zd)) zb)) (zH ⟨rfl, rfl, rfl⟩ hr (za (zi zM (pv 0) zd) zb))) zb))))) zb)))))  zk))  (zf (zw (PW.pt (pw_or (PW.pt (pw_and (zj (zK hr.units1) (pv 7) zd (zl _)) (pw_and (zj xk (zA zD zC (za (pv 3) zb)) zd (zl _)) (pw_and1 (zj xk (pv 6) zd (zl _)))))) (pw_or1 (PW.pt (pw_and (zj (zK hr.units1) (pv 7) zd (zl _)) (pw_and (zj xk (pv 5) zd (zl _)) (pw_and1 (zj xk (pv 6) zd (zl _)))))))))  (zf (zv (zH ⟨rfl, rfl, rfl⟩ hr (za (pv 0) (za (pv 1) (za (pv 2) (za (pv 3) (za (pv 4) zb))))))))  (zf (zw (zj (zK hr.units1) (pv 7) zd (zl _))  (zf (zv (zW PySem.F.plainAttrs_list PySem.F.slot_list_append PySem.F.type_list_append zF (pv 2) (za (qo (za zu (za (zz (za (zW PySem.F.plainAttrs_list PySem.F.slot_list_pop PySem.F.type_list_pop jC (pv 3) (za (zi zL (zi zM (pv 0) zd) (zA zD zC (za (pv 3) zb))) zb)) zb)) (za (zz zb) (za (zz (za (zi zL (zi zM (pv 0) zd) zd) zb)) zb))))) zb))))  (zf (zw (PW.pt (pw_and (zj og_notin (pv 7) (qo (za zd (za zd zb))) (by with_unfolding_all rfl)) (pw_and (zj jP (pv 5) (pv 8) (zl _)) (pw_and1 (zj jP (pv 6) (pv 8) (zl _))))))  (zh (zO 10 sc_L_step.nd (zz (za (zW PySem.F.plainAttrs_list PySem.F.slot_list_pop PySem.F.type_list_pop jC (pv 3) (za (zi zL (zi zM (pv 0) zd) (zA zD zC (za (pv 3) zb))) zb)) zb)))  (zh (zO 9 sc_L_step.nd (zH ⟨rfl, rfl, rfl⟩ hr (za (pv 0) (za (pv 8) (za (pv 1) (za (pv 3) (za (pv 4) zb)))))))  (zf (zw (zj (zK hr.units1) (pv 7) zd (zl _))  (zf (zv (zW PySem.F.plainAttrs_list PySem.F.slot_list_append PySem.F.type_list_append zF (pv 2) (za (qo (za zu (za (pv 10) (za (pv 9) (za (zz (za (zi zL (zi jA (zi zM (pv 0) zd) zd) (zi vy zd zd)) zb)) zb))))) zb))))  (zf (zw (zj (zK hr.units1) (pv 7) zd (zl _))  (zf (zv (zW PySem.F.plainAttrs_list PySem.F.slot_list_append PySem.F.type_list_append zF (pv 2) (za (qo (za zu (za (pv 10) (za (pv 9) (za (zz zb) zb))))) zb))))  (zf (zv (zW PySem.F.plainAttrs_list PySem.F.slot_list_append PySem.F.type_list_append zF (pv 2) (za (qo (za zu (za (pv 10) (za (pv 9) (za (zz zb) zb))))) zb))))))))))  zk))))))))))))), ?_⟩
 walk_at "go"
 refine ⟨_, .inl ⟨_, SqL.of hR, rfl⟩, m_len, _, .inl ⟨_, SqL.of W.hE, rfl⟩, m_len, _, .inl ⟨_, SqL.of W.hB, rfl⟩, ?_⟩
 rw [lR, zm, zm]
 walk_at "go"
 refine ⟨_, .inl ⟨_, SqL.of hL, rfl⟩, ?_⟩
 rw [lL]
 walk_at "go"
 refine ⟨fd_ok (by decide) (by decide +kernel), ?_⟩
 have z0 := Int.emod_nonneg (c / 8) (show (3 : Int) ≠ 0 by decide)
 have z1 := Int.emod_lt_of_pos (c / 8) (show (0 : Int) < 3 by decide)
 obtain ⟨mn, emn⟩ : ∃ m : Nat, 2 + c / 8 % 3 = (m : Int) := ⟨(2 + c / 8 % 3).toNat, by omega⟩
 rw [emn]
 walk_at "go"
 refine cut (fun σ' H' => ∃ n : Nat, σ' = [some (.int c), some (.ref L), some (.ref R), some (.ref E), some (.ref B), some (.int (24 - rs.length - es.length - ks.length)), some (.int (24 - bs.length)), some (.int (c % 8)), some (.int n), none, none] ∧ H' = H ∧ 2 ≤ n ∧ n ≤ 4 ∧ (c % 8 = 3 → n = 2)) ?_ ?_
 ·walk_at "go"
  refine ite2 (fun b => ?_) (fun b => ?_)
  ·walk_at "go"
   exact ⟨2, rfl, by decide, by decide, fun _ => rfl⟩
  ·exact ⟨mn, rfl, by omega, by omega, fun z => absurd z b⟩
 rintro σ' H' ⟨n, rfl, rfl, n2, n4, n3⟩
 have stay : 1 ≤ rs.length + es.length + ks.length ∨ 1 ≤ bs.length → Q .non H' := fun z => k H' bs rs es ks W I0 b24 l24 (Nat.le_refl _) (fun _ _ => by omega)
 walk_at "go"
 refine ite_or1 (C := es.length = 0) (fun z => ite2 (fun left => ite2 (fun room => ?_) (fun _ => stay (by omega))) (fun _ => stay (by omega))) (fun a0 hp => ⟨m_len, _, .inl ⟨_, SqL.of W.hE, rfl⟩, ?_⟩)
 ·walk_at "go"
  refine uc (jI T).mono (fun X hX => ?_)
  have sX := ze (o := .lst []) hX
  refine ⟨c, 1, L, E, X, es, [], bv, bs, rfl, by decide, ne_of_none W.hE hX, W.nLE.symm, (ne_of_none hL hX).symm, sX _ _ W.hE, upd_same, sX _ _ hL, (rL.more (ns := [E, X, L]) ?_).same sX, by omega, by simp, by omega, ?_⟩
  ·intro b hb
   simp only [List.mem_cons, List.not_mem_nil, or_false] at hb ⊢
   rcases hb with rfl | rfl | rfl
   ·exact .inl (by simp)
   ·exact .inr hX
   ·exact .inl (by simp)
  intro H2 O es2 ks2 bs2 outs WO oR
  obtain ⟨W2, nO, hO2⟩ := W.outs0 hX WO
  have oR := outs_own (ks := ks) oR
  obtain ⟨m, n1, n2', n3', n4', n5⟩ := xE oR
  clear WO sX hX
  obtain ⟨rv2, hR2, rR2⟩ := W2.hR
  walk_at "go"
  refine ⟨.inl ⟨rfl, _, SqL.of hR2⟩, fun p1 h1 => ⟨fd_ok (by decide) (by decide +kernel), fun p2 h2 => ?_⟩⟩
  have u0 := Int.emod_nonneg (c / 8) (show (4 : Int) ≠ 0 by decide)
  have u1 := Int.emod_lt_of_pos (c / 8) (show (0 : Int) < 4 by decide)
  generalize c / 8 % 4 = pc at u0 u1 ⊢
  have s3 := (ze (o := .lst []) h1).trans (ze (o := .lst [.int (1 + pc)]) h2)
  have g1 := upd_keep (o := .lst [.int (1 + pc)]) (upd_same (H := H2) (a := p1) (o := .lst [])) h2
  have g2 : upd (upd H2 p1 (.lst [])) p2 (.lst [.int (1 + pc)]) p2 = some (.lst [.int (1 + pc)]) := upd_same
  generalize upd (upd H2 p1 (.lst [])) p2 (.lst [.int (1 + pc)]) = H3 at s3 g1 g2 ⊢
  refine uc (xv T).mono ⟨fd_ok (by decide) (by decide +kernel), _, rfl, fun KO kd H4 s4 nK hK k1 k6 kk => ?_⟩
  refine qa (SqL.of (s4 _ _ g2)) (SqL.of hK) (z9 (by rw [zm]; simp; omega)) fun q hq => ?_
  intro t ht
  have s6 := (ze (o := .lst ([.int (1 + pc)] ++ iv kd)) hq).trans (ze (o := .tup [.str "source", .ref p1, .ref O, .ref q]) ht)
  have s26 := (s3.trans s4).trans s6
  have W6 := W2.same s26
  have nq := (W2.same (s3.trans s4)).off hq
  have nt := (W2.same (s3.trans s4)).off (zp ht)
  have qq := jh (p := Off (ms4 L R E B)) (r := ⟨.source, [], outs, 1 + pc, kd⟩) nt (W2.off h1) nO nq (upd_same (H := upd H4 q (.lst ([.int (1 + pc)] ++ iv kd)))) (s6 _ _ (s4 _ _ g1)) (s26 _ _ hO2) (upd_keep upd_same ht)
  obtain ⟨rv6, hR6, lr6, W7⟩ := W6.addR qq
  refine ⟨R, rv6, _, rfl, rfl, hR6, zq (by omega), k _ bs2 _ es2 ks W7 (jc (r := ⟨.source, [], outs, 1 + pc, kd⟩) I0 (List.Perm.refl _) oR ⟨rfl, List.length_eq_one_iff.mp n5, by show 1 ≤ 1 + pc; omega, by show 1 + pc ≤ 4; omega, k1, k6, kk⟩) (by omega) ?_ (by omega) (fun _ _ => by omega)⟩
  rw [List.length_append, List.length_singleton]
  omega
 rw [zm]
 refine ite2 (fun q => hp (by omega)) (fun q => ?_)
 clear hp
 have e1 : 1 ≤ es.length := by omega
 refine ways45 m_len _ (.inl ⟨_, SqL.of W.hE, rfl⟩) (fun z => ?_) ?_
 ·walk_at "go"
  refine uc (c_L_joined T).mono (i_spJoined c L R E B bs rs es ks rfl W I0 e1 ?_ b24 l24 (fun H2 bs2 rs2 es2 ks2 W2 I2 lb q1 q2 => k H2 bs2 rs2 es2 ks2 W2 I2 ?_ ?_ lb (fun _ _ => by omega)))
  ·rw [zm] at z; omega
  ·by_cases h5 : c % 8 = 5
   ·have := q2 h5; omega
   ·have := q1 h5; omega
  ·by_cases h5 : c % 8 = 5
   ·have := q2 h5; omega
   ·have := q1 h5; omega
 refine ite2 (fun w6 => ?_) (fun w6 => ?_)
 ·walk_at "go"
  refine ⟨.inl ⟨rfl, _, SqL.of hR⟩, .inl ⟨rfl, _, SqL.of W.hE⟩, fd_ok (by decide) (by decide +kernel), m_len, _, .inl ⟨_, SqL.of W.hE, rfl⟩, ?_⟩
  rw [zm]
  have el : (0 : Int) < es.length := by omega
  refine ⟨el, ?_⟩
  have v0 := Int.emod_nonneg (c / 40) (show (es.length : Int) ≠ 0 by omega)
  have v1 := Int.emod_lt_of_pos (c / 40) el
  generalize c / 40 % (es.length : Int) = jj at v0 v1 ⊢
  obtain ⟨y, hy⟩ : ∃ y, es[jj.toNat]? = some y := ⟨es[jj.toNat]'(by omega), List.getElem?_eq_getElem _⟩
  refine ⟨E, iv es, jj, jj.toNat, .int y, rfl, rfl, W.hE, by omega, by omega, jx v0 (by rw [zm]; exact v1), wD hy, ?_⟩
  rw [jF]
  have W1 := W.setE (es.eraseIdx jj.toNat)
  have pp := jg hy
  have pl := pp.length_eq
  rw [List.length_cons] at pl
  generalize upd H' E (.lst (iv (es.eraseIdx jj.toNat))) = H1 at W1 ⊢
  generalize es.eraseIdx jj.toNat = es1 at pp pl W1 ⊢
  intro p1 h1 p2 h2
  refine ⟨fd_ok (by decide) (by decide +kernel), fun p3 h3 t ht => ?_⟩
  have u0 := Int.emod_nonneg (c / 8) (show (5 : Int) ≠ 0 by decide)
  have u1 := Int.emod_lt_of_pos (c / 8) (show (0 : Int) < 5 by decide)
  generalize c / 8 % 5 = pc at u0 u1 h3 ht ⊢
  obtain ⟨s2, q2⟩ := vV ⟨.drain, [y], [], pc, []⟩ h1 h2 h3 ht
  have W2 := W1.same s2
  obtain ⟨rv2, hR2, lr2, W3⟩ := W2.addR (q2 (Off (ms4 L R E B)) fun b hb => W1.off hb)
  refine ⟨R, rv2, _, rfl, rfl, hR2, zq (by omega), k _ bs _ es1 ks W3 (jc (r := ⟨.drain, [y], [], pc, []⟩) I0 pp xj ⟨⟨_, rfl⟩, rfl, u0, by show pc ≤ 4; omega⟩) b24 ?_ (Nat.le_refl _) (fun _ _ => by omega)⟩
  rw [List.length_append, List.length_singleton]
  omega
 walk_at "go"
 intro tp htp
 have sT := ze (o := .tup [.int 4, .int 5]) htp
 have W1 := W.same sT
 refine ⟨tp, _, rfl, .inr (SqT.of upd_same), rfl, rfl, ?_⟩
 generalize upd H' tp (.tup [.int 4, .int 5]) = H1 at sT W1 ⊢
 have stay1 : Q .non H1 := k H1 bs rs es ks W1 I0 b24 l24 (Nat.le_refl _) (fun _ _ => by omega)
 refine ⟨_, rfl, ite2 (fun w45 => ite2 (fun left => ite2 (fun room => ?_) (fun _ => stay1)) (fun _ => stay1)) (fun _ => stay1)⟩
 walk_at "go"
 refine ⟨.inl ⟨rfl, _, SqL.of W1.hE⟩, fd_ok (by decide) (by decide +kernel), m_len, _, .inl ⟨_, SqL.of W1.hE, rfl⟩, ?_⟩
 rw [zm]
 have el : (0 : Int) < es.length := by omega
 refine ⟨el, ?_⟩
 have v0 := Int.emod_nonneg (c / 24) (show (es.length : Int) ≠ 0 by omega)
 have v1 := Int.emod_lt_of_pos (c / 24) el
 generalize c / 24 % (es.length : Int) = jj at v0 v1 ⊢
 obtain ⟨y, hy⟩ : ∃ y, es[jj.toNat]? = some y := ⟨es[jj.toNat]'(by omega), List.getElem?_eq_getElem _⟩
 refine ⟨E, iv es, jj, jj.toNat, .int y, rfl, rfl, W1.hE, by omega, by omega, jx v0 (by rw [zm]; exact v1), wD hy, ?_⟩
 rw [jF]
 have W2 := W1.setE (es.eraseIdx jj.toNat)
 have pp := jg hy
 have pl := pp.length_eq
 rw [List.length_cons] at pl
 generalize upd H1 E (.lst (iv (es.eraseIdx jj.toNat))) = H2 at W2 ⊢
 generalize es.eraseIdx jj.toNat = es1 at pp pl W2 ⊢
 intro I hI
 have W3 := W2.same (ze (o := .lst [.int y]) hI)
 have nI := W2.off hI
 have hI3 : upd H2 I (.lst [.int y]) I = some (.lst (iv [y])) := upd_same
 generalize upd H2 I (.lst [.int y]) = H3 at W3 hI3 ⊢
 clear W1 W2 hI stay stay1
 obtain ⟨bv3, hL3, rL3⟩ := W3.hL
 walk_at "go"
 refine uc (jI T).mono ?_
 refine ⟨c, n, L, E, B, es1, ks, bv3, bs, rfl, n4, W3.nEB, W3.nLE.symm, W3.nLB.symm, W3.hE, W3.hB, hL3, rL3.more (by intro b hb; left; simp only [List.mem_cons, List.not_mem_nil, or_false] at hb ⊢; rcases hb with h | h | h <;> simp [h]), by omega, by omega, by omega, ?_⟩
 intro H5 O es5 ks5 bs5 outs WO oR
 obtain ⟨W5, nO, hO5⟩ := W3.outs WO
 have hI5 : H5 I = some (.lst (iv [y])) := Zs (R := R) WO.f _ _ nI hI3
 obtain ⟨m, m1, m2, m3, m4, m5⟩ := xE oR
 clear WO
 obtain ⟨rv5, hR5, _⟩ := W5.hR
 have last : ∀ (r : Row) (l3 t : Addr) (H6 : Hp), r.ins = [y] → r.outs = outs → r.ok → Same H5 H6 → H5 l3 = none → H5 t = none → H6 l3 = some (.lst (iv (z6 r))) → H6 t = some (.tup [.str (wdS r.wd), .ref I, .ref O, .ref l3]) → ZG (.ref R) [.ref t] H6 fun x H1 => Q .non H1 := fun r l3 t H6 ri ro rk s6 n3 nt g3 gt => by
  have W6 := W5.same s6
  have qq := jh (p := Off (ms4 L R E B)) (r := r) (W5.off nt) nI nO (W5.off n3) gt (by rw [ri]; exact s6 _ _ hI5) (by rw [ro]; exact s6 _ _ hO5) g3
  obtain ⟨rv6, hR6, lr6, W7⟩ := W6.addR qq
  refine ⟨R, rv6, _, rfl, rfl, hR6, zq (by omega), k _ bs5 _ es5 ks5 W7 (jc I0 (by rw [ri]; exact pp) (by rw [ro]; exact oR) rk) (by omega) ?_ (by omega) (fun _ _ => by omega)⟩
  rw [List.length_append, List.length_singleton]
  omega
 walk_at "go"
 have two : ∀ {p t : Addr} {o1 o2 : HO}, H5 p = none → upd H5 p o1 t = none → Same H5 (upd (upd H5 p o1) t o2) ∧ H5 t = none ∧ upd (upd H5 p o1) t o2 p = some o1 ∧ upd (upd H5 p o1) t o2 t = some o2 := fun {p t o1 o2} hp ht => ⟨(ze hp).trans (ze ht), zp ht, upd_keep upd_same ht, upd_same⟩
 refine ite2 (fun b3 => ?_) (fun b3 => ite2 (fun b1 => ?_) (fun b1 => ?_))
 ·refine ⟨.inl ⟨rfl, _, SqL.of hR5⟩, fd_ok (by decide) (by decide +kernel), mul_okR (by decide) (by decide), fun p hp t ht => ?_⟩
  obtain ⟨s6, nt, g3, gt⟩ := two hp ht
  exact last ⟨.sieve, [y], outs, 0, [c / 8 * 48271 % 1000000000000000000000000000000]⟩ p t _ rfl rfl ⟨⟨_, rfl⟩, m5.trans (n3 b3), _, rfl, Int.emod_nonneg _ (by decide), Int.emod_lt_of_pos _ (by decide)⟩ s6 hp nt g3 gt
 ·refine ⟨.inl ⟨rfl, _, SqL.of hR5⟩, fun p hp t ht => ?_⟩
  obtain ⟨s6, nt, g3, gt⟩ := two hp ht
  exact last ⟨.first, [y], outs, 0, []⟩ p t _ rfl rfl ⟨⟨_, rfl⟩, by show 2 ≤ outs.length; omega, by show outs.length ≤ 4; omega⟩ s6 hp nt g3 gt
 ·refine ⟨.inl ⟨rfl, _, SqL.of hR5⟩, fun p hp t ht => ?_⟩
  obtain ⟨s6, nt, g3, gt⟩ := two hp ht
  exact last ⟨.parter, [y], outs, 0, []⟩ p t _ rfl rfl ⟨⟨_, rfl⟩, by show 2 ≤ outs.length; omega, by show outs.length ≤ 4; omega⟩ s6 hp nt g3 gt
theorem c_L_step (T : Txt K mg a) : Cal P w K mg base "_law_step" 3 gPs [] Z2 := T.h_L_step.cal (ok_L_step T)
theorem ZL {xs : List Int} : (∃ x, xs = [x]) ↔ xs.length = 1 := ⟨fun ⟨_, h⟩ => by rw [h]; rfl, fun h => List.length_eq_one_iff.mp h⟩
theorem ok_len {r : Row} {is os : List Int} (h : r.ok) (a : is.length = r.ins.length) (b : os.length = r.outs.length) : Row.ok ⟨r.wd, is, os, r.pace, r.kinds⟩ := by
 obtain ⟨wd, ins, outs, pc, ks⟩ := r
 cases wd <;> simp only [Row.ok, ZL, ← List.length_eq_zero_iff, a, b] at h ⊢ <;> exact h
theorem vz {r : Row} (h : r.ok) : r.ins.length ≤ 4 ∧ r.outs.length ≤ 4 := by
 obtain ⟨wd, ins, outs, pc, ks⟩ := r
 cases wd <;> simp only [Row.ok, ZL, ← List.length_eq_zero_iff] at h ⊢ <;> omega
def shF (n m : Nat) (x : Int) : Int := (x + m) % n
theorem ZF {n m : Nat} (h : m < n) : ((rgI n).map (shF n m)).Perm (rgI n) := by
 have e : rgI n = rgI (n - m) ++ segI (n - m) m := by rw [x8]; congr 1; omega
 have a1 : (rgI (n - m)).map (shF n m) = segI m (n - m) := by
  unfold rgI segI
  rw [List.map_map]
  refine List.map_congr_left fun i hi => ?_
  have hi := List.mem_range.mp hi
  show ((i : Int) + m) % n = ((m + i : Nat) : Int)
  rw [Int.emod_eq_of_lt (by omega) (by omega)]
  omega
 have a2 : (segI (n - m) m).map (shF n m) = rgI m := by
  unfold rgI segI
  rw [List.map_map]
  refine List.map_congr_left fun i hi => ?_
  have hi := List.mem_range.mp hi
  show (((n - m + i : Nat) : Int) + m) % n = (i : Int)
  rw [show (((n - m + i : Nat) : Int) + m) = (i : Int) + (n : Int) * 1 by omega, Int.add_mul_emod_self_left, Int.emod_eq_of_lt (by omega) (by omega)]
 rw [e, List.map_append, a1, a2, ← e]
 refine List.perm_append_comm.trans ?_
 rw [x8]
 rw [show m + (n - m) = n by omega]
def shR (n m : Nat) (r : Row) : Row := ⟨r.wd, r.ins.map (shF n m), r.outs.map (shF n m), r.pace, r.kinds⟩
theorem shR_ok {n m : Nat} {r : Row} (h : r.ok) : (shR n m r).ok := ok_len h (by simp) (by simp)
theorem fed_sh (n m : Nat) (rs : List Row) : qH (rs.map (shR n m)) = (qH rs).map (shF n m) := by
 unfold qH
 rw [List.flatMap_map, List.map_flatMap]
 rfl
theorem taken_sh (n m : Nat) (rs : List Row) : z8 (rs.map (shR n m)) = (z8 rs).map (shF n m) := by
 unfold z8
 rw [List.flatMap_map, List.map_flatMap]
 rfl
theorem vM {α : Type} (xs : List α) (k : Nat) : (xs.drop k ++ xs.take k).Perm xs := by
 refine List.perm_append_comm.trans ?_
 rw [List.take_append_drop]
theorem wR {bs : List (Int × Int)} {rs : List Row} {m k c : Nat} (h : WInv bs rs [] []) (b1 : 1 ≤ bs.length) (b24 : bs.length ≤ 24) (r24 : rs.length ≤ 24) (hm : m < bs.length) :
  jt (bs.drop k ++ bs.take k) ((rs.map (shR bs.length m)).drop c ++ (rs.map (shR bs.length m)).take c) ∧ (∀ b ∈ bs.drop k ++ bs.take k, qj b.1 b.2) ∧ (∀ r ∈ (rs.map (shR bs.length m)).drop c ++ (rs.map (shR bs.length m)).take c, r.ok) := by
 have tk := h.tk
 have fd := h.fd
 rw [List.append_nil] at tk fd
 have p1 := vM bs k
 have p2 := vM (rs.map (shR bs.length m)) c
 have l1 := p1.length_eq
 have l2 := p2.length_eq
 rw [List.length_map] at l2
 have r1 : 1 ≤ rs.length := by
  rcases Nat.eq_zero_or_pos rs.length with z | z
  ·have e := List.length_eq_zero_iff.mp z
   subst e
   have := tk.length_eq
   rw [vv] at this
   simp [z8] at this
   omega
  ·exact z
 refine ⟨⟨⟨⟨by omega, by omega⟩, by omega, by omega⟩, ?_, ?_⟩, fun b hb => h.bo b (p1.mem_iff.mp hb), fun r hr => ?_⟩
 ·refine (p2.flatMap_right _).trans ?_
  show (qH _).Perm _
  rw [fed_sh, l1]
  exact (fd.map _).trans (ZF hm)
 ·refine (p2.flatMap_right _).trans ?_
  show (z8 _).Perm _
  rw [taken_sh, l1]
  exact (tk.map _).trans (ZF hm)
 ·obtain ⟨r0, h0, rfl⟩ := List.mem_map.mp (p2.mem_iff.mp hr)
  exact shR_ok (h.ro r0 h0)
theorem qC (xs : List V) (k : Nat) (h : k ≤ xs.length) : cutV xs (some (k : Int)) none = xs.drop k := by
 unfold cutV
 rw [HT.sIx_nat, HT.sIx_none, Nat.min_eq_left h]
 exact List.take_of_length_le (by rw [List.length_drop]; omega)
theorem wM (xs : List V) (k : Nat) (h : k ≤ xs.length) : cutV xs none (some (k : Int)) = xs.take k := by
 unfold cutV
 rw [HT.sIx_nat, HT.sIx_none, Nat.min_eq_left h]
 simp
theorem WInv.nil : WInv [] [] [] [] := ⟨List.Perm.refl _, List.Perm.refl _, (fun _ z => nomatch z), (fun _ z => nomatch z)⟩
theorem WInv.drain {bs : List (Int × Int)} {rs : List Row} {y pc : Int} {es ks : List Int} (h : WInv bs rs (y :: es) ks) (h0 : 0 ≤ pc) (h4 : pc ≤ 4) : WInv bs (rs ++ [⟨.drain, [y], [], pc, []⟩]) es ks :=
 jc (r := ⟨.drain, [y], [], pc, []⟩) h (List.Perm.refl _) xj ⟨⟨_, rfl⟩, rfl, h0, h4⟩
theorem WInv.source {bs : List (Int × Int)} {rs : List Row} {y pc : Int} {es ks kd : List Int} (h : WInv bs rs es (y :: ks)) (h0 : 1 ≤ pc) (h4 : pc ≤ 4) (k1 : 1 ≤ kd.length) (k6 : kd.length ≤ 6) (kk : xz kd) : WInv bs (rs ++ [⟨.source, [], [y], pc, kd⟩]) es ks :=
 jc (n := 1) (r := ⟨.source, [], [y], pc, kd⟩) h (List.Perm.refl _) (ZJ (n := 0) (j := 0) (outs := []) (ks' := y :: ks) xj rfl) ⟨rfl, ⟨_, rfl⟩, h0, h4, k1, k6, kk⟩
theorem WInv.end_lt {bs : List (Int × Int)} {rs : List Row} {es ks : List Int} (h : WInv bs rs es ks) : ∀ y ∈ es, 0 ≤ y ∧ y < bs.length := fun y hy => x9 (h.tk.mem_iff.mp (List.mem_append_right _ hy))
theorem WInv.loop_lt {bs : List (Int × Int)} {rs : List Row} {es ks : List Int} (h : WInv bs rs es ks) : ∀ y ∈ ks, 0 ≤ y ∧ y < bs.length := fun y hy => x9 (h.fd.mem_iff.mp (List.mem_append_right _ hy))
abbrev pSt (l L R E B : Addr) (v5 v6 v7 v8 v9 v10 v11 v12 v13 v14 v15 : Option V) : St := [some (.ref l), some (.ref L), some (.ref R), some (.ref E), some (.ref B), v5, v6, v7, v8, v9, v10, v11, v12, v13, v14, v15]
theorem GS.rest {H0 H : Hp} {L R E B : Addr} {bs : List (Int × Int)} {rs : List Row} {es ks : List Int} (w : GS H0 H L R E B bs rs es ks) : GS H H L R E B bs rs es ks := { w with f := Fr.refl }
theorem GS.on {H0 H H' : Hp} {L R E B : Addr} {bs bs' : List (Int × Int)} {rs rs' : List Row} {es ks es' ks' : List Int} (w : GS H0 H L R E B bs rs es ks) (w' : GS H H' L R E B bs' rs' es' ks') : GS H0 H' L R E B bs' rs' es' ks' := { w' with f := w.f.trans w'.f }
theorem wv {H : Hp} {p : Addr → Prop} {v : V} {r : Row} (h : Rep H p v (qY r)) : ∃ t l1 l2 l3, v = .ref t ∧ H t = some (.tup [.str (wdS r.wd), .ref l1, .ref l2, .ref l3]) ∧ H l1 = some (.lst (iv r.ins)) ∧ H l2 = some (.lst (iv r.outs)) ∧ H l3 = some (.lst (iv (z6 r))) ∧ p l3 := by
 obtain ⟨t, us, rfl, _, ht, rr⟩ := Rep.tup' h
 have g := rr.g
 obtain ⟨x0, u1, rfl, e1⟩ := wc rr.len
 obtain ⟨x1, u2, rfl, e2⟩ := wc e1
 obtain ⟨x2, x3, rfl⟩ := two_of e2
 have a0 := g 0 x0 _ rfl rfl
 have a1 := g 1 x1 _ rfl rfl
 have a2 := g 2 x2 _ rfl rfl
 have a3 := g 3 x3 _ rfl rfl
 obtain ⟨l1, rfl, _, h1⟩ := a1.ints'
 obtain ⟨l2, rfl, _, h2⟩ := a2.ints'
 obtain ⟨l3, rfl, p3, h3⟩ := a3.ints'
 cases a0
 exact ⟨t, l1, l2, l3, rfl, ht, h1, h2, h3, p3⟩
def xB (K : PySem.W.Frag) : Sp := fun vs H Q _ => ∃ (l : Addr) (ns : List Int), vs = [.ref l] ∧ SqL K H l (iv ns) ∧ ns.length ≤ 64 ∧
 ∀ t bs rs H', Same H H' → Rep H' (Off []) (.ref t) (.tup [.lst (bs.map js), .lst (rs.map qY)]) → jt bs rs → (∀ b ∈ bs, qj b.1 b.2) → (∀ r ∈ rs, r.ok) → Q (.ref t) H'
theorem i_spPartsOf {K : PySem.W.Frag} {vs : List V} {H : Hp} {Q : VK} {E : XK} (l : Addr) (ns : List Int) (q0 : vs = [.ref l]) (q1 : SqL K H l (iv ns)) (q2 : ns.length ≤ 64) (q3 : ∀ t bs rs H', Same H H' → Rep H' (Off []) (.ref t) (.tup [.lst (bs.map js), .lst (rs.map qY)]) → jt bs rs → (∀ b ∈ bs, qj b.1 b.2) → (∀ r ∈ rs, r.ok) → Q (.ref t) H') : xB K vs H Q E := ⟨l, ns, q0, q1, q2, q3⟩
theorem ok_L_parts_of (T : Txt K mg a) (F : Fun K "_law_parts_of" "_law_parts_of" s_L_parts_of f fd) : FnOk P w K mg base (CXr P w) 4 f fd ["_law_script"] (xB K) := by
 refine F.okx sc_L_parts_of ?_ ?_
 ·walk_at "i"
 walk_at "j"
 obtain ⟨l, ns, rfl, hl, hn, k⟩ := h
 walk_at "T"
 refine ⟨_, (zh (zO 1 sc_L_parts_of.nd (zz zb))  (zh (zO 2 sc_L_parts_of.nd (zz zb))  (zh (zO 3 sc_L_parts_of.nd (zz zb))  (zh (zO 4 sc_L_parts_of.nd (zz zb))  (qc (qy qR rfl (ql (zi zB (zz (za (zA zD zC (za (pv 0) zb)) zb)) (pv 0))) (pg_n 5 sc_L_parts_of.nd)  (zf (zv (zH ⟨rfl, rfl, rfl⟩ hr (za (pv 5) (za (pv 1) (za (pv 2) (za (pv 3) (za (pv 4) zb)))))))))  (zh (zO 6 sc_L_parts_of.nd (zi zL (zi zB (zi jA (zH ⟨rfl, rfl, rfl⟩ hr (za (pv 0) (za zd zb))) zd) (zA zD zC (za (pv 0) zb))) zd))  (qc (qy qR rfl (ql (pv 3)) (pg_n 7 sc_L_parts_of.nd)  (zf (zv (zW PySem.F.plainAttrs_list PySem.F.slot_list_append PySem.F.type_list_append zF (pv 2) (za (qo (za zu (za (zz (za (pv 7) zb)) (za (zz zb) (za (zz (za (zi zL (zi zB (pv 6) (zi jA (pv 7) (pv 7))) zd) zb)) zb))))) zb)))))  (qc (qy qR rfl (ql (pv 4)) (pg_n 7 sc_L_parts_of.nd)  (zf (zv (zW PySem.F.plainAttrs_list PySem.F.slot_list_append PySem.F.type_list_append zF (pv 2) (za (qo (za zu (za (zz zb) (za (zz (za (pv 7) zb)) (za (zi zB (zz (za (zi zB zd (zi zL (zi zB (zi zM (pv 6) zd) (pv 7)) zd)) zb)) (zH ⟨rfl, rfl, rfl⟩ hr (za (zi jA (pv 6) (zi zB (pv 7) zd)) zb))) zb))))) zb)))))  (zh (Zm (i := 8) sc_L_parts_of.nd rfl (Or.inr rfl) (zA zD zC (za (pv 1) zb)))  (zh (Zm (i := 9) sc_L_parts_of.nd rfl (Or.inr rfl) (zi zL (zi zM (pv 6) zd) (pv 8)))  (zh (zO 10 sc_L_parts_of.nd (zz zb))  (qc (qy qR rfl (ql (pv 2)) (jy (n := 4) rfl (zN (pg_n 11 sc_L_parts_of.nd) (zN (pg_n 12 sc_L_parts_of.nd) (zN (pg_n 13 sc_L_parts_of.nd) (zN (pg_n 14 sc_L_parts_of.nd) qV)))))  (zf (zv (zW PySem.F.plainAttrs_list PySem.F.slot_list_append PySem.F.type_list_append zF (pv 10) (za (qo (za (pv 11) (za (xR (vars := ["_law_at"]) (caps := [8, 9]) (N := ["_law_at", "_law_many", "_law_moved"]) (ON := ["_law_script", "_law_belts", "_law_knots", "_law_ends", "_law_loops", "_law_cell", "_law_turn", "_law_at", "_law_many", "_law_moved", "_law_turned", "_law_word", "_law_ins", "_law_outs", "_law_numbers_here", "_law_cut"]) (osc := zg s_L_parts_of) rfl rfl (by first | decide +kernel | kernel_rfl) rfl rfl (ql (pv 12)) (fun s H fp pins => (pg_n 0 (show (["_law_at", "_law_many", "_law_moved"] : List Str).Nodup from by decide +kernel))) (fun s H fp pins => qt) (fun s H fp pins => (zi zL (zi zB (pv 0) (pv 2)) (pv 1)))) (za (xR (vars := ["_law_at"]) (caps := [8, 9]) (N := ["_law_at", "_law_many", "_law_moved"]) (ON := ["_law_script", "_law_belts", "_law_knots", "_law_ends", "_law_loops", "_law_cell", "_law_turn", "_law_at", "_law_many", "_law_moved", "_law_turned", "_law_word", "_law_ins", "_law_outs", "_law_numbers_here", "_law_cut"]) (osc := zg s_L_parts_of) rfl rfl (by first | decide +kernel | kernel_rfl) rfl rfl (ql (pv 13)) (fun s H fp pins => (pg_n 0 (show (["_law_at", "_law_many", "_law_moved"] : List Str).Nodup from by decide +kernel))) (fun s H fp pins => qt) (fun s H fp pins => (zi zL (zi zB (pv 0) (pv 2)) (pv 1)))) (za (pv 14) zb))))) zb)))))  (zh (zO 15 sc_L_parts_of.nd (zi zL (zi zM (pv 6) zd) (zA zD zC (za (pv 10) zb))))  (zf (zo (qo (za (zi zB (zV qm (pv 1) (zX (zi qS (pv 8) (pv 9))) qg) (zV qm (pv 1) qg (zX (zi qS (pv 8) (pv 9))))) (za (zi zB (zV qm (pv 10) (zX (pv 15)) qg) (zV qm (pv 10) qg (zX (pv 15)))) zb)))))))))))))))))), ?_⟩
 walk_at "go"
 intro L hL
 walk_at "go"
 intro R hR
 walk_at "go"
 intro E hE
 walk_at "go"
 intro B hB
 have s1 := (((ze (o := .lst []) hL).trans (ze (o := .lst []) hR)).trans (ze (o := .lst []) hE)).trans (ze (o := .lst []) hB)
 have nw : ∀ m ∈ ms4 L R E B, H m = none := fun m hm => by
  simp only [List.mem_cons, List.not_mem_nil, or_false] at hm
  rcases hm with rfl | rfl | rfl | rfl
  ·exact hL
  ·exact zp hR
  ·exact zp (zp hE)
  ·exact zp (zp (zp hB))
 have W0 : GS (upd (upd (upd (upd H L (.lst [])) R (.lst [])) E (.lst [])) B (.lst [])) (upd (upd (upd (upd H L (.lst [])) R (.lst [])) E (.lst [])) B (.lst [])) L R E B [] [] [] [] :=
  ⟨Fr.refl, ne_of_none upd_same hR, ne_of_none (upd_keep upd_same hR) hE, ne_of_none (upd_keep (upd_keep upd_same hR) hE) hB, ne_of_none upd_same hE, ne_of_none (upd_keep upd_same hE) hB, ne_of_none upd_same hB,
   ⟨[], upd_keep (upd_keep (upd_keep upd_same hR) hE) hB, .nil⟩, ⟨[], upd_keep (upd_keep upd_same hE) hB, .nil⟩, upd_keep upd_same hB, upd_same⟩
 generalize upd (upd (upd (upd H L (.lst [])) R (.lst [])) E (.lst [])) B (.lst []) = H1 at s1 W0 ⊢
 clear hL hR hE hB
 walk_at "go"
 refine cut (fun σ' H' => ∃ v5 bs rs es ks, σ' = pSt l L R E B v5 none none none none none none none none none none ∧ GS H1 H' L R E B bs rs es ks ∧ WInv bs rs es ks ∧ 1 ≤ bs.length ∧ bs.length ≤ 24 ∧ rs.length + es.length + ks.length ≤ 24) ?_ ?_
 ·walk_at "for"
  walk_at "go"
  refine ⟨_, .inl ⟨_, qQ s1 hl, rfl⟩, fun p0 hp0 => ?_⟩
  rw [zm]
  have sp0 := ze (o := .lst [.int ns.length]) hp0
  refine qa (SqL.of upd_same) (qQ (s1.trans sp0) hl) (z9 (by rw [zm]; simp; omega)) fun p hp => ?_
  have W1 := (W0.same sp0).same (ze (o := .lst ([.int ns.length] ++ iv ns)) hp)
  have np := (W0.same sp0).off hp
  have gp : upd (upd H1 p0 (.lst [.int ns.length])) p (.lst ([.int ns.length] ++ iv ns)) p = some (.lst (iv ((ns.length : Int) :: ns))) := upd_same
  generalize upd (upd H1 p0 (.lst [.int ns.length])) p (.lst ([.int ns.length] ++ iv ns)) = H2 at W1 gp ⊢
  refine ⟨p, rfl, .inl ⟨⟨_, SqL.of gp⟩, ?_⟩⟩
  refine qx (K := K) (a := p) (xs := iv ((ns.length : Int) :: ns)) (fun i σ' H' => ∃ v5 bs rs es ks, σ' = pSt l L R E B v5 none none none none none none none none none none ∧ GS H1 H' L R E B bs rs es ks ∧ H' p = some (.lst (iv ((ns.length : Int) :: ns))) ∧ WInv bs rs es ks ∧ bs.length ≤ 24 ∧ rs.length + es.length + ks.length ≤ 24 ∧ (i = 0 → rs.length + es.length + ks.length = 0 ∧ bs.length = 0) ∧ (1 ≤ i → 1 ≤ bs.length))
   ⟨_, [], [], [], [], rfl, W1, gp, WInv.nil, by decide, by decide, fun _ => ⟨rfl, rfl⟩, fun z => absurd z (by decide)⟩ (fun i σ H' _ h => by obtain ⟨_, _, _, _, _, _, _, g, _⟩ := h; exact SqL.of g) ?_ ?_
  ·clear W1 gp W0
   rintro i x σ' H3 hi ⟨v5, bs, rs, es, ks, rfl, W, gp, I0, b24, l24, i0, i1⟩
   obtain ⟨c, _, rfl⟩ := xV hi
   walk_at "go"
   refine uc (c_L_step T).mono ⟨c, L, R, E, B, bs, rs, es, ks, rfl, W.rest, I0, b24, l24, fun H4 bs2 rs2 es2 ks2 W2 I2 c24 m24 lb hz => ?_⟩
   walk_at "go"
   refine ⟨_, bs2, rs2, es2, ks2, rfl, W.on W2, W2.f _ _ np gp, I2, c24, m24, (fun z => nomatch z), fun _ => ?_⟩
   rcases Nat.eq_zero_or_pos i with z | z
   ·exact hz (i0 z).1 (i0 z).2
   ·exact Nat.le_trans (i1 z) lb
  ·rintro σ' H3 ⟨v5, bs, rs, es, ks, rfl, W, gp, I0, b24, l24, i0, i1⟩
   exact ⟨v5, bs, rs, es, ks, rfl, W, I0, i1 (by rw [zm]; simp), b24, l24⟩
 rintro σ' H2 ⟨v5, bs, rs, es, ks, rfl, W, I0, b1, b24, l24⟩
 clear W0
 have sH : ∀ {H'} {bs : List (Int × Int)} {rs : List Row} {es ks : List Int}, GS H1 H' L R E B bs rs es ks → Same H H' := fun W => (s1.fr.trans W.f).same nw
 walk_at "go"
 refine uc (c_L_cell_at T).mono ⟨l, ns, 0, rfl, qQ (sH W) hl, ?_⟩
 walk_at "go"
 refine ⟨mul_okR (by decide) (by decide), m_len, _, .inl ⟨_, qQ (sH W) hl, rfl⟩, ?_⟩
 have t0 := Int.emod_nonneg (xY ns 0 * 16807 + ((iv ns).length : Int)) (show (2147483647 : Int) ≠ 0 by decide)
 have t1 := Int.emod_lt_of_pos (xY ns 0 * 16807 + ((iv ns).length : Int)) (show (0 : Int) < 2147483647 by decide)
 generalize (xY ns 0 * 16807 + ((iv ns).length : Int)) % 2147483647 = tn at t0 t1 ⊢
 walk_at "go"
 refine cut (fun σ' H' => ∃ v7 rs2, σ' = pSt l L R E B v5 (some (.int tn)) v7 none none none none none none none none ∧ GS H1 H' L R E B bs rs2 es ks ∧ WInv bs rs2 [] ks ∧ rs2.length + ks.length ≤ 24) ?_ ?_
 ·walk_at "for"
  walk_at "go"
  refine ⟨E, rfl, .inl ⟨⟨_, SqL.of W.hE⟩, ?_⟩⟩
  refine qx (K := K) (a := E) (xs := iv es) (fun i σ' H' => ∃ v7 rs2, σ' = pSt l L R E B v5 (some (.int tn)) v7 none none none none none none none none ∧ GS H1 H' L R E B bs rs2 es ks ∧ WInv bs rs2 (es.drop i) ks ∧ rs2.length + (es.drop i).length + ks.length ≤ 24)
   ⟨_, rs, rfl, W, I0, l24⟩ (fun i σ H' _ h => by obtain ⟨_, _, _, W, _⟩ := h; exact SqL.of W.hE) ?_ ?_
  ·rintro i x σ' H3 hi ⟨v7, rs2, rfl, W2, I2, l2⟩
   obtain ⟨y, hy, rfl⟩ := xV hi
   rw [ZS hy] at I2 l2
   have yb := I2.end_lt y (List.mem_cons_self ..)
   obtain ⟨rv, hR, _⟩ := W2.hR
   walk_at "go"
   refine ⟨.inl ⟨rfl, _, SqL.of hR⟩, fun p1 h1 p2 h2 => ⟨mul_okR (by omega) (by omega), fun p3 h3 t ht => ?_⟩⟩
   have u0 := Int.emod_nonneg (tn + y * y) (show (5 : Int) ≠ 0 by decide)
   have u1 := Int.emod_lt_of_pos (tn + y * y) (show (0 : Int) < 5 by decide)
   generalize (tn + y * y) % 5 = pc at u0 u1 h3 ht ⊢
   obtain ⟨s4, q4⟩ := vV ⟨.drain, [y], [], pc, []⟩ h1 h2 h3 ht
   have W3 := W2.same s4
   obtain ⟨rv3, hR3, lr3, W4⟩ := W3.addR (q4 (Off (ms4 L R E B)) fun b hb => W2.off hb)
   rw [List.length_cons] at l2
   refine ⟨R, rv3, _, rfl, rfl, hR3, zq (by omega), _, _, rfl, W4, I2.drain u0 (by omega), ?_⟩
   rw [List.length_append, List.length_singleton]
   omega
  ·rintro σ' H3 ⟨v7, rs2, rfl, W2, I2, l2⟩
   rw [zm, List.drop_length] at I2 l2
   exact ⟨v7, rs2, rfl, W2, I2, by simpa using l2⟩
 rintro σ' H3 ⟨v7, rs2, rfl, W2, I2, l2⟩
 clear W I0 l24
 walk_at "go"
 refine cut (fun σ' H' => ∃ v7 rs2, σ' = pSt l L R E B v5 (some (.int tn)) v7 none none none none none none none none ∧ GS H1 H' L R E B bs rs2 es ks ∧ WInv bs rs2 [] [] ∧ rs2.length ≤ 24) ?_ ?_
 ·walk_at "for"
  walk_at "go"
  refine ⟨B, rfl, .inl ⟨⟨_, SqL.of W2.hB⟩, ?_⟩⟩
  refine qx (K := K) (a := B) (xs := iv ks) (fun i σ' H' => ∃ v7 rs2, σ' = pSt l L R E B v5 (some (.int tn)) v7 none none none none none none none none ∧ GS H1 H' L R E B bs rs2 es ks ∧ WInv bs rs2 [] (ks.drop i) ∧ rs2.length + (ks.drop i).length ≤ 24)
   ⟨_, rs2, rfl, W2, I2, l2⟩ (fun i σ H' _ h => by obtain ⟨_, _, _, W, _⟩ := h; exact SqL.of W.hB) ?_ ?_
  ·clear W2 I2 l2
   rintro i x σ' H3 hi ⟨v7, rs2, rfl, W2, I2, l2⟩
   obtain ⟨y, hy, rfl⟩ := xV hi
   rw [ZS hy] at I2 l2
   have yb := I2.loop_lt y (List.mem_cons_self ..)
   obtain ⟨rv, hR, _⟩ := W2.hR
   rw [List.length_cons] at l2
   walk_at "go"
   refine ⟨.inl ⟨rfl, _, SqL.of hR⟩, fun p1 h1 p2 h2 => ⟨fd_ok (by decide) (by decide +kernel), fun p3 h3 => ?_⟩⟩
   have u0 := Int.emod_nonneg (tn / 5 + y) (show (4 : Int) ≠ 0 by decide)
   have u1 := Int.emod_lt_of_pos (tn / 5 + y) (show (0 : Int) < 4 by decide)
   generalize (tn / 5 + y) % 4 = pc at u0 u1 ⊢
   have s4 := ((ze (o := .lst []) h1).trans (ze (o := .lst [.int y]) h2)).trans (ze (o := .lst [.int (1 + pc)]) h3)
   have g1 := upd_keep (o := .lst [.int (1 + pc)]) (upd_keep (o := .lst [.int y]) (upd_same (H := H3) (a := p1) (o := .lst [])) h2) h3
   have g2 := upd_keep (o := .lst [.int (1 + pc)]) (upd_same (H := upd H3 p1 (.lst [])) (a := p2) (o := .lst [.int y])) h3
   have g3 : upd (upd (upd H3 p1 (.lst [])) p2 (.lst [.int y])) p3 (.lst [.int (1 + pc)]) p3 = some (.lst [.int (1 + pc)]) := upd_same
   have m2 := zp h2
   generalize upd (upd (upd H3 p1 (.lst [])) p2 (.lst [.int y])) p3 (.lst [.int (1 + pc)]) = H5 at s4 g1 g2 g3 ⊢
   refine uc (xv T).mono ⟨mul_okR (by omega) (by omega), _, rfl, fun KO kd H6 s6 nK hK k1 k6 kk => ?_⟩
   refine qa (SqL.of (s6 _ _ g3)) (SqL.of hK) (z9 (by rw [zm]; simp; omega)) fun q hq => ?_
   intro t ht
   have s7 := (ze (o := .lst ([.int (1 + pc)] ++ iv kd)) hq).trans (ze (o := .tup [.str "source", .ref p1, .ref p2, .ref q]) ht)
   have s37 := (s4.trans s6).trans s7
   have W6 := W2.same s37
   have W5 := W2.same (s4.trans s6)
   have qq := jh (p := Off (ms4 L R E B)) (r := ⟨.source, [], [y], 1 + pc, kd⟩) (W5.off (zp ht)) (W2.off h1) (W2.off m2) (W5.off hq) (upd_same (H := upd H6 q (.lst ([.int (1 + pc)] ++ iv kd)))) (s7 _ _ (s6 _ _ g1)) (s7 _ _ (s6 _ _ g2)) (upd_keep upd_same ht)
   obtain ⟨rv6, hR6, lr6, W7⟩ := W6.addR qq
   refine ⟨R, rv6, _, rfl, rfl, hR6, zq (by omega), _, _, rfl, W7, I2.source (by omega) (by omega) k1 k6 kk, ?_⟩
   rw [List.length_append, List.length_singleton]
   omega
  ·rintro σ' H3 ⟨v7, rs2, rfl, W2, I2, l2⟩
   rw [zm, List.drop_length] at I2 l2
   exact ⟨v7, rs2, rfl, W2, I2, by simpa using l2⟩
 clear W2 I2 l2
 rintro σ' H4 ⟨v7, rs2, rfl, W2, I2, l2⟩
 obtain ⟨bv, hL, rL⟩ := W2.hL
 have lL : bv.length = bs.length := by rw [rL.len, List.length_map]
 walk_at "go"
 refine ⟨_, .inl ⟨_, SqL.of hL, rfl⟩, ?_⟩
 rw [lL]
 walk_at "go"
 refine ⟨fd_ok (by decide) (by decide +kernel), by omega, ?_⟩
 have u0 := Int.emod_nonneg (tn / 7) (show (bs.length : Int) ≠ 0 by omega)
 have u1 := Int.emod_lt_of_pos (tn / 7) (show (0 : Int) < (bs.length : Int) by omega)
 obtain ⟨mv, emv⟩ : ∃ m : Nat, tn / 7 % (bs.length : Int) = m := ⟨(tn / 7 % (bs.length : Int)).toNat, by omega⟩
 rw [emv] at u1 ⊢
 clear u0 emv
 walk_at "go"
 intro Tr hT
 have sT := ze (o := .lst []) hT
 have hL4 := sT _ _ hL
 obtain ⟨rv, hR, rR⟩ := W2.hR
 have lR : rv.length = rs2.length := by rw [rR.len, List.length_map]
 have sH4 := (sH W2).trans sT
 have nT : H Tr = none := zS (sH W2) hT
 have nRT : R ∉ [Tr] := fun z => ne_of_none hR hT (List.mem_singleton.mp z)
 have nLT : L ∉ [Tr] := fun z => ne_of_none hL hT (List.mem_singleton.mp z)
 have gT : upd H4 Tr (.lst []) Tr = some (.lst []) := upd_same
 have hR4 := sT _ _ hR
 have rR4 := (rR.more (ns := [Tr]) (fun b hb => .inr (by rw [List.mem_singleton.mp hb]; exact hT))).same sT
 have rL4 := (rL.more (ns := [Tr]) (fun b hb => .inr (by rw [List.mem_singleton.mp hb]; exact hT))).same sT
 generalize upd H4 Tr (.lst []) = H5 at sT hL4 sH4 gT hR4 rR4 rL4 ⊢
 clear W2 rL rR hL hR hT
 walk_at "go"
 refine cut (fun σ' H' => ∃ v11 v12 v13 v14 tv, σ' = pSt l L R E B v5 (some (.int tn)) v7 (some (.int bs.length)) (some (.int mv)) (some (.ref Tr)) v11 v12 v13 v14 none ∧ Fr [Tr] H5 H' ∧ H' Tr = some (.lst tv) ∧ Reps H' (Off [Tr]) tv ((rs2.map (shR bs.length mv)).map qY)) ?_ ?_
 ·walk_at "for"
  walk_at "go"
  refine ⟨R, rfl, .inl ⟨⟨_, SqL.of hR4⟩, ?_⟩⟩
  refine qx (K := K) (a := R) (xs := rv) (fun i σ' H' => ∃ v11 v12 v13 v14 tv, σ' = pSt l L R E B v5 (some (.int tn)) v7 (some (.int bs.length)) (some (.int mv)) (some (.ref Tr)) v11 v12 v13 v14 none ∧ Fr [Tr] H5 H' ∧ H' Tr = some (.lst tv) ∧ Reps H' (Off [Tr]) tv (((rs2.take i).map (shR bs.length mv)).map qY))
   ⟨_, _, _, _, [], rfl, Fr.refl, gT, by rw [List.take_zero]; exact .nil⟩ ?_ ?_ ?_
  ·rintro i σ H' _ ⟨_, _, _, _, _, _, f, g, _⟩
   exact SqL.of (f _ _ nRT hR4)
  ·rintro i x σ' H6 hi ⟨v11, v12, v13, v14, tv, rfl, f6, g6, r6⟩
   obtain ⟨dx, hdx, rx⟩ := rR4.at hi
   rw [List.getElem?_map, Option.map_eq_some_iff] at hdx
   obtain ⟨r, hr', rfl⟩ := hdx
   obtain ⟨t, l1, l2, l3, rfl, ht, h1, h2, h3, p3⟩ := wv (rx.fr f6)
   have rk := I2.ro r (List.mem_of_getElem? hr')
   have hil := (List.getElem?_eq_some_iff.mp hr').1
   have l4 := vz rk
   walk_at "go"
   refine ⟨t, _, rfl, SqT.of ht, rfl, _, _, rfl, _, _, rfl, _, _, rfl, _, _, rfl, rfl, .inl ⟨rfl, _, SqL.of g6⟩, ?_⟩
   walk_at "lc"
   walk_at "go"
   refine ⟨l1, rfl, .inl ⟨⟨_, SqL.of h1⟩, fun _ _ _ _ A1 hA1 => ?_⟩⟩
   refine qx (K := K) (a := l1) (xs := iv r.ins) (fun i σ H' => ∃ v, σ = [v, some (.int bs.length), some (.int mv)] ∧ Same H6 H' ∧ H' A1 = some (.lst (iv ((r.ins.take i).map (shF bs.length mv))))) ⟨_, rfl, ze hA1, by rw [upd_same]; rfl⟩ (fun i σ H' _ h => by obtain ⟨_, _, s, _⟩ := h; exact SqL.of (s _ _ h1)) ?_ ?_
   ·rintro i x σ H7 hi ⟨v, rfl, s7, e7⟩
    obtain ⟨y, hy, rfl⟩ := xV hi
    have hyl := (List.getElem?_eq_some_iff.mp hy).1
    walk_at "go"
    refine ⟨by omega, _, e7, zq (by rw [zm, List.length_map, List.length_take]; omega), _, rfl, fun b o hb => ?_, ?_⟩
    ·rw [upd_ne (ne_of_none hb hA1)]; exact s7 b o hb
    ·rw [upd_same, qA, List.take_add_one, hy]
     simp [shF]
   rintro σ H7 ⟨v, rfl, s7, e7⟩
   rw [zm, List.take_length] at e7
   walk_at "lc"
   walk_at "go"
   refine ⟨l2, rfl, .inl ⟨⟨_, SqL.of (s7 _ _ h2)⟩, fun _ _ _ _ A2 hA2 => ?_⟩⟩
   refine qx (K := K) (a := l2) (xs := iv r.outs) (fun i σ H' => ∃ v, σ = [v, some (.int bs.length), some (.int mv)] ∧ Same H7 H' ∧ H' A2 = some (.lst (iv ((r.outs.take i).map (shF bs.length mv))))) ⟨_, rfl, ze hA2, by rw [upd_same]; rfl⟩ (fun i σ H' _ h => by obtain ⟨_, _, s, _⟩ := h; exact SqL.of (s _ _ (s7 _ _ h2))) ?_ ?_
   ·rintro i x σ H8 hi ⟨v, rfl, s8, e8⟩
    obtain ⟨y, hy, rfl⟩ := xV hi
    have hyl := (List.getElem?_eq_some_iff.mp hy).1
    walk_at "go"
    refine ⟨by omega, _, e8, zq (by rw [zm, List.length_map, List.length_take]; omega), _, rfl, fun b o hb => ?_, ?_⟩
    ·rw [upd_ne (ne_of_none hb hA2)]; exact s8 b o hb
    ·rw [upd_same, qA, List.take_add_one, hy]
     simp [shF]
   rintro σ H8 ⟨v, rfl, s8, e8⟩
   rw [zm, List.take_length] at e8
   intro t2 ht2
   have s9 := ze (o := .tup [.str (wdS r.wd), .ref A1, .ref A2, .ref l3]) ht2
   have s69 := (s7.trans s8).trans s9
   have off6 : ∀ {b : Addr}, H6 b = none → b ∉ [Tr] := fun {b} hb z => by rw [List.mem_singleton.mp z, g6] at hb; cases hb
   have q := jh (p := Off [Tr]) (r := shR bs.length mv r) (off6 (zS (s7.trans s8) ht2)) (off6 hA1) (off6 (zS s7 hA2)) p3 (upd_same (H := H8)) (s9 _ _ (s8 _ _ e7)) (s9 _ _ e8) (s69 _ _ h3)
   have lv : tv.length ≤ 24 := by rw [r6.len, List.length_map, List.length_map, List.length_take]; omega
   refine ⟨Tr, tv, _, rfl, rfl, s69 _ _ g6, zq (by omega), ?_⟩
   have fA : Fr [Tr] (upd H8 t2 (.tup [.str (wdS r.wd), .ref A1, .ref A2, .ref l3])) (upd (upd H8 t2 (.tup [.str (wdS r.wd), .ref A1, .ref A2, .ref l3])) Tr (.lst (tv ++ [.ref t2]))) := qB (by simp)
   refine ⟨_, _, _, _, _, rfl, (f6.trans s69.fr).trans fA, upd_same, ?_⟩
   rw [List.take_add_one, hr', List.map_append, List.map_append]
   exact ((r6.same s69).fr fA).append (.one (q.fr fA))
  ·rintro σ' H6 ⟨v11, v12, v13, v14, tv, rfl, f6, g6, r6⟩
   rw [lR, List.take_length] at r6
   exact ⟨_, _, _, _, tv, rfl, f6, g6, r6⟩
 rintro σ' H6 ⟨v11, v12, v13, v14, tv, rfl, f6, g6, r6⟩
 have lT : tv.length = rs2.length := by rw [r6.len, List.length_map, List.length_map]
 have r1 : 1 ≤ rs2.length := by
  have := (wR (k := 0) (c := 0) I2 b1 b24 l2 (by omega : mv < bs.length)).1.1.2.1
  simpa using this
 walk_at "go"
 refine ⟨fd_ok (by decide) (by decide +kernel), m_len, _, .inl ⟨_, SqL.of g6, rfl⟩, ?_⟩
 rw [lT]
 refine ⟨by omega, ?_⟩
 have w0 := Int.emod_nonneg (tn / 11) (show (rs2.length : Int) ≠ 0 by omega)
 have w1 := Int.emod_lt_of_pos (tn / 11) (show (0 : Int) < (rs2.length : Int) by omega)
 obtain ⟨ct, ect⟩ : ∃ m : Nat, tn / 11 % (rs2.length : Int) = m := ⟨(tn / 11 % (rs2.length : Int)).toNat, by omega⟩
 rw [ect] at w1 ⊢
 clear w0 ect
 have hL6 := f6 _ _ nLT hL4
 have rL6 := rL4.fr f6
 have sH6 : Same H H6 := (sH4.fr.trans f6).same (fun m hm => by rw [List.mem_singleton.mp hm]; exact nT)
 walk_at "go"
 rw [show (bs.length : Int) - (mv : Int) = ((bs.length - mv : Nat) : Int) by omega]
 refine qD (SqL.of hL6) fun q1 hq1 => ?_
 rw [qC bv (bs.length - mv) (by omega)]
 have a1 := ze (o := .lst (bv.drop (bs.length - mv))) hq1
 refine qD (SqL.of (a1 _ _ hL6)) fun q2 hq2 => ?_
 rw [wM bv (bs.length - mv) (by omega)]
 have a2 := ze (o := .lst (bv.take (bs.length - mv))) hq2
 refine qa (SqL.of (a2 _ _ upd_same)) (SqL.of upd_same) (z9 (by rw [List.length_drop, List.length_take]; omega)) fun q3 hq3 => ?_
 have a3 := ze (o := .lst (bv.drop (bs.length - mv) ++ bv.take (bs.length - mv))) hq3
 have sA := (a1.trans a2).trans a3
 have g3 : upd (upd (upd H6 q1 (.lst (bv.drop (bs.length - mv)))) q2 (.lst (bv.take (bs.length - mv)))) q3 (.lst (bv.drop (bs.length - mv) ++ bv.take (bs.length - mv))) q3 = some (.lst (bv.drop (bs.length - mv) ++ bv.take (bs.length - mv))) := upd_same
 generalize upd (upd (upd H6 q1 (.lst (bv.drop (bs.length - mv)))) q2 (.lst (bv.take (bs.length - mv)))) q3 _ = H7 at sA g3 ⊢
 clear a1 a2 a3 hq1 hq2 hq3
 refine qD (SqL.of (sA _ _ g6)) fun q1 hq1 => ?_
 rw [qC tv ct (by omega)]
 have a1 := ze (o := .lst (tv.drop ct)) hq1
 refine qD (SqL.of (a1 _ _ (sA _ _ g6))) fun q2 hq2 => ?_
 rw [wM tv ct (by omega)]
 have a2 := ze (o := .lst (tv.take ct)) hq2
 refine qa (SqL.of (a2 _ _ upd_same)) (SqL.of upd_same) (z9 (by rw [List.length_drop, List.length_take]; omega)) fun q4 hq4 => ?_
 have a3 := ze (o := .lst (tv.drop ct ++ tv.take ct)) hq4
 have sB := (a1.trans a2).trans a3
 have g4 : upd (upd (upd H7 q1 (.lst (tv.drop ct))) q2 (.lst (tv.take ct))) q4 (.lst (tv.drop ct ++ tv.take ct)) q4 = some (.lst (tv.drop ct ++ tv.take ct)) := upd_same
 generalize upd (upd (upd H7 q1 (.lst (tv.drop ct))) q2 (.lst (tv.take ct))) q4 _ = H8 at sB g4 ⊢
 clear a1 a2 a3 hq1 hq2 hq4
 intro t ht
 have sC := ze (o := .tup [.ref q3, .ref q4]) ht
 have s68 := (sA.trans sB).trans sC
 obtain ⟨k1, k2, k3⟩ := wR (k := bs.length - mv) (c := ct) I2 b1 b24 l2 (by omega : mv < bs.length)
 refine k t _ _ _ (sH6.trans s68) ?_ k1 k2 k3
 have b1 := ((rL6.drop (bs.length - mv)).append (rL6.take (bs.length - mv))).same s68
 have b2 := ((r6.drop ct).append (r6.take ct)).same s68
 rw [← List.map_drop, ← List.map_take, ← List.map_append] at b1 b2
 exact Reps.mkT (.cons (b1.all.mk' (p := Off []) (fun z => nomatch z) (sC _ _ (sB _ _ g3))) (.cons (b2.all.mk' (p := Off []) (fun z => nomatch z) (sC _ _ g4)) .nil)) (fun z => nomatch z) upd_same
theorem xu (T : Txt K mg a) : Cal P w K mg base "_law_parts_of" 4 ["_law_script"] [] (xB K) := T.h_L_parts_of.cal (ok_L_parts_of T)
def wL (a : Ad) (bs : List (Int × Int)) (rs : List Row) : D := .ob a.Work [("belts", .lst (bs.map (xX a))), ("knots", .lst (rs.map (xW a)))]
theorem wf_eq {l1 l2 : Addr} : wf l1 l2 = ([(("belts" : Str), V.ref l1), (("knots" : Str), V.ref l2)] : List (Str × V)) := by
 unfold wf; simp only [putF]; rw [if_neg (by decide +kernel)]
theorem wk_belts {a : Ad} {bs : List (Int × Int)} {rs : List Row} : ([("belts", .lst (bs.map (xX a))), ("knots", .lst (rs.map (xW a)))] : List (Str × D)).lookup ("belts" : Str) = some (.lst (bs.map (xX a))) := jn
theorem wk_knots {a : Ad} {bs : List (Int × Int)} {rs : List Row} : ([("belts", .lst (bs.map (xX a))), ("knots", .lst (rs.map (xW a)))] : List (Str × D)).lookup ("knots" : Str) = some (.lst (rs.map (xW a))) := (zT (by decide +kernel)).trans jn
theorem wk_no {a : Ad} {bs : List (Int × Int)} {rs : List Row} {f : Str} (h1 : f ≠ "belts") (h2 : f ≠ "knots") : ([("belts", .lst (bs.map (xX a))), ("knots", .lst (rs.map (xW a)))] : List (Str × D)).lookup f = none := (zT h1).trans (zT h2)
theorem at1 {x y : V} : atI [x, y] 1 = some y := rfl
theorem fs_s {fs : List (Str × V)} {k : Str} {ks : List Str} (n : fs.map (·.1) = k :: ks) : ∃ v gs, fs = (k, v) :: gs ∧ gs.map (·.1) = ks := by
 cases fs with
 | nil => cases n
 | cons x gs =>
  obtain ⟨k', v⟩ := x
  injection n with n1 n2
  exact iE2 v gs ⟨by rw [← n1], n2⟩
theorem fs_0 {fs : List (Str × V)} (n : fs.map (·.1) = []) : fs = [] := List.map_eq_nil_iff.mp n
theorem fs2 {H : Hp} {p : Addr → Prop} {fs : List (Str × V)} {k1 k2 : Str} {d1 d2 : D} (n : fs.map (·.1) = [k1, k2]) (g : ∀ (i : Nat) f g, fs[i]? = some f → [(k1, d1), (k2, d2)][i]? = some g → Rep H p f.2 g.2) : ∃ v1 v2, fs = [(k1, v1), (k2, v2)] ∧ Rep H p v1 d1 ∧ Rep H p v2 d2 := by
 obtain ⟨v1, f1, rfl, n1⟩ := fs_s n
 obtain ⟨v2, f2, rfl, n2⟩ := fs_s n1
 obtain rfl := fs_0 n2
 exact ⟨v1, v2, rfl, g 0 _ _ rfl rfl, g 1 _ _ rfl rfl⟩
section
variable {H : Hp} {p : Addr → Prop} {y : Addr} {ins outs kinds : List Int} {pace : Int}
theorem KnP.parter (h : KnP a H p (.ref y) ⟨.parter, ins, outs, pace, kinds⟩) : ∃ dx l1 l2, H y = some (.ins a.Parter dx (kf l1 l2)) ∧ H l2 = some (.lst (iv outs)) := by
 cases h with | ob _ hy n g =>
  obtain ⟨v1, v2, rfl, r1, r2⟩ := fs2 n g
  obtain ⟨l1, rfl, _, _⟩ := r1.ints'
  obtain ⟨l2, rfl, _, h2⟩ := r2.ints'
  exact ⟨_, l1, l2, by rw [xp]; exact hy, h2⟩
theorem KnP.firstp (h : KnP a H p (.ref y) ⟨.first, ins, outs, pace, kinds⟩) : ∃ dx l1 l2, H y = some (.ins a.FirstParter dx (kf l1 l2)) ∧ H l2 = some (.lst (iv outs)) := by
 cases h with | ob _ hy n g =>
  obtain ⟨v1, v2, rfl, r1, r2⟩ := fs2 n g
  obtain ⟨l1, rfl, _, _⟩ := r1.ints'
  obtain ⟨l2, rfl, _, h2⟩ := r2.ints'
  exact ⟨_, l1, l2, by rw [xp]; exact hy, h2⟩
end
theorem vF {H : Hp} {p : Addr → Prop} {v : V} {bs : List (Int × Int)} {rs : List Row} (h : Rep H p v (wL a bs rs)) : ∃ y dx fs l1 l2 bvs kvs, v = .ref y ∧ H y = some (.ins a.Work dx fs) ∧ fs.lookup ("belts" : Str) = some (.ref l1) ∧ fs.lookup ("knots" : Str) = some (.ref l2) ∧
  H l1 = some (.lst bvs) ∧ H l2 = some (.lst kvs) ∧ Bts a H p bvs bs ∧ Kns a H p kvs rs ∧ ∀ f : Str, f ≠ "belts" → f ≠ "knots" → fs.lookup f = none := by
 refine oE3 (Rep.ob' h) fun y dx fs z1_ => oA5 z1_ fun z2_ py hy g1 g2 => ?_
 subst z2_
 obtain ⟨u1, e1, r1⟩ := g1 _ _ wk_belts
 obtain ⟨u2, e2, r2⟩ := g1 _ _ wk_knots
 refine oE2 r1.lst' fun l1 bvs z1_ => oA4 z1_ fun z2_ _ h1 b1 => ?_
 subst z2_
 refine oE2 r2.lst' fun l2 kvs z1_ => oA4 z1_ fun z2_ _ h2 b2 => ?_
 subst z2_
 exact iE7 y dx fs l1 l2 bvs kvs (iA9 rfl hy e1 e2 h1 h2 (.of b1) (.of b2) (fun f n1 n2 => g2 f (wk_no n1 n2)))
theorem vB {H : Hp} {Q : VK} {p : Addr} {xs : List V} (h : H p = some (.lst xs)) (q : Q (.bl true) H) : rIsi K [.ref p, .ty "list"] H Q := ⟨_, _, _, _, rfl, .old (.lst h), .inl ⟨_, rfl, rfl⟩, q⟩
def wU (K : PySem.W.Frag) : Sp := fun vs H Q _ => ∃ (p q : Addr) (ns : List Int), vs = [.ref p, .ref q] ∧ H p = some (.lst (iv ns)) ∧ SqL K H q (iv ns) ∧ ∀ H', Same H H' → Q (.bl true) H'
theorem ok_L_numbers (T : Txt K mg a) (F : Fun K "_law_numbers" "_law_numbers" s_L_numbers f fd) : FnOk P w K mg base (CXr P w) 1 f fd ["_law_found", "_law_due"] (wU K) := by
 refine F.okx sc_L_numbers ?_ ?_
 ·walk_at "i"
 walk_at "k"
 obtain ⟨p, q, ns, rfl, hp, hq, k⟩ := h
 walk_at "T"
 refine ⟨_, (zt (zw (PW.pt (pw_or (zZ (zG (zA qf zr (za (pv 0) (za (vP qO) zb))) (fun _ => rfl))) (pw_or1 (zj (w4 hr.units1) (zA zD zC (za (pv 0) zb)) (zA zD zC (za (pv 1) zb)) (zl _)))))  (zf (zo jr))  zk)  (zt (qy qR rfl (Zn (za (pv 0) (za (pv 1) zb))) (jy (n := 2) rfl (zN (pg_n 2 sc_L_numbers.nd) (zN (pg_n 3 sc_L_numbers.nd) qV)))  (zf (zw (PW.pt (pw_or (zZ (zG (zA qf zr (za (pv 2) (za (vP Qg) zb))) (fun _ => rfl))) (pw_or (zG (zA qf zr (za (pv 2) (za (vP bo_bool) zb))) (fun _ => rfl)) (pw_or1 (zj (w4 hr.units1) (pv 2) (pv 3) (zl _))))))  (zf (zo jr))  zk)))  (zf (zo jr)))), ?_⟩
 walk_at "go"
 refine vB hp ?_
 walk_at "go"
 refine ⟨_, .inl ⟨_, SqL.of hp, rfl⟩, ?_⟩
 walk_at "go"
 refine ⟨_, .inl ⟨_, hq, rfl⟩, ?_⟩
 walk_at "go"
 walk_at "for"
 walk_at "go"
 refine ⟨true, true, p, q, iv ns, iv ns, rfl, SqL.of hp, hq, ?_⟩
 refine Qc (K := K) (xs := iv ns) (ys := iv ns) (fun i σ H' => ∃ v2 v3, σ = [some (.ref p), some (.ref q), v2, v3] ∧ Same H H') ⟨_, _, rfl, Same.refl _⟩ (fun i σ H' _ ⟨_, _, _, s⟩ => ⟨SqL.of (s _ _ hp), s.seq hq⟩) ?_ ?_
 ·rintro i x y t σ H' hi hj ht ⟨v2, v3, rfl, s⟩
  rw [hi] at hj
  cases hj
  obtain ⟨n, _, rfl⟩ := xV hi
  have s2 := s.trans (ze (o := .tup [.int n, .int n]) ht)
  refine un2 upd_same ?_
  walk_at "go"
  exact ⟨_, _, rfl, s2⟩
 ·rintro σ H' ⟨v2, v3, rfl, s⟩
  walk_at "go"
  exact k _ s
theorem qr (T : Txt K mg a) : Cal P w K mg base "_law_numbers" 1 ["_law_found", "_law_due"] [] (wU K) := T.h_L_numbers.cal (ok_L_numbers T)
theorem KT (T : Txt K mg a) (wd : Wd) : PySem.W.kitOne K (.ref (clsA a wd)) (.ref a.Knot) = some true := by
 cases wd
 ·exact T.k1_Source_Knot
 ·exact T.k1_Drain_Knot
 ·exact T.k1_Parter_Knot
 ·exact T.k1_FirstParter_Knot
 ·exact T.k1_Sieve_Knot
 ·exact T.k1_Joiner_Knot
theorem KnP.kind {H : Hp} {p : Addr → Prop} {y : Addr} {r : Row} {dx : Addr} {fs : List (Str × V)} {k : Int} (h : KnP a H p (.ref y) r) (hy : H y = some (.ins (clsA a r.wd) dx fs)) (hw : r.wd = .sieve) (e : r.kinds = [k]) : fs.lookup ("kind" : Str) = some (.int k) := by
 obtain ⟨y', dx', fs', e0, _, hy', g1, _⟩ := Rep.ob' h
 cases e0
 rw [hy'] at hy
 cases hy
 obtain ⟨u, e1, ru⟩ := g1 _ _ (vZ hw e)
 cases ru
 exact e1
theorem wI {n side : Nat} (h : side < n) : jb (List.replicate n true) side = some side := by
 obtain ⟨m, rfl⟩ : ∃ m, n = m + 1 := ⟨n - 1, by omega⟩
 have e : (side + 0) % (m + 1) = side := Nat.mod_eq_of_lt h
 unfold jb
 rw [List.length_replicate]
 unfold fpAt
 rw [List.length_replicate, e, if_pos (by simp [List.getD, h])]
theorem wr {α : Type} (x : α) (i : Nat) : List.replicate i x ++ [x] = x :: List.replicate i x := by rw [← List.replicate_succ', List.replicate_succ]
def vL (a : Ad) : Sp := fun vs H Q _ => ∃ (vm vr : V) (r : Row) (p q : Addr → Prop), vs = [vm, vr] ∧ KnP a H p vm r ∧ Rep H q vr (qY r) ∧ r.ok ∧ ∀ H', Same H H' → Q (.bl true) H'
theorem ok_L_is_part (T : Txt K mg a) (F : Fun K "_law_is_part" "_law_is_part" s_L_is_part f fd) : FnOk P w K mg base (CXr P w) 4 f fd ["_law_knot", "_law_part"] (vL a) := by
 refine F.okx sc_L_is_part ?_ ?_
 ·walk_at "i"
 walk_at "j"
 obtain ⟨vm, vr, r, p, q, rfl, hm, hr', ok, k⟩ := h
 obtain ⟨y, dx, l1, l2, l3, fs, rfl, _, _, _, _, hy, e1, e2, _, h1, h2, e3, e4⟩ := hm.inv
 obtain ⟨t, m1, m2, m3, rfl, ht, g1, g2, g3, _⟩ := wv hr'
 walk_at "T"
 refine ⟨_, (zt (ps_asg (pv 1) (jy (n := 4) rfl (zN (pg_n 2 sc_L_is_part.nd) (zN (pg_n 3 sc_L_is_part.nd) (zN (pg_n 4 sc_L_is_part.nd) (zN (pg_n 5 sc_L_is_part.nd) qV))))))  (zt (zw (PW.pt (pw_or (zZ (zG (zA qf zr (za (pv 0) (za qk zb))) (fun _ => rfl))) (pw_or (zZ (zG (zH ⟨rfl, rfl, rfl⟩ hr (za (zy (pv 0) rfl) (za (pv 3) zb))) (fun _ => rfl))) (pw_or1 (zZ (zG (zH ⟨rfl, rfl, rfl⟩ hr (za (zy (pv 0) rfl) (za (pv 4) zb))) (fun _ => rfl)))))))  (zf (zo jr))  zk)  (zt (zw (zj (zK hr.units1) (pv 2) zu (zl _))  (zf (zo (jY (zA qf zr (za (pv 0) (za qk zb))) (jY (zH ⟨rfl, rfl, rfl⟩ hr (za (zz (za (zy (pv 0) rfl) zb)) (za (zV qm (pv 5) qg (zX zd)) zb))) (xD (zH ⟨rfl, rfl, rfl⟩ hr (za (zy (pv 0) rfl) (za (zV qm (pv 5) (zX zd) qg) zb))))))))  zk)  (zt (zw (zj (zK hr.units1) (pv 2) zu (zl _))  (zf (zo (jY (zA qf zr (za (pv 0) (za qk zb))) (xD (zH ⟨rfl, rfl, rfl⟩ hr (za (zz (za (zy (pv 0) rfl) zb)) (za (pv 5) zb)))))))  zk)  (zt (zw (zj (zK hr.units1) (pv 2) zu (zl _))  (zf (zo (jY (zA qf zr (za (pv 0) (za qk zb))) (xD (zH ⟨rfl, rfl, rfl⟩ hr (za (zz (za (zy (pv 0) rfl) zb)) (za (pv 5) zb)))))))  zk)  (zt (vO (i := 6) sc_L_is_part.nd rfl (Or.inl rfl) (vars := ["_law_at"]) (caps := []) (N := ["_law_at"]) (ON := ["_law_knot", "_law_part", "_law_word", "_law_ins", "_law_outs", "_law_numbers_here", "_law_free"]) (osc := zg s_L_is_part) rfl rfl (by first | decide +kernel | kernel_rfl) rfl rfl (ql (pv 4)) (fun s H fp pins => (pg_n 0 (show (["_law_at"] : List Str).Nodup from by decide +kernel))) (fun s H fp pins => qt) (fun s H fp pins => jr))  (zt (zw (zj (zK hr.units1) (pv 2) zu (zl _))  (zf (zo (jY (zA qf zr (za (pv 0) (za qk zb))) (xD (xi (zK hr.units1) (Z7 ⟨rfl, rfl, rfl⟩ hr (pv 0) (za (zz (za zd zb)) (za (pv 6) (za zd (za zd zb))))) (qo (za zd (za zd (za (zi zL zd (zA zD zC (za (pv 4) zb))) zb)))) (zl _))))))  zk)  (zt (zw (zj (zK hr.units1) (pv 2) zu (zl _))  (zf (zo (jY (zA qf zr (za (pv 0) (za qk zb))) (xD (xi (zK hr.units1) (Z7 ⟨rfl, rfl, rfl⟩ hr (pv 0) (za (zz (za zd zb)) (za (pv 6) (za zd (za zd zb))))) (qo (za zd (za zd (za zd zb)))) (zl _))))))  zk)  (zf (zo (zA qf zr (za (pv 0) (za qk zb))))))))))))), ?_⟩
 walk_at "go"
 refine ⟨t, _, rfl, SqT.of ht, rfl, _, _, rfl, _, _, rfl, _, _, rfl, _, _, rfl, rfl, ?_⟩
 walk_at "go"
 refine ⟨.ref a.Knot, _, T.g_Knot, rfl, _, _, _, _, rfl, (WT T _).ty (CT T _) hy, .inl ⟨_, rfl, KT T _⟩, ?_⟩
 walk_at "go"
 refine uc (qr T).mono (ra hy (CT T _) (NI T _) e1 ?_)
 refine ⟨l1, m1, r.ins, rfl, h1, SqL.of g1, fun H1 s1 => ?_⟩
 walk_at "go"
 refine uc (qr T).mono (ra (s1 _ _ hy) (CT T _) (NO T _) e2 ?_)
 refine ⟨l2, m2, r.outs, rfl, s1 _ _ h2, SqL.of (s1 _ _ g2), fun H2 s2 => ?_⟩
 have s12 := s1.trans s2
 have hy2 := s12 _ _ hy
 have gg2 := s12 _ _ g2
 have gg3 := s12 _ _ g3
 have hm2 : KnP a H2 (fun _ => True) (.ref y) r := hm.keep fun b o _ hb => ⟨trivial, s12 _ _ hb⟩
 walk_at "go"
 obtain ⟨wd, ins, outs, pc, ks⟩ := r
 cases wd
 ·walk_at "go"
  refine ⟨.ref a.Source, _, T.g_Source, rfl, _, _, _, _, rfl, T.W_Source.ty T.C_Source hy2, .inl ⟨_, rfl, T.k1_Source_Source⟩, ?_⟩
  walk_at "go"
  refine uc (qr T).mono (ra hy2 T.C_Source T.N_Source_pace (e4 (.inl rfl)) (fun q1 hq1 => ?_))
  have s3 := ze (o := .lst [V.int pc]) hq1
  have hq1' : upd H2 q1 (.lst [V.int pc]) q1 = some (.lst (iv [pc])) := upd_same
  generalize upd H2 q1 (.lst [V.int pc]) = H3 at s3 hq1' ⊢
  refine qD (SqL.of (s3 _ _ gg3)) fun q2 hq2 => ?_
  rw [show cutV (iv (z6 ⟨.source, ins, outs, pc, ks⟩)) none (some 1) = iv [pc] from (wM (iv (pc :: ks)) 1 (by simp [iv])).trans rfl] at *
  have s4 := ze (o := .lst (iv [pc])) hq2
  refine ⟨q1, q2, [pc], rfl, s4 _ _ hq1', SqL.of upd_same, fun H5 s5 => ?_⟩
  have s25 := (s3.trans s4).trans s5
  walk_at "go"
  refine uc (qr T).mono (ra (s25 _ _ hy2) T.C_Source T.N_Source_kinds ((e3 rfl).1) ?_)
  refine qD (SqL.of (s25 _ _ gg3)) fun q3 hq3 => ?_
  rw [show cutV (iv (z6 ⟨.source, ins, outs, pc, ks⟩)) (some 1) none = iv ks from (qC (iv (pc :: ks)) 1 (by simp [iv])).trans rfl] at *
  have s6 := ze (o := .lst (iv ks)) hq3
  exact ⟨l3, q3, ks, rfl, s6 _ _ (s25 _ _ (s12 _ _ (e3 rfl).2)), SqL.of upd_same, fun H7 s7 => k _ (((s12.trans s25).trans s6).trans s7)⟩
 ·walk_at "go"
  refine ⟨.ref a.Drain, _, T.g_Drain, rfl, _, _, _, _, rfl, T.W_Drain.ty T.C_Drain hy2, .inl ⟨_, rfl, T.k1_Drain_Drain⟩, ?_⟩
  walk_at "go"
  refine uc (qr T).mono (ra hy2 T.C_Drain T.N_Drain_pace (e4 (.inr rfl)) (fun q1 hq1 => ?_))
  have s3 := ze (o := .lst [V.int pc]) hq1
  exact ⟨q1, m3, [pc], rfl, upd_same, SqL.of (s3 _ _ gg3), fun H7 s7 => k _ ((s12.trans s3).trans s7)⟩
 ·walk_at "go"
  refine ite2 (fun z => absurd z (by decide +kernel)) (fun _ => ?_)
  walk_at "go"
  refine ite2 (fun z => absurd z (by decide +kernel)) (fun _ => ?_)
  walk_at "go"
  refine ite2 (fun z => absurd z (by decide +kernel)) (fun _ => ?_)
  walk_at "go"
  have o4 : outs.length ≤ 4 := ok.2.2
  have o2 : 2 ≤ outs.length := ok.2.1
  walk_at "lc"
  walk_at "go"
  refine ⟨m2, rfl, .inl ⟨⟨_, SqL.of gg2⟩, fun _ _ _ _ acc hacc => ?_⟩⟩
  refine qx (K := K) (a := m2) (xs := iv outs) (fun i σ H' => ∃ v, σ = [v] ∧ Same H2 H' ∧ H' acc = some (.lst (List.replicate i (.bl true)))) ⟨_, rfl, ze hacc, upd_same⟩ (fun i σ H' _ h => by obtain ⟨_, _, s, _⟩ := h; exact SqL.of (s _ _ gg2)) ?_ ?_
  ·rintro i x σ H' hi ⟨v, rfl, s3, e5⟩
   have hil := (List.getElem?_eq_some_iff.mp hi).1
   rw [zm] at hil
   walk_at "go"
   refine ⟨_, e5, zq (by rw [List.length_replicate]; omega), _, rfl, fun b o hb => ?_, ?_⟩
   ·rw [upd_ne (ne_of_none hb hacc)]; exact s3 b o hb
   ·rw [upd_same]; exact congrArg (fun z => some (HO.lst z)) (wr _ _)
  rintro σ H3 ⟨v, rfl, s3, e5⟩
  rw [zm, ← List.map_replicate] at e5
  have hy3 := s3 _ _ hy2
  have s13 := s12.trans s3
  refine ite2 (fun _ => ?_) (fun z => absurd rfl z)
  refine ⟨m_isinstance, .ref a.Parter, _, T.g_Parter, rfl, _, _, _, _, rfl, T.W_Parter.ty T.C_Parter hy3, .inl ⟨_, rfl, T.k1_Parter_Parter⟩, true, rfl, ?_⟩
  walk_at "go"
  obtain ⟨dx', j1, j2, hyk, hj2⟩ := (hm2.keep (q := fun _ => True) fun b o _ hb => ⟨trivial, s3 _ _ hb⟩).parter
  refine ⟨y, a.Parter, dx', kf j1 j2, _, _, _, rfl, hyk, by rw [xp]; exact (zT (by decide +kernel)).trans ((zT (by decide +kernel)).trans rfl), (m_Parter_choice T).mono, fun ph hph => ?_⟩
  have s4 := ze (o := .lst [.int 5]) hph
  refine ⟨y, dx', j1, j2, ph, acc, .int 0, 1, .int 5, [], iv outs, List.replicate outs.length true, rfl, s4 _ _ hyk, s4 _ _ hj2, SqL.of upd_same, SqL.of (s4 _ _ e5), by rw [List.length_replicate, zm], by rw [List.length_replicate]; omega, fun v H5 s5 tv => ?_⟩
  rw [if_neg (fun z => nomatch z), wI o2, List.length_replicate] at tv
  obtain ⟨qv, rfl, hqv⟩ := tv
  refine ⟨m_len, _, .inl ⟨_, SqL.of (s5 _ _ (s4 _ _ (s3 _ _ gg2))), rfl⟩, ?_⟩
  rw [zm]
  refine ⟨by show (0 : Int) < (outs.length : Nat); omega, fun pt hpt => ?_⟩
  exact Z6 (SqT.of (upd_keep hqv hpt)) (SqT.of upd_same) rfl (by simp [qK, eqV]) (k _ (((s13.trans s4).trans s5).trans (ze hpt)))
 ·walk_at "go"
  refine ite2 (fun z => absurd z (by decide +kernel)) (fun _ => ?_)
  walk_at "go"
  refine ite2 (fun z => absurd z (by decide +kernel)) (fun _ => ?_)
  walk_at "go"
  refine ite2 (fun z => absurd z (by decide +kernel)) (fun _ => ?_)
  walk_at "go"
  have o4 : outs.length ≤ 4 := ok.2.2
  have o2 : 2 ≤ outs.length := ok.2.1
  walk_at "lc"
  walk_at "go"
  refine ⟨m2, rfl, .inl ⟨⟨_, SqL.of gg2⟩, fun _ _ _ _ acc hacc => ?_⟩⟩
  refine qx (K := K) (a := m2) (xs := iv outs) (fun i σ H' => ∃ v, σ = [v] ∧ Same H2 H' ∧ H' acc = some (.lst (List.replicate i (.bl true)))) ⟨_, rfl, ze hacc, upd_same⟩ (fun i σ H' _ h => by obtain ⟨_, _, s, _⟩ := h; exact SqL.of (s _ _ gg2)) ?_ ?_
  ·rintro i x σ H' hi ⟨v, rfl, s3, e5⟩
   have hil := (List.getElem?_eq_some_iff.mp hi).1
   rw [zm] at hil
   walk_at "go"
   refine ⟨_, e5, zq (by rw [List.length_replicate]; omega), _, rfl, fun b o hb => ?_, ?_⟩
   ·rw [upd_ne (ne_of_none hb hacc)]; exact s3 b o hb
   ·rw [upd_same]; exact congrArg (fun z => some (HO.lst z)) (wr _ _)
  rintro σ H3 ⟨v, rfl, s3, e5⟩
  rw [zm, ← List.map_replicate] at e5
  have hy3 := s3 _ _ hy2
  have s13 := s12.trans s3
  refine ite2 (fun z => absurd z (by decide +kernel)) (fun _ => ?_)
  walk_at "go"
  refine ⟨.ref a.FirstParter, _, T.g_FirstParter, rfl, _, _, _, _, rfl, T.W_FirstParter.ty T.C_FirstParter hy3, .inl ⟨_, rfl, T.k1_FirstParter_FirstParter⟩, ?_⟩
  walk_at "go"
  obtain ⟨dx', j1, j2, hyk, hj2⟩ := (hm2.keep (q := fun _ => True) fun b o _ hb => ⟨trivial, s3 _ _ hb⟩).firstp
  refine ⟨y, a.FirstParter, dx', kf j1 j2, _, _, _, rfl, hyk, by rw [xp]; exact (zT (by decide +kernel)).trans ((zT (by decide +kernel)).trans rfl), (m_FirstParter_choice T).mono, fun ph hph => ?_⟩
  have s4 := ze (o := .lst [.int 5]) hph
  refine ⟨y, ph, acc, .int 0, .int 0, .int 5, [], List.replicate outs.length true, rfl, SqL.of upd_same, SqL.of (s4 _ _ e5), by rw [List.length_replicate]; omega, fun v H5 s5 tv => ?_⟩
  rw [if_neg (fun z => nomatch z), wI (by omega)] at tv
  obtain ⟨qv, rfl, hqv⟩ := tv
  intro pt hpt
  exact Z6 (SqT.of (upd_keep hqv hpt)) (SqT.of upd_same) rfl (by simp [qK, eqV]) (k _ (((s13.trans s4).trans s5).trans (ze hpt)))
 ·walk_at "go"
  refine ⟨.ref a.Sieve, _, T.g_Sieve, rfl, _, _, _, _, rfl, T.W_Sieve.ty T.C_Sieve hy2, .inl ⟨_, rfl, T.k1_Sieve_Sieve⟩, ?_⟩
  walk_at "go"
  obtain ⟨_, _, kk, ek, _⟩ := ok
  simp only at ek
  subst ek
  refine uc (qr T).mono (ra hy2 T.C_Sieve T.N_Sieve_kind (hm.kind hy rfl rfl) (fun q1 hq1 => ?_))
  have s3 := ze (o := .lst [V.int kk]) hq1
  exact ⟨q1, m3, [kk], rfl, upd_same, SqL.of (s3 _ _ gg3), fun H7 s7 => k _ ((s12.trans s3).trans s7)⟩
 ·walk_at "go"
  refine ite2 (fun z => absurd z (by decide +kernel)) (fun _ => ?_)
  walk_at "go"
  refine ite2 (fun z => absurd z (by decide +kernel)) (fun _ => ?_)
  walk_at "go"
  refine ite2 (fun z => absurd z (by decide +kernel)) (fun _ => ?_)
  walk_at "go"
  have o4 : outs.length ≤ 4 := by obtain ⟨⟨o, e⟩, _⟩ := ok; simp only at e; rw [e]; simp
  walk_at "lc"
  walk_at "go"
  refine ⟨m2, rfl, .inl ⟨⟨_, SqL.of gg2⟩, fun _ _ _ _ acc hacc => ?_⟩⟩
  refine qx (K := K) (a := m2) (xs := iv outs) (fun i σ H' => ∃ v, σ = [v] ∧ Same H2 H' ∧ H' acc = some (.lst (List.replicate i (.bl true)))) ⟨_, rfl, ze hacc, upd_same⟩ (fun i σ H' _ h => by obtain ⟨_, _, s, _⟩ := h; exact SqL.of (s _ _ gg2)) ?_ ?_
  ·rintro i x σ H' hi ⟨v, rfl, s3, e5⟩
   have hil := (List.getElem?_eq_some_iff.mp hi).1
   rw [zm] at hil
   walk_at "go"
   refine ⟨_, e5, zq (by rw [List.length_replicate]; omega), _, rfl, fun b o hb => ?_, ?_⟩
   ·rw [upd_ne (ne_of_none hb hacc)]; exact s3 b o hb
   ·rw [upd_same]; exact congrArg (fun z => some (HO.lst z)) (wr _ _)
  rintro σ H3 ⟨v, rfl, s3, e5⟩
  rw [zm, ← List.map_replicate] at e5
  have hy3 := s3 _ _ hy2
  have s13 := s12.trans s3
  refine ite2 (fun z => absurd z (by decide +kernel)) (fun _ => ?_)
  walk_at "go"
  refine ⟨.ref a.Joiner, _, T.g_Joiner, rfl, _, _, _, _, rfl, T.W_Joiner.ty T.C_Joiner hy3, .inl ⟨_, rfl, T.k1_Joiner_Joiner⟩, ?_⟩
  walk_at "go"
  exact k _ s13
theorem c_L_is_part (T : Txt K mg a) : Cal P w K mg base "_law_is_part" 4 ["_law_knot", "_law_part"] [] (vL a) := T.h_L_is_part.cal (ok_L_is_part T)
def wn (a : Ad) : Sp := fun vs H Q _ => ∃ (vm vd : V) (bs : List (Int × Int)) (rs : List Row) (p q : Addr → Prop), vs = [vm, vd] ∧ Rep H p vm (wL a bs rs) ∧ Rep H q vd (.tup [.lst (bs.map js), .lst (rs.map qY)]) ∧ (∀ r ∈ rs, r.ok) ∧ ∀ H', Same H H' → Q (.bl true) H'
theorem j4 {a : Ad} {vs : List V} {H : Hp} {Q : VK} {E : XK} (vm vd : V) (bs : List (Int × Int)) (rs : List Row) (p q : Addr → Prop) (q0 : vs = [vm, vd]) (q1 : Rep H p vm (wL a bs rs)) (q2 : Rep H q vd (.tup [.lst (bs.map js), .lst (rs.map qY)])) (q3 : (∀ r ∈ rs, r.ok)) (q4 : ∀ H', Same H H' → Q (.bl true) H') : wn a vs H Q E := ⟨vm, vd, bs, rs, p, q, q0, q1, q2, q3, q4⟩
theorem ok_L_is_work (T : Txt K mg a) (F : Fun K "_law_is_work" "_law_is_work" s_L_is_work f fd) : FnOk P w K mg base (CXr P w) 5 f fd ["_law_work", "_law_made"] (wn a) := by
 refine F.okx sc_L_is_work ?_ ?_
 ·walk_at "i"
 walk_at "j"
 obtain ⟨vm, vd, bs, rs, p, q, rfl, hm, hd, ro, k⟩ := h
 obtain ⟨y, dx, fs, l1, l2, bvs, kvs, rfl, hy, e1, e2, h1, h2, hB, hK, _⟩ := vF hm
 obtain ⟨t0, us0, rfl, _, ht0, rr0⟩ := hd.tup'
 obtain ⟨v1, v2, rfl⟩ := two_of rr0.len
 obtain ⟨L1, u1, rfl, _, hL1, ru1⟩ := (rr0.g 0 v1 _ rfl rfl).lst'
 obtain ⟨LR, u2, rfl, _, hL2, ru2⟩ := (rr0.g 1 v2 _ rfl rfl).lst'
 have b1 : u1.length = bs.length := by rw [ru1.len, List.length_map]
 have b2 : u2.length = rs.length := by rw [ru2.len, List.length_map]
 have b3 := hB.len
 have b4 := hK.len
 walk_at "T"
 refine ⟨_, (zh (zw (PW.pt (pw_or (zZ (zG (zA qf zr (za (pv 0) (za qk zb))) (fun _ => rfl))) (pw_or (zZ (zG (zA qf zr (za (zy (pv 0) rfl) (za (vP qO) zb))) (fun _ => rfl))) (pw_or1 (zZ (zG (zA qf zr (za (zy (pv 0) rfl) (za (vP qO) zb))) (fun _ => rfl)))))))  (zf (zo jr))  zk)  (zh (zw (PW.pt (pw_or (zj (w4 hr.units1) (zA zD zC (za (zy (pv 0) rfl) zb)) (zA zD zC (za (zR (pv 1) zd) zb)) (zl _)) (pw_or1 (zj (w4 hr.units1) (zA zD zC (za (zy (pv 0) rfl) zb)) (zA zD zC (za (zR (pv 1) zd) zb)) (zl _)))))  (zf (zo jr))  zk)  (qc (qy qR rfl (Zn (za (zy (pv 0) rfl) (za (zR (pv 1) zd) zb))) (jy (n := 2) rfl (zN (pg_n 2 sc_L_is_work.nd) (zN (pg_n 3 sc_L_is_work.nd) qV)))  (zf (zw (PW.pt (pw_or (zZ (zG (zA qf zr (za (pv 2) (za qk zb))) (fun _ => rfl))) (pw_or1 (zZ (zG (zH ⟨rfl, rfl, rfl⟩ hr (za (zz (za (zy (pv 2) rfl) (za (zy (pv 2) rfl) zb))) (za (jz xw qO (za (pv 3) zb)) zb))) (fun _ => rfl))))))  (zf (zo jr))  zk)))  (qc (qy qR rfl (Zn (za (zy (pv 0) rfl) (za (zR (pv 1) zd) zb))) (jy (n := 2) rfl (zN (pg_n 4 sc_L_is_work.nd) (zN (pg_n 5 sc_L_is_work.nd) qV)))  (zf (zw (zZ (zG (zH ⟨rfl, rfl, rfl⟩ hr (za (pv 4) (za (pv 5) zb))) (fun _ => rfl)))  (zf (zo jr))  zk)))  (zf (zo jr)))))), ?_⟩
 walk_at "go"
 refine ⟨.ref a.Work, _, T.g_Work, rfl, _, _, _, _, rfl, T.W_Work.ty T.C_Work hy, .inl ⟨_, rfl, T.k1_Work_Work⟩, ?_⟩
 walk_at "go"
 refine ra hy T.C_Work T.N_Work_belts e1 ?_
 walk_at "go"
 refine vB h1 ?_
 walk_at "go"
 refine ra hy T.C_Work T.N_Work_knots e2 ?_
 walk_at "go"
 refine vB h2 ?_
 walk_at "go"
 refine ra hy T.C_Work T.N_Work_belts e1 ⟨_, .inl ⟨_, SqL.of h1, rfl⟩, ?_⟩
 walk_at "go"
 refine rd_ixT ht0 at0 ?_
 refine ⟨_, .inl ⟨_, SqL.of hL1, rfl⟩, ?_⟩
 rw [b1, b3]
 refine ite2 (fun z => absurd rfl z) (fun _ => ?_)
 walk_at "go"
 refine ra hy T.C_Work T.N_Work_knots e2 ⟨_, .inl ⟨_, SqL.of h2, rfl⟩, ?_⟩
 walk_at "go"
 refine rd_ixT ht0 at1 ?_
 refine ⟨_, .inl ⟨_, SqL.of hL2, rfl⟩, ?_⟩
 rw [b2, b4]
 refine ite2 (fun z => absurd rfl z) (fun _ => ?_)
 walk_at "go"
 refine cut (fun σ' H' => ∃ (v3 v4 : Option V), σ' = [some (.ref y), some (.ref t0), v3, v4, none, none] ∧ Same H H') ?_ ?_
 ·walk_at "for"
  walk_at "go"
  refine ra hy T.C_Work T.N_Work_belts e1 ?_
  walk_at "go"
  refine rd_ixT ht0 at0 ?_
  refine ⟨true, true, l1, L1, _, _, rfl, SqL.of h1, SqL.of hL1, ?_⟩
  refine Qc (K := K) (xs := bvs) (ys := u1) (fun i σ H' => ∃ (v3 v4 : Option V), σ = [some (.ref y), some (.ref t0), v3, v4, none, none] ∧ Same H H') ⟨_, _, rfl, Same.refl _⟩ (fun i σ H' _ h => by obtain ⟨_, _, _, s⟩ := h; exact ⟨SqL.of (s _ _ h1), SqL.of (s _ _ hL1)⟩) ?_ ?_
  ·rintro i x z t σ H2 hi hj ht ⟨v3, v4, rfl, s2⟩
   have s3 := s2.trans (ze (o := .tup [x, z]) ht)
   obtain ⟨b, hb, hBt⟩ := hB.at hi
   have rz := ru1.g i z (js b) hj (by rw [List.getElem?_map, hb]; rfl)
   refine un2 upd_same ?_
   generalize upd H2 t (.tup [x, z]) = H3 at s3 ⊢
   walk_at "go"
   obtain ⟨yb, dxb, fb, rfl, _, hyb, f1, f2⟩ := (hBt.keep (q := p) (fun c o pc hc => ⟨pc, s3 _ _ hc⟩)).inv
   obtain ⟨tp, rfl, htp⟩ := vQ (rz.keep (q := q) (fun c o pc hc => ⟨pc, s3 _ _ hc⟩))
   refine ⟨.ref a.Belt, _, T.g_Belt, rfl, _, _, _, _, rfl, T.W_Belt.ty T.C_Belt hyb, .inl ⟨_, rfl, T.k1_Belt_Belt⟩, ?_⟩
   walk_at "go"
   refine uc (qr T).mono (ra hyb T.C_Belt T.N_Belt_room f1 (ra hyb T.C_Belt T.N_Belt_pace f2 (fun q1 hq1 => ?_)))
   have s4 := ze (o := .lst [.int b.1, .int b.2]) hq1
   walk_at "go"
   refine ⟨tp, _, rfl, .inr (SqT.of (s4 _ _ htp)), fun q2 hq2 => ?_⟩
   have s5 := ze (o := .lst [.int b.1, .int b.2]) hq2
   refine ⟨q1, q2, [b.1, b.2], rfl, s5 _ _ upd_same, SqL.of upd_same, fun H6 s6 => ?_⟩
   walk_at "go"
   exact ⟨_, _, rfl, ((s3.trans s4).trans s5).trans s6⟩
  ·rintro σ H2 ⟨v3, v4, rfl, s2⟩
   exact ⟨_, _, rfl, s2⟩
 rintro σ' H2 ⟨v3, v4, rfl, s2⟩
 walk_at "go"
 refine cut (fun σ' H' => ∃ (v5 v6 : Option V), σ' = [some (.ref y), some (.ref t0), v3, v4, v5, v6] ∧ Same H H') ?_ ?_
 ·walk_at "for"
  walk_at "go"
  refine ra (s2 _ _ hy) T.C_Work T.N_Work_knots e2 ?_
  walk_at "go"
  refine rd_ixT (s2 _ _ ht0) at1 ?_
  refine ⟨true, true, l2, LR, _, _, rfl, SqL.of (s2 _ _ h2), SqL.of (s2 _ _ hL2), ?_⟩
  refine Qc (K := K) (xs := kvs) (ys := u2) (fun i σ H' => ∃ (v5 v6 : Option V), σ = [some (.ref y), some (.ref t0), v3, v4, v5, v6] ∧ Same H H') ⟨_, _, rfl, s2⟩ (fun i σ H' _ h => by obtain ⟨_, _, _, s⟩ := h; exact ⟨SqL.of (s _ _ h2), SqL.of (s _ _ hL2)⟩) ?_ ?_
  ·rintro i x z t σ H3 hi hj ht ⟨v5, v6, rfl, s3⟩
   have s4 := s3.trans (ze (o := .tup [x, z]) ht)
   obtain ⟨r, hr', hKn⟩ := hK.at hi
   have rz := ru2.g i z (qY r) hj (by rw [List.getElem?_map, hr']; rfl)
   refine un2 upd_same ?_
   generalize upd H3 t (.tup [x, z]) = H4 at s4 ⊢
   walk_at "go"
   refine uc (c_L_is_part T).mono ⟨x, z, r, p, q, rfl, hKn.keep (fun c o pc hc => ⟨pc, s4 _ _ hc⟩), rz.keep (fun c o pc hc => ⟨pc, s4 _ _ hc⟩), ro r (List.mem_of_getElem? hr'), fun H5 s5 => ?_⟩
   walk_at "go"
   exact ⟨_, _, rfl, s4.trans s5⟩
  ·rintro σ H3 ⟨v5, v6, rfl, s3⟩
   exact ⟨_, _, rfl, s3⟩
 rintro σ' H3 ⟨v5, v6, rfl, s3⟩
 walk_at "go"
 exact k _ s3
theorem jJ (T : Txt K mg a) : Cal P w K mg base "_law_is_work" 5 ["_law_work", "_law_made"] [] (wn a) := T.h_L_is_work.cal (ok_L_is_work T)
abbrev intS (i : Int) : Str := toString i
theorem jd {n : Int} (h0 : 0 ≤ n) (h1 : n < zJ) : n.natAbs.log2 < 1920 := by
 rcases Nat.eq_zero_or_pos n.natAbs with z | z
 ·rw [z]; decide
 ·refine (Nat.log2_lt (by omega)).mpr (Nat.lt_of_lt_of_le (show n.natAbs < 1000000000000000000000000000000 by unfold zJ at h1; omega) (by decide +kernel))
theorem qG {n : Int} (h0 : 0 ≤ n) (h1 : n < zJ) : (intS n).length ≤ 1921 := PyProof.Rows.int_text_len_1921 (jd h0 h1)
theorem j8 {xs : List Str} {m : Nat} (h : ∀ x ∈ xs, x.length ≤ m) : (xs.map (·.length)).sum ≤ xs.length * m := by
 induction xs with
 | nil => simp
 | cons x xs ih =>
  have h1 := h x (List.mem_cons_self ..)
  have h2 := ih fun y hy => h y (List.mem_cons_of_mem _ hy)
  simp only [List.map_cons, List.sum_cons, List.length_cons, Nat.succ_mul]
  omega
theorem ju {H : Hp} {x : Str} : tyV K "str" (.str x) H := by trivial
def jR (nm : Str) (ns : List Int) : Str := Str.join " " (nm :: ns.map intS)
def ZA (K : PySem.W.Frag) : Sp := fun vs H Q _ => ∃ (nm : Str) (l : Addr) (ns : List Int), vs = [.str nm, .ref l] ∧ SqL K H l (iv ns) ∧ nm.length ≤ 100 ∧ ns.length ≤ 20 ∧ (∀ n ∈ ns, 0 ≤ n ∧ n < zJ) ∧ ∀ H', Same H H' → Q (.str (jR nm ns)) H'
theorem ok_row_of (T : Txt K mg a) (F : Fun K "row_of" "row_of" s_row_of f fd) : FnOk P w K mg base (CXr P w) 1 f fd ["name", "numbers"] (ZA K) := by
 refine F.okx sc_row_of ?_ ?_
 ·walk_at "i"
 walk_at "j"
 obtain ⟨nm, l, ns, rfl, hl, n100, n20, hk, k⟩ := h
 walk_at "T"
 refine ⟨_, (zf (zo (zW PySem.F.plainAttrs_str PySem.F.slot_str_join PySem.F.type_str_join xm zu (za (zi zB (zz (za (pv 0) zb)) (xR (vars := ["number"]) (caps := []) (N := ["number"]) (ON := ["name", "numbers"]) (osc := zg s_row_of) rfl rfl (by first | decide +kernel | kernel_rfl) rfl rfl (ql (pv 1)) (fun s H fp pins => (pg_n 0 (show (["number"] : List Str).Nodup from by decide +kernel))) (fun s H fp pins => qt) (fun s H fp pins => (jz vC vD (za (pv 0) zb))))) zb)))), ?_⟩
 walk_at "go"
 refine ⟨ju, fun q1 hq1 => ?_⟩
 have s1 := ze (o := .lst [.str nm]) hq1
 have g1 : upd H q1 (.lst [.str nm]) q1 = some (.lst [.str nm]) := upd_same
 generalize upd H q1 (.lst [.str nm]) = H1 at s1 g1 ⊢
 walk_at "lc"
 walk_at "go"
 refine ⟨l, rfl, .inl ⟨⟨_, qQ s1 hl⟩, fun _ _ _ _ acc hacc => ?_⟩⟩
 refine qx (K := K) (a := l) (xs := iv ns) (fun i σ H' => ∃ v, σ = [v] ∧ Same H1 H' ∧ H' acc = some (.lst (((ns.take i).map intS).map V.str))) ⟨_, rfl, ze hacc, upd_same⟩ (fun i σ H' _ h => by obtain ⟨_, _, s, _⟩ := h; exact qQ (s1.trans s) hl) ?_ ?_
 ·rintro i x σ H2 hi ⟨v, rfl, s2, e2⟩
  obtain ⟨y, hy, rfl⟩ := xV hi
  have hyl := (List.getElem?_eq_some_iff.mp hy).1
  have yb := hk y (List.mem_of_getElem? hy)
  walk_at "go"
  refine ⟨jd yb.1 yb.2, _, e2, zq (by rw [List.length_map, List.length_map, List.length_take]; omega), _, rfl, fun b o hb => ?_, ?_⟩
  ·rw [upd_ne (ne_of_none hb hacc)]; exact s2 b o hb
  ·rw [upd_same, List.take_add_one, hy, List.map_append, List.map_append]; rfl
 rintro σ H2 ⟨v, rfl, s2, e2⟩
 rw [zm, List.take_length] at e2
 walk_at "go"
 refine qa (SqL.of (s2 _ _ g1)) (SqL.of e2) (z9 (by rw [List.length_map, List.length_map]; simp; omega)) fun q2 hq2 => ?_
 have hb : ∀ x ∈ nm :: ns.map intS, x.length ≤ 1921 := fun x hx => by
  rcases List.mem_cons.mp hx with rfl | hx
  ·omega
  ·obtain ⟨n, hn, rfl⟩ := List.mem_map.mp hx
   exact qG (hk n hn).1 (hk n hn).2
 have sl := j8 hb
 rw [List.length_cons, List.length_map] at sl
 refine ⟨_, q2, nm :: ns.map intS, rfl, rfl, by rw [upd_same]; rfl, ?_, k _ ((s1.trans s2).trans (ze hq2))⟩
 rw [List.length_cons, List.length_map]
 have : (Str.ofString " ").length = 1 := by decide +kernel
 rw [this]
 omega
theorem qT (T : Txt K mg a) : Cal P w K mg base "row_of" 1 ["name", "numbers"] [] (ZA K) := T.h_row_of.cal (ok_row_of T)
def zn (r : Row) : List Int := if r.wd = .joiner then r.outs ++ r.ins else r.ins ++ r.outs ++ z6 r
def rowS (r : Row) : Str := jR (wdS r.wd) (zn r)
theorem xl {r : Row} (h : r.ok) : (zn r).length ≤ 20 := by
 have h4 := vz h
 obtain ⟨wd, ins, outs, pc, ks⟩ := r
 simp only at h4
 cases wd
 ·obtain ⟨_, _, _, _, _, h6, _⟩ := h
  simp only at h6
  simp only [zn, z6, reduceCtorEq, if_false, List.length_append, List.length_cons]
  omega
 ·simp only [zn, z6, reduceCtorEq, if_false, List.length_append, List.length_cons, List.length_nil]
  omega
 ·simp only [zn, z6, reduceCtorEq, if_false, List.length_append, List.length_cons, List.length_nil]
  omega
 ·simp only [zn, z6, reduceCtorEq, if_false, List.length_append, List.length_cons, List.length_nil]
  omega
 ·obtain ⟨_, _, kk, ek, _⟩ := h
  simp only at ek
  subst ek
  simp only [zn, z6, reduceCtorEq, if_false, List.length_append, List.length_cons, List.length_nil]
  omega
 ·simp only [zn, if_true, List.length_append]
  omega
def wV (a : Ad) : Sp := fun vs H Q _ => ∃ (v : V) (r : Row) (p : Addr → Prop), vs = [v] ∧ KnP a H p v r ∧ r.ok ∧ (∀ n ∈ zn r, 0 ≤ n ∧ n < zJ) ∧ ∀ H', Same H H' → Q (.str (rowS r)) H'
theorem ok_knot_row (T : Txt K mg a) (F : Fun K "knot_row" "knot_row" s_knot_row f fd) : FnOk P w K mg base (CXr P w) 2 f fd ["knot"] (wV a) := by
 refine F.okx sc_knot_row ?_ ?_
 ·walk_at "i"
 walk_at "j"
 obtain ⟨v, r, p, rfl, hm, ok, hb, k⟩ := h
 obtain ⟨y, dx, l1, l2, l3, fs, rfl, _, _, _, _, hy, e1, e2, _, h1, h2, e3, e4⟩ := hm.inv
 obtain ⟨wd, ins, outs, pc, ks⟩ := r
 have l4 := vz ok
 have len20 := xl ok
 walk_at "T"
 refine ⟨_, (zh (zw (zG (zA qf zr (za (pv 0) (za qk zb))) (fun _ => rfl))  (zf (zo (zH ⟨rfl, rfl, rfl⟩ hr (za zu (za (zi zB (zi zB (zy (pv 0) rfl) (zz (za (zy (pv 0) rfl) zb))) (zy (pv 0) rfl)) zb)))))  zk)  (zh (zw (zG (zA qf zr (za (pv 0) (za qk zb))) (fun _ => rfl))  (zf (zo (zH ⟨rfl, rfl, rfl⟩ hr (za zu (za (zi zB (zy (pv 0) rfl) (zz (za (zy (pv 0) rfl) zb))) zb)))))  zk)  (zh (zw (zG (zA qf zr (za (pv 0) (za qk zb))) (fun _ => rfl))  (zf (zo (zH ⟨rfl, rfl, rfl⟩ hr (za zu (za (zi zB (zy (pv 0) rfl) (zy (pv 0) rfl)) zb)))))  zk)  (zh (zw (zG (zA qf zr (za (pv 0) (za qk zb))) (fun _ => rfl))  (zf (zo (zH ⟨rfl, rfl, rfl⟩ hr (za zu (za (zi zB (zy (pv 0) rfl) (zy (pv 0) rfl)) zb)))))  zk)  (zh (zw (zG (zA qf zr (za (pv 0) (za qk zb))) (fun _ => rfl))  (zf (zo (zH ⟨rfl, rfl, rfl⟩ hr (za zu (za (zi zB (zi zB (zy (pv 0) rfl) (zy (pv 0) rfl)) (zz (za (zy (pv 0) rfl) zb))) zb)))))  zk)  (zf (zo (zH ⟨rfl, rfl, rfl⟩ hr (za zu (za (zi zB (zy (pv 0) rfl) (zy (pv 0) rfl)) zb)))))))))), ?_⟩
 cases wd
 ·walk_at "go"
  refine ⟨.ref a.Source, _, T.g_Source, rfl, _, _, _, _, rfl, T.W_Source.ty T.C_Source hy, .inl ⟨_, rfl, T.k1_Source_Source⟩, ?_⟩
  walk_at "go"
  obtain ⟨q1, q2, _, _, _, q6, _⟩ := ok
  simp only at q1 q6
  subst q1
  have o4 : outs.length ≤ 4 := l4.2
  refine uc (qT T).mono (ra hy T.C_Source T.N_Source_outs e2 (ra hy T.C_Source T.N_Source_pace (e4 (.inl rfl)) (fun p1 h1' => ?_)))
  have s1 := ze (o := .lst [.int pc]) h1'
  refine qa (SqL.of (s1 _ _ h2)) (SqL.of upd_same) (z9 (by rw [zm]; simp; omega)) fun p2 h2' => ?_
  have s2 := s1.trans (ze (o := .lst (iv outs ++ [.int pc])) h2')
  refine ra (s2 _ _ hy) T.C_Source T.N_Source_kinds ((e3 rfl).1) ?_
  refine qa (SqL.of upd_same) (SqL.of (s2 _ _ (e3 rfl).2)) (z9 (by rw [List.length_append, zm, zm]; simp; omega)) fun p3 h3' => ?_
  have s3 := s2.trans (ze (o := .lst (iv outs ++ [.int pc] ++ iv ks)) h3')
  exact ⟨_, p3, zn ⟨.source, [], outs, pc, ks⟩, rfl, SqL.of (by rw [upd_same]; simp [zn, z6, iv]), by decide +kernel, len20, hb, fun H9 s9 => k _ (s3.trans s9)⟩
 ·walk_at "go"
  refine ⟨.ref a.Source, _, T.g_Source, rfl, _, _, _, _, rfl, T.W_Drain.ty T.C_Drain hy, .inl ⟨_, rfl, T.k1_Drain_Source⟩, ?_⟩
  walk_at "go"
  refine ⟨.ref a.Drain, _, T.g_Drain, rfl, _, _, _, _, rfl, T.W_Drain.ty T.C_Drain hy, .inl ⟨_, rfl, T.k1_Drain_Drain⟩, ?_⟩
  walk_at "go"
  obtain ⟨q1, q2, _⟩ := ok
  simp only at q2
  subst q2
  refine uc (qT T).mono (ra hy T.C_Drain T.N_Drain_ins e1 (ra hy T.C_Drain T.N_Drain_pace (e4 (.inr rfl)) (fun p1 h1' => ?_)))
  have s1 := ze (o := .lst [.int pc]) h1'
  refine qa (SqL.of (s1 _ _ h1)) (SqL.of upd_same) (z9 (by have i4 : ins.length ≤ 4 := l4.1; rw [zm]; simp; omega)) fun p2 h2' => ?_
  have s2 := s1.trans (ze (o := .lst (iv ins ++ [.int pc])) h2')
  exact ⟨_, p2, zn ⟨.drain, ins, [], pc, ks⟩, rfl, SqL.of (by rw [upd_same]; simp [zn, z6, iv]), by decide +kernel, len20, hb, fun H9 s9 => k _ (s2.trans s9)⟩
 ·walk_at "go"
  refine ⟨.ref a.Source, _, T.g_Source, rfl, _, _, _, _, rfl, T.W_Parter.ty T.C_Parter hy, .inl ⟨_, rfl, T.k1_Parter_Source⟩, ?_⟩
  walk_at "go"
  refine ⟨.ref a.Drain, _, T.g_Drain, rfl, _, _, _, _, rfl, T.W_Parter.ty T.C_Parter hy, .inl ⟨_, rfl, T.k1_Parter_Drain⟩, ?_⟩
  walk_at "go"
  refine ⟨.ref a.Parter, _, T.g_Parter, rfl, _, _, _, _, rfl, T.W_Parter.ty T.C_Parter hy, .inl ⟨_, rfl, T.k1_Parter_Parter⟩, ?_⟩
  walk_at "go"
  have o4 := l4.2
  have i4 := l4.1
  refine uc (qT T).mono (ra hy T.C_Parter T.N_Parter_ins e1 (ra hy T.C_Parter T.N_Parter_outs e2 ?_))
  refine qa (SqL.of h1) (SqL.of h2) (z9 (by rw [zm, zm]; simp only at o4 i4; omega)) fun p2 h2' => ?_
  have s2 := ze (o := .lst (iv ins ++ iv outs)) h2'
  exact ⟨_, p2, zn ⟨.parter, ins, outs, pc, ks⟩, rfl, SqL.of (by rw [upd_same]; simp [zn, z6, iv]), by decide +kernel, len20, hb, fun H9 s9 => k _ (s2.trans s9)⟩
 ·walk_at "go"
  refine ⟨.ref a.Source, _, T.g_Source, rfl, _, _, _, _, rfl, T.W_FirstParter.ty T.C_FirstParter hy, .inl ⟨_, rfl, T.k1_FirstParter_Source⟩, ?_⟩
  walk_at "go"
  refine ⟨.ref a.Drain, _, T.g_Drain, rfl, _, _, _, _, rfl, T.W_FirstParter.ty T.C_FirstParter hy, .inl ⟨_, rfl, T.k1_FirstParter_Drain⟩, ?_⟩
  walk_at "go"
  refine ⟨.ref a.Parter, _, T.g_Parter, rfl, _, _, _, _, rfl, T.W_FirstParter.ty T.C_FirstParter hy, .inl ⟨_, rfl, T.k1_FirstParter_Parter⟩, ?_⟩
  walk_at "go"
  refine ⟨.ref a.FirstParter, _, T.g_FirstParter, rfl, _, _, _, _, rfl, T.W_FirstParter.ty T.C_FirstParter hy, .inl ⟨_, rfl, T.k1_FirstParter_FirstParter⟩, ?_⟩
  walk_at "go"
  have o4 := l4.2
  have i4 := l4.1
  refine uc (qT T).mono (ra hy T.C_FirstParter T.N_FirstParter_ins e1 (ra hy T.C_FirstParter T.N_FirstParter_outs e2 ?_))
  refine qa (SqL.of h1) (SqL.of h2) (z9 (by rw [zm, zm]; simp only at o4 i4; omega)) fun p2 h2' => ?_
  have s2 := ze (o := .lst (iv ins ++ iv outs)) h2'
  exact ⟨_, p2, zn ⟨.first, ins, outs, pc, ks⟩, rfl, SqL.of (by rw [upd_same]; simp [zn, z6, iv]), by decide +kernel, len20, hb, fun H9 s9 => k _ (s2.trans s9)⟩
 ·walk_at "go"
  refine ⟨.ref a.Source, _, T.g_Source, rfl, _, _, _, _, rfl, T.W_Sieve.ty T.C_Sieve hy, .inl ⟨_, rfl, T.k1_Sieve_Source⟩, ?_⟩
  walk_at "go"
  refine ⟨.ref a.Drain, _, T.g_Drain, rfl, _, _, _, _, rfl, T.W_Sieve.ty T.C_Sieve hy, .inl ⟨_, rfl, T.k1_Sieve_Drain⟩, ?_⟩
  walk_at "go"
  refine ⟨.ref a.Parter, _, T.g_Parter, rfl, _, _, _, _, rfl, T.W_Sieve.ty T.C_Sieve hy, .inl ⟨_, rfl, T.k1_Sieve_Parter⟩, ?_⟩
  walk_at "go"
  refine ⟨.ref a.FirstParter, _, T.g_FirstParter, rfl, _, _, _, _, rfl, T.W_Sieve.ty T.C_Sieve hy, .inl ⟨_, rfl, T.k1_Sieve_FirstParter⟩, ?_⟩
  walk_at "go"
  refine ⟨.ref a.Sieve, _, T.g_Sieve, rfl, _, _, _, _, rfl, T.W_Sieve.ty T.C_Sieve hy, .inl ⟨_, rfl, T.k1_Sieve_Sieve⟩, ?_⟩
  walk_at "go"
  have o4 := l4.2
  have i4 := l4.1
  obtain ⟨_, _, kk, ek, _⟩ := ok
  simp only at ek
  subst ek
  refine uc (qT T).mono (ra hy T.C_Sieve T.N_Sieve_ins e1 (ra hy T.C_Sieve T.N_Sieve_outs e2 ?_))
  refine qa (SqL.of h1) (SqL.of h2) (z9 (by rw [zm, zm]; simp only at o4 i4; omega)) fun p2 h2' => ?_
  have s2 := ze (o := .lst (iv ins ++ iv outs)) h2'
  refine ra (s2 _ _ hy) T.C_Sieve T.N_Sieve_kind (hm.kind hy rfl rfl) (fun p3 h3' => ?_)
  have s3 := s2.trans (ze (o := .lst [.int kk]) h3')
  refine qa (SqL.of (upd_keep upd_same h3')) (SqL.of upd_same) (z9 (by rw [List.length_append, zm, zm]; simp only at o4 i4; simp; omega)) fun p4 h4' => ?_
  have s4 := s3.trans (ze (o := .lst (iv ins ++ iv outs ++ [.int kk])) h4')
  exact ⟨_, p4, zn ⟨.sieve, ins, outs, pc, [kk]⟩, rfl, SqL.of (by rw [upd_same]; simp [zn, z6, iv]), by decide +kernel, len20, hb, fun H9 s9 => k _ (s4.trans s9)⟩
 ·walk_at "go"
  refine ⟨.ref a.Source, _, T.g_Source, rfl, _, _, _, _, rfl, T.W_Joiner.ty T.C_Joiner hy, .inl ⟨_, rfl, T.k1_Joiner_Source⟩, ?_⟩
  walk_at "go"
  refine ⟨.ref a.Drain, _, T.g_Drain, rfl, _, _, _, _, rfl, T.W_Joiner.ty T.C_Joiner hy, .inl ⟨_, rfl, T.k1_Joiner_Drain⟩, ?_⟩
  walk_at "go"
  refine ⟨.ref a.Parter, _, T.g_Parter, rfl, _, _, _, _, rfl, T.W_Joiner.ty T.C_Joiner hy, .inl ⟨_, rfl, T.k1_Joiner_Parter⟩, ?_⟩
  walk_at "go"
  refine ⟨.ref a.FirstParter, _, T.g_FirstParter, rfl, _, _, _, _, rfl, T.W_Joiner.ty T.C_Joiner hy, .inl ⟨_, rfl, T.k1_Joiner_FirstParter⟩, ?_⟩
  walk_at "go"
  refine ⟨.ref a.Sieve, _, T.g_Sieve, rfl, _, _, _, _, rfl, T.W_Joiner.ty T.C_Joiner hy, .inl ⟨_, rfl, T.k1_Joiner_Sieve⟩, ?_⟩
  walk_at "go"
  have o4 := l4.2
  have i4 := l4.1
  refine uc (qT T).mono (ra hy T.C_Joiner T.N_Joiner_outs e2 (ra hy T.C_Joiner T.N_Joiner_ins e1 ?_))
  refine qa (SqL.of h2) (SqL.of h1) (z9 (by rw [zm, zm]; simp only at o4 i4; omega)) fun p2 h2' => ?_
  have s2 := ze (o := .lst (iv outs ++ iv ins)) h2'
  exact ⟨_, p2, zn ⟨.joiner, ins, outs, pc, ks⟩, rfl, SqL.of (by rw [upd_same]; simp [zn, z6, iv]), by decide +kernel, len20, hb, fun H9 s9 => k _ (s2.trans s9)⟩
theorem c_knot_row (T : Txt K mg a) : Cal P w K mg base "knot_row" 2 ["knot"] [] (wV a) := T.h_knot_row.cal (ok_knot_row T)
def jK (b : Int × Int) : Str := jR "belt" [b.1, b.2]
def qb (bs : List (Int × Int)) (rs : List Row) : List Str := bs.map jK ++ rs.map rowS
def jq (bs : List (Int × Int)) (rs : List Row) : Str := Str.join "\n" (qb bs rs)
theorem xn {nm : Str} {ns : List Int} (h1 : nm.length ≤ 100) (h2 : ns.length ≤ 20) (hb : ∀ n ∈ ns, 0 ≤ n ∧ n < zJ) : (jR nm ns).length ≤ 50000 := by
 have h := StrLaws.join_length_le " " (nm :: ns.map intS)
 have hb : ∀ x ∈ nm :: ns.map intS, x.length ≤ 1921 := fun x hx => by
  rcases List.mem_cons.mp hx with rfl | hx
  ·omega
  ·obtain ⟨n, hn, rfl⟩ := List.mem_map.mp hx
   exact qG (hb n hn).1 (hb n hn).2
 have sl := j8 hb
 have : (Str.ofString " ").length = 1 := by decide +kernel
 rw [this] at h
 rw [List.length_cons, List.length_map] at sl h
 unfold jR
 omega
structure Told2 (bs : List (Int × Int)) (rs : List Row) : Prop where
 b24 : bs.length ≤ 24
 r24 : rs.length ≤ 24
 bo : ∀ b ∈ bs, qj b.1 b.2
 ro : ∀ r ∈ rs, r.ok
 nb : ∀ r ∈ rs, ∀ n ∈ zn r, 0 ≤ n ∧ n < zJ
theorem Zw {bs : List (Int × Int)} {rs : List Row} (h : jt bs rs) (bo : ∀ b ∈ bs, qj b.1 b.2) (ro : ∀ r ∈ rs, r.ok) : Told2 bs rs := by
 have b24 := h.1.1.2
 have kl : (1000 : Int) < zJ := by decide +kernel
 refine ⟨h.1.1.2, h.1.2.2, bo, ro, fun r hr n hn => ?_⟩
 have h1 : ∀ n ∈ r.outs, 0 ≤ n ∧ n < zJ := fun n hn => by
  have := x9 (h.2.1.mem_iff.mp (List.mem_flatMap.mpr ⟨r, hr, hn⟩))
  exact ⟨this.1, Int.lt_trans (Int.lt_of_lt_of_le this.2 (by omega : (bs.length : Int) ≤ 1000)) kl⟩
 have h2 : ∀ n ∈ r.ins, 0 ≤ n ∧ n < zJ := fun n hn => by
  have := x9 (h.2.2.mem_iff.mp (List.mem_flatMap.mpr ⟨r, hr, hn⟩))
  exact ⟨this.1, Int.lt_trans (Int.lt_of_lt_of_le this.2 (by omega : (bs.length : Int) ≤ 1000)) kl⟩
 have ok := ro r hr
 have h3 : ∀ n ∈ z6 r, 0 ≤ n ∧ n < zJ := fun n hn => by
  obtain ⟨wd, ins, outs, pc, ks⟩ := r
  cases wd
  ·obtain ⟨_, _, p1, p4, _, _, kk⟩ := ok
   simp only at p1 p4
   rcases List.mem_cons.mp hn with e | hn
   ·rw [show n = pc from e]; exact ⟨by omega, Int.lt_of_le_of_lt (show pc ≤ 1000 by omega) kl⟩
   ·exact kk n hn
  ·obtain ⟨_, _, p1, p4⟩ := ok
   simp only at p1 p4
   rcases List.mem_cons.mp hn with e | hn
   ·rw [show n = pc from e]; exact ⟨p1, Int.lt_of_le_of_lt (show pc ≤ 1000 by omega) kl⟩
   ·cases hn
  ·cases hn
  ·cases hn
  ·obtain ⟨_, _, kk, ek, q1, q2⟩ := ok
   simp only at ek
   subst ek
   rcases List.mem_cons.mp hn with rfl | hn
   ·exact ⟨q1, q2⟩
   ·cases hn
  ·cases hn
 unfold zn at hn
 split at hn
 ·rcases List.mem_append.mp hn with hn | hn
  ·exact h1 n hn
  ·exact h2 n hn
 ·rcases List.mem_append.mp hn with hn | hn
  ·rcases List.mem_append.mp hn with hn | hn
   ·exact h2 n hn
   ·exact h1 n hn
  ·exact h3 n hn
theorem jk {b : Int × Int} (h : qj b.1 b.2) : ∀ n ∈ [b.1, b.2], 0 ≤ n ∧ n < zJ := fun n hn => by
 have kl : (1000 : Int) < zJ := by decide +kernel
 obtain ⟨h1, h2, h3, h4⟩ := h
 simp only [List.mem_cons, List.not_mem_nil, or_false] at hn
 rcases hn with rfl | rfl
 ·exact ⟨by omega, Int.lt_of_le_of_lt (show b.1 ≤ 1000 by omega) kl⟩
 ·exact ⟨by omega, Int.lt_of_le_of_lt (show b.2 ≤ 1000 by omega) kl⟩
theorem vp (wd : Wd) : (wdS wd).length ≤ 100 := by cases wd <;> decide +kernel
theorem wS {bs : List (Int × Int)} {rs : List Row} (h : Told2 bs rs) : (qb bs rs).length ≤ 48 ∧ ∀ x ∈ qb bs rs, x.length ≤ 50000 := by
 have b24 := h.b24
 have r24 := h.r24
 refine ⟨by unfold qb; rw [List.length_append, List.length_map, List.length_map]; omega, fun x hx => ?_⟩
 rcases List.mem_append.mp hx with hx | hx
 ·obtain ⟨b, hb, rfl⟩ := List.mem_map.mp hx
  exact xn (by decide +kernel) (by show 2 ≤ 20; decide) (jk (h.bo b hb))
 ·obtain ⟨r, hr, rfl⟩ := List.mem_map.mp hx
  exact xn (vp _) (xl (h.ro r hr)) (h.nb r hr)
theorem xA {bs : List (Int × Int)} {rs : List Row} (h : Told2 bs rs) : ((qb bs rs).map (·.length)).sum + (qb bs rs).length * (Str.ofString "\n").length ≤ 16777216 := by
 obtain ⟨h1, h2⟩ := wS h
 have sl := j8 h2
 have : (Str.ofString "\n").length = 1 := by decide +kernel
 rw [this]
 omega
def jX (a : Ad) : Sp := fun vs H Q _ => ∃ (v : V) (bs : List (Int × Int)) (rs : List Row) (p : Addr → Prop), vs = [v] ∧ Rep H p v (wL a bs rs) ∧ Told2 bs rs ∧ ∀ H', Same H H' → Q (.str (jq bs rs)) H'
theorem xq {a : Ad} {vs : List V} {H : Hp} {Q : VK} {E : XK} (v : V) (bs : List (Int × Int)) (rs : List Row) (p : Addr → Prop) (q0 : vs = [v]) (q1 : Rep H p v (wL a bs rs)) (q2 : Told2 bs rs) (q3 : ∀ H', Same H H' → Q (.str (jq bs rs)) H') : jX a vs H Q E := ⟨v, bs, rs, p, q0, q1, q2, q3⟩
theorem ok_work_text (T : Txt K mg a) (F : Fun K "work_text" "work_text" s_work_text f fd) : FnOk P w K mg base (CXr P w) 3 f fd ["work"] (jX a) := by
 refine F.okx sc_work_text ?_ ?_
 ·walk_at "i"
 walk_at "j"
 obtain ⟨v, bs, rs, p, rfl, hm, tl, k⟩ := h
 obtain ⟨y, dx, fs, l1, l2, bvs, kvs, rfl, hy, e1, e2, h1, h2, hB, hK, _⟩ := vF hm
 have b24 := tl.b24
 have r24 := tl.r24
 walk_at "T"
 refine ⟨_, (zh (vO (i := 1) sc_work_text.nd rfl (Or.inl rfl) (vars := ["belt"]) (caps := []) (N := ["belt"]) (ON := ["work", "rows"]) (osc := zg s_work_text) rfl rfl (by first | decide +kernel | kernel_rfl) rfl rfl (ql (zy (pv 0) rfl)) (fun s H fp pins => (pg_n 0 (show (["belt"] : List Str).Nodup from by decide +kernel))) (fun s H fp pins => qt) (fun s H fp pins => (vx hr (za zu (za (zz (za (zy (pv 0) rfl) (za (zy (pv 0) rfl) zb))) zb)))))  (zh (zv (zW PySem.F.plainAttrs_list PySem.F.slot_list_extend PySem.F.type_list_extend xF (pv 1) (za (xR (vars := ["knot"]) (caps := []) (N := ["knot"]) (ON := ["work", "rows"]) (osc := zg s_work_text) rfl rfl (by first | decide +kernel | kernel_rfl) rfl rfl (ql (zy (pv 0) rfl)) (fun s H fp pins => (pg_n 0 (show (["knot"] : List Str).Nodup from by decide +kernel))) (fun s H fp pins => qt) (fun s H fp pins => (vx hr (za (pv 0) zb)))) zb)))  (zf (zo (zW PySem.F.plainAttrs_str PySem.F.slot_str_join PySem.F.type_str_join xm zu (za (pv 1) zb)))))), ?_⟩
 walk_at "go"
 walk_at "lc"
 walk_at "go"
 refine ra hy T.C_Work T.N_Work_belts e1 ?_
 refine ⟨l1, rfl, .inl ⟨⟨_, SqL.of h1⟩, fun _ _ _ _ acc hacc => ?_⟩⟩
 refine qx (K := K) (a := l1) (xs := bvs) (fun i σ H' => ∃ v, σ = [v] ∧ Same H H' ∧ H' acc = some (.lst (((bs.take i).map jK).map V.str))) ⟨_, rfl, ze hacc, upd_same⟩ (fun i σ H' _ h => by obtain ⟨_, _, s, _⟩ := h; exact SqL.of (s _ _ h1)) ?_ ?_
 ·rintro i x σ H2 hi ⟨v, rfl, s2, g2⟩
  obtain ⟨b, hb, hBt⟩ := hB.at hi
  have hil := (List.getElem?_eq_some_iff.mp hb).1
  obtain ⟨yb, dxb, fb, rfl, _, hyb, f1, f2⟩ := (hBt.keep (q := p) (fun c o pc hc => ⟨pc, s2 _ _ hc⟩)).inv
  walk_at "go"
  refine uc (qT T).mono (ra hyb T.C_Belt T.N_Belt_room f1 (ra hyb T.C_Belt T.N_Belt_pace f2 (fun q hq => ?_)))
  have s3 := ze (o := .lst [.int b.1, .int b.2]) hq
  refine ⟨"belt", q, [b.1, b.2], rfl, SqL.of upd_same, by decide +kernel, by show 2 ≤ 20; decide, jk (tl.bo b (List.mem_of_getElem? hb)), fun H4 s4 => ?_⟩
  have s24 := s3.trans s4
  refine ⟨_, s24 _ _ g2, zq (by rw [List.length_map, List.length_map, List.length_take]; omega), _, rfl, fun c o hc => ?_, ?_⟩
  ·rw [upd_ne (ne_of_none hc hacc)]; exact s24 _ _ (s2 c o hc)
  ·rw [upd_same, List.take_add_one, hb, List.map_append, List.map_append]; rfl
 rintro σ H2 ⟨v, rfl, s2, g2⟩
 rw [hB.len, List.take_length] at g2
 walk_at "go"
 refine ⟨.inl ⟨rfl, _, SqL.of g2⟩, ?_⟩
 walk_at "lc"
 walk_at "go"
 refine ra (s2 _ _ hy) T.C_Work T.N_Work_knots e2 ?_
 refine ⟨l2, rfl, .inl ⟨⟨_, SqL.of (s2 _ _ h2)⟩, fun _ _ _ _ ac2 hac2 => ?_⟩⟩
 refine qx (K := K) (a := l2) (xs := kvs) (fun i σ H' => ∃ v, σ = [v] ∧ Same H2 H' ∧ H' ac2 = some (.lst (((rs.take i).map rowS).map V.str))) ⟨_, rfl, ze hac2, upd_same⟩ (fun i σ H' _ h => by obtain ⟨_, _, s, _⟩ := h; exact SqL.of (s _ _ (s2 _ _ h2))) ?_ ?_
 ·rintro i x σ H3 hi ⟨v, rfl, s3, g3⟩
  obtain ⟨r, hr', hKn⟩ := hK.at hi
  have hil := (List.getElem?_eq_some_iff.mp hr').1
  have hrm := List.mem_of_getElem? hr'
  have s23 := s2.trans s3
  walk_at "go"
  refine uc (c_knot_row T).mono ⟨x, r, p, rfl, hKn.keep (fun c o pc hc => ⟨pc, s23 _ _ hc⟩), tl.ro r hrm, tl.nb r hrm, fun H4 s4 => ?_⟩
  refine ⟨_, s4 _ _ g3, zq (by rw [List.length_map, List.length_map, List.length_take]; omega), _, rfl, fun c o hc => ?_, ?_⟩
  ·rw [upd_ne (ne_of_none hc hac2)]; exact s4 _ _ (s3 c o hc)
  ·rw [upd_same, List.take_add_one, hr', List.map_append, List.map_append]; rfl
 rintro σ H3 ⟨v, rfl, s3, g3⟩
 rw [hK.len, List.take_length] at g3
 refine ⟨acc, ac2, _, _, rfl, rfl, s3 _ _ g2, g3, Nat.le_of_lt (zq (by rw [List.length_map, List.length_map, List.length_map, List.length_map]; omega)), ?_⟩
 have s4 : Same H (upd H3 acc (.lst ((bs.map jK).map V.str ++ (rs.map rowS).map V.str))) := fun c o hc => by rw [upd_ne (ne_of_none hc hacc)]; exact s3 _ _ (s2 _ _ hc)
 have g4 : upd H3 acc (.lst ((bs.map jK).map V.str ++ (rs.map rowS).map V.str)) acc = some (.lst ((qb bs rs).map V.str)) := by rw [upd_same, qb, List.map_append]
 generalize upd H3 acc _ = H4 at s4 g4 ⊢
 walk_at "go"
 exact ⟨ju, _, acc, qb bs rs, rfl, rfl, g4, xA tl, k _ s4⟩
theorem xZ (T : Txt K mg a) : Cal P w K mg base "work_text" 3 ["work"] [] (jX a) := T.h_work_text.cal (ok_work_text T)
theorem beltS_eq (b : Int × Int) : Str.ofString "belt " ++ intS b.1 ++ Str.ofString " " ++ intS b.2 = jK b := by
 have e : (Str.ofString "belt ") = Str.ofString "belt" ++ Str.ofString " " := by decide +kernel
 rw [e]
 show _ = Str.ofString "belt" ++ Str.ofString " " ++ (intS b.1 ++ Str.ofString " " ++ intS b.2)
 simp only [j9]
theorem rowS_eq (r : Row) : wdS r.wd ++ Str.join "" ((zn r).map fun n => " " ++ intS n) = rowS r := by
 unfold rowS jR
 rw [wC, List.map_map]
 rfl
theorem big {n : Nat} (h : n ≤ 100000) : n ≤ sizeLine := Nat.le_trans h (by decide)
theorem partN_len {r : Row} (h : r.ok) : (z6 r).length ≤ 7 := by
 obtain ⟨wd, ins, outs, pc, ks⟩ := r
 cases wd
 ·obtain ⟨_, _, _, _, _, h6, _⟩ := h
  simp only at h6
  show ks.length + 1 ≤ 7
  omega
 ·show 1 ≤ 7; decide
 ·show 0 ≤ 7; decide
 ·show 0 ≤ 7; decide
 ·obtain ⟨_, _, kk, ek, _⟩ := h
  simp only at ek
  subst ek
  show 1 ≤ 7; decide
 ·show 0 ≤ 7; decide
def vI : Sp := fun vs H Q _ => ∃ (v : V) (bs : List (Int × Int)) (rs : List Row) (p : Addr → Prop), vs = [v] ∧ Rep H p v (.tup [.lst (bs.map js), .lst (rs.map qY)]) ∧ Told2 bs rs ∧ ∀ L H', Same H H' → H' L = some (.lst ((qb bs rs).map V.str)) → Q (.ref L) H'
theorem ok_L_rows_of (T : Txt K mg a) (F : Fun K "_law_rows_of" "_law_rows_of" s_L_rows_of f fd) : FnOk P w K mg base (CXr P w) 1 f fd ["_law_made"] vI := by
 refine F.okx sc_L_rows_of ?_ ?_
 ·walk_at "i"
 walk_at "j"
 obtain ⟨v, bs, rs, p, rfl, hv, tl, k⟩ := h
 obtain ⟨t0, us0, rfl, _, ht0, rr0⟩ := hv.tup'
 obtain ⟨v1, v2, rfl⟩ := two_of rr0.len
 obtain ⟨L1, u1, rfl, _, hL1, ru1⟩ := (rr0.g 0 v1 _ rfl rfl).lst'
 obtain ⟨LR, u2, rfl, _, hL2, ru2⟩ := (rr0.g 1 v2 _ rfl rfl).lst'
 have b1 : u1.length = bs.length := by rw [ru1.len, List.length_map]
 have b2 : u2.length = rs.length := by rw [ru2.len, List.length_map]
 have b24 := tl.b24
 have r24 := tl.r24
 walk_at "T"
 refine ⟨_, (zh (vO (i := 1) sc_L_rows_of.nd rfl (Or.inl rfl) (vars := ["_law_room", "_law_pace"]) (caps := []) (N := ["_law_room", "_law_pace"]) (ON := ["_law_made", "_law_rows", "_law_word", "_law_ins", "_law_outs", "_law_numbers_here", "_law_due"]) (osc := zg s_L_rows_of) rfl rfl (by first | decide +kernel | kernel_rfl) rfl rfl (ql (zR (pv 0) zd)) (fun s H fp pins => (jy (n := 2) rfl (zN (pg_n 0 (show (["_law_room", "_law_pace"] : List Str).Nodup from by decide +kernel)) (zN (pg_n 1 (show (["_law_room", "_law_pace"] : List Str).Nodup from by decide +kernel)) qV)))) (fun s H fp pins => qt) (fun s H fp pins => (zi zB (zi zB (zi zB zu (jz vC vD (za (pv 0) zb))) zu) (jz vC vD (za (pv 1) zb)))))  (qc (qy qR rfl (ql (zR (pv 0) zd)) (jy (n := 4) rfl (zN (pg_n 2 sc_L_rows_of.nd) (zN (pg_n 3 sc_L_rows_of.nd) (zN (pg_n 4 sc_L_rows_of.nd) (zN (pg_n 5 sc_L_rows_of.nd) qV)))))  (zh (zO 6 sc_L_rows_of.nd (zi zB (zi zB (pv 3) (pv 4)) (pv 5)))  (qc (zw (zj (zK hr.units1) (pv 2) zu (zl _))  (zf (zO 6 sc_L_rows_of.nd (zi zB (pv 4) (pv 3))))  zk)  (zf (zv (zW PySem.F.plainAttrs_list PySem.F.slot_list_append PySem.F.type_list_append zF (pv 1) (za (zi zB (pv 2) (zW PySem.F.plainAttrs_str PySem.F.slot_str_join PySem.F.type_str_join xm zu (za (xR (vars := ["_law_number"]) (caps := []) (N := ["_law_number"]) (ON := ["_law_made", "_law_rows", "_law_word", "_law_ins", "_law_outs", "_law_numbers_here", "_law_due"]) (osc := zg s_L_rows_of) rfl rfl (by first | decide +kernel | kernel_rfl) rfl rfl (ql (pv 6)) (fun s H fp pins => (pg_n 0 (show (["_law_number"] : List Str).Nodup from by decide +kernel))) (fun s H fp pins => qt) (fun s H fp pins => (zi zB zu (jz vC vD (za (pv 0) zb))))) zb))) zb)))))))  (zf (zo (pv 1))))), ?_⟩
 walk_at "go"
 walk_at "lc"
 walk_at "go"
 refine rd_ixT ht0 at0 ?_
 refine ⟨L1, rfl, .inl ⟨⟨_, SqL.of hL1⟩, fun _ _ _ _ acc hacc => ?_⟩⟩
 refine qx (K := K) (a := L1) (xs := u1) (fun i σ H' => ∃ v v', σ = [v, v'] ∧ Same H H' ∧ H' acc = some (.lst (((bs.take i).map jK).map V.str))) ⟨_, _, rfl, ze hacc, upd_same⟩ (fun i σ H' _ h => by obtain ⟨_, _, _, s, _⟩ := h; exact SqL.of (s _ _ hL1)) ?_ ?_
 ·rintro i x σ H2 hi ⟨v, v', rfl, s2, g2⟩
  obtain ⟨dx, hdx, rx⟩ := ru1.at hi
  rw [List.getElem?_map, Option.map_eq_some_iff] at hdx
  obtain ⟨b, hb, rfl⟩ := hdx
  have hil := (List.getElem?_eq_some_iff.mp hb).1
  obtain ⟨t, rfl, ht⟩ := vQ rx
  have bn := jk (tl.bo b (List.mem_of_getElem? hb))
  refine un2 ((s2 _ _ ht)) ?_
  walk_at "go"
  have n1 := bn b.1 (by simp)
  have n2 := bn b.2 (by simp)
  have i1 : (Str.ofString (toString b.1)).length ≤ 1921 := qG n1.1 n1.2
  have i2 : (Str.ofString (toString b.2)).length ≤ 1921 := qG n2.1 n2.2
  have c5 : (Str.ofString "belt ").length = 5 := by decide +kernel
  have c1 : (Str.ofString " ").length = 1 := by decide +kernel
  refine ⟨jd n1.1 n1.2, big (by omega), big (by rw [Str.length_append]; omega), m_str, jd n2.1 n2.2, big (by rw [Str.length_append, Str.length_append]; omega), _, g2, zq (by rw [List.length_map, List.length_map, List.length_take]; omega), _, _, rfl, fun c o hc => ?_, ?_⟩
  ·rw [upd_ne (ne_of_none hc hacc)]; exact s2 c o hc
  ·rw [upd_same, List.take_add_one, hb, List.map_append, List.map_append, show Str.ofString "belt " ++ Str.ofString (toString b.1) ++ Str.ofString " " ++ Str.ofString (toString b.2) = jK b from beltS_eq b]; rfl
 rintro σ H2 ⟨v, v', rfl, s2, g2⟩
 rw [b1, List.take_length] at g2
 walk_at "go"
 refine cut (fun σ' H' => ∃ v2 v3 v4 v5 v6, σ' = [some (.ref t0), some (.ref acc), v2, v3, v4, v5, v6] ∧ Same H H' ∧ H' acc = some (.lst ((qb bs rs).map V.str))) ?_ ?_
 ·walk_at "for"
  walk_at "go"
  refine rd_ixT (s2 _ _ ht0) at1 ?_
  refine ⟨LR, rfl, .inl ⟨⟨_, SqL.of (s2 _ _ hL2)⟩, ?_⟩⟩
  refine qx (K := K) (a := LR) (xs := u2) (fun i σ' H' => ∃ v2 v3 v4 v5 v6, σ' = [some (.ref t0), some (.ref acc), v2, v3, v4, v5, v6] ∧ Same H H' ∧ H' acc = some (.lst ((qb bs (rs.take i)).map V.str))) ⟨_, _, _, _, _, rfl, s2, by rw [g2]; simp [qb]⟩ (fun i σ H' _ h => by obtain ⟨_, _, _, _, _, _, s, _⟩ := h; exact SqL.of (s _ _ hL2)) ?_ ?_
  ·rintro i x σ' H3 hi ⟨v2, v3, v4, v5, v6, rfl, s3, g3⟩
   obtain ⟨dx, hdx, rx⟩ := ru2.at hi
   rw [List.getElem?_map, Option.map_eq_some_iff] at hdx
   obtain ⟨r, hr', rfl⟩ := hdx
   have hil := (List.getElem?_eq_some_iff.mp hr').1
   have hrm := List.mem_of_getElem? hr'
   obtain ⟨t, l1, l2, l3, rfl, ht, h1, h2, h3, _⟩ := wv rx
   have nb := tl.nb r hrm
   have l4 := vz (tl.ro r hrm)
   have len20 := xl (tl.ro r hrm)
   walk_at "go"
   refine ⟨t, _, rfl, SqT.of (s3 _ _ ht), rfl, _, _, rfl, _, _, rfl, _, _, rfl, _, _, rfl, rfl, ?_⟩
   walk_at "go"
   refine qa (SqL.of (s3 _ _ h1)) (SqL.of (s3 _ _ h2)) (z9 (by rw [zm, zm]; omega)) fun p1 hp1 => ?_
   have s4 := ze (o := .lst (iv r.ins ++ iv r.outs)) hp1
   have n7 := partN_len (tl.ro r hrm)
   refine qa (SqL.of upd_same) (SqL.of (s4 _ _ (s3 _ _ h3))) (z9 (by rw [List.length_append, zm, zm, zm]; omega)) fun p2 hp2 => ?_
   have s5 := s4.trans (ze (o := .lst (iv r.ins ++ iv r.outs ++ iv (z6 r))) hp2)
   have g5 : upd (upd H3 p1 (.lst (iv r.ins ++ iv r.outs))) p2 (.lst (iv r.ins ++ iv r.outs ++ iv (z6 r))) p2 = some (.lst (iv (r.ins ++ r.outs ++ z6 r))) := by rw [upd_same]; simp [iv]
   generalize upd (upd H3 p1 _) p2 _ = H5 at s5 g5 ⊢
   clear hp1 hp2 s4
   walk_at "go"
   refine cut (fun σ' H' => ∃ du, σ' = [some (.ref t0), some (.ref acc), some (.str (wdS r.wd)), some (.ref l1), some (.ref l2), some (.ref l3), some (.ref du)] ∧ Same H3 H' ∧ H' du = some (.lst (iv (zn r)))) ?_ ?_
   ·walk_at "go"
    refine ite2 (fun b => ?_) (fun b => ?_)
    ·have b := wdS_inj (y := .joiner) b
     walk_at "go"
     refine qa (SqL.of (s5 _ _ (s3 _ _ h2))) (SqL.of (s5 _ _ (s3 _ _ h1))) (z9 (by rw [zm, zm]; omega)) fun p3 hp3 => ?_
     exact ⟨p3, rfl, s5.trans (ze hp3), by rw [upd_same, zn, if_pos b]; simp [iv]⟩
    ·exact ⟨p2, rfl, s5, by rw [zn, if_neg (fun z => b (by rw [z]; rfl))]; exact g5⟩
   rintro σ' H6 ⟨du, rfl, s6, g6⟩
   walk_at "go"
   refine ⟨.inl ⟨rfl, _, SqL.of (s6 _ _ g3)⟩, ju, ?_⟩
   walk_at "lc"
   walk_at "go"
   refine ⟨du, rfl, .inl ⟨⟨_, SqL.of g6⟩, fun _ _ _ _ wl hwl => ?_⟩⟩
   have c1 : (Str.ofString " ").length = 1 := by decide +kernel
   refine qx (K := K) (a := du) (xs := iv (zn r)) (fun i σ H' => ∃ v, σ = [v] ∧ Same H6 H' ∧ H' wl = some (.lst ((((zn r).take i).map fun n => Str.ofString " " ++ intS n).map V.str))) ⟨_, rfl, ze hwl, upd_same⟩ (fun i σ H' _ h => by obtain ⟨_, _, s, _⟩ := h; exact SqL.of (s _ _ g6)) ?_ ?_
   ·rintro i x σ H7 hi ⟨v, rfl, s7, g7⟩
    obtain ⟨n, hn, rfl⟩ := xV hi
    have hnl := (List.getElem?_eq_some_iff.mp hn).1
    have nn := nb n (List.mem_of_getElem? hn)
    have i1 : (Str.ofString (toString n)).length ≤ 1921 := qG nn.1 nn.2
    walk_at "go"
    refine ⟨jd nn.1 nn.2, big (by omega), _, g7, zq (by rw [List.length_map, List.length_map, List.length_take]; omega), _, rfl, fun c o hc => ?_, ?_⟩
    ·rw [upd_ne (ne_of_none hc hwl)]; exact s7 c o hc
    ·rw [upd_same, List.take_add_one, hn, List.map_append, List.map_append]; rfl
   rintro σ H7 ⟨v, rfl, s7, g7⟩
   rw [zm, List.take_length] at g7
   have hb : ∀ x ∈ (zn r).map fun n => Str.ofString " " ++ intS n, x.length ≤ 1922 := fun x hx => by
    obtain ⟨n, hn, rfl⟩ := List.mem_map.mp hx
    have := qG (nb n hn).1 (nb n hn).2
    rw [Str.length_append, c1]
    omega
   have sl := j8 hb
   have jl := StrLaws.join_length_le "" ((zn r).map fun n => Str.ofString " " ++ intS n)
   have c0 : (Str.ofString "").length = 0 := by decide +kernel
   rw [c0] at jl
   rw [List.length_map] at sl jl
   have wl := vp r.wd
   refine ⟨_, _, (zn r).map fun n => Str.ofString " " ++ intS n, rfl, rfl, g7, by rw [c0, List.length_map]; omega, ?_⟩
   walk_at "go"
   refine ⟨big (by omega), acc, _, _, rfl, rfl, s7 _ _ (s6 _ _ g3), zq (by unfold qb; rw [List.length_map, List.length_append, List.length_map, List.length_map, List.length_take]; omega), _, _, _, _, _, rfl, fun c o hc => ?_, ?_⟩
   ·rw [upd_ne (ne_of_none hc hacc)]; exact s7 _ _ (s6 _ _ (s3 c o hc))
   ·rw [upd_same, show wdS r.wd ++ (Str.ofString "").join (List.map (fun n => Str.ofString " " ++ intS n) (zn r)) = rowS r from rowS_eq r, List.take_add_one, hr']
    simp [qb]
  ·rintro σ' H3 ⟨v2, v3, v4, v5, v6, rfl, s3, g3⟩
   rw [b2, List.take_length] at g3
   exact ⟨_, _, _, _, _, rfl, s3, g3⟩
 rintro σ' H3 ⟨v2, v3, v4, v5, v6, rfl, s3, g3⟩
 walk_at "go"
 exact k _ _ s3 g3
theorem x6 (T : Txt K mg a) : Cal P w K mg base "_law_rows_of" 1 ["_law_made"] [] vI := T.h_L_rows_of.cal (ok_L_rows_of T)
def wO (cs : List Nat) : Bool := cs.all jU
def dueF (x : Str) : Option Nat := if x.length < 1 ∨ 30 < x.length ∨ (x.cps.toList[0]? = some 48 ∧ 1 < x.length) then none else if wO x.cps.toList = true then some (NumText.digitsVal x.cps.toList) else none
def optN : Option Nat → V
 | none => .non
 | some n => .int n
theorem ww (c : Nat) : ((⟨#[c]⟩ : Str) = ("0" : Str)) ↔ c = 48 := by
 constructor
 ·intro h
  have h : (#[c] : Array Nat) = #[48] := congrArg Str.cps h
  simpa using h
 ·rintro rfl; decide +kernel
theorem allFig_digits {cs : List Nat} (h : wO cs = true) : NumText.AllDigits cs := fun c hc => by
 have := List.all_eq_true.mp h c hc
 simpa [jU] using this
def spNF : Sp := fun vs H Q _ => ∃ x : Str, vs = [.str x] ∧ x.length ≤ sizeLine ∧ ∀ H', Same H H' → Q (optN (dueF x)) H'
theorem ok_number_from (T : Txt K mg a) (F : Fun K "number_from" "number_from" s_number_from f fd) : FnOk P w K mg base (CXr P w) 1 f fd ["word"] spNF := by
 refine F.okx sc_number_from ?_ ?_
 ·walk_at "i"
 walk_at "k"
 obtain ⟨x, rfl, hx, k⟩ := h
 obtain ⟨t1, g1⟩ := T.g_MOST_FIGURES
 obtain ⟨t2, g2⟩ := T.g_FIGURES
 walk_at "T"
 refine ⟨_, (zt (zw (zZ (qz qF qF zd (zA zD zC (za (pv 0) zb)) qk))  (zf (zo qi))  zk)  (zt (zw (zZ (zG (zA (bi_all rfl) bo_all (za (xR (vars := ["sign"]) (caps := []) (N := ["sign"]) (ON := ["word"]) (osc := zg s_number_from) rfl rfl (by first | decide +kernel | kernel_rfl) rfl rfl (pi_str (pv 0)) (fun s H fp pins => (pg_n 0 (show (["sign"] : List Str).Nodup from by decide +kernel))) (fun s H fp pins => qt) (fun s H fp pins => (xi og_inS (pv 0) qk (by with_unfolding_all rfl)))) zb)) (fun _ => rfl)))  (zf (zo qi))  zk)  (zt (zw (PW.pt (pw_and (zj (zK hr.units1) (zR (pv 0) zd) zu (zl _)) (pw_and1 (zj xk (zA zD zC (za (pv 0) zb)) zd (zl _)))))  (zf (zo qi))  zk)  (zf (zo (jz bt_intS Qg (za (pv 0) zb))))))), ?_⟩
 walk_at "go"
 refine ⟨x.length, ⟨hx, rfl⟩, ?_⟩
 walk_at "go"
 have hlen : x.cps.toList.length = x.length := Array.length_toList
 refine ite2 (fun h1 => ?_) (fun h1 => ?_)
 ·refine ⟨.int 30, _, g1, ⟨_, rfl⟩, ?_⟩
  walk_at "go"
  refine ite2 (fun h2 => ?_) (fun h2 => ?_)
  ·walk_at "go"
   have := k H (Same.refl _)
   unfold dueF at this
   rw [if_pos (.inr (.inl (by omega)))] at this
   exact this
  ·walk_at "lc"
   walk_at "go"
   refine fun _ _ _ _ acc hacc => ?_
   refine for_S (x := x) (fun i σ H' => ∃ v, σ = [v] ∧ Same H H' ∧ H' acc = some (.lst (((x.cps.toList.take i).map jU).map V.bl))) ⟨_, rfl, ze hacc, upd_same⟩ ?_ ?_
   ·rintro i c σ H' hi ⟨v, rfl, sH, ha⟩
    have hil : i < x.length := (Array.getElem?_eq_some_iff.mp hi).1
    have hi' : x.cps.toList[i]? = some c := by rw [Array.getElem?_toList]; exact hi
    walk_at "go"
    refine ⟨.str "0123456789", _, g2, ⟨_, rfl⟩, _, _, rfl, rfl, ?_⟩
    refine ⟨_, ha, by rw [List.length_map, List.length_map, List.length_take]; exact zq (by omega), _, rfl, (fun b o hb => by rw [upd_ne (ne_of_none hb hacc)]; exact sH b o hb), ?_⟩
    rw [upd_same, List.take_add_one, hi', wJ, occ_fig]
    simp only [Option.toList_some, List.map_append, List.map_cons, List.map_nil]
    cases jU c <;> rfl
   ·rintro σ H' ⟨v, rfl, sH, ha⟩
    rw [List.take_of_length_le (by rw [hlen]; exact Nat.le_refl _)] at ha
    walk_at "go"
    refine ⟨acc, _, rfl, ha, ?_⟩
    have hall : (x.cps.toList.map jU).all id = wO x.cps.toList := by rw [List.all_map]; rfl
    rw [hall]
    walk_at "go"
    cases hA : wO x.cps.toList with
    | false =>
     walk_at "go"
     have := k H' sH
     unfold dueF at this
     rw [hA] at this
     by_cases hz : x.length < 1 ∨ 30 < x.length ∨ (x.cps.toList[0]? = some 48 ∧ 1 < x.length)
     ·rw [if_pos hz] at this; exact this
     ·rw [if_neg hz, if_neg (by decide)] at this; exact this
    | true =>
     walk_at "go"
     obtain ⟨c, hc⟩ : ∃ c, x.cps.toList[0]? = some c := ⟨_, List.getElem?_eq_getElem (by omega)⟩
     refine .inr (.inr ⟨x, 0, c, rfl, rfl, hx, by have := jN hc; simpa using this, ?_⟩)
     walk_at "go"
     have fin : ¬ (c = 48 ∧ 1 < x.length) → Q (V.int (NumText.digitsVal x.cps.toList : Nat)) H' := fun hz => by
      have := k H' sH
      unfold dueF at this
      rw [if_neg (by rw [hc]; intro z; rcases z with z | z | ⟨z, z'⟩ <;> first | omega | exact hz ⟨by simpa using z, z'⟩), if_pos hA] at this
      exact this
     have fin2 : ¬ (c = 48 ∧ 1 < x.length) → ∃ x_1 n, [V.str x] = [V.str x_1] ∧ PySem.intText? x_1 = some n ∧ x_1.length ≤ 640 ∧ Q (V.int n) H' := fun hz =>
      ⟨x, _, rfl, PySem.intText_digits (allFig_digits hA) (fun z => by rw [z] at hlen; simp at hlen; omega) (by omega), by omega, fin hz⟩
     by_cases h48 : c = 48
     ·subst h48
      rw [if_pos ((ww 48).mpr rfl)]
      walk_at "go"
      refine ⟨x.length, ⟨hx, rfl⟩, ?_⟩
      walk_at "go"
      refine ite2 (fun h3 => ?_) (fun h3 => ?_)
      ·walk_at "go"
       have := k H' sH
       unfold dueF at this
       rw [if_pos (.inr (.inr ⟨hc, by omega⟩))] at this
       exact this
      ·walk_at "go"
       exact fin2 (by omega)
     ·rw [if_neg (fun z => h48 ((ww c).mp z))]
      walk_at "go"
      exact fin2 (by omega)
 ·walk_at "go"
  have := k H (Same.refl _)
  unfold dueF at this
  rw [if_pos (.inl (by omega))] at this
  exact this
theorem jW (T : Txt K mg a) : Cal P w K mg base "number_from" 1 ["word"] [] spNF := T.h_number_from.cal (ok_number_from T)
theorem due_int {n : Int} (h0 : 0 ≤ n) (h1 : n < zJ) : dueF (intS n) = some n.toNat := by
 obtain ⟨m, rfl⟩ := Int.eq_ofNat_of_zero_le h0
 have hs := PySem.W.KIN.signs_num m
 have hl : (intS (m : Int)).length ≤ 30 := PyProof.Rows.toString_length_le h0 (by decide) (by unfold zJ at h1; omega)
 have hlen : (intS (m : Int)).cps.toList.length = (intS (m : Int)).length := Array.length_toList
 have hs : (intS (m : Int)).cps.toList = (Nat.toDigits 10 m).map Char.toNat := hs
 have hd : NumText.AllDigits (intS (m : Int)).cps.toList := by
  intro c hc
  rw [hs] at hc
  obtain ⟨ch, hch, e⟩ := List.mem_map.mp hc
  have r := PyProof.Rows.digit_range (Nat.isDigit_of_mem_toDigits (by decide) (by decide) hch)
  rw [← e]
  exact r
 have hv : NumText.digitsVal (intS (m : Int)).cps.toList = m := by rw [hs]; exact PySem.W.KIN.val_back m
 have h1l : 1 ≤ (Nat.toDigits 10 m).length := PySem.toDigits_len_ge 10 m
 have hl2 : (Nat.toDigits 10 m).length = (intS (m : Int)).length := by rw [← hlen, hs, List.length_map]
 have nz : ¬ ((intS (m : Int)).cps.toList[0]? = some 48 ∧ 1 < (intS (m : Int)).length) := by
  rintro ⟨z, z1⟩
  have ta := NumText.toDigits_all _ hd
  rw [hv] at ta
  generalize (intS (m : Int)).cps.toList = cs at z hlen ta
  cases cs with
  | nil => cases z
  | cons c r =>
   have z : c = 48 := Option.some.inj z
   subst z
   rw [List.dropWhile_cons_of_pos (by rfl)] at ta
   have tl := congrArg List.length ta
   have dl := (List.dropWhile_sublist (fun x => x == 48) (l := r)).length_le
   rw [List.length_cons] at hlen
   split at tl
   ·simp at tl; omega
   ·rename_i c' r' e
    rw [e] at dl
    rw [List.length_map] at tl
    omega
 have hA : wO (intS (m : Int)).cps.toList = true := List.all_eq_true.mpr fun c hc => by
  have := hd c hc
  simp [jU, this.1, this.2]
 unfold dueF
 rw [if_neg (fun w => w.elim (fun w => by omega) fun w => w.elim (fun w => by omega) nz), if_pos hA, hv]
 rfl
theorem int_digits {n : Int} (h0 : 0 ≤ n) : NumText.AllDigits (intS n).cps.toList := by
 obtain ⟨m, rfl⟩ := Int.eq_ofNat_of_zero_le h0
 have hs : (intS (m : Int)).cps.toList = (Nat.toDigits 10 m).map Char.toNat := PySem.W.KIN.signs_num m
 intro c hc
 rw [hs] at hc
 obtain ⟨ch, hch, e⟩ := List.mem_map.mp hc
 have r := PyProof.Rows.digit_range (Nat.isDigit_of_mem_toDigits (by decide) (by decide) hch)
 rw [← e]
 exact r
theorem Ze {n : Int} {c : Nat} (h0 : 0 ≤ n) (hc : c < 48) : c ∉ (intS n).cps.toList := fun z => by
 have := int_digits h0 c z
 omega
theorem sp32 : (Str.ofString " ") = (⟨#[32]⟩ : Str) := by decide +kernel
theorem nl10 : (Str.ofString "\n") = (⟨#[10]⟩ : Str) := by decide +kernel
theorem vT {c d : Nat} : ∀ {xs : List Str}, c ∈ (Str.join ⟨#[d]⟩ xs).cps.toList → c = d ∨ ∃ x ∈ xs, c ∈ x.cps.toList
 | [], h => nomatch h
 | [x], h => .inr ⟨x, List.mem_cons_self .., h⟩
 | x :: y :: r, h => by
  rw [jM] at h
  rcases List.mem_append.mp h with h | h
  ·exact .inr ⟨x, List.mem_cons_self .., h⟩
  ·rcases List.mem_cons.mp h with h | h
   ·exact .inl h
   ·rcases vT h with h | ⟨z, hz, h⟩
    ·exact .inl h
    ·exact .inr ⟨z, List.mem_cons_of_mem _ hz, h⟩
theorem wz {nm : Str} {ns : List Int} (h : 32 ∉ nm.cps.toList) (hb : ∀ n ∈ ns, 0 ≤ n ∧ n < zJ) : Txt.split (jR nm ns) (Str.ofString " ") = nm :: ns.map intS := by
 unfold jR
 rw [sp32]
 refine we (by simp) fun x hx => ?_
 rcases List.mem_cons.mp hx with rfl | hx
 ·exact h
 ·obtain ⟨n, hn, rfl⟩ := List.mem_map.mp hx
  exact Ze (hb n hn).1 (by decide)
theorem w9 {nm : Str} {ns : List Int} (h : 10 ∉ nm.cps.toList) (hb : ∀ n ∈ ns, 0 ≤ n ∧ n < zJ) : 10 ∉ (jR nm ns).cps.toList := fun z => by
 unfold jR at z
 rw [sp32] at z
 rcases vT z with zc | ⟨x, hx, zx⟩
 ·cases zc
 ·rcases List.mem_cons.mp hx with rfl | hx
  ·exact h zx
  ·obtain ⟨n, hn, rfl⟩ := List.mem_map.mp hx
   exact Ze (hb n hn).1 (by decide) zx
theorem vG (wd : Wd) : 32 ∉ (wdS wd).cps.toList ∧ 10 ∉ (wdS wd).cps.toList := by cases wd <;> exact ⟨by decide +kernel, by decide +kernel⟩
theorem belt_free : 32 ∉ (Str.ofString "belt").cps.toList ∧ 10 ∉ (Str.ofString "belt").cps.toList := ⟨by decide +kernel, by decide +kernel⟩
theorem text_split {bs : List (Int × Int)} {rs : List Row} (h : Told2 bs rs) (b1 : 1 ≤ bs.length) : Txt.split (jq bs rs) (Str.ofString "\n") = qb bs rs := by
 unfold jq
 rw [nl10]
 refine we (fun z => ?_) fun x hx => ?_
 ·have := congrArg List.length z
  unfold qb at this
  rw [List.length_append, List.length_map, List.length_map, List.length_nil] at this
  omega
 ·rcases List.mem_append.mp hx with hx | hx
  ·obtain ⟨b, hb, rfl⟩ := List.mem_map.mp hx
   exact w9 belt_free.2 (jk (h.bo b hb))
  ·obtain ⟨r, hr, rfl⟩ := List.mem_map.mp hx
   exact w9 (vG _).2 (h.nb r hr)
theorem text_len {bs : List (Int × Int)} {rs : List Row} (h : Told2 bs rs) : (jq bs rs).length + 2 ≤ sizeLine := by
 have h1 := StrLaws.join_length_le "\n" (qb bs rs)
 obtain ⟨h2, h3⟩ := wS h
 have sl := j8 h3
 have c : (Str.ofString "\n").length = 1 := by decide +kernel
 rw [c] at h1
 have : 3000000 ≤ sizeLine := by decide
 unfold jq
 omega
def ZD (K : PySem.W.Frag) (a : Ad) : Sp := fun vs H Q _ => ∃ (l : Addr) (r : Row), vs = [.str (wdS r.wd), .ref l] ∧ H l = some (.lst (iv (zn r))) ∧ r.ok ∧ ∀ v' H', Same H H' → KnP a H' (New H) v' r → Q v' H'
theorem ok_made_part_k (T : Txt K mg a) (F : Fun K "made_part" "made_part" s_made_part f fd) : FnOk P w K mg base (CXr P w) 4 f fd ["name", "numbers"] (ZD K a) := by
 refine F.okx sc_made_part ?_ ?_
 ·walk_at "i"
 walk_at "j"
 obtain ⟨l, ⟨wd, ins, outs, pc, ks⟩, rfl, hl, ok, k⟩ := h
 walk_at "T"
 refine ⟨_, (zh (zO 2 sc_made_part.nd (zA zD zC (za (pv 1) zb)))  (zh (zw (PW.pt (pw_and (zj (zK hr.units1) (pv 0) zu (zl _)) (pw_and1 (zj (zK hr.units1) (pv 2) zd (zl _)))))  (zf (zo (qw ⟨rfl, rfl, rfl⟩ hr (za (zR (pv 1) zd) (za (zR (pv 1) zd) zb)))))  zk)  (zh (zw (PW.pt (pw_and (zj (zK hr.units1) (pv 0) zu (zl _)) (pw_and1 (zj jP (pv 2) zd (zl _)))))  (zf (zo (qw ⟨rfl, rfl, rfl⟩ hr (za (zR (pv 1) zd) (za (zR (pv 1) zd) (za (zV qm (pv 1) (zX zd) qg) zb))))))  zk)  (zh (zw (PW.pt (pw_and (zj (zK hr.units1) (pv 0) zu (zl _)) (pw_and1 (zj (zK hr.units1) (pv 2) zd (zl _)))))  (zf (zo (qw ⟨rfl, rfl, rfl⟩ hr (za (zR (pv 1) zd) (za (zR (pv 1) zd) zb)))))  zk)  (zh (zw (PW.pt (pw_and (zj (zK hr.units1) (pv 0) zu (zl _)) (pw_and1 (zj jP (pv 2) zd (zl _)))))  (zf (zo (qw ⟨rfl, rfl, rfl⟩ hr (za (zR (pv 1) zd) (za (zV qm (pv 1) (zX zd) qg) zb)))))  zk)  (zh (zw (PW.pt (pw_and (zj (zK hr.units1) (pv 0) zu (zl _)) (pw_and1 (zj jP (pv 2) zd (zl _)))))  (zf (zo (qw ⟨rfl, rfl, rfl⟩ hr (za (zR (pv 1) zd) (za (zV qm (pv 1) (zX zd) qg) zb)))))  zk)  (zh (zw (PW.pt (pw_and (zj (zK hr.units1) (pv 0) zu (zl _)) (pw_and1 (zj (zK hr.units1) (pv 2) zd (zl _)))))  (zf (zo (qw ⟨rfl, rfl, rfl⟩ hr (za (zR (pv 1) zd) (za (zV qm (pv 1) (zX zd) (zX zd)) (za (zR (pv 1) zd) zb))))))  zk)  (zh (zw (PW.pt (pw_and (zj (zK hr.units1) (pv 0) zu (zl _)) (pw_and1 (zj jP (pv 2) zd (zl _)))))  (zf (zo (qw ⟨rfl, rfl, rfl⟩ hr (za (zV qm (pv 1) (zX zd) qg) (za (zR (pv 1) zd) zb)))))  zk)  (zf (zo qi)))))))))), ?_⟩
 walk_at "go"
 refine ⟨_, .inl ⟨_, SqL.of hl, rfl⟩, ?_⟩
 walk_at "go"
 cases wd
 ·obtain ⟨q1, ⟨ov, q2⟩, q3, q4, q5, q6, q7⟩ := ok
  simp only at q1 q2 q3 q4 q5 q6 q7
  subst q1 q2
  have e : zn ⟨.source, [], [ov], pc, ks⟩ = ov :: pc :: ks := by simp [zn, z6]
  rw [e] at hl
  have hl : H l = some (.lst (.int ov :: .int pc :: iv ks)) := hl
  walk_at "go"
  refine ite2 (fun _ => ite2 (fun _ => ?_) (fun z => absurd (by rw [e, zm]; simp; omega) z)) (fun z => absurd rfl z)
  refine ⟨a.Source, _, _, _, (Za T).mono, z7 (SqL.of hl) at0 (z7 (SqL.of hl) (show atI _ 1 = some (.int pc) from jN (j := 1) rfl) (qD (SqL.of hl) fun m3' hm3 => ?_))⟩
  rw [show cutV (.int ov :: .int pc :: iv ks) (some 2) none = iv ks from (qC _ 2 (by simp)).trans rfl] at *
  intro z dz hz hdz hne
  have hm3' := upd_same (H := H) (a := m3') (o := .lst (iv ks))
  refine ⟨z, dz, m3', .int ov, pc, ks, rfl, upd_same, SqL.of (qd hz hdz hm3'), ne_of_none hm3' hz, fun _ H' m1 m2 m3 s' g1 g2 g3 g4 n1 n2 n3 => ⟨rfl, ?_⟩, fun hbad => absurd ⟨q3, q4, q5, q6, q7⟩ hbad⟩
  exact k _ _ ((ze hm3).trans (Own.of_new hz hdz s')) (ve (p := New H) (ins := []) (outs := [ov]) (zp hz) (zp (zE n1)) (zp (zE n2)) (zp (zE n3)) g1 g2 g3 g4)
 ·obtain ⟨⟨iv', q1⟩, q2, q3, q4⟩ := ok
  simp only at q1 q2 q3 q4
  subst q1 q2
  have e : zn ⟨.drain, [iv'], [], pc, ks⟩ = [iv', pc] := by simp [zn, z6]
  rw [e] at hl
  have hl : H l = some (.lst [.int iv', .int pc]) := hl
  walk_at "go"
  refine ite2 (fun _ => ite2 (fun _ => ?_) (fun z => absurd (by rw [e]; rfl) z)) (fun z => absurd rfl z)
  refine ⟨a.Drain, _, _, _, (ZN T).mono, z7 (SqL.of hl) at0 (z7 (SqL.of hl) at1 ?_)⟩
  intro z dz hz hdz hne
  refine ⟨z, dz, .int iv', pc, rfl, upd_same, ?_⟩
  rw [if_pos ⟨q3, q4⟩]
  intro H' m1 m2 s' g1 g2 g3 n1 n2
  exact ⟨rfl, k _ _ (Own.of_new hz hdz s') (vY (p := New H) (ins := [iv']) (outs := []) hz (zE n1) (zE n2) g1 g2 g3)⟩
 ·obtain ⟨⟨iv', q1⟩, q3, q4⟩ := ok
  simp only at q1 q3 q4
  subst q1
  have e : zn ⟨.parter, [iv'], outs, pc, ks⟩ = iv' :: outs := by simp [zn, z6]
  rw [e] at hl
  have hl : H l = some (.lst (.int iv' :: iv outs)) := hl
  walk_at "go"
  refine ite2 (fun _ => ite2 (fun _ => ?_) (fun z => absurd (by rw [e, zm]; simp; omega) z)) (fun z => absurd rfl z)
  refine ⟨a.Parter, _, _, _, (Zb T).mono, z7 (SqL.of hl) at0 (qD (SqL.of hl) fun m3 hm3 => ?_)⟩
  rw [show cutV (.int iv' :: iv outs) (some 1) none = iv outs from (qC _ 1 (by simp)).trans rfl] at *
  intro z dz hz hdz hne
  have hm3' := upd_same (H := H) (a := m3) (o := .lst (iv outs))
  refine ⟨z, dz, m3, .int iv', iv outs, rfl, upd_same, SqL.of (qd hz hdz hm3'), ne_of_none hm3' hz, ?_⟩
  rw [if_pos (by rw [zm]; exact ⟨q3, q4⟩)]
  intro H' m1 m2 s' g1 g2 g3 n1 n2
  exact ⟨rfl, k _ _ ((ze hm3).trans (Own.of_new hz hdz s')) (vg (p := New H) (ins := [iv']) (outs := outs) (zp hz) (zp (zE n1)) (zp (zE n2)) g1 g2 g3)⟩
 ·obtain ⟨⟨iv', q1⟩, q3, q4⟩ := ok
  simp only at q1 q3 q4
  subst q1
  have e : zn ⟨.first, [iv'], outs, pc, ks⟩ = iv' :: outs := by simp [zn, z6]
  rw [e] at hl
  have hl : H l = some (.lst (.int iv' :: iv outs)) := hl
  walk_at "go"
  refine ite2 (fun _ => ite2 (fun _ => ?_) (fun z => absurd (by rw [e, zm]; simp; omega) z)) (fun z => absurd rfl z)
  refine ⟨a.FirstParter, _, _, _, (jT T).mono, z7 (SqL.of hl) at0 (qD (SqL.of hl) fun m3 hm3 => ?_)⟩
  rw [show cutV (.int iv' :: iv outs) (some 1) none = iv outs from (qC _ 1 (by simp)).trans rfl] at *
  intro z dz hz hdz hne
  have hm3' := upd_same (H := H) (a := m3) (o := .lst (iv outs))
  refine ⟨z, dz, m3, .int iv', iv outs, rfl, upd_same, SqL.of (qd hz hdz hm3'), ne_of_none hm3' hz, ?_⟩
  rw [if_pos (by rw [zm]; exact ⟨q3, q4⟩)]
  intro H' m1 m2 s' g1 g2 g3 n1 n2
  exact ⟨rfl, k _ _ ((ze hm3).trans (Own.of_new hz hdz s')) (vX (p := New H) (ins := [iv']) (outs := outs) (zp hz) (zp (zE n1)) (zp (zE n2)) g1 g2 g3)⟩
 ·obtain ⟨⟨iv', q1⟩, q3, kk, q4, q5, q6⟩ := ok
  simp only at q1 q3 q4
  subst q1 q4
  obtain ⟨o1, o2, rfl⟩ : ∃ o1 o2, outs = [o1, o2] := by
   match outs, q3 with
   | [o1, o2], _ => exact ⟨o1, o2, rfl⟩
  have e : zn ⟨.sieve, [iv'], [o1, o2], pc, [kk]⟩ = [iv', o1, o2, kk] := by simp [zn, z6]
  rw [e] at hl
  have hl : H l = some (.lst [.int iv', .int o1, .int o2, .int kk]) := hl
  walk_at "go"
  refine ite2 (fun _ => ite2 (fun _ => ?_) (fun z => absurd (by rw [e]; rfl) z)) (fun z => absurd rfl z)
  refine ⟨a.Sieve, _, _, _, (ZM T).mono, z7 (SqL.of hl) at0 (qD (SqL.of hl) fun m3 hm3 => ?_)⟩
  rw [show cutV [V.int iv', .int o1, .int o2, .int kk] (some 1) (some 3) = iv [o1, o2] from rfl] at *
  refine z7 (SqL.of (upd_keep hl hm3)) (show atI _ 3 = some (.int kk) from jN (j := 3) rfl) ?_
  intro z dz hz hdz hne
  have hm3' := upd_same (H := H) (a := m3) (o := .lst (iv [o1, o2]))
  refine ⟨z, dz, m3, .int iv', iv [o1, o2], kk, rfl, upd_same, SqL.of (qd hz hdz hm3'), ne_of_none hm3' hz, ?_⟩
  rw [if_pos (by rw [zm]; exact ⟨q3, q5, q6⟩)]
  intro H' m1 m2 s' g1 g2 g3 n1 n2
  exact ⟨rfl, k _ _ ((ze hm3).trans (Own.of_new hz hdz s')) (vW (p := New H) (ins := [iv']) (outs := [o1, o2]) (zp hz) (zp (zE n1)) (zp (zE n2)) g1 g2 g3)⟩
 ·obtain ⟨⟨ov, q1⟩, q3, q4⟩ := ok
  simp only at q1 q3 q4
  subst q1
  have e : zn ⟨.joiner, ins, [ov], pc, ks⟩ = ov :: ins := by simp [zn]
  rw [e] at hl
  have hl : H l = some (.lst (.int ov :: iv ins)) := hl
  walk_at "go"
  refine ite2 (fun _ => ite2 (fun _ => ?_) (fun z => absurd (by rw [e, zm]; simp; omega) z)) (fun z => absurd rfl z)
  refine ⟨a.Joiner, _, _, _, (Zc T).mono, qD (SqL.of hl) fun m3 hm3 => ?_⟩
  rw [show cutV (.int ov :: iv ins) (some 1) none = iv ins from (qC _ 1 (by simp)).trans rfl] at *
  refine z7 (SqL.of (upd_keep hl hm3)) at0 ?_
  intro z dz hz hdz hne
  have hm3' := upd_same (H := H) (a := m3) (o := .lst (iv ins))
  refine ⟨z, dz, m3, .int ov, iv ins, rfl, upd_same, SqL.of (qd hz hdz hm3'), ne_of_none hm3' hz, ?_⟩
  rw [if_pos (by rw [zm]; exact ⟨q3, q4⟩)]
  intro H' m1 m2 s' g1 g2 g3 n1 n2
  exact ⟨rfl, k _ _ ((ze hm3).trans (Own.of_new hz hdz s')) (vh (p := New H) (ins := ins) (outs := [ov]) (zp hz) (zp (zE n1)) (zp (zE n2)) g1 g2 g3)⟩
theorem c_made_part_k (T : Txt K mg a) : Cal P w K mg base "made_part" 4 ["name", "numbers"] [] (ZD K a) := T.h_made_part.cal (ok_made_part_k T)
def ZE (a : Ad) : Sp := fun vs H Q _ => ∃ (l : Addr) (b : Int × Int), vs = [.str "belt", .ref l] ∧ H l = some (.lst (iv [b.1, b.2])) ∧ qj b.1 b.2 ∧ ∀ v' H', Same H H' → BtP a H' (New H) v' b → Q v' H'
theorem ok_made_part_b (T : Txt K mg a) (F : Fun K "made_part" "made_part" s_made_part f fd) : FnOk P w K mg base (CXr P w) 4 f fd ["name", "numbers"] (ZE a) := by
 refine F.okx sc_made_part ?_ ?_
 ·walk_at "i"
 walk_at "j"
 obtain ⟨l, ⟨rm, pc⟩, rfl, hl, ok, k⟩ := h
 have hl : H l = some (.lst [.int rm, .int pc]) := hl
 walk_at "T"
 refine ⟨_, (zh (zO 2 sc_made_part.nd (zA zD zC (za (pv 1) zb)))  (zh (zw (PW.pt (pw_and (zj (zK hr.units1) (pv 0) zu (zl _)) (pw_and1 (zj (zK hr.units1) (pv 2) zd (zl _)))))  (zf (zo (qw ⟨rfl, rfl, rfl⟩ hr (za (zR (pv 1) zd) (za (zR (pv 1) zd) zb)))))  zk)  (zh (zw (PW.pt (pw_and (zj (zK hr.units1) (pv 0) zu (zl _)) (pw_and1 (zj jP (pv 2) zd (zl _)))))  (zf (zo (qw ⟨rfl, rfl, rfl⟩ hr (za (zR (pv 1) zd) (za (zR (pv 1) zd) (za (zV qm (pv 1) (zX zd) qg) zb))))))  zk)  (zh (zw (PW.pt (pw_and (zj (zK hr.units1) (pv 0) zu (zl _)) (pw_and1 (zj (zK hr.units1) (pv 2) zd (zl _)))))  (zf (zo (qw ⟨rfl, rfl, rfl⟩ hr (za (zR (pv 1) zd) (za (zR (pv 1) zd) zb)))))  zk)  (zh (zw (PW.pt (pw_and (zj (zK hr.units1) (pv 0) zu (zl _)) (pw_and1 (zj jP (pv 2) zd (zl _)))))  (zf (zo (qw ⟨rfl, rfl, rfl⟩ hr (za (zR (pv 1) zd) (za (zV qm (pv 1) (zX zd) qg) zb)))))  zk)  (zh (zw (PW.pt (pw_and (zj (zK hr.units1) (pv 0) zu (zl _)) (pw_and1 (zj jP (pv 2) zd (zl _)))))  (zf (zo (qw ⟨rfl, rfl, rfl⟩ hr (za (zR (pv 1) zd) (za (zV qm (pv 1) (zX zd) qg) zb)))))  zk)  (zh (zw (PW.pt (pw_and (zj (zK hr.units1) (pv 0) zu (zl _)) (pw_and1 (zj (zK hr.units1) (pv 2) zd (zl _)))))  (zf (zo (qw ⟨rfl, rfl, rfl⟩ hr (za (zR (pv 1) zd) (za (zV qm (pv 1) (zX zd) (zX zd)) (za (zR (pv 1) zd) zb))))))  zk)  (zh (zw (PW.pt (pw_and (zj (zK hr.units1) (pv 0) zu (zl _)) (pw_and1 (zj jP (pv 2) zd (zl _)))))  (zf (zo (qw ⟨rfl, rfl, rfl⟩ hr (za (zV qm (pv 1) (zX zd) qg) (za (zR (pv 1) zd) zb)))))  zk)  (zf (zo qi)))))))))), ?_⟩
 walk_at "go"
 refine ⟨_, .inl ⟨_, SqL.of hl, rfl⟩, ?_⟩
 walk_at "go"
 refine ⟨a.Belt, _, _, _, (Qa T).mono, z7 (SqL.of hl) at0 (z7 (SqL.of hl) at1 ?_)⟩
 intro z dz hz hdz hne
 refine ⟨z, dz, rm, pc, rfl, upd_same, ?_⟩
 rw [if_pos ok, vq]
 have sN : Same H (upd (upd H dz (.own z)) z (.ins a.Belt dz (bf rm pc))) := fun b o h => by rw [upd_ne (ne_of_none h hz), upd_ne (ne_of_none h hdz)]; exact h
 exact ⟨rfl, k _ _ sN (Qo (p := New H) hz upd_same)⟩
theorem c_made_part_b (T : Txt K mg a) : Cal P w K mg base "made_part" 4 ["name", "numbers"] [] (ZE a) := T.h_made_part.cal (ok_made_part_b T)
theorem Z9 (ns : List Int) : inV .non (iv ns) = false := by
 unfold inV iv
 rw [List.any_map]
 exact List.any_eq_false.mpr fun n _ => by simp [eqV]
theorem ZK {n : Int} (h0 : 0 ≤ n) (h1 : n < zJ) : optN (dueF (intS n)) = .int n := by
 rw [due_int h0 h1]
 show V.int (n.toNat : Int) = .int n
 rw [Int.toNat_of_nonneg h0]
def ZB (K : PySem.W.Frag) (a : Ad) : Sp := fun vs H Q _ => ∃ (r : Row), vs = [.str (rowS r)] ∧ r.ok ∧ (∀ n ∈ zn r, 0 ≤ n ∧ n < zJ) ∧ ∀ v' H', Same H H' → KnP a H' (New H) v' r → Q v' H'
theorem ok_part_from_k (T : Txt K mg a) (F : Fun K "part_from" "part_from" s_part_from f fd) : FnOk P w K mg base (CXr P w) 5 f fd ["row"] (ZB K a) := by
 refine F.okx sc_part_from ?_ ?_
 ·walk_at "i"
 walk_at "j"
 obtain ⟨r, rfl, ok, nb, k⟩ := h
 have len20 := xl ok
 have ll := xn (vp r.wd) len20 nb
 have z3 : 3000000 ≤ sizeLine := by decide
 walk_at "T"
 refine ⟨_, (zh (zO 1 sc_part_from.nd (zW PySem.F.plainAttrs_str PySem.F.slot_str_split PySem.F.type_str_split wy (pv 0) (za zu zb)))  (zh (vO (i := 2) sc_part_from.nd rfl (Or.inl rfl) (vars := ["word"]) (caps := []) (N := ["word"]) (ON := ["row", "words", "numbers"]) (osc := zg s_part_from) rfl rfl (by first | decide +kernel | kernel_rfl) rfl rfl (ql (zV qm (pv 1) (zX zd) qg)) (fun s H fp pins => (pg_n 0 (show (["word"] : List Str).Nodup from by decide +kernel))) (fun s H fp pins => qt) (fun s H fp pins => (vx hr (za (pv 0) zb))))  (zh (zw (zj Qk qi (pv 2) (by with_unfolding_all rfl))  (zf (zo qi))  zk)  (zf (ZI ⟨rfl, rfl, rfl⟩ rfl (fun pn G => (zf (zo (zH ⟨rfl, rfl, rfl⟩ hr (za (zR (pv 1) zd) (za (pv 2) zb)))))) (fun pn a => (zf (zo qi))) (fun pn a => (zf (zo qi)))))))), ?_⟩
 walk_at "go"
 refine ⟨ju, _, _, rfl, rfl, by decide +kernel, by unfold rowS; omega, fun wl hwl => ?_⟩
 rw [show Txt.split (rowS r) (Str.ofString " ") = wdS r.wd :: (zn r).map intS from wz (vG _).1 nb]
 have s1 := ze (o := .lst ((wdS r.wd :: (zn r).map intS).map V.str)) hwl
 have g1 : upd H wl (.lst ((wdS r.wd :: (zn r).map intS).map V.str)) wl = some (.lst (.str (wdS r.wd) :: ((zn r).map intS).map V.str)) := upd_same
 generalize upd H wl _ = H1 at s1 g1 ⊢
 walk_at "go"
 walk_at "lc"
 walk_at "go"
 refine qD (SqL.of g1) fun q1 hq1 => ?_
 rw [show cutV (.str (wdS r.wd) :: ((zn r).map intS).map V.str) (some 1) none = ((zn r).map intS).map V.str from (qC _ 1 (by simp)).trans rfl] at *
 have s2 := s1.trans (ze (o := .lst (((zn r).map intS).map V.str)) hq1)
 have g2 : upd H1 q1 (.lst (((zn r).map intS).map V.str)) q1 = some (.lst (((zn r).map intS).map V.str)) := upd_same
 have gw := ze (o := .lst (((zn r).map intS).map V.str)) hq1 _ _ g1
 generalize upd H1 q1 _ = H2 at s2 g2 gw ⊢
 refine ⟨q1, rfl, .inl ⟨⟨_, SqL.of g2⟩, fun _ _ _ _ acc hacc => ?_⟩⟩
 refine qx (K := K) (a := q1) (xs := ((zn r).map intS).map V.str) (fun i σ H' => ∃ v0, σ = [v0] ∧ Same H2 H' ∧ H' acc = some (.lst (iv ((zn r).take i)))) ⟨_, rfl, ze hacc, upd_same⟩ (fun i σ H' _ h => by obtain ⟨_, _, s, _⟩ := h; exact SqL.of (s _ _ g2)) ?_ ?_
 ·rintro i x σ H3 hi ⟨v0, rfl, s3, g3⟩
  rw [List.map_map, List.getElem?_map, Option.map_eq_some_iff] at hi
  obtain ⟨n, hn, rfl⟩ := hi
  have hil := (List.getElem?_eq_some_iff.mp hn).1
  have nn := nb n (List.mem_of_getElem? hn)
  have il := qG nn.1 nn.2
  walk_at "go"
  refine uc (jW T).mono ⟨intS n, rfl, by omega, fun H4 s4 => ?_⟩
  rw [ZK nn.1 nn.2]
  refine ⟨_, s4 _ _ g3, zq (by rw [zm, List.length_take]; omega), _, rfl, fun b o hb => ?_, ?_⟩
  ·rw [upd_ne (ne_of_none hb hacc)]; exact s4 _ _ (s3 b o hb)
  ·rw [upd_same, qA, List.take_add_one, hn]; rfl
 rintro σ H3 ⟨v0, rfl, s3, g3⟩
 rw [List.length_map, List.length_map, List.take_length] at g3
 have s03 := s2.trans s3
 walk_at "go"
 refine ⟨acc, _, rfl, .inl (SqL.of g3), rfl, wb _, ?_⟩
 rw [Z9]
 walk_at "go"
 refine ⟨a.BadBelt, a.BadKnot, T.g_BadBelt, T.S_BadBelt, T.g_BadKnot, T.S_BadKnot, fun pn => ?_⟩
 walk_at "go"
 refine uc (c_made_part_k T).mono (z7 (SqL.of (s3 _ _ gw)) at0 ?_)
 exact ⟨acc, r, rfl, g3, ok, fun v' H4 s4 hk => k v' H4 (s03.trans s4) (hk.keep fun b o hp hb => ⟨zS s03 hp, hb⟩)⟩
theorem c_part_from_k (T : Txt K mg a) : Cal P w K mg base "part_from" 5 ["row"] [] (ZB K a) := T.h_part_from.cal (ok_part_from_k T)
def ZC (K : PySem.W.Frag) (a : Ad) : Sp := fun vs H Q _ => ∃ (b : Int × Int), vs = [.str (jK b)] ∧ qj b.1 b.2 ∧ ∀ v' H', Same H H' → BtP a H' (New H) v' b → Q v' H'
theorem ok_part_from_b (T : Txt K mg a) (F : Fun K "part_from" "part_from" s_part_from f fd) : FnOk P w K mg base (CXr P w) 5 f fd ["row"] (ZC K a) := by
 refine F.okx sc_part_from ?_ ?_
 ·walk_at "i"
 walk_at "j"
 obtain ⟨b, rfl, ok, k⟩ := h
 have nb := jk ok
 have len20 : [b.1, b.2].length ≤ 20 := by show 2 ≤ 20; decide
 have ll := xn (nm := Str.ofString "belt") (by decide +kernel) len20 nb
 have z3 : 3000000 ≤ sizeLine := by decide
 walk_at "T"
 refine ⟨_, (zh (zO 1 sc_part_from.nd (zW PySem.F.plainAttrs_str PySem.F.slot_str_split PySem.F.type_str_split wy (pv 0) (za zu zb)))  (zh (vO (i := 2) sc_part_from.nd rfl (Or.inl rfl) (vars := ["word"]) (caps := []) (N := ["word"]) (ON := ["row", "words", "numbers"]) (osc := zg s_part_from) rfl rfl (by first | decide +kernel | kernel_rfl) rfl rfl (ql (zV qm (pv 1) (zX zd) qg)) (fun s H fp pins => (pg_n 0 (show (["word"] : List Str).Nodup from by decide +kernel))) (fun s H fp pins => qt) (fun s H fp pins => (vx hr (za (pv 0) zb))))  (zh (zw (zj Qk qi (pv 2) (by with_unfolding_all rfl))  (zf (zo qi))  zk)  (zf (ZI ⟨rfl, rfl, rfl⟩ rfl (fun pn G => (zf (zo (zH ⟨rfl, rfl, rfl⟩ hr (za (zR (pv 1) zd) (za (pv 2) zb)))))) (fun pn a => (zf (zo qi))) (fun pn a => (zf (zo qi)))))))), ?_⟩
 walk_at "go"
 refine ⟨ju, _, _, rfl, rfl, by decide +kernel, by unfold jK; omega, fun wl hwl => ?_⟩
 rw [show Txt.split (jK b) (Str.ofString " ") = Str.ofString "belt" :: ([b.1, b.2]).map intS from wz belt_free.1 nb]
 have s1 := ze (o := .lst ((Str.ofString "belt" :: ([b.1, b.2]).map intS).map V.str)) hwl
 have g1 : upd H wl (.lst ((Str.ofString "belt" :: ([b.1, b.2]).map intS).map V.str)) wl = some (.lst (.str (Str.ofString "belt") :: (([b.1, b.2]).map intS).map V.str)) := upd_same
 generalize upd H wl _ = H1 at s1 g1 ⊢
 walk_at "go"
 walk_at "lc"
 walk_at "go"
 refine qD (SqL.of g1) fun q1 hq1 => ?_
 rw [show cutV (.str (Str.ofString "belt") :: (([b.1, b.2]).map intS).map V.str) (some 1) none = (([b.1, b.2]).map intS).map V.str from (qC _ 1 (by simp)).trans rfl] at *
 have s2 := s1.trans (ze (o := .lst ((([b.1, b.2]).map intS).map V.str)) hq1)
 have g2 : upd H1 q1 (.lst ((([b.1, b.2]).map intS).map V.str)) q1 = some (.lst ((([b.1, b.2]).map intS).map V.str)) := upd_same
 have gw := ze (o := .lst ((([b.1, b.2]).map intS).map V.str)) hq1 _ _ g1
 generalize upd H1 q1 _ = H2 at s2 g2 gw ⊢
 refine ⟨q1, rfl, .inl ⟨⟨_, SqL.of g2⟩, fun _ _ _ _ acc hacc => ?_⟩⟩
 refine qx (K := K) (a := q1) (xs := (([b.1, b.2]).map intS).map V.str) (fun i σ H' => ∃ v0, σ = [v0] ∧ Same H2 H' ∧ H' acc = some (.lst (iv (([b.1, b.2]).take i)))) ⟨_, rfl, ze hacc, upd_same⟩ (fun i σ H' _ h => by obtain ⟨_, _, s, _⟩ := h; exact SqL.of (s _ _ g2)) ?_ ?_
 ·rintro i x σ H3 hi ⟨v0, rfl, s3, g3⟩
  rw [List.map_map, List.getElem?_map, Option.map_eq_some_iff] at hi
  obtain ⟨n, hn, rfl⟩ := hi
  have hil := (List.getElem?_eq_some_iff.mp hn).1
  have nn := nb n (List.mem_of_getElem? hn)
  have il := qG nn.1 nn.2
  walk_at "go"
  refine uc (jW T).mono ⟨intS n, rfl, by omega, fun H4 s4 => ?_⟩
  rw [ZK nn.1 nn.2]
  refine ⟨_, s4 _ _ g3, zq (by rw [zm, List.length_take]; omega), _, rfl, fun c o hb => ?_, ?_⟩
  ·rw [upd_ne (ne_of_none hb hacc)]; exact s4 _ _ (s3 c o hb)
  ·rw [upd_same, qA, List.take_add_one, hn]; rfl
 rintro σ H3 ⟨v0, rfl, s3, g3⟩
 rw [List.length_map, List.length_map, List.take_length] at g3
 have s03 := s2.trans s3
 walk_at "go"
 refine ⟨acc, _, rfl, .inl (SqL.of g3), rfl, wb _, ?_⟩
 rw [Z9]
 walk_at "go"
 refine ⟨a.BadBelt, a.BadKnot, T.g_BadBelt, T.S_BadBelt, T.g_BadKnot, T.S_BadKnot, fun pn => ?_⟩
 walk_at "go"
 refine uc (c_made_part_b T).mono (z7 (SqL.of (s3 _ _ gw)) at0 ?_)
 exact ⟨acc, b, rfl, g3, ok, fun v' H4 s4 hk => k v' H4 (s03.trans s4) (hk.keep fun b o hp hb => ⟨zS s03 hp, hb⟩)⟩
theorem c_part_from_b (T : Txt K mg a) : Cal P w K mg base "part_from" 5 ["row"] [] (ZC K a) := T.h_part_from.cal (ok_part_from_b T)
def Zl (K : PySem.W.Frag) (a : Ad) : Sp := fun vs H Q _ => ∃ (bs : List (Int × Int)) (rs : List Row), vs = [.str (jq bs rs)] ∧ jt bs rs ∧ Told2 bs rs ∧ ∀ v' H', Same H H' → Rep H' (Off []) v' (wL a bs rs) → Q v' H'
theorem Zf {K : PySem.W.Frag} {a : Ad} {vs : List V} {H : Hp} {Q : VK} {E : XK} (bs : List (Int × Int)) (rs : List Row) (q0 : vs = [.str (jq bs rs)]) (q1 : jt bs rs) (q2 : Told2 bs rs) (q3 : ∀ v' H', Same H H' → Rep H' (Off []) v' (wL a bs rs) → Q v' H') : Zl K a vs H Q E := ⟨bs, rs, q0, q1, q2, q3⟩
theorem ok_read_work (T : Txt K mg a) (F : Fun K "read_work" "read_work" s_read_work f fd) : FnOk P w K mg base (CXr P w) 7 f fd ["text"] (Zl K a) := by
 refine F.okx sc_read_work ?_ ?_
 ·walk_at "i"
 walk_at "j"
 obtain ⟨bs, rs, rfl, wok, tl, k⟩ := h
 have b24 := tl.b24
 have r24 := tl.r24
 have tln : (qb bs rs).length = bs.length + rs.length := by unfold qb; rw [List.length_append, List.length_map, List.length_map]
 walk_at "T"
 refine ⟨_, (zh (zO 1 sc_read_work.nd (zz zb))  (zh (zO 2 sc_read_work.nd (zz zb))  (qc (qy qR rfl (pi_enumerate (za (zW PySem.F.plainAttrs_str PySem.F.slot_str_split PySem.F.type_str_split wy (pv 0) (za zu zb)) zb)) (jy (n := 2) rfl (zN (pg_n 3 sc_read_work.nd) (zN (pg_n 4 sc_read_work.nd) qV)))  (zh (zO 5 sc_read_work.nd (zH ⟨rfl, rfl, rfl⟩ hr (za (pv 4) zb)))  (zf (zw (zG (zA qf zr (za (pv 5) (za qk zb))) (fun _ => rfl))  (zf (zv (zW PySem.F.plainAttrs_list PySem.F.slot_list_append PySem.F.type_list_append zF (pv 2) (za (pv 5) zb))))  (zf (zw (PW.pt (pw_and (zG (zA qf zr (za (pv 5) (za qk zb))) (fun _ => rfl)) (pw_and1 (zj (zK hr.units1) (zA zD zC (za (pv 2) zb)) zd (zl _)))))  (zf (zv (zW PySem.F.plainAttrs_list PySem.F.slot_list_append PySem.F.type_list_append zF (pv 1) (za (pv 5) zb))))  (zf ps_never)))))))  (zf (zo (qw ⟨rfl, rfl, rfl⟩ hr (za (pv 1) (za (pv 2) zb)))))))), ?_⟩
 walk_at "go"
 intro B hB
 walk_at "go"
 intro R hR
 have s1 := (ze (o := .lst []) hB).trans (ze (o := .lst []) hR)
 have nBR : B ≠ R := ne_of_none upd_same hR
 have gB := upd_keep (o := .lst []) (upd_same (H := H) (a := B) (o := .lst [])) hR
 have gR : upd (upd H B (.lst [])) R (.lst []) R = some (.lst []) := upd_same
 have nR := zp hR
 generalize upd (upd H B (.lst [])) R (.lst []) = H1 at s1 gB gR ⊢
 have nw : ∀ m ∈ [B, R], H m = none := fun m hm => by
  simp only [List.mem_cons, List.not_mem_nil, or_false] at hm
  rcases hm with rfl | rfl
  ·exact hB
  ·exact nR
 walk_at "go"
 refine cut (fun σ' H' => ∃ v3 v4 v5 bv kv, σ' = [some (.str (jq bs rs)), some (.ref B), some (.ref R), v3, v4, v5] ∧ Same H H' ∧ H' B = some (.lst bv) ∧ H' R = some (.lst kv) ∧ Bts a H' (Off [B, R]) bv bs ∧ Kns a H' (Off [B, R]) kv rs) ?_ ?_
 ·walk_at "for"
  walk_at "go"
  refine ⟨ju, _, _, rfl, rfl, by decide +kernel, text_len tl, fun q hq => ?_⟩
  rw [text_split tl wok.1.1.1]
  have s2 := ze (o := .lst ((qb bs rs).map V.str)) hq
  have gq : upd H1 q (.lst ((qb bs rs).map V.str)) q = some (.lst ((qb bs rs).map V.str)) := upd_same
  have nq : q ∉ [B, R] := fun z => by
   simp only [List.mem_cons, List.not_mem_nil, or_false] at z
   rcases z with rfl | rfl
   ·rw [gB] at hq; cases hq
   ·rw [gR] at hq; cases hq
  have gB2 := s2 _ _ gB
  have gR2 := s2 _ _ gR
  generalize upd H1 q _ = H2 at s2 gq gB2 gR2 ⊢
  refine ⟨q, _, rfl, gq, ?_⟩
  refine for_E (K := K) (a := q) (xs := (qb bs rs).map V.str) (fun i σ' H' => ∃ v3 v4 v5 bv kv, σ' = [some (.str (jq bs rs)), some (.ref B), some (.ref R), v3, v4, v5] ∧ Fr [B, R] H2 H' ∧ H' B = some (.lst bv) ∧ H' R = some (.lst kv) ∧ Bts a H' (Off [B, R]) bv (bs.take i) ∧ Kns a H' (Off [B, R]) kv (rs.take (i - bs.length)))
   ⟨_, _, _, [], [], rfl, Fr.refl, gB2, gR2, by rw [List.take_zero]; exact .nil, by rw [Nat.zero_sub, List.take_zero]; exact .nil⟩ (fun i σ H' _ h => by obtain ⟨_, _, _, _, _, _, fr, _⟩ := h; exact SqL.of (fr _ _ nq gq)) ?_ ?_
  ·rintro i x t σ' H3 hi ht ⟨v3, v4, v5, bv, kv, rfl, f3, gB3, gR3, hb3, hk3⟩
   rw [List.getElem?_map, Option.map_eq_some_iff] at hi
   obtain ⟨ln, hln, rfl⟩ := hi
   have off3 : ∀ {b : Addr}, H3 b = none → b ∉ [B, R] := fun {b} hb z => by
    simp only [List.mem_cons, List.not_mem_nil, or_false] at z
    rcases z with rfl | rfl
    ·rw [gB3] at hb; cases hb
    ·rw [gR3] at hb; cases hb
   have s4 := ze (o := .tup [.int i, .str ln]) ht
   refine un2 upd_same ?_
   generalize upd H3 t (.tup [.int i, .str ln]) = H4 at s4 ⊢
   walk_at "go"
   by_cases hib : i < bs.length
   ·have e : ln = jK bs[i] := by
     unfold qb at hln
     rw [List.getElem?_append_left (by rw [List.length_map]; exact hib), List.getElem?_map, List.getElem?_eq_getElem hib] at hln
     exact (Option.some.inj hln).symm
    subst e
    have hbi : bs[i]? = some bs[i] := List.getElem?_eq_getElem hib
    refine uc (c_part_from_b T).mono ⟨bs[i], rfl, tl.bo _ (List.getElem_mem hib), fun v' H5 s5 hBt => ?_⟩
    have s35 := s4.trans s5
    obtain ⟨yb, dxb, fb, rfl, pyb, hyb, f1, f2⟩ := hBt.inv
    walk_at "go"
    refine ⟨.ref a.Knot, _, T.g_Knot, rfl, _, _, _, _, rfl, T.W_Belt.ty T.C_Belt hyb, .inl ⟨_, rfl, T.k1_Belt_Knot⟩, ?_⟩
    walk_at "go"
    refine ⟨.ref a.Belt, _, T.g_Belt, rfl, _, _, _, _, rfl, T.W_Belt.ty T.C_Belt hyb, .inl ⟨_, rfl, T.k1_Belt_Belt⟩, ?_⟩
    walk_at "go"
    refine ⟨_, .inl ⟨_, SqL.of (s35 _ _ gR3), rfl⟩, ?_⟩
    rw [hk3.len, show i - bs.length = 0 by omega, List.take_zero]
    walk_at "go"
    refine ⟨.inl ⟨rfl, _, SqL.of (s35 _ _ gB3)⟩, B, bv, _, rfl, rfl, s35 _ _ gB3, zq (by rw [hb3.len, List.length_take]; omega), ?_⟩
    have f6 : Fr [B, R] H5 (upd H5 B (.lst (bv ++ [.ref yb]))) := qB (by simp)
    have f36 := s35.fr.trans f6
    refine ⟨_, _, _, bv ++ [.ref yb], kv, rfl, f3.trans f36, upd_same, by rw [upd_ne nBR.symm]; exact s35 _ _ gR3, ?_, ?_⟩
    ·rw [List.take_add_one, hbi]
     exact Bts.push (hb3.keep fun b o hp hb => ⟨hp, f36 _ _ hp hb⟩) (hBt.keep fun b o hp hb => ⟨off3 (zS s4 hp), f6 _ _ (off3 (zS s4 hp)) hb⟩)
    ·rw [show i + 1 - bs.length = i - bs.length by omega]
     exact hk3.keep fun b o hp hb => ⟨hp, f36 _ _ hp hb⟩
   ·have hjr : i - bs.length < rs.length := by
     have := (List.getElem?_eq_some_iff.mp hln).1
     rw [tln] at this
     omega
    have hri : rs[i - bs.length]? = some rs[i - bs.length] := List.getElem?_eq_getElem hjr
    have e : ln = rowS rs[i - bs.length] := by
     unfold qb at hln
     rw [List.getElem?_append_right (by rw [List.length_map]; omega), List.length_map, List.getElem?_map, hri] at hln
     exact (Option.some.inj hln).symm
    have rm := List.mem_of_getElem? hri
    generalize hrr : rs[i - bs.length] = r at e hri rm
    subst e
    refine uc (c_part_from_k T).mono ⟨r, rfl, tl.ro r rm, tl.nb r rm, fun v' H5 s5 hKn => ?_⟩
    have s35 := s4.trans s5
    obtain ⟨yk, dxk, m1, m2, m3, fk, rfl, _, _, _, _, hyk, _⟩ := hKn.inv
    walk_at "go"
    refine ⟨.ref a.Knot, _, T.g_Knot, rfl, _, _, _, _, rfl, (WT T _).ty (CT T _) hyk, .inl ⟨_, rfl, KT T _⟩, ?_⟩
    walk_at "go"
    refine ⟨.inl ⟨rfl, _, SqL.of (s35 _ _ gR3)⟩, R, kv, _, rfl, rfl, s35 _ _ gR3, zq (by rw [hk3.len, List.length_take]; omega), ?_⟩
    have f6 : Fr [B, R] H5 (upd H5 R (.lst (kv ++ [.ref yk]))) := qB (by simp)
    have f36 := s35.fr.trans f6
    refine ⟨_, _, _, bv, kv ++ [.ref yk], rfl, f3.trans f36, by rw [upd_ne nBR]; exact s35 _ _ gB3, upd_same, ?_, ?_⟩
    ·rw [List.take_of_length_le (by omega)] at hb3 ⊢
     exact hb3.keep fun b o hp hb => ⟨hp, f36 _ _ hp hb⟩
    ·rw [show i + 1 - bs.length = (i - bs.length) + 1 by omega, List.take_add_one, hri]
     exact Kns.append (hk3.keep fun b o hp hb => ⟨hp, f36 _ _ hp hb⟩) (Kns.one (hKn.keep fun b o hp hb => ⟨off3 (zS s4 hp), f6 _ _ (off3 (zS s4 hp)) hb⟩))
  ·rintro σ' H3 ⟨v3, v4, v5, bv, kv, rfl, f3, gB3, gR3, hb3, hk3⟩
   rw [List.length_map, tln] at hb3 hk3
   rw [List.take_of_length_le (by omega)] at hb3
   rw [show bs.length + rs.length - bs.length = rs.length by omega, List.take_length] at hk3
   exact ⟨_, _, _, bv, kv, rfl, ((s1.trans s2).fr.trans f3).same nw, gB3, gR3, hb3, hk3⟩
 rintro σ' H3 ⟨v3, v4, v5, bv, kv, rfl, s3, gB3, gR3, hb3, hk3⟩
 walk_at "go"
 refine ⟨a.Work, _, _, _, (k_Work T).mono, ?_⟩
 intro y dy hy hdy hne
 refine ⟨y, dy, B, R, bv, kv, bs, rs, fun b => b ≠ y, rfl, upd_same, ne_of_none gB3 hy, ne_of_none gR3 hy, fun _ h => h, qd hy hdy gB3, qd hy hdy gR3,
  hb3.keep fun b o _ hb => ⟨ne_of_none hb hy, qd hy hdy hb⟩, hk3.keep fun b o _ hb => ⟨ne_of_none hb hy, qd hy hdy hb⟩, tl.bo, tl.ro, by rw [wok.2.1.length_eq, vv]; omega, by rw [wok.2.2.length_eq, vv]; omega, by omega, fun _ H4 m1 m2 bv kv o4 g0 g1 g2 gB gK n1 n2 => ⟨rfl, ?_⟩, fun z => absurd wok z⟩
 refine k _ _ (s3.trans (Own.of_new hy hdy o4)) ?_
 rw [wf_eq] at g0
 exact jw (fun z => nomatch z) g0 rfl (.cons (gB.reps.all.mk' (fun z => nomatch z) g1) (.cons (gK.reps.all.mk' (fun z => nomatch z) g2) .nil))
theorem x5 (T : Txt K mg a) : Cal P w K mg base "read_work" 7 ["text"] [] (Zl K a) := T.h_read_work.cal (ok_read_work T)
def vK (K : PySem.W.Frag) : Sp := fun vs H Q _ => ∃ (l : Addr) (ns : List Int), vs = [.ref l] ∧ SqL K H l (ns.map V.int) ∧ ns.length ≤ 63 ∧ ∀ H', Q (.bl true) H'
theorem ok_law (T : Txt K mg a) (F : Fun K "law" "law" s_law f fd) : FnOk P w K mg base (CXr P w) 8 f fd ["_law_script"] (vK K) := by
 refine F.okx sc_law ?_ ?_
 ·walk_at "i"
 walk_at "j"
 refine oE2 h fun l ns z1_ => oA4 z1_ fun z2_ hl hn k => ?_
 clear h
 subst z2_
 walk_at "T"
 refine ⟨_, (zh (zO 1 sc_law.nd (zH ⟨rfl, rfl, rfl⟩ hr (za (pv 0) zb)))  (zh (zO 2 sc_law.nd (jz xw qO (za (pv 0) zb)))  (zh (zv (Zo PySem.F.plainAttrs_list PySem.F.slot_list_reverse PySem.F.type_list_reverse jZ (pv 2)))  (zh (zO 3 sc_law.nd (zH ⟨rfl, rfl, rfl⟩ hr (za (zi zB (pv 2) (zz (za zd zb))) zb)))  (zh (zO 4 sc_law.nd (zW PySem.F.plainAttrs_str PySem.F.slot_str_join PySem.F.type_str_join xm zu (za (zH ⟨rfl, rfl, rfl⟩ hr (za (pv 1) zb)) zb)))  (zh (zO 5 sc_law.nd (zW PySem.F.plainAttrs_str PySem.F.slot_str_join PySem.F.type_str_join xm zu (za (zH ⟨rfl, rfl, rfl⟩ hr (za (pv 3) zb)) zb)))  (zh (zO 6 sc_law.nd (zH ⟨rfl, rfl, rfl⟩ hr (za (pv 4) zb)))  (zh (zw (zZ (zG (zH ⟨rfl, rfl, rfl⟩ hr (za (pv 6) (za (pv 1) zb))) (fun _ => rfl)))  (zf (zo jr))  zk)  (zh (zO 7 sc_law.nd (zH ⟨rfl, rfl, rfl⟩ hr (za (pv 5) zb)))  (zh (zw (PW.pt (pw_or (zZ (zG (zH ⟨rfl, rfl, rfl⟩ hr (za (pv 7) (za (pv 3) zb))) (fun _ => rfl))) (pw_or1 (zZ (zG (zH ⟨rfl, rfl, rfl⟩ hr (za (pv 6) (za (pv 1) zb))) (fun _ => rfl))))))  (zf (zo jr))  zk)  (zf (zo (jY (xi (zK hr.units1) (zH ⟨rfl, rfl, rfl⟩ hr (za (pv 6) zb)) (pv 4) (zl _)) (xD (xi (zK hr.units1) (zH ⟨rfl, rfl, rfl⟩ hr (za (pv 7) zb)) (pv 5) (zl _)))))))))))))))), ?_⟩
 walk_at "go"
 refine uc (xu T).mono (i_spPartsOf l ns rfl hl (by omega) (fun t bs rs H1 s1 rt wok bo ro => ?_))
 have tl := Zw wok bo ro
 walk_at "go"
 refine ⟨l, _, rfl, .inl (qQ s1 hl), fun q hq => ?_⟩
 have s12 := ze (o := .lst (ns.map V.int)) hq
 have g2 : upd H1 q (.lst (ns.map V.int)) q = some (.lst (iv ns)) := upd_same
 generalize upd H1 q (.lst (ns.map V.int)) = H2 at s12 g2 ⊢
 walk_at "go"
 refine ⟨.inl ⟨rfl, _, SqL.of g2⟩, q, _, rfl, rfl, g2, ?_⟩
 rw [Zr]
 have s3 : Same H1 (upd H2 q (.lst (iv ns.reverse))) := fun b o hb => by rw [upd_ne (ne_of_none hb hq)]; exact s12 _ _ hb
 have g3 : upd H2 q (.lst (iv ns.reverse)) q = some (.lst (iv ns.reverse)) := upd_same
 generalize upd H2 q (.lst (iv ns.reverse)) = H3 at s3 g3 ⊢
 walk_at "go"
 refine uc (xu T).mono (fun p1 h1 => ?_)
 have s4 := ze (o := .lst [.int 3]) h1
 refine qa (SqL.of (s4 _ _ g3)) (SqL.of upd_same) (z9 (by rw [zm, List.length_reverse]; simp; omega)) fun p2 h2 => ?_
 have s5 := (s3.trans s4).trans (ze (o := .lst (iv ns.reverse ++ [.int 3])) h2)
 have g5 : upd (upd H3 p1 (.lst [.int 3])) p2 (.lst (iv ns.reverse ++ [.int 3])) p2 = some (.lst (iv (ns.reverse ++ [3]))) := by rw [upd_same]; simp [iv]
 generalize upd (upd H3 p1 (.lst [.int 3])) p2 (.lst (iv ns.reverse ++ [.int 3])) = H5 at s5 g5 ⊢
 refine ⟨p2, ns.reverse ++ [3], rfl, SqL.of g5, by rw [List.length_append, List.length_reverse]; simp; omega, fun t2 bs2 rs2 H6 s6 ru wok2 bo2 ro2 => ?_⟩
 have tl2 := Zw wok2 bo2 ro2
 have s16 := s5.trans s6
 have rt6 := rt.same s16
 clear s12 s3 s4 s5 s6 g2 g3 g5 h1 h2 hq
 walk_at "go"
 refine ⟨ju, _, _, _, (x6 T).mono, _, bs, rs, _, rfl, rt6, tl, fun L1 H7 s7 hL1 => ?_⟩
 refine ⟨_, L1, qb bs rs, rfl, rfl, hL1, xA tl, ?_⟩
 walk_at "go"
 refine ⟨ju, _, _, _, (x6 T).mono, _, bs2, rs2, _, rfl, ru.same s7, tl2, fun L2q H8 s8 hL2 => ?_⟩
 refine ⟨_, L2q, qb bs2 rs2, rfl, rfl, hL2, xA tl2, ?_⟩
 have s68 := s7.trans s8
 have rt8 := rt6.same s68
 have ru8 := ru.same s68
 walk_at "go"
 refine uc (x5 T).mono (Zf bs rs rfl wok tl (fun v1 H9 s9 rv1 => ?_))
 walk_at "go"
 refine uc (jJ T).mono (j4 _ _ bs rs _ _ rfl rv1 (rt8.same s9) ro (fun HA sA => ?_))
 have s8A := s9.trans sA
 walk_at "go"
 refine uc (x5 T).mono (Zf bs2 rs2 rfl wok2 tl2 (fun v2 HB sB rv2 => ?_))
 have sAB := sA.trans sB
 walk_at "go"
 refine uc (jJ T).mono (j4 _ _ bs2 rs2 _ _ rfl rv2 ((ru8.same s8A).same sB) ro2 (fun HC sC => ?_))
 walk_at "go"
 refine uc (jJ T).mono (j4 _ _ bs rs _ _ rfl ((rv1.same sAB).same sC) (((rt8.same s8A).same sB).same sC) ro (fun HD sD => ?_))
 have sCD := sC.trans sD
 walk_at "go"
 refine uc (xZ T).mono (xq v1 bs rs _ rfl ((rv1.same sAB).same sCD) tl (fun HE sE => ?_))
 refine rd_eqS.mpr ?_
 rw [show decide (jq bs rs = (Str.ofString "\n").join (qb bs rs)) = true from decide_eq_true rfl]
 walk_at "go"
 refine uc (xZ T).mono (xq v2 bs2 rs2 _ rfl ((rv2.same sCD).same sE) tl2 (fun HF sF => ?_))
 refine rd_eqS.mpr ?_
 rw [show decide (jq bs2 rs2 = (Str.ofString "\n").join (qb bs2 rs2)) = true from decide_eq_true rfl]
 exact k _
theorem top_ok (T : Txt K mg a) (F : Fun K "law" "law" s_law f fd) : FnOk P w K mg base (CXr P w) 8 f fd ["_law_script"] (vK K) := ok_law T F
end
theorem ex_s {α : Type} {n : Nat} {P : List α → Prop} (us : List α) (hl : us.length = n + 1) (h : ∀ a vs, vs.length = n → P (a :: vs)) : P us := by
 cases us with
 | nil => cases hl
 | cons a vs => exact h a vs (Nat.succ.inj hl)
theorem ey0 {α : Type} {P : List α → Prop} (us : List α) (hl : us.length = 0) (h : P []) : P us := by
 cases us with
 | nil => exact h
 | cons => cases hl
theorem ey1 {α : Type} {P : List α → Prop} (us : List α) (hl : us.length = 1) (h : ∀ a0, P [a0]) : P us := ex_s us hl fun a0 _ l => ey0 (P := fun z => P (a0 :: z)) _ l (h a0)
theorem ex1 {fn : FuncData} {ps : List Str} (us : List Value) (hl : us.length = 1) (h : ∀ a0, bindArgs fn ⟨[a0], []⟩ = pure (ps.zip [a0])) : bindArgs fn ⟨us, []⟩ = pure (ps.zip us) := ey1 (P := fun z => bindArgs fn ⟨z, []⟩ = pure (ps.zip z)) us hl h
theorem ey2 {α : Type} {P : List α → Prop} (us : List α) (hl : us.length = 2) (h : ∀ a0 a1, P [a0, a1]) : P us := ex_s us hl fun a0 _ l => ey1 (P := fun z => P (a0 :: z)) _ l fun a1 => h a0 a1
theorem ex2 {fn : FuncData} {ps : List Str} (us : List Value) (hl : us.length = 2) (h : ∀ a0 a1, bindArgs fn ⟨[a0, a1], []⟩ = pure (ps.zip [a0, a1])) : bindArgs fn ⟨us, []⟩ = pure (ps.zip us) := ey2 (P := fun z => bindArgs fn ⟨z, []⟩ = pure (ps.zip z)) us hl h
theorem ey3 {α : Type} {P : List α → Prop} (us : List α) (hl : us.length = 3) (h : ∀ a0 a1 a2, P [a0, a1, a2]) : P us := ex_s us hl fun a0 _ l => ey2 (P := fun z => P (a0 :: z)) _ l fun a1 a2 => h a0 a1 a2
theorem ex3 {fn : FuncData} {ps : List Str} (us : List Value) (hl : us.length = 3) (h : ∀ a0 a1 a2, bindArgs fn ⟨[a0, a1, a2], []⟩ = pure (ps.zip [a0, a1, a2])) : bindArgs fn ⟨us, []⟩ = pure (ps.zip us) := ey3 (P := fun z => bindArgs fn ⟨z, []⟩ = pure (ps.zip z)) us hl h
theorem ey4 {α : Type} {P : List α → Prop} (us : List α) (hl : us.length = 4) (h : ∀ a0 a1 a2 a3, P [a0, a1, a2, a3]) : P us := ex_s us hl fun a0 _ l => ey3 (P := fun z => P (a0 :: z)) _ l fun a1 a2 a3 => h a0 a1 a2 a3
theorem ex4 {fn : FuncData} {ps : List Str} (us : List Value) (hl : us.length = 4) (h : ∀ a0 a1 a2 a3, bindArgs fn ⟨[a0, a1, a2, a3], []⟩ = pure (ps.zip [a0, a1, a2, a3])) : bindArgs fn ⟨us, []⟩ = pure (ps.zip us) := ey4 (P := fun z => bindArgs fn ⟨z, []⟩ = pure (ps.zip z)) us hl h
theorem ey5 {α : Type} {P : List α → Prop} (us : List α) (hl : us.length = 5) (h : ∀ a0 a1 a2 a3 a4, P [a0, a1, a2, a3, a4]) : P us := ex_s us hl fun a0 _ l => ey4 (P := fun z => P (a0 :: z)) _ l fun a1 a2 a3 a4 => h a0 a1 a2 a3 a4
theorem ex5 {fn : FuncData} {ps : List Str} (us : List Value) (hl : us.length = 5) (h : ∀ a0 a1 a2 a3 a4, bindArgs fn ⟨[a0, a1, a2, a3, a4], []⟩ = pure (ps.zip [a0, a1, a2, a3, a4])) : bindArgs fn ⟨us, []⟩ = pure (ps.zip us) := ey5 (P := fun z => bindArgs fn ⟨z, []⟩ = pure (ps.zip z)) us hl h
abbrev FHy (K : PySem.W.Frag) (x : Str) (st : Stmt) : Prop := ∃ (f : Addr) (oc : Value) (od an : Option Addr) (osl : Array (Option Value)) (kV doc pm cdv ct : Value), PySem.W.nsIn K mainGlobals x = some (some (.ref f)) ∧ K.lookup f = some ⟨oc, od, .func (PySem.W.fnOf x x (zU st) (zQ st) (zg st) .none kV doc pm an cdv ct), osl⟩ ∧ PySem.W.codeIn K cdv x = true ∧ PySem.W.keepIn K (.ref f) = true
theorem fhy {K : PySem.W.Frag} {x : Str} {st : Stmt} {f : Addr} {oc : Value} {od an : Option Addr} {osl : Array (Option Value)} {kV doc pm cdv ct : Value} (a : PySem.W.nsIn K mainGlobals x = some (some (.ref f))) (l : K.lookup f = some ⟨oc, od, .func (PySem.W.fnOf x x (zU st) (zQ st) (zg st) .none kV doc pm an cdv ct), osl⟩) (c : PySem.W.codeIn K cdv x = true) (k : PySem.W.keepIn K (.ref f) = true) : FHy K x st := ⟨_, _, _, _, _, _, _, _, _, _, a, l, c, k⟩
theorem fa_y {K : PySem.W.Frag} {mg : Str → Option Value} {h : Heap} {x : Str} {st : Stmt} {ps : List Str} (X : K.In h) (G : h.Ns mainGlobals mg) (y : FHy K x st) (hb : ∀ (kV doc pm : Value) (an : Option Addr) (cdv ct : Value) (us : List Value), us.length = ps.length → bindArgs (PySem.W.fnOf x x (zU st) (zQ st) (zg st) .none kV doc pm an cdv ct) ⟨us, []⟩ = pure (ps.zip us)) : FA K mg x st ps := by
 obtain ⟨_, _, _, _, _, _, _, _, _, _, a, l, c, k⟩ := y
 exact fa_mk X G a l c k hb
abbrev CHy (K : PySem.W.Frag) (C : Addr) : Prop := PySem.W.plainGet K C Str.empty = true ∧ PySem.W.hasDictIn K C = true ∧ PySem.W.plainOver K C = true ∧ PySem.W.findIn K (.ref C) "__setattr__" = some (some (.builtin "object.__setattr__")) ∧ PySem.W.makesIn K C = true ∧ PySem.W.keepIn K (.ref C) = true ∧ PySem.W.findIn K (.ref C) "__class__" = some (some (.builtin "object.__class__")) ∧ PySem.W.mroIn K C (.type "object") = some true
theorem CHy.c {K : PySem.W.Frag} {C : Addr} (h : CHy K C) : Cls K C := ⟨h.1, h.2.1, h.2.2.1, h.2.2.2.1⟩
theorem CHy.w {K : PySem.W.Frag} {C : Addr} (h : CHy K C) (g : PySem.W.specialIn K (.builtin "object.__class__") "__get__" = some (some (.builtin "getset_descriptor.__get__"))) (t : PySem.W.takesIn K (.builtin "object.__class__") = some true) : WI K C := ⟨h.2.2.2.2.2.2.1, h.2.2.2.2.2.2.2, g, t⟩
abbrev MHy (K : PySem.W.Frag) (C : Addr) (m q : Str) (st : Stmt) : Prop := ∃ (f : Addr) (oc : Value) (od an : Option Addr) (osl : Array (Option Value)) (kV doc pm cdv ct : Value), PySem.W.findIn K (.ref C) m = some (some (.ref f)) ∧ PySem.W.isFn K (.ref f) = true ∧ K.lookup f = some ⟨oc, od, .func (PySem.W.fnOf m q (zU st) (zQ st) (zg st) .none kV doc pm an cdv ct), osl⟩ ∧ PySem.W.codeIn K cdv q = true ∧ PySem.W.keepIn K (.ref f) = true
theorem mhy {K : PySem.W.Frag} {C : Addr} {m q : Str} {st : Stmt} {f : Addr} {oc : Value} {od an : Option Addr} {osl : Array (Option Value)} {kV doc pm cdv ct : Value} (a : PySem.W.findIn K (.ref C) m = some (some (.ref f))) (i : PySem.W.isFn K (.ref f) = true) (l : K.lookup f = some ⟨oc, od, .func (PySem.W.fnOf m q (zU st) (zQ st) (zg st) .none kV doc pm an cdv ct), osl⟩) (c : PySem.W.codeIn K cdv q = true) (k : PySem.W.keepIn K (.ref f) = true) : MHy K C m q st := ⟨_, _, _, _, _, _, _, _, _, _, a, i, l, c, k⟩
theorem fm_y {K : PySem.W.Frag} {C : Addr} {m q : Str} {st : Stmt} {ps : List Str} (y : MHy K C m q st) (hb : ∀ (kV doc pm : Value) (an : Option Addr) (cdv ct : Value) (us : List Value), us.length = ps.length → bindArgs (PySem.W.fnOf m q (zU st) (zQ st) (zg st) .none kV doc pm an cdv ct) ⟨us, []⟩ = pure (ps.zip us)) : FM K C m q st ps := by
 obtain ⟨_, _, _, _, _, _, _, _, _, _, a, i, l, c, k⟩ := y
 exact fm_mk a i l c k hb
theorem fk_y {K : PySem.W.Frag} {C : Addr} {q : Str} {st : Stmt} {ps : List Str} (z : CHy K C) (y : MHy K C "__init__" q st) (hb : ∀ (kV doc pm : Value) (an : Option Addr) (cdv ct : Value) (us : List Value), us.length = ps.length → bindArgs (PySem.W.fnOf "__init__" q (zU st) (zQ st) (zg st) .none kV doc pm an cdv ct) ⟨us, []⟩ = pure (ps.zip us)) : FK K C q st ps := by
 obtain ⟨_, _, _, _, _, _, _, _, _, _, a, i, l, c, k⟩ := y
 exact Qm z.2.2.2.2.1 z.2.2.2.2.2.1 a i l c k hb
theorem all_mk {l : PySem.W.OpenLaw} {w : World} {K : PySem.W.Frag} {h : Heap} {mg : Str → Option Value} {fa fL x_WorkError x_BadBelt x_BadKnot x_BadWork x_BadRow x_Belt x_Knot x_Source x_Drain x_Parter x_FirstParter x_Sieve x_Joiner x_Work fKnot_init : Addr} (X : K.In h) (G : h.Ns mainGlobals mg) (hfa : mg "law" = some (.ref fa))
  {odL anL odKnot_init anKnot_init : Option Addr} {slL slKnot_init : Array (Option Value)} {ocL kVL dcL pmL cdL ctL ocKnot_init kVKnot_init dcKnot_init pmKnot_init cdKnot_init ctKnot_init : Value}
  {t_MOST_ROOM t_MOST_PACE t_MOST_KINDS t_FEWEST_WAYS t_MOST_WAYS t_FIGURES t_MOST_FIGURES t_MOST_BELTS t_MOST_KNOTS : Tok}
  (h0 : FHy K "_wall" s__wall)
  (h1 : FHy K "check_pace" s_check_pace)
  (h2 : FHy K "check_kind" s_check_kind)
  (h3 : FHy K "check_ways" s_check_ways)
  (h4 : FHy K "first_place" s_first_place)
  (h5 : FHy K "place_for_ware" s_place_for_ware)
  (h6 : FHy K "number_from" s_number_from)
  (h7 : FHy K "check_size" s_check_size)
  (h8 : FHy K "check_each_once" s_check_each_once)
  (h9 : FHy K "made_part" s_made_part)
  (h10 : FHy K "part_from" s_part_from)
  (h11 : FHy K "read_work" s_read_work)
  (h12 : FHy K "row_of" s_row_of)
  (h13 : FHy K "knot_row" s_knot_row)
  (h14 : FHy K "work_text" s_work_text)
  (h15 : FHy K "_law_cell_at" s_L_cell_at)
  (h16 : FHy K "_law_kinds_of" s_L_kinds_of)
  (h17 : FHy K "_law_outs_of" s_L_outs_of)
  (h18 : FHy K "_law_joined" s_L_joined)
  (h19 : FHy K "_law_step" s_L_step)
  (h20 : FHy K "_law_parts_of" s_L_parts_of)
  (h21 : FHy K "_law_rows_of" s_L_rows_of)
  (h22 : FHy K "_law_numbers" s_L_numbers)
  (h23 : FHy K "_law_is_part" s_L_is_part)
  (h24 : FHy K "_law_is_work" s_L_is_work)
  (aL : PySem.W.nsIn K mainGlobals "law" = some (some (.ref fL))) (lL : K.lookup fL = some ⟨ocL, odL, .func (PySem.W.fnOf "law" "law" (zU s_law) (zQ s_law) (zg s_law) .none kVL dcL pmL anL cdL ctL), slL⟩) (cL : PySem.W.codeIn K cdL "law" = true) (kL : PySem.W.keepIn K (.ref fL) = true)
  (z_len : PySem.W.nsIn K mainGlobals "len" = some none)
  (z_range : PySem.W.nsIn K mainGlobals "range" = some none)
  (z_list : PySem.W.nsIn K mainGlobals "list" = some none)
  (z_int : PySem.W.nsIn K mainGlobals "int" = some none)
  (z_all : PySem.W.nsIn K mainGlobals "all" = some none)
  (z_sorted : PySem.W.nsIn K mainGlobals "sorted" = some none)
  (z_enumerate : PySem.W.nsIn K mainGlobals "enumerate" = some none)
  (z_isinstance : PySem.W.nsIn K mainGlobals "isinstance" = some none)
  (z_str : PySem.W.nsIn K mainGlobals "str" = some none)
  (z_zip : PySem.W.nsIn K mainGlobals "zip" = some none)
  (z_bool : PySem.W.nsIn K mainGlobals "bool" = some none)
  (ag_WorkError : PySem.W.nsIn K mainGlobals "WorkError" = some (some (.ref x_WorkError)))
  (ag_BadBelt : PySem.W.nsIn K mainGlobals "BadBelt" = some (some (.ref x_BadBelt)))
  (ag_BadKnot : PySem.W.nsIn K mainGlobals "BadKnot" = some (some (.ref x_BadKnot)))
  (ag_BadWork : PySem.W.nsIn K mainGlobals "BadWork" = some (some (.ref x_BadWork)))
  (ag_BadRow : PySem.W.nsIn K mainGlobals "BadRow" = some (some (.ref x_BadRow)))
  (ag_Belt : PySem.W.nsIn K mainGlobals "Belt" = some (some (.ref x_Belt)))
  (ag_Knot : PySem.W.nsIn K mainGlobals "Knot" = some (some (.ref x_Knot)))
  (ag_Source : PySem.W.nsIn K mainGlobals "Source" = some (some (.ref x_Source)))
  (ag_Drain : PySem.W.nsIn K mainGlobals "Drain" = some (some (.ref x_Drain)))
  (ag_Parter : PySem.W.nsIn K mainGlobals "Parter" = some (some (.ref x_Parter)))
  (ag_FirstParter : PySem.W.nsIn K mainGlobals "FirstParter" = some (some (.ref x_FirstParter)))
  (ag_Sieve : PySem.W.nsIn K mainGlobals "Sieve" = some (some (.ref x_Sieve)))
  (ag_Joiner : PySem.W.nsIn K mainGlobals "Joiner" = some (some (.ref x_Joiner)))
  (ag_Work : PySem.W.nsIn K mainGlobals "Work" = some (some (.ref x_Work)))
  (hc_Belt : CHy K x_Belt)
  (nf_room_Belt : NoAttr K x_Belt "room")
  (nf_pace_Belt : NoAttr K x_Belt "pace")
  (h_Belt_init : MHy K x_Belt "__init__" "Belt.__init__" s_Belt_init)
  (hc_Knot : CHy K x_Knot)
  (nf_ins_Knot : NoAttr K x_Knot "ins")
  (nf_outs_Knot : NoAttr K x_Knot "outs")
  (aKnot_init : PySem.W.findIn K (.ref x_Knot) "__init__" = some (some (.ref fKnot_init))) (iKnot_init : PySem.W.isFn K (.ref fKnot_init) = true) (lKnot_init : K.lookup fKnot_init = some ⟨ocKnot_init, odKnot_init, .func (PySem.W.fnOf "__init__" "Knot.__init__" (zU s_Knot_init) (zQ s_Knot_init) (zg s_Knot_init) .none kVKnot_init dcKnot_init pmKnot_init anKnot_init cdKnot_init ctKnot_init), slKnot_init⟩) (cKnot_init : PySem.W.codeIn K cdKnot_init "Knot.__init__" = true) (kKnot_init : PySem.W.keepIn K (.ref fKnot_init) = true)
  (bga_Knot_init : PySem.W.specialIn K (.ref x_Knot) "__getattribute__" = some (some (.builtin "type.__getattribute__")))
  (brd_Knot_init : PySem.W.readsIn K x_Knot (.type "type") = true)
  (bfc_Knot_init : PySem.W.findCls K (.ref x_Knot) (.type "type") "__init__" = some (.val (.ref fKnot_init)))
  (h_Knot_choice : MHy K x_Knot "choice" "Knot.choice" s_Knot_choice)
  (h_Knot_copied : MHy K x_Knot "copied" "Knot.copied" s_Knot_copied)
  (hc_Source : CHy K x_Source)
  (nf_pace_Source : NoAttr K x_Source "pace")
  (nf_kinds_Source : NoAttr K x_Source "kinds")
  (nf_ins_Source : NoAttr K x_Source "ins")
  (nf_outs_Source : NoAttr K x_Source "outs")
  (h_Source_init : MHy K x_Source "__init__" "Source.__init__" s_Source_init)
  (h_Source_choice : MHy K x_Source "choice" "Source.choice" s_Source_choice)
  (h_Source_copied : MHy K x_Source "copied" "Source.copied" s_Source_copied)
  (hc_Drain : CHy K x_Drain)
  (nf_pace_Drain : NoAttr K x_Drain "pace")
  (nf_ins_Drain : NoAttr K x_Drain "ins")
  (nf_outs_Drain : NoAttr K x_Drain "outs")
  (h_Drain_init : MHy K x_Drain "__init__" "Drain.__init__" s_Drain_init)
  (h_Drain_choice : MHy K x_Drain "choice" "Drain.choice" s_Drain_choice)
  (h_Drain_copied : MHy K x_Drain "copied" "Drain.copied" s_Drain_copied)
  (hc_Parter : CHy K x_Parter)
  (nf_ins_Parter : NoAttr K x_Parter "ins")
  (nf_outs_Parter : NoAttr K x_Parter "outs")
  (h_Parter_init : MHy K x_Parter "__init__" "Parter.__init__" s_Parter_init)
  (h_Parter_choice : MHy K x_Parter "choice" "Parter.choice" s_Parter_choice)
  (h_Parter_copied : MHy K x_Parter "copied" "Parter.copied" s_Parter_copied)
  (hc_FirstParter : CHy K x_FirstParter)
  (nf_ins_FirstParter : NoAttr K x_FirstParter "ins")
  (nf_outs_FirstParter : NoAttr K x_FirstParter "outs")
  (h_FirstParter_init : MHy K x_FirstParter "__init__" "FirstParter.__init__" s_FirstParter_init)
  (h_FirstParter_choice : MHy K x_FirstParter "choice" "FirstParter.choice" s_FirstParter_choice)
  (h_FirstParter_copied : MHy K x_FirstParter "copied" "FirstParter.copied" s_FirstParter_copied)
  (hc_Sieve : CHy K x_Sieve)
  (nf_kind_Sieve : NoAttr K x_Sieve "kind")
  (nf_ins_Sieve : NoAttr K x_Sieve "ins")
  (nf_outs_Sieve : NoAttr K x_Sieve "outs")
  (h_Sieve_init : MHy K x_Sieve "__init__" "Sieve.__init__" s_Sieve_init)
  (h_Sieve_choice : MHy K x_Sieve "choice" "Sieve.choice" s_Sieve_choice)
  (h_Sieve_place_for : MHy K x_Sieve "place_for" "Sieve.place_for" s_Sieve_place_for)
  (h_Sieve_copied : MHy K x_Sieve "copied" "Sieve.copied" s_Sieve_copied)
  (hc_Joiner : CHy K x_Joiner)
  (nf_ins_Joiner : NoAttr K x_Joiner "ins")
  (nf_outs_Joiner : NoAttr K x_Joiner "outs")
  (h_Joiner_init : MHy K x_Joiner "__init__" "Joiner.__init__" s_Joiner_init)
  (h_Joiner_choice : MHy K x_Joiner "choice" "Joiner.choice" s_Joiner_choice)
  (h_Joiner_copied : MHy K x_Joiner "copied" "Joiner.copied" s_Joiner_copied)
  (hc_Work : CHy K x_Work)
  (nf_belts_Work : NoAttr K x_Work "belts")
  (nf_knots_Work : NoAttr K x_Work "knots")
  (h_Work_init : MHy K x_Work "__init__" "Work.__init__" s_Work_init)
  (h_Work_feeder : MHy K x_Work "feeder" "Work.feeder" s_Work_feeder)
  (h_Work_taker : MHy K x_Work "taker" "Work.taker" s_Work_taker)
  (h_Work_drains : MHy K x_Work "drains" "Work.drains" s_Work_drains)
  (h_Work_sources : MHy K x_Work "sources" "Work.sources" s_Work_sources)
  (h_Work_beat : MHy K x_Work "beat" "Work.beat" s_Work_beat)
  (wgn : PySem.W.specialIn K (.builtin "object.__class__") "__get__" = some (some (.builtin "getset_descriptor.__get__"))) (wtk : PySem.W.takesIn K (.builtin "object.__class__") = some true)
  (ac_MOST_ROOM : PySem.W.nsIn K mainGlobals "MOST_ROOM" = some (some (.int 6 t_MOST_ROOM)))
  (ac_MOST_PACE : PySem.W.nsIn K mainGlobals "MOST_PACE" = some (some (.int 4 t_MOST_PACE)))
  (ac_MOST_KINDS : PySem.W.nsIn K mainGlobals "MOST_KINDS" = some (some (.int 6 t_MOST_KINDS)))
  (ac_FEWEST_WAYS : PySem.W.nsIn K mainGlobals "FEWEST_WAYS" = some (some (.int 2 t_FEWEST_WAYS)))
  (ac_MOST_WAYS : PySem.W.nsIn K mainGlobals "MOST_WAYS" = some (some (.int 4 t_MOST_WAYS)))
  (ac_FIGURES : PySem.W.nsIn K mainGlobals "FIGURES" = some (some (.str "0123456789" t_FIGURES)))
  (ac_MOST_FIGURES : PySem.W.nsIn K mainGlobals "MOST_FIGURES" = some (some (.int 30 t_MOST_FIGURES)))
  (ac_MOST_BELTS : PySem.W.nsIn K mainGlobals "MOST_BELTS" = some (some (.int 24 t_MOST_BELTS)))
  (ac_MOST_KNOTS : PySem.W.nsIn K mainGlobals "MOST_KNOTS" = some (some (.int 24 t_MOST_KNOTS)))
  (xq_BadBelt : PySem.W.excIn K x_BadBelt bmV "ValueError.__new__" = true)
  (xga_BadBelt : PySem.W.findIn K (.ref x_BadBelt) "__getattribute__" = some (some (.builtin "BaseException.__getattribute__")))
  (xgt_BadBelt : PySem.W.findIn K (.ref x_BadBelt) "__getattr__" = some none)
  (xcl_BadBelt : PySem.W.findIn K (.ref x_BadBelt) "__class__" = some (some (.builtin "object.__class__")))
  (xhd_BadBelt : PySem.W.hasDictIn K x_BadBelt = true)
  (xmo_BadBelt : PySem.W.mroIn K x_BadBelt (.type "object") = some true)
  (xmb_BadBelt : PySem.W.subIn K (.ref x_BadBelt) (.type "BaseException") = some true)
  (xq_BadKnot : PySem.W.excIn K x_BadKnot bmV "ValueError.__new__" = true)
  (xga_BadKnot : PySem.W.findIn K (.ref x_BadKnot) "__getattribute__" = some (some (.builtin "BaseException.__getattribute__")))
  (xgt_BadKnot : PySem.W.findIn K (.ref x_BadKnot) "__getattr__" = some none)
  (xcl_BadKnot : PySem.W.findIn K (.ref x_BadKnot) "__class__" = some (some (.builtin "object.__class__")))
  (xhd_BadKnot : PySem.W.hasDictIn K x_BadKnot = true)
  (xmo_BadKnot : PySem.W.mroIn K x_BadKnot (.type "object") = some true)
  (xmb_BadKnot : PySem.W.subIn K (.ref x_BadKnot) (.type "BaseException") = some true)
  (xq_BadWork : PySem.W.excIn K x_BadWork bmV "ValueError.__new__" = true)
  (xga_BadWork : PySem.W.findIn K (.ref x_BadWork) "__getattribute__" = some (some (.builtin "BaseException.__getattribute__")))
  (xgt_BadWork : PySem.W.findIn K (.ref x_BadWork) "__getattr__" = some none)
  (xcl_BadWork : PySem.W.findIn K (.ref x_BadWork) "__class__" = some (some (.builtin "object.__class__")))
  (xhd_BadWork : PySem.W.hasDictIn K x_BadWork = true)
  (xmo_BadWork : PySem.W.mroIn K x_BadWork (.type "object") = some true)
  (xmb_BadWork : PySem.W.subIn K (.ref x_BadWork) (.type "BaseException") = some true)
  (xgn : PySem.W.specialIn K (.builtin "object.__class__") "__get__" = some (some (.builtin "getset_descriptor.__get__")))
  (xtk : PySem.W.takesIn K (.builtin "object.__class__") = some true)
  (sub_BadBelt : PySem.W.subIn K (.ref x_BadBelt) (.type "BaseException") = some true)
  (hdw_BadBelt : PySem.W.hasDictIn K x_BadBelt = true)
  (tyw_BadBelt : PySem.W.typeIn K (.ref x_BadBelt) = some (.type "type"))
  (sb_BadBelt_BadBelt : PySem.W.subIn K (.ref x_BadBelt) (.ref x_BadBelt) = some true)
  (sb_BadKnot_BadBelt : PySem.W.subIn K (.ref x_BadKnot) (.ref x_BadBelt) = some false)
  (sb_BadWork_BadBelt : PySem.W.subIn K (.ref x_BadWork) (.ref x_BadBelt) = some false)
  (sub_BadKnot : PySem.W.subIn K (.ref x_BadKnot) (.type "BaseException") = some true)
  (hdw_BadKnot : PySem.W.hasDictIn K x_BadKnot = true)
  (tyw_BadKnot : PySem.W.typeIn K (.ref x_BadKnot) = some (.type "type"))
  (sb_BadBelt_BadKnot : PySem.W.subIn K (.ref x_BadBelt) (.ref x_BadKnot) = some false)
  (sb_BadKnot_BadKnot : PySem.W.subIn K (.ref x_BadKnot) (.ref x_BadKnot) = some true)
  (sb_BadWork_BadKnot : PySem.W.subIn K (.ref x_BadWork) (.ref x_BadKnot) = some false)
  (k1_Belt_Knot : PySem.W.kitOne K (.ref x_Belt) (.ref x_Knot) = some false)
  (k1_Knot_Knot : PySem.W.kitOne K (.ref x_Knot) (.ref x_Knot) = some true)
  (k1_Source_Knot : PySem.W.kitOne K (.ref x_Source) (.ref x_Knot) = some true)
  (k1_Drain_Knot : PySem.W.kitOne K (.ref x_Drain) (.ref x_Knot) = some true)
  (k1_Parter_Knot : PySem.W.kitOne K (.ref x_Parter) (.ref x_Knot) = some true)
  (k1_FirstParter_Knot : PySem.W.kitOne K (.ref x_FirstParter) (.ref x_Knot) = some true)
  (k1_Sieve_Knot : PySem.W.kitOne K (.ref x_Sieve) (.ref x_Knot) = some true)
  (k1_Joiner_Knot : PySem.W.kitOne K (.ref x_Joiner) (.ref x_Knot) = some true)
  (k1_Work_Knot : PySem.W.kitOne K (.ref x_Work) (.ref x_Knot) = some false)
  (k1_Belt_Belt : PySem.W.kitOne K (.ref x_Belt) (.ref x_Belt) = some true)
  (k1_Knot_Belt : PySem.W.kitOne K (.ref x_Knot) (.ref x_Belt) = some false)
  (k1_Source_Belt : PySem.W.kitOne K (.ref x_Source) (.ref x_Belt) = some false)
  (k1_Drain_Belt : PySem.W.kitOne K (.ref x_Drain) (.ref x_Belt) = some false)
  (k1_Parter_Belt : PySem.W.kitOne K (.ref x_Parter) (.ref x_Belt) = some false)
  (k1_FirstParter_Belt : PySem.W.kitOne K (.ref x_FirstParter) (.ref x_Belt) = some false)
  (k1_Sieve_Belt : PySem.W.kitOne K (.ref x_Sieve) (.ref x_Belt) = some false)
  (k1_Joiner_Belt : PySem.W.kitOne K (.ref x_Joiner) (.ref x_Belt) = some false)
  (k1_Work_Belt : PySem.W.kitOne K (.ref x_Work) (.ref x_Belt) = some false)
  (k1_Belt_Source : PySem.W.kitOne K (.ref x_Belt) (.ref x_Source) = some false)
  (k1_Knot_Source : PySem.W.kitOne K (.ref x_Knot) (.ref x_Source) = some false)
  (k1_Source_Source : PySem.W.kitOne K (.ref x_Source) (.ref x_Source) = some true)
  (k1_Drain_Source : PySem.W.kitOne K (.ref x_Drain) (.ref x_Source) = some false)
  (k1_Parter_Source : PySem.W.kitOne K (.ref x_Parter) (.ref x_Source) = some false)
  (k1_FirstParter_Source : PySem.W.kitOne K (.ref x_FirstParter) (.ref x_Source) = some false)
  (k1_Sieve_Source : PySem.W.kitOne K (.ref x_Sieve) (.ref x_Source) = some false)
  (k1_Joiner_Source : PySem.W.kitOne K (.ref x_Joiner) (.ref x_Source) = some false)
  (k1_Work_Source : PySem.W.kitOne K (.ref x_Work) (.ref x_Source) = some false)
  (k1_Belt_Drain : PySem.W.kitOne K (.ref x_Belt) (.ref x_Drain) = some false)
  (k1_Knot_Drain : PySem.W.kitOne K (.ref x_Knot) (.ref x_Drain) = some false)
  (k1_Source_Drain : PySem.W.kitOne K (.ref x_Source) (.ref x_Drain) = some false)
  (k1_Drain_Drain : PySem.W.kitOne K (.ref x_Drain) (.ref x_Drain) = some true)
  (k1_Parter_Drain : PySem.W.kitOne K (.ref x_Parter) (.ref x_Drain) = some false)
  (k1_FirstParter_Drain : PySem.W.kitOne K (.ref x_FirstParter) (.ref x_Drain) = some false)
  (k1_Sieve_Drain : PySem.W.kitOne K (.ref x_Sieve) (.ref x_Drain) = some false)
  (k1_Joiner_Drain : PySem.W.kitOne K (.ref x_Joiner) (.ref x_Drain) = some false)
  (k1_Work_Drain : PySem.W.kitOne K (.ref x_Work) (.ref x_Drain) = some false)
  (k1_Belt_Parter : PySem.W.kitOne K (.ref x_Belt) (.ref x_Parter) = some false)
  (k1_Knot_Parter : PySem.W.kitOne K (.ref x_Knot) (.ref x_Parter) = some false)
  (k1_Source_Parter : PySem.W.kitOne K (.ref x_Source) (.ref x_Parter) = some false)
  (k1_Drain_Parter : PySem.W.kitOne K (.ref x_Drain) (.ref x_Parter) = some false)
  (k1_Parter_Parter : PySem.W.kitOne K (.ref x_Parter) (.ref x_Parter) = some true)
  (k1_FirstParter_Parter : PySem.W.kitOne K (.ref x_FirstParter) (.ref x_Parter) = some false)
  (k1_Sieve_Parter : PySem.W.kitOne K (.ref x_Sieve) (.ref x_Parter) = some false)
  (k1_Joiner_Parter : PySem.W.kitOne K (.ref x_Joiner) (.ref x_Parter) = some false)
  (k1_Work_Parter : PySem.W.kitOne K (.ref x_Work) (.ref x_Parter) = some false)
  (k1_Belt_FirstParter : PySem.W.kitOne K (.ref x_Belt) (.ref x_FirstParter) = some false)
  (k1_Knot_FirstParter : PySem.W.kitOne K (.ref x_Knot) (.ref x_FirstParter) = some false)
  (k1_Source_FirstParter : PySem.W.kitOne K (.ref x_Source) (.ref x_FirstParter) = some false)
  (k1_Drain_FirstParter : PySem.W.kitOne K (.ref x_Drain) (.ref x_FirstParter) = some false)
  (k1_Parter_FirstParter : PySem.W.kitOne K (.ref x_Parter) (.ref x_FirstParter) = some false)
  (k1_FirstParter_FirstParter : PySem.W.kitOne K (.ref x_FirstParter) (.ref x_FirstParter) = some true)
  (k1_Sieve_FirstParter : PySem.W.kitOne K (.ref x_Sieve) (.ref x_FirstParter) = some false)
  (k1_Joiner_FirstParter : PySem.W.kitOne K (.ref x_Joiner) (.ref x_FirstParter) = some false)
  (k1_Work_FirstParter : PySem.W.kitOne K (.ref x_Work) (.ref x_FirstParter) = some false)
  (k1_Belt_Sieve : PySem.W.kitOne K (.ref x_Belt) (.ref x_Sieve) = some false)
  (k1_Knot_Sieve : PySem.W.kitOne K (.ref x_Knot) (.ref x_Sieve) = some false)
  (k1_Source_Sieve : PySem.W.kitOne K (.ref x_Source) (.ref x_Sieve) = some false)
  (k1_Drain_Sieve : PySem.W.kitOne K (.ref x_Drain) (.ref x_Sieve) = some false)
  (k1_Parter_Sieve : PySem.W.kitOne K (.ref x_Parter) (.ref x_Sieve) = some false)
  (k1_FirstParter_Sieve : PySem.W.kitOne K (.ref x_FirstParter) (.ref x_Sieve) = some false)
  (k1_Sieve_Sieve : PySem.W.kitOne K (.ref x_Sieve) (.ref x_Sieve) = some true)
  (k1_Joiner_Sieve : PySem.W.kitOne K (.ref x_Joiner) (.ref x_Sieve) = some false)
  (k1_Work_Sieve : PySem.W.kitOne K (.ref x_Work) (.ref x_Sieve) = some false)
  (k1_Belt_Joiner : PySem.W.kitOne K (.ref x_Belt) (.ref x_Joiner) = some false)
  (k1_Knot_Joiner : PySem.W.kitOne K (.ref x_Knot) (.ref x_Joiner) = some false)
  (k1_Source_Joiner : PySem.W.kitOne K (.ref x_Source) (.ref x_Joiner) = some false)
  (k1_Drain_Joiner : PySem.W.kitOne K (.ref x_Drain) (.ref x_Joiner) = some false)
  (k1_Parter_Joiner : PySem.W.kitOne K (.ref x_Parter) (.ref x_Joiner) = some false)
  (k1_FirstParter_Joiner : PySem.W.kitOne K (.ref x_FirstParter) (.ref x_Joiner) = some false)
  (k1_Sieve_Joiner : PySem.W.kitOne K (.ref x_Sieve) (.ref x_Joiner) = some false)
  (k1_Joiner_Joiner : PySem.W.kitOne K (.ref x_Joiner) (.ref x_Joiner) = some true)
  (k1_Work_Joiner : PySem.W.kitOne K (.ref x_Work) (.ref x_Joiner) = some false)
  (k1_Belt_Work : PySem.W.kitOne K (.ref x_Belt) (.ref x_Work) = some false)
  (k1_Knot_Work : PySem.W.kitOne K (.ref x_Knot) (.ref x_Work) = some false)
  (k1_Source_Work : PySem.W.kitOne K (.ref x_Source) (.ref x_Work) = some false)
  (k1_Drain_Work : PySem.W.kitOne K (.ref x_Drain) (.ref x_Work) = some false)
  (k1_Parter_Work : PySem.W.kitOne K (.ref x_Parter) (.ref x_Work) = some false)
  (k1_FirstParter_Work : PySem.W.kitOne K (.ref x_FirstParter) (.ref x_Work) = some false)
  (k1_Sieve_Work : PySem.W.kitOne K (.ref x_Sieve) (.ref x_Work) = some false)
  (k1_Joiner_Work : PySem.W.kitOne K (.ref x_Joiner) (.ref x_Work) = some false)
  (k1_Work_Work : PySem.W.kitOne K (.ref x_Work) (.ref x_Work) = some true)
  : ∃ fd : FuncData, (∀ (s : Shared) (v : Value), BindsTo s fd ⟨[v], []⟩ [("_law_script", v)]) ∧ ∀ base : Heap, K.In base → base.Ns mainGlobals mg → FnOk l.prog w K mg base (CXr l.prog w) 8 fa fd ["_law_script"] (vK K) := by
 have e := hfa.symm.trans (PySem.W.mg_of X G aL)
 cases e
 have T : Txt K mg ⟨x_WorkError, x_BadBelt, x_BadKnot, x_BadWork, x_BadRow, x_Belt, x_Knot, x_Source, x_Drain, x_Parter, x_FirstParter, x_Sieve, x_Joiner, x_Work⟩ := {
  h__wall := fa_y X G h0 fun _ _ _ _ _ _ us hl => ex1 us hl fun _ => rfl
  h_check_pace := fa_y X G h1 fun _ _ _ _ _ _ us hl => ex2 us hl fun _ _ => rfl
  h_check_kind := fa_y X G h2 fun _ _ _ _ _ _ us hl => ex1 us hl fun _ => rfl
  h_check_ways := fa_y X G h3 fun _ _ _ _ _ _ us hl => ex1 us hl fun _ => rfl
  h_first_place := fa_y X G h4 fun _ _ _ _ _ _ us hl => ex2 us hl fun _ _ => rfl
  h_place_for_ware := fa_y X G h5 fun _ _ _ _ _ _ us hl => ex3 us hl fun _ _ _ => rfl
  h_number_from := fa_y X G h6 fun _ _ _ _ _ _ us hl => ex1 us hl fun _ => rfl
  h_check_size := fa_y X G h7 fun _ _ _ _ _ _ us hl => ex2 us hl fun _ _ => rfl
  h_check_each_once := fa_y X G h8 fun _ _ _ _ _ _ us hl => ex2 us hl fun _ _ => rfl
  h_made_part := fa_y X G h9 fun _ _ _ _ _ _ us hl => ex2 us hl fun _ _ => rfl
  h_part_from := fa_y X G h10 fun _ _ _ _ _ _ us hl => ex1 us hl fun _ => rfl
  h_read_work := fa_y X G h11 fun _ _ _ _ _ _ us hl => ex1 us hl fun _ => rfl
  h_row_of := fa_y X G h12 fun _ _ _ _ _ _ us hl => ex2 us hl fun _ _ => rfl
  h_knot_row := fa_y X G h13 fun _ _ _ _ _ _ us hl => ex1 us hl fun _ => rfl
  h_work_text := fa_y X G h14 fun _ _ _ _ _ _ us hl => ex1 us hl fun _ => rfl
  h_L_cell_at := fa_y X G h15 fun _ _ _ _ _ _ us hl => ex2 us hl fun _ _ => rfl
  h_L_kinds_of := fa_y X G h16 fun _ _ _ _ _ _ us hl => ex1 us hl fun _ => rfl
  h_L_outs_of := fa_y X G h17 fun _ _ _ _ _ _ us hl => ex5 us hl fun _ _ _ _ _ => rfl
  h_L_joined := fa_y X G h18 fun _ _ _ _ _ _ us hl => ex5 us hl fun _ _ _ _ _ => rfl
  h_L_step := fa_y X G h19 fun _ _ _ _ _ _ us hl => ex5 us hl fun _ _ _ _ _ => rfl
  h_L_parts_of := fa_y X G h20 fun _ _ _ _ _ _ us hl => ex1 us hl fun _ => rfl
  h_L_rows_of := fa_y X G h21 fun _ _ _ _ _ _ us hl => ex1 us hl fun _ => rfl
  h_L_numbers := fa_y X G h22 fun _ _ _ _ _ _ us hl => ex2 us hl fun _ _ => rfl
  h_L_is_part := fa_y X G h23 fun _ _ _ _ _ _ us hl => ex2 us hl fun _ _ => rfl
  h_L_is_work := fa_y X G h24 fun _ _ _ _ _ _ us hl => ex2 us hl fun _ _ => rfl
  m_len := PySem.W.mg_none_of X G z_len
  m_range := PySem.W.mg_none_of X G z_range
  m_list := PySem.W.mg_none_of X G z_list
  m_int := PySem.W.mg_none_of X G z_int
  m_all := PySem.W.mg_none_of X G z_all
  m_sorted := PySem.W.mg_none_of X G z_sorted
  m_enumerate := PySem.W.mg_none_of X G z_enumerate
  m_isinstance := PySem.W.mg_none_of X G z_isinstance
  m_str := PySem.W.mg_none_of X G z_str
  m_zip := PySem.W.mg_none_of X G z_zip
  m_bool := PySem.W.mg_none_of X G z_bool
  g_WorkError := PySem.W.mg_of X G ag_WorkError
  g_BadBelt := PySem.W.mg_of X G ag_BadBelt
  g_BadKnot := PySem.W.mg_of X G ag_BadKnot
  g_BadWork := PySem.W.mg_of X G ag_BadWork
  g_BadRow := PySem.W.mg_of X G ag_BadRow
  g_Belt := PySem.W.mg_of X G ag_Belt
  g_Knot := PySem.W.mg_of X G ag_Knot
  g_Source := PySem.W.mg_of X G ag_Source
  g_Drain := PySem.W.mg_of X G ag_Drain
  g_Parter := PySem.W.mg_of X G ag_Parter
  g_FirstParter := PySem.W.mg_of X G ag_FirstParter
  g_Sieve := PySem.W.mg_of X G ag_Sieve
  g_Joiner := PySem.W.mg_of X G ag_Joiner
  g_Work := PySem.W.mg_of X G ag_Work
  C_Belt := hc_Belt.c
  N_Belt_room := nf_room_Belt
  N_Belt_pace := nf_pace_Belt
  W_Belt := hc_Belt.w wgn wtk
  h_Belt_init := fk_y hc_Belt h_Belt_init fun _ _ _ _ _ _ us hl => ex3 us hl fun _ _ _ => rfl
  C_Knot := hc_Knot.c
  N_Knot_ins := nf_ins_Knot
  N_Knot_outs := nf_outs_Knot
  W_Knot := hc_Knot.w wgn wtk
  h_Knot_init := Qm (st := s_Knot_init) (ps := ["self", "ins", "outs"]) hc_Knot.2.2.2.2.1 hc_Knot.2.2.2.2.2.1 aKnot_init iKnot_init lKnot_init cKnot_init kKnot_init fun _ _ _ _ _ _ us hl => ex3 us hl fun _ _ _ => rfl
  b_Knot_init := fb_mk (st := s_Knot_init) (ps := ["self", "ins", "outs"]) (PySem.W.mg_of X G ag_Knot) bga_Knot_init brd_Knot_init bfc_Knot_init lKnot_init cKnot_init kKnot_init fun _ _ _ _ _ _ us hl => ex3 us hl fun _ _ _ => rfl
  h_Knot_choice := fm_y h_Knot_choice fun _ _ _ _ _ _ us hl => ex5 us hl fun _ _ _ _ _ => rfl
  h_Knot_copied := fm_y h_Knot_copied fun _ _ _ _ _ _ us hl => ex1 us hl fun _ => rfl
  C_Source := hc_Source.c
  N_Source_pace := nf_pace_Source
  N_Source_kinds := nf_kinds_Source
  N_Source_ins := nf_ins_Source
  N_Source_outs := nf_outs_Source
  W_Source := hc_Source.w wgn wtk
  h_Source_init := fk_y hc_Source h_Source_init fun _ _ _ _ _ _ us hl => ex4 us hl fun _ _ _ _ => rfl
  h_Source_choice := fm_y h_Source_choice fun _ _ _ _ _ _ us hl => ex5 us hl fun _ _ _ _ _ => rfl
  h_Source_copied := fm_y h_Source_copied fun _ _ _ _ _ _ us hl => ex1 us hl fun _ => rfl
  C_Drain := hc_Drain.c
  N_Drain_pace := nf_pace_Drain
  N_Drain_ins := nf_ins_Drain
  N_Drain_outs := nf_outs_Drain
  W_Drain := hc_Drain.w wgn wtk
  h_Drain_init := fk_y hc_Drain h_Drain_init fun _ _ _ _ _ _ us hl => ex3 us hl fun _ _ _ => rfl
  h_Drain_choice := fm_y h_Drain_choice fun _ _ _ _ _ _ us hl => ex5 us hl fun _ _ _ _ _ => rfl
  h_Drain_copied := fm_y h_Drain_copied fun _ _ _ _ _ _ us hl => ex1 us hl fun _ => rfl
  C_Parter := hc_Parter.c
  N_Parter_ins := nf_ins_Parter
  N_Parter_outs := nf_outs_Parter
  W_Parter := hc_Parter.w wgn wtk
  h_Parter_init := fk_y hc_Parter h_Parter_init fun _ _ _ _ _ _ us hl => ex3 us hl fun _ _ _ => rfl
  h_Parter_choice := fm_y h_Parter_choice fun _ _ _ _ _ _ us hl => ex5 us hl fun _ _ _ _ _ => rfl
  h_Parter_copied := fm_y h_Parter_copied fun _ _ _ _ _ _ us hl => ex1 us hl fun _ => rfl
  C_FirstParter := hc_FirstParter.c
  N_FirstParter_ins := nf_ins_FirstParter
  N_FirstParter_outs := nf_outs_FirstParter
  W_FirstParter := hc_FirstParter.w wgn wtk
  h_FirstParter_init := fk_y hc_FirstParter h_FirstParter_init fun _ _ _ _ _ _ us hl => ex3 us hl fun _ _ _ => rfl
  h_FirstParter_choice := fm_y h_FirstParter_choice fun _ _ _ _ _ _ us hl => ex5 us hl fun _ _ _ _ _ => rfl
  h_FirstParter_copied := fm_y h_FirstParter_copied fun _ _ _ _ _ _ us hl => ex1 us hl fun _ => rfl
  C_Sieve := hc_Sieve.c
  N_Sieve_kind := nf_kind_Sieve
  N_Sieve_ins := nf_ins_Sieve
  N_Sieve_outs := nf_outs_Sieve
  W_Sieve := hc_Sieve.w wgn wtk
  h_Sieve_init := fk_y hc_Sieve h_Sieve_init fun _ _ _ _ _ _ us hl => ex4 us hl fun _ _ _ _ => rfl
  h_Sieve_choice := fm_y h_Sieve_choice fun _ _ _ _ _ _ us hl => ex5 us hl fun _ _ _ _ _ => rfl
  h_Sieve_place_for := fm_y h_Sieve_place_for fun _ _ _ _ _ _ us hl => ex2 us hl fun _ _ => rfl
  h_Sieve_copied := fm_y h_Sieve_copied fun _ _ _ _ _ _ us hl => ex1 us hl fun _ => rfl
  C_Joiner := hc_Joiner.c
  N_Joiner_ins := nf_ins_Joiner
  N_Joiner_outs := nf_outs_Joiner
  W_Joiner := hc_Joiner.w wgn wtk
  h_Joiner_init := fk_y hc_Joiner h_Joiner_init fun _ _ _ _ _ _ us hl => ex3 us hl fun _ _ _ => rfl
  h_Joiner_choice := fm_y h_Joiner_choice fun _ _ _ _ _ _ us hl => ex5 us hl fun _ _ _ _ _ => rfl
  h_Joiner_copied := fm_y h_Joiner_copied fun _ _ _ _ _ _ us hl => ex1 us hl fun _ => rfl
  C_Work := hc_Work.c
  N_Work_belts := nf_belts_Work
  N_Work_knots := nf_knots_Work
  W_Work := hc_Work.w wgn wtk
  h_Work_init := fk_y hc_Work h_Work_init fun _ _ _ _ _ _ us hl => ex3 us hl fun _ _ _ => rfl
  h_Work_feeder := fm_y h_Work_feeder fun _ _ _ _ _ _ us hl => ex2 us hl fun _ _ => rfl
  h_Work_taker := fm_y h_Work_taker fun _ _ _ _ _ _ us hl => ex2 us hl fun _ _ => rfl
  h_Work_drains := fm_y h_Work_drains fun _ _ _ _ _ _ us hl => ex1 us hl fun _ => rfl
  h_Work_sources := fm_y h_Work_sources fun _ _ _ _ _ _ us hl => ex1 us hl fun _ => rfl
  h_Work_beat := fm_y h_Work_beat fun _ _ _ _ _ _ us hl => ex1 us hl fun _ => rfl
  g_MOST_ROOM := ⟨_, PySem.W.mg_of X G ac_MOST_ROOM⟩
  g_MOST_PACE := ⟨_, PySem.W.mg_of X G ac_MOST_PACE⟩
  g_MOST_KINDS := ⟨_, PySem.W.mg_of X G ac_MOST_KINDS⟩
  g_FEWEST_WAYS := ⟨_, PySem.W.mg_of X G ac_FEWEST_WAYS⟩
  g_MOST_WAYS := ⟨_, PySem.W.mg_of X G ac_MOST_WAYS⟩
  g_FIGURES := ⟨_, PySem.W.mg_of X G ac_FIGURES⟩
  g_MOST_FIGURES := ⟨_, PySem.W.mg_of X G ac_MOST_FIGURES⟩
  g_MOST_BELTS := ⟨_, PySem.W.mg_of X G ac_MOST_BELTS⟩
  g_MOST_KNOTS := ⟨_, PySem.W.mg_of X G ac_MOST_KNOTS⟩
  X_BadBelt := ⟨xq_BadBelt⟩
  XI_BadBelt := ⟨xga_BadBelt, xgt_BadBelt, xcl_BadBelt, xhd_BadBelt, xgn, xtk, xmo_BadBelt, xmb_BadBelt⟩
  X_BadKnot := ⟨xq_BadKnot⟩
  XI_BadKnot := ⟨xga_BadKnot, xgt_BadKnot, xcl_BadKnot, xhd_BadKnot, xgn, xtk, xmo_BadKnot, xmb_BadKnot⟩
  X_BadWork := ⟨xq_BadWork⟩
  XI_BadWork := ⟨xga_BadWork, xgt_BadWork, xcl_BadWork, xhd_BadWork, xgn, xtk, xmo_BadWork, xmb_BadWork⟩
  S_BadBelt := sub_BadBelt
  E_BadBelt_BadBelt := qP hdw_BadBelt tyw_BadBelt sb_BadBelt_BadBelt
  E_BadKnot_BadBelt := qP hdw_BadBelt tyw_BadBelt sb_BadKnot_BadBelt
  E_BadWork_BadBelt := qP hdw_BadBelt tyw_BadBelt sb_BadWork_BadBelt
  S_BadKnot := sub_BadKnot
  E_BadBelt_BadKnot := qP hdw_BadKnot tyw_BadKnot sb_BadBelt_BadKnot
  E_BadKnot_BadKnot := qP hdw_BadKnot tyw_BadKnot sb_BadKnot_BadKnot
  E_BadWork_BadKnot := qP hdw_BadKnot tyw_BadKnot sb_BadWork_BadKnot
  k1_Belt_Knot := k1_Belt_Knot
  k1_Knot_Knot := k1_Knot_Knot
  k1_Source_Knot := k1_Source_Knot
  k1_Drain_Knot := k1_Drain_Knot
  k1_Parter_Knot := k1_Parter_Knot
  k1_FirstParter_Knot := k1_FirstParter_Knot
  k1_Sieve_Knot := k1_Sieve_Knot
  k1_Joiner_Knot := k1_Joiner_Knot
  k1_Work_Knot := k1_Work_Knot
  k1_Belt_Belt := k1_Belt_Belt
  k1_Knot_Belt := k1_Knot_Belt
  k1_Source_Belt := k1_Source_Belt
  k1_Drain_Belt := k1_Drain_Belt
  k1_Parter_Belt := k1_Parter_Belt
  k1_FirstParter_Belt := k1_FirstParter_Belt
  k1_Sieve_Belt := k1_Sieve_Belt
  k1_Joiner_Belt := k1_Joiner_Belt
  k1_Work_Belt := k1_Work_Belt
  k1_Belt_Source := k1_Belt_Source
  k1_Knot_Source := k1_Knot_Source
  k1_Source_Source := k1_Source_Source
  k1_Drain_Source := k1_Drain_Source
  k1_Parter_Source := k1_Parter_Source
  k1_FirstParter_Source := k1_FirstParter_Source
  k1_Sieve_Source := k1_Sieve_Source
  k1_Joiner_Source := k1_Joiner_Source
  k1_Work_Source := k1_Work_Source
  k1_Belt_Drain := k1_Belt_Drain
  k1_Knot_Drain := k1_Knot_Drain
  k1_Source_Drain := k1_Source_Drain
  k1_Drain_Drain := k1_Drain_Drain
  k1_Parter_Drain := k1_Parter_Drain
  k1_FirstParter_Drain := k1_FirstParter_Drain
  k1_Sieve_Drain := k1_Sieve_Drain
  k1_Joiner_Drain := k1_Joiner_Drain
  k1_Work_Drain := k1_Work_Drain
  k1_Belt_Parter := k1_Belt_Parter
  k1_Knot_Parter := k1_Knot_Parter
  k1_Source_Parter := k1_Source_Parter
  k1_Drain_Parter := k1_Drain_Parter
  k1_Parter_Parter := k1_Parter_Parter
  k1_FirstParter_Parter := k1_FirstParter_Parter
  k1_Sieve_Parter := k1_Sieve_Parter
  k1_Joiner_Parter := k1_Joiner_Parter
  k1_Work_Parter := k1_Work_Parter
  k1_Belt_FirstParter := k1_Belt_FirstParter
  k1_Knot_FirstParter := k1_Knot_FirstParter
  k1_Source_FirstParter := k1_Source_FirstParter
  k1_Drain_FirstParter := k1_Drain_FirstParter
  k1_Parter_FirstParter := k1_Parter_FirstParter
  k1_FirstParter_FirstParter := k1_FirstParter_FirstParter
  k1_Sieve_FirstParter := k1_Sieve_FirstParter
  k1_Joiner_FirstParter := k1_Joiner_FirstParter
  k1_Work_FirstParter := k1_Work_FirstParter
  k1_Belt_Sieve := k1_Belt_Sieve
  k1_Knot_Sieve := k1_Knot_Sieve
  k1_Source_Sieve := k1_Source_Sieve
  k1_Drain_Sieve := k1_Drain_Sieve
  k1_Parter_Sieve := k1_Parter_Sieve
  k1_FirstParter_Sieve := k1_FirstParter_Sieve
  k1_Sieve_Sieve := k1_Sieve_Sieve
  k1_Joiner_Sieve := k1_Joiner_Sieve
  k1_Work_Sieve := k1_Work_Sieve
  k1_Belt_Joiner := k1_Belt_Joiner
  k1_Knot_Joiner := k1_Knot_Joiner
  k1_Source_Joiner := k1_Source_Joiner
  k1_Drain_Joiner := k1_Drain_Joiner
  k1_Parter_Joiner := k1_Parter_Joiner
  k1_FirstParter_Joiner := k1_FirstParter_Joiner
  k1_Sieve_Joiner := k1_Sieve_Joiner
  k1_Joiner_Joiner := k1_Joiner_Joiner
  k1_Work_Joiner := k1_Work_Joiner
  k1_Belt_Work := k1_Belt_Work
  k1_Knot_Work := k1_Knot_Work
  k1_Source_Work := k1_Source_Work
  k1_Drain_Work := k1_Drain_Work
  k1_Parter_Work := k1_Parter_Work
  k1_FirstParter_Work := k1_FirstParter_Work
  k1_Sieve_Work := k1_Sieve_Work
  k1_Joiner_Work := k1_Joiner_Work
  k1_Work_Work := k1_Work_Work
 }
 exact ⟨_, fun s v => .of_eq rfl, fun base _ _ => top_ok T (jo (st := s_law) lL cL kL)⟩
theorem walk {l : PySem.W.OpenLaw} {q : Program} {loose : List Str} {XP : (Str → Option Value) → Heap → Prop} {YP : World → Heap → Prop} {d : DefRec} {K : Params → PySem.W.Frag} (hn : l.most = some 63) (hdf : d.params.defaults = [])
  (hY : ∀ (w : World) (h : Heap), YP w h → (K w.params).In h)
  (F : ∀ (w : World) (mg : Str → Option Value) (fa : Addr) (h : Heap), (K w.params).In h → h.Ns mainGlobals mg → mg d.name = some (.ref fa) →
   ∃ fd : FuncData, (∀ (s : Shared) (u : Value), BindsTo s fd ⟨[u], []⟩ [("_law_script", u)]) ∧ ∀ base : Heap, (K w.params).In base → base.Ns mainGlobals mg → FnOk l.prog w (K w.params) mg base (CXr l.prog w) 8 fa fd ["_law_script"] (vK (K w.params))) :
  PySem.W.WalkO q loose XP YP l.row.toRowW d [] (fun f vs => PySem.call f vs) :=
 L2.walk_of (n := 63) (k := 8) (x := "_law_script") (CX := fun w => CXr l.prog w) (sp := fun w => vK (K w.params)) hn (by decide) hdf ⟨rfl, by decide, by decide⟩ hY F (fun _ _ a ns hl _ hS => ⟨a, ns, rfl, hS, hl, fun _ => rfl⟩) fun _ _ _ _ _ z => cxr_false z
end K15
set_option Elab.async false
namespace PySem.W.Fast
noncomputable def tw7713307771924477154 := ()
noncomputable def tw9167918474833158004 := ()
noncomputable def tw12140587769346591764 := ()
noncomputable def tw6776294383177977056 := ()
noncomputable def tw16234258902475832003 := ()
noncomputable def tw2700536795765101763 := ()
noncomputable def tw761125599167322176 := ()
noncomputable def tw687632384118055249 := ()
noncomputable def tw9028337284318280377 := ()
noncomputable def tw667037840112474713 := ()
noncomputable def tw7266741351750976105 := ()
noncomputable def tw6562685744233244831 := ()
noncomputable def tw7552578004447273984 := ()
noncomputable def tw7783972982401977513 := ()
noncomputable def tw3297601892185053563 := ()
noncomputable def tw17056606622191182662 := ()
noncomputable def tw16092323681708082414 := ()
noncomputable def tw7915070999467314710 := ()
noncomputable def tw1678144795011695707 := ()
noncomputable def tw5079067174421143901 := ()
noncomputable def tw17177587011292000596 := ()
noncomputable def tw18399196612178353878 := ()
noncomputable def tw9766501025105623636 := ()
noncomputable def tw5319718392289826205 := ()
noncomputable def tw10207380118646263261 := ()
noncomputable def tw8730335624801374926 := ()
noncomputable def tw13594482750200646487 := ()
noncomputable def tw6612514643636748538 := ()
noncomputable def tw3797014517234585464 := ()
noncomputable def tw2871372236061275688 := ()
noncomputable def tw950316764801293677 := ()
noncomputable def tw9796404498288693468 := ()
noncomputable def tw604670027102958744 := ()
noncomputable def tw15319757509533226598 := ()
noncomputable def tw11032773551236145043 := ()
noncomputable def tw1219183486528075511 := ()
noncomputable def tw15427994523149756206 := ()
noncomputable def tw13840928123274241867 := ()
noncomputable def tw7222423757239320576 := ()
noncomputable def tw11974111110161831800 := ()
noncomputable def tw11479391985182548615 := ()
noncomputable def tw11761307448123747674 := ()
noncomputable def tw3890872713879201390 := ()
noncomputable def tw5239787723311655659 := ()
noncomputable def tw5498061429146411357 := ()
noncomputable def tw8311866259703779032 := ()
noncomputable def tw16325984374031469032 := ()
noncomputable def tw6433759331988312024 := ()
noncomputable def tw17465491583537086703 := ()
noncomputable def tw2206380593610684739 := ()
noncomputable def tw2665543767179921800 := ()
noncomputable def tw16207862100975806791 := ()
noncomputable def tw1339193273767249919 := ()
noncomputable def tw17970690863308361895 := ()
noncomputable def tw3111309133923626822 := ()
noncomputable def tw10611077708358364351 := ()
noncomputable def tw4679881572819344380 := ()
noncomputable def tw97572396977993370 := ()
noncomputable def tw18359645392027492753 := ()
noncomputable def tw3975813164628058742 := ()
noncomputable def tw13215254589623741309 := ()
noncomputable def tw7334860234134648932 := ()
noncomputable def tw177281724628282554 := ()
noncomputable def tw5782290316238055961 := ()
noncomputable def tw11874251397980400217 := ()
noncomputable def tw4354112669814315765 := ()
noncomputable def tw13184047337967693608 := ()
noncomputable def tw922219571345256392 := ()
noncomputable def tw5661040479274189838 := ()
noncomputable def tw961466322356454017 := ()
noncomputable def tw8749306177457406179 := ()
noncomputable def tw15304848942780623030 := ()
noncomputable def tw14311972888241372221 := ()
noncomputable def tw3846169523501144715 := ()
noncomputable def tw9746424688439559817 := ()
noncomputable def tw13922075277412968295 := ()
noncomputable def tw11184432372091775063 := ()
noncomputable def tw2393964921252626100 := ()
noncomputable def tw6584451339603671170 := ()
noncomputable def tw12451958720031280459 := ()
noncomputable def tw2787671775562374388 := ()
noncomputable def tw3027459877307267347 := ()
noncomputable def tw14061536156792062295 := ()
noncomputable def tw10149162370213092366 := ()
noncomputable def tw10324343041665000033 := ()
noncomputable def tw10732479281567551188 := ()
noncomputable def tw16191826839299413324 := ()
noncomputable def tw11318260423836955830 := ()
noncomputable def tw3539244221157699456 := ()
noncomputable def tw2702597267495417906 := ()
noncomputable def tw10040894517727822705 := ()
noncomputable def tw322355725163418492 := ()
noncomputable def tw3842703248872188575 := ()
noncomputable def tw7717327740329549497 := ()
noncomputable def tw3439983377271701984 := ()
noncomputable def tw17682168726724482430 := ()
noncomputable def tw17840555482576168447 := ()
noncomputable def tw14345818754701249033 := ()
noncomputable def tw6378515636883595895 := ()
noncomputable def tw10457127624139732573 := ()
noncomputable def tw14777089609138871216 := ()
noncomputable def tw5312003240774458809 := ()
noncomputable def tw5981462296374345588 := ()
noncomputable def tw9675103367447785094 := ()
noncomputable def tw9023552786075371799 := ()
noncomputable def tw18397830530349815824 := ()
noncomputable def tw16611999480083503344 := ()
noncomputable def tw56668796772966696 := ()
noncomputable def tw11053496697776186703 := ()
noncomputable def tw9366269180645302828 := ()
noncomputable def tw17532127693215812474 := ()
noncomputable def tw8183578571224534320 := ()
noncomputable def tw7556329267802636894 := ()
noncomputable def tw15363659760462157472 := ()
noncomputable def tw17220769355614642116 := ()
noncomputable def tw4012396653326768506 := ()
noncomputable def tw4314181193298721743 := ()
noncomputable def tw6463057852701520551 := ()
noncomputable def tw17439175446941785865 := ()
noncomputable def tw7812896402674645810 := ()
noncomputable def tw6984124361715086344 := ()
noncomputable def tw10826589683449024056 := ()
noncomputable def tw11036935928074308097 := ()
noncomputable def tw4417103228837827881 := ()
noncomputable def tw17883412969837723183 := ()
noncomputable def tw11982050192229143928 := ()
noncomputable def tw3176672946852935957 := ()
noncomputable def tw6970802925612016254 := ()
noncomputable def tw8870503228346843452 := ()
noncomputable def tw18187560487392602324 := ()
noncomputable def tw13528743490981504711 := ()
noncomputable def tw6126869505983111862 := ()
noncomputable def tw16388018090238829233 := ()
noncomputable def tw17953421767347795686 := ()
noncomputable def tw9024475479232172921 := ()
noncomputable def tw2571498952056829495 := ()
noncomputable def tw7268380252261464926 := ()
noncomputable def tw7051187262951719913 := ()
noncomputable def tw1090978818302014089 := ()
noncomputable def tw15219581830782874851 := ()
noncomputable def tw7987511391709004272 := ()
noncomputable def tw2005906263057651534 := ()
noncomputable def tw8840269231060975596 := ()
noncomputable def tw15634351406488546583 := ()
noncomputable def tw9270915677077167952 := ()
noncomputable def tw11392151447005894467 := ()
noncomputable def tw13123875250544397557 := ()
noncomputable def tw13558117000998336894 := ()
noncomputable def tw4448560105511087459 := ()
noncomputable def tw2842350109976479945 := ()
noncomputable def tw14713796647842047957 := ()
noncomputable def tw6058111718176459840 := ()
noncomputable def tw6283731371029464208 := ()
noncomputable def tw13487763969193028129 := ()
noncomputable def tw4957706342616069238 := ()
noncomputable def tw11740382755735181065 := ()
noncomputable def tw4139885640345096171 := ()
noncomputable def tw1935737712275902958 := ()
noncomputable def tw18320566479156879050 := ()
noncomputable def tw1621275917332259176 := ()
noncomputable def tw10993186664429113842 := ()
noncomputable def tw18375175410070118737 := ()
noncomputable def tw2888997712391097379 := ()
noncomputable def tw17030414646194887705 := ()
noncomputable def tw15342056568458184329 := ()
noncomputable def tw11939723775630129933 := ()
noncomputable def tw13278753461109378580 := ()
noncomputable def tw7661465528740911990 := ()
noncomputable def tw18439692465259407683 := ()
noncomputable def tw3626280494699073286 := ()
noncomputable def tw4660329281523023177 := ()
noncomputable def tw12080640718927124575 := ()
noncomputable def tw5323328598177198554 := ()
noncomputable def tw16362916908864890900 := ()
noncomputable def tw11303341002477846848 := ()
noncomputable def tw7741932838505147164 := ()
noncomputable def tw7003343621709639008 := ()
noncomputable def tw12532819724231197373 := ()
noncomputable def tw11990832518487277673 := ()
noncomputable def tw2472990842902586399 := ()
noncomputable def tw16340911707517052704 := ()
noncomputable def tw2620404726064024017 := ()
noncomputable def tw2127996501194427172 := ()
noncomputable def tw10267777159411948730 := ()
noncomputable def tw9030036791513933504 := ()
noncomputable def tw17684145339850968751 := ()
noncomputable def tw9019196001188674998 := ()
noncomputable def tw13954688097473306207 := ()
noncomputable def tw767105051569833503 := ()
noncomputable def tw16498542048004445957 := ()
noncomputable def tw7835467883913965617 := ()
noncomputable def tw16079212140969796232 := ()
noncomputable def tw17906073606318542192 := ()
noncomputable def tw5666196195776885863 := ()
noncomputable def tw5738069884942532613 := ()
noncomputable def tw10511544091301583547 := ()
noncomputable def tw11129842840057483076 := ()
noncomputable def tw12416729837092334092 := ()
noncomputable def tw226188867457856089 := ()
noncomputable def tw13978196229160407780 := ()
noncomputable def tw5979685149049929789 := ()
noncomputable def tw11461304080996858805 := ()
noncomputable def tw17201335466516193071 := ()
noncomputable def tw2808966610422139455 := ()
noncomputable def tw333061748527008576 := ()
noncomputable def tw13793657486566659201 := ()
noncomputable def tw8955993625812461120 := ()
noncomputable def tw7430838470969136599 := ()
noncomputable def tw12701127955035372098 := ()
noncomputable def tw4624379000298320262 := ()
noncomputable def tw3958457056706576476 := ()
noncomputable def tw16448929097711739056 := ()
noncomputable def tw6985947562486076487 := ()
noncomputable def tw6288415992445595201 := ()
noncomputable def tw10190075992436887167 := ()
noncomputable def tw5258880328482354464 := ()
noncomputable def tw14220831164344937304 := ()
noncomputable def tw4810475014482481966 := ()
noncomputable def tw8278950645031964929 := ()
noncomputable def tw15833266690925817909 := ()
noncomputable def tw14608742939758460526 := ()
noncomputable def tw8327761919326188646 := ()
noncomputable def tw13705251671315526081 := ()
noncomputable def tw593989503914097354 := ()
noncomputable def tw13703937610874645045 := ()
noncomputable def tw12228802464741181184 := ()
noncomputable def tw10626615141270026804 := ()
noncomputable def tw9998192820015616521 := ()
noncomputable def tw17850407017446720779 := ()
noncomputable def tw13193361662875932844 := ()
noncomputable def tw10437014723474371392 := ()
noncomputable def tw6348487383069766753 := ()
noncomputable def tw10005332106382476774 := ()
noncomputable def tw6141145458900216626 := ()
noncomputable def tw15497502804909896164 := ()
noncomputable def tw16822645272365353632 := ()
noncomputable def tw1578609533858814900 := ()
noncomputable def tw16488960221364046721 := ()
noncomputable def tw17980251645536065444 := ()
noncomputable def tw16550937369051486746 := ()
noncomputable def tw7682749256371642221 := ()
noncomputable def tw8193212614415475754 := ()
noncomputable def tw9962419386535216428 := ()
noncomputable def tw6276379582893080246 := ()
noncomputable def tw10021920055228151782 := ()
noncomputable def tw12098543711752632340 := ()
noncomputable def tw7251098252407431273 := ()
noncomputable def tw9280389714176588944 := ()
noncomputable def tw14168745716710243581 := ()
noncomputable def tw2074128506868238554 := ()
noncomputable def tw1986450141537296196 := ()
noncomputable def tw14084644539787211093 := ()
noncomputable def tw11931646217119028336 := ()
noncomputable def tw3994101763654229886 := ()
noncomputable def tw12381632407930997431 := ()
noncomputable def tw16407551311259143414 := ()
noncomputable def tw2997787805801325179 := ()
noncomputable def tw7227154291920107594 := ()
noncomputable def tw8633320222229542464 := ()
noncomputable def tw17598014147554801118 := ()
noncomputable def tw14536402436748948615 := ()
noncomputable def tw13248219215147741639 := ()
noncomputable def tw2548105012418874156 := ()
noncomputable def tw6779438933349346385 := ()
noncomputable def tw15782828046443760912 := ()
noncomputable def tw5068327991980513465 := ()
noncomputable def tw4428828845925070818 := ()
noncomputable def tw11803803359067527983 := ()
noncomputable def tw17286227251759859979 := ()
noncomputable def tw16197747661438184452 := ()
noncomputable def tw10307525477539368235 := ()
noncomputable def tw892877243179841135 := ()
noncomputable def tw11447302951358739760 := ()
noncomputable def tw8039323702623836664 := ()
noncomputable def tw18224429335955535550 := ()
noncomputable def tw3547429718923676774 := ()
noncomputable def tw852578265081016419 := ()
noncomputable def tw4214801071531063876 := ()
noncomputable def tw6436934324850695623 := ()
noncomputable def tw5865189870446482424 := ()
noncomputable def tw11305019985915299154 := ()
noncomputable def tw18219998833078378076 := ()
noncomputable def tw2944377308694306775 := ()
noncomputable def tw15614731937803026700 := ()
noncomputable def tw16753240851768201724 := ()
noncomputable def tw753575622776736942 := ()
noncomputable def tw6231709194379382201 := ()
noncomputable def tw4472310796054721367 := ()
noncomputable def tw11212445678838558624 := ()
noncomputable def tw9586303453477658357 := ()
noncomputable def tw14689933610536660061 := ()
noncomputable def tw7452909453354978125 := ()
noncomputable def tw15742073917369604692 := ()
noncomputable def tw17500058834486740880 := ()
noncomputable def tw14346948549607996579 := ()
noncomputable def tw1475280680568148656 := ()
noncomputable def tw7623427879721516274 := ()
noncomputable def tw16822458976371833170 := ()
noncomputable def tw1598403955862970687 := ()
noncomputable def tw990541954787501105 := ()
noncomputable def tw1896666793201423341 := ()
noncomputable def tw11404015111739445954 := ()
noncomputable def tw10462738280613552858 := ()
noncomputable def tw8125580792652026933 := ()
noncomputable def tw10045280007934264814 := ()
noncomputable def tw9690714105586921146 := ()
noncomputable def tw9670718185849810534 := ()
noncomputable def tw16605703957853450421 := ()
noncomputable def tw1749077459543937579 := ()
noncomputable def tw1453563026692489641 := ()
noncomputable def tw8675641418861447781 := ()
noncomputable def tw16590354212244961867 := ()
noncomputable def tw5552250917114031465 := ()
noncomputable def tw18113343765766538942 := ()
noncomputable def tw2875891989875842195 := ()
noncomputable def tw8271888404697104897 := ()
noncomputable def tw15019868601443350483 := ()
noncomputable def tw11419569631401874041 := ()
noncomputable def tw3401145052292876284 := ()
noncomputable def tw12831053904340064363 := ()
noncomputable def tw5322619773007358616 := ()
noncomputable def tw6405754410701136346 := ()
noncomputable def tw11596734628812251655 := ()
noncomputable def tw11711694304797518581 := ()
noncomputable def tw1044200449926561670 := ()
noncomputable def tw15569336310319982382 := ()
noncomputable def tw16873594022494061451 := ()
noncomputable def tw15052221303369132180 := ()
noncomputable def tw9211988532105179639 := ()
noncomputable def tw487437742775968758 := ()
noncomputable def tw1587827178119779046 := ()
noncomputable def tw15831618700836759833 := ()
noncomputable def tw16209535590435205448 := ()
noncomputable def tw7270734345630074564 := ()
noncomputable def tw11142763952316340058 := ()
noncomputable def tw4640733037668529505 := ()
noncomputable def tw473170625898891437 := ()
noncomputable def tw13762349368498381426 := ()
noncomputable def tw8598635462460033031 := ()
noncomputable def tw2338692745271608228 := ()
noncomputable def tw4080461747878611566 := ()
noncomputable def tw7017215358710311429 := ()
end PySem.W.Fast
open PySem PySem.W PyProof.Rows
set_option maxRecDepth 100000 in
set_option maxHeartbeats 0 in
theorem PySem.Challenge.cw_beltshares_k15_whole_text_back_holds : PySem.Challenge.rw_beltshares_k15_whole_text_back.Holds := by
 w_on; o_law; k_head; (case hw => w_witness2)
 k_fill
 refine K15.walk (l := PySem.Challenge.rw_beltshares_k15_whole_text_back) rfl rfl (fun w h Y => PySem.W.kIn_of Y) ?F
 case F =>
  intro w mg fa h KX G hmg
  refine' K15.all_mk KX G hmg ?h0 ?h1 ?h2 ?h3 ?h4 ?h5 ?h6 ?h7 ?h8 ?h9 ?h10 ?h11 ?h12 ?h13 ?h14 ?h15 ?h16 ?h17 ?h18 ?h19 ?h20 ?h21 ?h22 ?h23 ?h24 ?aL ?lL ?cL ?kL ?z_len ?z_range ?z_list ?z_int ?z_all ?z_sorted ?z_enumerate ?z_isinstance ?z_str ?z_zip ?z_bool ?ag_WorkError ?ag_BadBelt ?ag_BadKnot ?ag_BadWork ?ag_BadRow ?ag_Belt ?ag_Knot ?ag_Source ?ag_Drain ?ag_Parter ?ag_FirstParter ?ag_Sieve ?ag_Joiner ?ag_Work ?hc_Belt ?nf_room_Belt ?nf_pace_Belt ?h_Belt_init ?hc_Knot ?nf_ins_Knot ?nf_outs_Knot ?aKnot_init ?iKnot_init ?lKnot_init ?cKnot_init ?kKnot_init ?bga_Knot_init ?brd_Knot_init ?bfc_Knot_init ?h_Knot_choice ?h_Knot_copied ?hc_Source ?nf_pace_Source ?nf_kinds_Source ?nf_ins_Source ?nf_outs_Source ?h_Source_init ?h_Source_choice ?h_Source_copied ?hc_Drain ?nf_pace_Drain ?nf_ins_Drain ?nf_outs_Drain ?h_Drain_init ?h_Drain_choice ?h_Drain_copied ?hc_Parter ?nf_ins_Parter ?nf_outs_Parter ?h_Parter_init ?h_Parter_choice ?h_Parter_copied ?hc_FirstParter ?nf_ins_FirstParter ?nf_outs_FirstParter ?h_FirstParter_init ?h_FirstParter_choice ?h_FirstParter_copied ?hc_Sieve ?nf_kind_Sieve ?nf_ins_Sieve ?nf_outs_Sieve ?h_Sieve_init ?h_Sieve_choice ?h_Sieve_place_for ?h_Sieve_copied ?hc_Joiner ?nf_ins_Joiner ?nf_outs_Joiner ?h_Joiner_init ?h_Joiner_choice ?h_Joiner_copied ?hc_Work ?nf_belts_Work ?nf_knots_Work ?h_Work_init ?h_Work_feeder ?h_Work_taker ?h_Work_drains ?h_Work_sources ?h_Work_beat ?wgn ?wtk ?ac_MOST_ROOM ?ac_MOST_PACE ?ac_MOST_KINDS ?ac_FEWEST_WAYS ?ac_MOST_WAYS ?ac_FIGURES ?ac_MOST_FIGURES ?ac_MOST_BELTS ?ac_MOST_KNOTS ?xq_BadBelt ?xga_BadBelt ?xgt_BadBelt ?xcl_BadBelt ?xhd_BadBelt ?xmo_BadBelt ?xmb_BadBelt ?xq_BadKnot ?xga_BadKnot ?xgt_BadKnot ?xcl_BadKnot ?xhd_BadKnot ?xmo_BadKnot ?xmb_BadKnot ?xq_BadWork ?xga_BadWork ?xgt_BadWork ?xcl_BadWork ?xhd_BadWork ?xmo_BadWork ?xmb_BadWork ?xgn ?xtk ?sub_BadBelt ?hdw_BadBelt ?tyw_BadBelt ?sb_BadBelt_BadBelt ?sb_BadKnot_BadBelt ?sb_BadWork_BadBelt ?sub_BadKnot ?hdw_BadKnot ?tyw_BadKnot ?sb_BadBelt_BadKnot ?sb_BadKnot_BadKnot ?sb_BadWork_BadKnot ?k1_Belt_Knot ?k1_Knot_Knot ?k1_Source_Knot ?k1_Drain_Knot ?k1_Parter_Knot ?k1_FirstParter_Knot ?k1_Sieve_Knot ?k1_Joiner_Knot ?k1_Work_Knot ?k1_Belt_Belt ?k1_Knot_Belt ?k1_Source_Belt ?k1_Drain_Belt ?k1_Parter_Belt ?k1_FirstParter_Belt ?k1_Sieve_Belt ?k1_Joiner_Belt ?k1_Work_Belt ?k1_Belt_Source ?k1_Knot_Source ?k1_Source_Source ?k1_Drain_Source ?k1_Parter_Source ?k1_FirstParter_Source ?k1_Sieve_Source ?k1_Joiner_Source ?k1_Work_Source ?k1_Belt_Drain ?k1_Knot_Drain ?k1_Source_Drain ?k1_Drain_Drain ?k1_Parter_Drain ?k1_FirstParter_Drain ?k1_Sieve_Drain ?k1_Joiner_Drain ?k1_Work_Drain ?k1_Belt_Parter ?k1_Knot_Parter ?k1_Source_Parter ?k1_Drain_Parter ?k1_Parter_Parter ?k1_FirstParter_Parter ?k1_Sieve_Parter ?k1_Joiner_Parter ?k1_Work_Parter ?k1_Belt_FirstParter ?k1_Knot_FirstParter ?k1_Source_FirstParter ?k1_Drain_FirstParter ?k1_Parter_FirstParter ?k1_FirstParter_FirstParter ?k1_Sieve_FirstParter ?k1_Joiner_FirstParter ?k1_Work_FirstParter ?k1_Belt_Sieve ?k1_Knot_Sieve ?k1_Source_Sieve ?k1_Drain_Sieve ?k1_Parter_Sieve ?k1_FirstParter_Sieve ?k1_Sieve_Sieve ?k1_Joiner_Sieve ?k1_Work_Sieve ?k1_Belt_Joiner ?k1_Knot_Joiner ?k1_Source_Joiner ?k1_Drain_Joiner ?k1_Parter_Joiner ?k1_FirstParter_Joiner ?k1_Sieve_Joiner ?k1_Joiner_Joiner ?k1_Work_Joiner ?k1_Belt_Work ?k1_Knot_Work ?k1_Source_Work ?k1_Drain_Work ?k1_Parter_Work ?k1_FirstParter_Work ?k1_Sieve_Work ?k1_Joiner_Work ?k1_Work_Work
  (case h0|h1|h2|h3|h4|h5|h6|h7|h8|h9|h10|h11|h12|h13|h14|h15|h16|h17|h18|h19|h20|h21|h22|h23|h24 => (refine' K15.fhy ?a ?l ?c ?k; (case a => k_is); (case l => k_is); (case c => k_is); (case k => k_is)))
  (case aL|lL|cL|kL|z_len|z_range|z_list|z_int|z_all|z_sorted|z_enumerate|z_isinstance|z_str|z_zip|z_bool|ag_WorkError|ag_BadBelt|ag_BadKnot|ag_BadWork|ag_BadRow|ag_Belt|ag_Knot|ag_Source|ag_Drain|ag_Parter|ag_FirstParter|ag_Sieve|ag_Joiner|ag_Work => k_is)
  (case hc_Belt => (refine ⟨?_, ?_, ?_, ?_, ?_, ?_, ?_, ?_⟩ <;> k_is))
  (case nf_room_Belt|nf_pace_Belt => (show PySem.W.findIn _ _ _ = _; k_is))
  (case h_Belt_init => (refine' K15.mhy ?a ?i ?l ?c ?k; (case a => k_is); (case i => k_is); (case l => k_is); (case c => k_is); (case k => k_is)))
  (case hc_Knot => (refine ⟨?_, ?_, ?_, ?_, ?_, ?_, ?_, ?_⟩ <;> k_is))
  (case nf_ins_Knot|nf_outs_Knot => (show PySem.W.findIn _ _ _ = _; k_is))
  (case aKnot_init|iKnot_init|lKnot_init|cKnot_init|kKnot_init|bga_Knot_init|brd_Knot_init|bfc_Knot_init => k_is)
  (case h_Knot_choice|h_Knot_copied => (refine' K15.mhy ?a ?i ?l ?c ?k; (case a => k_is); (case i => k_is); (case l => k_is); (case c => k_is); (case k => k_is)))
  (case hc_Source => (refine ⟨?_, ?_, ?_, ?_, ?_, ?_, ?_, ?_⟩ <;> k_is))
  (case nf_pace_Source|nf_kinds_Source|nf_ins_Source|nf_outs_Source => (show PySem.W.findIn _ _ _ = _; k_is))
  (case h_Source_init|h_Source_choice|h_Source_copied => (refine' K15.mhy ?a ?i ?l ?c ?k; (case a => k_is); (case i => k_is); (case l => k_is); (case c => k_is); (case k => k_is)))
  (case hc_Drain => (refine ⟨?_, ?_, ?_, ?_, ?_, ?_, ?_, ?_⟩ <;> k_is))
  (case nf_pace_Drain|nf_ins_Drain|nf_outs_Drain => (show PySem.W.findIn _ _ _ = _; k_is))
  (case h_Drain_init|h_Drain_choice|h_Drain_copied => (refine' K15.mhy ?a ?i ?l ?c ?k; (case a => k_is); (case i => k_is); (case l => k_is); (case c => k_is); (case k => k_is)))
  (case hc_Parter => (refine ⟨?_, ?_, ?_, ?_, ?_, ?_, ?_, ?_⟩ <;> k_is))
  (case nf_ins_Parter|nf_outs_Parter => (show PySem.W.findIn _ _ _ = _; k_is))
  (case h_Parter_init|h_Parter_choice|h_Parter_copied => (refine' K15.mhy ?a ?i ?l ?c ?k; (case a => k_is); (case i => k_is); (case l => k_is); (case c => k_is); (case k => k_is)))
  (case hc_FirstParter => (refine ⟨?_, ?_, ?_, ?_, ?_, ?_, ?_, ?_⟩ <;> k_is))
  (case nf_ins_FirstParter|nf_outs_FirstParter => (show PySem.W.findIn _ _ _ = _; k_is))
  (case h_FirstParter_init|h_FirstParter_choice|h_FirstParter_copied => (refine' K15.mhy ?a ?i ?l ?c ?k; (case a => k_is); (case i => k_is); (case l => k_is); (case c => k_is); (case k => k_is)))
  (case hc_Sieve => (refine ⟨?_, ?_, ?_, ?_, ?_, ?_, ?_, ?_⟩ <;> k_is))
  (case nf_kind_Sieve|nf_ins_Sieve|nf_outs_Sieve => (show PySem.W.findIn _ _ _ = _; k_is))
  (case h_Sieve_init|h_Sieve_choice|h_Sieve_place_for|h_Sieve_copied => (refine' K15.mhy ?a ?i ?l ?c ?k; (case a => k_is); (case i => k_is); (case l => k_is); (case c => k_is); (case k => k_is)))
  (case hc_Joiner => (refine ⟨?_, ?_, ?_, ?_, ?_, ?_, ?_, ?_⟩ <;> k_is))
  (case nf_ins_Joiner|nf_outs_Joiner => (show PySem.W.findIn _ _ _ = _; k_is))
  (case h_Joiner_init|h_Joiner_choice|h_Joiner_copied => (refine' K15.mhy ?a ?i ?l ?c ?k; (case a => k_is); (case i => k_is); (case l => k_is); (case c => k_is); (case k => k_is)))
  (case hc_Work => (refine ⟨?_, ?_, ?_, ?_, ?_, ?_, ?_, ?_⟩ <;> k_is))
  (case nf_belts_Work|nf_knots_Work => (show PySem.W.findIn _ _ _ = _; k_is))
  (case h_Work_init|h_Work_feeder|h_Work_taker|h_Work_drains|h_Work_sources|h_Work_beat => (refine' K15.mhy ?a ?i ?l ?c ?k; (case a => k_is); (case i => k_is); (case l => k_is); (case c => k_is); (case k => k_is)))
  (case wgn|wtk|ac_MOST_ROOM|ac_MOST_PACE|ac_MOST_KINDS|ac_FEWEST_WAYS|ac_MOST_WAYS|ac_FIGURES|ac_MOST_FIGURES|ac_MOST_BELTS|ac_MOST_KNOTS => k_is)
  (case xq_BadBelt => k_exc)
  (case xga_BadBelt|xgt_BadBelt|xcl_BadBelt|xhd_BadBelt|xmo_BadBelt|xmb_BadBelt => k_is)
  (case xq_BadKnot => k_exc)
  (case xga_BadKnot|xgt_BadKnot|xcl_BadKnot|xhd_BadKnot|xmo_BadKnot|xmb_BadKnot => k_is)
  (case xq_BadWork => k_exc)
  (case xga_BadWork|xgt_BadWork|xcl_BadWork|xhd_BadWork|xmo_BadWork|xmb_BadWork|xgn|xtk|sub_BadBelt|hdw_BadBelt|tyw_BadBelt|sb_BadBelt_BadBelt|sb_BadKnot_BadBelt|sb_BadWork_BadBelt|sub_BadKnot|hdw_BadKnot|tyw_BadKnot|sb_BadBelt_BadKnot|sb_BadKnot_BadKnot|sb_BadWork_BadKnot => k_is)
  (case k1_Belt_Knot|k1_Knot_Knot|k1_Source_Knot|k1_Drain_Knot|k1_Parter_Knot|k1_FirstParter_Knot|k1_Sieve_Knot|k1_Joiner_Knot|k1_Work_Knot|k1_Belt_Belt|k1_Knot_Belt|k1_Source_Belt|k1_Drain_Belt|k1_Parter_Belt|k1_FirstParter_Belt|k1_Sieve_Belt|k1_Joiner_Belt|k1_Work_Belt|k1_Belt_Source|k1_Knot_Source|k1_Source_Source|k1_Drain_Source|k1_Parter_Source|k1_FirstParter_Source|k1_Sieve_Source|k1_Joiner_Source|k1_Work_Source|k1_Belt_Drain|k1_Knot_Drain|k1_Source_Drain|k1_Drain_Drain|k1_Parter_Drain|k1_FirstParter_Drain|k1_Sieve_Drain|k1_Joiner_Drain|k1_Work_Drain|k1_Belt_Parter|k1_Knot_Parter|k1_Source_Parter|k1_Drain_Parter|k1_Parter_Parter|k1_FirstParter_Parter|k1_Sieve_Parter|k1_Joiner_Parter|k1_Work_Parter|k1_Belt_FirstParter|k1_Knot_FirstParter|k1_Source_FirstParter|k1_Drain_FirstParter|k1_Parter_FirstParter|k1_FirstParter_FirstParter|k1_Sieve_FirstParter|k1_Joiner_FirstParter|k1_Work_FirstParter|k1_Belt_Sieve|k1_Knot_Sieve|k1_Source_Sieve|k1_Drain_Sieve|k1_Parter_Sieve|k1_FirstParter_Sieve|k1_Sieve_Sieve|k1_Joiner_Sieve|k1_Work_Sieve|k1_Belt_Joiner|k1_Knot_Joiner|k1_Source_Joiner|k1_Drain_Joiner|k1_Parter_Joiner|k1_FirstParter_Joiner|k1_Sieve_Joiner|k1_Joiner_Joiner|k1_Work_Joiner|k1_Belt_Work|k1_Knot_Work|k1_Source_Work|k1_Drain_Work|k1_Parter_Work|k1_FirstParter_Work|k1_Sieve_Work|k1_Joiner_Work|k1_Work_Work => kit_is)
