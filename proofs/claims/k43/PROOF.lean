import PyProof.Rows.All
import Wide.All
import OpenK.AllK
import Wide.FinOn
import Lean
import PyProof.EqAt
import PyProof.EqKinds
import PyProof.TupleCall
import PyProof.NeKinds
import PyProof.SumWalkG
import PyProof.Rows.CallKwBuiltin
import PyProof.Rows.FStr
import PyProof.ListRange
import PyProof.ZipIter
import PyProof.CompFree
import KE.KIntText
import PyProof.StrWalks
import PyProof.Rows.StrMul
import PyProof.ConsumeWalk
import Wide.Txt
import PySem.Challenge.RW_beltshares_k43_a_made_work
set_option Elab.async false
set_option linter.all false
set_option maxRecDepth 100000
/-! THE HAND LAYER, for ints, bools, texts, own classes, LISTS and tuples (index, slices, in, append, pop ..), calls, loops. Paste it whole ahead of your own text; what your proof does not reach may be deleted. -/
namespace L2
open PySem PySem.Spec PyProof.Rows

/-- a key: an int or a str -/
abbrev Key := Sum Int Str
def keyIs : Key → Value → Bool
  | .inl k, v => Value.isInt k v
  | .inr x, v => Value.isStrOf x v
def keyH (w : World) : Key → Int
  | .inl k => hashInt k
  | .inr x => hashStr w x
theorem keyIs_shape : ∀ {k : Key} {v : Value}, keyIs k v = true → (∃ i t, k = Sum.inl i ∧ v = Value.int i t) ∨ (∃ x t, k = Sum.inr x ∧ v = Value.str x t)
  | .inl i, v, h => by
    obtain ⟨t, e⟩ := Value.isInt_shape (k := i) (v := v) h
    exact .inl ⟨i, t, rfl, e⟩
  | .inr x, v, h => by
    obtain ⟨t, e⟩ := Value.isStrOf_shape (x := x) (v := v) h
    exact .inr ⟨x, t, rfl, e⟩
theorem keyIs_int (i : Int) (t : Tok) : keyIs (.inl i) (.int i t) = true := by simp [keyIs, Value.isInt]
theorem keyIs_str (x : Str) (t : Tok) : keyIs (.inr x) (.str x t) = true := by simp [keyIs, Value.isStrOf]
theorem key_ll (a b : Int) : decide ((Sum.inl a : Key) = Sum.inl b) = (a == b) := by
  by_cases e : a = b
  · subst e; simp
  · have h : ¬ (Sum.inl a : Key) = Sum.inl b := fun q => e (Sum.inl.inj q)
    rw [decide_eq_false h]
    exact (beq_eq_false_iff_ne.mpr e).symm
theorem key_rr (a b : Str) : decide ((Sum.inr a : Key) = Sum.inr b) = decide (a = b) := by
  by_cases e : a = b
  · subst e; simp
  · have h : ¬ (Sum.inr a : Key) = Sum.inr b := fun q => e (Sum.inr.inj q)
    rw [decide_eq_false h, decide_eq_false e]
theorem key_lr (a : Int) (b : Str) : decide ((Sum.inl a : Key) = Sum.inr b) = false := decide_eq_false (fun q => nomatch q)
theorem key_rl (a : Str) (b : Int) : decide ((Sum.inr a : Key) = Sum.inl b) = false := decide_eq_false (fun q => nomatch q)

def mixKind (prog : Program) (w : World) : PySem.KeyKind prog w Key where
  is := keyIs
  hash := keyH w
  inj := fun v a b ha hb => by
    rcases keyIs_shape ha with ⟨i, t, rfl, rfl⟩ | ⟨x, t, rfl, rfl⟩
    · rcases keyIs_shape hb with ⟨j, u, rfl, e⟩ | ⟨y, u, rfl, e⟩
      · injection e with e1 _; rw [e1]
      · exact nomatch e
    · rcases keyIs_shape hb with ⟨j, u, rfl, e⟩ | ⟨y, u, rfl, e⟩
      · exact nomatch e
      · injection e with e1 _; rw [e1]
  byValue := fun k v h => by
    rcases keyIs_shape h with ⟨i, t, rfl, rfl⟩ | ⟨x, t, rfl, rfl⟩ <;> rfl
  pyHash := fun hv h => by
    rcases keyIs_shape hv with ⟨i, t, rfl, rfl⟩ | ⟨x, t, rfl, rfl⟩
    · exact wpAny_pyHash_int h
    · exact wpAny_pyHash_str h
  eqBool := fun hu hv h => by
    rcases keyIs_shape hu with ⟨i, t, rfl, rfl⟩ | ⟨x, t, rfl, rfl⟩
    · rcases keyIs_shape hv with ⟨j, u, rfl, rfl⟩ | ⟨y, u, rfl, rfl⟩
      · rw [key_ll] at h; exact wpAny_eqBool_int h
      · rw [key_lr] at h; exact SeqAt.EqAt.int_str i t y u _ _ _ _ h
    · rcases keyIs_shape hv with ⟨j, u, rfl, rfl⟩ | ⟨y, u, rfl, rfl⟩
      · rw [key_rl] at h; exact SeqAt.EqAt.str_int x t j u _ _ _ _ h
      · rw [key_rr] at h; exact wpAny_eqBool_str h
  «strs» := fun k x t v h => by
    rcases keyIs_shape h with ⟨i, u, rfl, e⟩ | ⟨y, u, rfl, e⟩
    · exact nomatch e
    · injection e with e1 _
      subst e1
      cases v <;> rfl

theorem mixKind_is (prog : Program) (w : World) (k : Key) (v : Value) : (mixKind prog w).is k v = keyIs k v := rfl
theorem mixKind_int (prog : Program) (w : World) (i : Int) (t : Tok) : (mixKind prog w).is (.inl i) (.int i t) = true := keyIs_int i t
theorem mixKind_str (prog : Program) (w : World) (x : Str) (t : Tok) : (mixKind prog w).is (.inr x) (.str x t) = true := keyIs_str x t
end L2

namespace L2
open PySem PySem.Spec PyProof.Rows

/-- a value, without the heap -/
inductive V where
  | non | bl (b : Bool) | int (i : Int) | str (x : Str) | byt (b : Array UInt8) | flt (b : UInt64) | ref (a : Addr) | ty (n : String)
  deriving DecidableEq

def RelV : V → Value → Prop
  | .non, u => u = Value.none
  | .bl b, u => u = Value.bool b
  | .int i, u => ∃ t, u = Value.int i t
  | .str x, u => ∃ t, u = Value.str x t
  | .byt b, u => ∃ t, u = Value.bytes b t
  | .flt b, u => ∃ t, u = Value.float b t
  | .ref a, u => u = Value.ref a
  | .ty n, u => u = Value.type n

abbrev Vals : List V → List Value → Prop := Paired RelV
theorem Vals.length {xs : List V} {us : List Value} (r : Vals xs us) : xs.length = us.length := Paired.length r
theorem Vals.get : ∀ {xs : List V} {us : List Value} {i : Nat} {x : V}, Vals xs us → xs[i]? = some x → ∃ u, us[i]? = some u ∧ RelV x u
  | _, _, _, _, .nil, e => by simp at e
  | _, _, 0, _, .cons r _, e => by simp at e; subst e; exact ⟨_, rfl, r⟩
  | _, _, i + 1, x, .cons _ t, e => by
    obtain ⟨u, h1, h2⟩ := Vals.get (i := i) (x := x) t (by simpa using e)
    exact ⟨u, by simpa using h1, h2⟩
theorem Vals.set {x : V} {u : Value} (r : RelV x u) : ∀ {xs : List V} {us : List Value} (i : Nat), Vals xs us → Vals (xs.set i x) (us.set i u)
  | _, _, _, .nil => .nil
  | _, _, 0, .cons _ t => .cons r t
  | _, _, i + 1, .cons q t => .cons q (Vals.set r i t)
theorem Vals.append : ∀ {xs ys : List V} {us ws : List Value}, Vals xs us → Vals ys ws → Vals (xs ++ ys) (us ++ ws)
  | _, _, _, _, .nil, s => s
  | _, _, _, _, .cons r t, s => .cons r (Vals.append t s)
theorem Vals.take : ∀ {xs : List V} {us : List Value} (n : Nat), Vals xs us → Vals (xs.take n) (us.take n)
  | _, _, 0, _ => .nil
  | _, _, _ + 1, .nil => .nil
  | _, _, n + 1, .cons r t => .cons r (Vals.take n t)
theorem Vals.drop : ∀ {xs : List V} {us : List Value} (n : Nat), Vals xs us → Vals (xs.drop n) (us.drop n)
  | _, _, 0, r => r
  | _, _, _ + 1, .nil => .nil
  | _, _, n + 1, .cons _ t => Vals.drop n t
theorem Vals.none_of : ∀ {xs : List V} {us : List Value} {i : Nat}, Vals xs us → xs[i]? = none → us[i]? = none := fun {xs us i} r e => by
  have h1 := r.length
  have h2 : xs.length ≤ i := List.getElem?_eq_none_iff.mp e
  exact List.getElem?_eq_none_iff.mpr (by omega)

def RelO : Option V → Option Value → Prop
  | some v, some u => RelV v u
  | none, none => True
  | _, _ => False
def KV {κ : Type} : List (κ × V) → List (κ × Value) → Prop := Paired fun (p : κ × V) (q : κ × Value) => p.1 = q.1 ∧ RelV p.2 q.2

/-- a key of a dict (00_mix): an int or a text -/
def kV : Key → V
  | .inl i => .int i
  | .inr x => .str x

/-- what stands at a tracked address -/
inductive HO where
  /-- a list -/
  | lst (xs : List V)
  /-- a tuple (never changes) -/
  | tup (xs : List V)
  /-- a dict whose keys are ints and texts; one whose keys are tuples of ints and texts (the empty one is both) -/
  | dK (kvs : List (Key × V)) | dT (kvs : List (List Key × V))
  /-- a set of ints: its members, its size -/
  | set (S : Int → Bool) (n : Nat)
  /-- an instance of the class at C, its dict at dx, its attributes -/
  | ins (C dx : Addr) (fs : List (Str × V))
  /-- the dict of the instance at x -/
  | own (x : Addr)
  /-- the dict of an exception -/
  | xd (fs : List (Str × V))
  /-- a bound method, f of x -/
  | met (f x : Addr)
  /-- a range object lo, lo + 1, .. below hi -/
  | rng (lo hi : Int)
  /-- a thing that is known to the object (the script; a dict while a loop walks it): read, never written while it is so -/
  | frz (o : Obj) (u : HO)
  /-- a code object's table -/
  | tbl (ps : Array Value)
  /-- any other thing, by what is true of its one object (a def of one's own: SetO a S n := HO.ext fun h => ..) -/
  | ext (φ : Heap → Prop)

abbrev Hp := Addr → Option HO
def upd (H : Hp) (a : Addr) (o : HO) : Hp := fun b => if b = a then some o else H b
theorem upd_same {H : Hp} {a : Addr} {o : HO} : upd H a o a = some o := by unfold upd; rw [if_pos rfl]
theorem upd_ne {H : Hp} {a b : Addr} {o : HO} (h : b ≠ a) : upd H a o b = H b := by unfold upd; rw [if_neg h]
theorem upd_upd {H : Hp} {a : Addr} {o u : HO} : upd (upd H a o) a u = upd H a u := by
  funext b; unfold upd; split <;> rfl
/-- two objects of different content stand apart -/
theorem ne_of {H : Hp} {a b : Addr} {o u : HO} (h : H a = some o) (h' : H b = some u) (d : o ≠ u) : a ≠ b := by
  intro e; subst e; rw [h] at h'; exact d (Option.some.inj h')
theorem ne_of_none {H : Hp} {a b : Addr} {o : HO} (h : H a = some o) (h' : H b = none) : a ≠ b := by
  intro e; subst e; rw [h] at h'; cases h'

section
variable (P : Program) (w : World)
def ObjOk (H : Hp) (h : Heap) (a : Addr) : HO → Prop
  | .lst xs => xs.length ≤ sizeLine ∧ ∃ (its : List Value) (n : Nat), Vals xs its ∧ h.get? a = some { cls := .type "list", data := .seq its.toArray n }
  | .tup xs => xs.length ≤ sizeLine ∧ ∃ its : List Value, Vals xs its ∧ IsTup h a its.toArray
  | .dK kvs => kvs.length ≤ sizeLine ∧ (a == sysModules) = false ∧ ∃ vs, KV kvs vs ∧ h.DictOf (mixKind P w) a vs
  | .dT kvs => kvs.length ≤ sizeLine ∧ (a == sysModules) = false ∧ ∃ xs : List (List Key × Addr × Value),
      Paired (fun (p : List Key × V) (q : List Key × Addr × Value) => p.1 = q.1 ∧ H q.2.1 = some (.tup (p.1.map kV)) ∧ RelV p.2 q.2.2) kvs xs ∧
      ∃ o es ep, h.get? a = some o ∧ o.ExactDict ∧ o.data = .dict es ep ∧ es.toList = xs.map (entryOfKey (tupleKind (mixKind P w))) ∧ (xs.map (·.1)).Nodup
  | .set S n => h.SetOf (intKind P w) a S n
  | .ins C dx fs => H dx = some (.own a) ∧ fs.length ≤ 1000 ∧ dx ≠ a ∧ h.get? a = some (PySem.W.instObj C dx) ∧
      ∃ mA, h.Ns1 dx mA ∧ (∀ f, RelO (fs.lookup f) (mA f)) ∧ PySem.Within mA (fs.map (·.1))
  | .own _ => ∃ o, h.get? a = some o
  | .xd fs => ∃ mA, h.Ns1 a mA ∧ ∀ f, RelO (fs.lookup f) (mA f)
  | .rng lo hi => ∃ t u v, h.get? a = some { cls := .type "range", data := .fields #[.int lo t, .int hi u, .int 1 v] }
  | .frz o u => h.get? a = some o ∧ ObjOk H h a u
  | .tbl ps => h.get? a = some { cls := .none, data := .fields ps }
  | .met f x => h.get? a = some (PySem.W.methodObj (.ref f) (.ref x))
  | .ext φ => φ h ∧ (∃ o, h.get? a = some o) ∧ ∀ h1 h2 : Heap, φ h1 → (∀ o, h1.get? a = some o → h2.get? a = some o) → φ h2
/-- the abstract heap is held -/
def HOk (H : Hp) (h : Heap) : Prop := ∀ a o, H a = some o → ObjOk P w H h a o
end

section
variable {P : Program} {w : World} {H H' : Hp} {h h' : Heap} {a : Addr} {o : HO}
theorem ObjOk.lt (x : ObjOk P w H h a o) : a < h.objs.size := by
  cases o with
  | lst xs => obtain ⟨_, _, _, _, e⟩ := x; exact Heap.lt_size e
  | tup xs => obtain ⟨_, _, _, p⟩ := x; exact p.lt
  | dK kvs => obtain ⟨_, _, _, _, o, _, _, e, _⟩ := x; exact Heap.lt_size e
  | dT kvs => obtain ⟨_, _, _, _, o, _, _, e, _⟩ := x; exact Heap.lt_size e
  | set S n => obtain ⟨o, _, _, _, e, _⟩ := x; exact Heap.lt_size e
  | ins C dx fs => obtain ⟨_, _, _, e, _⟩ := x; exact Heap.lt_size e
  | own y => obtain ⟨_, e⟩ := x; exact Heap.lt_size e
  | xd fs => obtain ⟨_, ⟨_, _, _, e, _⟩, _⟩ := x; exact Heap.lt_size e
  | rng lo hi => obtain ⟨_, _, _, e⟩ := x; exact Heap.lt_size e
  | frz ob u => obtain ⟨e, _⟩ := x; exact Heap.lt_size e
  | tbl ps => exact Heap.lt_size (show h.get? a = some _ from x)
  | met f y => exact Heap.lt_size (show h.get? a = some _ from x)
  | ext φ => obtain ⟨_, ⟨_, e⟩, _⟩ := x; exact Heap.lt_size e
theorem Paired.mapP {α β : Type} {F G : α → β → Prop} : ∀ {l₁ : List α} {l₂ : List β}, Paired F l₁ l₂ → (∀ a b, F a b → G a b) → Paired G l₁ l₂
  | _, _, .nil, _ => .nil
  | _, _, .cons r t, f => .cons (f _ _ r) (Paired.mapP t f)
theorem Paired.imp' {α β : Type} {F G : α → β → Prop} (f : ∀ a b, F a b → G a b) {l₁ : List α} {l₂ : List β} (r : Paired F l₁ l₂) : Paired G l₁ l₂ := Paired.mapP r f
/-- what an object's description leans on: its own object, its own dict, the tuples -/
theorem ObjOk.stay (x : ObjOk P w H h a o) (k : ∀ b u, (b = a ∨ H b = some (.own a)) → h.get? b = some u → h'.get? b = some u)
    (ho : ∀ b, H b = some (.own a) → H' b = some (.own a)) (ht : ∀ b xs, H b = some (.tup xs) → H' b = some (.tup xs)) : ObjOk P w H' h' a o := by
  induction o with
  | lst xs => obtain ⟨z, its, n, r, e⟩ := x; exact ⟨z, its, n, r, k _ _ (.inl rfl) e⟩
  | tup xs => obtain ⟨z, its, r, ob, e, c⟩ := x; exact ⟨z, its, r, ob, k _ _ (.inl rfl) e, c⟩
  | dK kvs => obtain ⟨z, y, vs, r, ob, es, ep, e, c⟩ := x; exact ⟨z, y, vs, r, ob, es, ep, k _ _ (.inl rfl) e, c⟩
  | dT kvs =>
    obtain ⟨z, y, xs, r, ob, es, ep, e, c⟩ := x
    exact ⟨z, y, xs, Paired.mapP r fun p q z => ⟨z.1, ht _ _ z.2.1, z.2.2⟩, ob, es, ep, k _ _ (.inl rfl) e, c⟩
  | set S n => obtain ⟨ob, es, ep, t, e, c⟩ := x; exact ⟨ob, es, ep, t, k _ _ (.inl rfl) e, c⟩
  | ins C dx fs =>
    obtain ⟨d, z, ne, e, mA, ⟨od, es, ep, e2, c⟩, r⟩ := x
    exact ⟨ho _ d, z, ne, k _ _ (.inl rfl) e, mA, ⟨od, es, ep, k _ _ (.inr d) e2, c⟩, r⟩
  | own y => obtain ⟨ob, e⟩ := x; exact ⟨ob, k _ _ (.inl rfl) e⟩
  | xd fs => obtain ⟨mA, ⟨od, es, ep, e, c⟩, r⟩ := x; exact ⟨mA, ⟨od, es, ep, k _ _ (.inl rfl) e, c⟩, r⟩
  | rng lo hi => obtain ⟨t, u, v, e⟩ := x; exact ⟨t, u, v, k _ _ (.inl rfl) e⟩
  | frz ob u ih => obtain ⟨e, q⟩ := x; exact ⟨k _ _ (.inl rfl) e, ih q⟩
  | tbl ps =>
    have e : h.get? a = some { cls := .none, data := .fields ps } := x
    show h'.get? a = some { cls := .none, data := .fields ps }
    exact k a _ (.inl rfl) e
  | met f y =>
    have e : h.get? a = some (PySem.W.methodObj (.ref f) (.ref y)) := x
    show h'.get? a = some (PySem.W.methodObj (.ref f) (.ref y))
    exact k a _ (.inl rfl) e
  | ext φ => obtain ⟨p, ⟨o, e⟩, st⟩ := x; exact ⟨st _ _ p fun o q => k _ _ (.inl rfl) q, ⟨o, k _ _ (.inl rfl) e⟩, st⟩
theorem HOk.lt (x : HOk P w H h) (e : H a = some o) : a < h.objs.size := (x a o e).lt
theorem HOk.fresh (x : HOk P w H h) (e : h.objs.size ≤ a) : H a = none := by
  cases q : H a with
  | none => rfl
  | some u => exact absurd (Nat.lt_of_lt_of_le (x.lt q) e) (Nat.lt_irrefl _)
/-- every object of the heap is kept -/
theorem HOk.kept (x : HOk P w H h) (k : ∀ b u, h.get? b = some u → h'.get? b = some u) : HOk P w H h' := fun a o e =>
  (x a o e).stay (fun b u _ q => k b u q) (fun _ q => q) fun _ _ q => q
/-- a new object is laid and tracked -/
theorem HOk.laid (x : HOk P w H h) (k : ∀ b u, h.get? b = some u → h'.get? b = some u) (hp : h.objs.size ≤ a) (new : ObjOk P w (upd H a o) h' a o) : HOk P w (upd H a o) h' := fun b u e => by
  have hn := x.fresh hp
  by_cases hb : b = a
  · subst hb; rw [upd_same] at e; cases e; exact new
  · rw [upd_ne hb] at e
    exact (x b u e).stay (fun c v _ q => k c v q) (fun c q => by rw [upd_ne (ne_of_none q hn)]; exact q) fun c xs q => by rw [upd_ne (ne_of_none q hn)]; exact q
end

/-- what may be read as u: it is u, or a known u -/
def Rd (H : Hp) (a : Addr) (u : HO) : Prop := H a = some u ∨ ∃ o, H a = some (.frz o u)
theorem Rd.of {H : Hp} {a : Addr} {u : HO} (h : H a = some u) : Rd H a u := .inl h
theorem Rd.ok {P : Program} {w : World} {H : Hp} {h : Heap} {a : Addr} {u : HO} (r : Rd H a u) (x : HOk P w H h) : ObjOk P w H h a u := by
  rcases r with r | ⟨o, r⟩
  · exact x a u r
  · obtain ⟨_, q⟩ := x a _ r
    exact q
/-- what may be written -/
def Mut : Option HO → Prop
  | some (.lst _) => True
  | some (.dK _) => True
  | some (.dT _) => True
  | some (.set _ _) => True
  | some (.ins _ _ _) => True
  | some (.ext _) => True
  | _ => False
section
variable {P : Program} {w : World} {H : Hp} {h h' : Heap} {x e : Addr} {o' : HO}
/-- the object at e is changed: x itself, or the dict of the instance x -/
theorem HOk.write (ok : HOk P w H h) (mu : Mut (H x)) (he : e = x ∨ H e = some (.own x)) (k : ∀ b u, b ≠ e → h.get? b = some u → h'.get? b = some u) (heo : ∃ u, h'.get? e = some u)
    (new : ObjOk P w (upd H x o') h' x o') : HOk P w (upd H x o') h' := fun b u q => by
  have nown : ∀ c y, H c = some (.own y) → c ≠ x := fun c y r z => by subst z; rw [r] at mu; exact mu
  have ntup : ∀ c xs, H c = some (.tup xs) → c ≠ x := fun c xs r z => by subst z; rw [r] at mu; exact mu
  by_cases hb : b = x
  · subst hb; rw [upd_same] at q; cases q; exact new
  · rw [upd_ne hb] at q
    by_cases hbe : b = e
    · have q' : H b = some (.own x) := by
        rcases he with z | z
        · exact absurd (hbe.trans z) hb
        · rw [hbe]; exact z
      rw [q] at q'; cases q'
      obtain ⟨v, hv⟩ := heo
      exact ⟨v, by rw [hbe]; exact hv⟩
    · refine (ok b u q).stay (fun c v hc r => k c v ?_ r) (fun c r => by rw [upd_ne (nown c b r)]; exact r) fun c xs r => by rw [upd_ne (ntup c xs r)]; exact r
      rcases hc with rfl | hc
      · exact hbe
      · rintro rfl
        rcases he with z | z
        · exact nown c b hc z
        · rw [hc] at z; cases z; exact hb rfl
end

/-! ### kept unless tracked; of the frames at fs (the callers') the slots may change (an exception that passes writes there); of the records at ex (iterators) nothing is said -/
structure Un (fs ex : List Addr) (H H' : Hp) (h h' : Heap) : Prop where
  keep : ∀ b o, h.get? b = some o → H b = none → b ∉ fs → b ∉ ex → h'.get? b = some o
  slot : ∀ b o, h.get? b = some o → H b = none → b ∈ fs → b ∉ ex → ∃ sl, h'.get? b = some { o with slots := sl }
  free : ∀ b o, h.get? b = some o → H b = none → b ∉ ex → H' b = none
  there : ∀ b o, h.get? b = some o → b ∉ ex → ∃ o', h'.get? b = some o'
  tups : ∀ b xs, H b = some (.tup xs) → H' b = some (.tup xs)
  frzs : ∀ b o u, H b = some (.frz o u) → H' b = some (.frz o u)
  tbls : ∀ b ps, H b = some (.tbl ps) → ∃ more, H' b = some (.tbl (ps ++ more))
section
variable {fs fs' ex ex' : List Addr} {H H1 H2 : Hp} {h h1 h2 h' : Heap} {a x e : Addr} {o : HO}
theorem Un.any (u : Un fs ex H H1 h h1) {b : Addr} {ob : Obj} (q : h.get? b = some ob) (n : H b = none) (hx : b ∉ ex) : ∃ sl, h1.get? b = some { ob with slots := sl } := by
  by_cases hb : b ∈ fs
  · exact u.slot b ob q n hb hx
  · exact ⟨ob.slots, u.keep b ob q n hb hx⟩
theorem Un.trans (a : Un fs ex H H1 h h1) (b : Un fs ex H1 H2 h1 h2) : Un fs ex H H2 h h2 where
  keep := fun c ob q n hc hx => b.keep c ob (a.keep c ob q n hc hx) (a.free c ob q n hx) hc hx
  slot := fun c ob q n hc hx => by
    obtain ⟨sl, e1⟩ := a.slot c ob q n hc hx
    obtain ⟨sl', e2⟩ := b.slot c _ e1 (a.free c ob q n hx) hc hx
    exact ⟨sl', e2⟩
  free := fun c ob q n hx => by
    obtain ⟨o', e1⟩ := a.there c ob q hx
    exact b.free c o' e1 (a.free c ob q n hx) hx
  there := fun c ob q hx => by
    obtain ⟨o', e1⟩ := a.there c ob q hx
    exact b.there c o' e1 hx
  tups := fun c xs q => b.tups c xs (a.tups c xs q)
  frzs := fun c ob xs q => b.frzs c ob xs (a.frzs c ob xs q)
  tbls := fun c ps q => by
    obtain ⟨m1, e1⟩ := a.tbls c ps q
    obtain ⟨m2, e2⟩ := b.tbls c _ e1
    exact ⟨m1 ++ m2, by rw [e2, Array.append_assoc]⟩
theorem Un.kept (k : ∀ b u, h.get? b = some u → h'.get? b = some u) : Un fs ex H H h h' :=
  ⟨fun b ob q _ _ _ => k b ob q, fun b ob q _ _ _ => ⟨ob.slots, k b ob q⟩, fun _ _ _ n _ => n, fun b ob q _ => ⟨ob, k b ob q⟩, fun _ _ q => q, fun _ _ _ q => q, fun _ ps q => ⟨#[], by rw [q]; simp⟩⟩
theorem Un.refl : Un fs ex H H h h := Un.kept fun _ _ q => q
theorem Un.laid (k : ∀ b u, h.get? b = some u → h'.get? b = some u) (hp : h.objs.size ≤ a) (hn : H a = none) : Un fs ex H (upd H a o) h h' where
  keep := fun b u q _ _ _ => k b u q
  slot := fun b u q _ _ _ => ⟨u.slots, k b u q⟩
  free := fun b u q n _ => by rw [upd_ne (Nat.ne_of_lt (Nat.lt_of_lt_of_le (Heap.lt_size q) hp))]; exact n
  there := fun b u q _ => ⟨u, k b u q⟩
  tups := fun b xs q => by rw [upd_ne (ne_of_none q hn)]; exact q
  frzs := fun b u xs q => by rw [upd_ne (ne_of_none q hn)]; exact q
  tbls := fun b ps q => ⟨#[], by rw [upd_ne (ne_of_none q hn), q]; simp⟩
theorem Un.write (mu : Mut (H x)) (he : e = x ∨ H e = some (.own x)) (k : ∀ b u, b ≠ e → h.get? b = some u → h'.get? b = some u) (heo : ∃ u, h'.get? e = some u) : Un fs ex H (upd H x o) h h' := by
  have hx : ∀ b, H b = none → b ≠ x := fun b n z => by subst z; rw [n] at mu; exact mu
  have hb : ∀ b, H b = none → b ≠ e := fun b n z => by
    subst z
    rcases he with r | r
    · exact hx b n r
    · rw [n] at r; cases r
  have hm : ∀ b u, H b = some u → ¬ Mut (some u) → b ≠ x := fun b u q nm z => by subst z; rw [q] at mu; exact nm mu
  refine ⟨fun b u q n _ _ => k b u (hb b n) q, fun b u q n _ _ => ⟨u.slots, k b u (hb b n) q⟩, fun b u q n _ => by rw [upd_ne (hx b n)]; exact n, fun b u q _ => ?_,
    fun b xs q => by rw [upd_ne (hm b _ q fun z => z)]; exact q, fun b u xs q => by rw [upd_ne (hm b _ q fun z => z)]; exact q, fun b ps q => ⟨#[], by rw [upd_ne (hm b _ q fun z => z), q]; simp⟩⟩
  by_cases hbe : b = e
  · subst hbe; exact heo
  · exact ⟨u, k b u hbe q⟩
theorem Un.mono (u : Un fs ex H H1 h h1) (hs : ∀ b ∈ fs, b ∈ fs') (hx : ∀ b ∈ ex, b ∈ ex') : Un fs' ex' H H1 h h1 :=
  ⟨fun b ob q n hb he => u.keep b ob q n (fun z => hb (hs b z)) fun z => he (hx b z), fun _ _ q n _ he => u.any q n fun z => he (hx _ z), fun b ob q n he => u.free b ob q n fun z => he (hx b z), fun b ob q he => u.there b ob q fun z => he (hx b z), u.tups, u.frzs, u.tbls⟩
end

/-! ### the heap without what is tracked -/
def trk (h : Heap) (H : Hp) : List Addr := (List.range h.objs.size).filter fun a => (H a).isSome
def hidT (h : Heap) (H : Hp) : Heap := PySem.W.hideAll h (trk h H)
theorem hidT_size (h : Heap) (H : Hp) : (hidT h H).objs.size = h.objs.size := PySem.W.hideAll_size _ _
theorem hidT_get {h : Heap} {H : Hp} {b : Addr} {o : Obj} (e : h.get? b = some o) (n : H b = none) : (hidT h H).get? b = some o :=
  PySem.W.hideAll_get _ e fun hm => by
    have q : (H b).isSome = true := (List.mem_filter.mp hm).2
    rw [n] at q; simp at q
theorem of_hidT {h : Heap} {H : Hp} {b : Addr} {o : Obj} (e : (hidT h H).get? b = some o) : h.get? b = some o ∧ H b = none := by
  have e' : h.get? b = some o := PySem.W.of_hideAll (trk h H) e
  refine ⟨e', ?_⟩
  cases q : H b with
  | none => rfl
  | some x =>
    have hm : b ∈ trk h H := List.mem_filter.mpr ⟨List.mem_range.mpr (Heap.lt_size e'), by simp [q]⟩
    have z : (hidT h H).get? b = none := PySem.W.hideAll_none (trk h H) hm
    rw [z] at e; cases e

/-! ### OpenK's ledger, filled with every new object but one -/
def allNews (g h : Heap) (L : Addr) : List (Addr × Obj) := (List.range h.objs.size).filterMap fun a => if a = L ∨ (g.get? a).isSome = true then none else (h.get? a).map fun o => (a, o)
theorem mem_allNews {g h : Heap} {L a : Addr} {o : Obj} (h1 : a ≠ L) (h2 : g.get? a = none) (h3 : h.get? a = some o) : (a, o) ∈ allNews g h L :=
  List.mem_filterMap.mpr ⟨a, List.mem_range.mpr (Heap.lt_size h3), by simp [h1, h2, h3]⟩
theorem of_mem_allNews {g h : Heap} {L : Addr} {p : Addr × Obj} (hp : p ∈ allNews g h L) : p.1 ≠ L ∧ g.get? p.1 = none ∧ h.get? p.1 = some p.2 := by
  obtain ⟨b, _, e⟩ := List.mem_filterMap.mp hp
  split at e
  · cases e
  · rename_i hn
    cases q : h.get? b with
    | none => rw [q] at e; simp at e
    | some u =>
      rw [q] at e
      simp only [Option.map_some, Option.some.injEq] at e
      subst e
      refine ⟨fun z => hn (.inl z), ?_, q⟩
      show g.get? b = none
      cases r : g.get? b with
      | none => rfl
      | some v => exact (hn (.inr (by simp [r]))).elim
def rest (g h : Heap) (L d : Addr) : List (Addr × Obj) := (allNews g h L).filter fun p => decide (p.1 ≠ d)
theorem rest_ne {g h : Heap} {L d : Addr} : ∀ p ∈ rest g h L d, p.1 ≠ d := fun p hp => of_decide_eq_true (List.mem_filter.mp hp).2
theorem mem_rest {g h : Heap} {L d a : Addr} {o : Obj} (h1 : a ≠ L) (h2 : g.get? a = none) (h3 : h.get? a = some o) (h4 : a ≠ d) : (a, o) ∈ rest g h L d :=
  List.mem_filter.mpr ⟨mem_allNews h1 h2 h3, decide_eq_true h4⟩
theorem news_all {g h : Heap} {L : Addr} : News g L h (allNews g h L) := fun p hp => let ⟨a, b, c⟩ := of_mem_allNews hp; ⟨c, a, b⟩
theorem news_at {g h : Heap} {L d : Addr} {o : Obj} (h1 : d ≠ L) (h2 : g.get? d = none) (h3 : h.get? d = some o) : News g L h ((d, o) :: rest g h L d) := fun p hp => by
  rcases List.mem_cons.mp hp with rfl | hp
  · exact ⟨h3, h1, h2⟩
  · exact news_all p (List.mem_filter.mp hp).1
/-- behind a rule that changed d alone: all else but the frame is kept -/
theorem kept_of_news {g h h' : Heap} {L d : Addr} {m : Str → Option Value} (k : ∀ b o, g.get? b = some o → h.get? b = some o) (F : Fr g L h' m) (N : News g L h' (rest g h L d)) :
    ∀ b o, b ≠ L → b ≠ d → h.get? b = some o → h'.get? b = some o := fun b o h1 h2 e => by
  cases q : g.get? b with
  | some u =>
    have := k b u q
    rw [e] at this; cases this
    exact F.keep b _ q
  | none => exact (N (b, o) (mem_rest h1 q e h2)).1
end L2

namespace L2
open PySem PySem.Spec PyProof.Rows

/-- the module's facts, over the base: the heap at the law's entry without what is tracked there -/
structure Mod (K : PySem.W.Frag) (mg : Str → Option Value) (base : Heap) : Prop where
  kin : K.In base
  glob : base.Ns mainGlobals mg
  blt : ∃ mb, base.Ns builtinsNs mb ∧ ∀ x : Str, x ≠ "__name__" → mb x = bootBuiltins x
  nolimit : base.NoLimit

/-- the context: a def's body (or a comprehension's block) running. base: fixed through the whole law; s₀, H₀: the entry; outer: the frames whose slots others may change (a def's callers); stack: all frames that run;
   ex: iterators that were made ahead of the entry and are walked here (a comprehension's); fn: the names whose cells were made at the entry (a def: all; a comprehension's block: its own); calm: not within an except suite; pn: pins that every state bears; xe: what is wanted of an exception that leaves the code -/
structure Cx where
  prog : Program
  w : World
  K : PySem.W.Frag
  mg : Str → Option Value
  base : Heap
  A : Around
  N : List Str
  s₀ : Shared
  H₀ : Hp
  env : Env
  outer : List Env
  stack : List Env
  ex : List Addr
  fn : Str → Bool
  calm : Bool
  pn : List (Addr × Obj)
  xe : Value → Shared → Prop
/-- the callers' frames -/
def frs (l : List Env) : List Addr := l.filterMap (·.frame)
abbrev Cx.fs (X : Cx) : List Addr := frs X.outer

def Vis (sc : Scope) (x : Str) : Prop := sc.names.lookup x = some .local ∨ sc.names.lookup x = some .cell ∨ sc.names.lookup x = some .free
def Loc (sc : Scope) (x : Str) : Prop := sc.names.lookup x = some .local ∨ sc.names.lookup x = some .cell
def Look (env : Env) (h : Heap) (m : Str → Option Value) (x : Str) (u : Value) : Prop :=
  (env.kindOf x = some .local ∧ m x = some u) ∨ ((env.kindOf x = some .cell ∨ env.kindOf x = some .free) ∧ ∃ c, env.cells.lookup x = some c ∧ h.IsCell c (some u))

structure Cx.Ok (X : Cx) : Prop where
  mod : Mod X.K X.mg X.base
  kind : X.env.scope.kind = .function
  glob : X.env.globals = mainGlobals
  blt : X.env.builtins = builtinsNs
  above : X.s₀.heap.objs.size ≤ X.env.locals
  inj : ∀ x y c, X.env.cells.lookup x = some c → X.env.cells.lookup y = some c → x = y
  has : ∀ x, (X.env.kindOf x = some .cell ∨ X.env.kindOf x = some .free) → ∃ c, X.env.cells.lookup x = some c
  cab : ∀ x c, X.fn x = true → X.env.cells.lookup x = some c → X.s₀.heap.objs.size ≤ c
  hd : X.calm = true → X.A.handled = none
  frames : X.A.frames = some X.stack
  stk : X.stack = X.outer ∨ (X.stack = X.env :: X.outer ∧ X.env.frame = some X.env.locals)
  exf : ∀ b ∈ X.ex, b ≠ X.env.locals ∧ ∀ x c, X.env.cells.lookup x = some c → c ≠ b
  bs : ∀ b o, X.base.get? b = some o → X.s₀.heap.get? b = some o ∧ X.H₀ b = none
  bsz : X.base.objs.size ≤ X.s₀.heap.objs.size
  noex : ∀ b o, X.base.get? b = some o → b ∉ X.ex
  exfs : ∀ b ∈ X.ex, b ∉ X.fs
  funs : X.s₀.heap.FunFrames X.base X.outer
  frf : ∀ b ∈ X.fs, X.H₀ b = none

structure Inv (X : Cx) (pins : List (Addr × Obj)) (σ : List (Option V)) (H : Hp) (s : Shared) : Prop where
  ok : X.Ok
  os : s.os = X.s₀.os
  bare : AllBare s.gens
  base : Un X.fs X.ex X.H₀ H X.s₀.heap s.heap
  loc : ∃ m, s.heap.Ns X.env.locals m ∧ ∀ (i : Nat) (x : Str) (v : V), X.N[i]? = some x → σ[i]? = some (some v) → Vis X.env.scope x → ∃ u, RelV v u ∧ Look X.env s.heap m x u
  cell : ∀ x c, X.env.cells.lookup x = some c → ∃ v, s.heap.IsCell c v
  free : H X.env.locals = none
  freeC : ∀ x c, X.env.cells.lookup x = some c → H c = none
  pin : ∀ p ∈ X.pn ++ pins, s.heap.get? p.1 = some p.2 ∧ H p.1 = none ∧ p.1 ≠ X.env.locals ∧ p.1 ∉ X.fs ∧ ∀ v, p.2.data ≠ .cell v
  hok : HOk X.prog X.w H s.heap
  len : σ.length = X.N.length

section
variable {X : Cx} {pins : List (Addr × Obj)} {σ : List (Option V)} {H H' : Hp} {s : Shared} {h' : Heap}

theorem Cx.Ok.nofr (ok : X.Ok) {b : Addr} {o : Obj} (e : X.base.get? b = some o) : b ∉ X.fs := fun hb => by
  have := (ok.funs.mem hb).1
  rw [e] at this; cases this
theorem Inv.bs (I : Inv X pins σ H s) : ∀ b o, X.base.get? b = some o → s.heap.get? b = some o ∧ H b = none := fun b o e =>
  ⟨I.base.keep b o (I.ok.bs b o e).1 (I.ok.bs b o e).2 (I.ok.nofr e) (I.ok.noex b o e), I.base.free b o (I.ok.bs b o e).1 (I.ok.bs b o e).2 (I.ok.noex b o e)⟩
theorem Inv.bk (I : Inv X pins σ H s) : ∀ b o, X.base.get? b = some o → s.heap.get? b = some o := fun b o e => (I.bs b o e).1
theorem Inv.mod (I : Inv X pins σ H s) : Mod X.K X.mg X.base := I.ok.mod
theorem Inv.kIn (I : Inv X pins σ H s) : X.K.In s.heap := I.ok.mod.kin.keeps I.bk
theorem Inv.nolimit (I : Inv X pins σ H s) : s.heap.NoLimit := I.ok.mod.nolimit.keeps I.bk
/-- the frame over the base: for OpenK's rules (K.In X.base is I.mod.kin) -/
theorem Inv.fr (I : Inv X pins σ H s) : ∃ m, Fr X.base X.env.locals s.heap m :=
  let ⟨m, hn, _⟩ := I.loc
  ⟨m, hn, I.bk, Nat.le_trans I.ok.bsz I.ok.above⟩
theorem Inv.lt (I : Inv X pins σ H s) : X.env.locals < s.heap.objs.size := let ⟨_, hn, _⟩ := I.loc; hn.lt
theorem Inv.sz (I : Inv X pins σ H s) : X.s₀.heap.objs.size ≤ s.heap.objs.size := Nat.le_trans I.ok.above (Nat.le_of_lt I.lt)
theorem Inv.nofs (I : Inv X pins σ H s) {a : Addr} (h : s.heap.objs.size ≤ a) : a ∉ X.fs := fun hb => by
  obtain ⟨_, o, ho, _⟩ := I.ok.funs.mem hb
  exact absurd (Nat.lt_of_lt_of_le (Heap.lt_size ho) (Nat.le_trans I.sz h)) (Nat.lt_irrefl _)
theorem Inv.cne (I : Inv X pins σ H s) : ∀ x c, X.env.cells.lookup x = some c → c ≠ X.env.locals := fun x c e z => by
  obtain ⟨v, o, ho, hd⟩ := I.cell x c e
  obtain ⟨m, ⟨o', es, ep, ho', hd', _⟩, _⟩ := I.loc
  rw [z, ho'] at ho; cases ho; rw [hd'] at hd; cases hd
theorem Inv.funs (I : Inv X pins σ H s) : s.heap.FunFrames X.base X.outer := by
  have all : ∀ (l : List Env), (∀ b ∈ frs l, b ∈ X.fs) → X.s₀.heap.FunFrames X.base l → s.heap.FunFrames X.base l := by
    intro l
    induction l with
    | nil => intro _ _; trivial
    | cons env r ih =>
      intro hs hl
      obtain ⟨hk, ⟨L, o, hf, hn, ho, hd⟩, hr⟩ := hl
      have hL : L ∈ X.fs := hs L (by unfold frs; rw [List.filterMap_cons, hf]; exact List.mem_cons_self)
      obtain ⟨sl, e⟩ := I.base.slot L o ho (I.ok.frf L hL) hL fun z => I.ok.exfs L z hL
      exact ⟨hk, ⟨L, _, hf, hn, e, hd⟩, ih (fun b hb => hs b (by unfold frs; rw [List.filterMap_cons, hf]; exact List.mem_cons_of_mem _ hb)) hr⟩
  exact all X.outer (fun _ hb => hb) I.ok.funs

/-- the frames that run, for a call -/
theorem Inv.stack (I : Inv X pins σ H s) : s.heap.FunFrames X.base X.stack := by
  rcases I.ok.stk with e | ⟨e, hf⟩
  · rw [e]; exact I.funs
  · rw [e]
    obtain ⟨m, hn, _⟩ := I.loc
    refine .cons (by rw [I.ok.kind]; decide) hf hn ?_ I.funs
    exact Heap.get?_none_of_le (Nat.le_trans I.ok.bsz I.ok.above)
theorem Inv.stkSub (I : Inv X pins σ H s) : ∀ b ∈ frs X.stack, b ∈ X.env.locals :: X.fs := fun b hb => by
  rcases I.ok.stk with e | ⟨e, hf⟩
  · rw [e] at hb; exact List.mem_cons_of_mem _ hb
  · rw [e] at hb
    unfold frs at hb
    rw [List.filterMap_cons, hf] at hb
    exact hb
theorem Inv.stkFree (I : Inv X pins σ H s) : ∀ b ∈ frs X.stack, H b = none := fun b hb => by
  rcases List.mem_cons.mp (I.stkSub b hb) with e | hb
  · rw [e]; exact I.free
  · obtain ⟨_, o, ho, _⟩ := I.ok.funs.mem hb
    exact I.base.free b o ho (I.ok.frf b hb) fun z => I.ok.exfs b z hb

/-- THE STEP: the untracked objects but the frame and the records at ch are kept (the callers' frames up to slots), the frame's map is kept, the new abstract heap is held -/
theorem Inv.step {g' : Array GenState} {t' : Nat} {d' : Drawn} {ch : List Addr} (I : Inv X pins σ H s)
    (hch : ∀ b ∈ ch, (b ∈ X.ex ∨ X.s₀.heap.objs.size ≤ b) ∧ b ≠ X.env.locals ∧ (∀ x c, X.env.cells.lookup x = some c → c ≠ b) ∧ ∀ p ∈ X.pn ++ pins, p.1 ≠ b)
    (keep : ∀ b o, b ≠ X.env.locals → b ∉ X.fs → b ∉ ch → s.heap.get? b = some o → H b = none → h'.get? b = some o)
    (slot : ∀ b o, b ≠ X.env.locals → b ∈ X.fs → b ∉ ch → s.heap.get? b = some o → H b = none → ∃ sl, h'.get? b = some { o with slots := sl }) (free : ∀ b o, b ∉ ch → s.heap.get? b = some o → H b = none → H' b = none)
    (there : ∀ b o, b ∉ ch → s.heap.get? b = some o → ∃ o', h'.get? b = some o')
    (tups : ∀ b xs, H b = some (.tup xs) → H' b = some (.tup xs)) (frzs : ∀ b o u, H b = some (.frz o u) → H' b = some (.frz o u)) (tbls : ∀ b ps, H b = some (.tbl ps) → ∃ more, H' b = some (.tbl (ps ++ more)))
    (ns : ∀ m, s.heap.Ns X.env.locals m → h'.Ns X.env.locals m) (hok : HOk X.prog X.w H' h') (hg : AllBare g') :
    Inv X pins σ H' { s with heap := h', gens := g', drawn := d', toks := t' } := by
  have neL : ∀ b o, X.s₀.heap.get? b = some o → b ≠ X.env.locals := fun b o e => Nat.ne_of_lt (Nat.lt_of_lt_of_le (Heap.lt_size e) I.ok.above)
  have neC : ∀ b o, X.s₀.heap.get? b = some o → b ∉ X.ex → b ∉ ch := fun b o e hx hb => by
    rcases (hch b hb).1 with z | z
    · exact hx z
    · exact absurd (Nat.lt_of_lt_of_le (Heap.lt_size e) z) (Nat.lt_irrefl _)
  have cellK : ∀ x c, X.env.cells.lookup x = some c → ∀ v, s.heap.IsCell c v → h'.IsCell c v := fun x c e v ⟨o, ho, hd⟩ => by
    have nch : c ∉ ch := fun z => (hch c z).2.2.1 x c e rfl
    by_cases hc : c ∈ X.fs
    · obtain ⟨sl, q⟩ := slot c o (I.cne x c e) hc nch ho (I.freeC x c e)
      exact ⟨_, q, hd⟩
    · exact ⟨o, keep c o (I.cne x c e) hc nch ho (I.freeC x c e), hd⟩
  refine ⟨I.ok, I.os, hg, ⟨fun b o e n hb hx => ?_, fun b o e n hb hx => ?_, fun b o e n hx => ?_, fun b o e hx => ?_, fun b xs e => tups b xs (I.base.tups b xs e), fun b o xs e => frzs b o xs (I.base.frzs b o xs e), fun b ps e => ?_⟩, ?_, fun x c e => ?_, ?_, fun x c e => ?_, fun p hp => ?_, hok, I.len⟩
  · exact keep b o (neL b o e) hb (neC b o e hx) (I.base.keep b o e n hb hx) (I.base.free b o e n hx)
  · obtain ⟨sl, e1⟩ := I.base.slot b o e n hb hx
    obtain ⟨sl', e2⟩ := slot b _ (neL b o e) hb (neC b o e hx) e1 (I.base.free b o e n hx)
    exact ⟨sl', e2⟩
  · obtain ⟨o', e1⟩ := I.base.there b o e hx
    exact free b o' (neC b o e hx) e1 (I.base.free b o e n hx)
  · obtain ⟨o', e1⟩ := I.base.there b o e hx
    exact there b o' (neC b o e hx) e1
  · obtain ⟨m1, e1⟩ := I.base.tbls b ps e
    obtain ⟨m2, e2⟩ := tbls b _ e1
    exact ⟨m1 ++ m2, by rw [e2, Array.append_assoc]⟩
  · obtain ⟨m, hn, hl⟩ := I.loc
    refine ⟨m, ns m hn, fun i x v e1 e2 e3 => ?_⟩
    obtain ⟨u, r, l⟩ := hl i x v e1 e2 e3
    refine ⟨u, r, ?_⟩
    rcases l with l | ⟨k, c, e, z⟩
    · exact .inl l
    · exact .inr ⟨k, c, e, cellK x c e _ z⟩
  · obtain ⟨v, z⟩ := I.cell x c e
    exact ⟨v, cellK x c e v z⟩
  · obtain ⟨m, ⟨o, _, _, ho, _⟩, _⟩ := I.loc
    exact free _ o (fun z => (hch _ z).2.1 rfl) ho I.free
  · obtain ⟨v, o, ho, hd⟩ := I.cell x c e
    exact free c o (fun z => (hch c z).2.2.1 x c e rfl) ho (I.freeC x c e)
  · obtain ⟨e, n, ne, nf, d⟩ := I.pin p hp
    have nch : p.1 ∉ ch := fun z => (hch p.1 z).2.2.2 p hp rfl
    exact ⟨keep p.1 p.2 ne nf nch e n, free p.1 p.2 nch e n, ne, nf, d⟩
/-- .. where the frame's own object is kept too -/
theorem Inv.un {t' : Nat} (I : Inv X pins σ H s) (u : Un X.fs [] H H' s.heap h') (hok : HOk X.prog X.w H' h') : Inv X pins σ H' { s with heap := h', toks := t' } := by
  obtain ⟨m, ⟨o, es, ep, ho, r⟩, _⟩ := id I.loc
  obtain ⟨sl, hL⟩ := u.any ho I.free (by simp)
  exact I.step (g' := s.gens) (d' := s.drawn) (ch := []) (fun _ z => nomatch z) (fun b o _ hb _ e n => u.keep b o e n hb (by simp)) (fun b o _ hb _ e n => u.slot b o e n hb (by simp)) (fun b o _ e n => u.free b o e n (by simp)) (fun b o _ e => u.there b o e (by simp)) u.tups u.frzs u.tbls (fun m' hm => by
    obtain ⟨o', es', ep', ho', r'⟩ := hm
    rw [ho] at ho'; cases ho'
    exact ⟨_, es', ep', hL, r'⟩) hok I.bare
/-- behind a call (or a comprehension's block): the slots of this frame may have changed too, the records at ch may have turned -/
theorem Inv.call {g' : Array GenState} {t' : Nat} {d' : Drawn} {ch : List Addr} (I : Inv X pins σ H s) (u : Un (frs X.stack) ch H H' s.heap h') (hok : HOk X.prog X.w H' h') (hg : AllBare g')
    (hch : ∀ b ∈ ch, (b ∈ X.ex ∨ X.s₀.heap.objs.size ≤ b) ∧ b ≠ X.env.locals ∧ (∀ x c, X.env.cells.lookup x = some c → c ≠ b) ∧ ∀ p ∈ X.pn ++ pins, p.1 ≠ b) :
    Inv X pins σ H' { s with heap := h', gens := g', drawn := d', toks := t' } := by
  obtain ⟨m, ⟨o, es, ep, ho, r⟩, _⟩ := id I.loc
  obtain ⟨sl, hL⟩ := u.any ho I.free fun z => (hch _ z).2.1 rfl
  exact I.step (ch := ch) hch (fun b o hL hb hc e n => u.keep b o e n (fun z => (List.mem_cons.mp (I.stkSub b z)).elim hL hb) hc) (fun b o _ _ hc e n => u.any e n hc) (fun b o hc e n => u.free b o e n hc) (fun b o hc e => u.there b o e hc) u.tups u.frzs u.tbls (fun m' hm => by
    obtain ⟨o', es', ep', ho', r'⟩ := hm
    rw [ho] at ho'; cases ho'
    exact ⟨_, es', ep', hL, r'⟩) hok hg
/-- an untracked record of ours (an iterator) has turned -/
theorem Inv.turned {t' : Nat} {it : Addr} (I : Inv X pins σ H s) (k : ∀ b o, b ≠ it → s.heap.get? b = some o → h'.get? b = some o) (hn : H it = none) (hL : it ≠ X.env.locals)
    (h1 : it ∈ X.ex ∨ X.s₀.heap.objs.size ≤ it) (h2 : ∀ x c, X.env.cells.lookup x = some c → c ≠ it) (h3 : ∀ p ∈ X.pn ++ pins, p.1 ≠ it) : Inv X pins σ H { s with heap := h', toks := t' } := by
  have nit : ∀ b u, H b = some u → b ≠ it := fun b u e z => by rw [z, hn] at e; cases e
  refine I.step (g' := s.gens) (d' := s.drawn) (ch := [it]) (fun b hb => ?_) (fun b o _ _ hc e _ => k b o (fun z => hc (by simp [z])) e) (fun b o _ _ hc e _ => ⟨o.slots, k b o (fun z => hc (by simp [z])) e⟩) (fun _ _ _ _ n => n)
    (fun b o hc e => ⟨o, k b o (fun z => hc (by simp [z])) e⟩) (fun _ _ e => e) (fun _ _ _ e => e) (fun b ps e => ⟨#[], by rw [e]; simp⟩) (fun m hm => ?_) (fun b u e => ?_) I.bare
  · have e : b = it := by simpa using hb
    subst e
    exact ⟨h1, hL, h2, h3⟩
  · obtain ⟨o, es, ep, ho, r⟩ := hm
    exact ⟨o, es, ep, k _ o (Ne.symm hL) ho, r⟩
  · refine (I.hok b u e).stay (fun c v hc q => k c v ?_ q) (fun _ q => q) fun _ _ q => q
    rcases hc with z | z
    · rw [z]; exact nit b u e
    · exact nit c _ z
theorem Inv.tok (I : Inv X pins σ H s) (t : Nat) : Inv X pins σ H { s with toks := t } := I.un (h' := s.heap) (t' := t) Un.refl I.hok
/-- all objects kept -/
theorem Inv.kept {t' : Nat} (I : Inv X pins σ H s) (k : ∀ b u, s.heap.get? b = some u → h'.get? b = some u) : Inv X pins σ H { s with heap := h', toks := t' } := I.un (Un.kept k) (I.hok.kept k)
/-- a new object laid and tracked -/
theorem Inv.laid {a : Addr} {o : HO} {t' : Nat} (I : Inv X pins σ H s) (k : ∀ b u, s.heap.get? b = some u → h'.get? b = some u) (hp : s.heap.objs.size ≤ a) (new : ObjOk X.prog X.w (upd H a o) h' a o) :
    Inv X pins σ (upd H a o) { s with heap := h', toks := t' } := I.un (Un.laid k hp (I.hok.fresh hp)) (I.hok.laid k hp new)
/-- an object written -/
theorem Inv.write {x e : Addr} {o : HO} {t' : Nat} (I : Inv X pins σ H s) (mu : Mut (H x)) (he : e = x ∨ H e = some (.own x)) (k : ∀ b u, b ≠ e → s.heap.get? b = some u → h'.get? b = some u) (heo : ∃ u, h'.get? e = some u)
    (new : ObjOk X.prog X.w (upd H x o) h' x o) : Inv X pins σ (upd H x o) { s with heap := h', toks := t' } := I.un (Un.write mu he k heo) (I.hok.write mu he k heo new)
/-- forgetting slots, pins -/
theorem Inv.weak {σ' : List (Option V)} (I : Inv X pins σ H s) (hl : σ'.length = σ.length) (w : ∀ (i : Nat) v, σ'[i]? = some (some v) → σ[i]? = some (some v)) : Inv X pins σ' H s :=
  ⟨I.ok, I.os, I.bare, I.base, let ⟨m, hn, hl'⟩ := I.loc; ⟨m, hn, fun i x v e1 e2 e3 => hl' i x v e1 (w i v e2) e3⟩, I.cell, I.free, I.freeC, I.pin, I.hok, hl.trans I.len⟩
theorem Inv.pins_of {pins' : List (Addr × Obj)} (I : Inv X pins σ H s) (h : ∀ p ∈ pins', s.heap.get? p.1 = some p.2 ∧ H p.1 = none ∧ p.1 ≠ X.env.locals ∧ p.1 ∉ X.fs ∧ ∀ v, p.2.data ≠ .cell v) : Inv X pins' σ H s :=
  ⟨I.ok, I.os, I.bare, I.base, I.loc, I.cell, I.free, I.freeC, fun p hp => (List.mem_append.mp hp).elim (fun z => I.pin p (List.mem_append_left _ z)) (h p), I.hok, I.len⟩

theorem nodup_ix {N : List Str} (hN : N.Nodup) {i j : Nat} {x : Str} (a : N[i]? = some x) (b : N[j]? = some x) : i = j := by
  obtain ⟨h1, e1⟩ := List.getElem?_eq_some_iff.mp a
  obtain ⟨h2, e2⟩ := List.getElem?_eq_some_iff.mp b
  exact (List.getElem_inj hN).mp (e1.trans e2.symm)

/-- a name is stored; what changed -/
theorem store_ok2 {M : Model} {A : Around} {E : Value → Shared → Prop} {i : Nat} {x : Str} {v : V} {u : Value} {Q : Unit → Shared → Prop} (I : Inv X pins σ H s) (hN : X.N.Nodup) (hi : X.N[i]? = some x) (hx : Loc X.env.scope x) (r : RelV v u)
    (h : ∀ s', Inv X pins (σ.set i (some v)) H s' → (∃ a, Heap.SameBut a s.heap s'.heap ∧ (a = X.env.locals ∨ X.env.cells.lookup x = some a)) → Q () s') (hf : X.fn x = true ∨ X.env.scope.names.lookup x = some .local := by first | exact .inl rfl | exact .inr rfl | assumption) : wpAny M A (storeName X.env x u) Q E s := by
  obtain ⟨m, hn, hl⟩ := id I.loc
  have hcls : (X.env.scope.kind == .class || (X.env.scope.kind == .module && X.env.locals != X.env.globals)) = false := by rw [I.ok.kind]; rfl
  have hiσ : i < σ.length := by rw [I.len]; exact (List.getElem?_eq_some_iff.mp hi).1
  have cne := I.cne
  have tracked : ∀ {a : Addr} {h' : Heap}, (∃ o, s.heap.get? a = some o ∧ H a = none) → Heap.SameBut a s.heap h' → HOk X.prog X.w H h' := fun {a h'} ha hs b ob e => by
    obtain ⟨_, _, hfree⟩ := ha
    refine (I.hok b ob e).stay (fun c w' hc q => (hs.2 c ?_).trans q) (fun _ q => q) fun _ _ q => q
    rintro rfl
    rcases hc with rfl | hc
    · rw [hfree] at e; cases e
    · rw [hfree] at hc; cases hc
  rcases hx with hk | hk
  · refine wpAny_storeName_local hk hn (fun h' hn' hs => ?_) hcls
    obtain ⟨oL, _, _, hoL, _⟩ := id hn
    refine h _ ⟨I.ok, I.os, I.bare, ⟨fun b o e n hb hx => ?_, fun b o e n hb hx => ?_, I.base.free, fun b o e hx => ?_, I.base.tups, I.base.frzs, I.base.tbls⟩, ⟨_, hn', fun j y v' e1 e2 e3 => ?_⟩, fun y c e => ?_, I.free, I.freeC, fun p hp => ?_, tracked ⟨oL, hoL, I.free⟩ hs, by simpa using I.len⟩ ⟨_, hs, .inl rfl⟩
    · exact (hs.2 b (Nat.ne_of_lt (Nat.lt_of_lt_of_le (Heap.lt_size e) I.ok.above))).trans (I.base.keep b o e n hb hx)
    · obtain ⟨sl, e1⟩ := I.base.slot b o e n hb hx
      exact ⟨sl, (hs.2 b (Nat.ne_of_lt (Nat.lt_of_lt_of_le (Heap.lt_size e) I.ok.above))).trans e1⟩
    · obtain ⟨o', e1⟩ := I.base.there b o e hx
      exact ⟨o', (hs.2 b (Nat.ne_of_lt (Nat.lt_of_lt_of_le (Heap.lt_size e) I.ok.above))).trans e1⟩
    · by_cases hj : j = i
      · subst hj
        rw [hi] at e1; cases e1
        rw [List.getElem?_set_self hiσ] at e2
        cases e2
        exact ⟨u, r, .inl ⟨hk, by simp⟩⟩
      · rw [List.getElem?_set_ne (Ne.symm hj)] at e2
        obtain ⟨u', r', q⟩ := hl j y v' e1 e2 e3
        refine ⟨u', r', ?_⟩
        rcases q with ⟨k, e⟩ | ⟨k, c, e, z⟩
        · refine .inl ⟨k, ?_⟩
          have : y ≠ x := fun e => hj (nodup_ix hN e1 (e ▸ hi))
          simp [this, e]
        · exact .inr ⟨k, c, e, z.sameBut hs (cne y c e)⟩
    · obtain ⟨w', z⟩ := I.cell y c e
      exact ⟨w', z.sameBut hs (cne y c e)⟩
    · obtain ⟨e, n, ne, nf, d⟩ := I.pin p hp
      exact ⟨(hs.2 p.1 ne).trans e, n, ne, nf, d⟩
  · have hfn : X.fn x = true := by
      rcases hf with z | z
      · exact z
      · rw [z] at hk; cases hk
    obtain ⟨c, hc⟩ := I.ok.has x (.inl hk)
    obtain ⟨w', z⟩ := I.cell x c hc
    refine wpAny_storeName_cell I.ok.kind hk hc z (fun h' hc' hs => ?_)
    obtain ⟨oc, hoc, hocd⟩ := id z
    refine h { s with heap := h' } ⟨I.ok, I.os, I.bare, ⟨fun b o e n hb hx => ?_, fun b o e n hb hx => ?_, I.base.free, fun b o e hx => ?_, I.base.tups, I.base.frzs, I.base.tbls⟩, ⟨m, hn.sameBut hs (Ne.symm (cne x c hc)), fun j y v' e1 e2 e3 => ?_⟩, fun y c' e => ?_, I.free, I.freeC, fun p hp => ?_, tracked ⟨oc, hoc, I.freeC x c hc⟩ hs, by simpa using I.len⟩ ⟨c, hs, .inr hc⟩
    · exact (hs.2 b (Nat.ne_of_lt (Nat.lt_of_lt_of_le (Heap.lt_size e) (I.ok.cab x c hfn hc)))).trans (I.base.keep b o e n hb hx)
    · obtain ⟨sl, e1⟩ := I.base.slot b o e n hb hx
      exact ⟨sl, (hs.2 b (Nat.ne_of_lt (Nat.lt_of_lt_of_le (Heap.lt_size e) (I.ok.cab x c hfn hc)))).trans e1⟩
    · obtain ⟨o', e1⟩ := I.base.there b o e hx
      exact ⟨o', (hs.2 b (Nat.ne_of_lt (Nat.lt_of_lt_of_le (Heap.lt_size e) (I.ok.cab x c hfn hc)))).trans e1⟩
    · by_cases hj : j = i
      · subst hj
        rw [hi] at e1; cases e1
        rw [List.getElem?_set_self hiσ] at e2
        cases e2
        exact ⟨u, r, .inr ⟨.inl hk, c, hc, hc'⟩⟩
      · rw [List.getElem?_set_ne (Ne.symm hj)] at e2
        obtain ⟨u', r', q⟩ := hl j y v' e1 e2 e3
        refine ⟨u', r', ?_⟩
        rcases q with q | ⟨k, c', e, z'⟩
        · exact .inl q
        · refine .inr ⟨k, c', e, z'.sameBut hs ?_⟩
          rintro rfl
          exact hj (nodup_ix hN e1 (I.ok.inj _ _ _ e hc ▸ hi))
    · by_cases hcc : c' = c
      · subst hcc; exact ⟨_, hc'⟩
      · obtain ⟨w2, z2⟩ := I.cell y c' e
        exact ⟨w2, z2.sameBut hs hcc⟩
    · obtain ⟨e, n, ne, nf, d⟩ := I.pin p hp
      refine ⟨(hs.2 p.1 ?_).trans e, n, ne, nf, d⟩
      intro q
      rw [q, hoc] at e
      have q' : oc = p.2 := Option.some.inj e
      exact d w' (by rw [← q']; exact hocd)
theorem store_ok {M : Model} {A : Around} {E : Value → Shared → Prop} {i : Nat} {x : Str} {v : V} {u : Value} {Q : Unit → Shared → Prop} (I : Inv X pins σ H s) (hN : X.N.Nodup) (hi : X.N[i]? = some x) (hx : Loc X.env.scope x) (r : RelV v u)
    (h : ∀ s', Inv X pins (σ.set i (some v)) H s' → Q () s') (hf : X.fn x = true ∨ X.env.scope.names.lookup x = some .local := by first | exact .inl rfl | exact .inr rfl | assumption) : wpAny M A (storeName X.env x u) Q E s :=
  store_ok2 I hN hi hx r (fun s' I' _ => h s' I') hf
/-- behind a call or a block, the state as it is -/
theorem Inv.call' {s' : Shared} {ch : List Addr} (I : Inv X pins σ H s) (ho : s'.os = s.os) (u : Un (frs X.stack) ch H H' s.heap s'.heap) (hok : HOk X.prog X.w H' s'.heap) (hg : AllBare s'.gens)
    (hch : ∀ b ∈ ch, (b ∈ X.ex ∨ X.s₀.heap.objs.size ≤ b) ∧ b ≠ X.env.locals ∧ (∀ x c, X.env.cells.lookup x = some c → c ≠ b) ∧ ∀ p ∈ X.pn ++ pins, p.1 ≠ b) : Inv X pins σ H' s' := by
  obtain ⟨h', g', d', t', o'⟩ := s'
  have e : o' = s.os := ho
  subst e
  exact I.call (g' := g') (t' := t') (d' := d') u hok hg hch
end

/-! ### the judgements -/
/-- an exception: its class, its own dict's address (where it has one), the abstract heap behind it -/
abbrev XK := Value → Option Addr → Hp → Prop
abbrev St := List (Option V)
abbrev VK := V → Hp → Prop
/-- an expression's reading; a test's; an argument list's -/
abbrev TE := St → Hp → VK → Prop
abbrev TT := St → Hp → (Bool → Hp → Prop) → Prop
abbrev TA := St → Hp → (List V → Hp → Prop) → Prop
/-- what is wanted behind a statement -/
structure Ends where
  nx : St → Hp → Prop
  rt : VK
  bk : St → Hp → Prop := fun _ _ => False
  ct : St → Hp → Prop := fun _ _ => False
abbrev TS := Ends → St → Hp → Prop

def EP (X : Cx) (pins : List (Addr × Obj)) (σ : St) (Q : VK) (u : Value) (s' : Shared) : Prop := ∃ v H', Inv X pins σ H' s' ∧ RelV v u ∧ Q v H'
def TP (X : Cx) (pins : List (Addr × Obj)) (σ : St) (Q : Bool → Hp → Prop) (b : Bool) (s' : Shared) : Prop := ∃ H', Inv X pins σ H' s' ∧ Q b H'
def AP (X : Cx) (pins : List (Addr × Obj)) (σ : St) (Q : List V → Hp → Prop) (us : List Value) (s' : Shared) : Prop := ∃ vs H', Inv X pins σ H' s' ∧ Vals vs us ∧ Q vs H'
def SP (X : Cx) (pins : List (Addr × Obj)) (D : Ends) (f : Flow) (s' : Shared) : Prop :=
  match f with
  | .next => ∃ σ' H', Inv X pins σ' H' s' ∧ D.nx σ' H'
  | .brk => ∃ σ' H', Inv X pins σ' H' s' ∧ D.bk σ' H'
  | .cont => ∃ σ' H', Inv X pins σ' H' s' ∧ D.ct σ' H'
  | .ret u => ∃ v σ' H', Inv X pins σ' H' s' ∧ RelV v u ∧ D.rt v H'

def PE (X : Cx) (e : Expr) (t : TE) : Prop :=
  ∀ (pins : List (Addr × Obj)) (s : Shared) (σ : St) (H : Hp) (Q : VK), Inv X pins σ H s → t σ H Q → wpAny (model X.prog X.w) X.A (eval e X.env) (EP X pins σ Q) X.xe s
def PT (X : Cx) (e : Expr) (t : TT) : Prop :=
  ∀ (pins : List (Addr × Obj)) (s : Shared) (σ : St) (H : Hp) (Q : Bool → Hp → Prop), Inv X pins σ H s → t σ H Q → wpAny (model X.prog X.w) X.A (isTrue e X.env (eval e X.env)) (TP X pins σ Q) X.xe s
/-- a test whatever its 'whole' is (and, or) -/
def PW (X : Cx) (e : Expr) (t : TT) : Prop :=
  ∀ (whole : Sem Value) (pins : List (Addr × Obj)) (s : Shared) (σ : St) (H : Hp) (Q : Bool → Hp → Prop), Inv X pins σ H s → t σ H Q → wpAny (model X.prog X.w) X.A (isTrue e X.env whole) (TP X pins σ Q) X.xe s
theorem PW.pt {X : Cx} {e : Expr} {t : TT} (h : PW X e t) : PT X e t := h _
/-- an argument list (no star), from the left -/
def PA (X : Cx) (es : List Expr) (t : TA) : Prop :=
  ∀ (pos : Pos) (pins : List (Addr × Obj)) (s : Shared) (σ : St) (H : Hp) (Q : List V → Hp → Prop), Inv X pins σ H s → t σ H Q → wpAny (model X.prog X.w) X.A (spliced (backTo pos (starEach es X.env))) (AP X pins σ Q) X.xe s
def PS (X : Cx) (st : Stmt) (t : TS) : Prop :=
  ∀ (pins : List (Addr × Obj)) (s : Shared) (σ : St) (H : Hp) (D : Ends), Inv X pins σ H s → t D σ H → wpAny (model X.prog X.w) X.A (exec st X.env) (SP X pins D) X.xe s
def PSs (X : Cx) (st : List Stmt) (t : TS) : Prop :=
  ∀ (pins : List (Addr × Obj)) (s : Shared) (σ : St) (H : Hp) (D : Ends), Inv X pins σ H s → t D σ H → wpAny (model X.prog X.w) X.A (execs st X.env) (SP X pins D) X.xe s
/-- weaken the end -/
theorem thn {α : Type} {t : Sem α} {Q Q' : α → Shared → Prop} {M : Model} {A : Around} {E : Value → Shared → Prop} {s : Shared} (h : wpAny M A t Q E s) (hQ : ∀ a s, Q a s → Q' a s) : wpAny M A t Q' E s := wpAny_mono h hQ fun _ _ x => x
end L2

namespace L2
open PySem PySem.Spec PyProof.Rows
section
variable {X : Cx}

/-- two expressions in a row -/
theorem bin {a b : Expr} {ta tb : TE} (ha : PE X a ta) (hb : PE X b tb) {pins : List (Addr × Obj)} {s : Shared} {σ : St} {H : Hp} {R : V → V → Hp → Prop} (I : Inv X pins σ H s) (h : ta σ H fun x H1 => tb σ H1 fun y H2 => R x y H2)
    {α : Type} {Q : α → Shared → Prop} {f : Value → Value → Sem α}
    (hf : ∀ v u s2 x y H2, Inv X pins σ H2 s2 → RelV x v → RelV y u → R x y H2 → wpAny (model X.prog X.w) X.A (f v u) Q X.xe s2) :
    wpAny (model X.prog X.w) X.A (eval a X.env) (fun v s₁ => wpAny (model X.prog X.w) X.A (eval b X.env) (fun u s₂ => wpAny (model X.prog X.w) X.A (f v u) Q X.xe s₂) X.xe s₁) X.xe s := by
  refine thn (ha pins s σ H _ I h) fun v s1 ⟨x, H1, I1, r1, q1⟩ => ?_
  refine thn (hb pins s1 σ H1 _ I1 q1) fun u s2 ⟨y, H2, I2, r2, q2⟩ => ?_
  exact hf v u s2 x y H2 I2 r1 r2 q2

/-! ### names and constants -/
def tVar (i : Nat) : TE := fun σ H Q => ∃ v, σ[i]? = some (some v) ∧ Q v H
def tC (v : V) : TE := fun _ H Q => Q v H
theorem pe_var {i : Nat} {x : Str} {pos : Pos} (hN : X.N[i]? = some x) (hv : Vis X.env.scope x) (hd : (x == ("__debug__" : Str)) = false := by decide) (hcd : (x == ("__classdict__" : Str)) = false := by decide) : PE X (.Name x pos) (tVar i) := by
  intro pins s σ H Q I h
  obtain ⟨v, e, h⟩ := h
  obtain ⟨m, hn, hl⟩ := I.loc
  obtain ⟨u, r, l⟩ := hl i x v hN e hv
  have fin : EP X pins σ Q u s := ⟨v, H, I, r, h⟩
  rcases l with ⟨hk, hm⟩ | ⟨hk, c, hc, hcell⟩
  · exact wpAny_Name (wpAny_loadName_local I.ok.kind hk hn hm fin) hd
  · rcases hk with hk | hk
    · exact wpAny_Name (wpAny_loadName_cell I.ok.kind hk hc hcell fin) hd
    · exact wpAny_Name (wpAny_loadName_free I.ok.kind hk hc hcell fin hcd) hd
theorem pe_int {i j pos} : PE X (.Constant (.int i) j pos) (tC (.int i)) := fun _ _ _ H _ I h => wpAny_Constant_int ⟨.int i, H, I.tok _, ⟨_, rfl⟩, h⟩
theorem pe_bl {b j pos} : PE X (.Constant (.bool b) j pos) (tC (.bl b)) := fun _ _ _ H _ I h => Constant_bool ⟨.bl b, H, I, rfl, h⟩
theorem pe_non {j pos} : PE X (.Constant .none j pos) (tC .non) := fun _ _ _ H _ I h => Constant_none ⟨.non, H, I, rfl, h⟩
theorem pe_str {x j pos} : PE X (.Constant (.str x) j pos) (tC (.str x)) := fun _ _ _ H _ I h => Calls.Constant_str ⟨.str x, H, I.tok _, ⟨_, rfl⟩, h⟩

/-- a global name of the def -/
def Gl (X : Cx) (x : Str) : Prop := X.env.kindOf x = some .globalImplicit
theorem ld_glob {E : Value → Shared → Prop} {pins : List (Addr × Obj)} {s : Shared} {σ : St} {H : Hp} {x : Str} {u : Value} {pos : Pos} {Q : Value → Shared → Prop} (I : Inv X pins σ H s) (hg : Gl X x) (hm : X.mg x = some u) (h : Q u s)
    (hd : (x == ("__debug__" : Str)) = false := by decide) : wpAny (model X.prog X.w) X.A (eval (.Name x pos) X.env) Q E s :=
  Calls.Name_function_global I.ok.kind hg (Calls.loadGlobal_global (by rw [I.ok.glob]; exact I.mod.glob.keeps I.bk) hm h) hd
theorem ld_blt {E : Value → Shared → Prop} {pins : List (Addr × Obj)} {s : Shared} {σ : St} {H : Hp} {x : Str} {u : Value} {pos : Pos} {Q : Value → Shared → Prop} (I : Inv X pins σ H s) (hg : Gl X x) (hm : X.mg x = none) (hv : bootBuiltins x = some u) (h : Q u s)
    (hn : x ≠ "__name__" := by decide) (hd : (x == ("__debug__" : Str)) = false := by decide) : wpAny (model X.prog X.w) X.A (eval (.Name x pos) X.env) Q E s := by
  obtain ⟨mb, h1, h2⟩ := I.mod.blt
  exact Calls.Name_function_global I.ok.kind hg (Calls.loadGlobal_builtin (by rw [I.ok.glob]; exact I.mod.glob.keeps I.bk) hm (by rw [I.ok.blt]; exact h1.keeps I.bk) ((h2 x hn).trans hv) h) hd
/-- a module's constant, a class, a function, as a value -/
theorem pe_glob {x : Str} {v : V} {u : Value} {pos : Pos} (hg : Gl X x) (hm : X.mg x = some u) (r : RelV v u) (hd : (x == ("__debug__" : Str)) = false := by decide) : PE X (.Name x pos) (tC v) :=
  fun _ _ _ H _ I h => ld_glob I hg hm ⟨v, H, I, r, h⟩ hd
theorem pe_bltn {x : Str} {v : V} {u : Value} {pos : Pos} (hg : Gl X x) (hm : X.mg x = none) (hv : bootBuiltins x = some u) (r : RelV v u) (hn : x ≠ "__name__" := by decide) (hd : (x == ("__debug__" : Str)) = false := by decide) : PE X (.Name x pos) (tC v) :=
  fun _ _ _ H _ I h => ld_blt I hg hm hv ⟨v, H, I, r, h⟩ hn hd

/-! ### arithmetic -/
/-- two ints -/
def t2I (ta tb : TE) (k : Int → Int → Hp → Prop) : St → Hp → Prop := fun σ H => ta σ H fun x H1 => tb σ H1 fun y H2 => ∃ i j, x = .int i ∧ y = .int j ∧ k i j H2
def tAdd (ta tb : TE) : TE := fun σ H Q => t2I ta tb (fun i j H2 => Q (.int (i + j)) H2) σ H
def tSub (ta tb : TE) : TE := fun σ H Q => t2I ta tb (fun i j H2 => Q (.int (i - j)) H2) σ H
/-- the left factor below 2^64 -/
def tMul (ta tb : TE) : TE := fun σ H Q => t2I ta tb (fun i j H2 => (-(2 ^ 64) < i ∧ i < 2 ^ 64) ∧ Q (.int (i * j)) H2) σ H
variable {a b : Expr} {ta tb : TE} {pos : Pos}
theorem pe_add (ha : PE X a ta) (hb : PE X b tb) : PE X (.BinOp a .Add b pos) (tAdd ta tb) := by
  intro pins s σ H Q I h
  refine wpAny_BinOp (bin ha hb I h fun v u s2 x y H2 I2 rx ry q => ?_)
  obtain ⟨i, j, rfl, rfl, q⟩ := q
  obtain ⟨t, rfl⟩ := rx
  obtain ⟨t', rfl⟩ := ry
  exact add_int ⟨.int _, H2, I2.tok _, ⟨_, rfl⟩, q⟩
theorem pe_sub (ha : PE X a ta) (hb : PE X b tb) : PE X (.BinOp a .Sub b pos) (tSub ta tb) := by
  intro pins s σ H Q I h
  refine wpAny_BinOp (bin ha hb I h fun v u s2 x y H2 I2 rx ry q => ?_)
  obtain ⟨i, j, rfl, rfl, q⟩ := q
  obtain ⟨t, rfl⟩ := rx
  obtain ⟨t', rfl⟩ := ry
  exact sub_int ⟨.int _, H2, I2.tok _, ⟨_, rfl⟩, q⟩
theorem pe_mul (ha : PE X a ta) (hb : PE X b tb) : PE X (.BinOp a .Mult b pos) (tMul ta tb) := by
  intro pins s σ H Q I h
  refine wpAny_BinOp (bin ha hb I h fun v u s2 x y H2 I2 rx ry q => ?_)
  obtain ⟨i, j, rfl, rfl, ⟨q1, q2⟩, q⟩ := q
  obtain ⟨t, rfl⟩ := rx
  obtain ⟨t', rfl⟩ := ry
  exact mul_int ⟨.int _, H2, I2.tok _, ⟨_, rfl⟩, q⟩ (.of_left (intBits_le_64 q1 q2))

/-! ### comparisons -/
def PC (X : Cx) (op : CmpOp) (a b : Expr) (t : TE) : Prop :=
  ∀ (pins : List (Addr × Obj)) (s : Shared) (σ : St) (H : Hp) (Q : VK), Inv X pins σ H s → t σ H Q →
    wpAny (model X.prog X.w) X.A (eval a X.env) (fun v s₁ => wpAny (model X.prog X.w) X.A (eval b X.env) (fun u s₂ => wpAny (model X.prog X.w) X.A (compareOp op v u) (EP X pins σ Q) X.xe s₂) X.xe s₁) X.xe s
theorem nobehind (b : Expr) {op : CmpOp} (h : op ≠ .In) (h2 : op ≠ .NotIn) : behindInMarks op b = false := by
  have e1 : (op == CmpOp.In) = false := by cases op <;> first | rfl | exact absurd rfl h
  have e2 : (op == CmpOp.NotIn) = false := by cases op <;> first | rfl | exact absurd rfl h2
  cases b <;> simp [behindInMarks, e1, e2]
def tCmp (p : Int → Int → Bool) (ta tb : TE) : TE := fun σ H Q => t2I ta tb (fun i j H2 => Q (.bl (p i j)) H2) σ H
abbrev tLt : TE → TE → TE := tCmp fun i j => decide (i < j)
abbrev tLe : TE → TE → TE := tCmp fun i j => decide (i ≤ j)
abbrev tGt : TE → TE → TE := tCmp fun i j => decide (j < i)
abbrev tGe : TE → TE → TE := tCmp fun i j => decide (j ≤ i)
abbrev tEqI : TE → TE → TE := tCmp fun i j => decide (i = j)
abbrev tNeI : TE → TE → TE := tCmp fun i j => !decide (i = j)
/-- a comparison of two ints, by its rule -/
theorem pc_int {op : CmpOp} {p : Int → Int → Bool} (ha : PE X a ta) (hb : PE X b tb)
    (rule : ∀ (i j : Int) (t u : Tok) (Q : Value → Shared → Prop) (s : Shared), Q (.bool (p i j)) s → wpAny (model X.prog X.w) X.A (compareOp op (.int i t) (.int j u)) Q X.xe s) : PC X op a b (tCmp p ta tb) := by
  intro pins s σ H Q I h
  refine bin ha hb I h fun v u s2 x y H2 I2 rx ry q => ?_
  obtain ⟨i, j, rfl, rfl, q⟩ := q
  obtain ⟨t, rfl⟩ := rx
  obtain ⟨t', rfl⟩ := ry
  exact rule i j t t' _ s2 ⟨.bl _, H2, I2, rfl, q⟩
theorem pc_lt (ha : PE X a ta) (hb : PE X b tb) : PC X .Lt a b (tLt ta tb) := pc_int ha hb fun _ _ _ _ _ _ h => lt_int h
theorem pc_le (ha : PE X a ta) (hb : PE X b tb) : PC X .LtE a b (tLe ta tb) := pc_int ha hb fun _ _ _ _ _ _ h => le_int h
theorem pc_gt (ha : PE X a ta) (hb : PE X b tb) : PC X .Gt a b (tGt ta tb) := pc_int ha hb fun _ _ _ _ _ _ h => gt_int h
theorem pc_ge (ha : PE X a ta) (hb : PE X b tb) : PC X .GtE a b (tGe ta tb) := pc_int ha hb fun _ _ _ _ _ _ h => ge_int h
theorem pc_eqI (ha : PE X a ta) (hb : PE X b tb) : PC X .Eq a b (tEqI ta tb) := pc_int ha hb fun _ _ _ _ _ _ h => eq_int (by rw [Bool.beq_eq_decide_eq]; exact h)
theorem pc_neI (ha : PE X a ta) (hb : PE X b tb) : PC X .NotEq a b (tNeI ta tb) := pc_int ha hb fun _ _ _ _ _ _ h => ne_int (by rw [bne, Bool.beq_eq_decide_eq]; exact h)
/-- is None -/
def tIsN (ta : TE) : TE := fun σ H Q => ta σ H fun x H1 => Q (.bl (decide (x = .non))) H1
def tNotN (ta : TE) : TE := fun σ H Q => ta σ H fun x H1 => Q (.bl (!decide (x = .non))) H1
theorem RelV.none_iff {x : V} {v : Value} (r : RelV x v) : (v == Value.none) = decide (x = .non) := by
  cases x with
  | non => cases r; rfl
  | bl _ => cases r; rfl
  | int _ => obtain ⟨t, rfl⟩ := r; rfl
  | str _ => obtain ⟨t, rfl⟩ := r; rfl
  | byt _ => obtain ⟨t, rfl⟩ := r; rfl
  | flt _ => obtain ⟨t, rfl⟩ := r; rfl
  | ref _ => cases r; rfl
  | ty _ => cases r; rfl
theorem pc_isN {j pos'} (ha : PE X a ta) : PC X .Is a (.Constant .none j pos') (tIsN ta) := by
  intro pins s σ H Q I h
  refine thn (ha pins s σ H _ I h) fun v s1 ⟨x, H1, I1, r1, q1⟩ => ?_
  exact Constant_none (is_none_gen ⟨.bl _, H1, I1, by rw [r1.none_iff]; rfl, q1⟩)
theorem pc_notN {j pos'} (ha : PE X a ta) : PC X .IsNot a (.Constant .none j pos') (tNotN ta) := by
  intro pins s σ H Q I h
  refine thn (ha pins s σ H _ I h) fun v s1 ⟨x, H1, I1, r1, q1⟩ => ?_
  exact Constant_none (isnot_none_gen ⟨.bl _, H1, I1, by rw [r1.none_iff]; rfl, q1⟩)
/-- a comparison as a value, as a test -/
def tB (t : TE) : TT := fun σ H Q => t σ H fun x H1 => ∃ c, x = .bl c ∧ Q c H1
theorem pe_cmp {op : CmpOp} {t : TE} (h : PC X op a b t) (h1 : behindInMarks op b = false := by first | exact nobehind _ (by decide) (by decide) | rfl) : PE X (.Compare a [op] [b] pos) t := fun pins s σ H Q I hw => wpAny_Compare1 (h pins s σ H Q I hw) h1
theorem pt_cmp {op : CmpOp} {t : TE} (h : PC X op a b t) (h1 : behindInMarks op b = false := by first | exact nobehind _ (by decide) (by decide) | rfl) : PT X (.Compare a [op] [b] pos) (tB t) := by
  intro pins s σ H Q I hw
  refine wpAny_isTrue_Compare1 (thn (h pins s σ H _ I hw) fun v s1 h1 => thn h1 fun u s2 h2 => thn h2 fun c s3 ⟨x, H1, I1, r1, q1⟩ => ?_) h1
  obtain ⟨d, rfl, q⟩ := q1
  cases r1
  exact wpAny_truthy_bool ⟨H1, I1, q⟩
/-- an expression whose value is a bool, as a test -/
theorem pt_val {e : Expr} {t : TE} (h : PE X e t) (he : ∀ whole, isTrue e X.env whole = (do let v ← whole; standAt e.pos; holding [v] (truthy v)) := by intro _; rfl) : PT X e (tB t) := by
  intro pins s σ H Q I hw
  refine isTrue_plain (thn (h pins s σ H _ I hw) fun v s1 ⟨x, H1, I1, r1, q1⟩ => ?_) (he _)
  obtain ⟨d, rfl, q⟩ := q1
  cases r1
  exact wpAny_truthy_bool ⟨H1, I1, q⟩

/-! ### and, or, not -/
variable {tA tB' : TT} {rest : List Expr}
def tAnd (t u : TT) : TT := fun σ H Q => t σ H fun c H1 => if c = true then u σ H1 Q else Q false H1
def tOr (t u : TT) : TT := fun σ H Q => t σ H fun c H1 => if c = true then Q true H1 else u σ H1 Q
def tNot (t : TT) : TT := fun σ H Q => t σ H fun c H1 => Q (!c) H1
theorem pw_and1 (ha : PT X a tA) : PW X (.BoolOp .And [a] pos) tA := by
  intro wh pins s σ H Q I h
  refine isTrue_and (thn (ha pins s σ H Q I h) fun c s1 e => ?_)
  cases c with
  | true => exact isTrue_and_nil e
  | false => exact e
theorem pw_or1 (ha : PT X a tA) : PW X (.BoolOp .Or [a] pos) tA := by
  intro wh pins s σ H Q I h
  refine isTrue_or (thn (ha pins s σ H Q I h) fun c s1 e => ?_)
  cases c with
  | false => exact isTrue_or_nil e
  | true => exact e
theorem pw_and (ha : PT X a tA) (hb : PW X (.BoolOp .And (b :: rest) pos) tB') : PW X (.BoolOp .And (a :: b :: rest) pos) (tAnd tA tB') := by
  intro wh pins s σ H Q I h
  refine isTrue_and (thn (ha pins s σ H _ I h) fun c s1 ⟨H1, I1, q1⟩ => ?_)
  cases c with
  | true => exact hb wh pins s1 σ H1 Q I1 q1
  | false => exact ⟨H1, I1, q1⟩
theorem pw_or (ha : PT X a tA) (hb : PW X (.BoolOp .Or (b :: rest) pos) tB') : PW X (.BoolOp .Or (a :: b :: rest) pos) (tOr tA tB') := by
  intro wh pins s σ H Q I h
  refine isTrue_or (thn (ha pins s σ H _ I h) fun c s1 ⟨H1, I1, q1⟩ => ?_)
  cases c with
  | true => exact ⟨H1, I1, q1⟩
  | false => exact hb wh pins s1 σ H1 Q I1 q1
theorem pt_not (ha : PT X a tA) : PT X (.UnaryOp .Not a pos) (tNot tA) := by
  intro pins s σ H Q I h
  exact isTrue_not (ha pins s σ H (fun c H1 => Q (!c) H1) I h)
/-- .. as values (bools) -/
def tAndV (ta tb : TE) : TE := fun σ H Q => ta σ H fun x H1 => ∃ c, x = .bl c ∧ if c = true then tb σ H1 Q else Q (.bl false) H1
def tOrV (ta tb : TE) : TE := fun σ H Q => ta σ H fun x H1 => ∃ c, x = .bl c ∧ if c = true then Q (.bl true) H1 else tb σ H1 Q
def tNotV (ta : TE) : TE := fun σ H Q => ta σ H fun x H1 => ∃ c, x = .bl c ∧ Q (.bl (!c)) H1
theorem pe_one {op} {t : TE} (h : PE X a t) : PE X (.BoolOp op [a] pos) t := fun pins s σ H Q I hw => BoolOp_one (h pins s σ H Q I hw)
theorem pe_and (ha : PE X a ta) (hb : PE X (.BoolOp .And (b :: rest) pos) tb) : PE X (.BoolOp .And (a :: b :: rest) pos) (tAndV ta tb) := by
  intro pins s σ H Q I h
  refine BoolOp_and (thn (ha pins s σ H _ I h) fun v s1 ⟨x, H1, I1, r1, q1⟩ => ?_)
  obtain ⟨c, rfl, q1⟩ := q1
  cases r1
  refine wpAny_truthy_bool ?_
  cases c with
  | true => exact hb pins s1 σ H1 Q I1 q1
  | false => exact ⟨.bl false, H1, I1, rfl, q1⟩
theorem pe_or (ha : PE X a ta) (hb : PE X (.BoolOp .Or (b :: rest) pos) tb) : PE X (.BoolOp .Or (a :: b :: rest) pos) (tOrV ta tb) := by
  intro pins s σ H Q I h
  refine BoolOp_or (thn (ha pins s σ H _ I h) fun v s1 ⟨x, H1, I1, r1, q1⟩ => ?_)
  obtain ⟨c, rfl, q1⟩ := q1
  cases r1
  refine wpAny_truthy_bool ?_
  cases c with
  | false => exact hb pins s1 σ H1 Q I1 q1
  | true => exact ⟨.bl true, H1, I1, rfl, q1⟩
theorem pe_not (ha : PE X a ta) : PE X (.UnaryOp .Not a pos) (tNotV ta) := by
  intro pins s σ H Q I h
  refine UnaryOp_ (thn (ha pins s σ H _ I h) fun v s1 ⟨x, H1, I1, r1, q1⟩ => ?_)
  obtain ⟨c, rfl, q1⟩ := q1
  cases r1
  exact not_of (wpAny_truthy_bool ⟨.bl (!c), H1, I1, rfl, q1⟩)
/-- a if t else b -/
def tIf (t : TT) (ta tb : TE) : TE := fun σ H Q => t σ H fun c H1 => if c = true then ta σ H1 Q else tb σ H1 Q
theorem pe_ifExp {c : Expr} (hc : PT X c tA) (ha : PE X a ta) (hb : PE X b tb) : PE X (.IfExp c a b pos) (tIf tA ta tb) := by
  intro pins s σ H Q I h
  refine wpAny_IfExp (thn (hc pins s σ H _ I h) fun d s1 ⟨H1, I1, q1⟩ => ?_)
  cases d with
  | true => exact ha pins s1 σ H1 Q I1 q1
  | false => exact hb pins s1 σ H1 Q I1 q1
end
end L2

namespace L2
open PySem PySem.Spec PyProof.Rows

/-! ### a list, a tuple that is read: tracked, frozen, or an object of the module -/
def SqL (K : PySem.W.Frag) (H : Hp) (a : Addr) (xs : List V) : Prop :=
  Rd H a (.lst xs) ∨
    ∃ (o : Obj) (its : Array Value) (n : Nat), K.lookup a = some o ∧ o.cls = .type "list" ∧ o.dict = none ∧ o.data = .seq its n ∧ its.size ≤ sizeLine ∧ Vals xs its.toList
def SqT (K : PySem.W.Frag) (H : Hp) (a : Addr) (xs : List V) : Prop :=
  Rd H a (.tup xs) ∨
    ∃ (o : Obj) (its : Array Value) (n : Nat), K.lookup a = some o ∧ o.cls = .type "tuple" ∧ o.data = .seq its n ∧ its.size ≤ sizeLine ∧ Vals xs its.toList
def absV : Value → Option V
  | .none => some .non
  | .bool b => some (.bl b)
  | .int i _ => some (.int i)
  | .str x _ => some (.str x)
  | .bytes b _ => some (.byt b)
  | .float b _ => some (.flt b)
  | .ref a => some (.ref a)
  | .type n => some (.ty n)
  | _ => none
theorem RelV.abs {x : V} {u : Value} (r : RelV x u) : absV u = some x := by
  cases x with
  | non => cases r; rfl
  | bl _ => cases r; rfl
  | int _ => obtain ⟨t, rfl⟩ := r; rfl
  | str _ => obtain ⟨t, rfl⟩ := r; rfl
  | byt _ => obtain ⟨t, rfl⟩ := r; rfl
  | flt _ => obtain ⟨t, rfl⟩ := r; rfl
  | ref _ => cases r; rfl
  | ty _ => cases r; rfl
theorem RelV.inj {x y : V} {u : Value} (r : RelV x u) (q : RelV y u) : x = y := Option.some.inj (r.abs.symm.trans q.abs)
theorem Vals.inj : ∀ {xs ys : List V} {us : List Value}, Vals xs us → Vals ys us → xs = ys
  | _, _, _, .nil, .nil => rfl
  | _, _, _, .cons r t, .cons r' t' => by rw [r.inj r', Vals.inj t t']
section
variable {X : Cx} {pins : List (Addr × Obj)} {σ : St} {H : Hp} {s : Shared} {a : Addr} {xs ys : List V}
theorem SqL.of {K : PySem.W.Frag} (h : H a = some (.lst xs)) : SqL K H a xs := .inl (.inl h)
theorem SqT.of {K : PySem.W.Frag} (h : H a = some (.tup xs)) : SqT K H a xs := .inl (.inl h)
theorem Inv.list (I : Inv X pins σ H s) (h : SqL X.K H a xs) : ∃ its : List Value, Vals xs its ∧ PlainL s.heap a its.toArray ∧ xs.length ≤ sizeLine := by
  rcases h with h | ⟨o, its, n, hk, hc, hd, hs, hz, r⟩
  · obtain ⟨z, its, n, r, e⟩ := h.ok I.hok
    exact ⟨its, r, ⟨_, n, e, rfl, rfl, rfl⟩, z⟩
  · refine ⟨its.toList, r, ⟨o, n, I.kIn a o hk, hc, hd, by simpa using hs⟩, ?_⟩
    have e := r.length
    simp only [Array.length_toList] at e
    omega
theorem Inv.tuple (I : Inv X pins σ H s) (h : SqT X.K H a xs) : ∃ its : List Value, Vals xs its ∧ IsTup s.heap a its.toArray ∧ xs.length ≤ sizeLine := by
  rcases h with h | ⟨o, its, n, hk, hc, hs, hz, r⟩
  · obtain ⟨z, its, r, p⟩ := h.ok I.hok
    exact ⟨its, r, p, z⟩
  · refine ⟨its.toList, r, ⟨o, I.kIn a o hk, hc, n, by simpa using hs⟩, ?_⟩
    have e := r.length
    simp only [Array.length_toList] at e
    omega
theorem Inv.list_inj (I : Inv X pins σ H s) (h : SqL X.K H a xs) (h' : SqL X.K H a ys) : xs = ys := by
  obtain ⟨its, r, ⟨o, n, e, _, _, d⟩, _⟩ := I.list h
  obtain ⟨its', r', ⟨o', n', e', _, _, d'⟩, _⟩ := I.list h'
  rw [e] at e'; cases e'
  rw [d] at d'
  injection d' with d1 _
  have : its = its' := by simpa using congrArg Array.toList d1
  subst this
  exact r.inj r'
theorem Inv.tuple_inj (I : Inv X pins σ H s) (h : SqT X.K H a xs) (h' : SqT X.K H a ys) : xs = ys := by
  obtain ⟨its, r, ⟨o, e, _, n, d⟩, _⟩ := I.tuple h
  obtain ⟨its', r', ⟨o', e', _, n', d'⟩, _⟩ := I.tuple h'
  rw [e] at e'; cases e'
  rw [d] at d'
  injection d' with d1 _
  have : its = its' := by simpa using congrArg Array.toList d1
  subst this
  exact r.inj r'
end

/-! ### another wish about exceptions -/
abbrev Cx.wish (X : Cx) (E : Value → Shared → Prop) : Cx := { X with xe := E }
/-- no exception leaves -/
abbrev Cx.nox (X : Cx) : Cx := X.wish fun _ _ => False
theorem Cx.Ok.wish {X : Cx} (ok : X.Ok) (E : Value → Shared → Prop) : (X.wish E).Ok :=
  ⟨ok.mod, ok.kind, ok.glob, ok.blt, ok.above, ok.inj, ok.has, ok.cab, ok.hd, ok.frames, ok.stk, ok.exf, ok.bs, ok.bsz, ok.noex, ok.exfs, ok.funs, ok.frf⟩
theorem Cx.Ok.unwish {X : Cx} {E : Value → Shared → Prop} (ok : (X.wish E).Ok) : X.Ok :=
  ⟨ok.mod, ok.kind, ok.glob, ok.blt, ok.above, ok.inj, ok.has, ok.cab, ok.hd, ok.frames, ok.stk, ok.exf, ok.bs, ok.bsz, ok.noex, ok.exfs, ok.funs, ok.frf⟩
section
variable {X : Cx} {pins : List (Addr × Obj)} {σ : St} {H : Hp} {s : Shared} {E : Value → Shared → Prop}
theorem Inv.wish (I : Inv X pins σ H s) (E : Value → Shared → Prop) : Inv (X.wish E) pins σ H s := ⟨I.ok.wish E, I.os, I.bare, I.base, I.loc, I.cell, I.free, I.freeC, I.pin, I.hok, I.len⟩
theorem Inv.unwish (I : Inv (X.wish E) pins σ H s) : Inv X pins σ H s := ⟨I.ok.unwish, I.os, I.bare, I.base, I.loc, I.cell, I.free, I.freeC, I.pin, I.hok, I.len⟩
theorem SP.unwish {D : Ends} {f : Flow} {s' : Shared} (h : SP (X.wish E) pins D f s') : SP X pins D f s' := by
  cases f with
  | next => obtain ⟨σ', H', I, q⟩ := h; exact ⟨σ', H', I.unwish, q⟩
  | brk => obtain ⟨σ', H', I, q⟩ := h; exact ⟨σ', H', I.unwish, q⟩
  | cont => obtain ⟨σ', H', I, q⟩ := h; exact ⟨σ', H', I.unwish, q⟩
  | ret u => obtain ⟨v, σ', H', I, r, q⟩ := h; exact ⟨v, σ', H', I.unwish, r, q⟩
theorem PE.nox {e : Expr} {t : TE} (h : PE X.nox e t) : PE X e t := fun pins s σ H Q I hw =>
  wpAny_mono (h pins s σ H Q (I.wish _) hw) (fun _ _ ⟨v, H', I', r, q⟩ => ⟨v, H', I'.unwish, r, q⟩) fun _ _ z => False.elim z
theorem PT.nox {e : Expr} {t : TT} (h : PT X.nox e t) : PT X e t := fun pins s σ H Q I hw =>
  wpAny_mono (h pins s σ H Q (I.wish _) hw) (fun _ _ ⟨H', I', q⟩ => ⟨H', I'.unwish, q⟩) fun _ _ z => False.elim z
theorem PSs.nox {st : List Stmt} {t : TS} (h : PSs X.nox st t) : PSs X st t := fun pins s σ H D I hw =>
  wpAny_mono (h pins s σ H D (I.wish _) hw) (fun _ _ q => q.unwish) fun _ _ z => False.elim z
end

/-! ### blocks and small statements -/
section
variable {X : Cx} {st : Stmt} {rest : List Stmt} {t u : TS} {e : Expr} {te : TE} {pos : Pos}
def tNext : TS := fun D σ H => D.nx σ H
def tSeq (t u : TS) : TS := fun D σ H => t { D with nx := u D } σ H
theorem pss_nil : PSs X [] tNext := fun _ _ σ H _ I h => wpAny_execs_nil ⟨σ, H, I, h⟩
theorem pss_cons (h1 : PS X st t) (h2 : PSs X rest u) : PSs X (st :: rest) (tSeq t u) := by
  intro pins s σ H D I h
  refine wpAny_execs_cons (thn (h1 pins s σ H { D with nx := u D } I h) fun f s1 q => ?_)
  cases f with
  | next =>
    obtain ⟨σ', H', I', q⟩ := q
    exact h2 pins s1 σ' H' D I' q
  | ret v => exact q
  | brk => exact q
  | cont => exact q
theorem pss_one (h1 : PS X st t) : PSs X [st] t := by
  intro pins s σ H D I h
  refine wpAny_execs_cons (thn (h1 pins s σ H D I h) fun f s1 q => ?_)
  cases f with
  | next => exact wpAny_execs_nil q
  | ret v => exact q
  | brk => exact q
  | cont => exact q
def tBreak : TS := fun D σ H => D.bk σ H
def tCont : TS := fun D σ H => D.ct σ H
theorem ps_pass : PS X (.Pass pos) tNext := fun _ _ σ H _ I h => wpAny_Pass ⟨σ, H, I, h⟩
theorem ps_break : PS X (.Break pos) tBreak := fun _ _ σ H _ I h => wpAny_Break ⟨σ, H, I, h⟩
theorem ps_continue : PS X (.Continue pos) tCont := fun _ _ σ H _ I h => wpAny_Continue ⟨σ, H, I, h⟩
/-- in a def's body nothing is shown -/
theorem Inv.quiet {pins : List (Addr × Obj)} {σ : St} {H : Hp} {s : Shared} (I : Inv X pins σ H s) : interactive X.env = false := by simp [interactive, I.ok.kind]
/-- a docstring -/
theorem ps_doc {x j pos pos'} : PS X (.Expr (.Constant (.str x) j pos) pos') tNext := fun _ s σ H _ I h => wpAny_Expr (Calls.Constant_str (show SP X _ _ .next { s with toks := s.toks + 1 } from ⟨σ, H, I.tok _, h⟩)) I.quiet
/-- an expression whose value is dropped -/
def tDrop (te : TE) : TS := fun D σ H => te σ H fun _ H1 => D.nx σ H1
theorem ps_expr (he : PE X e te) (hs : swapsWith e none pos.line X.env = pure false := by rfl) : PS X (.Expr e pos) (tDrop te) := by
  intro pins s σ H D I h
  exact wpAny_Expr_any (thn (he pins s σ H _ I h) fun v s1 ⟨x, H1, I1, r1, q1⟩ => ⟨σ, H1, I1, q1⟩) I.quiet hs
def tRet (te : TE) : TS := fun D σ H => te σ H D.rt
theorem ps_ret (he : PE X e te) : PS X (.Return (some e) pos) (tRet te) := by
  intro pins s σ H D I h
  exact wpAny_Return_some (thn (he pins s σ H _ I h) fun v s1 ⟨x, H1, I1, r1, q1⟩ => ⟨x, σ, H1, I1, r1, q1⟩)
def tRetN : TS := fun D _ H => D.rt .non H
theorem ps_retN : PS X (.Return none pos) tRetN := fun _ _ σ H _ I h => wpAny_Return_none ⟨.non, σ, H, I, rfl, h⟩
def tIfS (c : TT) (t u : TS) : TS := fun D σ H => c σ H fun b H1 => if b = true then t D σ H1 else u D σ H1
theorem ps_if {c : Expr} {a b : List Stmt} {tc : TT} (hc : PT X c tc) (ha : PSs X a t) (hb : PSs X b u) : PS X (.If c a b pos) (tIfS tc t u) := by
  intro pins s σ H D I h
  refine wpAny_If (thn (hc pins s σ H _ I h) fun d s1 ⟨H1, I1, q1⟩ => ?_)
  cases d with
  | true => exact ha pins s1 σ H1 D I1 q1
  | false => exact hb pins s1 σ H1 D I1 q1
/-- code that the proof never comes to -/
def tNever : TS := fun _ _ _ => False
theorem ps_never : PS X st tNever := fun _ _ _ _ _ _ h => h.elim
theorem pss_never {sts : List Stmt} : PSs X sts tNever := fun _ _ _ _ _ _ h => h.elim
end

/-! ### targets -/
abbrev TG := V → St → Hp → (St → Hp → Prop) → Prop
abbrev TGs := List V → St → Hp → (St → Hp → Prop) → Prop
def PG (X : Cx) (target : Expr) (t : TG) : Prop :=
  ∀ (pins : List (Addr × Obj)) (s : Shared) (σ : St) (H : Hp) (v : V) (u : Value) (Q : St → Hp → Prop), Inv X pins σ H s → RelV v u → t v σ H Q →
    wpAny (model X.prog X.w) X.A (assign target X.env u) (fun _ s' => ∃ σ' H', Inv X pins σ' H' s' ∧ Q σ' H') X.xe s
/-- several targets, one after another -/
def PGs (X : Cx) (ts : List Expr) (t : TGs) : Prop :=
  ∀ (pins : List (Addr × Obj)) (s : Shared) (σ : St) (H : Hp) (vs : List V) (us : List Value) (Q : St → Hp → Prop), Inv X pins σ H s → Vals vs us → t vs σ H Q →
    wpAny (model X.prog X.w) X.A (assignInOrder ((assignEach ts X.env).map (·.2)) us) (fun _ s' => ∃ σ' H', Inv X pins σ' H' s' ∧ Q σ' H') X.xe s
/-- o[i] = v, by values -/
abbrev TSet := V → V → V → Hp → (Hp → Prop) → Prop
def PSet (X : Cx) (t : TSet) : Prop :=
  ∀ (pins : List (Addr × Obj)) (s : Shared) (σ : St) (H : Hp) (o i v : V) (ov iv u : Value) (Q : Hp → Prop), Inv X pins σ H s → RelV o ov → RelV i iv → RelV v u → t o i v H Q →
    wpAny (model X.prog X.w) X.A (setItem ov iv u) (fun _ s' => ∃ H', Inv X pins σ H' s' ∧ Q H') X.xe s
/-- a op= b, by values -/
abbrev TIp := V → V → Hp → VK → Prop
def PIp (X : Cx) (op : Operator) (t : TIp) : Prop :=
  ∀ (pins : List (Addr × Obj)) (s : Shared) (σ : St) (H : Hp) (x y : V) (v u : Value) (Q : VK), Inv X pins σ H s → RelV x v → RelV y u → t x y H Q →
    wpAny (model X.prog X.w) X.A (inplaceOp op v u) (EP X pins σ Q) X.xe s
section
variable {X : Cx} {pos : Pos}
def gName (i : Nat) : TG := fun v σ H Q => Q (σ.set i (some v)) H
theorem pg_name {i : Nat} {x : Str} (hN : X.N.Nodup) (hi : X.N[i]? = some x) (hx : Loc X.env.scope x) (hf : X.fn x = true ∨ X.env.scope.names.lookup x = some .local := by first | exact .inl rfl | exact .inr rfl | assumption) : PG X (.Name x pos) (gName i) := by
  intro pins s σ H v u Q I r h
  exact wpAny_assign_Name (store_ok I hN hi hx r (fun s' I' => ⟨_, H, I', h⟩) hf)
def gNil : TGs := fun vs σ H Q => vs = [] ∧ Q σ H
def gCons (t : TG) (u : TGs) : TGs := fun vs σ H Q => ∃ v r, vs = v :: r ∧ t v σ H fun σ' H' => u r σ' H' Q
theorem pgs_nil : PGs X [] gNil := by
  intro pins s σ H vs us Q I r h
  obtain ⟨e, h⟩ := h
  subst e
  cases r
  exact assignInOrder_nil ⟨σ, H, I, h⟩
theorem pgs_cons {e : Expr} {es : List Expr} {t : TG} {u : TGs} (h1 : PG X e t) (h2 : PGs X es u)
    (hs : (assignEach (e :: es) X.env).map (·.2) = assign e X.env :: (assignEach es X.env).map (·.2) := by rfl) : PGs X (e :: es) (gCons t u) := by
  intro pins s σ H vs us Q I r h
  obtain ⟨v, vr, e1, h⟩ := h
  subst e1
  cases r with
  | cons r rr =>
    rw [hs]
    refine assignInOrder_cons (thn (h1 pins s σ H _ _ _ I r h) fun _ s1 ⟨σ1, H1, I1, q1⟩ => ?_)
    exact h2 pins s1 σ1 H1 _ _ Q I1 rr q1
/-- (a, b, ..) = a tuple of that length -/
def gTup (K : PySem.W.Frag) (n : Nat) (t : TGs) : TG := fun v σ H Q => ∃ a xs, v = .ref a ∧ SqT K H a xs ∧ xs.length = n ∧ t xs σ H Q
theorem pg_tup {es : List Expr} {k : Nat} {t : TGs} {n : Nat} (hc : X.calm = true) (h : PGs X es t)
    (hn : (assignEach es X.env).length = n := by rfl) (hst : (assignEach es X.env).findIdx? (·.1) = none := by rfl) : PG X (.Tuple es k pos) (gTup X.K n t) := by
  intro pins s σ H v u Q I r hw
  obtain ⟨a, xs, e1, hq, hl, hw⟩ := hw
  subst e1
  cases r
  obtain ⟨its, rv, ht, hz⟩ := I.tuple hq
  refine assign_Tuple_tuple (I.ok.hd hc) ht (by simp [hn, ← hl, rv.length]) hst fun h' hx => ?_
  have I1 : Inv X pins σ H { s with heap := h' } := I.kept (t' := s.toks) fun b o e => hx b o (Nat.ne_of_lt (Heap.lt_size e)) e
  exact h pins _ σ H xs _ Q I1 (by simpa using rv) hw
/-- o[i] = .. -/
def gSub (to ti : TE) (t : TSet) : TG := fun v σ H Q => to σ H fun o H1 => ti σ H1 fun i H2 => t o i v H2 fun H3 => Q σ H3
theorem pg_sub {o i : Expr} {to ti : TE} {t : TSet} (ho : PE X o to) (hi : PE X i ti) (hs : PSet X t)
    (ha : ∀ v, assign (.Subscript o i pos) X.env v = (do
      let ov ← holding [v] (eval o X.env)
      let iv ← holding [v, ov] (eval i X.env)
      standAt pos
      holding [v, ov, iv] (setItem ov iv v)
      release [v, ov, iv] []) := by intro _; rfl) : PG X (.Subscript o i pos) (gSub to ti t) := by
  intro pins s σ H v u Q I r h
  rw [ha]
  refine wpAny_bind (wpAny_holding (thn (ho pins s σ H _ I h) fun ov s1 ⟨x, H1, I1, r1, q1⟩ => ?_))
  refine wpAny_bind (wpAny_holding (thn (hi pins s1 σ H1 _ I1 q1) fun iv s2 ⟨y, H2, I2, r2, q2⟩ => ?_))
  refine wpAny_bind (wpAny_standAt (wpAny_bind (wpAny_holding (thn (hs pins s2 σ H2 x y v ov iv u _ I2 r1 r2 r q2) fun _ s3 ⟨H3, I3, q3⟩ => ?_))))
  exact wpAny_release ⟨σ, H3, I3, q3⟩
/-- target = value -/
def tAsg (te : TE) (g : TG) : TS := fun D σ H => te σ H fun x H1 => g x σ H1 D.nx
theorem ps_asg {tg e : Expr} {te : TE} {g : TG} (he : PE X e te) (hg : PG X tg g) (hs : swapsWithSole [tg] e pos.line X.env = pure false := by rfl) (hw : swappedStores [tg] e X.env = pure none := by rfl)
    (h1 : (assignEach [tg] X.env).map (·.2) = [assign tg X.env] := by rfl) : PS X (.Assign [tg] e pos) (tAsg te g) := by
  intro pins s σ H D I h
  refine wpAny_Assign_stores (thn (he pins s σ H _ I h) fun v s1 ⟨x, H1, I1, r1, q1⟩ => ?_) hs hw
  rw [h1]
  exact thn (hg pins s1 σ H1 x v _ I1 r1 q1) fun _ s2 q => q
/-- name = value -/
theorem ps_set {i : Nat} {x : Str} {e : Expr} {te : TE} {pos' : Pos} (hN : X.N.Nodup) (hi : X.N[i]? = some x) (hx : Loc X.env.scope x) (he : PE X e te) (hs : swapsWith e (some (.Name x pos')) pos.line X.env = pure false := by rfl) (hf : X.fn x = true ∨ X.env.scope.names.lookup x = some .local := by first | exact .inl rfl | exact .inr rfl | assumption) :
    PS X (.Assign [.Name x pos'] e pos) (tAsg te (gName i)) := by
  intro pins s σ H D I h
  refine wpAny_Assign_Name (thn (he pins s σ H _ I h) fun v s1 ⟨y, H1, I1, r1, q1⟩ => ?_) hs
  exact store_ok I1 hN hi hx r1 (fun s2 I2 => ⟨_, H1, I2, q1⟩) hf
/-- a, b = x, y with plain local names: stored from the right; the pair itself is not tracked (the opening rows as in PyProof/Rows/TupAssign.lean:23) -/
def tPar (i j : Nat) (ta : TA) : TS := fun D σ H => ta σ H fun vs H1 => ∃ v w, vs = [v, w] ∧ D.nx ((σ.set i (some v)).set j (some w)) H1
theorem ps_par {i j : Nat} {x y : Str} {a b : Expr} {ta : TA} {px py pt : Pos} {kt k2 pt2} (hc : X.calm = true) (hN : X.N.Nodup) (hi : X.N[i]? = some x) (hj : X.N[j]? = some y) (hij : i ≠ j)
    (hx : X.env.scope.names.lookup x = some .local) (hy : X.env.scope.names.lookup y = some .local) (ha : PA X [a, b] ta)
    (hw : swappedStores [.Tuple [.Name x px, .Name y py] kt pt] (.Tuple [a, b] k2 pt2) X.env = pure (some [x, y]))
    (hs : swapsWithSole [.Tuple [.Name x px, .Name y py] kt pt] (.Tuple [a, b] k2 pt2) pos.line X.env = pure false := by rfl) :
    PS X (.Assign [.Tuple [.Name x px, .Name y py] kt pt] (.Tuple [a, b] k2 pt2) pos) (tPar i j ta) := by
  intro pins s σ H D I h
  rw [exec_Assign_arm]
  refine wpAny_bind (wpAny_standAt ?_)
  rw [hs]
  refine wpAny_bind (wpAny_pure ?_)
  rw [if_neg (by decide)]
  refine wpAny_bind (Tuple_ (thn (ha _ pins s σ H _ I h) fun us s1 ⟨vs, H1, I1, r1, q1⟩ => ?_))
  obtain ⟨v, w, e1, q1⟩ := q1
  subst e1
  obtain ⟨u1, u2, rfl, rv, rw'⟩ : ∃ u1 u2, us = [u1, u2] ∧ RelV v u1 ∧ RelV w u2 := by
    cases r1 with
    | cons p q =>
      cases q with
      | cons p' q' =>
        cases q'
        exact ⟨_, _, rfl, p, p'⟩
  refine wpAny_newObj_type ?_ (by show 2 ≤ sizeLine; decide)
  have I2 : Inv X pins σ H1 { s1 with heap := s1.heap.push { cls := .type "tuple", data := .seq [u1, u2].toArray } } := I1.kept (t' := s1.toks) fun b o e => Heap.get?_push_of_some _ e
  rw [hw]
  refine wpAny_bind (wpAny_pure ?_)
  show wpAny (model X.prog X.w) X.A (do rule "assign.swapped-stores"; let items ← unpackItems (.ref s1.heap.objs.size) 2 none; assignInOrder [fun v => bindName X.env y v, fun v => bindName X.env x v] items.reverse; pure Flow.next) _ _ _
  refine wpAny_bind (wpAny_rule (wpAny_bind (unpackItems_tuple (items := #[u1, u2]) (I.ok.hd hc) (IsTup.new s1.heap _) fun h' hx' => ?_)))
  have I3 := I2.kept (h' := h') (t' := s1.toks) fun b o e => hx' b o (Nat.ne_of_lt (Heap.lt_size e)) e
  show wpAny _ _ (assignInOrder [fun v => bindName X.env y v, fun v => bindName X.env x v] [u2, u1] >>= fun _ => pure Flow.next) _ _ _
  refine wpAny_bind (assignInOrder_cons (wpAny_bindName (store_ok I3 hN hj (.inl hy) rw' (fun s2 I4 => ?_) (.inr hy))))
  refine assignInOrder_cons (wpAny_bindName (store_ok I4 hN hi (.inl hx) rv (fun s3 I5 => assignInOrder_nil (wpAny_pure ?_)) (.inr hx)))
  rw [List.set_comm _ _ (Ne.symm hij)] at I5
  exact ⟨_, H1, I5, q1⟩
/-- name op= e -/
def tAug (i : Nat) (te : TE) (ti : TIp) : TS := fun D σ H => ∃ x, σ[i]? = some (some x) ∧ te σ H fun y H1 => ti x y H1 fun z H2 => D.nx (σ.set i (some z)) H2
theorem ps_aug {i : Nat} {x : Str} {e : Expr} {te : TE} {op : Operator} {ti : TIp} {pos' : Pos} (hN : X.N.Nodup) (hi : X.N[i]? = some x) (hx : Loc X.env.scope x) (he : PE X e te) (ho : PIp X op ti) (hf : X.fn x = true ∨ X.env.scope.names.lookup x = some .local := by first | exact .inl rfl | exact .inr rfl | assumption) :
    PS X (.AugAssign (.Name x pos') op e pos) (tAug i te ti) := by
  intro pins s σ H D I h
  obtain ⟨v, e1, h⟩ := h
  obtain ⟨m, hn, hl⟩ := I.loc
  have vis : Vis X.env.scope x := by rcases hx with k | k; exact .inl k; exact .inr (.inl k)
  obtain ⟨u, r, l⟩ := hl i x v hi e1 vis
  refine wpAny_AugAssign_Name ?_
  have go : wpAny (model X.prog X.w) X.A (eval e X.env) (fun w s₂ => wpAny (model X.prog X.w) X.A (inplaceOp op u w) (fun r s₃ => wpAny (model X.prog X.w) X.A (storeName X.env x r) (fun _ => SP X pins D .next) X.xe s₃) X.xe s₂) X.xe s := by
    refine thn (he pins s σ H _ I h) fun w s1 ⟨y, H1, I1, r1, q1⟩ => ?_
    refine thn (ho pins s1 σ H1 v y u w _ I1 r r1 q1) fun z s2 ⟨zv, H2, I2, r2, q2⟩ => ?_
    exact store_ok I2 hN hi hx r2 (fun s3 I3 => ⟨_, H2, I3, q2⟩) hf
  rcases l with ⟨hk, hm⟩ | ⟨hk, c, hc, hcell⟩
  · exact wpAny_loadName_local I.ok.kind hk hn hm go
  · rcases hk with hk | hk
    · exact wpAny_loadName_cell I.ok.kind hk hc hcell go
    · rcases hx with k | k
      · have : X.env.scope.names.lookup x = some .free := hk
        rw [k] at this; cases this
      · have : X.env.scope.names.lookup x = some .free := hk
        rw [k] at this; cases this
/-- o[i] op= e -/
def tAugS (to ti te : TE) (tget : V → V → Hp → VK → Prop) (tip : TIp) (tset : TSet) : TS := fun D σ H => to σ H fun o H1 => ti σ H1 fun i H2 => tget o i H2 fun x H3 => te σ H3 fun y H4 => tip x y H4 fun z H5 => tset o i z H5 fun H6 => D.nx σ H6
/-- o[i], by values -/
def PGet (X : Cx) (t : V → V → Hp → VK → Prop) : Prop :=
  ∀ (pins : List (Addr × Obj)) (s : Shared) (σ : St) (H : Hp) (o i : V) (ov iv : Value) (Q : VK), Inv X pins σ H s → RelV o ov → RelV i iv → t o i H Q →
    wpAny (model X.prog X.w) X.A (getItem ov iv) (EP X pins σ Q) X.xe s
theorem ps_augS {o i e : Expr} {to ti te : TE} {tget : V → V → Hp → VK → Prop} {tip : TIp} {tset : TSet} {op : Operator} {tpos : Pos} (ho : PE X o to) (hi : PE X i ti) (hg : PGet X tget) (he : PE X e te) (hp : PIp X op tip) (hs : PSet X tset)
    (ha : ∀ ov iv new, augStore i ov iv new = (do holding [new, ov, iv] (setItem ov iv new); release [new, ov, iv] []; pure .next) := by intros; rfl) : PS X (.AugAssign (.Subscript o i tpos) op e pos) (tAugS to ti te tget tip tset) := by
  intro pins s σ H D I h
  refine wpAny_AugAssign_SubscriptAny (thn (ho pins s σ H _ I h) fun ov s1 ⟨x1, H1, I1, r1, q1⟩ => ?_) ha
  refine thn (hi pins s1 σ H1 _ I1 q1) fun iv s2 ⟨x2, H2, I2, r2, q2⟩ => ?_
  refine thn (hg pins s2 σ H2 x1 x2 ov iv _ I2 r1 r2 q2) fun old s3 ⟨x3, H3, I3, r3, q3⟩ => ?_
  refine thn (he pins s3 σ H3 _ I3 q3) fun v s4 ⟨x4, H4, I4, r4, q4⟩ => ?_
  refine thn (hp pins s4 σ H4 x3 x4 old v _ I4 r3 r4 q4) fun new s5 ⟨x5, H5, I5, r5, q5⟩ => ?_
  exact thn (hs pins s5 σ H5 x1 x2 x5 ov iv new _ I5 r1 r2 r5 q5) fun _ s6 ⟨H6, I6, q6⟩ => ⟨σ, H6, I6, q6⟩
/-- ints -/
def ipI (f : Int → Int → Int) : TIp := fun x y H Q => ∃ i j, x = .int i ∧ y = .int j ∧ Q (.int (f i j)) H
theorem ip_add : PIp X .Add (ipI fun i j => i + j) := by
  intro pins s σ H x y v u Q I r1 r2 h
  obtain ⟨i, j, e1, e2, q⟩ := h
  subst e1; subst e2
  obtain ⟨t, rfl⟩ := r1
  obtain ⟨t', rfl⟩ := r2
  exact iadd_int ⟨.int _, H, I.tok _, ⟨_, rfl⟩, q⟩
theorem ip_sub : PIp X .Sub (ipI fun i j => i - j) := by
  intro pins s σ H x y v u Q I r1 r2 h
  obtain ⟨i, j, e1, e2, q⟩ := h
  subst e1; subst e2
  obtain ⟨t, rfl⟩ := r1
  obtain ⟨t', rfl⟩ := r2
  exact isub_int ⟨.int _, H, I.tok _, ⟨_, rfl⟩, q⟩
end

/-! ### while -/
section
variable {X : Cx} {pos : Pos}
/-- the invariant W with its measure -/
def tWhile (c : TT) (tb : TS) : TS := fun D σ H => ∃ W : Nat → St → Hp → Prop, (∃ m, W m σ H) ∧ ∀ m σ H, W m σ H →
  c σ H fun b H1 => if b = true then ∃ N : St → Hp → Prop, (∀ σ' H', N σ' H' → ∃ m', m' < m ∧ W m' σ' H') ∧ tb { D with nx := N, ct := N, bk := D.nx } σ H1 else D.nx σ H1
theorem ps_while {c : Expr} {body : List Stmt} {tc : TT} {tb : TS} (hp : PassesOwn (model X.prog X.w) X.A X.env X.xe) (hc : PT X c tc) (hb : PSs X body tb) : PS X (.While c body [] pos) (tWhile tc tb) := by
  intro pins s σ H D I h
  obtain ⟨W, ⟨m0, w0⟩, turn⟩ := h
  refine wpAny_While (codeAny_whileLoop (fun n s' => ∃ σ' H', Inv X pins σ' H' s' ∧ W n σ' H') ?_ m0 ⟨σ, H, I, w0⟩)
  rintro n s1 ⟨σ1, H1, I1, w1⟩
  refine wpAny_passesOwn hp (thn (hc pins s1 σ1 H1 _ I1 (turn n σ1 H1 w1)) fun b s2 ⟨H2, I2, q2⟩ => ?_)
  cases b with
  | true =>
    obtain ⟨N, hN, q2⟩ := q2
    rw [if_pos rfl]
    refine wpAny_passesOwn hp (thn (hb pins s2 σ1 H2 _ I2 q2) fun f s3 q3 => ?_)
    cases f with
    | next =>
      obtain ⟨σ3, H3, I3, n3⟩ := q3
      obtain ⟨m', hm, w3⟩ := hN σ3 H3 n3
      exact ⟨m', hm, σ3, H3, I3, w3⟩
    | cont =>
      obtain ⟨σ3, H3, I3, n3⟩ := q3
      obtain ⟨m', hm, w3⟩ := hN σ3 H3 n3
      exact ⟨m', hm, σ3, H3, I3, w3⟩
    | brk => exact q3
    | ret v => exact q3
  | false =>
    rw [if_neg Bool.false_ne_true]
    exact wpAny_execs_nil ⟨σ1, H2, I2, q2⟩
end

/-! ### what a loop or a comprehension walks -/
/-- at turn i: it yields x (the heap may grow), or it stops -/
structure It where
  go : Nat → Hp → Prop
  yld : Nat → Hp → V → Hp → Prop
  stop : Nat → Hp → Prop
/-- the iterator's own objects may turn: they are not the frame's, not pinned, younger than the entry (or a comprehension's own) -/
def FpOk (X : Cx) (pins : List (Addr × Obj)) (H : Hp) (b : Addr) : Prop :=
  H b = none ∧ b ≠ X.env.locals ∧ b ∉ X.fs ∧ (b ∈ X.ex ∨ X.s₀.heap.objs.size ≤ b) ∧ (∀ x c, X.env.cells.lookup x = some c → c ≠ b) ∧ ∀ p ∈ X.pn ++ pins, p.1 ≠ b
theorem Inv.fpOk {X : Cx} {pins : List (Addr × Obj)} {σ : St} {H H' : Hp} {s : Shared} {b : Addr} (I : Inv X pins σ H s) (hb : s.heap.objs.size ≤ b) (hn : H' b = none) : FpOk X pins H' b := by
  refine ⟨hn, Nat.ne_of_gt (Nat.lt_of_lt_of_le I.lt hb), I.nofs hb, .inr (Nat.le_trans I.sz hb), fun x c e z => ?_, fun p hp z => ?_⟩
  · obtain ⟨v, q⟩ := I.cell x c e
    exact absurd (Nat.lt_of_lt_of_le q.lt (by rw [z]; exact hb)) (Nat.lt_irrefl _)
  · exact absurd (Nat.lt_of_lt_of_le (Heap.lt_size (I.pin p hp).1) (by rw [z]; exact hb)) (Nat.lt_irrefl _)
structure Turn (P : Program) (w : World) (K : PySem.W.Frag) (tg : Expr) (J : It) (fp : List Addr) (it : Addr) (tn : Nat → Heap → Prop) : Prop where
  mem : it ∈ fp
  obj : ∀ i h, tn i h → ∀ b ∈ fp, ∃ o, h.get? b = some o ∧ ∀ v, o.data ≠ .cell v
  keep : ∀ i h h', tn i h → (∀ b ∈ fp, ∀ o, h.get? b = some o → h'.get? b = some o) → tn i h'
  item : ∀ (X : Cx), X.prog = P → X.w = w → X.K = K → X.calm = true → ∀ (i : Nat) (pins : List (Addr × Obj)) (s : Shared) (σ : St) (H : Hp) (E : Value → Shared → Prop), Inv X pins σ H s → (∀ b ∈ fp, FpOk X pins H b) → tn i s.heap → J.go i H →
    wpAny (model P w) X.A (pyNext (.ref it)) (fun r s1 => ∃ u, r = some u ∧
      wpAny (model P w) X.A (letOwnedTupleGo tg (.ref it) u) (fun _ s2 => ∃ x H', Inv X pins σ H' s2 ∧ RelV x u ∧ J.yld i H x H' ∧ tn (i + 1) s2.heap ∧ ∀ b ∈ fp, H' b = none) E s1) E s
  done : ∀ (X : Cx), X.prog = P → X.w = w → X.K = K → X.calm = true → ∀ (i : Nat) (pins : List (Addr × Obj)) (s : Shared) (σ : St) (H : Hp) (E : Value → Shared → Prop), Inv X pins σ H s → (∀ b ∈ fp, FpOk X pins H b) → tn i s.heap → J.stop i H →
    wpAny (model P w) X.A (pyNext (.ref it)) (fun r s1 => r = none ∧ Inv X pins σ H s1) E s
  self : ∀ (A : Around) (i : Nat) (s : Shared) (Q : Value → Shared → Prop) (E : Value → Shared → Prop), tn i s.heap → Q (.ref it) s → wpAny (model P w) A (pyIter (.ref it)) Q E s
abbrev TI := St → Hp → (It → Hp → Prop) → Prop
/-- an iterator has come -/
def PIE (X : Cx) (pins : List (Addr × Obj)) (σ : St) (tg : Expr) (R : It → Hp → Prop) (itv : Value) (s2 : Shared) : Prop :=
  ∃ (it : Addr) (fp : List Addr) (tn : Nat → Heap → Prop) (J : It) (H' : Hp), itv = .ref it ∧ Inv X pins σ H' s2 ∧ Turn X.prog X.w X.K tg J fp it tn ∧ tn 0 s2.heap ∧ (∀ b ∈ fp, FpOk X pins H' b) ∧ R J H'
def PI (X : Cx) (tg iter : Expr) (wi : TI) : Prop :=
  ∀ (pins : List (Addr × Obj)) (s : Shared) (σ : St) (H : Hp) (R : It → Hp → Prop), Inv X pins σ H s → wi σ H R →
    wpAny (model X.prog X.w) X.A (eval iter X.env) (fun v s1 => wpAny (model X.prog X.w) X.A (pyIter v) (PIE X pins σ tg R) X.xe s1) X.xe s

/-- the step ahead of the store is nothing for an iterator that keeps no tuple -/
theorem go_of {M : Model} {A : Around} {E : Value → Shared → Prop} {s : Shared} {tg : Expr} {it : Addr} {u : Value} {o : Obj} {n : String} {vs : Array Value} {Q : Unit → Shared → Prop} (ho : s.heap.get? it = some o) (hc : o.cls = .type n) (hd : o.data = .fields vs)
    (hn : ["enumerate", "zip", "dict_itemiterator", "dict_reverseitemiterator", "odict_iterator", "itertools.zip_longest", "itertools.pairwise"].contains n = false) (hQ : Q () s) : wpAny M A (letOwnedTupleGo tg (.ref it) u) Q E s := by
  unfold letOwnedTupleGo
  cases tg <;> first
    | exact wpAny_pure hQ
    | (cases u <;> first
        | exact wpAny_pure hQ
        | (refine wpAny_bind (wpAny_load ho ?_)
           rw [hc, hd]
           show wpAny M A (if (["enumerate", "zip", "dict_itemiterator", "dict_reverseitemiterator", "odict_iterator", "itertools.zip_longest", "itertools.pairwise"].contains n && vs[0]? == some (rawInt _)) = true then _ else _) Q E s
           rw [if_neg (by intro h; rw [hn, Bool.false_and] at h; cases h)]
           exact wpAny_pure hQ))

/-- the list at a, as it stands at each turn (a loop may append to it) -/
def Itl (K : PySem.W.Frag) (a : Addr) : It :=
  ⟨fun i H => ∃ xs x, SqL K H a xs ∧ xs[i]? = some x, fun i H x H' => H' = H ∧ ∀ xs, SqL K H a xs → xs[i]? = some x, fun i H => ∃ xs, SqL K H a xs ∧ xs.length ≤ i⟩
def Itt (K : PySem.W.Frag) (a : Addr) : It :=
  ⟨fun i H => ∃ xs x, SqT K H a xs ∧ xs[i]? = some x, fun i H x H' => H' = H ∧ ∀ xs, SqT K H a xs → xs[i]? = some x, fun i H => ∃ xs, SqT K H a xs ∧ xs.length ≤ i⟩
/-- lo, lo + 1, .. (n of them) -/
def Itr (lo : Int) (n : Nat) : It := ⟨fun i _ => i < n, fun i H x H' => H' = H ∧ x = .int (lo + i), fun i _ => n ≤ i⟩
theorem turn_list {P : Program} {w : World} {K : PySem.W.Frag} {tg : Expr} (a it : Addr) : Turn P w K tg (Itl K a) [it] it (fun i h => h.IsListIter it a i) where
  mem := by simp
  obj := fun i h st b hb => by
    have e : b = it := by simpa using hb
    subst e
    obtain ⟨o, e, c, d⟩ := st
    exact ⟨o, e, fun v z => by rw [d] at z; cases z⟩
  keep := fun i h h' st k => st.at fun o e => k it (by simp) o e
  item := by
    intro X hP hw hK hc i pins s σ H E I hf st hg
    subst hP hw hK
    obtain ⟨xs, x, hq, hx⟩ := hg
    obtain ⟨its, rv, p, hz⟩ := I.list hq
    obtain ⟨u, hu, ru⟩ := rv.get hx
    obtain ⟨f0, f1, f2, f3, f4, f5⟩ := hf it (by simp)
    refine wpAny_pyNext_list_item st p.isList (x := u) (by simpa using hu) fun h' st' sb => ?_
    have I1 : Inv X pins σ H { s with heap := h' } := I.turned (t' := s.toks) (fun b o hb e => (sb.2 b hb).trans e) f0 f1 f3 f4 f5
    obtain ⟨o, e, c, d⟩ := id st'
    exact ⟨u, rfl, go_of (s := { s with heap := h' }) e c d (by decide) ⟨x, H, I1, ru, ⟨rfl, fun ys hy => by rw [I.list_inj hy hq]; exact hx⟩, st', fun b hb => (hf b hb).1⟩⟩
  done := by
    intro X hP hw hK hc i pins s σ H E I hf st hg
    subst hP hw hK
    obtain ⟨xs, hq, hx⟩ := hg
    obtain ⟨its, rv, p, hz⟩ := I.list hq
    obtain ⟨f0, f1, f2, f3, f4, f5⟩ := hf it (by simp)
    have hl := rv.length
    exact wpAny_pyNext_list_end (I.ok.hd hc) st p.isList (by simp; omega) fun h' eb => ⟨rfl, I.turned (t' := s.toks) (fun b o hb e => eb b o hb e) f0 f1 f3 f4 f5⟩
  self := fun _ _ _ _ _ st h => wpAny_pyIter_listiter st h
theorem turn_tuple {P : Program} {w : World} {K : PySem.W.Frag} {tg : Expr} (a it : Addr) : Turn P w K tg (Itt K a) [it] it (fun i h => h.IsTupleIter it a i) where
  mem := by simp
  obj := fun i h st b hb => by
    have e : b = it := by simpa using hb
    subst e
    obtain ⟨o, e, c, d⟩ := st
    exact ⟨o, e, fun v z => by rw [d] at z; cases z⟩
  keep := fun i h h' st k => st.at fun o e => k it (by simp) o e
  item := by
    intro X hP hw hK hc i pins s σ H E I hf st hg
    subst hP hw hK
    obtain ⟨xs, x, hq, hx⟩ := hg
    obtain ⟨its, rv, p, hz⟩ := I.tuple hq
    obtain ⟨u, hu, ru⟩ := rv.get hx
    obtain ⟨f0, f1, f2, f3, f4, f5⟩ := hf it (by simp)
    refine wpAny_pyNext_tuple_item st (show s.heap.IsTuple a its.toArray from p) (x := u) (by simpa using hu) fun h' st' sb => ?_
    have I1 : Inv X pins σ H { s with heap := h' } := I.turned (t' := s.toks) (fun b o hb e => (sb.2 b hb).trans e) f0 f1 f3 f4 f5
    obtain ⟨o, e, c, d⟩ := id st'
    exact ⟨u, rfl, go_of (s := { s with heap := h' }) e c d (by decide) ⟨x, H, I1, ru, ⟨rfl, fun ys hy => by rw [I.tuple_inj hy hq]; exact hx⟩, st', fun b hb => (hf b hb).1⟩⟩
  done := by
    intro X hP hw hK hc i pins s σ H E I hf st hg
    subst hP hw hK
    obtain ⟨xs, hq, hx⟩ := hg
    obtain ⟨its, rv, p, hz⟩ := I.tuple hq
    obtain ⟨f0, f1, f2, f3, f4, f5⟩ := hf it (by simp)
    have hl := rv.length
    exact wpAny_pyNext_tuple_end (I.ok.hd hc) st (show s.heap.IsTuple a its.toArray from p) (by simp; omega) fun h' eb => ⟨rfl, I.turned (t' := s.toks) (fun b o hb e => eb b o hb e) f0 f1 f3 f4 f5⟩
  self := fun _ _ _ _ _ st h => wpAny_pyIter_tupleiter st h
theorem turn_range {P : Program} {w : World} {K : PySem.W.Frag} {tg : Expr} (it : Addr) (lo : Int) (n : Nat) : Turn P w K tg (Itr lo n) [it] it (fun i h => IsRangeIter h it (lo + (i : Nat) * 1) ((n : Int) - (i : Nat)) 1) where
  mem := by simp
  obj := fun i h st b hb => by
    have e : b = it := by simpa using hb
    subst e
    exact ⟨_, st, fun v z => by
      have z' : Data.fields _ = Data.cell v := z
      cases z'⟩
  keep := fun i h h' st k => k it (by simp) _ st
  item := by
    intro X hP hw hK hc i pins s σ H E I hf st hg
    subst hP hw hK
    obtain ⟨f0, f1, f2, f3, f4, f5⟩ := hf it (by simp)
    have W := Walks.range (prog := X.prog) (w := X.w) (I.ok.hd hc) it lo 1 n
    refine W.item i s _ _ hg st fun v h' tk hv st' kk => ?_
    obtain ⟨t, rfl⟩ := hv
    have I1 : Inv X pins σ H { s with heap := h', toks := tk } := I.turned (fun b o hb e => kk b o (by simpa using hb) e) f0 f1 f3 f4 f5
    refine ⟨_, rfl, go_of (s := { s with heap := h', toks := tk }) (n := "range_iterator") st' rfl rfl (by decide) ⟨.int (lo + i), H, I1, ⟨t, ?_⟩, ⟨rfl, rfl⟩, st', fun b hb => (hf b hb).1⟩⟩
    rw [Int.mul_one]
  done := by
    intro X hP hw hK hc i pins s σ H E I hf st hg
    subst hP hw hK
    obtain ⟨f0, f1, f2, f3, f4, f5⟩ := hf it (by simp)
    exact wpAny_pyNext_range_end (I.ok.hd hc) st (by have : n ≤ i := hg; omega) fun h' eb => ⟨rfl, I.turned (t' := s.toks) (fun b o hb e => eb b o hb e) f0 f1 f3 f4 f5⟩
  self := fun _ _ _ _ _ st h => wpAny_pyIter_rangeiter st h
end L2

namespace L2
open PySem PySem.Spec PyProof.Rows
section
variable {X : Cx} {tg : Expr}
def iList (K : PySem.W.Frag) (tl : TE) : TI := fun σ H R => tl σ H fun x H1 => ∃ a, x = .ref a ∧ (∃ xs, SqL K H1 a xs) ∧ R (Itl K a) H1
def iTup (K : PySem.W.Frag) (tl : TE) : TI := fun σ H R => tl σ H fun x H1 => ∃ a, x = .ref a ∧ (∃ xs, SqT K H1 a xs) ∧ R (Itt K a) H1
theorem pi_list {l : Expr} {tl : TE} (hl : PE X l tl) : PI X tg l (iList X.K tl) := by
  intro pins s σ H R I h
  refine thn (hl pins s σ H _ I h) fun v s1 ⟨x, H1, I1, r1, q1⟩ => ?_
  obtain ⟨a, e, ⟨xs, hq⟩, q⟩ := q1
  subst e
  cases r1
  obtain ⟨its, rv, p, hz⟩ := I1.list hq
  refine wpAny_pyIter_list p.isList ?_
  refine ⟨s1.heap.objs.size, [s1.heap.objs.size], _, _, H1, rfl, I1.kept (t' := s1.toks) fun b o e => Heap.get?_push_of_some _ e, turn_list a _, ⟨_, Heap.get?_push_size _ rfl, rfl, rfl⟩, fun b hb => ?_, q⟩
  have e : b = s1.heap.objs.size := by simpa using hb
  subst e
  exact I1.fpOk (Nat.le_refl _) (I1.hok.fresh (Nat.le_refl _))
theorem pi_tup {l : Expr} {tl : TE} (hl : PE X l tl) : PI X tg l (iTup X.K tl) := by
  intro pins s σ H R I h
  refine thn (hl pins s σ H _ I h) fun v s1 ⟨x, H1, I1, r1, q1⟩ => ?_
  obtain ⟨a, e, ⟨xs, hq⟩, q⟩ := q1
  subst e
  cases r1
  obtain ⟨its, rv, p, hz⟩ := I1.tuple hq
  refine wpAny_pyIter_tuple (show s1.heap.IsTuple a its.toArray from p) ?_
  refine ⟨s1.heap.objs.size, [s1.heap.objs.size], _, _, H1, rfl, I1.kept (t' := s1.toks) fun b o e => Heap.get?_push_of_some _ e, turn_tuple a _, ⟨_, Heap.get?_push_size _ rfl, rfl, rfl⟩, fun b hb => ?_, q⟩
  have e : b = s1.heap.objs.size := by simpa using hb
  subst e
  exact I1.fpOk (Nat.le_refl _) (I1.hok.fresh (Nat.le_refl _))
/-- a range object just made, walked -/
theorem range_it {pins : List (Addr × Obj)} {σ : St} {H : Hp} {s : Shared} {R : It → Hp → Prop} {E : Value → Shared → Prop} {lo hi : Int} {t u v : Tok} {tk : Nat} (I : Inv X pins σ H s) (h1 : -(2 ^ 62) ≤ lo) (h2 : lo < 2 ^ 62) (h3 : -(2 ^ 62) ≤ hi) (h4 : hi < 2 ^ 62)
    (q : R (Itr lo (hi - lo).toNat) H) : wpAny (model X.prog X.w) X.A (pyIter (.ref s.heap.objs.size)) (PIE X pins σ tg R) E { s with heap := s.heap.push { cls := .type "range", data := .fields #[.int lo t, .int hi u, .int 1 v] }, toks := tk } := by
  refine wpAny_pyIter_range (IsRange.new ..) (small_one h1 h2 h3 h4) ?_
  have I1 : Inv X pins σ H { s with heap := s.heap.push { cls := .type "range", data := .fields #[.int lo t, .int hi u, .int 1 v] }, toks := tk } := I.kept fun b o e => Heap.get?_push_of_some _ e
  refine ⟨(s.heap.push { cls := .type "range", data := .fields #[.int lo t, .int hi u, .int 1 v] }).objs.size, [(s.heap.push { cls := .type "range", data := .fields #[.int lo t, .int hi u, .int 1 v] }).objs.size], _, _, H, rfl,
    I1.kept (t' := tk) fun b o e => Heap.get?_push_of_some _ e, turn_range _ lo (hi - lo).toNat, ?_, fun b hb => ?_, q⟩
  · have e1 : lo + ((0 : Nat) : Int) * 1 = lo := by simp
    have e2 : (((hi - lo).toNat : Nat) : Int) - ((0 : Nat) : Int) = Builtin.Range.rangeSize lo hi 1 := by rw [rangeSize_one]; split <;> omega
    show IsRangeIter _ _ (lo + ((0 : Nat) : Int) * 1) ((((hi - lo).toNat : Nat) : Int) - ((0 : Nat) : Int)) 1
    rw [e1, e2]
    exact Heap.get?_push_size _ rfl
  · have e : b = (s.heap.push { cls := .type "range", data := .fields #[.int lo t, .int hi u, .int 1 v] }).objs.size := by simpa using hb
    subst e
    exact I1.fpOk (Nat.le_refl _) (I1.hok.fresh (Nat.le_refl _))
def iRng1 (ta : TA) : TI := fun σ H R => ta σ H fun vs H1 => ∃ j : Int, vs = [.int j] ∧ -(2 ^ 62) ≤ j ∧ j < 2 ^ 62 ∧ R (Itr 0 j.toNat) H1
def iRng2 (ta : TA) : TI := fun σ H R => ta σ H fun vs H1 => ∃ i j : Int, vs = [.int i, .int j] ∧ (-(2 ^ 62) ≤ i ∧ i < 2 ^ 62 ∧ -(2 ^ 62) ≤ j ∧ j < 2 ^ 62) ∧ R (Itr i (j - i).toNat) H1
theorem pi_range1 {a : Expr} {ta : TA} {p pos : Pos} (hg : Gl X "range") (hm : X.mg "range" = none) (ha : PA X [a] ta) (hs : starEach [a] X.env = [(false, eval a X.env)] := by rfl) : PI X tg (.Call (.Name "range" p) [a] [] pos) (iRng1 ta) := by
  intro pins s σ H R I h
  refine Call_ (ld_blt I hg hm boot_range (PyProof.Rows.callWith_type1 (thn (ha pos pins s σ H _ I h) fun us s1 ⟨vs, H1, I1, r1, q1⟩ => ?_) hs rfl))
  obtain ⟨j, e, q1, q2, q⟩ := q1
  subst e
  cases r1 with
  | cons r rr =>
    cases rr
    obtain ⟨t, rfl⟩ := r
    exact call_range_1 (range_it I1 (by omega) (by omega) q1 q2 (by simpa using q))
theorem pi_range2 {a b : Expr} {ta : TA} {p pos : Pos} (hg : Gl X "range") (hm : X.mg "range" = none) (ha : PA X [a, b] ta) (hs : starEach [a, b] X.env = [(false, eval a X.env), (false, eval b X.env)] := by rfl) (hs2 : starEach [b] X.env = [(false, eval b X.env)] := by rfl) :
    PI X tg (.Call (.Name "range" p) [a, b] [] pos) (iRng2 ta) := by
  intro pins s σ H R I h
  refine Call_ (ld_blt I hg hm boot_range (PyProof.Rows.callWith_type1 (thn (ha pos pins s σ H _ I h) fun us s1 ⟨vs, H1, I1, r1, q1⟩ => ?_) (by rw [hs, hs2]) (by rw [hs2]; rfl)))
  obtain ⟨i, j, e, ⟨q1, q2, q3, q4⟩, q⟩ := q1
  subst e
  cases r1 with
  | cons r rr =>
    cases rr with
    | cons r' rr =>
      cases rr
      obtain ⟨t, rfl⟩ := r
      obtain ⟨t', rfl⟩ := r'
      exact call_range_2 (range_it I1 q1 q2 q3 q4 q)

/-! ### for -/
/-- W: the invariant by the turn and a measure; N: what the body is to reach -/
def tFor (wi : TI) (g : TG) (tb : TS) : TS := fun D σ H => wi σ H fun J H1 => ∃ W : Nat → Nat → St → Hp → Prop, (∃ m, W 0 m σ H1) ∧ ∀ i m σ H, W i m σ H →
  (J.stop i H ∧ D.nx σ H) ∨ (J.go i H ∧ ∃ N : St → Hp → Prop, (∀ σ' H', N σ' H' → ∃ m', m' < m ∧ W (i + 1) m' σ' H') ∧ ∀ x H', J.yld i H x H' → g x σ H' fun σ2 H2 => tb { D with nx := N, ct := N, bk := D.nx } σ2 H2)
/-- the records at fp as they stand -/
def pinsAt (fp : List Addr) (h : Heap) : List (Addr × Obj) := fp.filterMap fun b => (h.get? b).map fun o => (b, o)
theorem mem_pinsAt {fp : List Addr} {h : Heap} {b : Addr} {o : Obj} (hb : b ∈ fp) (e : h.get? b = some o) : (b, o) ∈ pinsAt fp h := List.mem_filterMap.mpr ⟨b, hb, by rw [e]; rfl⟩
theorem of_pinsAt {fp : List Addr} {h : Heap} {p : Addr × Obj} (hp : p ∈ pinsAt fp h) : p.1 ∈ fp ∧ h.get? p.1 = some p.2 := by
  obtain ⟨b, hb, e⟩ := List.mem_filterMap.mp hp
  cases q : h.get? b with
  | none => rw [q] at e; cases e
  | some o =>
    rw [q] at e
    have e' : (b, o) = p := Option.some.inj e
    subst e'
    exact ⟨hb, q⟩
theorem Inv.pinned {pins : List (Addr × Obj)} {σ : St} {H : Hp} {s : Shared} {fp : List Addr} (I : Inv X pins σ H s) (hf : ∀ b ∈ fp, FpOk X pins H b) (ho : ∀ b ∈ fp, ∃ o, s.heap.get? b = some o ∧ ∀ v, o.data ≠ .cell v) : Inv X (pins ++ pinsAt fp s.heap) σ H s :=
  I.pins_of fun p hp => (List.mem_append.mp hp).elim (fun z => I.pin p (List.mem_append_right _ z)) fun z => by
    obtain ⟨hb, e⟩ := of_pinsAt z
    obtain ⟨f0, f1, f2, _⟩ := hf p.1 hb
    obtain ⟨o, e', d⟩ := ho p.1 hb
    rw [e] at e'; cases e'
    exact ⟨e, f0, f1, f2, d⟩
theorem Inv.unpinned {pins pl : List (Addr × Obj)} {σ : St} {H : Hp} {s : Shared} (I : Inv X (pins ++ pl) σ H s) : Inv X pins σ H s := I.pins_of fun p hp => I.pin p (List.mem_append_right _ (List.mem_append_left _ hp))
theorem ps_for {iter : Expr} {body : List Stmt} {wi : TI} {g : TG} {tb : TS} {pos : Pos} (hp : PassesOwn (model X.prog X.w) X.A X.env X.xe) (hc : X.calm = true) (hi : PI X tg iter wi) (hg : PG X tg g) (hb : PSs X body tb)
    (hs : ∀ x, foldedSetIterable iter X.env x = pure x := by intro _; rfl) : PS X (.For tg iter body [] pos) (tFor wi g tb) := by
  intro pins s σ H D I h
  refine wpAny_For (thn (hi pins s σ H _ I h) fun v s1 h1 => thn h1 fun itv s2 h2 => ?_) hs
  obtain ⟨it, fp, tn, J, H2, e, I2, T, st2, f2, W, ⟨m0, w0⟩, turn⟩ := h2
  subst e
  -- what stays true of the iterator's objects through the loop
  have stat : ∀ {H' : Hp}, (∀ b ∈ fp, H' b = none) → ∀ b ∈ fp, FpOk X pins H' b := fun hn b hb => ⟨hn b hb, (f2 b hb).2⟩
  refine codeAny_forLoop_any (fun n s' => ∃ i σ' H', Inv X pins σ' H' s' ∧ tn i s'.heap ∧ (∀ b ∈ fp, H' b = none) ∧ W i n σ' H') ?_ m0 ⟨0, σ, H2, I2, st2, fun b hb => (f2 b hb).1, w0⟩
  rintro n s3 ⟨i, σ3, H3, I3, st3, fr3, w3⟩
  rcases turn i n σ3 H3 w3 with ⟨stop, qn⟩ | ⟨go, N, hN, step⟩
  · refine wpAny_passesOwn hp (thn (T.done X rfl rfl rfl hc i pins s3 σ3 H3 X.xe I3 (stat fr3) st3 stop) fun r s4 ⟨hr, I4⟩ => ?_)
    subst hr
    exact wpAny_execs_nil ⟨σ3, H3, I4, qn⟩
  · refine wpAny_passesOwn hp (thn (T.item X rfl rfl rfl hc i pins s3 σ3 H3 X.xe I3 (stat fr3) st3 go) fun r s4 ⟨u, hr, h4⟩ => ?_)
    subst hr
    refine wpAny_passesOwn hp (thn h4 fun _ s5 ⟨x, H5, I5, r5, y5, st5, fr5⟩ => ?_)
    have I5' := I5.pinned (stat fr5) (T.obj _ _ st5)
    refine wpAny_passesOwn hp (thn (hg _ s5 σ3 H5 x u _ I5' r5 (step x H5 y5)) fun _ s6 ⟨σ6, H6, I6, q6⟩ => ?_)
    refine wpAny_passesOwn hp (thn (hb _ s6 σ6 H6 _ I6 q6) fun f s7 q7 => ?_)
    have again : ∀ {σ7 : St} {H7 : Hp}, Inv X (pins ++ pinsAt fp s5.heap) σ7 H7 s7 → N σ7 H7 → ∃ m, m < n ∧ ∃ i σ' H', Inv X pins σ' H' s7 ∧ tn i s7.heap ∧ (∀ b ∈ fp, H' b = none) ∧ W i m σ' H' := fun {σ7 H7} I7 n7 => by
      obtain ⟨m', hm, w7⟩ := hN σ7 H7 n7
      refine ⟨m', hm, i + 1, σ7, H7, I7.unpinned, T.keep _ _ _ st5 fun b hb o e => (I7.pin (b, o) (List.mem_append_right _ (List.mem_append_right _ (mem_pinsAt hb e)))).1, fun b hb => ?_, w7⟩
      obtain ⟨o, e, d⟩ := T.obj _ _ st5 b hb
      exact (I7.pin (b, o) (List.mem_append_right _ (List.mem_append_right _ (mem_pinsAt hb e)))).2.1
    cases f with
    | next => obtain ⟨σ7, H7, I7, n7⟩ := q7; exact again I7 n7
    | cont => obtain ⟨σ7, H7, I7, n7⟩ := q7; exact again I7 n7
    | brk => obtain ⟨σ7, H7, I7, q7⟩ := q7; exact ⟨σ7, H7, I7.unpinned, q7⟩
    | ret v => obtain ⟨x7, σ7, H7, I7, r7, q7⟩ := q7; exact ⟨x7, σ7, H7, I7.unpinned, r7, q7⟩
end

/-! ### the forms one uses -/
/-- over a list that the body leaves as it is -/
theorem for_list {K : PySem.W.Frag} {a : Addr} {xs : List V} {g : TG} {tb : TS} {D : Ends} {σ : St} {H : Hp} (Pv : Nat → St → Hp → Prop) (h0 : Pv 0 σ H) (hl : ∀ i σ H, i ≤ xs.length → Pv i σ H → SqL K H a xs)
    (hs : ∀ i x σ H, xs[i]? = some x → Pv i σ H → g x σ H fun σ2 H2 => tb { D with nx := Pv (i + 1), ct := Pv (i + 1), bk := D.nx } σ2 H2) (hd : ∀ σ H, Pv xs.length σ H → D.nx σ H) :
    ∃ W : Nat → Nat → St → Hp → Prop, (∃ m, W 0 m σ H) ∧ ∀ i m σ H, W i m σ H →
      ((Itl K a).stop i H ∧ D.nx σ H) ∨ ((Itl K a).go i H ∧ ∃ N : St → Hp → Prop, (∀ σ' H', N σ' H' → ∃ m', m' < m ∧ W (i + 1) m' σ' H') ∧ ∀ x H', (Itl K a).yld i H x H' → g x σ H' fun σ2 H2 => tb { D with nx := N, ct := N, bk := D.nx } σ2 H2) := by
  refine ⟨fun i m σ H => m = xs.length - i ∧ i ≤ xs.length ∧ Pv i σ H, ⟨xs.length, by simp, Nat.zero_le _, h0⟩, ?_⟩
  rintro i m σ H ⟨rfl, hi, p⟩
  have q := hl i σ H hi p
  by_cases hlt : i < xs.length
  · refine .inr ⟨⟨xs, xs[i], q, by simp [hlt]⟩, Pv (i + 1), fun σ' H' p' => ⟨xs.length - (i + 1), by omega, rfl, hlt, p'⟩, fun x H' y => ?_⟩
    obtain ⟨e, y⟩ := y
    subst e
    exact hs i x σ _ (y xs q) p
  · have e : i = xs.length := by omega
    subst e
    exact .inl ⟨⟨xs, q, Nat.le_refl _⟩, hd σ H p⟩
theorem for_tup {K : PySem.W.Frag} {a : Addr} {xs : List V} {g : TG} {tb : TS} {D : Ends} {σ : St} {H : Hp} (Pv : Nat → St → Hp → Prop) (h0 : Pv 0 σ H) (hl : ∀ i σ H, i ≤ xs.length → Pv i σ H → SqT K H a xs)
    (hs : ∀ i x σ H, xs[i]? = some x → Pv i σ H → g x σ H fun σ2 H2 => tb { D with nx := Pv (i + 1), ct := Pv (i + 1), bk := D.nx } σ2 H2) (hd : ∀ σ H, Pv xs.length σ H → D.nx σ H) :
    ∃ W : Nat → Nat → St → Hp → Prop, (∃ m, W 0 m σ H) ∧ ∀ i m σ H, W i m σ H →
      ((Itt K a).stop i H ∧ D.nx σ H) ∨ ((Itt K a).go i H ∧ ∃ N : St → Hp → Prop, (∀ σ' H', N σ' H' → ∃ m', m' < m ∧ W (i + 1) m' σ' H') ∧ ∀ x H', (Itt K a).yld i H x H' → g x σ H' fun σ2 H2 => tb { D with nx := N, ct := N, bk := D.nx } σ2 H2) := by
  refine ⟨fun i m σ H => m = xs.length - i ∧ i ≤ xs.length ∧ Pv i σ H, ⟨xs.length, by simp, Nat.zero_le _, h0⟩, ?_⟩
  rintro i m σ H ⟨rfl, hi, p⟩
  have q := hl i σ H hi p
  by_cases hlt : i < xs.length
  · refine .inr ⟨⟨xs, xs[i], q, by simp [hlt]⟩, Pv (i + 1), fun σ' H' p' => ⟨xs.length - (i + 1), by omega, rfl, hlt, p'⟩, fun x H' y => ?_⟩
    obtain ⟨e, y⟩ := y
    subst e
    exact hs i x σ _ (y xs q) p
  · have e : i = xs.length := by omega
    subst e
    exact .inl ⟨⟨xs, q, Nat.le_refl _⟩, hd σ H p⟩
theorem for_range {lo : Int} {n : Nat} {g : TG} {tb : TS} {D : Ends} {σ : St} {H : Hp} (Pv : Nat → St → Hp → Prop) (h0 : Pv 0 σ H)
    (hs : ∀ i σ H, i < n → Pv i σ H → g (.int (lo + i)) σ H fun σ2 H2 => tb { D with nx := Pv (i + 1), ct := Pv (i + 1), bk := D.nx } σ2 H2) (hd : ∀ σ H, Pv n σ H → D.nx σ H) :
    ∃ W : Nat → Nat → St → Hp → Prop, (∃ m, W 0 m σ H) ∧ ∀ i m σ H, W i m σ H →
      ((Itr lo n).stop i H ∧ D.nx σ H) ∨ ((Itr lo n).go i H ∧ ∃ N : St → Hp → Prop, (∀ σ' H', N σ' H' → ∃ m', m' < m ∧ W (i + 1) m' σ' H') ∧ ∀ x H', (Itr lo n).yld i H x H' → g x σ H' fun σ2 H2 => tb { D with nx := N, ct := N, bk := D.nx } σ2 H2) := by
  refine ⟨fun i m σ H => m = n - i ∧ i ≤ n ∧ Pv i σ H, ⟨n, by simp, Nat.zero_le _, h0⟩, ?_⟩
  rintro i m σ H ⟨rfl, hi, p⟩
  by_cases hlt : i < n
  · refine .inr ⟨hlt, Pv (i + 1), fun σ' H' p' => ⟨n - (i + 1), by omega, rfl, hlt, p'⟩, fun x H' y => ?_⟩
    obtain ⟨e, y⟩ := y
    subst e y
    exact hs i σ _ hlt p
  · have e : i = n := by omega
    subst e
    exact .inl ⟨Nat.le_refl _, hd σ H p⟩
/-- while, by a word and a measure of the state -/
theorem while_by {c : TT} {tb : TS} {D : Ends} {σ : St} {H : Hp} (Pv : St → Hp → Prop) (μ : St → Hp → Nat) (h0 : Pv σ H)
    (hs : ∀ σ H, Pv σ H → c σ H fun b H1 => if b = true then tb { D with nx := fun σ' H' => Pv σ' H' ∧ μ σ' H' < μ σ H, ct := fun σ' H' => Pv σ' H' ∧ μ σ' H' < μ σ H, bk := D.nx } σ H1 else D.nx σ H1)
    (mono : ∀ σ H Q Q', (∀ b H1, Q b H1 → Q' b H1) → c σ H Q → c σ H Q') : tWhile c tb D σ H := by
  refine ⟨fun m σ H => m = μ σ H ∧ Pv σ H, ⟨_, rfl, h0⟩, ?_⟩
  rintro m σ H ⟨rfl, p⟩
  refine mono σ H _ _ (fun b H1 q => ?_) (hs σ H p)
  cases b with
  | true => exact ⟨_, fun σ' H' ⟨p', l⟩ => ⟨_, l, rfl, p'⟩, q⟩
  | false => exact q
end L2

namespace L2
open PySem PySem.Spec PyProof.Rows

abbrev R2 := V → V → Hp → VK → Prop
/-- a two-place operation on values: f is binaryOp op, inplaceOp op or compareOp op -/
def OpR (X : Cx) (f : Value → Value → Sem Value) (r : R2) : Prop :=
  ∀ (pins : List (Addr × Obj)) (s : Shared) (σ : St) (H : Hp) (x y : V) (v u : Value) (Q : VK), Inv X pins σ H s → RelV x v → RelV y u → r x y H Q →
    wpAny (model X.prog X.w) X.A (f v u) (EP X pins σ Q) X.xe s
/-- a one-place operation -/
def UnR (X : Cx) (f : Value → Sem Value) (r : V → Hp → VK → Prop) : Prop :=
  ∀ (pins : List (Addr × Obj)) (s : Shared) (σ : St) (H : Hp) (x : V) (v : Value) (Q : VK), Inv X pins σ H s → RelV x v → r x H Q →
    wpAny (model X.prog X.w) X.A (f v) (EP X pins σ Q) X.xe s
/-- a call of a value that is known (a builtin, a type) with values -/
def CallR (X : Cx) (f : Value) (r : List V → Hp → VK → Prop) : Prop :=
  ∀ (pins : List (Addr × Obj)) (s : Shared) (σ : St) (H : Hp) (xs : List V) (us : List Value) (Q : VK), Inv X pins σ H s → Vals xs us → r xs H Q →
    wpAny (model X.prog X.w) X.A (call f us) (EP X pins σ Q) X.xe s
/-- a value's truth -/
def TruR (X : Cx) (r : V → Hp → (Bool → Hp → Prop) → Prop) : Prop :=
  ∀ (pins : List (Addr × Obj)) (s : Shared) (σ : St) (H : Hp) (x : V) (v : Value) (Q : Bool → Hp → Prop), Inv X pins σ H s → RelV x v → r x H Q →
    wpAny (model X.prog X.w) X.A (truthy v) (TP X pins σ Q) X.xe s

def tOp (r : R2) (ta tb : TE) : TE := fun σ H Q => ta σ H fun x H1 => tb σ H1 fun y H2 => r x y H2 Q
def tUn (r : V → Hp → VK → Prop) (ta : TE) : TE := fun σ H Q => ta σ H fun x H1 => r x H1 Q
/-- ints in, under C, and a value out -/
def rI (C : Int → Int → Prop) (g : Int → Int → V) : R2 := fun x y H Q => ∃ i j, x = .int i ∧ y = .int j ∧ C i j ∧ Q (g i j) H
def rI0 (g : Int → Int → V) : R2 := fun x y H Q => ∃ i j, x = .int i ∧ y = .int j ∧ Q (g i j) H
def rU (g : Int → V) : V → Hp → VK → Prop := fun x H Q => ∃ i, x = .int i ∧ Q (g i) H

section
variable {X : Cx} {a b c : Expr} {ta tb tc : TE} {pos : Pos}

theorem binT (ha : PE X a ta) (hb : PE X b tb) {pins : List (Addr × Obj)} {s : Shared} {σ : St} {H : Hp} {R : V → V → Hp → Prop} (I : Inv X pins σ H s)
    (h : ta σ H fun x H1 => tb σ H1 fun y H2 => R x y H2) {Q : Value → Shared → Prop} {f : Value → Value → Sem Value}
    (hf : ∀ v u s2 x y H2, Inv X pins σ H2 s2 → RelV x v → RelV y u → R x y H2 → wpAny (model X.prog X.w) X.A (f v u) Q X.xe s2) :
    wpAny (model X.prog X.w) X.A (eval a X.env) (fun v s₁ => wpAny (model X.prog X.w) X.A (eval b X.env) (fun u s₂ => wpAny (model X.prog X.w) X.A (f v u) Q X.xe s₂) X.xe s₁) X.xe s := by
  refine thn (ha pins s σ H _ I h) fun v s1 ⟨x, H1, I1, r1, q1⟩ => ?_
  refine thn (hb pins s1 σ H1 _ I1 q1) fun u s2 ⟨y, H2, I2, r2, q2⟩ => ?_
  exact hf v u s2 x y H2 I2 r1 r2 q2

theorem pe_op {op : Operator} {r : R2} (ho : OpR X (binaryOp op) r) (ha : PE X a ta) (hb : PE X b tb) : PE X (.BinOp a op b pos) (tOp r ta tb) := by
  intro pins s σ H Q I h
  exact wpAny_BinOp (binT ha hb I h fun v u s2 x y H2 I2 rx ry q => ho pins s2 σ H2 x y v u Q I2 rx ry q)
theorem pe_un {op : UnaryOp} {r : V → Hp → VK → Prop} (ho : UnR X (unaryOp op) r) (ha : PE X a ta) : PE X (.UnaryOp op a pos) (tUn r ta) := by
  intro pins s σ H Q I h
  exact UnaryOp_ (thn (ha pins s σ H _ I h) fun v s1 ⟨x, H1, I1, r1, q1⟩ => ho pins s1 σ H1 x v Q I1 r1 q1)
/-- a op= e at a name: the name's slot i -/
theorem augR {op : Operator} {r : R2} (ho : OpR X (inplaceOp op) r) {pins : List (Addr × Obj)} {s : Shared} {σ : St} {H : Hp} {x y : V} {v u : Value} {Q : VK} (I : Inv X pins σ H s)
    (rx : RelV x v) (ry : RelV y u) (q : r x y H Q) : wpAny (model X.prog X.w) X.A (inplaceOp op v u) (EP X pins σ Q) X.xe s := ho pins s σ H x y v u Q I rx ry q

/-! ### ints -/
theorem opI {f : Value → Value → Sem Value} {C : Int → Int → Prop} {g : Int → Int → Int}
    (rule : ∀ (i j : Int) (t u : Tok) (s : Shared) (Q : Value → Shared → Prop) (E : Value → Shared → Prop), C i j → Q (.int (g i j) s.toks) { s with toks := s.toks + 1 } → wpAny (model X.prog X.w) X.A (f (.int i t) (.int j u)) Q E s) :
    OpR X f (rI C fun i j => .int (g i j)) := by
  intro pins s σ H x y v u Q I rx ry h
  obtain ⟨i, j, rfl, rfl, hc, q⟩ := h
  obtain ⟨t, rfl⟩ := rx
  obtain ⟨t', rfl⟩ := ry
  exact rule i j t t' s _ _ hc ⟨.int (g i j), H, I.tok _, ⟨_, rfl⟩, q⟩
theorem opI0 {f : Value → Value → Sem Value} {g : Int → Int → Int}
    (rule : ∀ (i j : Int) (t u : Tok) (s : Shared) (Q : Value → Shared → Prop) (E : Value → Shared → Prop), Q (.int (g i j) s.toks) { s with toks := s.toks + 1 } → wpAny (model X.prog X.w) X.A (f (.int i t) (.int j u)) Q E s) :
    OpR X f (rI0 fun i j => .int (g i j)) := by
  intro pins s σ H x y v u Q I rx ry h
  obtain ⟨i, j, rfl, rfl, q⟩ := h
  obtain ⟨t, rfl⟩ := rx
  obtain ⟨t', rfl⟩ := ry
  exact rule i j t t' s _ _ ⟨.int (g i j), H, I.tok _, ⟨_, rfl⟩, q⟩
theorem opB0 {f : Value → Value → Sem Value} {g : Int → Int → Bool}
    (rule : ∀ (i j : Int) (t u : Tok) (s : Shared) (Q : Value → Shared → Prop) (E : Value → Shared → Prop), Q (.bool (g i j)) s → wpAny (model X.prog X.w) X.A (f (.int i t) (.int j u)) Q E s) :
    OpR X f (rI0 fun i j => .bl (g i j)) := by
  intro pins s σ H x y v u Q I rx ry h
  obtain ⟨i, j, rfl, rfl, q⟩ := h
  obtain ⟨t, rfl⟩ := rx
  obtain ⟨t', rfl⟩ := ry
  exact rule i j t t' s _ _ ⟨.bl (g i j), H, I, rfl, q⟩

def CDiv (i j : Int) : Prop := 0 < j ∧ j < 1073741824
def CDivN (i j : Int) : Prop := j ≠ 0 ∧ j.natAbs < 1073741824
def CPow (i j : Int) : Prop := 0 ≤ j ∧ j ≤ 1000000 ∧ i.natAbs < 2 ^ 64
def CMul (i j : Int) : Prop := (-(2 ^ 64) < i ∧ i < 2 ^ 64) ∨ (-(2 ^ 64) < j ∧ j < 2 ^ 64)
theorem CMul.ok {i j : Int} (h : CMul i j) : IntMulOk i j := by
  rcases h with ⟨h1, h2⟩ | ⟨h1, h2⟩
  · exact .of_left (intBits_le_64 h1 h2)
  · exact .of_right (intBits_le_64 h1 h2)
theorem two_pow_nn (k : Nat) : (0 : Int) ≤ 2 ^ k := by
  rw [two_pow_cast]
  exact Int.natCast_nonneg _

theorem op_add : OpR X (binaryOp .Add) (rI0 fun i j => .int (i + j)) := opI0 fun _ _ _ _ _ _ _ q => add_int q
theorem op_sub : OpR X (binaryOp .Sub) (rI0 fun i j => .int (i - j)) := opI0 fun _ _ _ _ _ _ _ q => sub_int q
theorem op_mul : OpR X (binaryOp .Mult) (rI CMul fun i j => .int (i * j)) := opI fun _ _ _ _ _ _ _ hc q => mul_int q hc.ok
/-- // by a positive divisor -/
theorem op_fdiv : OpR X (binaryOp .FloorDiv) (rI CDiv fun i j => .int (i / j)) := opI fun i j _ _ _ _ _ hc q => by
  have h1 : (0 : Int) < j := hc.1
  have h2 : j < 1073741824 := hc.2
  exact floordiv_int (by omega) (by rw [Int.fdiv_eq_ediv_of_nonneg i (by omega)]; exact q) (.inl (PyProof.noPylong_small (by omega)))
theorem op_fdivN : OpR X (binaryOp .FloorDiv) (rI CDivN fun i j => .int (i.fdiv j)) := opI fun _ _ _ _ _ _ _ hc q => floordiv_int hc.1 q (.inl (PyProof.noPylong_small hc.2))
/-- % by a positive divisor of any size -/
theorem op_mod : OpR X (binaryOp .Mod) (rI (fun _ j => 0 < j) fun i j => .int (i % j)) := opI fun i j _ _ _ _ _ hc q => by
  have h1 : (0 : Int) < j := hc
  exact mod_int' (by omega) (by rw [Int.fmod_eq_emod_of_nonneg i (by omega)]; exact q)
theorem op_modN : OpR X (binaryOp .Mod) (rI (fun _ j => j ≠ 0) fun i j => .int (i.fmod j)) := opI fun _ _ _ _ _ _ _ hc q => mod_int' hc q
theorem op_pow : OpR X (binaryOp .Pow) (rI CPow fun i j => .int (i ^ j.toNat)) := opI fun _ _ _ _ _ _ _ hc q => pow_int_small hc.1 hc.2.1 hc.2.2 q
theorem op_shl : OpR X (binaryOp .LShift) (rI CPow fun i j => .int (i * 2 ^ j.toNat)) := opI fun _ _ _ _ _ _ _ hc q => lshift_int_small hc.1 hc.2.1 hc.2.2 q
theorem op_shr : OpR X (binaryOp .RShift) (rI (fun _ j => 0 ≤ j) fun i j => .int (i / 2 ^ j.toNat)) := opI fun i j _ _ _ _ _ hc q =>
  rshift_int hc (by rw [Int.fdiv_eq_ediv_of_nonneg i (two_pow_nn _)]; exact q)
theorem op_and : OpR X (binaryOp .BitAnd) (rI0 fun i j => .int (Builtin.bitAnd i j)) := opI0 fun _ _ _ _ _ _ _ q => and_int q
theorem op_or : OpR X (binaryOp .BitOr) (rI0 fun i j => .int (Builtin.bitOr i j)) := opI0 fun _ _ _ _ _ _ _ q => or_int q
theorem op_xor : OpR X (binaryOp .BitXor) (rI0 fun i j => .int (Builtin.bitXor i j)) := opI0 fun _ _ _ _ _ _ _ q => xor_int q

theorem iop_add : OpR X (inplaceOp .Add) (rI0 fun i j => .int (i + j)) := opI0 fun _ _ _ _ _ _ _ q => iadd_int q
theorem iop_sub : OpR X (inplaceOp .Sub) (rI0 fun i j => .int (i - j)) := opI0 fun _ _ _ _ _ _ _ q => isub_int q
theorem iop_mul : OpR X (inplaceOp .Mult) (rI CMul fun i j => .int (i * j)) := opI fun _ _ _ _ _ _ _ hc q => imul_int q hc.ok
theorem iop_fdiv : OpR X (inplaceOp .FloorDiv) (rI CDiv fun i j => .int (i / j)) := opI fun i j _ _ _ _ _ hc q => by
  have h1 : (0 : Int) < j := hc.1
  have h2 : j < 1073741824 := hc.2
  exact ifloordiv_int (by omega) (by rw [Int.fdiv_eq_ediv_of_nonneg i (by omega)]; exact q) (.inl (PyProof.noPylong_small (by omega)))
theorem iop_mod : OpR X (inplaceOp .Mod) (rI (fun _ j => 0 < j) fun i j => .int (i % j)) := opI fun i j _ _ _ _ _ hc q => by
  have h1 : (0 : Int) < j := hc
  exact imod_int (by omega) (by rw [Int.fmod_eq_emod_of_nonneg i (by omega)]; exact q)
theorem iop_shl : OpR X (inplaceOp .LShift) (rI CPow fun i j => .int (i * 2 ^ j.toNat)) := opI fun _ _ _ _ _ _ _ hc q => ilshift_int_small hc.1 hc.2.1 hc.2.2 q
theorem iop_shr : OpR X (inplaceOp .RShift) (rI (fun _ j => 0 ≤ j) fun i j => .int (i / 2 ^ j.toNat)) := opI fun i j _ _ _ _ _ hc q =>
  irshift_int hc (by rw [Int.fdiv_eq_ediv_of_nonneg i (two_pow_nn _)]; exact q)
theorem iop_and : OpR X (inplaceOp .BitAnd) (rI0 fun i j => .int (Builtin.bitAnd i j)) := opI0 fun _ _ _ _ _ _ _ q => iand_int q
theorem iop_or : OpR X (inplaceOp .BitOr) (rI0 fun i j => .int (Builtin.bitOr i j)) := opI0 fun _ _ _ _ _ _ _ q => ior_int q
theorem iop_xor : OpR X (inplaceOp .BitXor) (rI0 fun i j => .int (Builtin.bitXor i j)) := opI0 fun _ _ _ _ _ _ _ q => ixor_int q

theorem unI {f : Value → Sem Value} {g : Int → Int}
    (rule : ∀ (i : Int) (t : Tok) (s : Shared) (Q : Value → Shared → Prop) (E : Value → Shared → Prop), Q (.int (g i) s.toks) { s with toks := s.toks + 1 } → wpAny (model X.prog X.w) X.A (f (.int i t)) Q E s) :
    UnR X f (rU fun i => .int (g i)) := by
  intro pins s σ H x v Q I rx h
  obtain ⟨i, rfl, q⟩ := h
  obtain ⟨t, rfl⟩ := rx
  exact rule i t s _ _ ⟨.int (g i), H, I.tok _, ⟨_, rfl⟩, q⟩
theorem un_neg : UnR X (unaryOp .USub) (rU fun i => .int (-i)) := unI fun _ _ _ _ _ q => neg_int q
theorem un_inv : UnR X (unaryOp .Invert) (rU fun i => .int (Builtin.bitNot i)) := unI fun _ _ _ _ _ q => invert_int q

/-! ### bools among ints: n += (a < b) -/
theorem op_add_ib : OpR X (binaryOp .Add) (fun x y H Q => ∃ i k, x = .int i ∧ y = .bl k ∧ Q (.int (i + b2i k)) H) := by
  intro pins s σ H x y v u Q I rx ry h
  obtain ⟨i, k, rfl, rfl, q⟩ := h
  obtain ⟨t, rfl⟩ := rx
  cases ry
  exact add_int_bool ⟨.int (i + b2i k), H, I.tok _, ⟨_, rfl⟩, q⟩
end

/-! ### comparisons -/
/-- the scalars that == tells apart as data does -/
def scal : V → V → Bool
  | .non, .non => true | .non, .int _ => true | .int _, .non => true | .non, .bl _ => true | .bl _, .non => true | .non, .str _ => true | .str _, .non => true
  | .int _, .int _ => true | .bl _, .bl _ => true | .str _, .str _ => true | .byt _, .byt _ => true
  | .int _, .str _ => true | .str _, .int _ => true | .bl _, .str _ => true | .str _, .bl _ => true
  | _, _ => false
def rEq : R2 := fun x y H Q => scal x y = true ∧ Q (.bl (decide (x = y))) H
def rNe : R2 := fun x y H Q => scal x y = true ∧ Q (.bl (!decide (x = y))) H

theorem dec_int {i j : Int} : decide (V.int i = V.int j) = (i == j) := by
  rw [Bool.eq_iff_iff]
  simp
theorem dec_bl {i j : Bool} : decide (V.bl i = V.bl j) = (i == j) := by
  rw [Bool.eq_iff_iff]
  simp
theorem dec_str {i j : Str} : decide (V.str i = V.str j) = (i == j) := by
  rw [Bool.eq_iff_iff]
  simp
theorem dec_byt {i j : Array UInt8} : decide (V.byt i = V.byt j) = (i.toList == j.toList) := by
  rw [Bool.eq_iff_iff]
  cases i
  cases j
  simp

section
variable {X : Cx} {a b c : Expr} {ta tb tc : TE} {pos : Pos}
theorem fin_bl {pins : List (Addr × Obj)} {σ : St} {H : Hp} {s : Shared} {Q : VK} {k k' : Bool} (I : Inv X pins σ H s) (q : Q (.bl k) H) (e : k = k') : EP X pins σ Q (.bool k') s := by
  subst e
  exact ⟨.bl k, H, I, rfl, q⟩
theorem op_eq : OpR X (compareOp .Eq) rEq := by
  intro pins s σ H x y v u Q I rx ry h
  obtain ⟨hs, q⟩ := h
  cases x with
  | non =>
    cases rx
    cases y with
    | non => cases ry; exact PySem.EqNone.eq_none_none (fin_bl I q (by simp))
    | bl j => cases ry; exact PySem.EqNone.eq_none_bool (fin_bl I q (by simp))
    | int j => obtain ⟨t', rfl⟩ := ry; exact PySem.EqNone.eq_none_int (fin_bl I q (by simp))
    | str j => obtain ⟨t', rfl⟩ := ry; exact PySem.EqNone.eq_none_str (fin_bl I q (by simp))
    | _ => exact absurd (show false = true from hs) Bool.false_ne_true
  | bl i =>
    cases rx
    cases y with
    | non => cases ry; exact PySem.EqNone.eq_bool_none (fin_bl I q (by simp))
    | bl j => cases ry; exact eq_bool (fin_bl I q dec_bl)
    | str j => obtain ⟨t', rfl⟩ := ry; exact PySem.EqMixed.eq_bool_str (fin_bl I q (by simp))
    | _ => exact absurd (show false = true from hs) Bool.false_ne_true
  | int i =>
    obtain ⟨t, rfl⟩ := rx
    cases y with
    | non => cases ry; exact PySem.EqNone.eq_int_none (fin_bl I q (by simp))
    | int j => obtain ⟨t', rfl⟩ := ry; exact eq_int (fin_bl I q dec_int)
    | str j => obtain ⟨t', rfl⟩ := ry; exact PySem.EqMixed.eq_int_str (fin_bl I q (by simp))
    | _ => exact absurd (show false = true from hs) Bool.false_ne_true
  | str i =>
    obtain ⟨t, rfl⟩ := rx
    cases y with
    | non => cases ry; exact PySem.EqNone.eq_str_none (fin_bl I q (by simp))
    | bl j => cases ry; exact PySem.EqMixed.eq_str_bool (fin_bl I q (by simp))
    | int j => obtain ⟨t', rfl⟩ := ry; exact PySem.EqMixed.eq_str_int (fin_bl I q (by simp))
    | str j => obtain ⟨t', rfl⟩ := ry; exact eq_str (fin_bl I q dec_str)
    | _ => exact absurd (show false = true from hs) Bool.false_ne_true
  | byt i =>
    obtain ⟨t, rfl⟩ := rx
    cases y with
    | byt j => obtain ⟨t', rfl⟩ := ry; exact PySem.W.eq_bytes (fin_bl I q dec_byt)
    | _ => exact absurd (show false = true from hs) Bool.false_ne_true
  | _ => cases y <;> exact absurd (show false = true from hs) Bool.false_ne_true
theorem op_ne : OpR X (compareOp .NotEq) rNe := by
  intro pins s σ H x y v u Q I rx ry h
  obtain ⟨hs, q⟩ := h
  cases x with
  | non =>
    cases rx
    cases y with
    | non => cases ry; exact PySem.EqNone.ne_none_none (fin_bl I q (by simp))
    | bl j => cases ry; exact PySem.EqNone.ne_none_bool (fin_bl I q (by simp))
    | int j => obtain ⟨t', rfl⟩ := ry; exact PySem.EqNone.ne_none_int (fin_bl I q (by simp))
    | str j => obtain ⟨t', rfl⟩ := ry; exact PySem.EqNone.ne_none_str (fin_bl I q (by simp))
    | _ => exact absurd (show false = true from hs) Bool.false_ne_true
  | bl i =>
    cases rx
    cases y with
    | non => cases ry; exact PySem.EqNone.ne_bool_none (fin_bl I q (by simp))
    | bl j => cases ry; exact ne_bool (fin_bl I q (congrArg not dec_bl))
    | str j => obtain ⟨t', rfl⟩ := ry; exact PySem.EqMixed.ne_bool_str (fin_bl I q (by simp))
    | _ => exact absurd (show false = true from hs) Bool.false_ne_true
  | int i =>
    obtain ⟨t, rfl⟩ := rx
    cases y with
    | non => cases ry; exact PySem.EqNone.ne_int_none (fin_bl I q (by simp))
    | int j => obtain ⟨t', rfl⟩ := ry; exact ne_int (fin_bl I q (congrArg not dec_int))
    | str j => obtain ⟨t', rfl⟩ := ry; exact PySem.EqMixed.ne_int_str (fin_bl I q (by simp))
    | _ => exact absurd (show false = true from hs) Bool.false_ne_true
  | str i =>
    obtain ⟨t, rfl⟩ := rx
    cases y with
    | non => cases ry; exact PySem.EqNone.ne_str_none (fin_bl I q (by simp))
    | bl j => cases ry; exact PySem.EqMixed.ne_str_bool (fin_bl I q (by simp))
    | int j => obtain ⟨t', rfl⟩ := ry; exact PySem.EqMixed.ne_str_int (fin_bl I q (by simp))
    | str j => obtain ⟨t', rfl⟩ := ry; exact ne_str (fin_bl I q (congrArg not dec_str))
    | _ => exact absurd (show false = true from hs) Bool.false_ne_true
  | byt i =>
    obtain ⟨t, rfl⟩ := rx
    cases y with
    | byt j => obtain ⟨t', rfl⟩ := ry; exact PySem.W.ne_bytes (fin_bl I q (congrArg not dec_byt))
    | _ => exact absurd (show false = true from hs) Bool.false_ne_true
  | _ => cases y <;> exact absurd (show false = true from hs) Bool.false_ne_true

theorem op_lt : OpR X (compareOp .Lt) (rI0 fun i j => .bl (decide (i < j))) := opB0 fun _ _ _ _ _ _ _ q => lt_int q
theorem op_le : OpR X (compareOp .LtE) (rI0 fun i j => .bl (decide (i ≤ j))) := opB0 fun _ _ _ _ _ _ _ q => le_int q
theorem op_gt : OpR X (compareOp .Gt) (rI0 fun i j => .bl (decide (j < i))) := opB0 fun _ _ _ _ _ _ _ q => gt_int q
theorem op_ge : OpR X (compareOp .GtE) (rI0 fun i j => .bl (decide (j ≤ i))) := opB0 fun _ _ _ _ _ _ _ q => ge_int q
theorem op_lt_str : OpR X (compareOp .Lt) (fun x y H Q => ∃ i j, x = .str i ∧ y = .str j ∧ Q (.bl (decide (i.cps.toList < j.cps.toList))) H) := by
  intro pins s σ H x y v u Q I rx ry h
  obtain ⟨i, j, rfl, rfl, q⟩ := h
  obtain ⟨t, rfl⟩ := rx
  obtain ⟨t', rfl⟩ := ry
  exact lt_str (fin_bl I q rfl)
/-- the one string within the other -/
theorem op_in_str : OpR X (compareOp .In) (fun x y H Q => ∃ i j, x = .str i ∧ y = .str j ∧ Q (.bl (!(Builtin.Str.occurrences j i 0 j.length 1).isEmpty)) H) := by
  intro pins s σ H x y v u Q I rx ry h
  obtain ⟨i, j, rfl, rfl, q⟩ := h
  obtain ⟨t, rfl⟩ := rx
  obtain ⟨t', rfl⟩ := ry
  exact in_str (fin_bl I q rfl)

/-- is None, is not None: the right side a value none -/
theorem op_isN : OpR X (compareOp .Is) (fun x y H Q => y = .non ∧ Q (.bl (decide (x = .non))) H) := by
  intro pins s σ H x y v u Q I rx ry h
  obtain ⟨rfl, q⟩ := h
  cases ry
  refine is_none_gen (fin_bl I q ?_)
  cases x <;> first
    | (cases rx; rfl)
    | (obtain ⟨t, rfl⟩ := rx; rfl)
theorem op_notN : OpR X (compareOp .IsNot) (fun x y H Q => y = .non ∧ Q (.bl (!decide (x = .non))) H) := by
  intro pins s σ H x y v u Q I rx ry h
  obtain ⟨rfl, q⟩ := h
  cases ry
  refine isnot_none_gen (fin_bl I q ?_)
  cases x <;> first
    | (cases rx; rfl)
    | (obtain ⟨t, rfl⟩ := rx; rfl)

theorem op_notin_str : OpR X (compareOp .NotIn) (fun x y H Q => ∃ i j, x = .str i ∧ y = .str j ∧ Q (.bl (!(!(Builtin.Str.occurrences j i 0 j.length 1).isEmpty))) H) := by
  intro pins s σ H x y v u Q I rx ry h
  obtain ⟨i, j, rfl, rfl, q⟩ := h
  obtain ⟨t, rfl⟩ := rx
  obtain ⟨t', rfl⟩ := ry
  exact notIn_str (fin_bl I q rfl)
/-- is, is not of two objects that are tracked lists or instances -/
def isObj : HO → Bool
  | .lst _ => true
  | .ins _ _ _ => true
  | _ => false
theorem obj_there {pins : List (Addr × Obj)} {s : Shared} {σ : St} {H : Hp} {a : Addr} {o : HO} (I : Inv X pins σ H s) (h : H a = some o) (p : isObj o = true) : ∃ ob, s.heap.get? a = some ob ∧ ob.cls ≠ .type "tuple" := by
  cases o with
  | lst xs =>
    obtain ⟨_, its, n, _, e⟩ : xs.length ≤ sizeLine ∧ ∃ (its : List Value) (n : Nat), Vals xs its ∧ s.heap.get? a = some { cls := .type "list", data := .seq its.toArray n } := I.hok a _ h
    exact ⟨_, e, (by show Value.type "list" ≠ .type "tuple"; decide +kernel)⟩
  | ins C dx fs =>
    have x := I.hok a _ h
    obtain ⟨_, _, _, e, _⟩ := x
    exact ⟨_, e, (by show Value.ref C ≠ .type "tuple"; exact fun z => by cases z)⟩
  | _ => exact absurd (show false = true from p) Bool.false_ne_true
theorem op_is_ref : OpR X (compareOp .Is) (fun x y H Q => ∃ a b oa ob, x = .ref a ∧ y = .ref b ∧ H a = some oa ∧ isObj oa = true ∧ H b = some ob ∧ isObj ob = true ∧ Q (.bl (decide (a = b))) H) := by
  intro pins s σ H x y v u Q I rx ry h
  obtain ⟨a, b, oa, ob, rfl, rfl, ha, pa, hb, pb, q⟩ := h
  cases rx
  cases ry
  obtain ⟨o1, e1, n1⟩ := obj_there I ha pa
  obtain ⟨o2, e2, _⟩ := obj_there I hb pb
  by_cases z : a = b
  · subst z
    exact wpAny_is_ref_self (fin_bl I q (by simp))
  · exact wpAny_is_ref_other z e1 e2 n1 (fin_bl I q (by simp [z]))
theorem op_isnot_ref : OpR X (compareOp .IsNot) (fun x y H Q => ∃ a b oa ob, x = .ref a ∧ y = .ref b ∧ H a = some oa ∧ isObj oa = true ∧ H b = some ob ∧ isObj ob = true ∧ Q (.bl (!decide (a = b))) H) := by
  intro pins s σ H x y v u Q I rx ry h
  obtain ⟨a, b, oa, ob, rfl, rfl, ha, pa, hb, pb, q⟩ := h
  cases rx
  cases ry
  obtain ⟨o1, e1, n1⟩ := obj_there I ha pa
  obtain ⟨o2, e2, _⟩ := obj_there I hb pb
  by_cases z : a = b
  · subst z
    exact wpAny_isNot_ref_self (fin_bl I q (by simp))
  · exact wpAny_isNot_ref_other z e1 e2 n1 (fin_bl I q (by simp [z]))

/-- two rules for one operation: by cases -/
theorem OpR.or {f : Value → Value → Sem Value} {r r' : R2} (h : OpR X f r) (h' : OpR X f r') : OpR X f (fun x y H Q => r x y H Q ∨ r' x y H Q) := by
  intro pins s σ H x y v u Q I rx ry q
  rcases q with q | q
  · exact h pins s σ H x y v u Q I rx ry q
  · exact h' pins s σ H x y v u Q I rx ry q

theorem nomark (b : Expr) {op : CmpOp} (h : op ≠ .In := by decide) (h2 : op ≠ .NotIn := by decide) : behindInMarks op b = false := by
  have e1 : (op == CmpOp.In) = false := by cases op <;> first | rfl | exact absurd rfl h
  have e2 : (op == CmpOp.NotIn) = false := by cases op <;> first | rfl | exact absurd rfl h2
  cases b <;> simp [behindInMarks, e1, e2]
/-- a comparison as a value; hm: nomark b, or (for in, not in) by with_unfolding_all rfl -/
theorem pe_cmpR {op : CmpOp} {r : R2} (ho : OpR X (compareOp op) r) (ha : PE X a ta) (hb : PE X b tb) (hm : behindInMarks op b = false) : PE X (.Compare a [op] [b] pos) (tOp r ta tb) := by
  intro pins s σ H Q I h
  exact wpAny_Compare1 (binT ha hb I h fun v u s2 x y H2 I2 rx ry q => ho pins s2 σ H2 x y v u Q I2 rx ry q) hm
/-- a reading of a value as a test -/
def tTest (t : TE) : TT := fun σ H Q => t σ H fun x H' => ∃ k, x = .bl k ∧ Q k H'
theorem pt_cmpR {op : CmpOp} {r : R2} (ho : OpR X (compareOp op) r) (ha : PE X a ta) (hb : PE X b tb) (hm : behindInMarks op b = false) : PT X (.Compare a [op] [b] pos) (tTest (tOp r ta tb)) := by
  intro pins s σ H Q I h
  refine wpAny_isTrue_Compare1 (thn (ha pins s σ H _ I h) fun v s1 ⟨x, H1, I1, r1, q1⟩ => thn (hb pins s1 σ H1 _ I1 q1) fun u s2 ⟨y, H2, I2, r2, q2⟩ =>
    thn (ho pins s2 σ H2 x y v u _ I2 r1 r2 q2) fun c s3 ⟨z, H3, I3, r3, k, e, q3⟩ => ?_) hm
  subst e
  cases r3
  exact wpAny_truthy_bool ⟨H3, I3, q3⟩
/-- a op1 b op2 c -/
def tChain (r r' : R2) (ta tb tc : TE) : TE := fun σ H Q => ta σ H fun x H1 => tb σ H1 fun y H2 => r x y H2 fun z H3 => ∃ k, z = .bl k ∧
  (if k = true then tc σ H3 fun w' H4 => r' y w' H4 Q else Q (.bl false) H3)
theorem pe_chain {op op' : CmpOp} {r r' : R2} (ho : OpR X (compareOp op) r) (ho' : OpR X (compareOp op') r') (ha : PE X a ta) (hb : PE X b tb) (hc : PE X c tc)
    (hm : lastMarks [op, op'] [b, c] = false := by with_unfolding_all rfl) : PE X (.Compare a [op, op'] [b, c] pos) (tChain r r' ta tb tc) := by
  intro pins s σ H Q I h
  refine Compare_chain (thn (ha pins s σ H _ I h) fun v s1 ⟨x, H1, I1, r1, q1⟩ => chain_link (thn (hb pins s1 σ H1 _ I1 q1) fun u s2 ⟨y, H2, I2, r2, q2⟩ =>
    thn (ho pins s2 σ H2 x y v u _ I2 r1 r2 q2) fun d s3 ⟨z, H3, I3, r3, k, e, q3⟩ => ?_)) hm
  subst e
  cases r3
  refine wpAny_truthy_bool ?_
  cases k with
  | false => exact ite_ff ⟨.bl false, H3, I3, rfl, q3⟩
  | true => exact ite_tt (chain_last (thn (hc pins s3 σ H3 _ I3 q3) fun w' s4 ⟨z', H4, I4, r4, q4⟩ => ho' pins s4 σ H4 y z' u w' Q I4 r2 r4 q4))
theorem pt_chain {op op' : CmpOp} {r r' : R2} (ho : OpR X (compareOp op) r) (ho' : OpR X (compareOp op') r') (ha : PE X a ta) (hb : PE X b tb) (hc : PE X c tc)
    (hm : lastMarks [op, op'] [b, c] = false := by with_unfolding_all rfl) : PT X (.Compare a [op, op'] [b, c] pos) (tTest (tChain r r' ta tb tc)) := by
  intro pins s σ H Q I h
  refine isTrue_chain (thn (ha pins s σ H _ I h) fun v s1 ⟨x, H1, I1, r1, q1⟩ => test_link (thn (hb pins s1 σ H1 _ I1 q1) fun u s2 ⟨y, H2, I2, r2, q2⟩ =>
    thn (ho pins s2 σ H2 x y v u _ I2 r1 r2 q2) fun d s3 ⟨z, H3, I3, r3, k, e, q3⟩ => ?_)) hm
  subst e
  cases r3
  refine wpAny_truthy_bool ?_
  cases k with
  | false =>
    obtain ⟨k', e', q'⟩ := q3
    cases e'
    exact ite_ff ⟨H3, I3, q'⟩
  | true =>
    refine ite_tt (test_last (thn (hc pins s3 σ H3 _ I3 q3) fun w' s4 ⟨z', H4, I4, r4, q4⟩ => thn (ho' pins s4 σ H4 y z' u w' _ I4 r2 r4 q4) fun d' s5 ⟨z2, H5, I5, r5, k2, e2, q5⟩ => ?_))
    subst e2
    cases r5
    exact wpAny_truthy_bool ⟨H5, I5, q5⟩

/-! ### truth -/
/-- a value's truth by the abstract heap -/
def TruV (K : PySem.W.Frag) (x : V) (H : Hp) (k : Bool) : Prop :=
  match x with
  | .non => k = false
  | .bl b => k = b
  | .int i => k = (i != 0)
  | .str y => y.length ≤ sizeLine ∧ k = ((y.length : Int) != 0)
  | .byt y => y.size ≤ sizeLine ∧ k = ((y.size : Int) != 0)
  | .ref p => (∃ xs, SqL K H p xs ∧ k = !xs.isEmpty) ∨ (∃ xs, SqT K H p xs ∧ k = !xs.isEmpty) ∨ ∃ kvs, H p = some (.dK kvs) ∧ k = !kvs.isEmpty
  | _ => False
theorem isEmpty_kv {κ : Type} {kvs : List (κ × V)} {vs : List (κ × Value)} (r : KV kvs vs) : (!vs.isEmpty) = !kvs.isEmpty := by
  cases r <;> rfl
theorem isEmpty_of {xs : List V} {its : List Value} (r : Vals xs its) : (!its.toArray.isEmpty) = !xs.isEmpty := by
  cases r <;> simp
theorem line63 : (sizeLine : Nat) < 2 ^ 63 := by rw [sizeLine_eq]; decide
theorem tru_ok : TruR X (fun x H Q => ∃ k, TruV X.K x H k ∧ Q k H) := by
  intro pins s σ H x v Q I rx h
  obtain ⟨k, e, q⟩ := h
  have hl := line63
  have hs : sizeLine = 16777216 := sizeLine_eq
  cases x with
  | non =>
    cases rx
    have e' : k = false := e
    subst e'
    exact truthy_none ⟨H, I, q⟩
  | bl b =>
    cases rx
    have e' : k = b := e
    subst e'
    exact wpAny_truthy_bool ⟨H, I, q⟩
  | int i =>
    obtain ⟨t, rfl⟩ := rx
    have e' : k = (i != 0) := e
    subst e'
    exact PySem.P.truthy_int ⟨H, I, q⟩
  | str y =>
    obtain ⟨t, rfl⟩ := rx
    obtain ⟨hy, e'⟩ : y.length ≤ sizeLine ∧ k = ((y.length : Int) != 0) := e
    subst e'
    exact PySem.P.truthy_str (by omega) ⟨H, I.tok _, q⟩
  | byt y =>
    obtain ⟨t, rfl⟩ := rx
    obtain ⟨hy, e'⟩ : y.size ≤ sizeLine ∧ k = ((y.size : Int) != 0) := e
    subst e'
    exact PySem.W.truthy_bytes (by omega) ⟨H, I.tok _, q⟩
  | ref p =>
    cases rx
    have e' : (∃ xs, SqL X.K H p xs ∧ k = !xs.isEmpty) ∨ (∃ xs, SqT X.K H p xs ∧ k = !xs.isEmpty) ∨ ∃ kvs, H p = some (.dK kvs) ∧ k = !kvs.isEmpty := e
    rcases e' with ⟨xs, hx, e'⟩ | ⟨xs, hx, e'⟩ | ⟨kvs, hx, e'⟩
    · subst e'
      obtain ⟨its, r, pl, hz⟩ := I.list hx
      have hlen := r.length
      exact wpAny_truthy_list pl.isList (by simp only [List.size_toArray]; omega) ⟨H, I.tok _, by rw [isEmpty_of r]; exact q⟩
    · subst e'
      obtain ⟨its, r, pl, hz⟩ := I.tuple hx
      have hlen := r.length
      exact truthy_tuple pl (by simp only [List.size_toArray]; omega) ⟨H, I.tok _, by rw [isEmpty_of r]; exact q⟩
    · subst e'
      obtain ⟨hz, hS, vs, r, m⟩ : kvs.length ≤ sizeLine ∧ (p == sysModules) = false ∧ ∃ vs, KV kvs vs ∧ s.heap.DictOf (mixKind X.prog X.w) p vs := I.hok p _ hx
      have hlen : kvs.length = vs.length := Paired.length r
      exact wpAny_truthy_dict hS m (by omega) ⟨H, I.tok _, by rw [isEmpty_kv r]; exact q⟩
  | _ => exact (show False from e).elim
/-- any expression whose test is its value's truth (a name, a call, a subscript, a field ..: he by fun _ => rfl) -/
theorem pt_truth (ha : PE X a ta) (he : ∀ whole, isTrue a X.env whole = (do let v ← whole; standAt a.pos; holding [v] (truthy v))) :
    PT X a (fun σ H Q => ta σ H fun x H' => ∃ k, TruV X.K x H' k ∧ Q k H') := by
  intro pins s σ H Q I h
  exact isTrue_plain (thn (ha pins s σ H _ I h) fun v s1 ⟨x, H1, I1, r1, q1⟩ => tru_ok pins s1 σ H1 x v Q I1 r1 q1) (he _)

/-! ### strs and bytes -/
theorem pe_byt {x : List UInt8} {k : Nat} : PE X (.Constant (.bytes x) k pos) (fun _ H Q => Q (.byt x.toArray) H) := fun _ _ _ H _ I h => PySem.W.Constant_bytes ⟨.byt x.toArray, H, I.tok _, ⟨_, rfl⟩, h⟩
theorem op_add_str : OpR X (binaryOp .Add) (fun x y H Q => ∃ i j, x = .str i ∧ y = .str j ∧ i.length + j.length ≤ sizeLine ∧ Q (.str (i ++ j)) H) := by
  intro pins s σ H x y v u Q I rx ry h
  obtain ⟨i, j, rfl, rfl, hz, q⟩ := h
  obtain ⟨t, rfl⟩ := rx
  obtain ⟨t', rfl⟩ := ry
  exact add_str (fun t' tk => ⟨.str (i ++ j), H, I.tok _, ⟨_, rfl⟩, q⟩) hz
theorem iop_add_str : OpR X (inplaceOp .Add) (fun x y H Q => ∃ i j, x = .str i ∧ y = .str j ∧ i.length + j.length ≤ sizeLine ∧ Q (.str (i ++ j)) H) := by
  intro pins s σ H x y v u Q I rx ry h
  obtain ⟨i, j, rfl, rfl, hz, q⟩ := h
  obtain ⟨t, rfl⟩ := rx
  obtain ⟨t', rfl⟩ := ry
  exact iadd_str (fun t' tk => ⟨.str (i ++ j), H, I.tok _, ⟨_, rfl⟩, q⟩) hz
theorem op_add_byt : OpR X (binaryOp .Add) (fun x y H Q => ∃ i j, x = .byt i ∧ y = .byt j ∧ i.size + j.size ≤ 16777216 ∧ Q (.byt (i ++ j)) H) := by
  intro pins s σ H x y v u Q I rx ry h
  obtain ⟨i, j, rfl, rfl, hz, q⟩ := h
  obtain ⟨t, rfl⟩ := rx
  obtain ⟨t', rfl⟩ := ry
  exact PySem.W.KBy.add_bytes hz (fun t' tk => ⟨.byt (i ++ j), H, I.tok _, ⟨_, rfl⟩, q⟩)

def PlainIxT (b : Expr) : Prop := ∀ o i, subscripted b false o i = operate [o, i] (getItem o i)
/-- s[i], 0 ≤ i < len -/
theorem pe_item_str (ha : PE X a ta) (hb : PE X b tb) (hs : PlainIxT b) :
    PE X (.Subscript a b pos) (tOp (fun x y H Q => ∃ z i c, x = .str z ∧ y = .int i ∧ 0 ≤ i ∧ i < 2 ^ 63 ∧ i < z.length ∧ z.cps[i.toNat]? = some c ∧ Q (.str ⟨#[c]⟩) H) ta tb) := by
  intro pins s σ H Q I h
  refine Subscript_ (binT ha hb I h fun v u s2 x y H2 I2 rx ry q => ?_)
  obtain ⟨z, i, c, rfl, rfl, h0, h63, h1, hc, q⟩ := q
  obtain ⟨t, rfl⟩ := rx
  obtain ⟨t', rfl⟩ := ry
  have e : seqIndex? i z.length = some i.toNat := PySem.StrLaws.seqIndex_nonneg h0 h1
  exact tail_any (typeIs_str s2 z t) slot_str_getitem.lookup (getItem_str (c := c) (by
    have e1 : decide (i < -(2 ^ 63 : Int)) = false := decide_eq_false (by omega)
    have e2 : decide (i ≥ 2 ^ 63) = false := decide_eq_false (by omega)
    rw [e1, e2] <;> rfl) (by rw [e]; exact hc) ⟨.str ⟨#[c]⟩, H2, I2.tok _, ⟨_, rfl⟩, q⟩) (hs _ _)
/-- b[i], 0 ≤ i < len -/
theorem pe_item_byt (ha : PE X a ta) (hb : PE X b tb) (hs : PlainIxT b) :
    PE X (.Subscript a b pos) (tOp (fun x y H Q => ∃ (z : List UInt8) (i : Int), x = .byt z.toArray ∧ y = .int i ∧ z.length ≤ sizeLine ∧ 0 ≤ i ∧ i < z.length ∧ Q (.int ((z.getD i.toNat 0).toNat : Nat)) H) ta tb) := by
  intro pins s σ H Q I h
  refine Subscript_ (binT ha hb I h fun v u s2 x y H2 I2 rx ry q => ?_)
  obtain ⟨z, i, rfl, rfl, hz, h0, h1, q⟩ := q
  obtain ⟨t, rfl⟩ := rx
  obtain ⟨t', rfl⟩ := ry
  have hl : sizeLine = 16777216 := sizeLine_eq
  exact tail_any (PySem.W.typeIs_bytes s2 z.toArray t) PySem.W.FB.slot_bytes_getitem.lookup (PySem.W.getItem_bytes (by omega) h0 h1 ⟨.int ((z.getD i.toNat 0).toNat : Nat), H2, I2.tok _, ⟨_, rfl⟩, q⟩) (hs _ _)

/-! ### scalar builtins, by CallR -/
theorem vals1 {x : V} {us : List Value} (r : Vals [x] us) : ∃ u, us = [u] ∧ RelV x u := by
  cases r with
  | cons r1 r2 => cases r2; exact ⟨_, rfl, r1⟩
theorem vals2 {x y : V} {us : List Value} (r : Vals [x, y] us) : ∃ u w', us = [u, w'] ∧ RelV x u ∧ RelV y w' := by
  cases r with
  | cons r1 r2 =>
    cases r2 with
    | cons r3 r4 => cases r4; exact ⟨_, _, rfl, r1, r3⟩
theorem call_abs : CallR X (.builtin "abs") (fun xs H Q => ∃ i, xs = [.int i] ∧ Q (.int (if i < 0 then -i else i)) H) := by
  intro pins s σ H xs us Q I r h
  obtain ⟨i, rfl, q⟩ := h
  obtain ⟨u, rfl, t, rfl⟩ := vals1 r
  exact call_abs_int fun u tk => ⟨.int (if i < 0 then -i else i), H, I.tok _, ⟨_, rfl⟩, q⟩
theorem call_max2 (hc : X.calm = true) : CallR X (.builtin "max") (fun xs H Q => ∃ i j, xs = [.int i, .int j] ∧ Q (.int (if j > i then j else i)) H) := by
  intro pins s σ H xs us Q I r h
  obtain ⟨i, j, rfl, q⟩ := h
  obtain ⟨u, w', rfl, ⟨t, rfl⟩, ⟨t', rfl⟩⟩ := vals2 r
  refine max_two_ints (I.ok.hd hc) fun h' tk k => ⟨_, H, I.kept k, ?_, q⟩
  by_cases hj : j > i
  · rw [if_pos hj, if_pos hj]; exact ⟨_, rfl⟩
  · rw [if_neg hj, if_neg hj]; exact ⟨_, rfl⟩
theorem call_min2 (hc : X.calm = true) : CallR X (.builtin "min") (fun xs H Q => ∃ i j, xs = [.int i, .int j] ∧ Q (.int (if j < i then j else i)) H) := by
  intro pins s σ H xs us Q I r h
  obtain ⟨i, j, rfl, q⟩ := h
  obtain ⟨u, w', rfl, ⟨t, rfl⟩, ⟨t', rfl⟩⟩ := vals2 r
  refine min_two_ints (I.ok.hd hc) fun h' tk k => ⟨_, H, I.kept k, ?_, q⟩
  by_cases hj : j < i
  · rw [if_pos hj, if_pos hj]; exact ⟨_, rfl⟩
  · rw [if_neg hj, if_neg hj]; exact ⟨_, rfl⟩
theorem call_int1 : CallR X (.type "int") (fun xs H Q => (∃ i, xs = [.int i] ∧ Q (.int i) H) ∨ ∃ k, xs = [.bl k] ∧ Q (.int (if k then 1 else 0)) H) := by
  intro pins s σ H xs us Q I r h
  rcases h with ⟨i, rfl, q⟩ | ⟨k, rfl, q⟩
  · obtain ⟨u, rfl, t, rfl⟩ := vals1 r
    exact call_int_int ⟨.int i, H, I, ⟨_, rfl⟩, q⟩
  · obtain ⟨u, rfl, r1⟩ := vals1 r
    cases r1
    exact call_int_bool ⟨.int (if k then 1 else 0), H, I.tok _, ⟨_, rfl⟩, q⟩
theorem call_bool1 : CallR X (.type "bool") (fun xs H Q => (∃ i, xs = [.int i] ∧ Q (.bl (i != 0)) H) ∨ ∃ k, xs = [.bl k] ∧ Q (.bl k) H) := by
  intro pins s σ H xs us Q I r h
  rcases h with ⟨i, rfl, q⟩ | ⟨k, rfl, q⟩
  · obtain ⟨u, rfl, t, rfl⟩ := vals1 r
    exact call_bool_int ⟨.bl (i != 0), H, I, rfl, q⟩
  · obtain ⟨u, rfl, r1⟩ := vals1 r
    cases r1
    exact call_bool_bool ⟨.bl k, H, I, rfl, q⟩
theorem call_str_int : CallR X (.type "str") (fun xs H Q => ∃ i, xs = [.int i] ∧ i.natAbs.log2 < 1920 ∧ Q (.str (toString i)) H) := by
  intro pins s σ H xs us Q I r h
  obtain ⟨i, rfl, hz, q⟩ := h
  obtain ⟨u, rfl, t, rfl⟩ := vals1 r
  exact PySem.P.str_of_int hz ⟨.str _, H, I.tok _, ⟨_, rfl⟩, q⟩
theorem call_ord : CallR X (.builtin "ord") (fun xs H Q => ∃ x, xs = [.str x] ∧ x.length = 1 ∧ Q (.int (x.cps.getD 0 0 : Nat)) H) := by
  intro pins s σ H xs us Q I r h
  obtain ⟨x, rfl, hz, q⟩ := h
  obtain ⟨u, rfl, t, rfl⟩ := vals1 r
  exact ord_of_one hz ⟨.int _, H, I.tok _, ⟨_, rfl⟩, q⟩
theorem call_chr : CallR X (.builtin "chr") (fun xs H Q => ∃ i, xs = [.int i] ∧ 0 ≤ i ∧ i ≤ 1114111 ∧ Q (.str ⟨#[i.toNat]⟩) H) := by
  intro pins s σ H xs us Q I r h
  obtain ⟨i, rfl, h0, h1, q⟩ := h
  obtain ⟨u, rfl, t, rfl⟩ := vals1 r
  exact chr_of_range h0 h1 ⟨.str _, H, I.tok _, ⟨_, rfl⟩, q⟩
/-- len of a str, a bytes, a list, a tuple -/
def LenV (K : PySem.W.Frag) (x : V) (H : Hp) (n : Nat) : Prop :=
  match x with
  | .str y => y.length ≤ sizeLine ∧ n = y.length
  | .byt y => y.size ≤ sizeLine ∧ n = y.size
  | .ref p => (∃ xs, SqL K H p xs ∧ n = xs.length) ∨ ∃ xs, SqT K H p xs ∧ n = xs.length
  | _ => False
theorem call_len : CallR X (.builtin "len") (fun xs H Q => ∃ x n, xs = [x] ∧ LenV X.K x H n ∧ Q (.int n) H) := by
  intro pins s σ H xs us Q I r h
  obtain ⟨x, n, rfl, e, q⟩ := h
  obtain ⟨u, rfl, rx⟩ := vals1 r
  have hl := line63
  have hs : sizeLine = 16777216 := sizeLine_eq
  cases x with
  | str y =>
    obtain ⟨t, rfl⟩ := rx
    obtain ⟨hy, e'⟩ : y.length ≤ sizeLine ∧ n = y.length := e
    subst e'
    exact len_str (by omega) ⟨.int _, H, I.tok _, ⟨_, rfl⟩, q⟩
  | byt y =>
    obtain ⟨t, rfl⟩ := rx
    obtain ⟨hy, e'⟩ : y.size ≤ sizeLine ∧ n = y.size := e
    subst e'
    exact PySem.W.len_bytes (by omega) ⟨.int _, H, I.tok _, ⟨_, rfl⟩, q⟩
  | ref p =>
    cases rx
    have e' : (∃ xs, SqL X.K H p xs ∧ n = xs.length) ∨ ∃ xs, SqT X.K H p xs ∧ n = xs.length := e
    rcases e' with ⟨xs, hx, e'⟩ | ⟨xs, hx, e'⟩
    · subst e'
      obtain ⟨its, r', pl, hz⟩ := I.list hx
      have hlen := r'.length
      exact Calls.call_len_list pl.isList (by simp only [List.size_toArray]; omega) ⟨.int xs.length, H, I.tok _, ⟨_, by simp only [List.size_toArray]; rw [hlen]⟩, q⟩
    · subst e'
      obtain ⟨its, r', pl, hz⟩ := I.tuple hx
      have hlen := r'.length
      exact len_tuple pl (by simp only [List.size_toArray]; omega) ⟨.int xs.length, H, I.tok _, ⟨_, by simp only [List.size_toArray]; rw [hlen]⟩, q⟩
  | _ => exact (show False from e).elim
/-- divmod: a new tuple -/
theorem call_divmod : CallR X (.builtin "divmod") (fun xs H Q => ∃ i j, xs = [.int i, .int j] ∧ CDiv i j ∧ ∀ p, H p = none → Q (.ref p) (upd H p (.tup [.int (i / j), .int (i % j)]))) := by
  intro pins s σ H xs us Q I r h
  obtain ⟨i, j, rfl, ⟨h1, h2⟩, q⟩ := h
  obtain ⟨u, w', rfl, ⟨t, rfl⟩, ⟨t', rfl⟩⟩ := vals2 r
  refine divmod_int (by omega) ?_ (.inl (PyProof.noPylong_small (by omega)))
  rw [Int.fdiv_eq_ediv_of_nonneg i (by omega), Int.fmod_eq_emod_of_nonneg i (by omega)]
  have hn : H s.heap.objs.size = none := I.hok.fresh (Nat.le_refl _)
  refine ⟨.ref s.heap.objs.size, _, ?_, rfl, q _ hn⟩
  refine I.laid (fun b o e => Heap.get?_push_of_some _ e) (Nat.le_refl _) ⟨by simp only [List.length_cons, List.length_nil]; rw [sizeLine_eq]; decide, [.int (i / j) s.toks, .int (i % j) (s.toks + 1)], .cons ⟨_, rfl⟩ (.cons ⟨_, rfl⟩ .nil), ?_⟩
  exact ⟨_, Heap.get?_push_size s.heap rfl, rfl, 0, rfl⟩
end
end L2

namespace L2
open PySem PySem.Spec PyProof.Rows

/-! ### an instance, its attributes a map -/
structure ObjM (h : Heap) (x dx C : Addr) (mA : Str → Option Value) : Prop where
  obj : h.get? x = some (PySem.W.instObj C dx)
  ns : h.Ns1 dx mA
  ne : dx ≠ x

theorem lookIn_ns {h : Heap} {dx : Addr} {mA : Str → Option Value} (n : h.Ns1 dx mA) : ∃ od, h.get? dx = some od ∧ ∀ name, PySem.W.lookIn name od = some (mA name) := by
  obtain ⟨o, es, ep, ho, hd, hk, _, hm⟩ := n
  refine ⟨o, ho, fun name => ?_⟩
  have e := hm name
  unfold nsFind findBy at e
  rw [← Array.find?_toList] at e
  unfold PySem.W.lookIn
  rw [hd]
  dsimp only
  split
  · rename_i y q
    rw [q] at e
    exact congrArg some e
  · rename_i q
    rw [q] at e
    have a : es.toList.any (·.refKey) = false := by
      rw [List.any_eq_false]
      intro y hy
      obtain ⟨z, t, hkey⟩ := hk y (Array.mem_toList_iff.mp hy)
      simp [DictEntry.refKey, hkey]
    have a' : ¬ es.toList.any (·.refKey) = true := by rw [a]; exact Bool.false_ne_true
    rw [if_neg a']
    exact congrArg some e

theorem ObjM.look {h : Heap} {x dx C : Addr} {mA : Str → Option Value} (I : ObjM h x dx C mA) : ∃ od, PySem.W.InstAt h x (PySem.W.instObj C dx) C (some od) ∧ ∀ name, PySem.W.lookIn name od = some (mA name) :=
  let ⟨od, ho, hl⟩ := lookIn_ns I.ns
  ⟨od, ⟨I.obj, rfl, rfl, ho⟩, hl⟩

section
variable {prog : Program} {w : World} {A : Around} {E : Value → Shared → Prop} {s : Shared} {K : PySem.W.Frag} {x dx C f : Addr} {mA : Str → Option Value} {name : Str} {v : Value}

theorem get_map {expr : Bool} {Q : Value → Shared → Prop} (X : K.In s.heap) (I : ObjM s.heap x dx C mA) (hg : PySem.W.plainGet K C name = true) (hh : PySem.W.hasDictIn K C = true)
    (ha : PySem.W.findIn K (.ref C) name = some none) (hv : mA name = some v) (hv' : PySem.W.handedIn v = true) (h : Q v { s with toks := s.toks + 1 }) :
    wpAny (model prog w) A (getAttr (.ref x) name expr) Q E s := by
  obtain ⟨od, J, hl⟩ := I.look
  exact PySem.W.get_value X J (PySem.W.plainGet_of hg).1 (PySem.W.findObj_own hh ha rfl (by rw [hl, hv])) hv' h

theorem get_const {expr : Bool} {a : Value} {Q : Value → Shared → Prop} (X : K.In s.heap) (I : ObjM s.heap x dx C mA) (hg : PySem.W.plainGet K C name = true) (hh : PySem.W.hasDictIn K C = true)
    (ha : PySem.W.findIn K (.ref C) name = some (some a)) (hn : PySem.W.specialIn K a "__get__" = some none) (hc : PySem.W.copiedNames.contains name = false) (hv : mA name = none) (hv' : PySem.W.handedIn a = true)
    (h : Q a { s with toks := s.toks + 1 }) : wpAny (model prog w) A (getAttr (.ref x) name expr) Q E s := by
  obtain ⟨od, J, hl⟩ := I.look
  exact PySem.W.get_value X J (PySem.W.plainGet_of hg).1 (PySem.W.findObj_cls hh ha hn hv' hc (by rw [hl, hv])) hv' h

theorem get_meth {pl : Sem Bool} {Q : Value × List Value → Shared → Prop} (X : K.In s.heap) (I : ObjM s.heap x dx C mA) (hg : PySem.W.plainGet K C name = true)
    (hf : PySem.W.findIn K (.ref C) name = some (some (.ref f))) (ht : PySem.W.isFn K (.ref f) = true) (hv : mA name = none) (h : Q (.ref f, [.ref x]) s) :
    wpAny (model prog w) A (getMethod (.ref x) name pl) Q E s := by
  obtain ⟨od, J, hl⟩ := I.look
  exact PySem.W.method_fn X J (PySem.W.plainGet_of hg).1 (PySem.W.plainGet_of hg).2 hf (beq_iff_eq.mp ht) (by show (PySem.W.lookIn name od).map (·.isSome) = some false; rw [hl, hv]; rfl) h

theorem set_map {ns : List Str} {Q : Unit → Shared → Prop} (X : K.In s.heap) (I : ObjM s.heap x dx C mA)
    (hs : PySem.W.findIn K (.ref C) "__setattr__" = some (some (.builtin "object.__setattr__"))) (hp : PySem.W.plainOver K C = true) (ht : PySem.W.takerIn K C name = some none) (hh : PySem.W.hasDictIn K C = true)
    (hw : PySem.Within mA ns) (hsz : ns.length ≤ sizeLine)
    (h : ∀ h', ObjM h' x dx C (fun y => if y = name then some v else mA y) → Heap.SameBut dx s.heap h' → Q () { s with heap := h', toks := s.toks + 2 }) :
    wpAny (model prog w) A (setAttr (.ref x) name v) Q E s := by
  obtain ⟨od, J, hl⟩ := I.look
  refine PySem.W.set_plain X J hs (PySem.W.osa_open (s := { s with toks := s.toks + 1 }) (r := none) X J hp ht fun b => ?_)
  obtain ⟨cd, hc, hd'⟩ := PySem.W.any_some hh
  have hx : s.heap.get? x = some ⟨.ref C, some dx, .plain, #[]⟩ := I.obj
  refine wpAny_bind (wpAny_pure (wpAny_bind (wpAny_bind (wpAny_loadPart hx (wpAny_bind (PySem.W.Looks.here (s := { s with toks := s.toks + 1 }) (PySem.W.looks_clsIn X hc) ?_))))))
  rw [hd']
  refine wpAny_pure (a := some dx) (wpAny_bind (wpAny_pure (wpAny_bind ?_)))
  refine wpAny_nsSet1 (s := { s with toks := s.toks + 1 }) I.ns fun h' hn2 hs2 => ?_
  obtain ⟨oD, esD, epD, hoD, hdD, hcD⟩ := hn2.count (PySem.Within.cons name v hw)
  refine wpAny_bind (wpAny_lookBehind hoD (by rw [hdD]; exact pastItsLine_dict (Nat.le_trans hcD (by rw [List.length_cons]; omega))) ?_)
  exact wpAny_pure (h _ ⟨(hs2.2 _ (Ne.symm I.ne)).trans I.obj, hn2, I.ne⟩ hs2)

/-- C(..): the dict at the heap's end, the instance behind it; then its __init__ -/
theorem make_map {R : Result → Shared → Prop} {vs : List Value} {kw : List (Str × Value)} (X : K.In s.heap) (hm : PySem.W.makesIn K C = true)
    (hi : PySem.W.findIn K (.ref C) "__init__" = some (some (.ref f))) (hf : PySem.W.typeIn K (.ref f) = some (.type "function"))
    (h : codeAny (model prog w) (A.under (.builtin "type.__call__" ⟨.ref C :: vs, kw⟩)) (.call (.ref f) ⟨.ref (s.heap.objs.size + 1) :: vs, kw⟩) (PySem.W.InitBack (s.heap.objs.size + 1) R)
      { s with heap := (s.heap.push PySem.W.emptyDict).push (PySem.W.instObj C s.heap.objs.size) }) :
    codeAny (model prog w) A (.call (.ref C) ⟨vs, kw⟩) R s := by
  obtain ⟨hh, g, d, t, os⟩ := s
  exact PySem.W.make_core (PySem.W.makes_of X hm) (PySem.W.looks_findIn X hi) (fun self => PySem.W.bind_fn X self hf) (.inl rfl) h
/-- C() where there is no __init__ but object's -/
theorem make_map0 {R : Result → Shared → Prop} (X : K.In s.heap) (hm : PySem.W.makesIn K C = true)
    (hi : PySem.W.findIn K (.ref C) "__init__" = some (some (.builtin "object.__init__")))
    (hb : ∀ self, PySem.W.Looks (model prog w) s.heap (bindSpecial (.builtin "object.__init__") self) (.builtin "object.__init__", [self]))
    (h : codeAny (model prog w) (A.under (.builtin "type.__call__" ⟨[.ref C], []⟩)) (.call (.builtin "object.__init__") ⟨[.ref (s.heap.objs.size + 1)], []⟩) (PySem.W.InitBack (s.heap.objs.size + 1) R)
      { s with heap := (s.heap.push PySem.W.emptyDict).push (PySem.W.instObj C s.heap.objs.size) }) :
    codeAny (model prog w) A (.call (.ref C) ⟨[], []⟩) R s := by
  obtain ⟨hh, g, d, t, os⟩ := s
  exact PySem.W.make_core (PySem.W.makes_of X hm) (PySem.W.looks_findIn X hi) hb (.inr ⟨rfl, rfl⟩) h
end

/-! ### the attributes as a list of pairs -/
def putF (f : Str) (v : V) : List (Str × V) → List (Str × V)
  | [] => [(f, v)]
  | (g, x) :: r => if g = f then (g, v) :: r else (g, x) :: putF f v r
theorem lookup_putF (f g : Str) (v : V) : ∀ fs : List (Str × V), (putF f v fs).lookup g = if g = f then some v else fs.lookup g
  | [] => by
    show List.lookup g [(f, v)] = _
    by_cases h : g = f
    · have hb : (g == f) = true := beq_iff_eq.mpr h
      simp only [List.lookup, hb, if_pos h]
    · have hb : (g == f) = false := beq_eq_false_iff_ne.mpr h
      simp only [List.lookup, hb, if_neg h]
  | (k, x) :: r => by
    have ih := lookup_putF f g v r
    rw [show putF f v ((k, x) :: r) = (if k = f then (k, v) :: r else (k, x) :: putF f v r) from rfl]
    by_cases hk : k = f
    · rw [if_pos hk]
      by_cases h : g = k
      · have hb : (g == k) = true := beq_iff_eq.mpr h
        simp only [List.lookup, hb, if_pos (h.trans hk)]
      · have hb : (g == k) = false := beq_eq_false_iff_ne.mpr h
        simp only [List.lookup, hb, if_neg (fun e : g = f => h (e.trans hk.symm))]
    · rw [if_neg hk]
      by_cases h : g = k
      · have hb : (g == k) = true := beq_iff_eq.mpr h
        simp only [List.lookup, hb, if_neg (fun e : g = f => hk (h.symm.trans e))]
      · have hb : (g == k) = false := beq_eq_false_iff_ne.mpr h
        simp only [List.lookup, hb]
        exact ih
theorem keys_putF (f : Str) (v : V) : ∀ fs : List (Str × V), f ∈ (putF f v fs).map (·.1) ∧ ∀ g, g ∈ fs.map (·.1) → g ∈ (putF f v fs).map (·.1)
  | [] => ⟨by simp [putF], fun g h => by simp at h⟩
  | (k, x) :: r => by
    obtain ⟨i1, i2⟩ := keys_putF f v r
    rw [show putF f v ((k, x) :: r) = (if k = f then (k, v) :: r else (k, x) :: putF f v r) from rfl]
    by_cases hk : k = f
    · rw [if_pos hk]
      subst hk
      exact ⟨by simp, fun g h => by simpa using h⟩
    · rw [if_neg hk]
      refine ⟨?_, fun g h => ?_⟩
      · rw [List.map_cons]
        exact List.mem_cons_of_mem _ i1
      · rw [List.map_cons] at h ⊢
        rcases List.mem_cons.mp h with e | e
        · exact List.mem_cons.mpr (.inl e)
        · exact List.mem_cons_of_mem _ (i2 g e)
theorem length_putF (f : Str) (v : V) : ∀ fs : List (Str × V), (putF f v fs).length ≤ fs.length + 1
  | [] => by simp [putF]
  | (k, x) :: r => by
    have ih := length_putF f v r
    rw [show putF f v ((k, x) :: r) = (if k = f then (k, v) :: r else (k, x) :: putF f v r) from rfl]
    by_cases hk : k = f
    · rw [if_pos hk, List.length_cons, List.length_cons]; omega
    · rw [if_neg hk, List.length_cons, List.length_cons]; omega

theorem RelO.some_of {v : V} {o : Option Value} (r : RelO (some v) o) : ∃ u, o = some u ∧ RelV v u := by
  cases o with
  | none => exact (show False from r).elim
  | some u => exact ⟨u, rfl, r⟩
theorem RelO.none_of {o : Option Value} (r : RelO none o) : o = none := by
  cases o with
  | none => rfl
  | some u => exact (show False from r).elim
theorem handed_of {v : V} {u : Value} (r : RelV v u) : PySem.W.handedIn u = true := by
  cases v with
  | non => cases (show u = Value.none from r); rfl
  | bl b => cases (show u = Value.bool b from r); rfl
  | int i => obtain ⟨t, e⟩ := (show ∃ t, u = Value.int i t from r); cases e; rfl
  | str x => obtain ⟨t, e⟩ := (show ∃ t, u = Value.str x t from r); cases e; rfl
  | byt b => obtain ⟨t, e⟩ := (show ∃ t, u = Value.bytes b t from r); cases e; rfl
  | flt b => obtain ⟨t, e⟩ := (show ∃ t, u = Value.float b t from r); cases e; rfl
  | ref a => cases (show u = Value.ref a from r); rfl
  | ty n => cases (show u = Value.type n from r); rfl

section
variable {P : Program} {w : World} {H H' : Hp} {h h' : Heap} {a C dx : Addr} {fs fs' : List (Str × V)}
theorem ins_get (hok : HOk P w H h) (e : H a = some (.ins C dx fs)) : ∃ mA, ObjM h a dx C mA ∧ (∀ f, RelO (fs.lookup f) (mA f)) ∧ PySem.Within mA (fs.map (·.1)) ∧ fs.length ≤ 1000 ∧ H dx = some (.own a) := by
  obtain ⟨d, z, ne, ob, mA, n, r, q⟩ := (show ObjOk P w H h a (.ins C dx fs) from hok a _ e)
  exact ⟨mA, ⟨ob, n, ne⟩, r, q, z, d⟩
end

/-! ### what of the text a class must have -/
structure Cls (K : PySem.W.Frag) (C : Addr) : Prop where
  pg : PySem.W.plainGet K C Str.empty = true
  hd : PySem.W.hasDictIn K C = true
  po : PySem.W.plainOver K C = true
  sa : PySem.W.findIn K (.ref C) "__setattr__" = some (some (.builtin "object.__setattr__"))
theorem Cls.get {K : PySem.W.Frag} {C : Addr} (c : Cls K C) (f : Str) : PySem.W.plainGet K C f = true := c.pg
/-- no class of it has the name -/
def NoAttr (K : PySem.W.Frag) (C : Addr) (f : Str) : Prop := PySem.W.findIn K (.ref C) f = some none
theorem NoAttr.taker {K : PySem.W.Frag} {C : Addr} {f : Str} (n : NoAttr K C f) : PySem.W.takerIn K C f = some none := by
  unfold PySem.W.takerIn
  rw [show PySem.W.findIn K (.ref C) f = some none from n]
  rfl
/-- a constant of the class -/
structure Con (K : PySem.W.Frag) (C : Addr) (f : Str) (v : V) (u : Value) : Prop where
  at_ : PySem.W.findIn K (.ref C) f = some (some u)
  rel : RelV v u
  get : PySem.W.specialIn K u "__get__" = some none
  cp : PySem.W.copiedNames.contains f = false
/-- a method: a plain def of the class or of one above it -/
structure Meth (K : PySem.W.Frag) (C : Addr) (m : Str) (f : Addr) : Prop where
  at_ : PySem.W.findIn K (.ref C) m = some (some (.ref f))
  fn : PySem.W.isFn K (.ref f) = true
  kp : PySem.W.keepIn K (.ref f) = true

section
variable {X : Cx} {pins : List (Addr × Obj)} {σ : St} {H : Hp} {s : Shared} {a C dx : Addr} {fs : List (Str × V)} {f : Str} {v : V} {A : Around} {E : Value → Shared → Prop}

theorem getattr_ok {b : Bool} {Q : Value → Shared → Prop} (I : Inv X pins σ H s) (e : H a = some (.ins C dx fs)) (c : Cls X.K C) (n : NoAttr X.K C f) (l : fs.lookup f = some v)
    (h : ∀ u s', Inv X pins σ H s' → RelV v u → Q u s') : wpAny (model X.prog X.w) A (getAttr (.ref a) f b) Q E s := by
  obtain ⟨mA, O, r, _, _, _⟩ := ins_get I.hok e
  obtain ⟨u, hu, ru⟩ := RelO.some_of (v := v) (o := mA f) (by rw [← l]; exact r f)
  exact get_map I.kIn O (c.get f) c.hd n hu (handed_of ru) (h u _ (I.tok _) ru)

theorem getcon_ok {b : Bool} {u : Value} {Q : Value → Shared → Prop} (I : Inv X pins σ H s) (e : H a = some (.ins C dx fs)) (c : Cls X.K C) (k : Con X.K C f v u) (l : fs.lookup f = none)
    (h : ∀ s', Inv X pins σ H s' → Q u s') : wpAny (model X.prog X.w) A (getAttr (.ref a) f b) Q E s := by
  obtain ⟨mA, O, r, _, _, _⟩ := ins_get I.hok e
  have hn : mA f = none := RelO.none_of (by rw [← l]; exact r f)
  exact get_const I.kIn O (c.get f) c.hd k.at_ k.get k.cp hn (handed_of k.rel) (h _ (I.tok _))

theorem getmeth_ok {m : Str} {g : Addr} {pl : Sem Bool} {Q : Value × List Value → Shared → Prop} (I : Inv X pins σ H s) (e : H a = some (.ins C dx fs)) (c : Cls X.K C) (k : Meth X.K C m g) (l : fs.lookup m = none)
    (h : Q (.ref g, [.ref a]) s) : wpAny (model X.prog X.w) A (getMethod (.ref a) m pl) Q E s := by
  obtain ⟨mA, O, r, _, _, _⟩ := ins_get I.hok e
  have hn : mA m = none := RelO.none_of (by rw [← l]; exact r m)
  exact get_meth I.kIn O (c.get m) k.at_ k.fn hn h

theorem setattr_ok {y : V} {u : Value} {Q : Unit → Shared → Prop} (I : Inv X pins σ H s) (e : H a = some (.ins C dx fs)) (c : Cls X.K C) (n : NoAttr X.K C f) (hl : fs.length < 1000) (ry : RelV y u)
    (h : ∀ s', Inv X pins σ (upd H a (.ins C dx (putF f y fs))) s' → Q () s') : wpAny (model X.prog X.w) A (setAttr (.ref a) f u) Q E s := by
  obtain ⟨mA, O, r, wi, _, ho⟩ := ins_get I.hok e
  have hz : (fs.map (·.1)).length ≤ sizeLine := by rw [List.length_map, sizeLine_eq]; omega
  refine set_map I.kIn O c.sa c.po n.taker c.hd wi hz fun h' O' sb => h _ ?_
  have hd : ∃ o, h'.get? dx = some o := let ⟨o, _, _, e', _⟩ := O'.ns; ⟨o, e'⟩
  refine I.write (x := a) (e := dx) (by rw [e]; exact True.intro) (.inr ho) (fun b q hb z => (sb.2 b hb).trans z) hd ?_
  refine ⟨by rw [upd_ne O.ne]; exact ho, ?_, O.ne, O'.obj, _, O'.ns, fun g => ?_, fun g hg => ?_⟩
  · have := length_putF f y fs; omega
  · show RelO ((putF f y fs).lookup g) (if g = f then some u else mA g)
    rw [lookup_putF]
    by_cases q : g = f
    · rw [if_pos q, if_pos q]; exact ry
    · rw [if_neg q, if_neg q]; exact r g
  · by_cases q : g = f
    · rw [q]; exact (keys_putF f y fs).1
    · refine (keys_putF f y fs).2 g (wi g fun z => hg ?_)
      show (if g = f then some u else mA g) = none
      rw [if_neg q]; exact z

/-- a new instance, tracked, without attributes -/
theorem Inv.made (I : Inv X pins σ H s) : Inv X pins σ (upd (upd H s.heap.objs.size (.own (s.heap.objs.size + 1))) (s.heap.objs.size + 1) (.ins C s.heap.objs.size []))
    { s with heap := (s.heap.push PySem.W.emptyDict).push (PySem.W.instObj C s.heap.objs.size) } := by
  have e1 : (s.heap.push PySem.W.emptyDict).get? s.heap.objs.size = some PySem.W.emptyDict := Heap.get?_push_size s.heap rfl
  have e2 : ((s.heap.push PySem.W.emptyDict).push (PySem.W.instObj C s.heap.objs.size)).get? (s.heap.objs.size + 1) = some (PySem.W.instObj C s.heap.objs.size) := by
    have := Heap.get?_push_size (s.heap.push PySem.W.emptyDict) (o := PySem.W.instObj C s.heap.objs.size) rfl
    rwa [Heap.size_push] at this
  have e3 : (s.heap.push PySem.W.emptyDict).Ns s.heap.objs.size (fun _ => none) := ⟨PySem.W.emptyDict, #[], _, e1, rfl, (fun e he => absurd he (by simp)), fun _ => rfl⟩
  have I1 := I.laid (a := s.heap.objs.size) (o := .own (s.heap.objs.size + 1)) (h' := s.heap.push PySem.W.emptyDict) (t' := s.toks) (fun b u q => Heap.get?_push_of_some _ q) (Nat.le_refl _) ⟨_, e1⟩
  refine I1.laid (a := s.heap.objs.size + 1) (o := .ins C s.heap.objs.size []) (t' := s.toks) (fun b u q => Heap.get?_push_of_some _ q) (Nat.le_of_eq (Heap.size_push _ _)) ?_
  have ne : s.heap.objs.size ≠ s.heap.objs.size + 1 := Nat.ne_of_lt (Nat.lt_succ_self _)
  refine ⟨by rw [upd_ne ne, upd_same], Nat.zero_le _, ne, e2, fun _ => none, (Heap.Ns1.of_empty e3).at fun o q => Heap.get?_push_of_some _ q, fun _ => True.intro, fun y hy => absurd rfl hy⟩

/-- e.f where nothing but the object is asked: through attributeBase (super) and the last hold -/
theorem attr_of {prog : Program} {w : World} {env : Env} {e : Expr} {f : Str} {pos : Pos} {s : Shared} {Q : Value → Shared → Prop} (hb : attributeBase e f env (eval e env) = eval e env)
    (h : wpAny (model prog w) A (eval e env) (fun o s₁ => wpAny (model prog w) A (getAttr o f true) Q E s₁) E s) : wpAny (model prog w) A (eval (.Attribute e f pos) env) Q E s :=
  Attribute_any_ h (by rw [arm_eval_Attribute, hb])
end

/-! ### readings and rules -/
/-- e.f, an attribute of the instance -/
def tFld (K : PySem.W.Frag) (ta : TE) (f : Str) : TE := fun σ H Q => ta σ H fun x H1 => ∃ a C dx fs v, x = .ref a ∧ H1 a = some (.ins C dx fs) ∧ Cls K C ∧ NoAttr K C f ∧ fs.lookup f = some v ∧ Q v H1
/-- e.f, a constant of the class -/
def tCon (K : PySem.W.Frag) (ta : TE) (f : Str) : TE := fun σ H Q => ta σ H fun x H1 => ∃ a C dx fs v u, x = .ref a ∧ H1 a = some (.ins C dx fs) ∧ Cls K C ∧ Con K C f v u ∧ fs.lookup f = none ∧ Q v H1
/-- e.f = value -/
def sFld (K : PySem.W.Frag) (ta tv : TE) (f : Str) : TS := fun D σ H => tv σ H fun y H1 => ta σ H1 fun x H2 => ∃ a C dx fs, x = .ref a ∧ H2 a = some (.ins C dx fs) ∧ Cls K C ∧ NoAttr K C f ∧ fs.length < 1000 ∧
  D.nx σ (upd H2 a (.ins C dx (putF f y fs)))
/-- an augmented operator on two values -/
def InOp (X : Cx) (op : Operator) (rd : V → V → Hp → VK → Prop) : Prop :=
  ∀ (pins : List (Addr × Obj)) (s : Shared) (σ : St) (H : Hp) (x y : V) (u v : Value) (Q : VK), Inv X pins σ H s → RelV x u → RelV y v → rd x y H Q → wpAny (model X.prog X.w) X.A (inplaceOp op u v) (EP X pins σ Q) X.xe s
/-- e.f op= value -/
def sFldAug (K : PySem.W.Frag) (ta tv : TE) (rd : V → V → Hp → VK → Prop) (f : Str) : TS := fun D σ H => ta σ H fun x H1 => ∃ a C dx fs v, x = .ref a ∧ H1 a = some (.ins C dx fs) ∧ Cls K C ∧ NoAttr K C f ∧ fs.lookup f = some v ∧
  tv σ H1 fun y H2 => rd v y H2 fun z H3 => ∃ dx' fs', H3 a = some (.ins C dx' fs') ∧ fs'.length < 1000 ∧ D.nx σ (upd H3 a (.ins C dx' (putF f z fs')))

section
variable {X : Cx} {o e value : Expr} {f : Str} {pos pos' tpos : Pos} {ta tv : TE}
theorem pe_fld (he : PE X e ta) (hb : attributeBase e f X.env (eval e X.env) = eval e X.env) : PE X (.Attribute e f pos) (tFld X.K ta f) := by
  intro pins s σ H Q I h
  refine attr_of hb (thn (he pins s σ H _ I h) fun u s1 ⟨x, H1, I1, rx, a, C, dx, fs, v, ex, ea, c, n, l, q⟩ => ?_)
  subst ex
  obtain rfl : u = Value.ref a := rx
  exact getattr_ok I1 ea c n l fun u' s2 I2 ru => ⟨v, H1, I2, ru, q⟩
theorem pe_con (he : PE X e ta) (hb : attributeBase e f X.env (eval e X.env) = eval e X.env) : PE X (.Attribute e f pos) (tCon X.K ta f) := by
  intro pins s σ H Q I h
  refine attr_of hb (thn (he pins s σ H _ I h) fun u s1 ⟨x, H1, I1, rx, a, C, dx, fs, v, u0, ex, ea, c, k, l, q⟩ => ?_)
  subst ex
  obtain rfl : u = Value.ref a := rx
  exact getcon_ok I1 ea c k l fun s2 I2 => ⟨v, H1, I2, k.rel, q⟩
theorem ps_fld (ha : PE X o ta) (hv : PE X value tv) (hs : swapsWith value (some (.Attribute o f pos')) pos.line X.env = pure false) : PS X (.Assign [.Attribute o f pos'] value pos) (sFld X.K ta tv f) := by
  intro pins s σ H D I h
  refine plainObj_wpAny_Assign_Attribute (thn (hv pins s σ H _ I h) fun u s1 ⟨y, H1, I1, ry, q⟩ => thn (ha pins s1 σ H1 _ I1 q) fun ov s2 ⟨x, H2, I2, rx, a, C, dx, fs, ex, ea, c, n, l, q2⟩ => ?_) hs
  subst ex
  obtain rfl : ov = Value.ref a := rx
  exact setattr_ok I2 ea c n l ry fun s3 I3 => ⟨σ, _, I3, q2⟩
theorem ps_fldaug {op : Operator} {rd : V → V → Hp → VK → Prop} (ha : PE X o ta) (hv : PE X value tv) (hop : InOp X op rd) : PS X (.AugAssign (.Attribute o f tpos) op value pos) (sFldAug X.K ta tv rd f) := by
  intro pins s σ H D I h
  refine wpAny_AugAssign_AttributeAny (thn (ha pins s σ H _ I h) fun ov s1 ⟨x, H1, I1, rx, a, C, dx, fs, v, ex, ea, c, n, l, q⟩ => ?_)
  subst ex
  obtain rfl : ov = Value.ref a := rx
  refine getattr_ok I1 ea c n l fun u s2 I2 ru => thn (hv pins s2 σ H1 _ I2 q) fun w3 s3 ⟨y, H2, I3, ry, q3⟩ => thn (hop pins s3 σ H2 v y u w3 _ I3 ru ry q3) fun w4 s4 ⟨z, H3, I4, rz, dx', fs', ea', l', q4⟩ => ?_
  exact setattr_ok I4 ea' c n l' rz fun s5 I5 => ⟨σ, _, I5, q4⟩
def rAdd : V → V → Hp → VK → Prop := fun x y H Q => ∃ i j, x = .int i ∧ y = .int j ∧ Q (.int (i + j)) H
def rSub : V → V → Hp → VK → Prop := fun x y H Q => ∃ i j, x = .int i ∧ y = .int j ∧ Q (.int (i - j)) H
theorem in_add : InOp X .Add rAdd := by
  rintro pins s σ H x y u v Q I rx ry ⟨i, j, rfl, rfl, q⟩
  obtain ⟨t, rfl⟩ := (show ∃ t, u = Value.int i t from rx)
  obtain ⟨t', rfl⟩ := (show ∃ t', v = Value.int j t' from ry)
  exact PyProof.Rows.iadd_int ⟨.int (i + j), H, I.tok _, ⟨_, rfl⟩, q⟩
theorem in_sub : InOp X .Sub rSub := by
  rintro pins s σ H x y u v Q I rx ry ⟨i, j, rfl, rfl, q⟩
  obtain ⟨t, rfl⟩ := (show ∃ t, u = Value.int i t from rx)
  obtain ⟨t', rfl⟩ := (show ∃ t', v = Value.int j t' from ry)
  exact PyProof.Rows.isub_int ⟨.int (i - j), H, I.tok _, ⟨_, rfl⟩, q⟩

/-- what is between an instance and its method: the tree of a method call -/
theorem methcall_of {pl : Sem Bool} {m : Str} {apos : Pos} {args : List Expr} {pins : List (Addr × Obj)} {s : Shared} {σ : St} {H : Hp} {Q : Value → Shared → Prop} {te : TE} (he : PE X e te) (I : Inv X pins σ H s)
    (h : te σ H fun x H1 => ∃ a C dx fs g, x = .ref a ∧ H1 a = some (.ins C dx fs) ∧ Cls X.K C ∧ Meth X.K C m g ∧ fs.lookup m = none ∧
      ∀ s1, Inv X pins σ H1 s1 → wpAny (model X.prog X.w) X.A (callWith pos (.ref g) [.ref a] (backTo pos (starEach args X.env)) (backToKw pos (keywordEach [] X.env))) Q X.xe s1)
    (ht : eval (.Call (.Attribute e m apos) args [] pos) X.env = (do
      let ov ← eval e X.env
      standAt apos.atName
      let (f, first) ← holding [ov] (getMethod ov m pl)
      callWith pos f first (backTo pos (starEach args X.env)) (backToKw pos (keywordEach [] X.env)))) :
    wpAny (model X.prog X.w) X.A (eval (.Call (.Attribute e m apos) args [] pos) X.env) Q X.xe s := by
  refine PySem.W.methodCall_KW (pl := pl) (thn (he pins s σ H _ I h) fun u s1 ⟨x, H1, I1, rx, a, C, dx, fs, g, ex, ea, c, k, l, q⟩ => ?_) ht
  subst ex
  obtain rfl : u = Value.ref a := rx
  exact getmeth_ok I1 ea c k l (q s1 I1)
end

/-! ### isinstance -/
section
variable {X : Cx} {pins : List (Addr × Obj)} {σ : St} {H : Hp} {s : Shared} {A : Around} {E : Value → Shared → Prop} {Q : Value → Shared → Prop} {c : Value} {b : Bool}
/-- the type of a value, as the fragment's deciders take it; for an instance its class -/
inductive TyOf (K : PySem.W.Frag) (H : Hp) : V → Value → Prop where
  | non : TyOf K H .non (.type "NoneType")
  | bl (x : Bool) : TyOf K H (.bl x) (.type "bool")
  | int (i : Int) : TyOf K H (.int i) (.type "int")
  | str (x : Str) : TyOf K H (.str x) (.type "str")
  | flt (x : UInt64) : TyOf K H (.flt x) (.type "float")
  | lst {a : Addr} {xs : List V} (e : H a = some (.lst xs)) : TyOf K H (.ref a) (.type "list")
  | frz {a : Addr} {o : Obj} {xs : List V} (e : H a = some (.frz o (.lst xs))) : TyOf K H (.ref a) (.type "list")
  | tup {a : Addr} {xs : List V} (e : H a = some (.tup xs)) : TyOf K H (.ref a) (.type "tuple")
  | dK {a : Addr} {kvs : List (Key × V)} (e : H a = some (.dK kvs)) : TyOf K H (.ref a) (.type "dict")
  | dT {a : Addr} {kvs : List (List Key × V)} (e : H a = some (.dT kvs)) : TyOf K H (.ref a) (.type "dict")
  | ins {a C dx : Addr} {fs : List (Str × V)} (e : H a = some (.ins C dx fs)) (cl : Cls K C) (ha : PySem.W.findIn K (.ref C) "__class__" = some (some (.builtin "object.__class__")))
      (hn : PySem.W.specialIn K (.builtin "object.__class__") "__get__" = some (some (.builtin "getset_descriptor.__get__"))) (htk : PySem.W.takesIn K (.builtin "object.__class__") = some true)
      (hm : PySem.W.mroIn K C (.type "object") = some true) : TyOf K H (.ref a) (.ref C)
/-- isinstance(x, c) for one class c, a built-in or an own one: kitOne's answer -/
theorem isinst_ok {x : V} {u t : Value} (I : Inv X pins σ H s) (rx : RelV x u) (ty : TyOf X.K H x t) (e : PySem.W.kitOne X.K t c = some b) (h : ∀ tk, Q (.bool b) { s with toks := tk }) :
    wpAny (model X.prog X.w) A (call (.builtin "isinstance") [u, c]) Q E s := by
  cases ty with
  | non => cases (show u = Value.none from rx); exact PySem.W.kia_one PySem.W.kitx_none I.kIn True.intro e (fun z => nomatch z) h
  | bl y => cases (show u = Value.bool y from rx); exact PySem.W.kia_one PySem.W.kitx_bool I.kIn True.intro e (fun z => nomatch z) h
  | int i => obtain ⟨t, q⟩ := (show ∃ t, u = Value.int i t from rx); cases q; exact PySem.W.kia_one PySem.W.kitx_int I.kIn True.intro e (fun z => nomatch z) h
  | str y => obtain ⟨t, q⟩ := (show ∃ t, u = Value.str y t from rx); cases q; exact PySem.W.kia_one PySem.W.kitx_str I.kIn True.intro e (fun z => nomatch z) h
  | flt y => obtain ⟨t, q⟩ := (show ∃ t, u = Value.float y t from rx); cases q; exact PySem.W.kia_one PySem.W.kitx_float I.kIn True.intro e (fun z => nomatch z) h
  | @lst a xs ea =>
    cases (show u = Value.ref a from rx)
    obtain ⟨_, _, n, _, h1⟩ := (show ObjOk X.prog X.w H s.heap a (.lst xs) from I.hok a _ ea)
    exact PySem.W.kia_one PySem.W.kitx_list I.kIn ⟨_, h1, rfl⟩ e (fun z => nomatch z) h
  | @frz a ob xs ea =>
    cases (show u = Value.ref a from rx)
    obtain ⟨_, _, _, n, _, h1⟩ := (show ObjOk X.prog X.w H s.heap a (.frz ob (.lst xs)) from I.hok a _ ea)
    exact PySem.W.kia_one PySem.W.kitx_list I.kIn ⟨_, h1, rfl⟩ e (fun z => nomatch z) h
  | @tup a xs ea =>
    cases (show u = Value.ref a from rx)
    obtain ⟨_, _, _, p⟩ := (show ObjOk X.prog X.w H s.heap a (.tup xs) from I.hok a _ ea)
    obtain ⟨o, h1, h2, _⟩ := p
    exact PySem.W.kia_one PySem.W.kitx_tuple I.kIn ⟨o, h1, h2⟩ e (fun z => nomatch z) h
  | @dK a kvs ea =>
    cases (show u = Value.ref a from rx)
    obtain ⟨_, _, vs, _, p⟩ := (show ObjOk X.prog X.w H s.heap a (.dK kvs) from I.hok a _ ea)
    obtain ⟨o, es, ep, h1, h2, _⟩ := p
    exact PySem.W.kia_one PySem.W.kitx_dict I.kIn ⟨o, h1, h2.1⟩ e (fun z => nomatch z) h
  | @dT a kvs ea =>
    cases (show u = Value.ref a from rx)
    obtain ⟨_, _, xs, _, o, es, ep, h1, h2, _⟩ := (show ObjOk X.prog X.w H s.heap a (.dT kvs) from I.hok a _ ea)
    exact PySem.W.kia_one PySem.W.kitx_dict I.kIn ⟨o, h1, h2.1⟩ e (fun z => nomatch z) h
  | @ins a C dx fs ea cl ha hn htk hm =>
    cases (show u = Value.ref a from rx)
    obtain ⟨mA, O, _⟩ := ins_get I.hok ea
    obtain ⟨od, J, _⟩ := O.look
    exact PySem.W.kia_one (PySem.W.kitx_own (cl.get _) cl.hd ha hn htk hm) I.kIn J e (fun z => nomatch z) h
end
end L2

namespace L2
open PySem PySem.Spec PyProof.Rows

/-! ### room -/
structure Room (k : Nat) (A : Around) : Prop where
  hd : A.handled = none
  dp : A.depth + 3 * k + 5 < recursionLimit
  un : A.units + 16 * k + 200 < cLine
theorem Room.mono {j k : Nat} {A : Around} (r : Room k A) (h : j ≤ k) : Room j A := ⟨r.hd, by have := r.dp; omega, by have := r.un; omega⟩
theorem Room.deeper {k : Nat} {A : Around} (r : Room (k + 1) A) (env : Env) : Room k (A.deeper env) :=
  ⟨r.hd, by have := r.dp; show A.depth + 1 + 3 * k + 5 < _; omega, by have := r.un; show A.units + 3 + 16 * k + 200 < _; omega⟩
theorem Room.in1 {k : Nat} {A : Around} (r : Room (k + 1) A) : Room k A.in1 :=
  ⟨r.hd, by have := r.dp; show A.depth + 3 * k + 5 < _; omega, by have := r.un; show A.units + 1 + 16 * k + 200 < _; omega⟩
theorem make_depth {A : Around} {C : Addr} {us : List Value} {kw : List (Str × Value)} : (A.under (.builtin "type.__call__" ⟨.ref C :: us, kw⟩)).depth = A.depth + 1 := by
  first | rfl | simp [Around.under, Code.weight, Code.isCreation, Code.isGuard, Code.isCaller, Code.frames, Code.isFrame, guardIds]
theorem make_units {A : Around} {C : Addr} {us : List Value} {kw : List (Str × Value)} : (A.under (.builtin "type.__call__" ⟨.ref C :: us, kw⟩)).units = A.units + 1 := by
  first | rfl | simp [Around.under, Code.cUnits, Code.frames, Code.isFrame]
theorem Room.make {k : Nat} {A : Around} (r : Room (k + 1) A) (C : Addr) (us : List Value) (kw : List (Str × Value)) : Room k (A.under (.builtin "type.__call__" ⟨.ref C :: us, kw⟩)) :=
  ⟨r.hd, by have := r.dp; rw [make_depth]; omega, by have := r.un; rw [make_units]; omega⟩
theorem Room.depth {k : Nat} {A : Around} (r : Room k A) : A.depth < recursionLimit := by have := r.dp; omega
theorem Room.units {k : Nat} {A : Around} (r : Room k A) : A.units + 64 < cLine := by have := r.un; omega
theorem Room.units0 {k : Nat} {A : Around} (r : Room k A) : A.units < cLine := by have := r.un; omega

/-! ### argument lists and displays -/
def tNil : TA := fun _ H Q => Q [] H
def tCons (ta : TE) (tr : TA) : TA := fun σ H Q => ta σ H fun x H1 => tr σ H1 fun xs H2 => Q (x :: xs) H2
section
variable {X : Cx} {e : Expr} {es : List Expr} {te : TE} {t : TA} {pos : Pos}
theorem pa_nil : PA X [] tNil := fun _ _ _ _ H Q I h => Calls.spliced_nil ⟨[], H, I, .nil, h⟩
theorem pa_cons (ha : PE X e te) (hr : PA X es t) (hs : starEach (e :: es) X.env = (false, eval e X.env) :: starEach es X.env := by rfl) : PA X (e :: es) (tCons te t) := by
  intro pos pins s σ H Q I h
  rw [hs]
  show wpAny _ _ (spliced ((false, eval e X.env) :: backTo pos (starEach es X.env))) _ _ s
  refine Calls.spliced_cons (thn (ha pins s σ H _ I h) fun u s1 ⟨x, H1, I1, r1, q1⟩ => ?_)
  exact thn (hr pos pins s1 σ H1 _ I1 q1) fun us s2 ⟨xs, H2, I2, r2, q2⟩ => ⟨x :: xs, H2, I2, .cons r1 r2, q2⟩

/-- a tuple, a list of written items -/
def tTup (t : TA) : TE := fun σ H Q => t σ H fun xs H1 => xs.length ≤ sizeLine ∧ ∀ p, H1 p = none → Q (.ref p) (upd H1 p (.tup xs))
def tLst (t : TA) : TE := fun σ H Q => t σ H fun xs H1 => xs.length ≤ sizeLine ∧ ∀ p, H1 p = none → Q (.ref p) (upd H1 p (.lst xs))
theorem pe_tup {x1} (h : PA X es t) : PE X (.Tuple es x1 pos) (tTup t) := by
  intro pins s σ H Q I hq
  refine wpAny_Tuple_spliced (thn (h pos pins s σ H _ I hq) fun us s1 ⟨xs, H1, I1, r, z, q⟩ => ⟨by rw [← r.length]; exact z, ?_⟩)
  have hf : H1 s1.heap.objs.size = none := I1.hok.fresh (Nat.le_refl _)
  refine ⟨.ref s1.heap.objs.size, upd H1 s1.heap.objs.size (.tup xs), I1.laid (t' := s1.toks) (fun b u e => Heap.get?_push_of_some _ e) (Nat.le_refl _) ?_, rfl, q _ hf⟩
  exact ⟨z, us, r, ⟨_, Heap.get?_push_size _ rfl, rfl, _, rfl⟩⟩
theorem pe_lst (h : PA X es t) : PE X (.List es pos) (tLst t) := by
  intro pins s σ H Q I hq
  refine wpAny_List_spliced (thn (h pos pins s σ H _ I hq) fun us s1 ⟨xs, H1, I1, r, z, q⟩ => ⟨by rw [← r.length]; exact z, ?_⟩)
  have hf : H1 s1.heap.objs.size = none := I1.hok.fresh (Nat.le_refl _)
  refine ⟨.ref s1.heap.objs.size, upd H1 s1.heap.objs.size (.lst xs), I1.laid (t' := s1.toks) (fun b u e => Heap.get?_push_of_some _ e) (Nat.le_refl _) ?_, rfl, q _ hf⟩
  exact ⟨z, us, 0, r, Heap.get?_push_size _ rfl⟩
end

/-! ### what a def promises -/
/-- a def's promise: the bound arguments in the parameters' order, the heap, the wanted end, the wanted exception -/
abbrev Sp := List V → Hp → VK → XK → Prop
/-- how an exception lies behind a call (file 08 gives it): the callers' frames, abstract heap and state ahead of the call, the wish, the exception, the state -/
abbrev CXT := List Env → Hp → Shared → XK → Value → Shared → Prop

/-- the state at a call -/
structure Env0 (P : Program) (w : World) (K : PySem.W.Frag) (mg : Str → Option Value) (base : Heap) (A : Around) (outer : List Env) (s : Shared) (H : Hp) : Prop where
  frames : A.frames = some outer
  mod : Mod K mg base
  bs : ∀ b o, base.get? b = some o → s.heap.get? b = some o ∧ H b = none
  bsz : base.objs.size ≤ s.heap.objs.size
  funs : s.heap.FunFrames base outer
  frf : ∀ b ∈ frs outer, H b = none
  hok : HOk P w H s.heap
  bare : AllBare s.gens
/-- a call's end -/
def CE (outer : List Env) (P : Program) (w : World) (H : Hp) (s : Shared) (Q : VK) (u : Value) (s' : Shared) : Prop :=
  ∃ v H', s'.os = s.os ∧ AllBare s'.gens ∧ Un (frs outer) [] H H' s.heap s'.heap ∧ HOk P w H' s'.heap ∧ RelV v u ∧ Q v H'
def CR (CX : CXT) (outer : List Env) (P : Program) (w : World) (H : Hp) (s : Shared) (Q : VK) (E : XK) (r : Result) (s' : Shared) : Prop :=
  match r with
  | .ok (.ret u) => CE outer P w H s Q u s'
  | .ok _ => False
  | .error e => CX outer H s E e s'
structure FnOk (P : Program) (w : World) (K : PySem.W.Frag) (mg : Str → Option Value) (base : Heap) (CX : CXT) (k : Nat) (f : Addr) (fd : FuncData) (ps : List Str) (sp : Sp) : Prop where
  len : ∀ vs H Q E, sp vs H Q E → vs.length = ps.length
  run : ∀ (A : Around) (outer : List Env) (s : Shared) (H : Hp) (args : Args) (us : List Value) (vs : List V) (Q : VK) (E : XK), Room k A → Env0 P w K mg base A outer s H → BindsTo s fd args (ps.zip us) → Vals vs us → sp vs H Q E →
    codeAny (model P w) A (.call (.ref f) args) (CR CX outer P w H s Q E) s
theorem FnOk.mono {P : Program} {w : World} {K : PySem.W.Frag} {mg : Str → Option Value} {base : Heap} {CX : CXT} {j k : Nat} {f : Addr} {fd : FuncData} {ps : List Str} {sp : Sp} (F : FnOk P w K mg base CX j f fd ps sp) (h : j ≤ k) :
    FnOk P w K mg base CX k f fd ps sp := ⟨F.len, fun A outer s H args us vs Q E hr => F.run A outer s H args us vs Q E (hr.mono h)⟩
/-- a weaker promise -/
theorem FnOk.imp {P : Program} {w : World} {K : PySem.W.Frag} {mg : Str → Option Value} {base : Heap} {CX : CXT} {k : Nat} {f : Addr} {fd : FuncData} {ps : List Str} {sp sp' : Sp} (F : FnOk P w K mg base CX k f fd ps sp)
    (h : ∀ vs H Q E, sp' vs H Q E → sp vs H Q E) : FnOk P w K mg base CX k f fd ps sp' :=
  ⟨fun vs H Q E q => F.len vs H Q E (h _ _ _ _ q), fun A outer s H args us vs Q E hr he hb hv hs => F.run A outer s H args us vs Q E hr he hb hv (h _ _ _ _ hs)⟩

theorem Env0.make {P : Program} {w : World} {K : PySem.W.Frag} {mg : Str → Option Value} {base : Heap} {A : Around} {outer : List Env} {s : Shared} {H : Hp} (e : Env0 P w K mg base A outer s H) (C : Addr) (us : List Value) (kw : List (Str × Value)) :
    Env0 P w K mg base (A.under (.builtin "type.__call__" ⟨.ref C :: us, kw⟩)) outer s H := ⟨by first | exact e.frames | (simpa [Around.under, Code.envs, Code.isFrame, pushEnvs] using e.frames), e.mod, e.bs, e.bsz, e.funs, e.frf, e.hok, e.bare⟩
theorem Env0.in1 {P : Program} {w : World} {K : PySem.W.Frag} {mg : Str → Option Value} {base : Heap} {A : Around} {outer : List Env} {s : Shared} {H : Hp} (e : Env0 P w K mg base A outer s H) :
    Env0 P w K mg base A.in1 outer s H := ⟨e.frames, e.mod, e.bs, e.bsz, e.funs, e.frf, e.hok, e.bare⟩

section
variable {X : Cx} {pins : List (Addr × Obj)} {σ : St} {H : Hp} {s s' : Shared}
/-- from a body: what a callee wants -/
theorem Inv.env0 (I : Inv X pins σ H s) : Env0 X.prog X.w X.K X.mg X.base X.A X.stack s H :=
  ⟨I.ok.frames, I.ok.mod, I.bs, Nat.le_trans I.ok.bsz I.sz, I.stack, I.stkFree, I.hok, I.bare⟩
/-- behind a call -/
theorem Inv.after {Q : VK} {u : Value} (I : Inv X pins σ H s) (h : CE X.stack X.prog X.w H s Q u s') : EP X pins σ Q u s' := by
  obtain ⟨v, H', os, bare, un, hok, r, q⟩ := h
  obtain ⟨hh, g, d, t, os'⟩ := s'
  obtain rfl : os' = s.os := os
  exact ⟨v, H', I.call (h' := hh) (g' := g) (d' := d) (t' := t) (ch := []) un hok bare (fun b z => absurd z (by simp)), r, q⟩
end

/-! ### calls -/
/-- f(..): the written arguments, then the defaults dvs; E: what is wanted of an exception -/
def tCall (sp : Sp) (dvs : List V) (E : XK) (t : TA) : TE := fun σ H Q => t σ H fun vs H1 => sp (vs ++ dvs) H1 Q E
/-- o.m(..) of an instance of the class at C -/
def tMeth (C : Addr) (m : Str) (sp : Sp) (dvs : List V) (E : XK) (ta : TE) (t : TA) : TE := fun σ H Q => ta σ H fun x H1 => ∃ a dx fs, x = .ref a ∧ H1 a = some (.ins C dx fs) ∧ fs.lookup m = none ∧
  t σ H1 fun vs H2 => sp (x :: (vs ++ dvs)) H2 Q E
/-- C(..): a new instance and its dict, then __init__ -/
def tMake (C : Addr) (sp : Sp) (dvs : List V) (E : XK) (t : TA) : TE := fun σ H Q => t σ H fun vs H1 => ∀ x dx, H1 x = none → H1 dx = none → dx ≠ x →
  sp (.ref x :: (vs ++ dvs)) (upd (upd H1 dx (.own x)) x (.ins C dx [])) (fun v H2 => v = .non ∧ Q (.ref x) H2) E

/-- how the parameters are bound: us the positional arguments, kw the keywords' values by name, ds the defaults that fill up -/
def Binds (K : PySem.W.Frag) (fd : FuncData) (ps : List Str) (ds : List Value) : Prop :=
  ∀ (s : Shared) (us : List Value), K.In s.heap → (us ++ ds).length = ps.length → BindsTo s fd ⟨us, []⟩ (ps.zip (us ++ ds))
/-- every parameter is given -/
theorem Binds.all {K : PySem.W.Frag} {fd : FuncData} {ps : List Str} (h : ∀ us : List Value, us.length = ps.length → bindArgs fd ⟨us, []⟩ = pure (ps.zip us)) : Binds K fd ps [] := fun s us _ hl => by
  rw [List.append_nil] at hl ⊢
  exact .of_eq (h us hl)

/-- an exception of a callee reaches what this body wants of exceptions -/
def Passes (CX : CXT) (X : Cx) (E : XK) : Prop := ∀ (pins : List (Addr × Obj)) (σ : St) (H : Hp) (s : Shared) (e : Value) (s' : Shared), Inv X pins σ H s → CX X.stack H s E e s' → X.xe e s'

section
variable {X : Cx} {CX : CXT} {k : Nat} {f C : Addr} {fd : FuncData} {ps : List Str} {sp : Sp} {dvs : List V} {ds : List Value} {E : XK} {x m : Str} {p pos apos : Pos} {e o : Expr} {es : List Expr} {ta : TE} {t : TA}

/-- the callee runs -/
theorem run_fn {pins : List (Addr × Obj)} {σ : St} {H : Hp} {s : Shared} {Q : VK} {us : List Value} {vs : List V} (F : FnOk X.prog X.w X.K X.mg X.base CX k f fd ps sp) (hr : Room k X.A) (hb : Binds X.K fd ps ds) (hd : Vals dvs ds) (hx : Passes CX X E)
    (I : Inv X pins σ H s) (r : Vals vs us) (h : sp (vs ++ dvs) H Q E) : wpAny (model X.prog X.w) X.A (call (.ref f) us) (EP X pins σ Q) X.xe s := by
  have r2 : Vals (vs ++ dvs) (us ++ ds) := r.append hd
  have hl : (us ++ ds).length = ps.length := by rw [← r2.length]; exact F.len _ _ _ _ h
  refine wpAny_call (codeAny_mono (F.run X.A X.stack s H ⟨us, []⟩ (us ++ ds) (vs ++ dvs) Q E hr I.env0 (hb s us I.kIn hl) r2 h) fun r s' hq => ?_)
  cases r with
  | error e => exact hx pins σ H s e s' I hq
  | ok fl =>
    cases fl with
    | ret u => exact I.after hq
    | next => exact False.elim hq
    | brk => exact False.elim hq
    | cont => exact False.elim hq

theorem pe_call (F : FnOk X.prog X.w X.K X.mg X.base CX k f fd ps sp) (hr : Room k X.A) (hg : Gl X x) (hm : X.mg x = some (.ref f)) (hk : PySem.W.keepIn X.K (.ref f) = true) (hb : Binds X.K fd ps ds) (hd : Vals dvs ds) (hx : Passes CX X E)
    (ha : PA X (e :: es) t) (hdb : (x == ("__debug__" : Str)) = false := by decide) (he : starEach (e :: es) X.env = (false, eval e X.env) :: starEach es X.env := by rfl) (hpl : (backTo pos (starEach es X.env)).any (·.1) = false := by rfl) :
    PE X (.Call (.Name x p) (e :: es) [] pos) (tCall sp dvs E t) := by
  intro pins s σ H Q I h
  refine wpAny_Call_Name_kw (ld_glob I hg hm ?_ hdb)
  refine PySem.W.callWith_K (h₀ := X.base) I.ok.mod.kin hk (thn (ha pos pins s σ H _ I h) fun us s1 ⟨vs, H1, I1, r, q⟩ => ⟨I1.kIn, ?_⟩) he hpl
  exact run_fn F hr hb hd hx I1 r q
theorem pe_call0 (F : FnOk X.prog X.w X.K X.mg X.base CX k f fd ps sp) (hr : Room k X.A) (hg : Gl X x) (hm : X.mg x = some (.ref f)) (hk : PySem.W.keepIn X.K (.ref f) = true) (hb : Binds X.K fd ps ds) (hd : Vals dvs ds) (hx : Passes CX X E)
    (hdb : (x == ("__debug__" : Str)) = false := by decide) : PE X (.Call (.Name x p) [] [] pos) (tCall sp dvs E tNil) := by
  intro pins s σ H Q I h
  refine wpAny_Call_Name_kw (ld_glob I hg hm ?_ hdb)
  exact PySem.W.callWith_K0 I.kIn hk (run_fn (us := []) F hr hb hd hx I .nil h)

/-- o.m(e, ..) -/
theorem pe_meth {pl : Sem Bool} (he : PE X o ta) (c : Cls X.K C) (hm : Meth X.K C m f) (F : FnOk X.prog X.w X.K X.mg X.base CX k f fd ps sp) (hr : Room k X.A) (hb : Binds X.K fd ps ds) (hd : Vals dvs ds) (hx : Passes CX X E) (ha : PA X (e :: es) t)
    (hst : starEach (e :: es) X.env = (false, eval e X.env) :: starEach es X.env := by rfl) (hpl : (backTo pos (starEach es X.env)).any (·.1) = false := by rfl)
    (ht : eval (.Call (.Attribute o m apos) (e :: es) [] pos) X.env = (do
      let ov ← eval o X.env
      standAt apos.atName
      let (f, first) ← holding [ov] (getMethod ov m pl)
      callWith pos f first (backTo pos (starEach (e :: es) X.env)) (backToKw pos (keywordEach [] X.env))) := by rfl) :
    PE X (.Call (.Attribute o m apos) (e :: es) [] pos) (tMeth C m sp dvs E ta t) := by
  intro pins s σ H Q I h
  refine PySem.W.methodCall_KW (pl := pl) (thn (he pins s σ H _ I h) fun u s1 ⟨x, H1, I1, rx, a, dx, fs, ex, ea, l, q⟩ => ?_) ht
  subst ex
  obtain rfl : u = Value.ref a := rx
  refine getmeth_ok I1 ea c hm l ?_
  refine PySem.W.callWith_K (first := [.ref a]) (h₀ := X.base) I.ok.mod.kin hm.kp (thn (ha pos pins s1 σ H1 _ I1 q) fun us s2 ⟨vs, H2, I2, r, q2⟩ => ⟨I2.kIn, ?_⟩) hst hpl
  exact run_fn (us := .ref a :: us) (vs := .ref a :: vs) F hr hb hd hx I2 (.cons rfl r) q2
/-- o.m() -/
theorem pe_meth0 {pl : Sem Bool} (he : PE X o ta) (c : Cls X.K C) (hm : Meth X.K C m f) (F : FnOk X.prog X.w X.K X.mg X.base CX k f fd ps sp) (hr : Room k X.A) (hb : Binds X.K fd ps ds) (hd : Vals dvs ds) (hx : Passes CX X E)
    (ht : eval (.Call (.Attribute o m apos) [] [] pos) X.env = (do
      let ov ← eval o X.env
      standAt apos.atName
      let (f, first) ← holding [ov] (getMethod ov m pl)
      callWith pos f first (backTo pos (starEach [] X.env)) (backToKw pos (keywordEach [] X.env))) := by rfl) :
    PE X (.Call (.Attribute o m apos) [] [] pos) (tMeth C m sp dvs E ta tNil) := by
  intro pins s σ H Q I h
  refine PySem.W.methodCall_KW (pl := pl) (thn (he pins s σ H _ I h) fun u s1 ⟨x, H1, I1, rx, a, dx, fs, ex, ea, l, q⟩ => ?_) ht
  subst ex
  obtain rfl : u = Value.ref a := rx
  refine getmeth_ok I1 ea c hm l ?_
  exact PySem.W.callWith_K0 (first := [.ref a]) I1.kIn hm.kp (run_fn (us := [.ref a]) (vs := [.ref a]) F hr hb hd hx I1 (.cons rfl .nil) q)

/-- what a class must have to be made -/
structure Mk (K : PySem.W.Frag) (C f : Addr) : Prop where
  makes : PySem.W.makesIn K C = true
  init : PySem.W.findIn K (.ref C) "__init__" = some (some (.ref f))
  fn : PySem.W.isFn K (.ref f) = true
  kp : PySem.W.keepIn K (.ref C) = true

theorem run_make {pins : List (Addr × Obj)} {σ : St} {H : Hp} {s : Shared} {Q : VK} {us : List Value} {vs : List V} (M : Mk X.K C f) (F : FnOk X.prog X.w X.K X.mg X.base CX k f fd ps sp) (hr : Room (k + 1) X.A) (hb : Binds X.K fd ps ds) (hd : Vals dvs ds)
    (hx : Passes CX X E) (I : Inv X pins σ H s) (r : Vals vs us)
    (h : ∀ x dx, H x = none → H dx = none → dx ≠ x → sp (.ref x :: (vs ++ dvs)) (upd (upd H dx (.own x)) x (.ins C dx [])) (fun v H2 => v = .non ∧ Q (.ref x) H2) E) :
    wpAny (model X.prog X.w) X.A (call (.ref C) us) (EP X pins σ Q) X.xe s := by
  have hq := h (s.heap.objs.size + 1) s.heap.objs.size (I.hok.fresh (Nat.le_succ _)) (I.hok.fresh (Nat.le_refl _)) (Nat.ne_of_lt (Nat.lt_succ_self _))
  have I2 := Inv.made (C := C) I
  have r2 : Vals (V.ref (s.heap.objs.size + 1) :: (vs ++ dvs)) (Value.ref (s.heap.objs.size + 1) :: (us ++ ds)) := .cons rfl (r.append hd)
  have hl : (Value.ref (s.heap.objs.size + 1) :: us ++ ds).length = ps.length := by
    have e := r2.length
    rw [F.len _ _ _ _ hq] at e
    exact e.symm
  refine wpAny_call (make_map (f := f) I.kIn M.makes M.init (beq_iff_eq.mp M.fn) (codeAny_mono (F.run _ X.stack _ _ ⟨Value.ref (s.heap.objs.size + 1) :: us, []⟩ (Value.ref (s.heap.objs.size + 1) :: (us ++ ds)) _ _ E (hr.make C us [])
    (I2.env0.make C us []) (hb _ (Value.ref (s.heap.objs.size + 1) :: us) I2.kIn hl) r2 hq) fun r s' hq' => ?_))
  cases r with
  | error e => exact hx pins σ _ _ e s' I2 hq'
  | ok fl =>
    cases fl with
    | ret u =>
      obtain ⟨v, H', I3, rv, ev, q3⟩ := I2.after hq'
      subst ev
      exact ⟨rv, ⟨V.ref (s.heap.objs.size + 1), H', I3, rfl, q3⟩⟩
    | next => exact False.elim hq'
    | brk => exact False.elim hq'
    | cont => exact False.elim hq'
theorem pe_make (M : Mk X.K C f) (F : FnOk X.prog X.w X.K X.mg X.base CX k f fd ps sp) (hr : Room (k + 1) X.A) (hg : Gl X x) (hm : X.mg x = some (.ref C)) (hb : Binds X.K fd ps ds) (hd : Vals dvs ds) (hx : Passes CX X E)
    (ha : PA X (e :: es) t) (hdb : (x == ("__debug__" : Str)) = false := by decide) (he : starEach (e :: es) X.env = (false, eval e X.env) :: starEach es X.env := by rfl) (hpl : (backTo pos (starEach es X.env)).any (·.1) = false := by rfl) :
    PE X (.Call (.Name x p) (e :: es) [] pos) (tMake C sp dvs E t) := by
  intro pins s σ H Q I h
  refine wpAny_Call_Name_kw (ld_glob I hg hm ?_ hdb)
  refine PySem.W.callWith_K (h₀ := X.base) I.ok.mod.kin M.kp (thn (ha pos pins s σ H _ I h) fun us s1 ⟨vs, H1, I1, r, q⟩ => ⟨I1.kIn, ?_⟩) he hpl
  exact run_make M F hr hb hd hx I1 r q
theorem pe_make0 (M : Mk X.K C f) (F : FnOk X.prog X.w X.K X.mg X.base CX k f fd ps sp) (hr : Room (k + 1) X.A) (hg : Gl X x) (hm : X.mg x = some (.ref C)) (hb : Binds X.K fd ps ds) (hd : Vals dvs ds) (hx : Passes CX X E)
    (hdb : (x == ("__debug__" : Str)) = false := by decide) : PE X (.Call (.Name x p) [] [] pos) (tMake C sp dvs E tNil) := by
  intro pins s σ H Q I h
  refine wpAny_Call_Name_kw (ld_glob I hg hm ?_ hdb)
  exact PySem.W.callWith_K0 I.kIn M.kp (run_make (us := []) M F hr hb hd hx I .nil h)
end

/-! ### keywords -/
/-- the values of the keywords, from the left -/
def PK (X : Cx) (kws : List Keyword) (t : TA) : Prop :=
  ∀ (pos : Pos) (pins : List (Addr × Obj)) (s : Shared) (σ : St) (H : Hp) (Q : List V → Hp → Prop), Inv X pins σ H s → t σ H Q → wpAny (model X.prog X.w) X.A (evalAll ((backToKw pos (keywordEach kws X.env)).map (·.2))) (AP X pins σ Q) X.xe s
section
variable {X : Cx} {CX : CXT} {k : Nat} {f C : Addr} {fd : FuncData} {ps ks : List Str} {sp : Sp} {E : XK} {x m : Str} {p pos apos kpos : Pos} {e o : Expr} {es : List Expr} {kws : List Keyword} {te ta : TE} {t tk : TA} {nm : Option Str}
theorem pk_nil : PK X [] tNil := fun _ _ _ _ H Q I h => wpAny_evalAll_nil ⟨[], H, I, .nil, h⟩
theorem pk_cons (ha : PE X e te) (hr : PK X kws t) : PK X (⟨nm, e, kpos⟩ :: kws) (tCons te t) := by
  intro pos pins s σ H Q I h
  show wpAny _ _ (evalAll ((do let v ← eval e X.env; standAt pos; pure v) :: (backToKw pos (keywordEach kws X.env)).map (·.2))) _ _ s
  refine wpAny_evalAll_cons (wpAny_bind (thn (ha pins s σ H _ I h) fun u s1 ⟨x, H1, I1, r1, q1⟩ => wpAny_bind (wpAny_standAt (wpAny_pure ?_))))
  exact thn (hr pos pins s1 σ H1 _ I1 q1) fun us s2 ⟨xs, H2, I2, r2, q2⟩ => ⟨x :: xs, H2, I2, .cons r1 r2, q2⟩

/-- how a call with keywords binds: g puts the positional values us and the keywords' values ws (names ks) in the parameters' order, defaults among them -/
structure KBinds (K : PySem.W.Frag) (fd : FuncData) (ps ks : List Str) (g : List Value → List Value → List Value) (gV : List V → List V → List V) : Prop where
  to : ∀ (s : Shared) (us ws : List Value), K.In s.heap → (g us ws).length = ps.length → BindsTo s fd ⟨us, ks.zip ws⟩ (ps.zip (g us ws))
  rel : ∀ {vs : List V} {us : List Value} {zs : List V} {ws : List Value}, Vals vs us → Vals zs ws → Vals (gV vs zs) (g us ws)
def tCallK (sp : Sp) (gV : List V → List V → List V) (E : XK) (t tk : TA) : TE := fun σ H Q => t σ H fun vs H1 => tk σ H1 fun zs H2 => sp (gV vs zs) H2 Q E
variable {g : List Value → List Value → List Value} {gV : List V → List V → List V}
theorem run_fnk {pins : List (Addr × Obj)} {σ : St} {H : Hp} {s : Shared} {Q : VK} {us ws : List Value} {vs zs : List V} (F : FnOk X.prog X.w X.K X.mg X.base CX k f fd ps sp) (hr : Room k X.A) (hb : KBinds X.K fd ps ks g gV) (hx : Passes CX X E)
    (I : Inv X pins σ H s) (r : Vals vs us) (rz : Vals zs ws) (h : sp (gV vs zs) H Q E) : wpAny (model X.prog X.w) X.A (call (.ref f) us (ks.zip ws)) (EP X pins σ Q) X.xe s := by
  have r2 := hb.rel r rz
  have hl : (g us ws).length = ps.length := by rw [← r2.length]; exact F.len _ _ _ _ h
  refine wpAny_call (codeAny_mono (F.run X.A X.stack s H ⟨us, ks.zip ws⟩ (g us ws) (gV vs zs) Q E hr I.env0 (hb.to s us ws I.kIn hl) r2 h) fun r s' hq => ?_)
  cases r with
  | error e => exact hx pins σ H s e s' I hq
  | ok fl =>
    cases fl with
    | ret u => exact I.after hq
    | next => exact False.elim hq
    | brk => exact False.elim hq
    | cont => exact False.elim hq
/-- f(e, .., k = v, ..) -/
theorem pe_callK (F : FnOk X.prog X.w X.K X.mg X.base CX k f fd ps sp) (hr : Room k X.A) (hg : Gl X x) (hm : X.mg x = some (.ref f)) (hk : PySem.W.keepIn X.K (.ref f) = true) (hb : KBinds X.K fd ps ks g gV) (hx : Passes CX X E)
    (ha : PA X (e :: es) t) (hkw : PK X kws tk) (hall : (backToKw pos (keywordEach kws X.env)).all (·.1.isSome) = true := by rfl) (hks : (backToKw pos (keywordEach kws X.env)).filterMap (·.1) = ks := by rfl)
    (hdb : (x == ("__debug__" : Str)) = false := by decide) (he : starEach (e :: es) X.env = (false, eval e X.env) :: starEach es X.env := by rfl)
    (hpl : ((backTo pos (starEach (e :: es) X.env)).any (·.1) || (backToKw pos (keywordEach kws X.env)).any (·.1.isNone)) = false := by rfl) :
    PE X (.Call (.Name x p) (e :: es) kws pos) (tCallK sp gV E t tk) := by
  intro pins s σ H Q I h
  refine wpAny_Call_Name_kw (ld_glob I hg hm ?_ hdb)
  refine PySem.W.callWith_KW (h₀ := X.base) I.ok.mod.kin hk hall (thn (ha pos pins s σ H _ I h) fun us s1 ⟨vs, H1, I1, r, q⟩ => ?_) hpl he
  refine thn (hkw pos pins s1 σ H1 _ I1 q) fun ws s2 ⟨zs, H2, I2, rz, q2⟩ => ⟨I2.kIn, ?_⟩
  rw [hks]
  exact run_fnk F hr hb hx I2 r rz q2
end

/-! ### a def's body keeps its promise -/
/-- names: the parameters first -/
structure FnScope (N P : List Str) (sc : Scope) : Prop where
  kind : sc.kind = .function
  co : sc.isCoroutine = false
  gen : sc.isGenerator = false
  nd : N.Nodup
  pre : N.take P.length = P
  par : ∀ x ∈ P, sc.names.lookup x = some .local ∨ sc.names.lookup x = some .cell
  nofree : ∀ y ∈ sc.names, y.2 ≠ .free

theorem bindL_out {kindOf : Str → Option NameKind} {x : Str} : ∀ {binds : List (Str × Value)} {m : Str → Option Value}, (∀ v, (x, v) ∉ binds) → bindL kindOf binds m x = m x
  | [], _, _ => rfl
  | (n, v) :: r, m, h => by
    unfold bindL
    rw [bindL_out fun w hw => h w (List.mem_cons_of_mem _ hw)]
    split
    · have : x ≠ n := by rintro rfl; exact h v List.mem_cons_self
      simp [this]
    · rfl
theorem bindC_out {kindOf : Str → Option NameKind} {x : Str} : ∀ {binds : List (Str × Value)} {m : Str → Option Value}, (∀ v, (x, v) ∉ binds) → bindC kindOf binds m x = m x
  | [], _, _ => rfl
  | (n, v) :: r, m, h => by
    unfold bindC
    rw [bindC_out fun w hw => h w (List.mem_cons_of_mem _ hw)]
    split
    · rfl
    · have : x ≠ n := by rintro rfl; exact h v List.mem_cons_self
      simp [this]
theorem bindL_get {kindOf : Str → Option NameKind} {x : Str} {v : Value} : ∀ {P : List Str} {vs : List Value} {i : Nat} {m : Str → Option Value}, P.Nodup → P[i]? = some x → vs[i]? = some v → kindOf x = some .local →
    bindL kindOf (P.zip vs) m x = some v
  | [], _, _, _, _, h, _, _ => by simp at h
  | _ :: _, [], _, _, _, _, h, _ => by simp at h
  | p :: P, w :: vs, 0, m, nd, h1, h2, hk => by
    simp at h1 h2; subst h1; subst h2
    show bindL kindOf ((p, w) :: P.zip vs) m p = _
    unfold bindL
    rw [bindL_out fun v hv => (List.nodup_cons.mp nd).1 (List.of_mem_zip hv).1, if_pos hk]
    simp
  | p :: P, w :: vs, i + 1, m, nd, h1, h2, hk => by
    show bindL kindOf ((p, w) :: P.zip vs) m x = _
    unfold bindL
    exact bindL_get (i := i) (List.nodup_cons.mp nd).2 (by simpa using h1) (by simpa using h2) hk
theorem bindC_get {kindOf : Str → Option NameKind} {x : Str} {v : Value} : ∀ {P : List Str} {vs : List Value} {i : Nat} {m : Str → Option Value}, P.Nodup → P[i]? = some x → vs[i]? = some v → kindOf x ≠ some .local →
    bindC kindOf (P.zip vs) m x = some v
  | [], _, _, _, _, h, _, _ => by simp at h
  | _ :: _, [], _, _, _, _, h, _ => by simp at h
  | p :: P, w :: vs, 0, m, nd, h1, h2, hk => by
    simp at h1 h2; subst h1; subst h2
    show bindC kindOf ((p, w) :: P.zip vs) m p = _
    unfold bindC
    rw [bindC_out fun v hv => (List.nodup_cons.mp nd).1 (List.of_mem_zip hv).1, if_neg hk]
    simp
  | p :: P, w :: vs, i + 1, m, nd, h1, h2, hk => by
    show bindC kindOf ((p, w) :: P.zip vs) m x = _
    unfold bindC
    exact bindC_get (i := i) (List.nodup_cons.mp nd).2 (by simpa using h1) (by simpa using h2) hk

/-- the names' values at the entry -/
def start (N : List Str) (vs : List V) : St := vs.map some ++ List.replicate (N.length - vs.length) none

/-- the context of a def's body, at its entry; an exception leaves the frame, then lies as CX says -/
def cxOf (CX : CXT) (P : Program) (w : World) (K : PySem.W.Frag) (mg : Str → Option Value) (base : Heap) (N : List Str) (qual : Str) (scope : Scope) (f : Addr) (cd : Value) (A : Around) (outer : List Env) (s : Shared) (H : Hp) (E : XK) : Cx where
  prog := P
  w := w
  K := K
  mg := mg
  base := base
  A := A.deeper (envOfC qual scope s.heap.objs.size f cd)
  N := N
  s₀ := s
  H₀ := H
  env := envOfC qual scope s.heap.objs.size f cd
  outer := outer
  stack := envOfC qual scope s.heap.objs.size f cd :: outer
  ex := []
  calm := true
  fn := fun _ => true
  pn := []
  xe := fun e s' => wpAny (model P w) (A.deeper (envOfC qual scope s.heap.objs.size f cd)) (leaving (envOfC qual scope s.heap.objs.size f cd) e) (fun _ s'' => CX outer H s E e s'') (fun e' s'' => CX outer H s E e' s'') s'

theorem cell_has {sc : Scope} {n : Nat} {x : Str} (h : sc.names.lookup x = some .cell) : ∃ c, (cellsFrom n sc.names []).lookup x = some c := by
  have q := PySem.W.cellsFrom_some sc.names n [] (.inl h)
  exact Option.isSome_iff_exists.mp q

theorem inv_start {CX : CXT} {P : Program} {w : World} {K : PySem.W.Frag} {mg : Str → Option Value} {base : Heap} {N ps : List Str} {qual : Str} {scope : Scope} {f : Addr} {cd : Value} {A : Around} {outer : List Env} {s s1 : Shared} {H : Hp} {E : XK} {us : List Value} {vs : List V}
    (S : FnScope N ps scope) (hd : A.handled = none) (e0 : Env0 P w K mg base A outer s H) (hl : vs.length = ps.length) (r : Vals vs us)
    (x : InCallC s s.heap.objs.size (bindL (envOfC qual scope s.heap.objs.size f cd).kindOf (ps.zip us) fun _ => none) (cellsFrom (s.heap.objs.size + 1) scope.names []) (bindC (envOfC qual scope s.heap.objs.size f cd).kindOf (ps.zip us) fun _ => none) s1) :
    Inv (cxOf CX P w K mg base N qual scope f cd A outer s H E) [] (start N vs) H s1 := by
  have hpl : ps.length ≤ N.length := by have := congrArg List.length S.pre; rw [List.length_take] at this; omega
  obtain ⟨h1, tk, rfl, hk⟩ := x.done
  have noA : ∀ b : Addr, b ∉ (cxOf CX P w K mg base N qual scope f cd A outer s H E).ex := fun b z => absurd (show b ∈ ([] : List Addr) from z) (by simp)
  refine ⟨⟨e0.mod, S.kind, rfl, rfl, Nat.le_refl _, fun y z c h1 h2 => ?_, fun y hy => ?_, fun y c _ h => ?_, fun _ => hd, Around.frames_deeper e0.frames, .inr ⟨rfl, rfl⟩, fun b z => absurd z (noA b), e0.bs, e0.bsz, fun b _ _ => noA b, fun b z => absurd z (noA b), e0.funs, e0.frf⟩,
    rfl, e0.bare, Un.kept hk, ⟨_, x.toInCall.ns, fun i y v h1 h2 h3 => ?_⟩, fun y c h => ⟨_, x.cell y c h⟩, e0.hok.fresh (Nat.le_refl _), fun y c h => ?_, fun p hp => absurd (show p ∈ ([] : List (Addr × Obj)) from hp) (by simp), e0.hok.kept hk, ?_⟩
  · exact name_of_addr x.apart (PySem.mem_of_lookup h1) (PySem.mem_of_lookup h2)
  · have hy : scope.names.lookup y = some .cell ∨ scope.names.lookup y = some .free := hy
    rcases hy with hy | hy
    · exact cell_has hy
    · exact absurd rfl (S.nofree _ (PySem.mem_of_lookup hy))
  · exact Nat.le_of_lt (x.above y c (PySem.mem_of_lookup h))
  · have hi : i < vs.length := by
      unfold start at h2
      by_cases hi : i < vs.length
      · exact hi
      · rw [List.getElem?_append_right (by simpa using hi)] at h2
        rw [List.getElem?_replicate] at h2
        split at h2 <;> cases h2
    have ha : vs[i]? = some v := by
      unfold start at h2
      rw [List.getElem?_append_left (by simpa using hi), List.getElem?_map] at h2
      cases e : vs[i]? with
      | none => rw [e] at h2; cases h2
      | some a => rw [e] at h2; cases h2; rfl
    obtain ⟨u, hu, rv⟩ := r.get ha
    have hp : ps[i]? = some y := by
      rw [← S.pre, List.getElem?_take_of_lt (by omega)]; exact h1
    have ndP : ps.Nodup := by rw [← S.pre]; exact S.nd.sublist (List.take_sublist _ _)
    refine ⟨u, rv, ?_⟩
    rcases S.par y (List.mem_of_getElem? hp) with k | k
    · exact .inl ⟨k, bindL_get ndP hp hu k⟩
    · obtain ⟨c, e⟩ := cell_has (n := s.heap.objs.size + 1) k
      refine .inr ⟨.inl k, c, e, ?_⟩
      have q := x.cell y c e
      rw [bindC_get ndP hp hu (by show scope.names.lookup y ≠ _; rw [k]; decide)] at q
      exact q
  · exact e0.hok.fresh (Nat.le_of_lt (x.above y c (PySem.mem_of_lookup h)))
  · unfold start
    show _ = N.length
    rw [List.length_append, List.length_map, List.length_replicate]
    omega

/-- THE RULE: a def (or a method) of the text, by its body. The body's reading t is chosen for each entry; it is run at the parameters' values -/
theorem fn_of {CX : CXT} {P : Program} {w : World} {K : PySem.W.Frag} {mg : Str → Option Value} {base : Heap} {k : Nat} {f : Addr} {name qual : Str} {params : Arguments} {body : List Stmt} {scope : Scope} {dV kV doc pm cdv ct oc : Value} {an od : Option Addr}
    {osl : Array (Option Value)} {N ps : List Str} {sp : Sp} (lk : K.lookup f = some ⟨oc, od, .func (PySem.W.fnOf name qual params body scope dV kV doc pm an cdv ct), osl⟩) (hcd : PySem.W.codeIn K cdv qual = true) (S : FnScope N ps scope)
    (len : ∀ vs H Q E, sp vs H Q E → vs.length = ps.length)
    (hbody : ∀ (A : Around) (outer : List Env) (s : Shared) (H : Hp) (vs : List V) (Q : VK) (E : XK), Room k (A.deeper (envOfC qual scope s.heap.objs.size f cdv)) → sp vs H Q E →
      ∃ t, PSs (cxOf CX P w K mg base N qual scope f cdv A outer s H E) body t ∧ t { nx := fun _ H' => Q .non H', rt := Q } (start N vs) H) :
    FnOk P w K mg base CX (k + 1) f (PySem.W.fnOf name qual params body scope dV kV doc pm an cdv ct) ps sp := by
  refine ⟨len, fun A outer s H args us vs Q E hr e0 hb r hsp => ?_⟩
  have hl := len _ _ _ _ hsp
  have KX : K.In s.heap := e0.mod.kin.keeps fun b o e => (e0.bs b o e).1
  have lim : s.heap.NoLimit := e0.mod.nolimit.keeps fun b o e => (e0.bs b o e).1
  have hkind : ∀ y ∈ ps.zip us, scope.names.lookup y.1 = some .local ∨ (scope.names.lookup y.1 = some .cell ∧ ((cellsFrom (s.heap.objs.size + 1) scope.names []).lookup y.1).isSome = true) := fun ⟨n, v⟩ hy => by
    rcases S.par n (List.of_mem_zip hy).1 with q | q
    · exact .inl q
    · exact .inr ⟨q, PySem.W.cellsFrom_some _ _ _ (.inl q)⟩
  refine codeAny_call_function hr.depth (KX _ _ lk) rfl S.co S.gen rfl (PySem.W.codeRec_of KX hcd) (hb _ _ _ _ ?_)
  refine wpAny_newFunctionEnv_cells S.kind hkind fun env he s1 x => ?_
  subst he
  refine ⟨lim.keeps x.toInCall.keep, codeAny_func ?_⟩
  obtain ⟨t, ht, hq⟩ := hbody A outer s H vs Q E (hr.deeper _) hsp
  have I : Inv (cxOf CX P w K mg base N qual scope f cdv A outer s H E) [] (start N vs) H s1 := inv_start S hr.hd e0 hl r x
  refine wpAny_mono (ht [] s1 (start N vs) H _ I hq) (fun fl s' hs => ?_) fun e s' hs => hs
  have fin : ∀ {σ' : St} {H' : Hp} {v : V} {u : Value}, Inv (cxOf CX P w K mg base N qual scope f cdv A outer s H E) [] σ' H' s' → RelV v u → Q v H' → CE outer P w H s Q u s' :=
    fun {σ' H' v u} J rv q => ⟨v, H', J.os, J.bare, J.base, J.hok, rv, q⟩
  cases fl with
  | ret u =>
    obtain ⟨v, σ', H', J, rv, q⟩ := hs
    exact fin J rv q
  | next =>
    obtain ⟨σ', H', J, q⟩ := hs
    exact fin (v := V.non) (u := Value.none) J rfl q
  | brk =>
    obtain ⟨_, _, _, q⟩ := hs
    exact False.elim q
  | cont =>
    obtain ⟨_, _, _, q⟩ := hs
    exact False.elim q
end L2

namespace L2
open PySem PySem.Spec PyProof.Rows
section
variable {X : Cx} {x : Str} {p pos : Pos} {e : Expr} {es : List Expr} {t : TA} {id T : String} {r : List V → Hp → VK → Prop}

def tCB (r : List V → Hp → VK → Prop) (t : TA) : TE := fun σ H Q => t σ H fun vs H1 => r vs H1 Q
/-- f(e, ..), f a built-in function -/
theorem pe_callB (hc : CallR X (.builtin id) r) (hg : Gl X x) (hm : X.mg x = none) (hv : bootBuiltins x = some (.builtin id)) (ha : PA X (e :: es) t) (hn : x ≠ "__name__" := by decide) (hdb : (x == ("__debug__" : Str)) = false := by decide)
    (he : starEach (e :: es) X.env = (false, eval e X.env) :: starEach es X.env := by rfl) (hpl : (backTo pos (starEach es X.env)).any (·.1) = false := by rfl) : PE X (.Call (.Name x p) (e :: es) [] pos) (tCB r t) := by
  intro pins s σ H Q I h
  refine wpAny_Call_Name_kw (ld_blt I hg hm hv ?_ hn hdb)
  exact PyProof.Rows.callWith_builtin1 (thn (ha pos pins s σ H _ I h) fun us s1 ⟨vs, H1, I1, r1, q1⟩ => hc pins s1 σ H1 vs us Q I1 r1 q1) he hpl
/-- T(e, ..), T a built-in type -/
theorem pe_callTy (hc : CallR X (.type T) r) (hg : Gl X x) (hm : X.mg x = none) (hv : bootBuiltins x = some (.type T)) (ha : PA X (e :: es) t) (hn : x ≠ "__name__" := by decide) (hdb : (x == ("__debug__" : Str)) = false := by decide)
    (he : starEach (e :: es) X.env = (false, eval e X.env) :: starEach es X.env := by rfl) (hpl : (backTo pos (starEach es X.env)).any (·.1) = false := by rfl) : PE X (.Call (.Name x p) (e :: es) [] pos) (tCB r t) := by
  intro pins s σ H Q I h
  refine wpAny_Call_Name_kw (ld_blt I hg hm hv ?_ hn hdb)
  exact PyProof.Rows.callWith_type1 (thn (ha pos pins s σ H _ I h) fun us s1 ⟨vs, H1, I1, r1, q1⟩ => hc pins s1 σ H1 vs us Q I1 r1 q1) he hpl
/-- T() -/
theorem pe_callTy0 (hc : CallR X (.type T) r) (hg : Gl X x) (hm : X.mg x = none) (hv : bootBuiltins x = some (.type T)) (hn : x ≠ "__name__" := by decide) (hdb : (x == ("__debug__" : Str)) = false := by decide) :
    PE X (.Call (.Name x p) [] [] pos) (tCB r tNil) := by
  intro pins s σ H Q I h
  refine wpAny_Call_Name_kw (ld_blt I hg hm hv ?_ hn hdb)
  exact PyProof.Rows.callWith_type0 (hc pins s σ H [] [] Q I .nil h)
end
end L2

namespace HT
open PySem PyProof.Rows

/-- t < u of tuples of ints -/
def lexLt : List Int → List Int → Bool
  | [], [] => false
  | [], _ :: _ => true
  | _ :: _, [] => false
  | x :: xs, y :: ys => if x = y then lexLt xs ys else decide (x < y)
theorem lexLt_cons (x y : Int) (xs ys : List Int) : lexLt (x :: xs) (y :: ys) = if x = y then lexLt xs ys else decide (x < y) := rfl
theorem lexLt_nil_nil : lexLt [] [] = false := rfl
theorem lexLt_nil_cons (y : Int) (ys : List Int) : lexLt [] (y :: ys) = true := rfl
theorem lexLt_cons_nil (x : Int) (xs : List Int) : lexLt (x :: xs) [] = false := rfl

theorem eqAt_int (A : Around) (s : Shared) (a : Int) (t : Tok) (c : Int) (u : Tok) : ∃ e, SeqAt.EqAt A s (.int a t) (.int c u) e ∧ (e = true ↔ a = c) :=
  ⟨(a == c), SeqAt.EqAt.int_int a t c u, by simp⟩
theorem rcLt_int (A : Around) (s : Shared) (a : Int) (t : Tok) (c : Int) (u : Tok) (prog : Program) (w : World) (E : Value → Shared → Prop) (Q : Value → Shared → Prop) (h : Q (.bool (decide (a < c))) s) :
    wpAny (model prog w) A (richCompare .Lt (.int a t) (.int c u)) Q E s :=
  (PyProof.Rows.lt_int h : wpAny (model prog w) A (compareOp .Lt (.int a t) (.int c u)) Q E s)

section
open PySem.SeqAt
open PySem.AutoSeq1 (wpAny_loadPart')
open PySem.MeetsSeq PySem.MeetsSeq2 PySem.MeetsSeq3

theorem tuple_lt_ints (l b : Addr) (items items2 : Array Value) (n n2 : Nat) (dd dd2 : Option Addr) (sl sl2 : Array (Option Value)) (ns ms : List Int) (hi : IntsAre items.toList ns) (hj : IntsAre items2.toList ms) :
    Meets (Builtin.«tuple.__lt__» ⟨[.ref l, .ref b], []⟩)
      (fun _ R s => s.heap.get? l = some { cls := .type "tuple", dict := dd, data := .seq items n, slots := sl } ∧ s.heap.get? b = some { cls := .type "tuple", dict := dd2, data := .seq items2 n2, slots := sl2 } ∧
        R (.ok (.ret (.bool (lexLt ns ms)))) s) :=
  .of_wp fun prog w A R s h => by
    obtain ⟨hp, g, d, tk, os⟩ := s; obtain ⟨hl, hb, h⟩ := h
    have f2 := AutoSeq1.sub_tuple_tuple
    have z1 : items.size = ns.length := by rw [← hi.length]; simp
    have z2 : items2.size = ms.length := by rw [← hj.length]; simp
    wp_walk using wpAny_loadPart' hl, wpAny_loadPart' hb, wpAny_forIn_list _ (fun rest b s' => b.1 = none ∧ s' = ⟨hp, g, d, tk, os⟩ ∧ ∃ (vs ws : List Value) (ns' ms' : List Int), rest = vs.zip ws ∧
      IntsAre vs ns' ∧ IntsAre ws ms' ∧ ns'.length + items2.size = ms'.length + items.size ∧ R (.ok (.ret (.bool (lexLt ns' ms')))) ⟨hp, g, d, tk, os⟩) _
    case turn =>
      rintro ⟨y, x⟩ rest b s' ⟨hb', rfl, vs, ws, ns', ms', hz, hvi, hwi, hlen, hR⟩
      cases hvi with
      | nil => rw [List.zip_nil_left] at hz; cases hz
      | cons a t hvi' =>
        cases hwi with
        | nil => rw [List.zip_nil_right] at hz; cases hz
        | cons c u hwi' =>
          rw [List.zip_cons_cons] at hz
          injection hz with hyx hrest
          injection hyx with hy hx
          subst hy hx
          rw [lexLt_cons] at hR
          simp only [List.length_cons] at hlen
          obtain ⟨e, he, hiff⟩ := eqAt_int A.in1 ⟨hp, g, d, tk, os⟩ a t c u
          refine wpAny_bind (he prog w _ _ ?_)
          cases e with
          | true =>
            rw [if_pos (hiff.mp rfl)] at hR
            wp_walk
            exact ⟨rfl, rfl, _, _, _, _, hrest, hvi', hwi', by omega, hR⟩
          | false =>
            rw [if_neg (fun q => absurd (hiff.mpr q) Bool.false_ne_true)] at hR
            have hri := rcLt_int A.in1 ⟨hp, g, d, tk, os⟩ a t c u prog w
            wp_walk using hri
            exact ⟨_, rfl, by simpa using hR⟩
    case fin =>
      rintro ⟨b1, b2⟩ s' ⟨hb', rfl, vs, ws, ns', ms', hz, hvi, hwi, hlen, hR⟩
      simp only at hb'
      subst hb'
      have hv : lexLt ns' ms' = decide (items.size < items2.size) := by
        cases hvi with
        | nil =>
          cases hwi with
          | nil =>
            simp only [List.length_nil] at hlen
            rw [lexLt_nil_nil]
            exact (decide_eq_false (by omega)).symm
          | cons c u hw =>
            simp only [List.length_nil, List.length_cons] at hlen
            rw [lexLt_nil_cons]
            exact (decide_eq_true (by omega)).symm
        | cons a t hv =>
          cases hwi with
          | nil =>
            simp only [List.length_nil, List.length_cons] at hlen
            rw [lexLt_cons_nil]
            exact (decide_eq_false (by omega)).symm
          | cons c u hw =>
            rw [List.zip_cons_cons] at hz
            cases hz
      rw [hv] at hR
      wp_walk
      exact ⟨_, rfl, by simpa [Builtin.Tuple.tupleCompareSizes] using hR⟩
    case h =>
      exact ⟨rfl, rfl, items.toList, items2.toList, ns, ms, rfl, hi, hj, by omega, h⟩
end

section
variable {prog : Program} {w : World} {A : Around} {E : Value → Shared → Prop} {s : Shared}

theorem lt_tupInts {l b : Addr} {items items2 : Array Value} {ns ms : List Int} {Q : Value → Shared → Prop} (hl : IsTup s.heap l items) (hb : IsTup s.heap b items2) (hi : IntsAre items.toList ns) (hj : IntsAre items2.toList ms)
    (hu : A.units < cLine) (h : Q (.bool (lexLt ns ms)) s) : wpAny (model prog w) A (compareOp .Lt (.ref l) (.ref b)) Q E s := by
  obtain ⟨⟨cls, dd, data, sl⟩, ho, hc, n, hd⟩ := id hl
  obtain ⟨⟨cls2, dd2, data2, sl2⟩, ho2, hc2, n2, hd2⟩ := id hb
  simp only at hc hd hc2 hd2
  subst hc hd hc2 hd2
  exact richCompare_meets_room (op := .Lt) ⟨_, ho, rfl⟩ ⟨_, ho2, rfl⟩ PySem.F.slot_tuple_lt PySem.F.entry_tuple_lt (PySem.F.args_tuple_lt_2 _ _) (tuple_lt_ints l b items items2 n n2 dd dd2 sl sl2 ns ms hi hj)
    ⟨ho, ho2, show Value.bool (lexLt ns ms) ≠ Value.notImplemented ∧ Q (.bool (lexLt ns ms)) s from ⟨(fun x => nomatch x), h⟩⟩ hu

/-- t + u, t not empty -/
theorem cat_tup {t b : Addr} {vs ws : List Value} {Q : Value → Shared → Prop} (ht : IsTup s.heap t vs.toArray) (hb : IsTup s.heap b ws.toArray) (hv : vs ≠ [])
    (h1 : ws = [] → Q (.ref t) s) (h2 : ws ≠ [] → Q (.ref s.heap.objs.size) { s with heap := s.heap.push { cls := .type "tuple", data := .seq (vs ++ ws).toArray } })
    (hsz : vs.length + ws.length ≤ sizeLine) : wpAny (model prog w) A (binaryOp .Add (.ref t) (.ref b)) Q E s := by
  obtain ⟨⟨cls, dd, data, sl⟩, ho, hc, n, hd⟩ := id ht
  obtain ⟨⟨cls2, dd2, data2, sl2⟩, ho2, hc2, n2, hd2⟩ := id hb
  simp only at hc hd hc2 hd2
  subst hc hd hc2 hd2
  have e : vs.toArray ++ ws.toArray = (vs ++ ws).toArray := by simp
  by_cases hw : ws = []
  · exact concat_meets ⟨_, ho, rfl⟩ ⟨_, ho2, rfl⟩ noFill_tuple_add seq_tuple_add PySem.F.slot_tuple_add PySem.F.entry_tuple_add (PySem.F.args_tuple_add_2 _ _)
      (tuple_addW1 t b vs.toArray ws.toArray n n2 dd dd2 sl sl2 (by simpa using hv) (by simp [hw])) ⟨ho, ho2, h1 hw⟩
  · refine concat_meets ⟨_, ho, rfl⟩ ⟨_, ho2, rfl⟩ noFill_tuple_add seq_tuple_add PySem.F.slot_tuple_add PySem.F.entry_tuple_add (PySem.F.args_tuple_add_2 _ _)
      (tuple_addW2 t b vs.toArray ws.toArray n n2 dd dd2 sl sl2 (by simpa using hv) (by simpa using hw) (by rw [List.size_toArray, List.size_toArray]; exact hsz)) ⟨ho, ho2, ?_⟩
    rw [e]
    exact h2 hw

/-! ### t[a:b], not the whole -/
/-- a slice's bound as a place among n (d where it is left out) -/
def sIx (n d : Nat) : Option Int → Nat
  | none => d
  | some v => if v < 0 then (v + (n : Int)).toNat else min v.toNat n
theorem sIx_none (n d : Nat) : sIx n d none = d := rfl
theorem sIx_nat (n d k : Nat) : sIx n d (some (k : Int)) = min k n := by
  show (if (k : Int) < 0 then ((k : Int) + (n : Int)).toNat else min (k : Int).toNat n) = min k n
  rw [if_neg (by omega), Int.toNat_natCast]
theorem sIx_le (n d : Nat) (hd : d ≤ n) (o : Option Int) : sIx n d o ≤ n := by
  cases o with
  | none => exact hd
  | some v =>
    show (if v < 0 then (v + (n : Int)).toNat else min v.toNat n) ≤ n
    by_cases hv : v < 0
    · rw [if_pos hv]; omega
    · rw [if_neg hv]; exact Nat.min_le_right _ _
theorem clip_eq (v : Int) (n d : Nat) : (if v < 0 then max (v + (n : Int)) 0 else min v (n : Int)) = ((sIx n d (some v) : Nat) : Int) := by
  show (if v < 0 then max (v + (n : Int)) 0 else min v (n : Int)) = (((if v < 0 then (v + (n : Int)).toNat else min v.toNat n) : Nat) : Int)
  by_cases hv : v < 0
  · simp only [if_pos hv]; omega
  · simp only [if_neg hv]; omega
theorem adjust_gen (lo hi : Option Int) (n : Nat) : Builtin.Slice.sliceAdjust lo hi 1 (n : Int) = (((sIx n 0 lo : Nat) : Int), ((sIx n n hi : Nat) : Int)) := by
  have h1 : ¬ ((1 : Int) < 0) := by omega
  unfold Builtin.Slice.sliceAdjust
  simp only [h1, if_false]
  refine Prod.ext ?_ ?_
  · cases lo with
    | none => rfl
    | some v => exact clip_eq v n 0
  · cases hi with
    | none => rfl
    | some v => exact clip_eq v n n
theorem places_gen (i j : Nat) : Builtin.Slice.slicePlaces (i : Int) (j : Int) 1 = j - i := by
  unfold Builtin.Slice.slicePlaces
  have h1 : (1 : Int) > 0 := by omega
  simp only [h1, if_true, Int.ediv_one]
  split <;> omega
theorem slicePart_ {v : Value} {o : Option Int} {Q : Option Int → Shared → Prop} (p : IsPart v o) (h : Q o s) : wpAny (model prog w) A (Builtin.Slice.slicePartIndex v) Q E s := by
  cases p with
  | none => exact slicePart_none h
  | int i t => exact slicePart_int h
theorem sliceApplied_gen {sl : Addr} {vl vu : Value} {lo hi : Option Int} {n : Nat} {Q : Int × Int × Nat → Shared → Prop} (hs : s.heap.IsSliceOf sl vl vu .none) (pl : IsPart vl lo) (pu : IsPart vu hi)
    (h : Q (((sIx n 0 lo : Nat) : Int), 1, sIx n n hi - sIx n 0 lo) s) : wpAny (model prog w) A (Builtin.Slice.sliceApplied (.ref sl) (pure (n : Int))) Q E s := by
  obtain ⟨os, hos, hcs, hds⟩ := id hs
  unfold Builtin.Slice.sliceApplied Builtin.Slice.sliceFields
  refine wpAny_bind (wpAny_bind (wpAny_field hos hds (x := vl) rfl (wpAny_bind (wpAny_field hos hds (x := vu) rfl (wpAny_bind (wpAny_field hos hds (x := .none) rfl (wpAny_pure ?_)))))))
  refine wpAny_bind (slicePart_none ?_)
  show wpAny _ _ (if ((1 : Int) == 0) = true then _ else _) _ _ s
  rw [if_neg (by decide)]
  refine wpAny_bind (slicePart_ pl (wpAny_bind (slicePart_ pu (wpAny_bind (wpAny_pure ?_)))))
  show wpAny _ _ (match Builtin.Slice.sliceAdjust lo hi 1 (n : Int) with | (lo, hi) => pure (lo, (1 : Int), Builtin.Slice.slicePlaces lo hi 1)) _ _ s
  rw [adjust_gen lo hi n]
  show wpAny _ _ (pure (((sIx n 0 lo : Nat) : Int), (1 : Int), Builtin.Slice.slicePlaces ((sIx n 0 lo : Nat) : Int) ((sIx n n hi : Nat) : Int) 1)) _ _ s
  rw [places_gen]
  exact wpAny_pure h
theorem pick_gen (xs : Array Value) (i k : Nat) : ((List.range k).filterMap fun (m : Nat) => xs[((i : Int) + (m : Int) * 1).toNat]?).toArray = ((xs.toList.drop i).take k).toArray := by
  have e : (fun (m : Nat) => xs[((i : Int) + (m : Int) * 1).toNat]?) = fun m => xs[i + m]? := by
    funext m
    have : ((i : Int) + (m : Int) * 1).toNat = i + m := by omega
    rw [this]
  rw [e]
  have := pick_run xs i k
  rw [List.filterMap_map] at this
  have e2 : ((fun x => xs[x]?) ∘ fun x => i + x) = fun m => xs[i + m]? := rfl
  rw [e2] at this
  rw [this]

theorem getItem_tuple_cut {t sl : Addr} {items : Array Value} {vl vu : Value} {lo hi : Option Int} {Q : Value → Shared → Prop} (ht : IsTup s.heap t items) (hs : s.heap.IsSliceOf sl vl vu .none) (pl : IsPart vl lo) (pu : IsPart vu hi)
    (hw : ¬ (sIx items.size 0 lo = 0 ∧ sIx items.size items.size hi = items.size))
    (h : Q (.ref s.heap.objs.size) { s with heap := s.heap.push { cls := .type "tuple", data := .seq ((items.toList.drop (sIx items.size 0 lo)).take (sIx items.size items.size hi - sIx items.size 0 lo)).toArray } })
    (hsz : items.size ≤ sizeLine) : wpAny (model prog w) A (getItem (.ref t) (.ref sl)) Q E s := by
  have htake : sizeOk (.seq ((items.toList.drop (sIx items.size 0 lo)).take (sIx items.size items.size hi - sIx items.size 0 lo)).toArray) := by
    show ((items.toList.drop (sIx items.size 0 lo)).take (sIx items.size items.size hi - sIx items.size 0 lo)).toArray.size ≤ sizeLine
    rw [List.size_toArray, List.length_take, List.length_drop, Array.length_toList]
    omega
  have hj : sIx items.size items.size hi ≤ items.size := sIx_le _ _ (Nat.le_refl _) hi
  obtain ⟨os, hos, hcs, hds⟩ := id hs
  have hTs : s.TypeIs (.ref sl) "slice" := ⟨os, hos, hcs⟩
  unfold getItem
  try with_reducible refine wpAny_holding ?_
  first | refine wpAny_bind (wpAny_pure ?_) | skip
  refine wpAny_bind (wpAny_sequenceKey ht.typeIs (by decide) ?_)
  refine wpAny_bind (wpAny_callSpecial?_slot (name := Str.ofString "__getitem__") ht.typeIs PyProof.Rows.slot_tuple_getitem
    (wpAny_call_entry PyProof.Rows.slot_tuple_getitem ht.typeIs entry_tuple_getitem ?_ (args_tuple_getitem _ _)))
  show wpAny _ _ (Builtin.Tuple.tupleItemsOf (.ref t) >>= _) _ _ s
  refine wpAny_bind (tupleItemsOf_ ht ?_)
  refine wpAny_bind (wpAny_typeOf hTs ?_)
  rw [if_pos (by decide)]
  refine wpAny_bind (sliceApplied_gen hs pl pu ?_)
  have hno : ¬ ((((sIx items.size 0 lo : Nat) : Int) == 0 && (1 : Int) == 1 && (sIx items.size items.size hi - sIx items.size 0 lo) == items.size) = true) := by
    intro q
    rw [Bool.and_eq_true, Bool.and_eq_true] at q
    have q1 : ((sIx items.size 0 lo : Nat) : Int) = 0 := eq_of_beq q.1.1
    have q2 : sIx items.size items.size hi - sIx items.size 0 lo = items.size := eq_of_beq q.2
    exact hw ⟨by omega, by omega⟩
  show wpAny _ _ (if (((sIx items.size 0 lo : Nat) : Int) == 0 && (1 : Int) == 1 && (sIx items.size items.size hi - sIx items.size 0 lo) == items.size) = true then _ else _) _ _ s
  rw [if_neg hno, pick_gen]
  first
    | exact wpAny_bind (m := Builtin.Tuple.tupleExact _) (wpAny_newObj_type (wpAny_pure ⟨_, rfl, wpAny_pure h⟩) htake)
    | exact wpAny_bind (m := Builtin.Tuple.tupleExact _) (wpAny_newObj_type (wpAny_bind (wpAny_pure (wpAny_pure ⟨_, rfl, wpAny_pure h⟩))) htake)
    | exact wpAny_bind (wpAny_bind (m := Builtin.Tuple.tupleExact _) (wpAny_newObj_type (wpAny_pure (wpAny_pure ⟨_, rfl, wpAny_pure h⟩)) htake))
    | exact wpAny_bind (wpAny_bind (m := Builtin.Tuple.tupleExact _) (wpAny_newObj_type (wpAny_pure ⟨_, rfl, wpAny_pure h⟩) htake))
end
end HT

namespace L2
open PySem PySem.Spec PyProof.Rows

/-! ### the parts of a slice -/
abbrev TO := St → Hp → (Option Int → Hp → Prop) → Prop
/-- a slice's part (left out, or an int) -/
def PO (X : Cx) (e : Option Expr) (t : TO) : Prop :=
  ∀ (pins : List (Addr × Obj)) (s : Shared) (σ : St) (H : Hp) (Q : Option Int → Hp → Prop), Inv X pins σ H s → t σ H Q →
    wpAny (model X.prog X.w) X.A (evalPart e X.env) (fun u s' => ∃ o H', Inv X pins σ H' s' ∧ IsPart u o ∧ Q o H') X.xe s
def tNoPart : TO := fun _ H Q => Q none H
def tPart (t : TE) : TO := fun σ H Q => t σ H fun x H1 => ∃ i, x = .int i ∧ Q (some i) H1

theorem intsAre_of {ns : List Int} : ∀ {us : List Value}, Vals (ns.map V.int) us → IntsAre us ns := by
  induction ns with
  | nil => intro us r; rw [List.map_nil] at r; cases r; exact .nil
  | cons n ns ih =>
    intro us r
    rw [List.map_cons] at r
    cases r with
    | cons r1 r2 =>
      obtain ⟨t, e⟩ := r1
      subst e
      exact .cons n t (ih r2)

section
variable {X : Cx} {e : Expr} {te : TE} {lo hi : Option Expr} {tl th : TO} {pos p2 : Pos}

theorem po_none : PO X none tNoPart := by
  intro pins s σ H Q I h
  rw [evalPart_none]
  exact wpAny_pure ⟨none, H, I, .none, h⟩
theorem po_some (h : PE X e te) : PO X (some e) (tPart te) := by
  intro pins s σ H Q I hw
  rw [evalPart_some]
  refine thn (h pins s σ H _ I hw) fun u s1 ⟨x, H1, I1, r1, q1⟩ => ?_
  obtain ⟨i, rfl, q⟩ := q1
  obtain ⟨t, rfl⟩ := r1
  exact ⟨some i, H1, I1, .int i t, q⟩

/-- what a slice of a value is, by values: the slice object stands at sl -/
def SlR (X : Cx) (r : V → Option Int → Option Int → Hp → VK → Prop) : Prop :=
  ∀ (pins : List (Addr × Obj)) (s : Shared) (σ : St) (H : Hp) (x : V) (v vl vu : Value) (lo hi : Option Int) (sl : Addr) (Q : VK), Inv X pins σ H s → RelV x v → s.heap.IsSliceOf sl vl vu .none → IsPart vl lo → IsPart vu hi → r x lo hi H Q →
    ∃ T id, typeLookup (.type T) "__getitem__" = pure (some (.builtin id)) ∧ s.TypeIs v T ∧ wpAny (model X.prog X.w) X.A (getItem v (.ref sl)) (EP X pins σ Q) X.xe s
theorem SlR.or {r r' : V → Option Int → Option Int → Hp → VK → Prop} (h : SlR X r) (h' : SlR X r') : SlR X (fun x lo hi H Q => r x lo hi H Q ∨ r' x lo hi H Q) := by
  intro pins s σ H x v vl vu lo hi sl Q I rx hs pl pu q
  rcases q with q | q
  · exact h pins s σ H x v vl vu lo hi sl Q I rx hs pl pu q
  · exact h' pins s σ H x v vl vu lo hi sl Q I rx hs pl pu q
def tSl (r : V → Option Int → Option Int → Hp → VK → Prop) (te : TE) (tl th : TO) : TE := fun σ H Q => te σ H fun x H1 => tl σ H1 fun l H2 => th σ H2 fun u H3 => r x l u H3 Q
/-- a[lo:hi], any a -/
theorem pe_slice {r : V → Option Int → Option Int → Hp → VK → Prop} (hr : SlR X r) (he : PE X e te) (hl : PO X lo tl) (hu : PO X hi th) : PE X (.Subscript e (.Slice lo hi none p2) pos) (tSl r te tl th) := by
  intro pins s σ H Q I h
  refine Subscript_ (thn (he pins s σ H _ I h) fun v s1 ⟨x, H1, I1, r1, q1⟩ => ?_)
  refine wpAny_Slice (thn (hl pins s1 σ H1 _ I1 q1) fun vl s2 ⟨l, H2, I2, pl, q2⟩ => thn (hu pins s2 σ H2 _ I2 q2) fun vu s3 ⟨u, H3, I3, pu, q3⟩ => ?_)
  rw [evalPart_none]
  refine wpAny_pure ?_
  have I4 : Inv X pins σ H3 { s3 with heap := s3.heap.push { cls := .type "slice", data := .fields #[vl, vu, .none] } } := I3.kept (t' := s3.toks) fun b ob q => Heap.get?_push_of_some _ q
  obtain ⟨T, id, hT, ht, hg⟩ := hr pins { s3 with heap := s3.heap.push { cls := .type "slice", data := .fields #[vl, vu, .none] } } σ H3 x v vl vu l u s3.heap.objs.size Q I4 r1 (Heap.IsSliceOf.new ..) pl pu q3
  show wpAny (model X.prog X.w) X.A (subscriptTail e (.Slice lo hi none p2) v (.ref s3.heap.objs.size)) (EP X pins σ Q) X.xe { s3 with heap := s3.heap.push { cls := .type "slice", data := .fields #[vl, vu, .none] } }
  exact tail_any (ops := [.ref s3.heap.objs.size, v]) ht hT hg (by with_unfolding_all rfl)

/-- the items of xs[lo:hi] -/
def cutV (xs : List V) (lo hi : Option Int) : List V := (xs.drop (HT.sIx xs.length 0 lo)).take (HT.sIx xs.length xs.length hi - HT.sIx xs.length 0 lo)
theorem cutV_length (xs : List V) (lo hi : Option Int) : (cutV xs lo hi).length ≤ xs.length := by
  unfold cutV
  rw [List.length_take, List.length_drop]
  omega
/-- t[lo:hi], not the whole of it (the whole would be t itself) -/
def rSlT (K : PySem.W.Frag) : V → Option Int → Option Int → Hp → VK → Prop := fun x lo hi H Q => ∃ a xs, x = .ref a ∧ SqT K H a xs ∧
  ¬ (HT.sIx xs.length 0 lo = 0 ∧ HT.sIx xs.length xs.length hi = xs.length) ∧ ∀ p, H p = none → Q (.ref p) (upd H p (.tup (cutV xs lo hi)))
theorem sl_tup : SlR X (rSlT X.K) := by
  intro pins s σ H x v vl vu lo hi sl Q I rx hs pl pu h
  obtain ⟨a, xs, rfl, hx, hw, q⟩ := h
  cases rx
  obtain ⟨its, r, ht, hz⟩ := I.tuple hx
  have hlen : its.toArray.size = xs.length := by rw [List.size_toArray]; exact r.length.symm
  refine ⟨"tuple", _, PyProof.Rows.slot_tuple_getitem.lookup, ht.typeIs, ?_⟩
  refine HT.getItem_tuple_cut ht hs pl pu (by rw [hlen]; exact hw) ?_ (by rw [hlen]; exact hz)
  rw [hlen]
  refine ⟨.ref s.heap.objs.size, _, I.laid (t' := s.toks) (o := .tup (cutV xs lo hi)) (fun b ob q => Heap.get?_push_of_some _ q) (Nat.le_refl _) ?_, rfl, q _ (I.hok.fresh (Nat.le_refl _))⟩
  exact ⟨Nat.le_trans (cutV_length xs lo hi) hz, _, (r.drop (HT.sIx xs.length 0 lo)).take (HT.sIx xs.length xs.length hi - HT.sIx xs.length 0 lo), IsTup.new _ _⟩

/-! ### t < u, t + u -/
def rLtT (K : PySem.W.Frag) : R2 := fun x y H Q => ∃ a b ns ms, x = .ref a ∧ y = .ref b ∧ SqT K H a (ns.map V.int) ∧ SqT K H b (ms.map V.int) ∧ Q (.bl (HT.lexLt ns ms)) H
theorem op_ltT (hu : X.A.units < cLine) : OpR X (compareOp .Lt) (rLtT X.K) := by
  intro pins s σ H x y v u Q I rx ry h
  obtain ⟨a, b, ns, ms, rfl, rfl, ha, hb, q⟩ := h
  cases rx
  cases ry
  obtain ⟨its, r1, p1, _⟩ := I.tuple ha
  obtain ⟨its2, r2, p2, _⟩ := I.tuple hb
  have i1 : IntsAre its.toArray.toList ns := intsAre_of r1
  have i2 : IntsAre its2.toArray.toList ms := intsAre_of r2
  exact HT.lt_tupInts p1 p2 i1 i2 hu ⟨.bl (HT.lexLt ns ms), H, I, rfl, q⟩
/-- t + u, t not empty: u empty gives t itself -/
def rCatT (K : PySem.W.Frag) : R2 := fun x y H Q => ∃ a b xs ys, x = .ref a ∧ y = .ref b ∧ SqT K H a xs ∧ SqT K H b ys ∧ xs ≠ [] ∧ xs.length + ys.length ≤ sizeLine ∧
  (ys = [] → Q (.ref a) H) ∧ (ys ≠ [] → ∀ p, H p = none → Q (.ref p) (upd H p (.tup (xs ++ ys))))
theorem Vals.nil_iff {xs : List V} {us : List Value} (r : Vals xs us) : us = [] ↔ xs = [] := by
  cases r with
  | nil => simp
  | cons _ _ => simp
theorem op_catT : OpR X (binaryOp .Add) (rCatT X.K) := by
  intro pins s σ H x y v u Q I rx ry h
  obtain ⟨a, b, xs, ys, rfl, rfl, ha, hb, hx, hz, q1, q2⟩ := h
  cases rx
  cases ry
  obtain ⟨its, r1, p1, _⟩ := I.tuple ha
  obtain ⟨its2, r2, p2, _⟩ := I.tuple hb
  refine HT.cat_tup p1 p2 (fun z => hx (r1.nil_iff.mp z)) (fun z => ⟨.ref a, H, I, rfl, q1 (r2.nil_iff.mp z)⟩) (fun z => ?_) (by rw [← r1.length, ← r2.length]; exact hz)
  refine ⟨.ref s.heap.objs.size, _, I.laid (t' := s.toks) (o := .tup (xs ++ ys)) (fun b ob q => Heap.get?_push_of_some _ q) (Nat.le_refl _) ?_, rfl, q2 (fun w => z (r2.nil_iff.mpr w)) _ (I.hok.fresh (Nat.le_refl _))⟩
  exact ⟨by rw [List.length_append]; exact hz, _, r1.append r2, IsTup.new _ _⟩
/-- tuple(t) -/
theorem call_tupleT : CallR X (.type "tuple") (fun xs H Q => ∃ a ys, xs = [.ref a] ∧ SqT X.K H a ys ∧ Q (.ref a) H) := by
  intro pins s σ H xs us Q I r h
  obtain ⟨a, ys, rfl, ha, q⟩ := h
  obtain ⟨u, rfl, ru⟩ := vals1 r
  cases ru
  obtain ⟨its, _, p1, _⟩ := I.tuple ha
  exact call_tuple_same (items := its.toArray) p1 ⟨.ref a, H, I, rfl, q⟩
end
end L2

namespace L2
open PySem PySem.Spec PyProof.Rows

/-! ### places -/
/-- the place that an index of any sign means -/
def ixN (n : Nat) (i : Int) : Option Nat := if 0 ≤ i then (if i < n then some i.toNat else none) else if -(n : Int) ≤ i then some (i + n).toNat else none
def atI {α : Type} (xs : List α) (i : Int) : Option α := (ixN xs.length i).bind fun j => xs[j]?
theorem ixN_seq {n : Nat} {i : Int} {j : Nat} (h : ixN n i = some j) : seqIndex? i n = some j ∧ j < n ∧ -(n : Int) ≤ i ∧ i < n := by
  unfold ixN at h
  by_cases h0 : 0 ≤ i
  · rw [if_pos h0] at h
    by_cases h1 : i < n
    · rw [if_pos h1] at h
      have e : i.toNat = j := Option.some.inj h
      exact ⟨by rw [seqIndex_of h0 h1, e], by omega, by omega, h1⟩
    · rw [if_neg h1] at h; cases h
  · rw [if_neg h0] at h
    by_cases h1 : -(n : Int) ≤ i
    · rw [if_pos h1] at h
      have e : (i + n).toNat = j := Option.some.inj h
      exact ⟨by rw [seqIndex_neg (by omega) h1, e], by omega, h1, by omega⟩
    · rw [if_neg h1] at h; cases h
theorem atI_get {α : Type} {xs : List α} {i : Int} {v : α} (h : atI xs i = some v) : ∃ j, seqIndex? i xs.length = some j ∧ xs[j]? = some v ∧ j < xs.length ∧ -(xs.length : Int) ≤ i ∧ i < xs.length := by
  unfold atI at h
  cases e : ixN xs.length i with
  | none => rw [e] at h; cases h
  | some j =>
    rw [e] at h
    obtain ⟨h1, h2, h3, h4⟩ := ixN_seq e
    exact ⟨j, h1, h, h2, h3, h4⟩
theorem atI_nat {α : Type} {xs : List α} {j : Nat} {v : α} (h : xs[j]? = some v) : atI xs (j : Int) = some v := by
  have hj : j < xs.length := (List.getElem?_eq_some_iff.mp h).1
  have e : ixN xs.length (j : Int) = some j := by
    unfold ixN
    rw [if_pos (by omega), if_pos (by omega)]; simp
  unfold atI; rw [e]; exact h
theorem atI_last {α : Type} (xs : List α) (v : α) : atI (xs ++ [v]) (-1) = some v := by
  have hl : (xs ++ [v]).length = xs.length + 1 := by simp
  have e : ixN (xs ++ [v]).length (-1) = some xs.length := by
    unfold ixN
    rw [hl, if_neg (by decide), if_pos (by omega)]
    congr 1
    omega
  unfold atI
  rw [e]
  show (xs ++ [v])[xs.length]? = some v
  simp

/-! ### what may be subscripted -/
/-- what stands as an index of a plain subscript -/
def PlainIx (b : Expr) : Prop := ∀ o i, subscripted b false o i = operate [o, i] (getItem o i)
/-- a subscript by values -/
def IxR (X : Cx) (r : R2) : Prop :=
  ∀ (value slice : Expr) (pins : List (Addr × Obj)) (s : Shared) (σ : St) (H : Hp) (x y : V) (v u : Value) (Q : VK), Inv X pins σ H s → RelV x v → RelV y u → r x y H Q →
    subscripted slice false v u = operate [v, u] (getItem v u) → wpAny (model X.prog X.w) X.A (subscriptTail value slice v u) (EP X pins σ Q) X.xe s
/-- a call of a builtin's method by values: the receiver, the arguments -/
def MtR (X : Cx) (id : String) (r : V → List V → Hp → VK → Prop) : Prop :=
  ∀ (pins : List (Addr × Obj)) (s : Shared) (σ : St) (H : Hp) (x : V) (xs : List V) (v : Value) (us : List Value) (Q : VK), Inv X pins σ H s → RelV x v → Vals xs us → r x xs H Q →
    wpAny (model X.prog X.w) X.A (call (.builtin id) (v :: us)) (EP X pins σ Q) X.xe s
section
variable {X : Cx} {a b : Expr} {ta tb : TE} {pos : Pos}
theorem IxR.or {r r' : R2} (h : IxR X r) (h' : IxR X r') : IxR X (fun x y H Q => r x y H Q ∨ r' x y H Q) := by
  intro value slice pins s σ H x y v u Q I rx ry q hs
  rcases q with q | q
  · exact h value slice pins s σ H x y v u Q I rx ry q hs
  · exact h' value slice pins s σ H x y v u Q I rx ry q hs
theorem MtR.or {id : String} {r r' : V → List V → Hp → VK → Prop} (h : MtR X id r) (h' : MtR X id r') : MtR X id (fun x xs H Q => r x xs H Q ∨ r' x xs H Q) := by
  intro pins s σ H x xs v us Q I rx rs q
  rcases q with q | q
  · exact h pins s σ H x xs v us Q I rx rs q
  · exact h' pins s σ H x xs v us Q I rx rs q
/-- a[b] -/
theorem pe_ix {r : R2} (hr : IxR X r) (ha : PE X a ta) (hb : PE X b tb) (hs : PlainIx b) : PE X (.Subscript a b pos) (tOp r ta tb) := by
  intro pins s σ H Q I h
  exact Subscript_ (binT ha hb I h fun v u s2 x y H2 I2 rx ry q => hr a b pins s2 σ H2 x y v u Q I2 rx ry q (hs _ _))

def rIxL (K : PySem.W.Frag) : R2 := fun x y H Q => ∃ p xs i v, x = .ref p ∧ y = .int i ∧ SqL K H p xs ∧ atI xs i = some v ∧ Q v H
def rIxT (K : PySem.W.Frag) : R2 := fun x y H Q => ∃ p xs i v, x = .ref p ∧ y = .int i ∧ SqT K H p xs ∧ atI xs i = some v ∧ Q v H
def rIxS : R2 := fun x y H Q => ∃ z i c, x = .str z ∧ y = .int i ∧ z.length ≤ sizeLine ∧ atI z.cps.toList i = some c ∧ Q (.str ⟨#[c]⟩) H
theorem ix_list : IxR X (rIxL X.K) := by
  intro value slice pins s σ H x y v u Q I rx ry h hs
  obtain ⟨p, xs, i, z, rfl, rfl, hq, he, q⟩ := h
  cases rx
  obtain ⟨t, rfl⟩ := ry
  obtain ⟨its, r, pl, hz⟩ := I.list hq
  obtain ⟨j, h1, h2, h3, h4, h5⟩ := atI_get he
  obtain ⟨w, ew, rw'⟩ := r.get h2
  have hl := r.length
  have hn := line63
  have fin : EP X pins σ Q w s := ⟨z, H, I, rw', q⟩
  by_cases h0 : 0 ≤ i
  · have hj : i.toNat = j := by
      rw [seqIndex_of h0 h5] at h1
      exact Option.some.inj h1
    exact item_listR pl.isList h0 (by omega) (by rw [hj]; simpa using ew) fin hs
  · have hj : (i + (its.toArray.size : Int)).toNat = j := by
      rw [seqIndex_neg (by omega) h4] at h1
      rw [List.size_toArray, ← hl]
      exact Option.some.inj h1
    exact subscriptTail_builtinR (x := w) pl.isList.typeIs slot_list_getitem.lookup
      (wpAny_getItem_list_neg (Q := fun r s' => r = w ∧ EP X pins σ Q r s') pl.isList (by omega) (by rw [List.size_toArray] <;> omega) (by omega) (by rw [hj]; simpa using ew) ⟨rfl, fin⟩) hs
theorem ix_tup : IxR X (rIxT X.K) := by
  intro value slice pins s σ H x y v u Q I rx ry h hs
  obtain ⟨p, xs, i, z, rfl, rfl, hq, he, q⟩ := h
  cases rx
  obtain ⟨t, rfl⟩ := ry
  obtain ⟨its, r, pl, hz⟩ := I.tuple hq
  obtain ⟨j, h1, h2, h3, h4, h5⟩ := atI_get he
  obtain ⟨w, ew, rw'⟩ := r.get h2
  have hl := r.length
  have hn := line63
  have fin : EP X pins σ Q w s := ⟨z, H, I, rw', q⟩
  exact subscriptTail_builtinR (x := w) pl.typeIs slot_tuple_getitem.lookup
    (getItem_tuple (j := j) (Q := fun r s' => r = w ∧ EP X pins σ Q r s') pl (by omega) (by omega) (by rw [List.size_toArray, ← hl]; exact h1) (by simpa using ew) ⟨rfl, fin⟩) hs
theorem ix_str : IxR X rIxS := by
  intro value slice pins s σ H x y v u Q I rx ry h hs
  obtain ⟨z, i, c, rfl, rfl, hz, he, q⟩ := h
  obtain ⟨t, rfl⟩ := rx
  obtain ⟨t', rfl⟩ := ry
  obtain ⟨j, h1, h2, h3, h4, h5⟩ := atI_get he
  have hl : z.cps.toList.length = z.length := by simp [Str.length]
  rw [hl] at h1 h4 h5
  have hn := line63
  exact tail_any (typeIs_str s z t) slot_str_getitem.lookup (getItem_str (c := c) (by
    have e1 : decide (i < -(2 ^ 63 : Int)) = false := decide_eq_false (by omega)
    have e2 : decide (i ≥ 2 ^ 63) = false := decide_eq_false (by omega)
    rw [e1, e2, Bool.or_false]) (by rw [h1]; simpa using h2) ⟨.str ⟨#[c]⟩, H, I.tok _, ⟨_, rfl⟩, q⟩) hs
/-- list, tuple or str -/
def rIx (K : PySem.W.Frag) : R2 := fun x y H Q => rIxL K x y H Q ∨ rIxT K x y H Q ∨ rIxS x y H Q
theorem ix_seq : IxR X (rIx X.K) := ix_list.or (ix_tup.or ix_str)

/-! ### xs[i] = v, any sign -/
/-- the list's object behind a store -/
theorem mapSeq_set (its : List Value) (n j : Nat) (u : Value) : Obj.mapSeq (·.setIfInBounds j u) { cls := .type "list", data := .seq its.toArray n } = { cls := .type "list", data := .seq (its.set j u).toArray n } := by
  simp [Obj.mapSeq]
theorem Inv.lst {pins : List (Addr × Obj)} {σ : St} {H : Hp} {s : Shared} {p : Addr} {xs : List V} (I : Inv X pins σ H s) (h : H p = some (.lst xs)) :
    ∃ (its : List Value) (n : Nat), Vals xs its ∧ s.heap.get? p = some { cls := .type "list", data := .seq its.toArray n } ∧ xs.length ≤ sizeLine := by
  obtain ⟨z, its, n, r, e⟩ := I.hok p _ h
  exact ⟨its, n, r, e, z⟩
/-- the list at p is written by an update of its object -/
theorem Inv.lstUpd {pins : List (Addr × Obj)} {σ : St} {H : Hp} {s : Shared} {p : Addr} {xs ys : List V} {its its' : List Value} {n n' : Nat} {f : Obj → Obj} (I : Inv X pins σ H s) (h : H p = some (.lst xs))
    (ho : s.heap.get? p = some { cls := .type "list", data := .seq its.toArray n }) (hf : f { cls := .type "list", data := .seq its.toArray n } = { cls := .type "list", data := .seq its'.toArray n' }) (r : Vals ys its') (hz : ys.length ≤ sizeLine) (t : Nat) :
    Inv X pins σ (upd H p (.lst ys)) { s with heap := s.heap.update p f, toks := t } := by
  have e : (s.heap.update p f).get? p = some { cls := .type "list", data := .seq its'.toArray n' } := by
    rw [Heap.get?_update_self f ho (by rw [hf] <;> rfl), hf]
  refine I.write (x := p) (e := p) (by rw [h]; trivial) (.inl rfl) (fun b u hb q => (Heap.get?_update_other _ _ (Ne.symm hb)).trans q) ⟨_, e⟩ ?_
  exact ⟨hz, its', n', r, e⟩
def rSetL : V → V → V → Hp → (Hp → Prop) → Prop := fun o i v H Q => ∃ p xs k j, o = .ref p ∧ i = .int k ∧ H p = some (.lst xs) ∧ ixN xs.length k = some j ∧ Q (upd H p (.lst (xs.set j v)))
theorem set_list : PSet X rSetL := by
  intro pins s σ H o i v ov iv u Q I ro ri rv h
  obtain ⟨p, xs, k, j, rfl, rfl, hp, hj, q⟩ := h
  cases ro
  obtain ⟨t, rfl⟩ := ri
  obtain ⟨its, n, r, ho, hz⟩ := I.lst hp
  obtain ⟨h1, h2, h3, h4⟩ := ixN_seq hj
  have hl := r.length
  have hn := line63
  have I' : Inv X pins σ (upd H p (.lst (xs.set j v))) { s with heap := s.heap.update p (Obj.mapSeq (·.setIfInBounds j u)) } :=
    I.lstUpd hp ho (mapSeq_set its n j u) (r.set rv j) (by rw [List.length_set]; exact hz) s.toks
  by_cases h0 : 0 ≤ k
  · have hk : k.toNat = j := by
      rw [seqIndex_of h0 h4] at h1
      exact Option.some.inj h1
    exact PySem.W.ki_setAt ho h0 (by omega) (by rw [List.size_toArray, ← hl]; exact h4) (by rw [hk]; exact ⟨_, I', q⟩)
  · have hk : (k + (its.toArray.size : Int)).toNat = j := by
      rw [seqIndex_neg (by omega) h3] at h1
      rw [List.size_toArray, ← hl]
      exact Option.some.inj h1
    exact PySem.W.ki_setBack ho (by omega) (by rw [List.size_toArray, ← hl]; exact h3) (by omega) (by rw [hk]; exact ⟨_, I', q⟩)

/-! ### slices -/
theorem slice_bounds (lo hi : Option Int) (n : Nat) : (sliceBounds lo hi none n).1 = ((HT.sIx n 0 lo : Nat) : Int) ∧ (sliceBounds lo hi none n).2.1 = ((HT.sIx n n hi : Nat) : Int) ∧ (sliceBounds lo hi none n).2.2 = 1 := by
  refine ⟨?_, ?_, rfl⟩
  · cases lo with
    | none => simp [sliceBounds, HT.sIx]
    | some i =>
      simp only [sliceBounds, HT.sIx, Option.getD_none, show (1 : Int) > 0 by decide, if_true]
      by_cases h : i < 0
      · simp only [h, if_true] <;> omega
      · simp only [h, if_false] <;> omega
  · cases hi with
    | none => simp [sliceBounds, HT.sIx]
    | some i =>
      simp only [sliceBounds, HT.sIx, Option.getD_none, show (1 : Int) > 0 by decide, if_true]
      by_cases h : i < 0
      · simp only [h, if_true] <;> omega
      · simp only [h, if_false] <;> omega
theorem slicePick_cut (its : List Value) (lo hi : Option Int) : slicePick its.toArray lo hi none = ((its.drop (HT.sIx its.length 0 lo)).take (HT.sIx its.length its.length hi - HT.sIx its.length 0 lo)).toArray := by
  obtain ⟨h1, h2, h3⟩ := slice_bounds lo hi its.toArray.size
  unfold slicePick
  rw [h1, h2, h3]
  simp only [sliceRange_one, pick_run, List.size_toArray] <;> rfl
/-- xs[lo:hi] of a list: a new list -/
def rSlL (K : PySem.W.Frag) : V → Option Int → Option Int → Hp → VK → Prop := fun x lo hi H Q => ∃ a xs, x = .ref a ∧ SqL K H a xs ∧ ∀ p, H p = none → Q (.ref p) (upd H p (.lst (cutV xs lo hi)))
theorem sl_list : SlR X (rSlL X.K) := by
  intro pins s σ H x v vl vu lo hi sl Q I rx hs pl pu h
  obtain ⟨a, xs, rfl, hx, q⟩ := h
  cases rx
  obtain ⟨its, r, ht, hz⟩ := I.list hx
  have hlen := r.length
  refine ⟨"list", _, slot_list_getitem.lookup, ht.isList.typeIs, ?_⟩
  refine wpAny_getItem_list_slice ht.isList hs pl pu .none (by simp) ?_ (by rw [List.size_toArray] <;> omega)
  rw [slicePick_cut, ← hlen]
  refine ⟨.ref s.heap.objs.size, _, I.laid (t' := s.toks) (o := .lst (cutV xs lo hi)) (fun b ob q => Heap.get?_push_of_some _ q) (Nat.le_refl _) ?_, rfl, q _ (I.hok.fresh (Nat.le_refl _))⟩
  exact ⟨Nat.le_trans (cutV_length xs lo hi) hz, _, 0, (r.drop (HT.sIx xs.length 0 lo)).take (HT.sIx xs.length xs.length hi - HT.sIx xs.length 0 lo), Heap.get?_push_size _ rfl⟩

/-! ### in, not in: flat items -/
def flatV : V → Bool
  | .non => true
  | .bl _ => true
  | .int _ => true
  | .str _ => true
  | _ => false
/-- == of flat values -/
def eqV : V → V → Bool
  | .non, .non => true
  | .bl a, .bl b => a == b
  | .bl a, .int b => (if a then 1 else 0) == b
  | .int a, .bl b => a == (if b then 1 else 0)
  | .int a, .int b => a == b
  | .str a, .str b => a == b
  | _, _ => false
theorem eqAt_V {A : Around} {s : Shared} {y x : V} {u v : Value} (ry : RelV y u) (rx : RelV x v) (fy : flatV y = true) (fx : flatV x = true) : SeqAt.EqAt A s u v (eqV y x) := by
  cases y with
  | non =>
    cases ry
    cases x with
    | non => cases rx; exact SeqAt.EqAt.same _
    | bl b => cases rx; exact SeqAt.EqAt.none_bool b
    | int b => obtain ⟨t, rfl⟩ := rx; exact SeqAt.EqAt.none_int b t
    | str b => obtain ⟨t, rfl⟩ := rx; exact SeqAt.EqAt.none_str b t
    | _ => exact absurd (show false = true from fx) Bool.false_ne_true
  | bl a =>
    cases ry
    cases x with
    | non => cases rx; exact SeqAt.EqAt.bool_none a
    | bl b => cases rx; exact SeqAt.EqAt.bool_bool a b
    | int b => obtain ⟨t, rfl⟩ := rx; exact SeqAt.EqAt.bool_int a b t
    | str b => obtain ⟨t, rfl⟩ := rx; exact SeqAt.EqAt.bool_str a b t
    | _ => exact absurd (show false = true from fx) Bool.false_ne_true
  | int a =>
    obtain ⟨t', rfl⟩ := ry
    cases x with
    | non => cases rx; exact SeqAt.EqAt.int_none a t'
    | bl b => cases rx; exact SeqAt.EqAt.int_bool a t' b
    | int b => obtain ⟨t, rfl⟩ := rx; exact SeqAt.EqAt.int_int a t' b t
    | str b => obtain ⟨t, rfl⟩ := rx; exact SeqAt.EqAt.int_str a t' b t
    | _ => exact absurd (show false = true from fx) Bool.false_ne_true
  | str a =>
    obtain ⟨t', rfl⟩ := ry
    cases x with
    | non => cases rx; exact SeqAt.EqAt.str_none a t'
    | bl b => cases rx; exact SeqAt.EqAt.str_bool a t' b
    | int b => obtain ⟨t, rfl⟩ := rx; exact SeqAt.EqAt.str_int a t' b t
    | str b => obtain ⟨t, rfl⟩ := rx; exact SeqAt.EqAt.str_str a t' b t
    | _ => exact absurd (show false = true from fx) Bool.false_ne_true
  | _ => exact absurd (show false = true from fy) Bool.false_ne_true
/-- the items' answers, read off the values (a value's own answer does not lean on its token) -/
def eqU (x : V) (u : Value) : Bool := match u with
  | .none => eqV .non x
  | .bool b => eqV (.bl b) x
  | .int i _ => eqV (.int i) x
  | .str z _ => eqV (.str z) x
  | _ => false
theorem eqU_of {x y : V} {u : Value} (r : RelV y u) (f : flatV y = true) : eqU x u = eqV y x := by
  cases y with
  | non => cases r; rfl
  | bl b => cases r; rfl
  | int i => obtain ⟨t, rfl⟩ := r; rfl
  | str z => obtain ⟨t, rfl⟩ := r; rfl
  | _ => exact absurd (show false = true from f) Bool.false_ne_true
theorem any_eqU {x : V} : ∀ {xs : List V} {us : List Value}, Vals xs us → xs.all flatV = true → us.any (eqU x) = xs.any fun y => eqV y x
  | _, _, .nil, _ => rfl
  | y :: xs, u :: us, .cons r t, f => by
    rw [List.all_cons, Bool.and_eq_true] at f
    rw [List.any_cons, List.any_cons, eqU_of r f.1, any_eqU t f.2]
theorem mem_eqAt {A : Around} {s : Shared} {x : V} {v : Value} (rx : RelV x v) (fx : flatV x = true) : ∀ {xs : List V} {us : List Value}, Vals xs us → xs.all flatV = true → ∀ u ∈ us, SeqAt.EqAt A s u v (eqU x u)
  | _, _, .nil, _ => fun u hu => by cases hu
  | y :: xs, u :: us, .cons r t, f => fun u' hu => by
    rw [List.all_cons, Bool.and_eq_true] at f
    rcases List.mem_cons.mp hu with rfl | hu
    · rw [eqU_of r f.1]; exact eqAt_V r rx f.1 fx
    · exact mem_eqAt rx fx t f.2 u' hu
def inV (x : V) (xs : List V) : Bool := xs.any fun y => eqV y x
/-- x in a list or tuple of flat items -/
def rIn (K : PySem.W.Frag) (neg : Bool) : R2 := fun x y H Q => ∃ p xs, y = .ref p ∧ (SqL K H p xs ∨ SqT K H p xs) ∧ flatV x = true ∧ xs.all flatV = true ∧ Q (.bl (if neg then !inV x xs else inV x xs)) H
theorem op_in_seq : OpR X (compareOp .In) (rIn X.K false) := by
  intro pins s σ H x y v u Q I rx ry h
  obtain ⟨p, xs, rfl, hq, fx, fs, q⟩ := h
  cases ry
  rcases hq with hq | hq
  · obtain ⟨its, r, pl, hz⟩ := I.list hq
    refine SeqAt.in_listAt (eqU x) pl.isList (fun w hw => mem_eqAt rx fx r fs w (by simpa using hw)) ⟨.bl _, H, I, rfl, ?_⟩
    rw [show its.toArray.any (eqU x) = its.any (eqU x) by simp, any_eqU r fs]
    exact q
  · obtain ⟨its, r, pl, hz⟩ := I.tuple hq
    refine SeqAt.in_tupleAt (eqU x) pl (fun w hw => mem_eqAt rx fx r fs w (by simpa using hw)) ⟨.bl _, H, I, rfl, ?_⟩
    rw [show its.toArray.any (eqU x) = its.any (eqU x) by simp, any_eqU r fs]
    exact q
theorem op_notIn_seq : OpR X (compareOp .NotIn) (rIn X.K true) := by
  intro pins s σ H x y v u Q I rx ry h
  obtain ⟨p, xs, rfl, hq, fx, fs, q⟩ := h
  cases ry
  rcases hq with hq | hq
  · obtain ⟨its, r, pl, hz⟩ := I.list hq
    refine SeqAt.notIn_listAt (eqU x) pl.isList (fun w hw => mem_eqAt rx fx r fs w (by simpa using hw)) ⟨.bl _, H, I, rfl, ?_⟩
    rw [show its.toArray.any (eqU x) = its.any (eqU x) by simp, any_eqU r fs]
    exact q
  · obtain ⟨its, r, pl, hz⟩ := I.tuple hq
    refine SeqAt.notIn_tupleAt (eqU x) pl (fun w hw => mem_eqAt rx fx r fs w (by simpa using hw)) ⟨.bl _, H, I, rfl, ?_⟩
    rw [show its.toArray.any (eqU x) = its.any (eqU x) by simp, any_eqU r fs]
    exact q
theorem op_notIn_str : OpR X (compareOp .NotIn) (fun x y H Q => ∃ i j, x = .str i ∧ y = .str j ∧ Q (.bl (!(!(Builtin.Str.occurrences j i 0 j.length 1).isEmpty))) H) := by
  intro pins s σ H x y v u Q I rx ry h
  obtain ⟨i, j, rfl, rfl, q⟩ := h
  obtain ⟨t, rfl⟩ := rx
  obtain ⟨t', rfl⟩ := ry
  exact notIn_str ⟨.bl _, H, I, rfl, q⟩

/-! ### len, list(x), tuple(x) of any list or tuple that is read -/
theorem call_len_seq : CallR X (.builtin "len") (fun xs H Q => ∃ p ys, xs = [.ref p] ∧ (SqL X.K H p ys ∨ SqT X.K H p ys) ∧ Q (.int ys.length) H) := by
  intro pins s σ H xs us Q I r h
  obtain ⟨p, ys, rfl, hq, q⟩ := h
  obtain ⟨u, rfl, rx⟩ := vals1 r
  cases rx
  have hn := line63
  rcases hq with hq | hq
  · obtain ⟨its, r', pl, hz⟩ := I.list hq
    have hlen := r'.length
    exact Calls.call_len_list pl.isList (by simp only [List.size_toArray] <;> omega) ⟨.int ys.length, H, I.tok _, ⟨s.toks + 1, by rw [List.size_toArray, hlen]⟩, q⟩
  · obtain ⟨its, r', pl, hz⟩ := I.tuple hq
    have hlen := r'.length
    exact len_tuple pl (by simp only [List.size_toArray] <;> omega) ⟨.int ys.length, H, I.tok _, ⟨s.toks + 1, by rw [List.size_toArray, hlen]⟩, q⟩
theorem call_len_str : CallR X (.builtin "len") (fun xs H Q => ∃ z, xs = [.str z] ∧ z.length ≤ sizeLine ∧ Q (.int z.length) H) := by
  intro pins s σ H xs us Q I r h
  obtain ⟨z, rfl, hz, q⟩ := h
  obtain ⟨u, rfl, t, rfl⟩ := vals1 r
  have hn := line63
  exact len_str (by omega) ⟨.int z.length, H, I.tok _, ⟨_, rfl⟩, q⟩
theorem CallR.or {f : Value} {r r' : List V → Hp → VK → Prop} (h : CallR X f r) (h' : CallR X f r') : CallR X f (fun xs H Q => r xs H Q ∨ r' xs H Q) := by
  intro pins s σ H xs us Q I rs q
  rcases q with q | q
  · exact h pins s σ H xs us Q I rs q
  · exact h' pins s σ H xs us Q I rs q
theorem call_list_of : CallR X (.type "list") (fun xs H Q => ∃ p ys, xs = [.ref p] ∧ (SqL X.K H p ys ∨ SqT X.K H p ys) ∧ ∀ l, H l = none → Q (.ref l) (upd H l (.lst ys))) := by
  intro pins s σ H xs us Q I r h
  obtain ⟨p, ys, rfl, hq, q⟩ := h
  obtain ⟨u, rfl, rx⟩ := vals1 r
  cases rx
  have fin : ∀ (its : List Value), Vals ys its → ys.length ≤ sizeLine → ∀ (h' : Heap) (c' : Nat), (∀ b o', s.heap.get? b = some o' → h'.get? b = some o') →
      h'.get? s.heap.objs.size = some { cls := .type "list", dict := none, data := .seq its.toArray c', slots := #[] } → EP X pins σ Q (.ref s.heap.objs.size) { s with heap := h' } := fun its r' hz h' c' kp e =>
    ⟨.ref s.heap.objs.size, _, I.laid (t' := s.toks) kp (Nat.le_refl _) (show ObjOk X.prog X.w _ h' _ (.lst ys) from ⟨hz, its, c', r', e⟩), rfl, q _ (I.hok.fresh (Nat.le_refl _))⟩
  rcases hq with hq | hq
  · obtain ⟨its, r', pl, hz⟩ := I.list hq
    have hlen := r'.length
    obtain ⟨o, ho, hc, n, hd⟩ := pl.isList
    exact call_list_seq p (.inl rfl) ho hc hd (fun h' c' kp e => fin its r' hz h' c' kp e) (by simp only [List.size_toArray] <;> omega)
  · obtain ⟨its, r', pl, hz⟩ := I.tuple hq
    have hlen := r'.length
    obtain ⟨o, ho, hc, n, hd⟩ := pl
    exact call_list_seq p (.inr rfl) ho hc hd (fun h' c' kp e => fin its r' hz h' c' kp e) (by simp only [List.size_toArray] <;> omega)
theorem call_tuple_of : CallR X (.type "tuple") (fun xs H Q => ∃ p ys, xs = [.ref p] ∧ ((SqL X.K H p ys ∧ ∀ l, H l = none → Q (.ref l) (upd H l (.tup ys))) ∨ (SqT X.K H p ys ∧ Q (.ref p) H))) := by
  intro pins s σ H xs us Q I r h
  obtain ⟨p, ys, rfl, h⟩ := h
  obtain ⟨u, rfl, rx⟩ := vals1 r
  cases rx
  rcases h with ⟨hq, q⟩ | ⟨hq, q⟩
  · obtain ⟨its, r', pl, hz⟩ := I.list hq
    have hlen := r'.length
    refine call_tuple_list pl.isList (fun h' kp => ?_) (by simp only [List.size_toArray] <;> omega)
    have I1 : Inv X pins σ H { s with heap := h' } := I.kept (t' := s.toks) kp
    have I2 : Inv X pins σ (upd H h'.objs.size (.tup ys)) { s with heap := h'.push { cls := .type "tuple", data := .seq its.toArray } } :=
      I1.laid (t' := s.toks) (fun b o e => Heap.get?_push_of_some _ e) (Nat.le_refl _) (show ObjOk X.prog X.w _ _ _ (.tup ys) from ⟨hz, its, r', IsTup.new _ _⟩)
    exact ⟨.ref h'.objs.size, _, I2, rfl, q _ (I1.hok.fresh (Nat.le_refl _))⟩
  · obtain ⟨its, r', pl, hz⟩ := I.tuple hq
    exact call_tuple_same pl ⟨.ref p, H, I, rfl, q⟩

/-! ### the call of a builtin's method: o.m(..) -/
/-- the value is of that builtin type -/
def tyV (K : PySem.W.Frag) (T : String) (x : V) (H : Hp) : Prop := match x with
  | .str _ => T = "str"
  | .int _ => T = "int"
  | .ref p => (T = "list" ∧ ∃ xs, SqL K H p xs) ∨ (T = "tuple" ∧ ∃ o, K.lookup p = some o ∧ o.cls = .type "tuple" ∧ o.dict = none) ∨
      (T = "dict" ∧ ((∃ kvs, H p = some (.dK kvs)) ∨ ∃ kvs, H p = some (.dT kvs))) ∨ (T = "set" ∧ ∃ S n, H p = some (.set S n))
  | _ => False
theorem tyV_is {pins : List (Addr × Obj)} {σ : St} {H : Hp} {s : Shared} {T : String} {x : V} {v : Value} (I : Inv X pins σ H s) (r : RelV x v) (ty : tyV X.K T x H) :
    s.TypeIs v T ∧ ∀ a, v = .ref a → ∃ ob, s.heap.get? a = some ob ∧ ob.dict = none := by
  cases x with
  | str z =>
    obtain ⟨t, rfl⟩ := r
    cases (show T = "str" from ty)
    exact ⟨typeIs_str s z t, fun _ e => nomatch e⟩
  | int i =>
    obtain ⟨t, rfl⟩ := r
    cases (show T = "int" from ty)
    exact ⟨typeIs_int s i t, fun _ e => nomatch e⟩
  | ref p =>
    cases r
    rcases ty with ⟨rfl, xs, hq⟩ | ⟨rfl, o, hk, hc, hd⟩ | ⟨rfl, hk⟩ | ⟨rfl, S, n, hk⟩
    · obtain ⟨its, _, pl, _⟩ := I.list hq
      refine ⟨pl.isList.typeIs, fun a e => ?_⟩
      cases e
      obtain ⟨o, n, e, c, hd, _⟩ := pl
      exact ⟨o, e, hd⟩
    · refine ⟨⟨o, I.kIn p o hk, hc⟩, fun a e => ?_⟩
      cases e
      exact ⟨o, I.kIn _ o hk, hd⟩
    · have z : ∃ o, s.heap.get? p = some o ∧ o.ExactDict := by
        rcases hk with ⟨kvs, hk⟩ | ⟨kvs, hk⟩
        · obtain ⟨_, _, _, _, o, _, _, e, ex, _⟩ := I.hok p _ hk
          exact ⟨o, e, ex⟩
        · obtain ⟨_, _, _, _, o, _, _, e, ex, _⟩ := I.hok p _ hk
          exact ⟨o, e, ex⟩
      obtain ⟨o, e, ex⟩ := z
      refine ⟨⟨o, e, ex.1⟩, fun a e2 => ?_⟩
      cases e2
      exact ⟨o, e, ex.2.1⟩
    · obtain ⟨o, _, _, _, e, ex, _⟩ := I.hok p _ hk
      refine ⟨⟨o, e, ex.1⟩, fun a e2 => ?_⟩
      cases e2
      exact ⟨o, e, ex.2.1⟩
  | _ => exact False.elim ty
def tBM0 (K : PySem.W.Frag) (T : String) (r : V → List V → Hp → VK → Prop) (to : TE) : TE := fun σ H Q => to σ H fun x H1 => tyV K T x H1 ∧ r x [] H1 Q
def tBM (K : PySem.W.Frag) (T : String) (r : V → List V → Hp → VK → Prop) (to : TE) (t : TA) : TE := fun σ H Q => to σ H fun x H1 => tyV K T x H1 ∧ t σ H1 fun xs H2 => r x xs H2 Q
variable {o e : Expr} {es : List Expr} {to : TE} {t : TA} {name : Str} {apos cpos : Pos} {T id : String} {r : V → List V → Hp → VK → Prop}
theorem pe_bm0 (pa : PlainAttrs T) (slot : Slot T name id) (hty : typeOf (.builtin id) = pure (.type "method_descriptor")) (hm : MtR X id r) (ho : PE X o to)
    (hbase : attributeBase o name X.env (eval o X.env) = eval o X.env := by rfl) (hline : (apos.endLine == cpos.line) = true := by rfl) : PE X (.Call (.Attribute o name apos) [] [] cpos) (tBM0 X.K T r to) := by
  intro pins s σ H Q I h
  refine wpAny_Call_method0_late hbase hline (thn (ho pins s σ H _ I h) fun v s1 ⟨x, H1, I1, r1, ty, q1⟩ => ?_)
  obtain ⟨h1, h2⟩ := tyV_is I1 r1 ty
  exact ⟨T, id, pa, slot, hty, h1, h2, Calls.callWith_builtin rfl (PySem.evalArgs_none (hm pins s1 σ H1 x [] v [] Q I1 r1 .nil q1))⟩
theorem pe_bm (pa : PlainAttrs T) (slot : Slot T name id) (hty : typeOf (.builtin id) = pure (.type "method_descriptor")) (hm : MtR X id r) (ho : PE X o to) (ha : PA X (e :: es) t)
    (hbase : attributeBase o name X.env (eval o X.env) = eval o X.env := by rfl)
    (hfew : ((backTo cpos (starEach (e :: es) X.env)).all (fun x => !x.1) && (backToKw cpos (keywordEach [] X.env)).all (fun x => x.1.isSome)
      && decide ((e :: es).length + ([] : List Keyword).length + (if ([] : List Keyword).isEmpty then 0 else 1) < 30)) = true := by rfl)
    (hline : (apos.endLine == cpos.line) = true := by rfl) (hs : starEach (e :: es) X.env = (false, eval e X.env) :: starEach es X.env := by rfl) (hplain : (backTo cpos (starEach es X.env)).any (·.1) = false := by rfl) :
    PE X (.Call (.Attribute o name apos) (e :: es) [] cpos) (tBM X.K T r to t) := by
  intro pins s σ H Q I h
  refine wpAny_Call_method_late hbase hfew hline rfl (thn (ho pins s σ H _ I h) fun v s1 ⟨x, H1, I1, r1, ty, q1⟩ => ?_)
  obtain ⟨h1, h2⟩ := tyV_is I1 r1 ty
  refine ⟨T, id, pa, slot, hty, h1, h2, ?_⟩
  have hA := ha cpos pins s1 σ H1 _ I1 q1
  rw [hs] at hA ⊢
  refine Calls.callWith_builtin (by show (false || (backTo cpos (starEach es X.env)).any (·.1)) = false; rw [hplain] <;> rfl) (Calls.evalArgs_plain ?_)
  exact thn hA fun us s2 ⟨vs, H2, I2, r2, q2⟩ => hm pins s2 σ H2 x vs v us Q I2 r1 r2 q2
/- xs.append(e), list.index on a module's tuple .. are MtR facts of 06m -/
end
end L2

namespace L2
open PySem PySem.Spec PyProof.Rows

def MtM (X : Cx) (id : String) (r : V → List V → Hp → VK → Prop) : Prop :=
  ∀ (pins : List (Addr × Obj)) (s : Shared) (σ : St) (H : Hp) (x : V) (xs : List V) (v : Value) (us : List Value) (Q : VK), Inv X pins σ H s → RelV x v → Vals xs us → r x xs H Q →
    wpAny (model X.prog X.w) X.A (call (.builtin id) (v :: us)) (EP X pins σ Q) X.xe s

/-! ### lists of values -/
theorem Vals.one : ∀ {x : V} {us : List Value}, Vals [x] us → ∃ u, us = [u] ∧ RelV x u
  | _, _, .cons r .nil => ⟨_, rfl, r⟩
theorem Vals.two : ∀ {x y : V} {us : List Value}, Vals [x, y] us → ∃ u v, us = [u, v] ∧ RelV x u ∧ RelV y v
  | _, _, _, .cons r (.cons q .nil) => ⟨_, _, rfl, r, q⟩
theorem Vals.zero : ∀ {us : List Value}, Vals [] us → us = []
  | _, .nil => rfl
theorem Vals.dropLast {xs : List V} {us : List Value} (h : Vals xs us) : Vals xs.dropLast us.dropLast := by
  induction h with
  | nil => exact .nil
  | cons r t ih =>
    cases t with
    | nil => exact .nil
    | cons q t' => exact .cons r ih
theorem Vals.eraseIdx : ∀ {xs : List V} {us : List Value} (i : Nat), Vals xs us → Vals (xs.eraseIdx i) (us.eraseIdx i)
  | _, _, _, .nil => .nil
  | _, _, 0, .cons _ t => t
  | _, _, i + 1, .cons r t => .cons r (Vals.eraseIdx i t)
theorem Vals.reverse {xs : List V} {us : List Value} (h : Vals xs us) : Vals xs.reverse us.reverse := by
  induction h with
  | nil => exact .nil
  | cons r t ih => rw [List.reverse_cons, List.reverse_cons]; exact Vals.append ih (.cons r .nil)
theorem Vals.rep {xs : List V} {us : List Value} (h : Vals xs us) : ∀ k : Nat, Vals (List.replicate k xs).flatten (List.replicate k us).flatten
  | 0 => .nil
  | k + 1 => by
    rw [List.replicate_succ, List.replicate_succ, List.flatten_cons, List.flatten_cons]
    exact Vals.append h (Vals.rep h k)
theorem erase_last {α : Type} (l : List α) : l.eraseIdx (l.length - 1) = l.dropLast := by
  induction l with
  | nil => rfl
  | cons a r ih =>
    cases r with
    | nil => rfl
    | cons b r =>
      have e : (a :: b :: r).length - 1 = ((b :: r).length - 1) + 1 := by
        have h1 : (a :: b :: r).length = r.length + 2 := rfl
        have h2 : (b :: r).length = r.length + 1 := rfl
        omega
      rw [e, List.eraseIdx_cons_succ, ih]
      all_goals rfl
theorem len_erase {α : Type} : ∀ (l : List α) (i : Nat), (l.eraseIdx i).length ≤ l.length
  | [], _ => Nat.le_refl _
  | _ :: _, 0 => Nat.le_succ _
  | _ :: r, i + 1 => Nat.succ_le_succ (len_erase r i)
theorem foldl_rep (its : List Value) : ∀ (k : Nat) (acc : List Value),
    List.foldl (fun x1 x2 => x1 ++ x2) acc.toArray (List.replicate k its.toArray) = (acc ++ (List.replicate k its).flatten).toArray
  | 0, acc => by simp
  | k + 1, acc => by
    have e : acc.toArray ++ its.toArray = (acc ++ its).toArray := by simp
    have e2 : (acc ++ its) ++ (List.replicate k its).flatten = acc ++ (List.replicate (k + 1) its).flatten := by
      rw [List.replicate_succ, List.flatten_cons, List.append_assoc]
    rw [← e2, ← foldl_rep its k (acc ++ its), ← e, List.replicate_succ, List.foldl_cons]

section
variable {X : Cx} {pins : List (Addr × Obj)} {σ : St} {H : Hp} {s : Shared} {l b : Addr} {xs ys zs : List V}

/-! ### the two steps: a tracked list is rewritten, a new list is laid -/
theorem Inv.lset {its its' : List Value} {n : Nat} {f : Array Value → Array Value} {t' : Nat} (I : Inv X pins σ H s) (hH : H l = some (.lst xs))
    (e : s.heap.get? l = some { cls := .type "list", data := .seq its.toArray n }) (hf : f its.toArray = its'.toArray) (hv : Vals ys its') (hz : ys.length ≤ sizeLine) :
    Inv X pins σ (upd H l (.lst ys)) { s with heap := s.heap.update l (Obj.mapSeq f), toks := t' } := by
  have q := PySem.IsL.update e f
  rw [hf] at q
  refine I.write (x := l) (e := l) (by rw [hH]; exact trivial) (.inl rfl) (fun b' u hb hu => (Heap.get?_update_other s.heap (Obj.mapSeq f) (Ne.symm hb)).trans hu) ⟨_, q⟩ ?_
  exact ⟨hz, its', _, hv, q⟩
theorem Inv.lnew {its : List Value} {t' : Nat} (I : Inv X pins σ H s) (hv : Vals ys its) (hz : ys.length ≤ sizeLine) :
    Inv X pins σ (upd H s.heap.objs.size (.lst ys)) { s with heap := s.heap.push { cls := .type "list", data := .seq its.toArray }, toks := t' } :=
  I.laid (fun _ _ q => Heap.get?_push_of_some _ q) (Nat.le_refl _) ⟨hz, its, 0, hv, Heap.get?_push_size _ rfl⟩
theorem Inv.fresh (I : Inv X pins σ H s) : H s.heap.objs.size = none := I.hok.fresh (Nat.le_refl _)
theorem Inv.lstM (I : Inv X pins σ H s) (hH : H l = some (.lst xs)) : xs.length ≤ sizeLine ∧ ∃ (its : List Value) (n : Nat), Vals xs its ∧ xs.length = its.length ∧ s.heap.get? l = some { cls := .type "list", data := .seq its.toArray n } := by
  obtain ⟨z, its, n, r, e⟩ := I.hok l _ hH
  exact ⟨z, its, n, r, r.length, e⟩

theorem notLongL {n : Nat} (h : n ≤ sizeLine) : Builtin.List.listTooLong n = false := by
  unfold Builtin.List.listTooLong
  exact decide_eq_false (by omega)
end

section
variable {X : Cx}

/-! ### methods -/
def rAppend : V → List V → Hp → VK → Prop := fun x vs H Q => ∃ l xs y, x = .ref l ∧ vs = [y] ∧ H l = some (.lst xs) ∧ xs.length < sizeLine ∧ Q .non (upd H l (.lst (xs ++ [y])))
theorem mt_append : MtM X "list.append" rAppend := by
  intro pins s σ H x vs v us Q I rx rv h
  obtain ⟨l, xs, y, rfl, rfl, hH, hz, q⟩ := h
  cases rx
  obtain ⟨u, rfl, ru⟩ := rv.one
  obtain ⟨z, its, n, r, hl, e⟩ := I.lstM hH
  refine call_meets F.slot_list_append ⟨_, e, rfl⟩ F.entry_list_append (F.args_list_append_2 _ _) (PySem.list_append l its.toArray n u (by rw [List.size_toArray]; omega)) ⟨e, ?_⟩
  refine ⟨.non, _, I.lset (its' := its ++ [u]) hH e (by simp) (r.append (.cons ru .nil)) ?_, rfl, q⟩
  rw [List.length_append, List.length_singleton]
  omega

def rExtend : V → List V → Hp → VK → Prop := fun x vs H Q => ∃ l b xs zs, x = .ref l ∧ vs = [.ref b] ∧ H l = some (.lst xs) ∧ H b = some (.lst zs) ∧ xs.length + zs.length ≤ sizeLine ∧ Q .non (upd H l (.lst (xs ++ zs)))
theorem mt_extend : MtM X "list.extend" rExtend := by
  intro pins s σ H x vs v us Q I rx rv h
  obtain ⟨l, b, xs, zs, rfl, rfl, hH, hB, hz, q⟩ := h
  cases rx
  obtain ⟨u, rfl, ru⟩ := rv.one
  cases ru
  obtain ⟨z, its, n, r, hl, e⟩ := I.lstM hH
  obtain ⟨z2, its2, n2, r2, hl2, e2⟩ := I.lstM hB
  have hsz : its.toArray.size + its2.toArray.size ≤ sizeLine := by rw [List.size_toArray, List.size_toArray]; omega
  have hlong : ¬ (!its.toArray.isEmpty && Builtin.List.listTooLong (its.toArray.size + its2.toArray.size)) = true := by
    rw [notLongL hsz, Bool.and_false]
    exact Bool.false_ne_true
  refine call_meets F.slot_list_extend ⟨_, e, rfl⟩ F.entry_list_extend (F.args_list_extend_2 _ _)
    (AutoSeq1.list_extend_list_list_0 l its.toArray n b its2.toArray n2 hlong (by rw [List.size_toArray]; omega) (by omega)) ⟨e, e2, ?_⟩
  refine ⟨.non, _, I.lset (its' := its ++ its2) hH e (by simp) (r.append r2) ?_, rfl, q⟩
  rw [List.length_append]
  omega

def rPop : V → List V → Hp → VK → Prop := fun x vs H Q => ∃ l xs y, x = .ref l ∧ vs = [] ∧ H l = some (.lst xs) ∧ xs[xs.length - 1]? = some y ∧ Q y (upd H l (.lst xs.dropLast))
theorem mt_pop : MtM X "list.pop" rPop := by
  intro pins s σ H x vs v us Q I rx rv h
  obtain ⟨l, xs, y, rfl, rfl, hH, hy, q⟩ := h
  cases rx
  have hus := rv.zero
  subst hus
  obtain ⟨z, its, n, r, hl, e⟩ := I.lstM hH
  obtain ⟨u, hu, ru⟩ := r.get hy
  have hy' : its.toArray[its.toArray.size - 1]? = some u := by
    show its.toArray[its.length - 1]? = some u
    rw [← Array.getElem?_toList, ← hl]
    exact hu
  refine call_meets F.slot_list_pop ⟨_, e, rfl⟩ F.entry_list_pop (F.args_list_pop_1 _) (MeetsSeq.list_pop_last l its.toArray n u hy' (by rw [List.size_toArray]; omega)) ⟨e, ?_⟩
  refine ⟨y, _, I.lset (its' := its.dropLast) hH e ?_ r.dropLast ?_, ru, q⟩
  · show its.toArray.eraseIdxIfInBounds (its.toArray.size - 1) = its.dropLast.toArray
    rw [List.size_toArray, List.eraseIdxIfInBounds_toArray, erase_last]
  · rw [List.length_dropLast]
    omega

def rPopAt : V → List V → Hp → VK → Prop := fun x vs H Q => ∃ l xs i k y, x = .ref l ∧ vs = [.int i] ∧ H l = some (.lst xs) ∧ -(2 ^ 63) ≤ i ∧ i < 2 ^ 63 ∧ seqIndex? i xs.length = some k ∧ xs[k]? = some y ∧ Q y (upd H l (.lst (xs.eraseIdx k)))
theorem mt_popAt : MtM X "list.pop" rPopAt := by
  intro pins s σ H x vs v us Q I rx rv h
  obtain ⟨l, xs, i, k, y, rfl, rfl, hH, h1, h2, hk, hy, q⟩ := h
  cases rx
  obtain ⟨u, rfl, ru⟩ := rv.one
  obtain ⟨t, rfl⟩ := ru
  obtain ⟨z, its, n, r, hl, e⟩ := I.lstM hH
  obtain ⟨w, hw, rw'⟩ := r.get hy
  refine call_meets F.slot_list_pop ⟨_, e, rfl⟩ F.entry_list_pop (F.args_list_pop_2 _ _)
    (MeetsSeq.list_pop_at l its.toArray n i t k w (fitsIndex_both h1 h2) (by rw [List.size_toArray, ← hl]; exact hk) (by rw [← Array.getElem?_toList]; exact hw) (by rw [List.size_toArray]; omega)) ⟨e, ?_⟩
  refine ⟨y, _, I.lset (its' := its.eraseIdx k) hH e ?_ (r.eraseIdx k) ?_, rw', q⟩
  · show its.toArray.eraseIdxIfInBounds k = (its.eraseIdx k).toArray
    rw [List.eraseIdxIfInBounds_toArray]
  · have := len_erase xs k
    omega

def rReverse : V → List V → Hp → VK → Prop := fun x vs H Q => ∃ l xs, x = .ref l ∧ vs = [] ∧ H l = some (.lst xs) ∧ Q .non (upd H l (.lst xs.reverse))
theorem mt_reverse : MtM X "list.reverse" rReverse := by
  intro pins s σ H x vs v us Q I rx rv h
  obtain ⟨l, xs, rfl, rfl, hH, q⟩ := h
  cases rx
  have hus := rv.zero
  subst hus
  obtain ⟨z, its, n, r, hl, e⟩ := I.lstM hH
  refine call_meets F.slot_list_reverse ⟨_, e, rfl⟩ F.entry_list_reverse (F.args_list_reverse_1 _) (AutoSeq1.list_reverse_list_0 l its.toArray n (by rw [List.size_toArray]; omega)) ⟨e, ?_⟩
  refine ⟨.non, _, I.lset (its' := its.reverse) hH e (by simp) r.reverse ?_, rfl, q⟩
  rw [List.length_reverse]
  omega

def rClear : V → List V → Hp → VK → Prop := fun x vs H Q => ∃ l xs, x = .ref l ∧ vs = [] ∧ H l = some (.lst xs) ∧ Q .non (upd H l (.lst []))
theorem mt_clear : MtM X "list.clear" rClear := by
  intro pins s σ H x vs v us Q I rx rv h
  obtain ⟨l, xs, rfl, rfl, hH, q⟩ := h
  cases rx
  have hus := rv.zero
  subst hus
  obtain ⟨z, its, n, r, hl, e⟩ := I.lstM hH
  refine call_meets F.slot_list_clear ⟨_, e, rfl⟩ F.entry_list_clear (F.args_list_clear_1 _) (AutoSeq1.list_clear_list_0 l its.toArray n (by rw [List.size_toArray]; omega)) ⟨e, ?_⟩
  exact ⟨.non, _, I.lset (its' := []) (ys := []) hH e rfl .nil (Nat.zero_le _), rfl, q⟩

/-! ### list + list, list += list, list * int -/
def rCat : R2 := fun x y H Q => ∃ l b xs zs, x = .ref l ∧ y = .ref b ∧ H l = some (.lst xs) ∧ H b = some (.lst zs) ∧ xs.length + zs.length ≤ sizeLine ∧ ∀ p, H p = none → Q (.ref p) (upd H p (.lst (xs ++ zs)))
theorem op_cat : OpR X (binaryOp .Add) rCat := by
  intro pins s σ H x y v u Q I rx ry h
  obtain ⟨l, b, xs, zs, rfl, rfl, hH, hB, hz, q⟩ := h
  cases rx
  cases ry
  obtain ⟨z, its, n, r, hl, e⟩ := I.lstM hH
  obtain ⟨z2, its2, n2, r2, hl2, e2⟩ := I.lstM hB
  refine PySem.P.add_list e e2 ?_ (by rw [List.size_toArray, List.size_toArray]; omega)
  have ea : its.toArray ++ its2.toArray = (its ++ its2).toArray := by simp
  rw [ea]
  exact ⟨.ref _, _, I.lnew (t' := s.toks) (r.append r2) (by rw [List.length_append]; omega), rfl, q _ I.fresh⟩
/-- a list times an int (a negative one is nothing) -/
def rRep : R2 := fun x y H Q => ∃ l k xs, x = .ref l ∧ y = .int k ∧ H l = some (.lst xs) ∧ -(2 ^ 63) ≤ k ∧ k < 2 ^ 63 ∧ xs.length * k.toNat ≤ sizeLine ∧
  ∀ p, H p = none → Q (.ref p) (upd H p (.lst (List.replicate k.toNat xs).flatten))
theorem len_rep {α : Type} (xs : List α) (k : Nat) : (List.replicate k xs).flatten.length = k * xs.length := by
  induction k with
  | zero => simp
  | succ k ih => rw [List.replicate_succ, List.flatten_cons, List.length_append, ih, Nat.succ_mul, Nat.add_comm]
theorem op_rep : OpR X (binaryOp .Mult) rRep := by
  intro pins s σ H x y v u Q I rx ry h
  obtain ⟨l, k, xs, rfl, rfl, hH, h1, h2, hz, q⟩ := h
  cases rx
  obtain ⟨t, rfl⟩ := ry
  obtain ⟨z, its, n, r, hl, e⟩ := I.lstM hH
  have hlen : its.toArray.size * k.toNat ≤ sizeLine := by rw [List.size_toArray, ← hl]; exact hz
  have hcap : ¬ its.toArray.size * k.toNat > (2 ^ 63 - 1) / 8 := by
    have : (sizeLine : Nat) ≤ (2 ^ 63 - 1) / 8 := by decide
    omega
  have hfit : ¬ (!Builtin.List.listFitsIndex k) = true := by
    rw [fitsIndex_both h1 h2]
    exact Bool.false_ne_true
  have hlong : ¬ Builtin.List.listTooLong (its.toArray.size * k.toNat) = true := by
    rw [notLongL hlen]
    exact Bool.false_ne_true
  have hnew : List.foldl (fun x1 x2 => x1 ++ x2) #[] (List.replicate (if its.toArray.isEmpty = true then 0 else k.toNat) its.toArray) = (List.replicate k.toNat its).flatten.toArray := by
    have f0 : ∀ m : Nat, List.foldl (fun x1 x2 => x1 ++ x2) #[] (List.replicate m its.toArray) = (List.replicate m its).flatten.toArray := fun m => by
      have := foldl_rep its m []
      rw [List.nil_append] at this
      exact this
    rw [f0]
    cases its with
    | nil => simp
    | cons a r' => rw [if_neg (by simp)]
  refine wpAny_binaryOp_repeat_ref (T := "list") (U := "int") (by decide) ⟨_, e, rfl⟩ (fun s' => typeIs_int s' k t) noFill_list_mul F.fills_int_mul F.slot_int_rmul repeat_list F.slot_int_index.lookup
    (call_meets F.slot_int_rmul (typeIs_int s k t) F.entry_int_rmul (F.args_int_rmul_2 _ _) (int___rmul___int_list k t l its.toArray n)
      ⟨e, rfl, ⟨_, e, rfl⟩, call_meets F.slot_list_mul ⟨_, e, rfl⟩ F.entry_list_mul (F.args_list_mul_2 _ _) (AutoListH.list___mul___list_int_3 l its.toArray n k t hfit hcap hlong) ⟨e, ?_⟩⟩)
  rw [hnew]
  exact ⟨.ref _, _, I.lnew (t' := s.toks) (r.rep k.toNat) (by rw [len_rep, Nat.mul_comm]; exact hz), rfl, q _ I.fresh⟩

/-! ### del xs[i] -/
theorem del_list {pins : List (Addr × Obj)} {s : Shared} {σ : St} {H : Hp} {l : Addr} {xs : List V} {i : Int} {t : Tok} {k : Nat} {Q : Unit → Shared → Prop} (I : Inv X pins σ H s) (hH : H l = some (.lst xs))
    (h1 : -(2 ^ 63) ≤ i) (h2 : i < 2 ^ 63) (hk : seqIndex? i xs.length = some k) (h : ∀ s', Inv X pins σ (upd H l (.lst (xs.eraseIdx k))) s' → Q () s') :
    wpAny (model X.prog X.w) X.A (delItem (.ref l) (.int i t)) Q X.xe s := by
  obtain ⟨z, its, n, r, hl, e⟩ := I.lstM hH
  refine PySem.P.delItem_list (k := k) e (fitsIndex_both h1 h2) (by rw [List.size_toArray, ← hl]; exact hk) (h _ ?_) (by rw [List.size_toArray]; omega)
  refine I.lset (its' := its.eraseIdx k) (t' := s.toks) hH e ?_ (r.eraseIdx k) ?_
  · show its.toArray.eraseIdxIfInBounds k = (its.eraseIdx k).toArray
    rw [List.eraseIdxIfInBounds_toArray]
  · have := len_erase xs k
    omega
end

/-! ### xs[a:b] = ys -/
section
variable {prog : Program} {w : World} {A : Around} {E : Value → Shared → Prop} {s : Shared}
theorem splice_eq (its its2 : List Value) (a c : Nat) : its.toArray.extract 0 a ++ its2.toArray ++ its.toArray.extract c its.toArray.size = (its.take a ++ its2 ++ its.drop c).toArray := by
  apply Array.toList_inj.mp
  first
    | (simp
       exact List.take_of_length_le (by simp))
    | simp [List.take_of_length_le]
    | simp
theorem bounds_run {a c n : Nat} (hac : a ≤ c) (hc : c ≤ n) : sliceBounds (some (a : Int)) (some (c : Int)) none n = ((a : Int), (c : Int), 1) := by
  simp only [sliceBounds, Option.getD_none]
  have h1 : ¬ ((a : Int) < 0) := by omega
  have h2 : ¬ ((c : Int) < 0) := by omega
  simp only [h1, h2, if_false, show (1 : Int) > 0 by decide, if_true]
  congr 1
  · omega
  · congr 1; omega
set_option maxRecDepth 100000 in
/-- list.__setitem__ with a slice of step one and another list -/
theorem setItem_slice {l b sl : Addr} {items new : Array Value} {n n2 : Nat} {vl vu : Value} {a c : Nat} {Q : Unit → Shared → Prop}
    (e : s.heap.get? l = some { cls := .type "list", data := .seq items n }) (e2 : s.heap.get? b = some { cls := .type "list", data := .seq new n2 }) (hne : l ≠ b)
    (hs : s.heap.IsSliceOf sl vl vu .none) (pl : IsPart vl (some (a : Int))) (pu : IsPart vu (some (c : Int))) (hac : a ≤ c) (hc : c ≤ items.size)
    (hsz : items.size + new.size ≤ sizeLine) (h : Q () { s with heap := s.heap.update l (Obj.mapSeq fun xs => xs.extract 0 a ++ new ++ xs.extract c xs.size) }) :
    wpAny (model prog w) A (setItem (.ref l) (.ref sl) (.ref b)) Q E s := by
  have hl : s.heap.IsList l items := PySem.IsL.isList e
  have hb : s.heap.IsList b new := PySem.IsL.isList e2
  obtain ⟨os, hos, hcs, hds⟩ := id hs
  have hTs : s.TypeIs (.ref sl) "slice" := ⟨os, hos, hcs⟩
  have hstep : ¬ ((rawPart none == rawInt 0) = true) := Bool.false_ne_true
  have hsame : Builtin.List.listSameRef (.ref l) (.ref b) = false := by
    unfold Builtin.List.listSameRef
    exact beq_eq_false_iff_ne.mpr hne
  have hmax : (max (a : Int) (c : Int)).toNat = c := by omega
  have hz' : ((fun xs : Array Value => xs.extract 0 a ++ new ++ xs.extract c xs.size) items).size ≤ sizeLine + 1 := by
    simp only [Array.size_append, Array.size_extract]
    omega
  unfold setItem
  try with_reducible refine wpAny_holding ?_
  first | refine wpAny_bind (wpAny_pure ?_) | skip
  refine wpAny_bind (wpAny_sequenceKey hl.typeIs (by decide) ?_)
  refine wpAny_bind (wpAny_callSpecial?_slot (name := Str.ofString "__setitem__") hl.typeIs slot_list_setitem
    (wpAny_call_entry slot_list_setitem hl.typeIs entry_list_setitem ?_ (args_list_setitem _ _ _)))
  show wpAny _ _ (Builtin.List.listSubscript? (.ref sl) >>= _) _ _ s
  refine wpAny_bind ?_
  unfold Builtin.List.listSubscript?
  refine wpAny_bind (wpAny_specialOf hTs slice_no_index ?_)
  simp only [Option.isNone_none, if_true]
  refine wpAny_pure ?_
  show wpAny _ _ (typeOf (.ref sl) >>= _) _ _ s
  refine wpAny_bind (wpAny_typeOf hTs ?_)
  first
    | rw [if_neg (by decide)]
    | refine PySem.W.KFB.if_not (by decide) ?_
  rw [listSliceParts_eq]
  refine wpAny_bind (wpAny_bind (wpAny_field hos hds (x := .none) rfl (wpAny_bind (wpAny_listPart .none ?_))))
  rw [if_neg hstep]
  refine wpAny_bind (wpAny_field hos hds (x := vl) rfl (wpAny_bind (wpAny_listPart pl ?_)))
  refine wpAny_bind (wpAny_field hos hds (x := vu) rfl (wpAny_bind (wpAny_listPart pu (wpAny_pure ?_))))
  first
    | simp only [hsame, Bool.false_eq_true, if_false]
    | refine PySem.W.KFB.if_not hsame ?_
    | (dsimp only
       rw [if_neg (by rw [hsame]; exact Bool.false_ne_true)])
  refine wpAny_bind (m := Builtin.List.listAllItems (.ref b) "must assign iterable to extended slice") ?_
  unfold Builtin.List.listAllItems
  refine wpAny_bind (wpAny_typeOf hb.typeIs ?_)
  first
    | refine PySem.W.KFB.if_so (by decide) ?_
    | rw [if_pos (by decide)]
    | simp only [beq_self_eq_true, Bool.true_or, if_true]
  unfold Builtin.List.listItems
  refine wpAny_bind (wpAny_seqItems e2 rfl (wpAny_pure ?_))
  refine wpAny_bind (wpAny_bind (wpAny_seqItems e rfl (wpAny_pure ?_)))
  refine wpAny_bind (wpAny_of_eq ((sliceIndices_raw (some (a : Int)) (some (c : Int)) none items.size (by simp)).trans (congrArg (pure : Int × Int × Int → Sem (Int × Int × Int)) (bounds_run hac hc))) ?_)
  show wpAny _ _ (if ((1 : Int) == 1) = true then _ else _) _ _ s
  rw [if_pos (by decide)]
  refine wpAny_bind (wpAny_rule ?_)
  first
    | simp only [notLongL hsz, Bool.false_eq_true, if_false]
    | refine PySem.W.KFB.if_not (notLongL hsz) ?_
  first | refine wpAny_bind (wpAny_pure ?_) | skip
  show wpAny _ _ (updateSeq l (fun xs => xs.extract 0 ((a : Int)).toNat ++ new ++ xs.extract (max (a : Int) (c : Int)).toNat xs.size) >>= _) _ _ s
  rw [hmax, Int.toNat_natCast]
  refine wpAny_bind (wpAny_updateSeq (hz := Nat.le_trans (Nat.le_add_right _ _) hsz) (_hz' := hz') e rfl ?_)
  refine wpAny_bind (wpAny_letGo ?_)
  first
    | exact wpAny_bind (wpAny_pure (wpAny_pure ⟨.none, rfl, wpAny_pure h⟩))
    | exact wpAny_pure ⟨.none, rfl, wpAny_pure h⟩
end

section
variable {X : Cx}
/-- xs[a:c] = ys of another list, at the value level: sl is the slice object that was just made -/
theorem set_slice {pins : List (Addr × Obj)} {s : Shared} {σ : St} {H : Hp} {l b sl : Addr} {xs ys : List V} {a c : Int} {vl vu : Value} {Q : Unit → Shared → Prop} (I : Inv X pins σ H s)
    (hH : H l = some (.lst xs)) (hB : H b = some (.lst ys)) (hne : l ≠ b) (hs : s.heap.IsSliceOf sl vl vu .none) (ra : RelV (.int a) vl) (rc : RelV (.int c) vu) (h0 : 0 ≤ a) (hac : a ≤ c) (hc : c ≤ xs.length)
    (hz : xs.length + ys.length ≤ sizeLine) (h : ∀ s', Inv X pins σ (upd H l (.lst (xs.take a.toNat ++ ys ++ xs.drop c.toNat))) s' → Q () s') :
    wpAny (model X.prog X.w) X.A (setItem (.ref l) (.ref sl) (.ref b)) Q X.xe s := by
  obtain ⟨ta, rfl⟩ := ra
  obtain ⟨tc, rfl⟩ := rc
  obtain ⟨z, its, n, r, hl, e⟩ := I.lstM hH
  obtain ⟨z2, its2, n2, r2, hl2, e2⟩ := I.lstM hB
  obtain ⟨a', rfl⟩ := Int.eq_ofNat_of_zero_le h0
  obtain ⟨c', rfl⟩ := Int.eq_ofNat_of_zero_le (Int.le_trans h0 hac)
  simp only [Int.toNat_natCast] at h
  refine setItem_slice (a := a') (c := c') e e2 hne hs (.int _ _) (.int _ _) (by omega) (by rw [List.size_toArray]; omega) (by rw [List.size_toArray, List.size_toArray]; omega) (h _ ?_)
  refine I.lset (its' := its.take a' ++ its2 ++ its.drop c') (t' := s.toks) hH e ?_ (Vals.append (Vals.append (r.take _) r2) (r.drop _)) ?_
  · exact splice_eq its its2 a' c'
  · rw [List.length_append, List.length_append, List.length_take, List.length_drop]
    omega
end
end L2

namespace Att
open PySem PySem.W PySem.Calls PyProof.Rows

/-! ### the script -/
theorem ints_of_wellAll {P : Params} {h : Heap} : ∀ (ns : List Int) (vs : List Value), WellAll P h vs (ns.map WData.int) → IntsAre vs ns := by
  intro ns
  induction ns with
  | nil =>
    intro vs w
    rw [List.map_nil] at w
    cases w
    exact .nil
  | cons n ns ih =>
    intro vs w
    rw [List.map_cons] at w
    cases w with
    | cons a b =>
      cases a
      exact .cons _ _ (ih _ b)

theorem script_of {l : OpenLaw} {n : Nat} (hn : l.most = some n) {P : Params} {h : Heap} {args : List WData} {vals : List Value}
    (hpre : l.row.toRowW.claim.pre args = true) (hwl : WellAll P h vals args) :
    ∃ a vs ns, vals = [Value.ref a] ∧ args = [WData.list (ns.map WData.int)] ∧ h.get? a = some { cls := .type "list", data := .seq vs.toArray } ∧ IntsAre vs ns ∧ ns.length ≤ n := by
  have hsh : WShape.hasAll [] args [.list .int] = true := (pre_splitW hpre).1
  have hc : l.pre.holds [] { args := args } = true := (pre_splitW hpre).2
  obtain ⟨d, r, rfl, h1, h2⟩ := hasAllW_cons hsh
  obtain rfl := hasAllW_nil h2
  obtain ⟨xs, rfl, h3⟩ := hasW_list h1
  obtain ⟨ns, rfl⟩ := items_int h3
  have hlen : ns.length ≤ n := by
    unfold OpenLaw.pre at hc
    have h4 : (WTm.not (.lt (.lit (.int (n : Int))) (.len (.arg 0)))).holds [] { args := [.list (ns.map .int)] } = true := by
      have h4 := (holds_andW hc).1
      rw [hn] at h4
      exact h4
    have h5 := condW_of h4 (w_not (w_lt w_lit (w_len_list (w_arg rfl))))
    rw [List.length_map] at h5
    refine Nat.le_of_not_lt fun q => ?_
    have q' : (n : Int) < ((ns.length : Nat) : Int) := by omega
    first
      | (rw [decide_eq_true q'] at h5; exact absurd h5 (by decide))
      | (simp at h5; omega)
  cases hwl with
  | cons w1 w2 =>
    cases w2
    cases w1 with
    | list ho hall => exact ⟨_, _, ns, rfl, rfl, ho, ints_of_wellAll ns _ hall, hlen⟩

theorem post_true (l : OpenLaw) (args : List WData) : l.row.toRowW.claim.post args (.bool true) args = true :=
  postW_of (r := l.row.toRowW) (X := (true == true))
    (show WShape.has [] (.bool true) .bool = true by first | rfl | decide | simp [WShape.has, WShape.arms, WShape.armsAll])
    (show (WTm.eq .res (.lit (.bool true))).value [] { args := args, res := some (.bool true), after := args } = some (.bool (true == true)) from w_eq_bool (w_res rfl) w_lit) rfl

/-! ### the attachment: holds_open's last premise (the goal 'hc' behind k_head) from a wpAny of the law's body -/
theorem attach {l : OpenLaw} {n : Nat} {q : Program} {loose : List Str} {XP : (Str → Option Value) → Heap → Prop} {YP : World → Heap → Prop} {d : DefRec} {x : Str}
    (hn : l.most = some n) (hdf : d.params.defaults = [])
    (hbind : ∀ pm cd doc v : Value, bindArgs (docDef d.name d.params d.body d.scope pm cd doc) ⟨[v], []⟩ = pure [(x, v)])
    (hx : d.scope.names.lookup x = some .local ∨ d.scope.names.lookup x = some .cell)
    (hk : d.scope.kind = .function) (hco : d.scope.isCoroutine = false) (hgen : d.scope.isGenerator = false)
    (body : ∀ (w : World) (s₀ s₁ s : Shared) (mg mb : Str → Option Value) (fa : Addr) (o : Obj) (pm cd doc : Value) (a : Addr) (vs : List Value) (ns : List Int),
      Ground q loose [] XP w s₀ mg mb s₁.heap → YP w s₁.heap →
      s₁.heap.get? fa = some o → o.data = .func (docDef d.name d.params d.body d.scope pm cd doc) → s₁.heap.CodeRec cd d.name → mg d.name = some (.ref fa) →
      s₁.heap.get? a = some { cls := .type "list", data := .seq vs.toArray } → IntsAre vs ns → ns.length ≤ n →
      s.gens = #[] → s.os = s₁.os →
      Fr s₁.heap s₁.heap.objs.size s.heap (bindL (envOfC d.name d.scope s₁.heap.objs.size fa cd).kindOf [(x, .ref a)] fun _ => none) →
      Cl s₁.heap.objs.size (cellsFrom (s₁.heap.objs.size + 1) d.scope.names []) s.heap (bindC (envOfC d.name d.scope s₁.heap.objs.size fa cd).kindOf [(x, .ref a)] fun _ => none) →
      wpAny (model l.prog w) (callerA.deeper (envOfC d.name d.scope s₁.heap.objs.size fa cd)) (execs d.body (envOfC d.name d.scope s₁.heap.objs.size fa cd))
        (fun f s' => f = .ret (.bool true) ∧ OldK s₁.heap s'.heap ∧ s'.os = s₁.os ∧ AllBare s'.gens) (fun _ _ => False) s) :
    WalkO q loose XP YP l.row.toRowW d [] (fun f vs => PySem.call f vs) := by
  intro w s₀ s₁ mg mb G Y fa o pm cd doc dV kV ho hd hcd hD hmg hg args vals as hpre hlay hrd hwl hlo
  obtain rfl : dV = .none := Dflts.none hD hdf
  obtain rfl : kV = .none := Dflts.noKw hD
  obtain ⟨a, vs, ns, rfl, rfl, hobj, hints, hlen⟩ := script_of hn hpre hwl
  refine enter_call ?_
  refine call_cells_ret (o := o) (by rw [depth_caller]; decide) ho (fd_plain hd) G.T.nolimit hcd (hbind pm cd doc (.ref a)) (fun y hy => ?_) (fun h₁ tk F X => ?_) hco hgen hk
  · obtain rfl : y = (x, Value.ref a) := List.mem_singleton.mp hy
    rcases hx with e | e
    · exact .inl e
    · exact .inr ⟨e, cellsFrom_some _ _ _ (.inl e)⟩
  · refine wpAny_mono (body w s₀ s₁ { s₁ with heap := h₁, toks := tk } mg mb fa o pm cd doc a vs ns G Y ho (fd_plain hd) hcd hmg hobj hints hlen hg rfl F X) (fun f s' hq => ?_) (fun _ _ hq => hq)
    obtain ⟨rfl, h2, h3, h4⟩ := hq
    exact ⟨.inl ⟨.bool true, .bool true, [], rfl, fun _ => rfl, .bool true, post_true l _, fun _ => ⟨List.Pairwise.nil, fun _ hm => (nomatch hm)⟩⟩, h2, h3, h4⟩

/-- the same from a codeAny of the CALL (for a layer whose function contracts speak of calls) -/
theorem attach_call {l : OpenLaw} {n : Nat} {q : Program} {loose : List Str} {XP : (Str → Option Value) → Heap → Prop} {YP : World → Heap → Prop} {d : DefRec}
    (hn : l.most = some n) (hdf : d.params.defaults = [])
    (call : ∀ (w : World) (s₀ s₁ : Shared) (mg mb : Str → Option Value) (fa : Addr) (o : Obj) (pm cd doc : Value) (a : Addr) (vs : List Value) (ns : List Int),
      Ground q loose [] XP w s₀ mg mb s₁.heap → YP w s₁.heap →
      s₁.heap.get? fa = some o → o.data = .func (docDef d.name d.params d.body d.scope pm cd doc) → s₁.heap.CodeRec cd d.name → mg d.name = some (.ref fa) →
      s₁.heap.get? a = some { cls := .type "list", data := .seq vs.toArray } → IntsAre vs ns → ns.length ≤ n → s₁.gens = #[] →
      codeAny (model l.prog w) callerA (.call (.ref fa) ⟨[.ref a], []⟩) (fun r s' => r = .ok (.ret (.bool true)) ∧ OldK s₁.heap s'.heap ∧ s'.os = s₁.os ∧ AllBare s'.gens) s₁) :
    WalkO q loose XP YP l.row.toRowW d [] (fun f vs => PySem.call f vs) := by
  intro w s₀ s₁ mg mb G Y fa o pm cd doc dV kV ho hd hcd hD hmg hg args vals as hpre hlay hrd hwl hlo
  obtain rfl : dV = .none := Dflts.none hD hdf
  obtain rfl : kV = .none := Dflts.noKw hD
  obtain ⟨a, vs, ns, rfl, rfl, hobj, hints, hlen⟩ := script_of hn hpre hwl
  refine enter_call (codeAny_mono (call w s₀ s₁ mg mb fa o pm cd doc a vs ns G Y ho (fd_plain hd) hcd hmg hobj hints hlen hg) fun r s' hq => ?_)
  obtain ⟨rfl, h2, h3, h4⟩ := hq
  exact ⟨.inl ⟨.bool true, .bool true, [], rfl, fun _ => rfl, .bool true, post_true l _, fun _ => ⟨List.Pairwise.nil, fun _ hm => (nomatch hm)⟩⟩, h2, h3, h4⟩

/-- the same where the top left finished generators (o_head chose holds_openN): nothing may have changed at all and no generator may be left -/
theorem attachN {l : OpenLaw} {n : Nat} {q : Program} {loose : List Str} {XP : (Str → Option Value) → Heap → Prop} {YP : World → Heap → Prop} {d : DefRec} {x : Str}
    (hn : l.most = some n) (hdf : d.params.defaults = [])
    (hbind : ∀ pm cd doc v : Value, bindArgs (docDef d.name d.params d.body d.scope pm cd doc) ⟨[v], []⟩ = pure [(x, v)])
    (hx : d.scope.names.lookup x = some .local ∨ d.scope.names.lookup x = some .cell)
    (hk : d.scope.kind = .function) (hco : d.scope.isCoroutine = false) (hgen : d.scope.isGenerator = false)
    (body : ∀ (w : World) (s₀ s₁ s : Shared) (mg mb : Str → Option Value) (fa : Addr) (o : Obj) (pm cd doc : Value) (a : Addr) (vs : List Value) (ns : List Int),
      Ground q loose [] XP w s₀ mg mb s₁.heap → YP w s₁.heap →
      s₁.heap.get? fa = some o → o.data = .func (docDef d.name d.params d.body d.scope pm cd doc) → s₁.heap.CodeRec cd d.name → mg d.name = some (.ref fa) →
      s₁.heap.get? a = some { cls := .type "list", data := .seq vs.toArray } → IntsAre vs ns → ns.length ≤ n →
      s.gens = #[] → s.os = s₁.os →
      Fr s₁.heap s₁.heap.objs.size s.heap (bindL (envOfC d.name d.scope s₁.heap.objs.size fa cd).kindOf [(x, .ref a)] fun _ => none) →
      Cl s₁.heap.objs.size (cellsFrom (s₁.heap.objs.size + 1) d.scope.names []) s.heap (bindC (envOfC d.name d.scope s₁.heap.objs.size fa cd).kindOf [(x, .ref a)] fun _ => none) →
      wpAny (model l.prog w) (callerA.deeper (envOfC d.name d.scope s₁.heap.objs.size fa cd)) (execs d.body (envOfC d.name d.scope s₁.heap.objs.size fa cd))
        (fun f s' => f = .ret (.bool true) ∧ (∀ b o, s₁.heap.get? b = some o → s'.heap.get? b = some o) ∧ s'.os = s₁.os ∧ s'.gens = #[]) (fun _ _ => False) s) :
    WalkN q loose XP YP l.row.toRowW d [] (fun f vs => PySem.call f vs) := by
  intro w s₀ s₁ mg mb G Y fa o pm cd doc dV kV ho hd hcd hD hmg hg args vals as hpre hlay hrd hwl hlo
  obtain rfl : dV = .none := Dflts.none hD hdf
  obtain rfl : kV = .none := Dflts.noKw hD
  obtain ⟨a, vs, ns, rfl, rfl, hobj, hints, hlen⟩ := script_of hn hpre hwl
  refine enter_callW ?_
  refine call_cells_ret (o := o) (by rw [depth_caller]; decide) ho (fd_plain hd) G.T.nolimit hcd (hbind pm cd doc (.ref a)) (fun y hy => ?_) (fun h₁ tk F X => ?_) hco hgen hk
  · obtain rfl : y = (x, Value.ref a) := List.mem_singleton.mp hy
    rcases hx with e | e
    · exact .inl e
    · exact .inr ⟨e, cellsFrom_some _ _ _ (.inl e)⟩
  · refine wpAny_mono (body w s₀ s₁ { s₁ with heap := h₁, toks := tk } mg mb fa o pm cd doc a vs ns G Y ho (fd_plain hd) hcd hmg hobj hints hlen hg rfl F X) (fun f s' hq => ?_) (fun _ _ hq => hq)
    obtain ⟨rfl, h2, h3, h4⟩ := hq
    exact ⟨.inl ⟨.bool true, .bool true, [], rfl, fun _ => rfl, .bool true, post_true l _, fun _ => ⟨List.Pairwise.nil, fun _ hm => (nomatch hm)⟩⟩, h2, h3, h4⟩

/-! ### rules over ANY heap (no ledger) from facts about the written part K: the library's own take a ledger (News) for what they write -/
section
variable {prog : Program} {w : World} {A : Around} {E : Value → Shared → Prop} {s : Shared} {K : Frag}

/-- a def of the module, or a method (qual 'C.m'), entered: the frame is the next address; cells behind it -/
theorem call_fn {R : Result → Shared → Prop} {name qual : Str} {params : Arguments} {body : List Stmt} {scope : Scope} {dV kV doc pm cdv ct oc : Value} {an od : Option Addr} {osl : Array (Option Value)} {f : Addr} {args : Args} {binds : List (Str × Value)}
    (X : K.In s.heap) (hlim : s.heap.NoLimit) (ho : K.lookup f = some ⟨oc, od, .func (fnOf name qual params body scope dV kV doc pm an cdv ct), osl⟩) (hcd : codeIn K cdv qual = true) (hroom : A.depth < recursionLimit)
    (hbind : BindsTo s (fnOf name qual params body scope dV kV doc pm an cdv ct) args binds)
    (hkind : (binds.all fun y => scope.names.lookup y.1 == some .local || scope.names.lookup y.1 == some .cell) = true)
    (h : ∀ s₁, InCallC s s.heap.objs.size (bindL (envOfC qual scope s.heap.objs.size f cdv).kindOf binds fun _ => none) (cellsFrom (s.heap.objs.size + 1) scope.names [])
        (bindC (envOfC qual scope s.heap.objs.size f cdv).kindOf binds fun _ => none) s₁ →
      wpAny (model prog w) (A.deeper (envOfC qual scope s.heap.objs.size f cdv)) (execs body (envOfC qual scope s.heap.objs.size f cdv))
        (fun fl s' => R (.ok (.ret (match fl with | .ret v => v | _ => .none))) s')
        (fun e s' => wpAny (model prog w) (A.deeper (envOfC qual scope s.heap.objs.size f cdv)) (leaving (envOfC qual scope s.heap.objs.size f cdv) e) (fun _ s'' => R (.error e) s'') (fun e' s'' => R (.error e') s'') s') s₁)
    (hco : scope.isCoroutine = false) (hgen : scope.isGenerator = false) (hk : scope.kind = .function) : codeAny (model prog w) A (.call (.ref f) args) R s := by
  refine codeAny_call_function hroom (X _ _ ho) rfl hco hgen rfl (codeRec_of X hcd) (hbind _ _ _ _ ?_)
  refine wpAny_newFunctionEnv_cells hk (kindsX hkind _) fun env he s₁ x => ?_
  subst he
  exact ⟨hlim.keeps x.toInCall.keep, codeAny_func (h s₁ x)⟩

/-- C(..): dict at size, instance at size + 1, then __init__ -/
theorem make_obj {R : Result → Shared → Prop} {C fI : Addr} {rest : List Value} {kw : List (Str × Value)}
    (X : K.In s.heap) (hm : makesIn K C = true) (hi : findIn K (.ref C) "__init__" = some (some (.ref fI))) (hf : isFn K (.ref fI) = true)
    (h : codeAny (model prog w) (A.under (.builtin "type.__call__" ⟨.ref C :: rest, kw⟩)) (.call (.ref fI) ⟨.ref (s.heap.objs.size + 1) :: rest, kw⟩) (InitBack (s.heap.objs.size + 1) R)
      { s with heap := (s.heap.push emptyDict).push (instObj C s.heap.objs.size) }) : codeAny (model prog w) A (.call (.ref C) ⟨rest, kw⟩) R s := by
  obtain ⟨hh, g, d, t, os⟩ := s
  exact make_core (makes_of X hm) (looks_findIn X hi) (fun self => bind_fn X self (beq_iff_eq.mp hf)) (.inl rfl) h

/-- x.name where the instance's dict holds the name and the class does not -/
theorem get_field {x C : Addr} {ox : Obj} {es : List DictEntry} {n : Nat} {name : Str} {expr : Bool} {v : Value} {Q : Value → Shared → Prop}
    (X : K.In s.heap) (I : PySem.W.InstAt s.heap x ox C (some (dictOf es n))) (hg : plainGet K C name = true) (hh : hasDictIn K C = true) (ha : findIn K (.ref C) name = some none)
    (hl : getL name es = some (some v)) (hv : handedIn v = true) (h : Q v { s with toks := s.toks + 1 }) : wpAny (model prog w) A (getAttr (.ref x) name expr) Q E s :=
  get_value X I (plainGet_of hg).1 (findObj_own hh ha rfl hl) hv h

/-- x.m(..): the method found in the class -/
theorem get_method {x C f : Addr} {ox : Obj} {es : List DictEntry} {n : Nat} {name : Str} {pl : Sem Bool} {Q : Value × List Value → Shared → Prop}
    (X : K.In s.heap) (I : PySem.W.InstAt s.heap x ox C (some (dictOf es n))) (hg : plainGet K C name = true) (hf : findIn K (.ref C) name = some (some (.ref f))) (ht : isFn K (.ref f) = true)
    (hl : getL name es = some none) (h : Q (.ref f, [.ref x]) s) : wpAny (model prog w) A (getMethod (.ref x) name pl) Q E s :=
  method_fn X I (plainGet_of hg).1 (plainGet_of hg).2 hf (beq_iff_eq.mp ht) (by show (lookIn name (dictOf es n)).map _ = _; rw [lookIn_dict, hl]; rfl) h

/-! the whole heap as the ledger: makes every rule that writes through a ledger a rule over any heap -/
def noObjs (h : Heap) : Heap := { h with objs := #[] }
theorem noObjs_get (h : Heap) (b : Addr) : (noObjs h).get? b = none := by
  cases e : (noObjs h).get? b with
  | none => rfl
  | some o => exact absurd (Heap.lt_size e) (Nat.not_lt_zero _)
def ledger (h : Heap) (L d : Addr) : List (Addr × Obj) := (List.range h.objs.size).filterMap fun a => if a = L ∨ a = d then none else (h.get? a).map fun o => (a, o)
theorem mem_ledger {h : Heap} {L d a : Addr} {o : Obj} : (a, o) ∈ ledger h L d ↔ a ≠ L ∧ a ≠ d ∧ h.get? a = some o := by
  unfold ledger
  rw [List.mem_filterMap]
  constructor
  · rintro ⟨b, _, e⟩
    split at e
    · cases e
    · rename_i hb
      obtain ⟨o', ho, e'⟩ := Option.map_eq_some_iff.mp e
      cases e'
      exact ⟨fun q => hb (.inl q), fun q => hb (.inr q), ho⟩
  · rintro ⟨n1, n2, ho⟩
    refine ⟨a, List.mem_range.mpr (Heap.lt_size ho), ?_⟩
    rw [if_neg (show ¬ (a = L ∨ a = d) from fun q => q.elim n1 n2), ho] <;> rfl
theorem news_ledger {h : Heap} {L d : Addr} {od : Obj} (hne : d ≠ L) (ho : h.get? d = some od) : News (noObjs h) L h ([] ++ (d, od) :: ledger h L d) := by
  rintro ⟨a, o⟩ hp
  rcases List.mem_cons.mp hp with e | hp
  · cases e
    exact ⟨ho, hne, noObjs_get _ _⟩
  · obtain ⟨n1, n2, e⟩ := mem_ledger.mp hp
    exact ⟨e, n1, noObjs_get _ _⟩
theorem fr_all {h : Heap} {L : Addr} {m : Str → Option Value} (n : h.Ns L m) : Fr (noObjs h) L h m :=
  ⟨n, fun b o e => (by rw [noObjs_get] at e; cases e), Nat.zero_le _⟩
/-- Upd of the head entry (for append_K, setItem_K ..) -/
theorem upd_ledger {h : Heap} {L d : Addr} {o o' : Obj} : Upd d o o' ((d, o) :: ledger h L d) ((d, o') :: ledger h L d) :=
  .head fun ⟨_, _⟩ hp => (mem_ledger.mp hp).2.1

/-- x.name = v over any heap: L is any namespace of the heap (the frame's, say): its map stays, its object is not told; all else but the dict stays -/
theorem set_field {x C dx L : Addr} {ox : Obj} {m : Str → Option Value} {es es' : List DictEntry} {n n' : Nat} {name : Str} {v : Value} {Q : Unit → Shared → Prop}
    (X : K.In s.heap) (I : PySem.W.InstAt s.heap x ox C (some (dictOf es n))) (hd : ox.dict = some dx) (hL : s.heap.Ns L m) (hne : dx ≠ L)
    (hs : findIn K (.ref C) "__setattr__" = some (some (.builtin "object.__setattr__"))) (hp : plainOver K C = true) (ht : takerIn K C name = some none) (hh : hasDictIn K C = true) (hl : (getL name es).isSome = true)
    (e : (putL name (PyData.keyHash w.params name) (.str name (s.toks + 1)) v es, putN name es n) = (es', n')) (hz : es'.length ≤ 1000)
    (h : ∀ h' : Heap, h'.Ns L m → h'.get? dx = some (dictOf es' n') → (∀ b o, b ≠ dx → b ≠ L → s.heap.get? b = some o → h'.get? b = some o) → Q () { s with heap := h', toks := s.toks + 2 }) :
    wpAny (model prog w) A (setAttr (.ref x) name v) Q E s := by
  obtain ⟨e1, e2⟩ := Prod.mk.inj e
  have hdx : s.heap.get? dx = some (dictOf es n) := by
    have := I.dict
    rw [hd] at this
    exact this
  refine set_plain X I hs (osa_dict (s := { s with toks := s.toks + 1 }) (h₀ := noObjs s.heap) (L := L) (m := m) (od := dictOf es n) (od' := dictOf es' n') (es := es') (n := n') (pre := []) (post := ledger s.heap L dx)
    (fr_all hL) (news_ledger hne hdx) X I hd hp ht hh hl (fun _ q => nomatch q) (fun ⟨_, _⟩ q => (mem_ledger.mp q).2.1) (by rw [putName_dict, e1, e2]) rfl hz fun h' F' N' => ?_)
  exact h h' F'.ns (N'.get (List.Mem.head _)) fun b o n1 n2 ho => N'.get (List.Mem.tail _ (mem_ledger.mpr ⟨n2, n1, ho⟩))
end
end Att

namespace L2
open PySem PySem.Spec PyProof.Rows

theorem vals_ints : ∀ {vs : List Value} {ns : List Int}, IntsAre vs ns → Vals (ns.map V.int) vs
  | _, _, .nil => .nil
  | _, _, .cons n t h => .cons ⟨t, rfl⟩ (vals_ints h)

/-- nothing is tracked but the script, known to the object (or it is an object of the module) -/
def Only (H : Hp) : Prop := ∀ b, H b = none ∨ ∃ o xs, H b = some (.frz o (.lst xs))

/-- THE HEAD: the law's promise, at the heap behind the top. F, the promise of the law's def, may use that base is part of the heap (so K.In base, base.Ns mainGlobals mg stand in Mod) -/
theorem law_call {P : Program} {w : World} {K : PySem.W.Frag} {mg mb : Str → Option Value} {CX : CXT} {k : Nat} {fa a : Addr} {fd : FuncData} {x : Str} {sp : Sp} {s₁ : Shared} {vs : List Value} {ns : List Int}
    (KX : K.In s₁.heap) (hns : s₁.heap.Ns mainGlobals mg) (hb : s₁.heap.Ns builtinsNs mb) (hbb : ∀ x : Str, x ≠ "__name__" → mb x = bootBuiltins x) (hlim : s₁.heap.NoLimit) (hg : s₁.gens = #[])
    (ha : s₁.heap.get? a = some { cls := .type "list", data := .seq vs.toArray }) (hi : IntsAre vs ns) (hl : ns.length ≤ sizeLine) (hr : Room k callerA)
    (F : ∀ base : Heap, K.In base → base.Ns mainGlobals mg → FnOk P w K mg base CX k fa fd [x] sp) (hbind : ∀ (s : Shared) (u : Value), BindsTo s fd ⟨[u], []⟩ [(x, u)])
    (hsp : ∀ H : Hp, Only H → SqL K H a (ns.map V.int) → sp [.ref a] H (fun v _ => v = .bl true) fun _ _ _ => False)
    (hCX : ∀ H e s', CX [] H s₁ (fun _ _ _ => False) e s' → False) :
    codeAny (model P w) callerA (.call (.ref fa) ⟨[.ref a], []⟩) (fun r s' => r = .ok (.ret (.bool true)) ∧ OldK s₁.heap s'.heap ∧ s'.os = s₁.os ∧ AllBare s'.gens) s₁ := by
  have rv := vals_ints hi
  have lenV := hi.length
  -- from an abstract heap in which nothing but the script may be tracked
  have core : ∀ H : Hp, Only H → SqL K H a (ns.map V.int) → HOk P w H s₁.heap → (∀ b, H b ≠ none → b = a) → (H a ≠ none → K.lookup a = none) →
      codeAny (model P w) callerA (.call (.ref fa) ⟨[.ref a], []⟩) (fun r s' => r = .ok (.ret (.bool true)) ∧ OldK s₁.heap s'.heap ∧ s'.os = s₁.os ∧ AllBare s'.gens) s₁ := by
    intro H hO hS hok hA hK
    have base_of : ∀ {b : Addr} {o : Obj}, s₁.heap.get? b = some o → H b = none → (hidT s₁.heap H).get? b = some o := fun e n => hidT_get e n
    have noA : ∀ {b : Addr} {o : Obj} {es : Array DictEntry} {ep : Nat}, s₁.heap.get? b = some o → o.data = .dict es ep → H b = none := fun {b o es ep} e d => by
      cases q : H b with
      | none => rfl
      | some u =>
        have e' : b = a := hA b (by rw [q]; simp)
        subst e'
        rw [ha] at e; cases e
        have d' : Data.seq vs.toArray _ = Data.dict es ep := d
        cases d'
    have nsK : ∀ {b : Addr} {m : Str → Option Value}, s₁.heap.Ns b m → (hidT s₁.heap H).Ns b m := fun {b m} ⟨o, es, ep, e, d, r⟩ => ⟨o, es, ep, base_of e (noA e d), d, r⟩
    have hKb : K.In (hidT s₁.heap H) := fun b o e => base_of (KX b o e) (by
      cases q : H b with
      | none => rfl
      | some u =>
        have e' : b = a := hA b (by rw [q]; simp)
        subst e'
        rw [hK (by rw [q]; simp)] at e; cases e)
    have hM : Mod K mg (hidT s₁.heap H) := ⟨hKb, nsK hns, ⟨mb, nsK hb, hbb⟩, let ⟨mc, h1, h2⟩ := hlim; ⟨mc, nsK h1, h2⟩⟩
    have e0 : Env0 P w K mg (hidT s₁.heap H) callerA [] s₁ H := ⟨rfl, hM, fun b o e => of_hidT e, Nat.le_of_eq (hidT_size _ _), trivial, fun b hb => absurd (show b ∈ ([] : List Addr) from hb) (by simp), hok, .of_eq hg⟩
    refine codeAny_mono ((F _ hKb (nsK hns)).run callerA [] s₁ H ⟨[.ref a], []⟩ [.ref a] [.ref a] _ _ hr e0 (hbind s₁ (.ref a)) (.cons rfl .nil) (hsp H hO hS)) fun r s' h => ?_
    cases r with
    | error e => exact (hCX H e s' h).elim
    | ok fl =>
      cases fl with
      | next => exact False.elim h
      | brk => exact False.elim h
      | cont => exact False.elim h
      | ret u =>
        obtain ⟨v, H', os, bare, un, hok', r', q⟩ := h
        have q' : v = .bl true := q
        subst q'
        obtain rfl : u = Value.bool true := r'
        refine ⟨rfl, OldK.of_keep fun b o e => ?_, os, bare⟩
        cases q : H b with
        | none => exact un.keep b o e q (by intro z; exact absurd (show b ∈ ([] : List Addr) from z) (by simp)) (by simp)
        | some u =>
          rcases hO b with z | ⟨ob, xs, z⟩
          · rw [q] at z; cases z
          · have z2 := un.frzs b ob _ z
            obtain ⟨e1, _⟩ := hok b _ z
            obtain ⟨e2, _⟩ := hok' b _ z2
            rw [e] at e1; cases e1
            exact e2
  cases hk : K.lookup a with
  | some o =>
    -- the script is one of the module's own objects
    have e := KX a o hk
    rw [ha] at e
    cases e
    refine core (fun _ => none) (fun _ => .inl rfl) (.inr ⟨_, vs.toArray, _, hk, rfl, rfl, rfl, by rw [List.size_toArray, lenV]; exact hl, by simpa using rv⟩) (fun b u z => by have z' : (none : Option HO) = some u := z; cases z') (fun b z => absurd rfl z) fun z => absurd rfl z
  | none =>
    refine core (fun b => if b = a then some (.frz { cls := .type "list", data := .seq vs.toArray } (.lst (ns.map V.int))) else none) (fun b => ?_) (.inl (.inr ⟨{ cls := .type "list", data := .seq vs.toArray }, if_pos rfl⟩)) (fun b u z => ?_) (fun b z => ?_) fun _ => hk
    · by_cases hb : b = a
      · exact .inr ⟨_, _, if_pos hb⟩
      · exact .inl (if_neg hb)
    · by_cases hb : b = a
      · have z' := (if_pos hb).symm.trans z
        cases z'
        subst hb
        exact ⟨ha, by rw [List.length_map]; exact hl, vs, _, rv, ha⟩
      · have z' := (if_neg hb).symm.trans z
        cases z'
    · by_cases hb : b = a
      · exact hb
      · exact absurd (if_neg hb) z
end L2

namespace L2
open PySem PySem.Spec PyProof.Rows

abbrev KOf {K : PySem.W.Frag} {h : Heap} (_ : K.In h) : PySem.W.Frag := K

/-- the goal that k_head leaves (case hc), from the law's promise. F gives the function object fd (K's own) once, then the promise over every base -/
theorem walk_of {l : PySem.W.OpenLaw} {n k : Nat} {q : Program} {loose : List Str} {XP : (Str → Option Value) → Heap → Prop} {YP : World → Heap → Prop} {d : DefRec} {K : Params → PySem.W.Frag} {CX : World → CXT} {sp : World → Sp} {x : Str}
    (hn : l.most = some n) (hn2 : n ≤ sizeLine) (hdf : d.params.defaults = []) (hr : Room k callerA)
    (hY : ∀ (w : World) (h : Heap), YP w h → (K w.params).In h)
    (F : ∀ (w : World) (mg : Str → Option Value) (fa : Addr) (h : Heap), (K w.params).In h → h.Ns mainGlobals mg → mg d.name = some (.ref fa) →
      ∃ fd : FuncData, (∀ (s : Shared) (u : Value), BindsTo s fd ⟨[u], []⟩ [(x, u)]) ∧
        ∀ base : Heap, (K w.params).In base → base.Ns mainGlobals mg → FnOk l.prog w (K w.params) mg base (CX w) k fa fd [x] (sp w))
    (hsp : ∀ (w : World) (H : Hp) (a : Addr) (ns : List Int), ns.length ≤ n → Only H → SqL (K w.params) H a (ns.map V.int) → sp w [.ref a] H (fun v _ => v = .bl true) fun _ _ _ => False)
    (hCX : ∀ (w : World) (H : Hp) (s : Shared) (e : Value) (s' : Shared), CX w [] H s (fun _ _ _ => False) e s' → False) :
    PySem.W.WalkO q loose XP YP l.row.toRowW d [] (fun f vs => PySem.call f vs) := by
  refine Att.attach_call hn hdf fun w s₀ s₁ mg mb fa o pm cd doc a vs ns G Y ho hd hcd hmg hobj hints hlen hg => ?_
  have KX := hY w _ Y
  obtain ⟨fd, hb, hF⟩ := F w mg fa _ KX G.T.g hmg
  exact law_call KX G.T.g G.T.b G.T.builtins G.T.nolimit hg hobj hints (Nat.le_trans hlen hn2) hr hF hb (fun H hO hS => hsp w H a ns hlen hO hS) fun H e s' => hCX w H s₁ e s'
/-- the same where the promise hangs on the written part alone: (sp := My.sp_law), no hole under a binder -/
theorem walk_ofK {l : PySem.W.OpenLaw} {n k : Nat} {q : Program} {loose : List Str} {XP : (Str → Option Value) → Heap → Prop} {YP : World → Heap → Prop} {d : DefRec} {K : Params → PySem.W.Frag} {CX : CXT} {sp : PySem.W.Frag → Sp} {x : Str}
    (hn : l.most = some n) (hn2 : n ≤ sizeLine) (hdf : d.params.defaults = []) (hr : Room k callerA)
    (hY : ∀ (w : World) (h : Heap), YP w h → (K w.params).In h)
    (F : ∀ (w : World) (mg : Str → Option Value) (fa : Addr) (h : Heap), (K w.params).In h → h.Ns mainGlobals mg → mg d.name = some (.ref fa) →
      ∃ fd : FuncData, (∀ (s : Shared) (u : Value), BindsTo s fd ⟨[u], []⟩ [(x, u)]) ∧
        ∀ base : Heap, (K w.params).In base → base.Ns mainGlobals mg → FnOk l.prog w (K w.params) mg base CX k fa fd [x] (sp (K w.params)))
    (hsp : ∀ (K : PySem.W.Frag) (H : Hp) (a : Addr) (ns : List Int), ns.length ≤ n → Only H → SqL K H a (ns.map V.int) → sp K [.ref a] H (fun v _ => v = .bl true) fun _ _ _ => False)
    (hCX : ∀ (H : Hp) (s : Shared) (e : Value) (s' : Shared), CX [] H s (fun _ _ _ => False) e s' → False) :
    PySem.W.WalkO q loose XP YP l.row.toRowW d [] (fun f vs => PySem.call f vs) :=
  walk_of (K := K) (CX := fun _ => CX) (sp := fun w => sp (K w.params)) hn hn2 hdf hr hY F (fun w H a ns h1 h2 h3 => hsp (K w.params) H a ns h1 h2 h3) fun _ H s e s' => hCX H s e s'
end L2

/- THE LAST THEOREM (shape; LID, My.* are yours):
   My.Adr: a structure of the addresses that your layer names (classes, functions); My.Txt K t: a structure (Prop) of the equations over K;
   My.txt_mk : {K} {implicit addresses ..} (e1 : nsIn K mainGlobals "law" = some (some (.ref f))) (e2 : K.lookup f = some ⟨oc, od, .func (fnOf "law" "law" params body scope dV kV doc pm an cdv ct), sl⟩) (e3 : codeIn K cdv "law" = true) .. : ∃ t, My.Txt K t

set_option maxRecDepth 100000 in
set_option maxHeartbeats 0 in
theorem PySem.Challenge.cw_LID_holds : PySem.Challenge.rw_LID.Holds := by
  w_on; o_law; k_head; (case hw => w_witness2)
  k_fill
  refine L2.walk_of (l := PySem.Challenge.rw_LID) (n := 63) (k := 40) (x := "script") (CX := fun w => ..) (sp := fun _ => My.sp_law) rfl (by decide) rfl ⟨rfl, by decide, by decide⟩ (fun w h Y => PySem.W.kIn_of Y) ?F ?S ?C
  case F =>
    intro w mg fa h KX G hmg
    have T : ∃ t, My.Txt (L2.KOf KX) t := by
      dsimp only [L2.KOf]                          -- K must stand as «<heap const> w.params» for k_is
      refine' My.txt_mk ?e1 ?e2 ?e3 ..
      (case e1 => PySem.W.k_is)                    -- in the order: a name -> its address -> its object -> its parts
      (case e2 => PySem.W.k_is)
      ..
    obtain ⟨t, T⟩ := T
    have e0 := hmg.symm.trans (PySem.W.mg_of KX G T.law)
    cases e0                                       -- fa is the law's own address
    exact ⟨_, fun s u => .of_eq rfl, fun base kb nb => My.law_fn T kb nb⟩     -- if «.of_eq rfl» comes too early: refine' ⟨_, ?b, fun base kb nb => My.law_fn T kb nb⟩; exact fun s u => .of_eq rfl
  case S => exact fun w H a ns hl hO hS => ..
  case C => exact ..
(the tactic k_is has no namespace: write k_is) -/

/-! SHORT WORDS over the layer: a def of the text, its body, what a loop and a test want. -/
namespace L2
open PySem PySem.Spec PyProof.Rows

/-! ### the text by places -/
/-- the j-th statement of a class's body -/
def inClass (s : Stmt) (j : Nat) : Stmt := match s with
  | .ClassDef _ _ _ body _ _ _ _ _ _ _ => body.getD j (.Pass ⟨0, 0, 0, 0⟩)
  | _ => .Pass ⟨0, 0, 0, 0⟩
def defArgs (s : Stmt) : Arguments := match s with
  | .FunctionDef _ a _ _ _ _ _ _ _ _ => a
  | _ => { posonlyargs := [], args := [], vararg := none, kwonlyargs := [], kw_defaults := [], kwarg := none, defaults := [] }
def defBody (s : Stmt) : List Stmt := match s with
  | .FunctionDef _ _ b _ _ _ _ _ _ _ => b
  | _ => []
def defScope (s : Stmt) : Scope := match s with
  | .FunctionDef _ _ _ _ _ _ sc _ _ _ => sc
  | _ => { kind := .function, names := [], isGenerator := false, isCoroutine := false }

/-! ### no exception leaves a def -/
abbrev CX0 : CXT := fun _ _ _ _ _ _ => False
abbrev E0 : XK := fun _ _ _ => False
theorem pass0 {X : Cx} : Passes CX0 X E0 := fun _ _ _ _ _ _ _ h => h.elim

/-! ### a def (or method) of the text as it stands behind the top -/
structure Fun (K : PySem.W.Frag) (x qual : Str) (st : Stmt) (f : Addr) (fd : FuncData) : Prop where
  ex : ∃ (oc : Value) (od : Option Addr) (kV doc pm : Value) (an : Option Addr) (cdv ct : Value) (osl : Array (Option Value)),
    fd = PySem.W.fnOf x qual (defArgs st) (defBody st) (defScope st) .none kV doc pm an cdv ct ∧ K.lookup f = some ⟨oc, od, .func fd, osl⟩ ∧ PySem.W.codeIn K cdv qual = true
  kp : PySem.W.keepIn K (.ref f) = true
section
variable {P : Program} {w : World} {K : PySem.W.Frag} {mg : Str → Option Value} {base : Heap}
/-- THE RULE for a def: its body as a term of rules, and the reading of that term -/
theorem Fun.ok {x qual : Str} {st : Stmt} {f : Addr} {fd : FuncData} {N ps : List Str} {k : Nat} {sp : Sp} (F : Fun K x qual st f fd) (S : FnScope N ps (defScope st)) (len : ∀ vs H Q E, sp vs H Q E → vs.length = ps.length)
    (hbody : ∀ (cdv : Value) (A : Around) (outer : List Env) (s : Shared) (H : Hp) (vs : List V) (Q : VK) (E : XK), Room k (A.deeper (envOfC qual (defScope st) s.heap.objs.size f cdv)) → sp vs H Q E →
      ∃ t, PSs (cxOf CX0 P w K mg base N qual (defScope st) f cdv A outer s H E).nox (defBody st) t ∧ t { nx := fun _ H' => Q .non H', rt := Q } (start N vs) H) : FnOk P w K mg base CX0 (k + 1) f fd ps sp := by
  obtain ⟨oc, od, kV, doc, pm, an, cdv, ct, osl, rfl, lk, hcd⟩ := F.ex
  refine fn_of lk hcd S len fun A outer s H vs Q E hr hsp => ?_
  obtain ⟨t, h, q⟩ := hbody cdv A outer s H vs Q E hr hsp
  exact ⟨t, h.nox, q⟩
/-- how its arguments bind (no defaults): h is «fun _ _ _ _ _ _ us hl => match us, hl with | [_, _], _ => rfl», one _ a parameter -/
theorem Fun.binds {x qual : Str} {st : Stmt} {f : Addr} {fd : FuncData} {ps : List Str} (F : Fun K x qual st f fd)
    (h : ∀ (kV doc pm : Value) (an : Option Addr) (cdv ct : Value) (us : List Value), us.length = ps.length → bindArgs (PySem.W.fnOf x qual (defArgs st) (defBody st) (defScope st) .none kV doc pm an cdv ct) ⟨us, []⟩ = pure (ps.zip us)) : Binds K fd ps [] := by
  obtain ⟨oc, od, kV, doc, pm, an, cdv, ct, osl, rfl, lk, hcd⟩ := F.ex
  exact .all (h kV doc pm an cdv ct)
theorem fun_mk {x qual : Str} {st : Stmt} {f : Addr} {oc : Value} {od an : Option Addr} {osl : Array (Option Value)} {kV doc pm cdv ct : Value} (l : K.lookup f = some ⟨oc, od, .func (PySem.W.fnOf x qual (defArgs st) (defBody st) (defScope st) .none kV doc pm an cdv ct), osl⟩)
    (c : PySem.W.codeIn K cdv qual = true) (k : PySem.W.keepIn K (.ref f) = true) : Fun K x qual st f (PySem.W.fnOf x qual (defArgs st) (defBody st) (defScope st) .none kV doc pm an cdv ct) := ⟨⟨oc, od, kV, doc, pm, an, cdv, ct, osl, rfl, l, c⟩, k⟩
end
theorem hu_of {A : Around} {k : Nat} (hr : Room k A) : A.units + 1 < cLine := Nat.lt_of_le_of_lt (Nat.add_le_add_left (by decide : 1 ≤ 64) _) hr.units
theorem small1000 {n : Nat} (h : n ≤ 1000) : n < sizeLine := Nat.lt_of_le_of_lt h (by decide)

/-! ### expressions in short: the name that stands in the i-th slot -/
section
variable {X : Cx}
theorem pv (i : Nat) {x : Str} {pos : Pos} (hN : X.N[i]? = some x := by rfl) (hv : Vis X.env.scope x := by first | exact Or.inl rfl | exact Or.inr (Or.inl rfl) | exact Or.inr (Or.inr rfl)) (hd : (x == ("__debug__" : Str)) = false := by decide)
    (hcd : (x == ("__classdict__" : Str)) = false := by decide) : PE X (.Name x pos) (tVar i) := pe_var hN hv hd hcd
end

/-! ### tests -/
theorem iteF {A B : Prop} (h : B) : if false = true then A else B := by
  rw [if_neg Bool.false_ne_true]
  exact h
theorem iteT {A B : Prop} (h : A) : if true = true then A else B := by
  rw [if_pos rfl]
  exact h
theorem ite2 {c A B : Prop} [Decidable c] (h1 : c → A) (h2 : ¬ c → B) : if c then A else B := by
  by_cases h : c
  · rw [if_pos h]
    exact h1 h
  · rw [if_neg h]
    exact h2 h
theorem iteNS {c A B : Prop} [Decidable c] (hc : c) (h : B) : if (!decide c) = true then A else B := by
  rw [decide_eq_true hc]
  exact iteF h

/-! ### heaps -/
/-- all that was tracked is as it was -/
def Same (H H' : Hp) : Prop := ∀ b o, H b = some o → H' b = some o
theorem Same.refl (H : Hp) : Same H H := fun _ _ h => h
theorem Same.trans {H H1 H2 : Hp} (a : Same H H1) (b : Same H1 H2) : Same H H2 := fun c o h => b c o (a c o h)
theorem Same.free {H H' : Hp} (e : Same H H') {l : Addr} (h : H' l = Option.none) : H l = Option.none := by
  cases q : H l with
  | none => rfl
  | some o =>
    rw [e l o q] at h
    cases h
theorem Same.seq {K : PySem.W.Frag} {H H' : Hp} {a : Addr} {xs : List V} (e : Same H H') (h : SqL K H a xs) : SqL K H' a xs := by
  rcases h with (h | ⟨o, h⟩) | h
  · exact .inl (.inl (e _ _ h))
  · exact .inl (.inr ⟨o, e _ _ h⟩)
  · exact .inr h

end L2

set_option maxHeartbeats 4000000
/-! Own layer over the hand layer: exceptions (raise, try), calls resolved at reading time, general operations. -/
namespace L2
open PySem PySem.Spec PyProof.Rows

/-! ### an exception in flight -/
abbrev GK := Value → St → Hp → Prop
/-- the object at a is an exception of class cls with a landed traceback entry; neither was there in g; both are untracked and no pin -/
structure Exc (g h : Heap) (H : Hp) (pn : List (Addr × Obj)) (a : Addr) (cls : Value) : Prop where
  ex : ∃ (oe : Obj) (vs : Array Value) (T : Addr) (oT : Obj) (ts : Array Value), h.get? a = some oe ∧ oe.cls = cls ∧ oe.dict = none ∧ oe.data = .fields vs ∧ vs[1]? = some (.ref T) ∧ T ≠ a ∧
    h.get? T = some oT ∧ oT.data = .fields ts ∧ ts[3]? = some .none ∧ g.get? T = none ∧ H T = none ∧ ∀ p ∈ pn, p.1 ≠ T
  ga : g.get? a = none
  Ha : H a = none
  pa : ∀ p ∈ pn, p.1 ≠ a

theorem ObjOk.there {P : Program} {w : World} {H : Hp} {h : Heap} {a : Addr} {o : HO} (x : ObjOk P w H h a o) : ∃ ob, h.get? a = some ob := by
  cases o with
  | lst xs => obtain ⟨_, _, _, _, e⟩ := x; exact ⟨_, e⟩
  | tup xs => obtain ⟨_, _, _, ob, e, _⟩ := x; exact ⟨_, e⟩
  | dK kvs => obtain ⟨_, _, _, _, o, _, _, e, _⟩ := x; exact ⟨_, e⟩
  | dT kvs => obtain ⟨_, _, _, _, o, _, _, e, _⟩ := x; exact ⟨_, e⟩
  | set S n => obtain ⟨o, _, _, _, e, _⟩ := x; exact ⟨_, e⟩
  | ins C dx fs => obtain ⟨_, _, _, e, _⟩ := x; exact ⟨_, e⟩
  | own y => obtain ⟨_, e⟩ := x; exact ⟨_, e⟩
  | xd fs => obtain ⟨_, ⟨_, _, _, e, _⟩, _⟩ := x; exact ⟨_, e⟩
  | rng lo hi => obtain ⟨_, _, _, e⟩ := x; exact ⟨_, e⟩
  | frz ob u => obtain ⟨e, _⟩ := x; exact ⟨_, e⟩
  | tbl ps => exact ⟨_, (show h.get? a = some _ from x)⟩
  | met f y => exact ⟨_, (show h.get? a = some _ from x)⟩
  | ext φ => obtain ⟨_, ⟨_, e⟩, _⟩ := x; exact ⟨_, e⟩

section
variable {M : Model} {A : Around} {E : Value → Shared → Prop} {s : Shared}
/-- a new traceback entry is laid and landed -/
theorem entry_raw {base : Heap} {env : Env} {outer : List Env} {L e : Addr} {oe : Obj} {vs : Array Value} {head : Value} {hadNext : Bool} {Q : Unit → Shared → Prop}
    (hfr : A.frames = some (env :: outer)) (hl : s.heap.FunFrames base (env :: outer)) (hf : env.frame = some L) (he : s.heap.get? e = some oe) (hd : oe.data = .fields vs) (hsz : 1 < vs.size)
    (h : ∀ h' T, (∀ b o, b ∉ (env :: outer).filterMap (·.frame) → b ≠ e → s.heap.get? b = some o → h'.get? b = some o) → (∀ b o, b ≠ e → s.heap.get? b = some o → ∃ sl, h'.get? b = some { o with slots := sl }) →
      s.heap.get? T = none → T ≠ e → h'.get? e = some (oe.mapFields (·.setIfInBounds 1 (.ref T))) → (∃ oT ts, h'.get? T = some oT ∧ oT.data = .fields ts ∧ ts[3]? = some .none) → Q () { s with heap := h' }) :
    wpAny M A (do let a ← frameOf env; let pl ← entryPlaceOf L hadNext; let b ← EntryCells.newEntry head a .none (rawInt L) .none pl; setField (.ref e) 1 b) (fun _ s' => wpAny M A (setFlight (.ref e) none) Q E s') E s := by
  have hene : e ∉ (env :: outer).filterMap (·.frame) := fun hm => by
    obtain ⟨_, o, ho, hnf⟩ := hl.mem hm
    rw [he] at ho; injection ho with ho; subst ho; exact hnf vs hd
  refine wpAny_bind (wpAny_frameOf_fun hfr hl hf fun h₁ hs₁ => ?_)
  refine wpAny_bind (wpAny_entryPlaceOf fun pl hpl => ?_)
  unfold EntryCells.newEntry newFields
  refine wpAny_bind (wpAny_newObj_type ?_ (hpl.sizeOk5 _ _ _ _ _))
  have he₁ : h₁.get? e = some oe := (hs₁.2.1 e hene).trans he
  have he₂ := Heap.get?_push_of_some (h := h₁) { cls := .type "traceback", dict := none, data := .fields ([head, .ref L, .none, rawInt L, .none] ++ (if pl.isEmpty then List.replicate 6 Value.none else pl)).toArray } he₁
  refine wpAny_setField he₂ hd hsz ?_
  have hTe : h₁.objs.size ≠ e := Nat.ne_of_gt (Heap.lt_size he₁)
  have hd₃ := Obj.data_mapFields hd (·.setIfInBounds 1 (Value.ref h₁.objs.size))
  have he₃ := Heap.get?_update_self (Obj.mapFields (·.setIfInBounds 1 (Value.ref h₁.objs.size))) he₂ (Obj.isFreed_of_fields hd₃)
  have hT₃ := (Heap.get?_update_other (h₁.push { cls := .type "traceback", dict := none, data := .fields ([head, .ref L, .none, rawInt L, .none] ++ (if pl.isEmpty then List.replicate 6 Value.none else pl)).toArray })
    (Obj.mapFields (·.setIfInBounds 1 (Value.ref h₁.objs.size))) (Ne.symm hTe)).trans (Heap.get?_push_size h₁ rfl)
  unfold setFlight
  refine wpAny_bind (wpAny_field he₃ hd₃ (x := .ref h₁.objs.size) (by simp [hsz]) ?_)
  rw [if_pos (show (Value.ref h₁.objs.size != Value.none) = true from by simp)]
  refine wpAny_setField hT₃ rfl (by simp only [List.size_toArray, List.length_append, List.length_cons, List.length_nil] <;> omega) ?_
  have keep : ∀ b o, b ≠ e → h₁.get? b = some o →
      (((h₁.push { cls := .type "traceback", dict := none, data := .fields ([head, .ref L, .none, rawInt L, .none] ++ (if pl.isEmpty then List.replicate 6 Value.none else pl)).toArray }).update e (Obj.mapFields (·.setIfInBounds 1 (Value.ref h₁.objs.size)))).update h₁.objs.size
        (Obj.mapFields (·.setIfInBounds 3 ((none : Option Addr).elim Value.none fun f => rawInt f)))).get? b = some o := fun b o hbe hb => by
    have hbT : h₁.objs.size ≠ b := Nat.ne_of_gt (Heap.lt_size hb)
    rw [Heap.get?_update_other _ _ hbT, Heap.get?_update_other _ _ (Ne.symm hbe)]
    exact Heap.get?_push_of_some _ hb
  refine h _ h₁.objs.size (fun b o hb hbe q => keep b o hbe ((hs₁.2.1 b hb).trans q)) (fun b o hbe q => ?_) (Heap.get?_none_of_le (by rw [hs₁.1]; exact Nat.le_refl _)) hTe ?_ ?_
  · obtain ⟨sl, hs⟩ := hs₁.2.2 b o q
    exact ⟨sl, keep b _ hbe hs⟩
  · rw [Heap.get?_update_other _ _ hTe]; exact he₃
  · exact ⟨_, _, Heap.get?_update_self _ hT₃ (Obj.isFreed_of_fields (Obj.data_mapFields rfl _)), Obj.data_mapFields rfl _, by first | (simp; done) | (rcases hpl with rfl | ⟨_, _, _, _, _, _, _, rfl⟩ <;> simp)⟩

/-- the exception at e leaves the frame: e has no entry yet, or its entry T has landed -/
theorem leave_raw {base : Heap} {env : Env} {outer : List Env} {L e : Addr} {oe : Obj} {vs : Array Value} {ch : List Addr} {Q : Unit → Shared → Prop}
    (hfr : A.frames = some (env :: outer)) (hl : s.heap.FunFrames base (env :: outer)) (hf : env.frame = some L) (he : s.heap.get? e = some oe) (hd : oe.data = .fields vs)
    (h1 : (vs[1]? = some .none ∧ ch = [e]) ∨ ∃ T oT ts, vs[1]? = some (.ref T) ∧ T ≠ e ∧ s.heap.get? T = some oT ∧ oT.data = .fields ts ∧ ts[3]? = some .none ∧ ch = [e, T])
    (h : ∀ h' T, (∀ b o, b ∉ (env :: outer).filterMap (·.frame) → b ∉ ch → s.heap.get? b = some o → h'.get? b = some o) → (∀ b o, b ∉ ch → s.heap.get? b = some o → ∃ sl, h'.get? b = some { o with slots := sl }) →
      (∀ b ∈ ch, ∃ o, h'.get? b = some o) → s.heap.get? T = none → T ≠ e → h'.get? e = some (oe.mapFields (·.setIfInBounds 1 (.ref T))) → (∃ oT ts, h'.get? T = some oT ∧ oT.data = .fields ts ∧ ts[3]? = some .none) → Q () { s with heap := h' }) :
    wpAny M A (noteFrame (.ref e) env) (fun _ s' => wpAny M A (setFlight (.ref e) none) Q E s') E s := by
  rcases h1 with ⟨h1, rfl⟩ | ⟨T, oT, ts, h1, hTe, hT, hdT, h3, rfl⟩
  · unfold noteFrame
    simp only [hf]
    refine wpAny_bind (wpAny_field he hd h1 ?_)
    rw [if_neg (by decide)]
    refine entry_raw hfr hl hf he hd (Array.getElem?_eq_some_iff.mp h1).1 fun h' T k1 k2 k3 k4 k5 k6 => ?_
    refine h h' T (fun b o hb hc q => k1 b o hb (fun z => hc (by simp [z])) q) (fun b o hc q => k2 b o (fun z => hc (by simp [z])) q) (fun b hb => ?_) k3 k4 k5 k6
    obtain rfl : b = e := by simpa using hb
    exact ⟨_, k5⟩
  · unfold noteFrame
    simp only [hf]
    refine wpAny_bind (wpAny_field he hd h1 ?_)
    rw [if_pos (show (Value.ref T != Value.none) = true from by simp)]
    refine wpAny_bind (wpAny_field hT hdT h3 ?_)
    rw [if_neg (show ¬ ((Value.none == rawInt L) = true) from by simp [rawInt])]
    refine wpAny_bind (wpAny_setField hT hdT (Array.getElem?_eq_some_iff.mp h3).1 ?_)
    have other : ∀ b, b ≠ T → (s.heap.update T (Obj.mapFields (·.setIfInBounds 3 Value.none))).get? b = s.heap.get? b := fun b hb => Heap.get?_update_other _ _ (Ne.symm hb)
    have noRecord : ∀ b o, s.heap.get? b = some o → (∀ vs, o.data ≠ .fields vs) → b ≠ T := fun b o hb hnf q => by
      rw [q, hT] at hb; injection hb with hb; subst hb; exact hnf ts hdT
    have hT' := Heap.get?_update_self (Obj.mapFields (·.setIfInBounds 3 Value.none)) hT (Obj.isFreed_of_fields (Obj.data_mapFields hdT _))
    refine entry_raw hfr (hl.of_keeps fun b o hb hnf => ⟨o, (other b (noRecord b o hb hnf)).trans hb, rfl⟩) hf ((other e (Ne.symm hTe)).trans he) hd (Array.getElem?_eq_some_iff.mp h1).1 fun h' T' k1 k2 k3 k4 k5 k6 => ?_
    have hTT : T' ≠ T := fun z => by rw [z, hT'] at k3; cases k3
    refine h h' T' (fun b o hb hc q => k1 b o hb (fun z => hc (by simp [z])) ((other b (fun z => hc (by simp [z]))).trans q)) (fun b o hc q => k2 b o (fun z => hc (by simp [z])) ((other b (fun z => hc (by simp [z]))).trans q)) (fun b hb => ?_) ((other T' hTT).symm.trans k3) k4 k5 k6
    rcases List.mem_cons.mp hb with rfl | hb
    · exact ⟨_, k5⟩
    · obtain rfl : b = T := by simpa using hb
      obtain ⟨sl, q⟩ := k2 b _ hTe hT'
      exact ⟨_, q⟩
end

section
variable {X : Cx} {pins : List (Addr × Obj)} {σ : List (Option V)} {H : Hp} {s : Shared} {h' : Heap}
/-- records at ch, none of which was there at the entry, have changed; the frames up to slots -/
theorem Inv.stepx {ch : List Addr} (I : Inv X pins σ H s)
    (hch : ∀ b ∈ ch, X.s₀.heap.get? b = none ∧ H b = none ∧ ∀ p ∈ X.pn ++ pins, p.1 ≠ b) (hrec : ∀ b ∈ ch, ∃ o vs, s.heap.get? b = some o ∧ o.data = .fields vs)
    (keep : ∀ b o, b ∉ frs X.stack → b ∉ ch → s.heap.get? b = some o → h'.get? b = some o)
    (slot : ∀ b o, b ∉ ch → s.heap.get? b = some o → ∃ sl, h'.get? b = some { o with slots := sl }) (there : ∀ b ∈ ch, ∃ o, h'.get? b = some o) : Inv X pins σ H { s with heap := h' } := by
  have neL : ∀ b ∈ ch, b ≠ X.env.locals := fun b hb z => by
    obtain ⟨o, vs, ho, hd⟩ := hrec b hb
    obtain ⟨m, ⟨o', es, ep, ho', hd', _⟩, _⟩ := I.loc
    rw [z, ho'] at ho; cases ho; rw [hd'] at hd; cases hd
  have neC : ∀ b ∈ ch, ∀ x c, X.env.cells.lookup x = some c → c ≠ b := fun b hb x c e z => by
    obtain ⟨o, vs, ho, hd⟩ := hrec b hb
    obtain ⟨v, o', ho', hd'⟩ := I.cell x c e
    rw [z, ho] at ho'; cases ho'; rw [hd] at hd'; cases hd'
  have nch : ∀ b o, X.s₀.heap.get? b = some o → b ∉ ch := fun b o e hb => by rw [(hch b hb).1] at e; cases e
  have trk : ∀ b u, H b = some u → b ∉ ch ∧ b ∉ frs X.stack := fun b u e => ⟨(fun hb => by rw [(hch b hb).2.1] at e; cases e), (fun hb => by rw [I.stkFree b hb] at e; cases e)⟩
  have nfs : ∀ b, b ∉ X.fs → b ≠ X.env.locals → b ∉ frs X.stack := fun b h1 h2 z => (List.mem_cons.mp (I.stkSub b z)).elim h2 h1
  have ltL : ∀ b o, X.s₀.heap.get? b = some o → b ≠ X.env.locals := fun b o e => Nat.ne_of_lt (Nat.lt_of_lt_of_le (Heap.lt_size e) I.ok.above)
  have cellK : ∀ x c, X.env.cells.lookup x = some c → ∀ v, s.heap.IsCell c v → h'.IsCell c v := fun x c e v ⟨o, ho, hd⟩ => by
    obtain ⟨sl, q⟩ := slot c o (fun z => neC c z x c e rfl) ho
    exact ⟨_, q, hd⟩
  have hok : HOk X.prog X.w H h' := fun b u e => (I.hok b u e).stay (fun c v hc q => by
    have hcH : ∃ u', H c = some u' := by
      rcases hc with rfl | z
      · exact ⟨_, e⟩
      · exact ⟨_, z⟩
    obtain ⟨u', hu⟩ := hcH
    exact keep c v (trk c u' hu).2 (trk c u' hu).1 q) (fun _ q => q) fun _ _ q => q
  refine ⟨I.ok, I.os, I.bare, ⟨fun b o e n hb hx => ?_, fun b o e n hb hx => ?_, I.base.free, fun b o e hx => ?_, I.base.tups, I.base.frzs, I.base.tbls⟩, ?_, fun x c e => ?_, I.free, I.freeC, fun p hp => ?_, hok, I.len⟩
  · exact keep b o (nfs b hb (ltL b o e)) (nch b o e) (I.base.keep b o e n hb hx)
  · obtain ⟨sl, e1⟩ := I.base.slot b o e n hb hx
    obtain ⟨sl', e2⟩ := slot b _ (nch b o e) e1
    exact ⟨sl', e2⟩
  · obtain ⟨o', e1⟩ := I.base.there b o e hx
    obtain ⟨sl', e2⟩ := slot b _ (nch b o e) e1
    exact ⟨_, e2⟩
  · obtain ⟨m, ⟨o, es, ep, ho, r⟩, hl⟩ := I.loc
    obtain ⟨sl, q⟩ := slot _ o (fun z => neL _ z rfl) ho
    refine ⟨m, ⟨_, es, ep, q, r⟩, fun i x v e1 e2 e3 => ?_⟩
    obtain ⟨u, r', l⟩ := hl i x v e1 e2 e3
    refine ⟨u, r', ?_⟩
    rcases l with l | ⟨k, c, e, z⟩
    · exact .inl l
    · exact .inr ⟨k, c, e, cellK x c e _ z⟩
  · obtain ⟨v, z⟩ := I.cell x c e
    exact ⟨v, cellK x c e v z⟩
  · obtain ⟨e, n, ne, nf, d⟩ := I.pin p hp
    exact ⟨keep p.1 p.2 (nfs _ nf ne) (fun z => (hch p.1 z).2.2 p hp rfl) e, n, ne, nf, d⟩

/-- the exception at a leaves the frame of X -/
theorem leave_inv {a : Addr} {oe : Obj} {vs : Array Value} {E : Value → Shared → Prop} {Q : Unit → Shared → Prop} (I : Inv X pins σ H s) (hst : X.stack = X.env :: X.outer) (hfr : X.env.frame = some X.env.locals) (hex : X.ex = [])
    (he : s.heap.get? a = some oe) (hdict : oe.dict = none) (hd : oe.data = .fields vs) (ga : X.s₀.heap.get? a = none) (Ha : H a = none) (hpa : ∀ p ∈ X.pn ++ pins, p.1 ≠ a)
    (h1 : vs[1]? = some .none ∨ ∃ T oT ts, vs[1]? = some (.ref T) ∧ T ≠ a ∧ s.heap.get? T = some oT ∧ oT.data = .fields ts ∧ ts[3]? = some .none ∧ X.s₀.heap.get? T = none ∧ H T = none ∧ ∀ p ∈ X.pn ++ pins, p.1 ≠ T)
    (hQ : ∀ s', Inv X pins σ H s' → Exc X.s₀.heap s'.heap H (X.pn ++ pins) a oe.cls → Q () s') :
    wpAny (model X.prog X.w) X.A (noteFrame (.ref a) X.env) (fun _ s' => wpAny (model X.prog X.w) X.A (setFlight (.ref a) none) Q E s') E s := by
  have hfs := I.ok.frames
  have hFF := I.stack
  rw [hst] at hfs hFF
  have hS : frs X.stack = (X.env :: X.outer).filterMap (·.frame) := by rw [hst]; rfl
  have fin : ∀ (ch : List Addr), (∀ b ∈ ch, X.s₀.heap.get? b = none ∧ H b = none ∧ ∀ p ∈ X.pn ++ pins, p.1 ≠ b) → (∀ b ∈ ch, ∃ o vs, s.heap.get? b = some o ∧ o.data = .fields vs) → a ∈ ch →
      ∀ h' T, (∀ b o, b ∉ (X.env :: X.outer).filterMap (·.frame) → b ∉ ch → s.heap.get? b = some o → h'.get? b = some o) → (∀ b o, b ∉ ch → s.heap.get? b = some o → ∃ sl, h'.get? b = some { o with slots := sl }) →
      (∀ b ∈ ch, ∃ o, h'.get? b = some o) → s.heap.get? T = none → T ≠ a → h'.get? a = some (oe.mapFields (·.setIfInBounds 1 (.ref T))) → (∃ oT ts, h'.get? T = some oT ∧ oT.data = .fields ts ∧ ts[3]? = some .none) → Q () { s with heap := h' } := by
    intro ch hch hrec ha h' T k1 k2 k3 k4 k5 k6 k7
    have I' := I.stepx (h' := h') hch hrec (fun b o hb hc q => k1 b o (by rw [← hS]; exact hb) hc q) k2 k3
    refine hQ _ I' ⟨?_, ga, Ha, hpa⟩
    obtain ⟨oT, ts, q1, q2, q3⟩ := k7
    have hsz : 1 < vs.size := by
      rcases h1 with z | ⟨_, _, _, z, _⟩ <;> exact (Array.getElem?_eq_some_iff.mp z).1
    refine ⟨_, _, T, oT, ts, k6, Obj.cls_mapFields _ _, by obtain ⟨c, d, dt, sl⟩ := oe; cases dt <;> exact hdict, Obj.data_mapFields hd _, by simp [hsz], k5, q1, q2, q3, ?_, ?_, fun p hp z => ?_⟩
    · cases e : X.s₀.heap.get? T with
      | none => rfl
      | some o =>
        obtain ⟨o', e'⟩ := I.base.there T o e (by rw [hex]; simp)
        rw [k4] at e'; cases e'
    · cases e : H T with
      | none => rfl
      | some u =>
        obtain ⟨o', e'⟩ := (I.hok T u e).there
        rw [k4] at e'; cases e'
    · have := (I.pin p hp).1
      rw [z, k4] at this; cases this
  rcases h1 with h1 | ⟨T, oT, ts, h1, hTa, hT, hdT, h3, gT, HT, pT⟩
  · refine leave_raw (ch := [a]) hfs hFF hfr he hd (.inl ⟨h1, rfl⟩) (fin [a] (fun b hb => ?_) (fun b hb => ?_) (by simp))
    · obtain rfl : b = a := by simpa using hb
      exact ⟨ga, Ha, hpa⟩
    · obtain rfl : b = a := by simpa using hb
      exact ⟨oe, vs, he, hd⟩
  · refine leave_raw (ch := [a, T]) hfs hFF hfr he hd (.inr ⟨T, oT, ts, h1, hTa, hT, hdT, h3, rfl⟩) (fin [a, T] (fun b hb => ?_) (fun b hb => ?_) (by simp))
    · rcases List.mem_cons.mp hb with rfl | hb
      · exact ⟨ga, Ha, hpa⟩
      · obtain rfl : b = T := by simpa using hb
        exact ⟨gT, HT, pT⟩
    · rcases List.mem_cons.mp hb with rfl | hb
      · exact ⟨oe, vs, he, hd⟩
      · obtain rfl : b = T := by simpa using hb
        exact ⟨oT, ts, hT, hdT⟩
end

/-! ### the context whose exceptions come to G -/
def JG (X : Cx) (G : GK) (e : Value) (s : Shared) : Prop := ∃ a cls σ H, e = Value.ref a ∧ Inv X [] σ H s ∧ Exc X.s₀.heap s.heap H X.pn a cls ∧ G cls σ H
def xeG (X : Cx) (G : GK) (e : Value) (s : Shared) : Prop := wpAny (model X.prog X.w) X.A (noteFrame e X.env) (fun _ s' => wpAny (model X.prog X.w) X.A (setFlight e none) (fun _ s'' => JG X G e s'') (fun _ _ => False) s') (fun _ _ => False) s
abbrev Cx.exg (X : Cx) (G : GK) : Cx := X.wish (xeG X G)
/-- a plain body: a def's -/
structure Bod (X : Cx) : Prop where
  st : X.stack = X.env :: X.outer
  fr : X.env.frame = some X.env.locals
  ex : X.ex = []
theorem passG {X : Cx} {G : GK} : PassesOwn (model X.prog X.w) X.A X.env (xeG X G) := PassesOwn.looking
theorem Inv.nopins {X : Cx} {pins : List (Addr × Obj)} {σ : St} {H : Hp} {s : Shared} (I : Inv X pins σ H s) : Inv X [] σ H s := I.pins_of fun p hp => absurd hp (by simp)
theorem Exc.less {g h : Heap} {H : Hp} {pn pn' : List (Addr × Obj)} {a : Addr} {cls : Value} (x : Exc g h H pn a cls) (hp : ∀ p ∈ pn', p ∈ pn) : Exc g h H pn' a cls := by
  obtain ⟨⟨oe, vs, T, oT, ts, h1, h2, h3, h4, h5, h6, h7, h8, h9, h10, h11, h12⟩, ga, Ha, pa⟩ := x
  exact ⟨⟨oe, vs, T, oT, ts, h1, h2, h3, h4, h5, h6, h7, h8, h9, h10, h11, fun p q => h12 p (hp p q)⟩, ga, Ha, fun p q => pa p (hp p q)⟩

/-- how an exception lies behind a call -/
def CXr (P : Program) (w : World) : CXT := fun outer H s E e s' => ∃ a cls H', e = Value.ref a ∧ s'.os = s.os ∧ AllBare s'.gens ∧ Un (frs outer) [] H H' s.heap s'.heap ∧ HOk P w H' s'.heap ∧
  Exc s.heap s'.heap H' [] a cls ∧ E cls none H'
section
variable {X : Cx} {pins : List (Addr × Obj)} {σ : St} {H : Hp} {s : Shared} {G : GK}
/-- an exception of a callee -/
theorem xeG_of_call {e : Value} {s' : Shared} (B : Bod X) (I : Inv X pins σ H s) (h : CXr X.prog X.w X.stack H s (fun cls _ H' => G cls σ H') e s') : xeG X G e s' := by
  obtain ⟨a, cls, H', rfl, os, bare, un, hok, ⟨⟨oe, vs, T, oT, ts, h1, h2, h3, h4, h5, h6, h7, h8, h9, h10, h11, _⟩, ga, Ha, _⟩, hG⟩ := h
  have I' : Inv X pins σ H' s' := I.call' os un hok bare (fun b z => absurd z (by simp))
  have old : ∀ b, s.heap.get? b = none → X.s₀.heap.get? b = none := fun b hb => by
    cases e : X.s₀.heap.get? b with
    | none => rfl
    | some o =>
      obtain ⟨o', e'⟩ := I.base.there b o e (by rw [B.ex]; simp)
      rw [hb] at e'; cases e'
  have pin : ∀ b, s.heap.get? b = none → ∀ p ∈ X.pn ++ pins, p.1 ≠ b := fun b hb p hp z => by
    have := (I.pin p hp).1
    rw [z, hb] at this; cases this
  refine leave_inv I' B.st B.fr B.ex h1 h3 h4 (old a ga) Ha (pin a ga) (.inr ⟨T, oT, ts, h5, h6, h7, h8, h9, old T h10, h11, pin T h10⟩) fun s'' I2 x => ?_
  exact ⟨a, oe.cls, σ, H', rfl, I2.nopins, x.less fun p hp => List.mem_append_left _ hp, h2 ▸ hG⟩
/-- a new exception -/
theorem xeG_of_new {a : Addr} {cls : Value} {args : List Value} {h' : Heap} (B : Bod X) (I : Inv X pins σ H s) (hm : Heap.MadeExcOf s.heap h' a cls args) (hG : G cls σ H) : xeG X G (.ref a) { s with heap := h' } := by
  obtain ⟨t, h1, h2, h3⟩ := hm.there
  have I' : Inv X pins σ H { s with heap := h' } := I.kept (t' := s.toks) hm.keeps
  have ga : X.s₀.heap.get? a = none := by
    cases e : X.s₀.heap.get? a with
    | none => rfl
    | some o =>
      obtain ⟨o', e'⟩ := I.base.there a o e (by rw [B.ex]; simp)
      rw [hm.new] at e'; cases e'
  have Ha : H a = none := by
    cases e : H a with
    | none => rfl
    | some u =>
      obtain ⟨o', e'⟩ := (I.hok a u e).there
      rw [hm.new] at e'; cases e'
  refine leave_inv (s := { s with heap := h' }) I' B.st B.fr B.ex h1 rfl rfl ga Ha (fun p hp z => ?_) (.inl rfl) fun s'' I2 x => ?_
  · have := (I.pin p hp).1
    rw [z, hm.new] at this; cases this
  · exact ⟨a, cls, σ, H, rfl, I2.nopins, x.less fun p hp => List.mem_append_left _ hp, hG⟩
end

/-! ### a def of the text whose exceptions come to its caller's wish -/
theorem Cx.exg_ok {X : Cx} {G : GK} : (X.exg G).Ok ↔ X.Ok := ⟨fun ok => ok.unwish, fun ok => ok.wish _⟩
section
variable {P : Program} {w : World} {K : PySem.W.Frag} {mg : Str → Option Value} {base : Heap}
abbrev cxR (P : Program) (w : World) (K : PySem.W.Frag) (mg : Str → Option Value) (base : Heap) (N : List Str) (qual : Str) (scope : Scope) (f : Addr) (cd : Value) (A : Around) (outer : List Env) (s : Shared) (H : Hp) (E : XK) : Cx :=
  cxOf (CXr P w) P w K mg base N qual scope f cd A outer s H E
theorem bodR {N : List Str} {qual : Str} {scope : Scope} {f : Addr} {cd : Value} {A : Around} {outer : List Env} {s : Shared} {H : Hp} {E : XK} : Bod (cxR P w K mg base N qual scope f cd A outer s H E) := ⟨rfl, rfl, rfl⟩
theorem Fun.okx {x qual : Str} {st : Stmt} {f : Addr} {fd : FuncData} {N ps : List Str} {k : Nat} {sp : Sp} (F : Fun K x qual st f fd) (S : FnScope N ps (defScope st)) (len : ∀ vs H Q E, sp vs H Q E → vs.length = ps.length)
    (hbody : ∀ (cdv : Value) (A : Around) (outer : List Env) (s : Shared) (H : Hp) (vs : List V) (Q : VK) (E : XK), Room k (A.deeper (envOfC qual (defScope st) s.heap.objs.size f cdv)) → sp vs H Q E →
      ∃ t, PSs ((cxR P w K mg base N qual (defScope st) f cdv A outer s H E).exg fun cls _ H' => E cls none H') (defBody st) t ∧ t { nx := fun _ H' => Q .non H', rt := Q } (start N vs) H) : FnOk P w K mg base (CXr P w) (k + 1) f fd ps sp := by
  obtain ⟨oc, od, kV, doc, pm, an, cdv, ct, osl, rfl, lk, hcd⟩ := F.ex
  refine fn_of lk hcd S len fun A outer s H vs Q E hr hsp => ?_
  obtain ⟨t, h, q⟩ := hbody cdv A outer s H vs Q E hr hsp
  refine ⟨t, fun pins s σ H' D I hw => ?_, q⟩
  refine wpAny_mono (h pins s σ H' D (I.wish _) hw) (fun _ _ z => z.unwish) fun e s' z => ?_
  refine wpAny_bind (wpAny_mono (show wpAny _ _ _ _ _ _ from z) (fun _ s1 y1 => wpAny_mono y1 (fun _ s'' y => ?_) fun _ _ y => y.elim) fun _ _ y => y.elim)
  obtain ⟨a, cls, σ2, H2, rfl, J, xx, g⟩ := y
  exact ⟨a, cls, H2, rfl, J.os, J.bare, J.base, J.hok, xx.less (fun p hp => absurd hp (by simp)), g⟩
end
end L2

namespace L2
open PySem PySem.Spec PyProof.Rows

/-! ### defs, methods, classes of the text, asked for at reading time -/
structure Cal (P : Program) (w : World) (K : PySem.W.Frag) (mg : Str → Option Value) (base : Heap) (x : Str) (k : Nat) (ps : List Str) (dvs : List V) (sp : Sp) : Prop where
  ex : ∃ f fd ds, FnOk P w K mg base (CXr P w) k f fd ps sp ∧ mg x = some (.ref f) ∧ PySem.W.keepIn K (.ref f) = true ∧ Binds K fd ps ds ∧ Vals dvs ds
structure MCal (P : Program) (w : World) (K : PySem.W.Frag) (mg : Str → Option Value) (base : Heap) (C : Addr) (m : Str) (k : Nat) (ps : List Str) (dvs : List V) (sp : Sp) : Prop where
  cl : Cls K C
  ex : ∃ f fd ds, FnOk P w K mg base (CXr P w) k f fd ps sp ∧ Meth K C m f ∧ Binds K fd ps ds ∧ Vals dvs ds
structure KCal (P : Program) (w : World) (K : PySem.W.Frag) (mg : Str → Option Value) (base : Heap) (x : Str) (C : Addr) (k : Nat) (ps : List Str) (dvs : List V) (sp : Sp) : Prop where
  gl : mg x = some (.ref C)
  ex : ∃ f fd ds, FnOk P w K mg base (CXr P w) k f fd ps sp ∧ Mk K C f ∧ Binds K fd ps ds ∧ Vals dvs ds
theorem Cal.mono {P : Program} {w : World} {K : PySem.W.Frag} {mg : Str → Option Value} {base : Heap} {x : Str} {j k : Nat} {ps : List Str} {dvs : List V} {sp : Sp} (c : Cal P w K mg base x j ps dvs sp) (h : j ≤ k := by decide) : Cal P w K mg base x k ps dvs sp :=
  let ⟨f, fd, ds, a, b⟩ := c.ex; ⟨f, fd, ds, a.mono h, b⟩
theorem MCal.mono {P : Program} {w : World} {K : PySem.W.Frag} {mg : Str → Option Value} {base : Heap} {C : Addr} {m : Str} {j k : Nat} {ps : List Str} {dvs : List V} {sp : Sp} (c : MCal P w K mg base C m j ps dvs sp) (h : j ≤ k := by decide) : MCal P w K mg base C m k ps dvs sp :=
  let ⟨f, fd, ds, a, b⟩ := c.ex; ⟨c.cl, f, fd, ds, a.mono h, b⟩
theorem KCal.mono {P : Program} {w : World} {K : PySem.W.Frag} {mg : Str → Option Value} {base : Heap} {x : Str} {C : Addr} {j k : Nat} {ps : List Str} {dvs : List V} {sp : Sp} (c : KCal P w K mg base x C j ps dvs sp) (h : j ≤ k := by decide) : KCal P w K mg base x C k ps dvs sp :=
  let ⟨f, fd, ds, a, b⟩ := c.ex; ⟨c.gl, f, fd, ds, a.mono h, b⟩

section
variable {X : Cx} {G : GK} {k : Nat} {f C : Addr} {fd : FuncData} {ps : List Str} {sp : Sp} {dvs : List V} {ds : List Value} {x m : Str} {p pos apos : Pos} {e o : Expr} {es : List Expr} {ta : TE} {t : TA}

theorem run_fnx {pins : List (Addr × Obj)} {σ : St} {H : Hp} {s : Shared} {Q : VK} {us : List Value} {vs : List V} (B : Bod X) (F : FnOk X.prog X.w X.K X.mg X.base (CXr X.prog X.w) k f fd ps sp) (hr : Room k X.A) (hb : Binds X.K fd ps ds) (hd : Vals dvs ds)
    (I : Inv (X.exg G) pins σ H s) (r : Vals vs us) (h : sp (vs ++ dvs) H Q (fun cls _ H' => G cls σ H')) : wpAny (model X.prog X.w) X.A (call (.ref f) us) (EP (X.exg G) pins σ Q) (xeG X G) s := by
  have r2 : Vals (vs ++ dvs) (us ++ ds) := r.append hd
  have hl : (us ++ ds).length = ps.length := by rw [← r2.length]; exact F.len _ _ _ _ h
  refine wpAny_call (codeAny_mono (F.run X.A X.stack s H ⟨us, []⟩ (us ++ ds) (vs ++ dvs) Q _ hr I.unwish.env0 (hb s us I.kIn hl) r2 h) fun r s' hq => ?_)
  cases r with
  | error e => exact xeG_of_call B I.unwish hq
  | ok fl =>
    cases fl with
    | ret u => exact I.after hq
    | next => exact False.elim hq
    | brk => exact False.elim hq
    | cont => exact False.elim hq
theorem run_makex {pins : List (Addr × Obj)} {σ : St} {H : Hp} {s : Shared} {Q : VK} {us : List Value} {vs : List V} (B : Bod X) (M : Mk X.K C f) (F : FnOk X.prog X.w X.K X.mg X.base (CXr X.prog X.w) k f fd ps sp) (hr : Room (k + 1) X.A) (hb : Binds X.K fd ps ds) (hd : Vals dvs ds)
    (I : Inv (X.exg G) pins σ H s) (r : Vals vs us)
    (h : ∀ x dx, H x = none → H dx = none → dx ≠ x → sp (.ref x :: (vs ++ dvs)) (upd (upd H dx (.own x)) x (.ins C dx [])) (fun v H2 => v = .non ∧ Q (.ref x) H2) (fun cls _ H' => G cls σ H')) :
    wpAny (model X.prog X.w) X.A (call (.ref C) us) (EP (X.exg G) pins σ Q) (xeG X G) s := by
  have hq := h (s.heap.objs.size + 1) s.heap.objs.size (I.hok.fresh (Nat.le_succ _)) (I.hok.fresh (Nat.le_refl _)) (Nat.ne_of_lt (Nat.lt_succ_self _))
  have I2 := Inv.made (C := C) I
  have r2 : Vals (V.ref (s.heap.objs.size + 1) :: (vs ++ dvs)) (Value.ref (s.heap.objs.size + 1) :: (us ++ ds)) := .cons rfl (r.append hd)
  have hl : (Value.ref (s.heap.objs.size + 1) :: us ++ ds).length = ps.length := by
    have e := r2.length
    rw [F.len _ _ _ _ hq] at e
    exact e.symm
  refine wpAny_call (make_map (f := f) I.kIn M.makes M.init (beq_iff_eq.mp M.fn) (codeAny_mono (F.run _ X.stack _ _ ⟨Value.ref (s.heap.objs.size + 1) :: us, []⟩ (Value.ref (s.heap.objs.size + 1) :: (us ++ ds)) _ _ _ (hr.make C us [])
    (I2.unwish.env0.make C us []) (hb _ (Value.ref (s.heap.objs.size + 1) :: us) I2.kIn hl) r2 hq) fun r s' hq' => ?_))
  cases r with
  | error e => exact xeG_of_call B I2.unwish hq'
  | ok fl =>
    cases fl with
    | ret u =>
      obtain ⟨v, H', I3, rv, ev, q3⟩ := I2.after hq'
      subst ev
      exact ⟨rv, ⟨V.ref (s.heap.objs.size + 1), H', I3, rfl, q3⟩⟩
    | next => exact False.elim hq'
    | brk => exact False.elim hq'
    | cont => exact False.elim hq'

/-- f(..) -/
def tCl (X : Cx) (k : Nat) (x : Str) (G : GK) (t : TA) : TE := fun σ H Q => ∃ ps dvs sp, Cal X.prog X.w X.K X.mg X.base x k ps dvs sp ∧ t σ H fun vs H1 => sp (vs ++ dvs) H1 Q (fun cls _ H' => G cls σ H')
theorem pe_cl (B : Bod X) (hr : Room k X.A) (ha : PA (X.exg G) (e :: es) t) (hg : Gl X x := by rfl) (hdb : (x == ("__debug__" : Str)) = false := by decide)
    (he : starEach (e :: es) X.env = (false, eval e X.env) :: starEach es X.env := by rfl) (hpl : (backTo pos (starEach es X.env)).any (·.1) = false := by rfl) :
    PE (X.exg G) (.Call (.Name x p) (e :: es) [] pos) (tCl X k x G t) := by
  intro pins s σ H Q I h
  obtain ⟨ps, dvs, sp, ⟨f, fd, ds, F, hm, hk, hb, hd⟩, h⟩ := h
  refine wpAny_Call_Name_kw (ld_glob I hg hm ?_ hdb)
  refine PySem.W.callWith_K (h₀ := X.base) I.ok.mod.kin hk (thn (ha pos pins s σ H _ I h) fun us s1 ⟨vs, H1, I1, r, q⟩ => ⟨I1.kIn, ?_⟩) he hpl
  exact run_fnx B F hr hb hd I1 r q
theorem pe_cl0 (B : Bod X) (hr : Room k X.A) (hg : Gl X x := by rfl) (hdb : (x == ("__debug__" : Str)) = false := by decide) : PE (X.exg G) (.Call (.Name x p) [] [] pos) (tCl X k x G tNil) := by
  intro pins s σ H Q I h
  obtain ⟨ps, dvs, sp, ⟨f, fd, ds, F, hm, hk, hb, hd⟩, h⟩ := h
  refine wpAny_Call_Name_kw (ld_glob I hg hm ?_ hdb)
  exact PySem.W.callWith_K0 I.kIn hk (run_fnx (us := []) (vs := []) B F hr hb hd I .nil h)
/-- C(..) -/
def tMk (X : Cx) (k : Nat) (x : Str) (G : GK) (t : TA) : TE := fun σ H Q => ∃ C ps dvs sp, KCal X.prog X.w X.K X.mg X.base x C k ps dvs sp ∧ t σ H fun vs H1 => ∀ y dx, H1 y = none → H1 dx = none → dx ≠ y →
  sp (.ref y :: (vs ++ dvs)) (upd (upd H1 dx (.own y)) y (.ins C dx [])) (fun v H2 => v = .non ∧ Q (.ref y) H2) (fun cls _ H' => G cls σ H')
theorem pe_mk (B : Bod X) (hr : Room (k + 1) X.A) (ha : PA (X.exg G) (e :: es) t) (hg : Gl X x := by rfl) (hdb : (x == ("__debug__" : Str)) = false := by decide)
    (he : starEach (e :: es) X.env = (false, eval e X.env) :: starEach es X.env := by rfl) (hpl : (backTo pos (starEach es X.env)).any (·.1) = false := by rfl) :
    PE (X.exg G) (.Call (.Name x p) (e :: es) [] pos) (tMk X k x G t) := by
  intro pins s σ H Q I h
  obtain ⟨C, ps, dvs, sp, ⟨hm, f, fd, ds, F, M, hb, hd⟩, h⟩ := h
  refine wpAny_Call_Name_kw (ld_glob I hg hm ?_ hdb)
  refine PySem.W.callWith_K (h₀ := X.base) I.ok.mod.kin M.kp (thn (ha pos pins s σ H _ I h) fun us s1 ⟨vs, H1, I1, r, q⟩ => ⟨I1.kIn, ?_⟩) he hpl
  exact run_makex B M F hr hb hd I1 r q
/-- o.m(..) -/
def tMth (X : Cx) (k : Nat) (m : Str) (G : GK) (ta : TE) (t : TA) : TE := fun σ H Q => ta σ H fun y H1 => ∃ a C dx fs ps dvs sp, y = .ref a ∧ H1 a = some (.ins C dx fs) ∧ fs.lookup m = none ∧
  MCal X.prog X.w X.K X.mg X.base C m k ps dvs sp ∧ t σ H1 fun vs H2 => sp (.ref a :: (vs ++ dvs)) H2 Q (fun cls _ H' => G cls σ H')
theorem pe_mth {pl : Sem Bool} (B : Bod X) (hr : Room k X.A) (he : PE (X.exg G) o ta) (ha : PA (X.exg G) (e :: es) t)
    (hst : starEach (e :: es) X.env = (false, eval e X.env) :: starEach es X.env := by rfl) (hpl : (backTo pos (starEach es X.env)).any (·.1) = false := by rfl)
    (ht : eval (.Call (.Attribute o m apos) (e :: es) [] pos) X.env = (do
      let ov ← eval o X.env
      standAt apos.atName
      let (f, first) ← holding [ov] (getMethod ov m pl)
      callWith pos f first (backTo pos (starEach (e :: es) X.env)) (backToKw pos (keywordEach [] X.env))) := by rfl) :
    PE (X.exg G) (.Call (.Attribute o m apos) (e :: es) [] pos) (tMth X k m G ta t) := by
  intro pins s σ H Q I h
  refine PySem.W.methodCall_KW (pl := pl) (thn (he pins s σ H _ I h) fun u s1 ⟨x, H1, I1, rx, a, C, dx, fs, ps, dvs, sp, ex, ea, l, ⟨c, f, fd, ds, F, hm, hb, hd⟩, q⟩ => ?_) ht
  subst ex
  obtain rfl : u = Value.ref a := rx
  refine getmeth_ok I1 ea c hm l ?_
  refine PySem.W.callWith_K (first := [.ref a]) (h₀ := X.base) I.ok.mod.kin hm.kp (thn (ha pos pins s1 σ H1 _ I1 q) fun us s2 ⟨vs, H2, I2, r, q2⟩ => ⟨I2.kIn, ?_⟩) hst hpl
  exact run_fnx (us := .ref a :: us) (vs := .ref a :: vs) B F hr hb hd I2 (.cons rfl r) q2
theorem pe_mth0 {pl : Sem Bool} (B : Bod X) (hr : Room k X.A) (he : PE (X.exg G) o ta)
    (ht : eval (.Call (.Attribute o m apos) [] [] pos) X.env = (do
      let ov ← eval o X.env
      standAt apos.atName
      let (f, first) ← holding [ov] (getMethod ov m pl)
      callWith pos f first (backTo pos (starEach [] X.env)) (backToKw pos (keywordEach [] X.env))) := by rfl) :
    PE (X.exg G) (.Call (.Attribute o m apos) [] [] pos) (tMth X k m G ta tNil) := by
  intro pins s σ H Q I h
  refine PySem.W.methodCall_KW (pl := pl) (thn (he pins s σ H _ I h) fun u s1 ⟨x, H1, I1, rx, a, C, dx, fs, ps, dvs, sp, ex, ea, l, ⟨c, f, fd, ds, F, hm, hb, hd⟩, q⟩ => ?_) ht
  subst ex
  obtain rfl : u = Value.ref a := rx
  refine getmeth_ok I1 ea c hm l ?_
  exact PySem.W.callWith_K0 (first := [.ref a]) I1.kIn hm.kp (run_fnx (us := [.ref a]) (vs := [.ref a]) B F hr hb hd I1 (.cons rfl .nil) q)

/-! ### names of the module and of Python -/
def tGl (X : Cx) (x : Str) : TE := fun _ H Q => ∃ v u, X.mg x = some u ∧ RelV v u ∧ Q v H
theorem pe_gl (hg : Gl X x := by rfl) (hd : (x == ("__debug__" : Str)) = false := by decide) : PE X (.Name x pos) (tGl X x) := fun _ _ _ H _ I h => by
  obtain ⟨v, u, hm, r, h⟩ := h
  exact ld_glob I hg hm ⟨v, H, I, r, h⟩ hd
def tBl (X : Cx) (x : Str) (v : V) : TE := fun _ H Q => X.mg x = none ∧ Q v H
theorem pe_ty {n : String} (hv : bootBuiltins x = some (.type n)) (hg : Gl X x := by rfl) (hn : x ≠ "__name__" := by decide) (hd : (x == ("__debug__" : Str)) = false := by decide) : PE X (.Name x pos) (tBl X x (.ty n)) := fun _ _ _ H _ I h => by
  obtain ⟨hm, h⟩ := h
  exact ld_blt I hg hm hv ⟨.ty n, H, I, rfl, h⟩ hn hd
/-- a call of Python's own function or type -/
def tBi (X : Cx) (x : Str) (r : List V → Hp → VK → Prop) (t : TA) : TE := fun σ H Q => X.mg x = none ∧ t σ H fun vs H1 => r vs H1 Q
theorem pe_bi {id : String} {r : List V → Hp → VK → Prop} (hc : CallR X (.builtin id) r) (hv : bootBuiltins x = some (.builtin id)) (ha : PA X (e :: es) t) (hg : Gl X x := by rfl) (hn : x ≠ "__name__" := by decide) (hdb : (x == ("__debug__" : Str)) = false := by decide)
    (he : starEach (e :: es) X.env = (false, eval e X.env) :: starEach es X.env := by rfl) (hpl : (backTo pos (starEach es X.env)).any (·.1) = false := by rfl) : PE X (.Call (.Name x p) (e :: es) [] pos) (tBi X x r t) := fun pins s σ H Q I h =>
  pe_callB hc hg h.1 hv ha hn hdb he hpl pins s σ H Q I h.2
theorem pe_bt {T : String} {r : List V → Hp → VK → Prop} (hc : CallR X (.type T) r) (hv : bootBuiltins x = some (.type T)) (ha : PA X (e :: es) t) (hg : Gl X x := by rfl) (hn : x ≠ "__name__" := by decide) (hdb : (x == ("__debug__" : Str)) = false := by decide)
    (he : starEach (e :: es) X.env = (false, eval e X.env) :: starEach es X.env := by rfl) (hpl : (backTo pos (starEach es X.env)).any (·.1) = false := by rfl) : PE X (.Call (.Name x p) (e :: es) [] pos) (tBi X x r t) := fun pins s σ H Q I h =>
  pe_callTy hc hg h.1 hv ha hn hdb he hpl pins s σ H Q I h.2
end
end L2

namespace L2
open PySem PySem.Spec PyProof.Rows

section
variable {X : Cx} {tg : Expr} {a b c e o : Expr} {ta tb tc : TE} {pos : Pos}

/-! ### sequences walked -/
def iSeq (K : PySem.W.Frag) (tl : TE) : TI := fun σ H R => tl σ H fun x H1 => ∃ a, x = .ref a ∧ (((∃ xs, SqL K H1 a xs) ∧ R (Itl K a) H1) ∨ ((∃ xs, SqT K H1 a xs) ∧ R (Itt K a) H1))
theorem pi_seq {l : Expr} {tl : TE} (hl : PE X l tl) : PI X tg l (iSeq X.K tl) := by
  intro pins s σ H R I h
  refine thn (hl pins s σ H _ I h) fun v s1 ⟨x, H1, I1, r1, q1⟩ => ?_
  obtain ⟨a, e, q⟩ := q1
  subst e
  cases r1
  rcases q with ⟨⟨xs, hq⟩, q⟩ | ⟨⟨xs, hq⟩, q⟩
  · obtain ⟨its, rv, p, hz⟩ := I1.list hq
    refine wpAny_pyIter_list p.isList ?_
    refine ⟨s1.heap.objs.size, [s1.heap.objs.size], _, _, H1, rfl, I1.kept (t' := s1.toks) fun b o e => Heap.get?_push_of_some _ e, turn_list a _, ⟨_, Heap.get?_push_size _ rfl, rfl, rfl⟩, fun b hb => ?_, q⟩
    have e : b = s1.heap.objs.size := by simpa using hb
    subst e
    exact I1.fpOk (Nat.le_refl _) (I1.hok.fresh (Nat.le_refl _))
  · obtain ⟨its, rv, p, hz⟩ := I1.tuple hq
    refine wpAny_pyIter_tuple (show s1.heap.IsTuple a its.toArray from p) ?_
    refine ⟨s1.heap.objs.size, [s1.heap.objs.size], _, _, H1, rfl, I1.kept (t' := s1.toks) fun b o e => Heap.get?_push_of_some _ e, turn_tuple a _, ⟨_, Heap.get?_push_size _ rfl, rfl, rfl⟩, fun b hb => ?_, q⟩
    have e : b = s1.heap.objs.size := by simpa using hb
    subst e
    exact I1.fpOk (Nat.le_refl _) (I1.hok.fresh (Nat.le_refl _))
/-- range, Python's own -/
theorem pi_rg1 {ta : TA} {p pos : Pos} (ha : PA X [a] ta) (hg : Gl X "range" := by rfl) (hs : starEach [a] X.env = [(false, eval a X.env)] := by rfl) : PI X tg (.Call (.Name "range" p) [a] [] pos) (fun σ H R => X.mg "range" = none ∧ iRng1 ta σ H R) :=
  fun pins s σ H R I h => pi_range1 hg h.1 ha hs pins s σ H R I h.2
theorem pi_rg2 {ta : TA} {p pos : Pos} (ha : PA X [a, b] ta) (hg : Gl X "range" := by rfl) (hs : starEach [a, b] X.env = [(false, eval a X.env), (false, eval b X.env)] := by rfl) (hs2 : starEach [b] X.env = [(false, eval b X.env)] := by rfl) : PI X tg (.Call (.Name "range" p) [a, b] [] pos) (fun σ H R => X.mg "range" = none ∧ iRng2 ta σ H R) :=
  fun pins s σ H R I h => pi_range2 hg h.1 ha hs hs2 pins s σ H R I h.2

/-! ### + * // on ints of any size, texts, lists -/
def rCatS (K : PySem.W.Frag) : R2 := fun x y H Q => ∃ l b xs zs, x = .ref l ∧ y = .ref b ∧ SqL K H l xs ∧ SqL K H b zs ∧ xs.length + zs.length ≤ sizeLine ∧ ∀ p, H p = none → Q (.ref p) (upd H p (.lst (xs ++ zs)))
theorem op_catS : OpR X (binaryOp .Add) (rCatS X.K) := by
  intro pins s σ H x y v u Q I rx ry h
  obtain ⟨l, b, xs, zs, rfl, rfl, hH, hB, hz, q⟩ := h
  cases rx
  cases ry
  obtain ⟨its, r, p, z⟩ := I.list hH
  obtain ⟨its2, r2, p2, z2⟩ := I.list hB
  have e1 := r.length
  have e2 := r2.length
  obtain ⟨⟨cls, dd, data, sl⟩, n, ho, hc, hdd, hd⟩ := p
  obtain ⟨⟨cls2, dd2, data2, sl2⟩, n2, ho2, hc2, hdd2, hd2⟩ := p2
  simp only at hc hd hc2 hd2
  subst hc hd hc2 hd2
  have ea : its.toArray ++ its2.toArray = (its ++ its2).toArray := by simp
  refine concat_meets ⟨_, ho, rfl⟩ ⟨_, ho2, rfl⟩ noFill_list_add seq_list_add PySem.F.slot_list_add PySem.F.entry_list_add (PySem.F.args_list_add_2 _ _) (list_addW l b its.toArray its2.toArray n n2 dd dd2 sl sl2 (by simp only [List.size_toArray]; omega)) ⟨ho, ho2, ?_⟩
  rw [ea]
  exact ⟨.ref _, _, I.lnew (t' := s.toks) (r.append r2) (by rw [List.length_append]; omega), rfl, q _ I.fresh⟩
def rAddG (K : PySem.W.Frag) : R2 := fun x y H Q => rI0 (fun i j => .int (i + j)) x y H Q ∨ (∃ i j, x = .str i ∧ y = .str j ∧ i.length + j.length ≤ sizeLine ∧ Q (.str (i ++ j)) H) ∨ rCatS K x y H Q
theorem og_add : OpR X (binaryOp .Add) (rAddG X.K) := op_add.or (op_add_str.or op_catS)
theorem og_mul : OpR X (binaryOp .Mult) (rI (fun i j => IntMulOk i j) fun i j => .int (i * j)) := opI fun _ _ _ _ _ _ _ hc q => mul_int q hc
def CFd (_ j : Int) : Prop := j ≠ 0 ∧ j.natAbs.log2 < 9000
theorem og_fdiv : OpR X (binaryOp .FloorDiv) (rI CFd fun i j => .int (i.fdiv j)) := opI fun _ _ _ _ _ _ _ hc q => floordiv_int hc.1 q (.inl (PyProof.noPylong_of_log2 hc.2))
theorem og_lt : OpR X (compareOp .Lt) (rI0 fun i j => .bl (decide (i < j))) := op_lt
theorem og_gt : OpR X (compareOp .Gt) (rI0 fun i j => .bl (decide (j < i))) := op_gt
theorem bits_le {k : Int} {n : Nat} (h : k.natAbs < 2 ^ n) : Builtin.Int.intBits k ≤ n := by
  unfold Builtin.Int.intBits
  split
  · exact Nat.zero_le _
  · rename_i h0
    have : k.natAbs ≠ 0 := fun z => h0 (by simp [Int.natAbs_eq_zero.mp z])
    have := (Nat.log2_lt this).mpr h
    omega
theorem mul_ok {i j : Int} (n : Nat) (h1 : i.natAbs < 2 ^ n) (h2 : j.natAbs < 2 ^ n) (hn : n ≤ 60000000) : IntMulOk i j := by
  have b1 := bits_le h1
  have b2 := bits_le h2
  have hc : Builtin.Int.intTooBig (Builtin.Int.intBits i + Builtin.Int.intBits j) = false := by
    unfold Builtin.Int.intTooBig bitsLine
    exact decide_eq_false (by omega)
  unfold IntMulOk
  rw [hc]
  simp
theorem mul_okL {i j : Int} (h1 : -(2 ^ 64) < i) (h2 : i < 2 ^ 64) : IntMulOk i j := PySem.IntMulOk.of_left (PySem.intBits_le_64 h1 h2)
theorem mul_okR {i j : Int} (h1 : -(2 ^ 64) < j) (h2 : j < 2 ^ 64) : IntMulOk i j := PySem.IntMulOk.of_right (PySem.intBits_le_64 h1 h2)
theorem fd_ok {i j : Int} (h1 : 0 < j) (h2 : j.natAbs < 2 ^ 8999) : CFd i j := ⟨by omega, by
  have := (Nat.log2_lt (n := j.natAbs) (k := 8999) (by omega)).mpr h2
  omega⟩
theorem fd_okn {i j : Int} (h1 : j ≠ 0) (h2 : j.natAbs < 2 ^ 8999) : CFd i j := ⟨h1, by
  have := (Nat.log2_lt (n := j.natAbs) (k := 8999) (by omega)).mpr h2
  omega⟩
theorem fdiv_pos {i j : Int} (h : 0 < j) : i.fdiv j = i / j := Int.fdiv_eq_ediv_of_nonneg i (Int.le_of_lt h)

/-! ### == and != of flat sequences -/
def seqEq : List V → List V → Bool
  | [], [] => true
  | x :: xs, y :: ys => eqV x y && seqEq xs ys
  | _, _ => false
theorem seqEq_len : ∀ {xs ys : List V}, xs.length ≠ ys.length → seqEq xs ys = false
  | [], [], h => absurd rfl h
  | [], _ :: _, _ => rfl
  | _ :: _, [], _ => rfl
  | x :: xs, y :: ys, h => by
    have := seqEq_len (xs := xs) (ys := ys) (fun e => h (by simp [e]))
    unfold seqEq
    rw [this, Bool.and_false]
theorem seqEq_all : ∀ {xs ys : List V}, xs.length = ys.length → (List.range xs.length).all (fun j => eqV (xs.getD j .non) (ys.getD j .non)) = seqEq xs ys
  | [], [], _ => rfl
  | [], _ :: _, h => by simp at h
  | _ :: _, [], h => by simp at h
  | x :: xs, y :: ys, h => by
    have ih := seqEq_all (xs := xs) (ys := ys) (by simpa using h)
    unfold seqEq
    rw [← ih, List.length_cons, List.range_succ_eq_map, List.all_cons, List.all_map]
    rfl
theorem Vals.getD : ∀ {xs : List V} {us : List Value} {j : Nat} (h : j < us.length), Vals xs us → RelV (xs.getD j .non) us[j]
  | _, _, 0, _, .cons r _ => r
  | _, _, j + 1, h, .cons _ t => Vals.getD (j := j) (by simpa using h) t
theorem all_getD {xs : List V} (f : xs.all flatV = true) (j : Nat) : flatV (xs.getD j .non) = true := by
  rw [List.getD_eq_getElem?_getD]
  cases e : xs[j]? with
  | none => rfl
  | some x => exact List.all_eq_true.mp f x (List.mem_of_getElem? e)
def rEqS (K : PySem.W.Frag) (neg : Bool) : R2 := fun x y H Q => ∃ a b xs ys, x = .ref a ∧ y = .ref b ∧ ((SqL K H a xs ∧ SqL K H b ys) ∨ (SqT K H a xs ∧ SqT K H b ys)) ∧ xs.all flatV = true ∧ ys.all flatV = true ∧ Q (.bl (if neg then !seqEq xs ys else seqEq xs ys)) H
theorem op_eq_seq (hu : X.A.units < cLine) : OpR X (compareOp .Eq) (rEqS X.K false) := by
  intro pins s σ H x y v u Q I rx ry h
  obtain ⟨a, b, xs, ys, rfl, rfl, hq, fx, fy, q⟩ := h
  cases rx
  cases ry
  have fin : EP X pins σ Q (.bool (seqEq xs ys)) s := ⟨.bl (seqEq xs ys), H, I, rfl, q⟩
  rcases hq with ⟨h1, h2⟩ | ⟨h1, h2⟩
  · obtain ⟨its, r, p, _⟩ := I.list h1
    obtain ⟨its2, r2, p2, _⟩ := I.list h2
    have e1 := r.length
    have e2 := r2.length
    by_cases hl : xs.length = ys.length
    · refine SeqAt.RcAt.lists (e := fun j => eqV (xs.getD j .non) (ys.getD j .non)) p.isList p2.isList (by simp only [List.size_toArray]; omega) hu (fun j h1 h2 => ?_) _ _ _ _ ?_
      · exact eqAt_V (Vals.getD (by simpa using h1) r) (Vals.getD (by simpa using h2) r2) (all_getD fx j) (all_getD fy j)
      · rw [List.size_toArray, ← e1, seqEq_all hl]; exact fin
    · rw [seqEq_len hl] at fin
      exact SeqAt.RcAt.lists_lengths p.isList p2.isList (by simp only [List.size_toArray]; simp; omega) hu _ _ _ _ fin
  · obtain ⟨its, r, p, _⟩ := I.tuple h1
    obtain ⟨its2, r2, p2, _⟩ := I.tuple h2
    have e1 := r.length
    have e2 := r2.length
    refine SeqAt.RcAt.tuples (e := fun j => eqV (xs.getD j .non) (ys.getD j .non)) p p2 hu (fun j h1 h2 => ?_) _ _ _ _ ?_
    · exact eqAt_V (Vals.getD (by simpa using h1) r) (Vals.getD (by simpa using h2) r2) (all_getD fx j) (all_getD fy j)
    · by_cases hl : xs.length = ys.length
      · have em : min its.toArray.size its2.toArray.size = xs.length := by simp only [List.size_toArray]; omega
        have es : (its.toArray.size == its2.toArray.size) = true := by simp only [List.size_toArray]; rw [beq_iff_eq]; omega
        rw [em, es, seqEq_all hl, Bool.and_true]; exact fin
      · have es : (its.toArray.size == its2.toArray.size) = false := by simp only [List.size_toArray]; rw [beq_eq_false_iff_ne]; omega
        rw [es, Bool.and_false]
        rw [seqEq_len hl] at fin
        exact fin
theorem op_ne_seq (hu : X.A.units < cLine) : OpR X (compareOp .NotEq) (rEqS X.K true) := by
  intro pins s σ H x y v u Q I rx ry h
  obtain ⟨a, b, xs, ys, rfl, rfl, hq, fx, fy, q⟩ := h
  cases rx
  cases ry
  have fin : EP X pins σ Q (.bool (!seqEq xs ys)) s := ⟨.bl (!seqEq xs ys), H, I, rfl, q⟩
  rcases hq with ⟨h1, h2⟩ | ⟨h1, h2⟩
  · obtain ⟨its, r, p, _⟩ := I.list h1
    obtain ⟨its2, r2, p2, _⟩ := I.list h2
    have e1 := r.length
    have e2 := r2.length
    by_cases hl : xs.length = ys.length
    · refine SeqAt.RcNeAt.lists (e := fun j => eqV (xs.getD j .non) (ys.getD j .non)) p.isList p2.isList (by simp only [List.size_toArray]; omega) hu (fun j h1 h2 => ?_) _ _ _ _ ?_
      · exact eqAt_V (Vals.getD (by simpa using h1) r) (Vals.getD (by simpa using h2) r2) (all_getD fx j) (all_getD fy j)
      · rw [List.size_toArray, ← e1, seqEq_all hl]; exact fin
    · rw [seqEq_len hl] at fin
      exact SeqAt.RcNeAt.lists_lengths p.isList p2.isList (by simp only [List.size_toArray]; simp; omega) hu _ _ _ _ fin
  · obtain ⟨its, r, p, _⟩ := I.tuple h1
    obtain ⟨its2, r2, p2, _⟩ := I.tuple h2
    have e1 := r.length
    have e2 := r2.length
    refine SeqAt.RcNeAt.tuples (e := fun j => eqV (xs.getD j .non) (ys.getD j .non)) p p2 hu (fun j h1 h2 => ?_) _ _ _ _ ?_
    · exact eqAt_V (Vals.getD (by simpa using h1) r) (Vals.getD (by simpa using h2) r2) (all_getD fx j) (all_getD fy j)
    · by_cases hl : xs.length = ys.length
      · have em : min its.toArray.size its2.toArray.size = xs.length := by simp only [List.size_toArray]; omega
        have es : (its.toArray.size == its2.toArray.size) = true := by simp only [List.size_toArray]; rw [beq_iff_eq]; omega
        rw [em, es, seqEq_all hl, Bool.and_true]; exact fin
      · have es : (its.toArray.size == its2.toArray.size) = false := by simp only [List.size_toArray]; rw [beq_eq_false_iff_ne]; omega
        rw [es, Bool.and_false]
        rw [seqEq_len hl] at fin
        exact fin
/-! ### == and != of sequences in sequences -/
/-- two values compare so, n deep -/
inductive DE (K : PySem.W.Frag) (H : Hp) : Nat → V → V → Bool → Prop
  | flat {n : Nat} {x y : V} : flatV x = true → flatV y = true → DE K H n x y (eqV x y)
  | same {n : Nat} {p : Addr} : DE K H n (.ref p) (.ref p) true
  | lists {n : Nat} {p q : Addr} {xs ys : List V} {e : Nat → Bool} : p ≠ q → SqL K H p xs → SqL K H q ys → xs.length = ys.length → (∀ j x y, xs[j]? = some x → ys[j]? = some y → DE K H n x y (e j)) → DE K H (n + 1) (.ref p) (.ref q) ((List.range xs.length).all e)
  | listsL {n : Nat} {p q : Addr} {xs ys : List V} : p ≠ q → SqL K H p xs → SqL K H q ys → xs.length ≠ ys.length → DE K H (n + 1) (.ref p) (.ref q) false
  | tuples {n : Nat} {p q : Addr} {xs ys : List V} {e : Nat → Bool} : p ≠ q → SqT K H p xs → SqT K H q ys → (∀ j x y, xs[j]? = some x → ys[j]? = some y → DE K H n x y (e j)) → DE K H (n + 1) (.ref p) (.ref q) ((List.range (min xs.length ys.length)).all e && xs.length == ys.length)
theorem Vals.at_ {xs : List V} {us : List Value} (r : Vals xs us) {j : Nat} (h : j < us.toArray.size) : ∃ x, xs[j]? = some x ∧ RelV x us.toArray[j] := by
  have h' : j < us.length := by simpa using h
  have hl : j < xs.length := by rw [r.length]; exact h'
  obtain ⟨u, hu, ru⟩ := r.get (List.getElem?_eq_getElem hl)
  have e : us.toArray[j] = u := by
    have := List.getElem?_eq_some_iff.mp hu
    obtain ⟨_, e⟩ := this
    simpa using e
  exact ⟨xs[j], List.getElem?_eq_getElem hl, e ▸ ru⟩
theorem de_at {pins : List (Addr × Obj)} {s : Shared} {σ : St} {H : Hp} {n : Nat} {x y : V} {b : Bool} (I : Inv X pins σ H s) (h : DE X.K H n x y b) : ∀ {u v : Value} {A : Around}, RelV x u → RelV y v → A.units + n < cLine → SeqAt.EqAt A s u v b := by
  induction h with
  | flat fx fy => intro u v A rx ry _; exact eqAt_V rx ry fx fy
  | same => intro u v A rx ry _; cases rx; cases ry; exact SeqAt.EqAt.same _
  | lists hne h1 h2 hl _ ih =>
    intro u v A rx ry hu
    cases rx; cases ry
    obtain ⟨its, r, p, _⟩ := I.list h1
    obtain ⟨its2, r2, p2, _⟩ := I.list h2
    have e1 := r.length
    have e2 := r2.length
    refine SeqAt.EqAt.of_refs hne ?_
    have := SeqAt.RcAt.lists (A := A) (s := s) p.isList p2.isList (by simp only [List.size_toArray]; omega) (by omega) (fun j h1 h2 => by
      obtain ⟨x, hx, rx⟩ := r.at_ h1
      obtain ⟨y, hy, ry⟩ := r2.at_ h2
      exact ih j x y hx hy rx ry (by show A.units + 1 + _ < _; omega))
    rw [List.size_toArray, ← e1] at this
    exact this
  | listsL hne h1 h2 hl =>
    intro u v A rx ry hu
    cases rx; cases ry
    obtain ⟨its, r, p, _⟩ := I.list h1
    obtain ⟨its2, r2, p2, _⟩ := I.list h2
    have e1 := r.length
    have e2 := r2.length
    exact SeqAt.EqAt.of_refs hne (SeqAt.RcAt.lists_lengths p.isList p2.isList (by simp only [List.size_toArray]; simp; omega) (by omega))
  | tuples hne h1 h2 _ ih =>
    intro u v A rx ry hu
    cases rx; cases ry
    obtain ⟨its, r, p, _⟩ := I.tuple h1
    obtain ⟨its2, r2, p2, _⟩ := I.tuple h2
    have e1 := r.length
    have e2 := r2.length
    refine SeqAt.EqAt.of_refs hne ?_
    have := SeqAt.RcAt.tuples (A := A) (s := s) p p2 (by omega) (fun j h1 h2 => by
      obtain ⟨x, hx, rx⟩ := r.at_ h1
      obtain ⟨y, hy, ry⟩ := r2.at_ h2
      exact ih j x y hx hy rx ry (by show A.units + 1 + _ < _; omega))
    simp only [List.size_toArray, ← e1, ← e2] at this
    exact this
/-- at the top: two lists of one length, or two tuples -/
def rEqD (K : PySem.W.Frag) (neg : Bool) : R2 := fun x y H Q => ∃ p q xs ys n e, x = .ref p ∧ y = .ref q ∧ n ≤ 8 ∧ (∀ j x y, xs[j]? = some x → ys[j]? = some y → DE K H n x y (e j)) ∧
  ((SqL K H p xs ∧ SqL K H q ys ∧ xs.length = ys.length ∧ Q (.bl (if neg then !((List.range xs.length).all e) else (List.range xs.length).all e)) H) ∨
   (SqT K H p xs ∧ SqT K H q ys ∧ Q (.bl (if neg then !((List.range (min xs.length ys.length)).all e && xs.length == ys.length) else ((List.range (min xs.length ys.length)).all e && xs.length == ys.length))) H))
theorem op_eq_deep (hu : X.A.units + 100 < cLine) : OpR X (compareOp .Eq) (rEqD X.K false) := by
  intro pins s σ H x y v u Q I rx ry h
  obtain ⟨p, q, xs, ys, n, e, rfl, rfl, hn, hde, h⟩ := h
  cases rx
  cases ry
  rcases h with ⟨h1, h2, hl, q⟩ | ⟨h1, h2, q⟩
  · obtain ⟨its, r, p, _⟩ := I.list h1
    obtain ⟨its2, r2, p2, _⟩ := I.list h2
    have e1 := r.length
    have e2 := r2.length
    refine SeqAt.RcAt.lists (e := e) p.isList p2.isList (by simp only [List.size_toArray]; omega) (by omega) (fun j h1 h2 => ?_) _ _ _ _ ?_
    · obtain ⟨x, hx, rx⟩ := r.at_ h1
      obtain ⟨y, hy, ry⟩ := r2.at_ h2
      exact de_at I (hde j x y hx hy) rx ry (by show X.A.units + 1 + _ < _; omega)
    · rw [List.size_toArray, ← e1]; exact ⟨.bl _, H, I, rfl, q⟩
  · obtain ⟨its, r, p, _⟩ := I.tuple h1
    obtain ⟨its2, r2, p2, _⟩ := I.tuple h2
    have e1 := r.length
    have e2 := r2.length
    refine SeqAt.RcAt.tuples (e := e) p p2 (by omega) (fun j h1 h2 => ?_) _ _ _ _ ?_
    · obtain ⟨x, hx, rx⟩ := r.at_ h1
      obtain ⟨y, hy, ry⟩ := r2.at_ h2
      exact de_at I (hde j x y hx hy) rx ry (by show X.A.units + 1 + _ < _; omega)
    · simp only [List.size_toArray, ← e1, ← e2]; exact ⟨.bl _, H, I, rfl, q⟩
theorem op_ne_deep (hu : X.A.units + 100 < cLine) : OpR X (compareOp .NotEq) (rEqD X.K true) := by
  intro pins s σ H x y v u Q I rx ry h
  obtain ⟨p, q, xs, ys, n, e, rfl, rfl, hn, hde, h⟩ := h
  cases rx
  cases ry
  rcases h with ⟨h1, h2, hl, q⟩ | ⟨h1, h2, q⟩
  · obtain ⟨its, r, p, _⟩ := I.list h1
    obtain ⟨its2, r2, p2, _⟩ := I.list h2
    have e1 := r.length
    have e2 := r2.length
    refine SeqAt.RcNeAt.lists (e := e) p.isList p2.isList (by simp only [List.size_toArray]; omega) (by omega) (fun j h1 h2 => ?_) _ _ _ _ ?_
    · obtain ⟨x, hx, rx⟩ := r.at_ h1
      obtain ⟨y, hy, ry⟩ := r2.at_ h2
      exact de_at I (hde j x y hx hy) rx ry (by show X.A.units + 1 + _ < _; omega)
    · rw [List.size_toArray, ← e1]; exact ⟨.bl _, H, I, rfl, q⟩
  · obtain ⟨its, r, p, _⟩ := I.tuple h1
    obtain ⟨its2, r2, p2, _⟩ := I.tuple h2
    have e1 := r.length
    have e2 := r2.length
    refine SeqAt.RcNeAt.tuples (e := e) p p2 (by omega) (fun j h1 h2 => ?_) _ _ _ _ ?_
    · obtain ⟨x, hx, rx⟩ := r.at_ h1
      obtain ⟨y, hy, ry⟩ := r2.at_ h2
      exact de_at I (hde j x y hx hy) rx ry (by show X.A.units + 1 + _ < _; omega)
    · simp only [List.size_toArray, ← e1, ← e2]; exact ⟨.bl _, H, I, rfl, q⟩
def rEqG (K : PySem.W.Frag) : R2 := fun x y H Q => rEq x y H Q ∨ rEqS K false x y H Q ∨ rEqD K false x y H Q
def rNeG (K : PySem.W.Frag) : R2 := fun x y H Q => rNe x y H Q ∨ rEqS K true x y H Q ∨ rEqD K true x y H Q
theorem og_eq (hu : X.A.units + 100 < cLine) : OpR X (compareOp .Eq) (rEqG X.K) := op_eq.or ((op_eq_seq (by omega)).or (op_eq_deep hu))
theorem og_ne (hu : X.A.units + 100 < cLine) : OpR X (compareOp .NotEq) (rNeG X.K) := op_ne.or ((op_ne_seq (by omega)).or (op_ne_deep hu))
theorem Room.units1 {k : Nat} {A : Around} (r : Room k A) : A.units + 100 < cLine := by have := r.un; omega

/-! ### isinstance -/
def clsV : V → Option Value
  | .ty n => some (.type n)
  | .ref a => some (.ref a)
  | _ => none
theorem bo_len : bootBuiltins "len" = some (.builtin "len") := by decide +kernel
theorem bo_abs : bootBuiltins "abs" = some (.builtin "abs") := by decide +kernel
theorem bo_isinstance : bootBuiltins "isinstance" = some (.builtin "isinstance") := by decide +kernel
theorem bo_sum : bootBuiltins "sum" = some (.builtin "sum") := by decide +kernel
theorem bo_max : bootBuiltins "max" = some (.builtin "max") := by decide +kernel
theorem bo_min : bootBuiltins "min" = some (.builtin "min") := by decide +kernel
theorem bo_ord : bootBuiltins "ord" = some (.builtin "ord") := by decide +kernel
theorem bo_any : bootBuiltins "any" = some (.builtin "any") := by decide +kernel
theorem bo_all : bootBuiltins "all" = some (.builtin "all") := by decide +kernel
theorem bo_sorted : bootBuiltins "sorted" = some (.builtin "sorted") := by decide +kernel
theorem bo_str : bootBuiltins "str" = some (.type "str") := by decide +kernel
theorem bo_int : bootBuiltins "int" = some (.type "int") := by decide +kernel
theorem bo_list : bootBuiltins "list" = some (.type "list") := by decide +kernel
theorem bo_tuple : bootBuiltins "tuple" = some (.type "tuple") := by decide +kernel
theorem bo_bool : bootBuiltins "bool" = some (.type "bool") := by decide +kernel
theorem bo_dict : bootBuiltins "dict" = some (.type "dict") := by decide +kernel
theorem bo_ValueError : bootBuiltins "ValueError" = some (.type "ValueError") := by decide +kernel
theorem kit_int_int {K : PySem.W.Frag} : PySem.W.kitOne K (.type "int") (.type "int") = some true := by rfl
theorem kit_int_bool {K : PySem.W.Frag} : PySem.W.kitOne K (.type "int") (.type "bool") = some false := by rfl
theorem kit_bool_bool {K : PySem.W.Frag} : PySem.W.kitOne K (.type "bool") (.type "bool") = some true := by rfl
theorem kit_str_str {K : PySem.W.Frag} : PySem.W.kitOne K (.type "str") (.type "str") = some true := by rfl
theorem kit_tup_tup {K : PySem.W.Frag} : PySem.W.kitOne K (.type "tuple") (.type "tuple") = some true := by rfl
theorem ix_any : IxR X (rIx X.K) := ix_seq
theorem bi_len : CallR X (.builtin "len") (fun xs H Q => ∃ x n, xs = [x] ∧ LenV X.K x H n ∧ Q (.int n) H) := call_len
theorem bi_abs : CallR X (.builtin "abs") (fun xs H Q => ∃ i, xs = [.int i] ∧ Q (.int (if i < 0 then -i else i)) H) := call_abs
end
end L2

namespace L2
open PySem PySem.Spec PyProof.Rows

/-! ### raise -/
abbrev bmV : List Value := [.type "ValueError", .type "Exception", .type "BaseException", .type "object"]
/-- an exception class of the text, somewhere under ValueError, without an __init__ of its own -/
structure XC (K : PySem.W.Frag) (C : Addr) : Prop where
  q : PySem.W.excIn K C bmV "ValueError.__new__" = true
theorem xc_obj {K : PySem.W.Frag} {C : Addr} {h₀ : Heap} (X : K.In h₀) (x : XC K C) : ∃ bm N nm q bs hdct sn sub ab col dd k0 k1 k2 k3 k5 mN, h₀.get? C = some (excClassObj nm q C N bs bm hdct sn sub ab col dd k0 k1 k2 k3 k5 "ValueError.__new__") ∧ h₀.Ns N mN ∧ mN "__init__" = none ∧ OwnTail h₀ bmV bm := by
  have q := x.q
  unfold PySem.W.excIn at q
  split at q
  · rename_i dd cd sl ho
    split at q
    · rename_i C' bm k0 k1 k2 k3 n k5 hm hs
      simp only [Bool.and_eq_true, beq_iff_eq, Bool.not_eq_true'] at q
      obtain ⟨⟨⟨⟨⟨rfl, rfl⟩, hdel⟩, ht⟩, hok⟩, hni⟩ := q
      obtain ⟨nm, bs, mro, ns, qn, hd, sn, sub, ab, col, del⟩ := cd
      dsimp only at hm hdel hok hni
      subst hm hdel
      have hsl : sl = #[k0, k1, k2, k3, some (.builtin "ValueError.__new__"), k5] := by
        obtain ⟨l⟩ := sl
        simp only at hs
        rw [hs]
      subst hsl
      exact ⟨bm, ns, nm, qn, bs, hd, sn, sub, ab, col, dd, k0, k1, k2, k3, k5, _, X _ _ ho, .of_isNs (PySem.W.isNs_of_in X hok), PySem.W.nsMap_none_of_in X hok hni, PySem.W.tail_of_in X ht⟩
    · cases q
  · cases q
section
variable {X : Cx} {G : GK} {x n : Str} {np cpos pos hpos : Pos} {e₀ : Expr} {es : List Expr} {t : TA}
def tRaise (X : Cx) (x : Str) (G : GK) (t : TA) : TS := fun _ σ H => ∃ C, X.mg x = some (.ref C) ∧ XC X.K C ∧ t σ H fun vs H1 => vs.length ≤ sizeLine ∧ G (.ref C) σ H1
theorem ps_raise (B : Bod X) (hc : X.calm = true) (ha : PA (X.exg G) (e₀ :: es) t) (hg : Gl X x := by rfl) (hdb : (x == ("__debug__" : Str)) = false := by decide)
    (he : starEach (e₀ :: es) X.env = (false, eval e₀ X.env) :: starEach es X.env := by rfl) (hpl : (backTo cpos (starEach es X.env)).any (·.1) = false := by rfl) :
    PS (X.exg G) (.Raise (some (.Call (.Name x np) (e₀ :: es) [] cpos)) none pos) (tRaise X x G t) := by
  intro pins s σ H D I h
  obtain ⟨C, hm, xc, h⟩ := h
  obtain ⟨tl, N, nm, q, bs, hdct, sn, sub, ab, col, dd, k0, k1, k2, k3, k5, mN, hC, hN, hni, T⟩ := xc_obj I.ok.mod.kin xc
  refine wpAny_Raise_call_subT (C := C) (nm := nm) (q := q) (N := N) (bs := bs) (bm := tl) (hdct := hdct) (sn := sn) (sub := sub) (ab := ab) (col := col) (dd := dd) (k0 := k0) (k1 := k1) (k2 := k2) (k3 := k3) (k5 := k5)
    F.excBase_ValueError (mN := mN) (T.hasType F.excBase_ValueError.hasBase) (I.ok.hd hc) (by rw [he]; show (false || (backTo cpos (starEach es X.env)).any (·.1)) = false; rw [hpl]; rfl) hni (ld_glob I hg hm ⟨rfl, ?_⟩ hdb)
  have hA := ha cpos pins s σ H _ I h
  rw [he] at hA ⊢
  refine Calls.evalArgs_plain (thn hA fun us s2 ⟨vs, H2, I2, r, hl, g⟩ => ?_)
  exact ⟨rfl, by rw [← r.length]; exact hl, I2.bk _ _ hC, hN.keeps I2.bk, T.keeps I2.bk, fun h' a hm => xeG_of_new B I2.unwish hm g⟩
end

/-! ### try: an object's exception as a tracked thing -/
def excO (a : Addr) (cls : Value) : HO := .ext fun h => ∃ o vs, h.get? a = some o ∧ o.cls = cls ∧ o.dict = none ∧ o.data = .fields vs
theorem Exc.obj {g h : Heap} {H : Hp} {pn : List (Addr × Obj)} {a : Addr} {cls : Value} (x : Exc g h H pn a cls) : ∃ o vs, h.get? a = some o ∧ o.cls = cls ∧ o.dict = none ∧ o.data = .fields vs :=
  let ⟨oe, vs, _, _, _, h1, h2, h3, h4, _⟩ := x.ex; ⟨oe, vs, h1, h2, h3, h4⟩
section
variable {X : Cx} {pins : List (Addr × Obj)} {σ : St} {H : Hp} {s : Shared}
/-- an untracked record of ours is tracked from now on -/
theorem Inv.track {a : Addr} {u : HO} (I : Inv X pins σ H s) (Ha : H a = none) (ga : X.s₀.heap.get? a = none) (hrec : ∃ o vs, s.heap.get? a = some o ∧ o.data = .fields vs) (pa : ∀ p ∈ X.pn ++ pins, p.1 ≠ a)
    (new : ObjOk X.prog X.w (upd H a u) s.heap a u) : Inv X pins σ (upd H a u) s := by
  obtain ⟨o, vs, ho, hd⟩ := hrec
  have neL : X.env.locals ≠ a := fun z => by
    obtain ⟨m, ⟨o', es, ep, ho', hd', _⟩, _⟩ := I.loc
    rw [z, ho] at ho'; cases ho'; rw [hd'] at hd; cases hd
  have neC : ∀ x c, X.env.cells.lookup x = some c → c ≠ a := fun x c e z => by
    obtain ⟨v, o', ho', hd'⟩ := I.cell x c e
    rw [z, ho] at ho'; cases ho'; rw [hd'] at hd; cases hd
  have keep : ∀ b v, H b = some v → upd H a u b = some v := fun b v e => by
    rw [upd_ne (ne_of_none e Ha)]; exact e
  refine ⟨I.ok, I.os, I.bare, ⟨I.base.keep, I.base.slot, fun b o' e n hx => ?_, I.base.there, fun b xs e => keep b _ (I.base.tups b xs e), fun b o' v e => keep b _ (I.base.frzs b o' v e), fun b ps e => ?_⟩, I.loc, I.cell, ?_, fun x c e => ?_, fun p hp => ?_, fun b v e => ?_, I.len⟩
  · have : b ≠ a := fun z => by rw [z, ga] at e; cases e
    rw [upd_ne this]; exact I.base.free b o' e n hx
  · obtain ⟨more, q⟩ := I.base.tbls b ps e
    exact ⟨more, keep b _ q⟩
  · rw [upd_ne neL]; exact I.free
  · rw [upd_ne (neC x c e)]; exact I.freeC x c e
  · obtain ⟨e, n, ne, nf, d⟩ := I.pin p hp
    exact ⟨e, by rw [upd_ne (pa p hp)]; exact n, ne, nf, d⟩
  · by_cases hb : b = a
    · subst hb; rw [upd_same] at e; cases e; exact new
    · rw [upd_ne hb] at e
      exact (I.hok b v e).stay (fun _ _ _ q => q) (fun c q => keep c _ q) fun c xs q => keep c _ q
theorem excO_ok {a : Addr} {cls : Value} {h : Heap} (x : ∃ o vs, h.get? a = some o ∧ o.cls = cls ∧ o.dict = none ∧ o.data = .fields vs) {P : Program} {w : World} {H : Hp} : ObjOk P w H h a (excO a cls) := by
  refine ⟨x, let ⟨o, _, e, _⟩ := x; ⟨o, e⟩, fun h1 h2 p k => ?_⟩
  obtain ⟨o, vs, e, r⟩ := p
  exact ⟨o, vs, k o e, r⟩
/-- the entry's mark is taken away once more -/
theorem flight_inv {M : Model} {A : Around} {E : Value → Shared → Prop} {a : Addr} {cls : Value} {Q : Unit → Shared → Prop} (I : Inv X pins σ H s) (x : Exc X.s₀.heap s.heap H (X.pn ++ pins) a cls)
    (hQ : ∀ s', Inv X pins σ H s' → Exc X.s₀.heap s'.heap H (X.pn ++ pins) a cls → Q () s') : wpAny M A (setFlight (.ref a) none) Q E s := by
  obtain ⟨⟨oe, vs, T, oT, ts, h1, h2, h3, h4, h5, h6, h7, h8, h9, h10, h11, h12⟩, ga, Ha, pa⟩ := x
  have h3s : 3 < ts.size := (Array.getElem?_eq_some_iff.mp h9).1
  refine wpAny_setFlight_none h1 h4 h5 h7 h8 h3s ?_
  have hT := Heap.get?_update_self (Obj.mapFields (·.setIfInBounds 3 Value.none)) h7 (Obj.isFreed_of_fields (Obj.data_mapFields h8 _))
  have other : ∀ b, b ≠ T → (s.heap.update T (Obj.mapFields (·.setIfInBounds 3 Value.none))).get? b = s.heap.get? b := fun b hb => Heap.get?_update_other _ _ (Ne.symm hb)
  refine hQ _ (I.stepx (ch := [T]) (fun b hb => ?_) (fun b hb => ?_) (fun b o _ hc q => (other b (fun z => hc (by simp [z]))).trans q) (fun b o hc q => ⟨o.slots, (other b (fun z => hc (by simp [z]))).trans q⟩) fun b hb => ?_)
    ⟨⟨oe, vs, T, _, _, (other a (Ne.symm h6)).trans h1, h2, h3, h4, h5, h6, hT, Obj.data_mapFields h8 _, by simp [h3s], h10, h11, h12⟩, ga, Ha, pa⟩
  · obtain rfl : b = T := by simpa using hb
    exact ⟨h10, h11, h12⟩
  · obtain rfl : b = T := by simpa using hb
    exact ⟨oT, ts, h7, h8⟩
  · obtain rfl : b = T := by simpa using hb
    exact ⟨_, hT⟩
end
/-- the clause's suite -/
abbrev Cx.suite (X : Cx) (pn : List (Addr × Obj)) (a : Addr) : Cx := { X with pn := pn, A := X.A.mark (some (.ref a)), calm := false, xe := fun _ _ => False }
abbrev Cx.pinned (X : Cx) (pn : List (Addr × Obj)) : Cx := { X with pn := pn }
section
variable {X : Cx} {pins : List (Addr × Obj)} {σ : St} {H : Hp} {s : Shared}
theorem Inv.topn (I : Inv X pins σ H s) : Inv (X.pinned (X.pn ++ pins)) [] σ H s :=
  ⟨⟨I.ok.mod, I.ok.kind, I.ok.glob, I.ok.blt, I.ok.above, I.ok.inj, I.ok.has, I.ok.cab, I.ok.hd, I.ok.frames, I.ok.stk, I.ok.exf, I.ok.bs, I.ok.bsz, I.ok.noex, I.ok.exfs, I.ok.funs, I.ok.frf⟩,
    I.os, I.bare, I.base, I.loc, I.cell, I.free, I.freeC, fun p hp => I.pin p (by rwa [List.append_nil] at hp), I.hok, I.len⟩
theorem Inv.ofpn (I : Inv (X.pinned (X.pn ++ pins)) [] σ H s) : Inv X pins σ H s :=
  ⟨⟨I.ok.mod, I.ok.kind, I.ok.glob, I.ok.blt, I.ok.above, I.ok.inj, I.ok.has, I.ok.cab, I.ok.hd, I.ok.frames, I.ok.stk, I.ok.exf, I.ok.bs, I.ok.bsz, I.ok.noex, I.ok.exfs, I.ok.funs, I.ok.frf⟩,
    I.os, I.bare, I.base, I.loc, I.cell, I.free, I.freeC, fun p hp => I.pin p (by rw [List.append_nil]; exact hp), I.hok, I.len⟩
theorem Inv.tosuite {pn : List (Addr × Obj)} {a : Addr} (I : Inv (X.pinned pn) [] σ H s) : Inv (X.suite pn a) [] σ H s :=
  ⟨⟨I.ok.mod, I.ok.kind, I.ok.glob, I.ok.blt, I.ok.above, I.ok.inj, I.ok.has, I.ok.cab, fun h => Bool.noConfusion h, I.ok.frames, I.ok.stk, I.ok.exf, I.ok.bs, I.ok.bsz, I.ok.noex, I.ok.exfs, I.ok.funs, I.ok.frf⟩,
    I.os, I.bare, I.base, I.loc, I.cell, I.free, I.freeC, I.pin, I.hok, I.len⟩
theorem Inv.ofsuite {pn : List (Addr × Obj)} {a : Addr} (hd : X.calm = true → X.A.handled = none) (I : Inv (X.suite pn a) [] σ H s) : Inv (X.pinned pn) [] σ H s :=
  ⟨⟨I.ok.mod, I.ok.kind, I.ok.glob, I.ok.blt, I.ok.above, I.ok.inj, I.ok.has, I.ok.cab, hd, I.ok.frames, I.ok.stk, I.ok.exf, I.ok.bs, I.ok.bsz, I.ok.noex, I.ok.exfs, I.ok.funs, I.ok.frf⟩,
    I.os, I.bare, I.base, I.loc, I.cell, I.free, I.freeC, I.pin, I.hok, I.len⟩
/-- the clause's name goes -/
theorem name_goes {M : Model} {A : Around} {E : Value → Shared → Prop} {i : Nat} {n : Str} {pos : Pos} {Q : Unit → Shared → Prop} (I : Inv X pins σ H s) (hN : X.N.Nodup) (hi : X.N[i]? = some n) (hlo : X.env.kindOf n = some .local)
    (hQ : ∀ s', Inv X pins (σ.set i none) H s' → Q () s') : wpAny M A (do bindName X.env n .none; unbindBehindTheSuite X.env n pos) Q E s := by
  obtain ⟨m, hn, hl⟩ := id I.loc
  have hcls : (X.env.scope.kind == .class || (X.env.scope.kind == .module && X.env.locals != X.env.globals)) = false := by rw [I.ok.kind]; rfl
  refine wpAny_nameGoes_keeps hlo hn hcls fun h' v hn' hs => ?_
  have iσ : i < σ.length := by rw [I.len]; exact (List.getElem?_eq_some_iff.mp hi).1
  obtain ⟨oL, _, _, hoL, _⟩ := id hn
  have cne := I.cne
  refine hQ _ ⟨I.ok, I.os, I.bare, ⟨fun b o e n hb hx => ?_, fun b o e n hb hx => ?_, I.base.free, fun b o e hx => ?_, I.base.tups, I.base.frzs, I.base.tbls⟩, ⟨_, hn', fun j y v' e1 e2 e3 => ?_⟩, fun y c e => ?_, I.free, I.freeC, fun p hp => ?_, fun b ob e => ?_, by simpa using I.len⟩
  · exact (hs.2 b (Nat.ne_of_lt (Nat.lt_of_lt_of_le (Heap.lt_size e) I.ok.above))).trans (I.base.keep b o e n hb hx)
  · obtain ⟨sl, e1⟩ := I.base.slot b o e n hb hx
    exact ⟨sl, (hs.2 b (Nat.ne_of_lt (Nat.lt_of_lt_of_le (Heap.lt_size e) I.ok.above))).trans e1⟩
  · obtain ⟨o', e1⟩ := I.base.there b o e hx
    exact ⟨o', (hs.2 b (Nat.ne_of_lt (Nat.lt_of_lt_of_le (Heap.lt_size e) I.ok.above))).trans e1⟩
  · by_cases hj : j = i
    · subst hj
      rw [List.getElem?_set_self iσ] at e2
      cases e2
    · rw [List.getElem?_set_ne (Ne.symm hj)] at e2
      obtain ⟨u', r', q⟩ := hl j y v' e1 e2 e3
      refine ⟨u', r', ?_⟩
      rcases q with ⟨k, e⟩ | ⟨k, c, e, z⟩
      · refine .inl ⟨k, ?_⟩
        have : y ≠ n := fun e => hj (nodup_ix hN e1 (e ▸ hi))
        simp [this, e]
      · exact .inr ⟨k, c, e, z.sameBut hs (cne y c e)⟩
  · obtain ⟨w', z⟩ := I.cell y c e
    exact ⟨w', z.sameBut hs (cne y c e)⟩
  · obtain ⟨e, n, ne, nf, d⟩ := I.pin p hp
    exact ⟨(hs.2 p.1 ne).trans e, n, ne, nf, d⟩
  · refine (I.hok b ob e).stay (fun c w' hc q => (hs.2 c ?_).trans q) (fun _ q => q) fun _ _ q => q
    rintro rfl
    rcases hc with z | hc
    · rw [← z] at e; rw [I.free] at e; cases e
    · rw [I.free] at hc; cases hc
end
/-- the class of an exception against a clause's class -/
theorem exc_matches {K : PySem.W.Frag} {M : Model} {A : Around} {E : Value → Shared → Prop} {s : Shared} {e C D : Addr} {oe : Obj} {b : Bool} {Q : Bool → Shared → Prop} (X : K.In s.heap) (he : s.heap.get? e = some oe) (hcls : oe.cls = .ref C)
    (k1 : PySem.W.kitCls K (.ref C) (.ref D) = some b) (k2 : PySem.W.subIn K (.ref D) (.type "BaseException") = some true) (hq : Q b s) : wpAny M A (excMatches (.ref e) (.ref D)) Q E s := by
  obtain ⟨L1, L2, L3⟩ := PySem.W.kit_cls (M := M) X k1
  have L4 := PySem.W.looks_subIn (M := M) X k2
  have f := tc_notTuple
  obtain ⟨hp, g, d, tk, os⟩ := s
  unfold excMatches
  repeat (first | (with_reducible refine wpAny_loadPart_at he ?_; rw [hcls]) | with_reducible refine L1.at ?_ | with_reducible refine L2.at ?_ | with_reducible refine L3.at ?_ | with_reducible refine L4.at ?_ | wp_step)
  cases b
  · wp_walk
    exact hq
  · wp_walk
    exact hq
section
variable {X : Cx} {G : GK} {x n : Str} {np pos hpos : Pos} {i : Nat} {body suite : List Stmt} {b₀ : Stmt} {tb : List (Addr × Obj) → GK → TS} {th : List (Addr × Obj) → Addr → TS}
def tTryAs (X : Cx) (i : Nat) (x : Str) (tb : List (Addr × Obj) → GK → TS) (th : List (Addr × Obj) → Addr → TS) : TS := fun D σ H => ∃ Dc, X.mg x = some (.ref Dc) ∧ PySem.W.subIn X.K (.ref Dc) (.type "BaseException") = some true ∧
  ∀ pn, tb pn (fun cls σ' H' => ∃ C, cls = .ref C ∧ PySem.W.kitCls X.K (.ref C) (.ref Dc) = some true ∧ ∀ a, H' a = none →
    th pn a { nx := fun σ2 H2 => D.nx (σ2.set i none) H2, rt := D.rt, bk := fun σ2 H2 => D.bk (σ2.set i none) H2, ct := fun σ2 H2 => D.ct (σ2.set i none) H2 } (σ'.set i (some (.ref a))) (upd H' a (excO a (.ref C)))) D σ H
theorem ps_try_as (B : Bod X) (hc : X.calm = true) (hN : X.N.Nodup) (hi : X.N[i]? = some n) (hlo : X.env.kindOf n = some .local)
    (hb : ∀ pn G', PSs ((X.pinned pn).exg G') body (tb pn G')) (hs : ∀ pn a, PSs (X.suite pn a) (b₀ :: suite) (th pn a)) (hg : Gl X x := by rfl) (hdb : (x == ("__debug__" : Str)) = false := by decide) :
    PS (X.exg G) (.Try body [.ExceptHandler (some (.Name x np)) (some n) (b₀ :: suite) hpos] [] [] pos) (tTryAs X i x tb th) := by
  intro pins s σ H D I h
  obtain ⟨Dc, hm, hsub, h⟩ := h
  have I1 := I.unwish.topn
  refine wpAny_Try_except (wpAny_mono (hb (X.pn ++ pins) _ [] s σ H D (I1.wish _) (h (X.pn ++ pins))) (fun f s1 q => ?_) fun e s1 q => ?_)
  · cases f with
    | next =>
      obtain ⟨σ', H', J, q⟩ := q
      exact wpAny_execs_nil ⟨σ', H', J.unwish.ofpn.wish _, q⟩
    | brk => obtain ⟨σ', H', J, q⟩ := q; exact ⟨σ', H', J.unwish.ofpn.wish _, q⟩
    | cont => obtain ⟨σ', H', J, q⟩ := q; exact ⟨σ', H', J.unwish.ofpn.wish _, q⟩
    | ret u => obtain ⟨v, σ', H', J, r, q⟩ := q; exact ⟨v, σ', H', J.unwish.ofpn.wish _, r, q⟩
  · refine wpAny_mono (show wpAny _ _ _ _ _ _ from q) (fun _ s2 q2 => wpAny_mono q2 (fun _ s3 q3 => ?_) fun _ _ z => z.elim) fun _ _ z => z.elim
    obtain ⟨a, cls, σ', H', rfl, J, xx, C, rfl, hk, hth⟩ := q3
    have J2 : Inv (X.suite (X.pn ++ pins) a) [] σ' H' s3 := J.tosuite
    obtain ⟨oe, vs, he, hcls, _, _⟩ := xx.obj
    refine wpAny_handleBy_cons (codeAny_handlers_test (ld_glob J2 hg hm (exc_matches J2.kIn he hcls hk hsub ?_) hdb)) (by intro z; cases z)
    refine codeAny_handlers_suite_as ?_
    refine flight_inv J2 (xx.less fun p hp => by rwa [List.append_nil] at hp) fun s4 J4 x4 => ?_
    have J5 := J4.track (u := excO a (.ref C)) x4.Ha x4.ga (let ⟨o, vs, e, _, _, d⟩ := x4.obj; ⟨o, vs, e, d⟩) x4.pa (excO_ok x4.obj)
    refine store_ok (X := X.suite (X.pn ++ pins) a) (v := .ref a) J5 hN hi (Or.inl hlo) rfl (fun s5 J6 => ?_) (Or.inr hlo)
    refine wpAny_mono (hs (X.pn ++ pins) a [] s5 _ _ _ J6 (hth a xx.Ha)) (fun f s6 q6 => ?_) fun _ _ z => False.elim z
    cases f with
    | next =>
      obtain ⟨σ7, H7, J7, q7⟩ := q6
      exact name_goes (X := X.suite (X.pn ++ pins) a) J7 hN hi hlo fun s8 J8 => ⟨_, H7, (J8.ofsuite I.ok.hd).ofpn.wish _, q7⟩
    | brk =>
      obtain ⟨σ7, H7, J7, q7⟩ := q6
      exact name_goes (X := X.suite (X.pn ++ pins) a) J7 hN hi hlo fun s8 J8 => ⟨_, H7, (J8.ofsuite I.ok.hd).ofpn.wish _, q7⟩
    | cont =>
      obtain ⟨σ7, H7, J7, q7⟩ := q6
      exact name_goes (X := X.suite (X.pn ++ pins) a) J7 hN hi hlo fun s8 J8 => ⟨_, H7, (J8.ofsuite I.ok.hd).ofpn.wish _, q7⟩
    | ret u =>
      obtain ⟨v, σ7, H7, J7, r7, q7⟩ := q6
      exact name_goes (X := X.suite (X.pn ++ pins) a) J7 hN hi hlo fun s8 J8 => ⟨v, _, H7, (J8.ofsuite I.ok.hd).ofpn.wish _, r7, q7⟩
end
/-! ### the defs as the top has made them -/
structure FA (K : PySem.W.Frag) (mg : Str → Option Value) (x : Str) (st : Stmt) (ps : List Str) : Prop where
  ex : ∃ f fd, Fun K x x st f fd ∧ mg x = some (.ref f) ∧ Binds K fd ps []
theorem FA.cal {P : Program} {w : World} {K : PySem.W.Frag} {mg : Str → Option Value} {base : Heap} {x : Str} {st : Stmt} {ps : List Str} {k : Nat} {sp : Sp} (h : FA K mg x st ps) (ok : ∀ {f fd}, Fun K x x st f fd → FnOk P w K mg base (CXr P w) k f fd ps sp) :
    Cal P w K mg base x k ps [] sp := let ⟨f, fd, F, m, b⟩ := h.ex; ⟨f, fd, [], ok F, m, F.kp, b, .nil⟩
theorem fa_mk {K : PySem.W.Frag} {mg : Str → Option Value} {h : Heap} {x : Str} {st : Stmt} {ps : List Str} {f : Addr} {oc : Value} {od an : Option Addr} {osl : Array (Option Value)} {kV doc pm cdv ct : Value} (X : K.In h) (G : h.Ns mainGlobals mg)
    (a : PySem.W.nsIn K mainGlobals x = some (some (.ref f))) (l : K.lookup f = some ⟨oc, od, .func (PySem.W.fnOf x x (defArgs st) (defBody st) (defScope st) .none kV doc pm an cdv ct), osl⟩)
    (c : PySem.W.codeIn K cdv x = true) (k : PySem.W.keepIn K (.ref f) = true)
    (hb : ∀ (kV doc pm : Value) (an : Option Addr) (cdv ct : Value) (us : List Value), us.length = ps.length → bindArgs (PySem.W.fnOf x x (defArgs st) (defBody st) (defScope st) .none kV doc pm an cdv ct) ⟨us, []⟩ = pure (ps.zip us)) : FA K mg x st ps :=
  ⟨f, _, fun_mk l c k, PySem.W.mg_of X G a, (fun_mk l c k).binds hb⟩
theorem cxr_false {P : Program} {w : World} {H : Hp} {s : Shared} {e : Value} {s' : Shared} (h : CXr P w [] H s (fun _ _ _ => False) e s') : False := let ⟨_, _, _, _, _, _, _, _, _, z⟩ := h; z
end L2

namespace L2
open PySem PySem.Spec PySem.Calls PyProof.Rows
/-- what the written part says of an exception class, for isinstance -/
structure XI (K : PySem.W.Frag) (C : Addr) : Prop where
  ga : PySem.W.findIn K (.ref C) "__getattribute__" = some (some (.builtin "BaseException.__getattribute__"))
  gt : PySem.W.findIn K (.ref C) "__getattr__" = some none
  cl : PySem.W.findIn K (.ref C) "__class__" = some (some (.builtin "object.__class__"))
  hd : PySem.W.hasDictIn K C = true
  gn : PySem.W.specialIn K (.builtin "object.__class__") "__get__" = some (some (.builtin "getset_descriptor.__get__"))
  tk : PySem.W.takesIn K (.builtin "object.__class__") = some true
  mo : PySem.W.mroIn K C (.type "object") = some true
  mb : PySem.W.subIn K (.ref C) (.type "BaseException") = some true
section
variable {prog : Program} {w : World} {A : Around} {E : Value → Shared → Prop} {s : Shared} {K : PySem.W.Frag} {a C : Addr} {o : Obj} {vs : Array Value}
theorem exc_inst {hp : Heap} (hx : hp.get? a = some o) (hc : o.cls = .ref C) (hd : o.dict = none) (hv : o.data = .fields vs) : PySem.W.InstAt hp a o C none := by
  refine ⟨hx, hc, ?_, ?_⟩
  · obtain ⟨c, d, dt, sl⟩ := o
    simp only at hv
    subst hv
    rfl
  · rw [hd]
    trivial
theorem exc_class {Q : Option Value → Shared → Prop} (X : K.In s.heap) (f : XI K C) (hx : s.heap.get? a = some o) (hc : o.cls = .ref C) (hd : o.dict = none) (hv : o.data = .fields vs)
    (h : Q (some (.ref C)) { s with toks := s.toks + 1 }) : wpAny (model prog w) A (getAttr? (.ref a) "__class__") Q E s := by
  have I := exc_inst hx hc hd hv
  have hf : PySem.W.findObj K C none "__class__" = some (.bind (.builtin "getset_descriptor.__get__") (.builtin "object.__class__")) := by
      obtain ⟨cd, hcd, _⟩ := PySem.W.any_some f.hd
      simp [PySem.W.findObj, hcd, f.cl, f.gn, f.tk]
  obtain ⟨hh, g, d, t, os⟩ := s
  have T0 := I.type (M := model prog w)
  have T1 := PySem.W.looks_findIn (M := model prog w) X f.ga
  have T2 := PySem.W.looks_find (M := model prog w) X I hf
  have T3 := PySem.W.looks_findIn (M := model prog w) X f.gt
  have T4 := PySem.W.looks_subIn (M := model prog w) X f.mb
  have f3 := F.attr_ValueError.ga.bind (.ref a)
  unfold getAttr? getAttrBy? getAttrBy
  refine wpAny_bind (wpAny_mkText (wpAny_bind (wpAny_attempt (wpAny_holding (wpAny_bind (T0.at (wpAny_bind (T1.at ?_))))))))
  dsimp only
  have nga : (onTheHeap (Value.ref C) && Value.builtin "BaseException.__getattribute__" == Value.builtin "object.__getattribute__") = false := by
    have z : (Value.builtin "BaseException.__getattribute__" == Value.builtin "object.__getattribute__") = false := by decide +kernel
    rw [z, Bool.and_false]
  rw [nga, if_neg Bool.false_ne_true]
  unfold getAttrByItsOwn
  repeat (any_goals (first | assumption | with_reducible refine T0.at ?_ | with_reducible refine T3.at ?_ | with_reducible refine T1.at ?_ | wp_step))
  refine codeAny_call_builtin F.attr_ValueError.ga.plain F.entry_bexc_ga ?_
  have hk : builtinKind "BaseException.__getattribute__" = some .slot := by decide +kernel
  have hsp : splitId "BaseException.__getattribute__" = some ("BaseException", "__getattribute__") := by decide +kernel
  have hav := F.args_bexc_ga (.ref a) (Value.str (Str.ofString "__class__") t)
  simp only [checkBuiltinCall, hk, hsp]
  refine wpAny_bind ?_
  unfold isInstance
  repeat (first | with_reducible refine T2.at ?_ | with_reducible refine T0.at ?_ | with_reducible refine T4.at ?_ | wp_step)
  refine PySem.W.class_get (s := ⟨hh, g, d, t + 1, os⟩) (ox := o) (od := none) X I f.mo ?_
  refine wpAny_pure ?_
  refine PySem.W.handed_on rfl ?_
  exact wpAny_pure h
theorem kitx_exc {vs : Array Value} (f : XI K C) : PySem.W.KitX K (.ref a) (.ref C) (fun h => ∃ o vs, h.get? a = some o ∧ o.cls = .ref C ∧ o.dict = none ∧ o.data = .fields vs) where
  ty := fun M h _ ⟨o, vs, e, c, d, v⟩ => (exc_inst e c d v).type
  it := fun _ _ X _ => by
    obtain ⟨cd, hcd, _⟩ := PySem.W.any_some f.hd
    unfold PySem.W.clsIn at hcd
    split at hcd
    · rename_i c' d' cd' sl' ho
      intro A' Q' E' s' k q
      unfold isType loadHead
      exact wpAny_bind (wpAny_loadPart (k _ _ (X _ _ ho)) (wpAny_pure q))
    · cases hcd
  ne := fun h tp dd its n sl X htp => by
    obtain ⟨cd, hcd, _⟩ := PySem.W.any_some f.hd
    refine Bool.eq_false_iff.mpr fun q => ?_
    have e : C = tp := Value.ref.inj (beq_iff_eq.mp q)
    subst e
    unfold PySem.W.clsIn at hcd
    split at hcd
    · rename_i ho
      have z := (X _ _ ho).symm.trans htp
      cases z
    · cases hcd
  ca := fun X ⟨o, vs, e, c, d, v⟩ k => exc_class X f e c d v k
end
/-! ### isinstance, of anything, against one class or a tuple of them -/
inductive TyX (K : PySem.W.Frag) (H : Hp) : V → Value → Prop where
  | old {x : V} {t : Value} (h : TyOf K H x t) : TyX K H x t
  | exc {a C : Addr} (h : H a = some (excO a (.ref C))) (f : XI K C) : TyX K H (.ref a) (.ref C)
def clsVs : List V → Option (List Value)
  | [] => some []
  | c :: r => match clsV c, clsVs r with
    | some u, some us => some (u :: us)
    | _, _ => none
theorem clsV_of {c : V} {u v : Value} (h : clsV c = some u) (r : RelV c v) : v = u := by
  cases c with
  | ty n => cases r; exact Option.some.inj h
  | ref a => cases r; exact Option.some.inj h
  | _ => cases h
theorem clsVs_of : ∀ {cs : List V} {us vs : List Value}, clsVs cs = some us → Vals cs vs → vs = us
  | [], _, _, h, .nil => Option.some.inj h
  | c :: r, us, v :: vs, h, .cons rc rr => by
    unfold clsVs at h
    split at h
    · rename_i u us' h1 h2
      cases h
      rw [clsV_of h1 rc, clsVs_of h2 rr]
    · cases h
theorem kit_of {X : Cx} {pins : List (Addr × Obj)} {σ : St} {H : Hp} {s : Shared} {x : V} {u t : Value} (I : Inv X pins σ H s) (rx : RelV x u) (ty : TyX X.K H x t) :
    ∃ Hx : Heap → Prop, PySem.W.KitX X.K u t Hx ∧ Hx s.heap ∧ u ≠ .builtin "__main__.__loader__#opaque" := by
  cases ty with
  | @exc a C ea f =>
    cases (show u = Value.ref a from rx)
    obtain ⟨p, _⟩ := (show ObjOk X.prog X.w H s.heap a (excO a (.ref C)) from I.hok a _ ea)
    exact ⟨_, kitx_exc (vs := #[]) f, p, fun z => nomatch z⟩
  | old ty =>
    cases ty with
    | non => cases (show u = Value.none from rx); exact ⟨_, PySem.W.kitx_none, True.intro, fun z => nomatch z⟩
    | bl y => cases (show u = Value.bool y from rx); exact ⟨_, PySem.W.kitx_bool, True.intro, fun z => nomatch z⟩
    | int i => obtain ⟨t, q⟩ := (show ∃ t, u = Value.int i t from rx); cases q; exact ⟨_, PySem.W.kitx_int, True.intro, fun z => nomatch z⟩
    | str y => obtain ⟨t, q⟩ := (show ∃ t, u = Value.str y t from rx); cases q; exact ⟨_, PySem.W.kitx_str, True.intro, fun z => nomatch z⟩
    | flt y => obtain ⟨t, q⟩ := (show ∃ t, u = Value.float y t from rx); cases q; exact ⟨_, PySem.W.kitx_float, True.intro, fun z => nomatch z⟩
    | @lst a xs ea =>
      cases (show u = Value.ref a from rx)
      obtain ⟨_, _, n, _, h1⟩ := (show ObjOk X.prog X.w H s.heap a (.lst xs) from I.hok a _ ea)
      exact ⟨_, PySem.W.kitx_list, ⟨_, h1, rfl⟩, fun z => nomatch z⟩
    | @frz a ob xs ea =>
      cases (show u = Value.ref a from rx)
      obtain ⟨_, _, _, n, _, h1⟩ := (show ObjOk X.prog X.w H s.heap a (.frz ob (.lst xs)) from I.hok a _ ea)
      exact ⟨_, PySem.W.kitx_list, ⟨_, h1, rfl⟩, fun z => nomatch z⟩
    | @tup a xs ea =>
      cases (show u = Value.ref a from rx)
      obtain ⟨_, _, _, p⟩ := (show ObjOk X.prog X.w H s.heap a (.tup xs) from I.hok a _ ea)
      obtain ⟨o, h1, h2, _⟩ := p
      exact ⟨_, PySem.W.kitx_tuple, ⟨o, h1, h2⟩, fun z => nomatch z⟩
    | @dK a kvs ea =>
      cases (show u = Value.ref a from rx)
      obtain ⟨_, _, vs, _, p⟩ := (show ObjOk X.prog X.w H s.heap a (.dK kvs) from I.hok a _ ea)
      obtain ⟨o, es, ep, h1, h2, _⟩ := p
      exact ⟨_, PySem.W.kitx_dict, ⟨o, h1, h2.1⟩, fun z => nomatch z⟩
    | @dT a kvs ea =>
      cases (show u = Value.ref a from rx)
      obtain ⟨_, _, xs, _, o, es, ep, h1, h2, _⟩ := (show ObjOk X.prog X.w H s.heap a (.dT kvs) from I.hok a _ ea)
      exact ⟨_, PySem.W.kitx_dict, ⟨o, h1, h2.1⟩, fun z => nomatch z⟩
    | @ins a C dx fs ea cl ha hn htk hm =>
      cases (show u = Value.ref a from rx)
      obtain ⟨mA, O, _⟩ := ins_get I.hok ea
      obtain ⟨od, J, _⟩ := O.look
      exact ⟨_, PySem.W.kitx_own (cl.get _) cl.hd ha hn htk hm, J, fun z => nomatch z⟩
def rIsi (K : PySem.W.Frag) : List V → Hp → VK → Prop := fun xs H Q => ∃ x c t b, xs = [x, c] ∧ TyX K H x t ∧ ((∃ u, clsV c = some u ∧ PySem.W.kitOne K t u = some b) ∨ (∃ p cs us, c = .ref p ∧ H p = some (.tup cs) ∧ clsVs cs = some us ∧ PySem.W.kitAny K t us = some b)) ∧ Q (.bl b) H
theorem bi_isi {X : Cx} : CallR X (.builtin "isinstance") (rIsi X.K) := by
  intro pins s σ H xs us Q I r h
  obtain ⟨x, c, t, b, rfl, ty, hc, q⟩ := h
  obtain ⟨v, v2, rfl, rx, rc⟩ := r.two
  obtain ⟨Hx, Z, p, nx⟩ := kit_of I rx ty
  rcases hc with ⟨u, hu, e⟩ | ⟨pt, cs, us, rfl, hp, hu, e⟩
  · obtain rfl := clsV_of hu rc
    exact PySem.W.kia_one Z I.kIn p e nx fun tk => ⟨.bl b, H, I.tok tk, rfl, q⟩
  · cases rc
    obtain ⟨_, its, rv, o, h1, h2, n, h3⟩ := (show ObjOk X.prog X.w H s.heap pt (.tup cs) from I.hok pt _ hp)
    obtain rfl := clsVs_of hu rv
    obtain ⟨cl, dd, dt, sl⟩ := o
    simp only at h2 h3
    subst h2 h3
    exact PySem.W.kia_tup Z I.kIn p h1 e nx fun tk => ⟨.bl b, H, I.tok tk, rfl, q⟩
theorem kitCls_of {K : PySem.W.Frag} {t : Value} {D : Addr} {b : Bool} (h1 : PySem.W.hasDictIn K D = true) (h2 : PySem.W.typeIn K (.ref D) = some (.type "type")) (h3 : PySem.W.subIn K t (.ref D) = some b) : PySem.W.kitCls K t (.ref D) = some b := by
  obtain ⟨cd, hcd, _⟩ := PySem.W.any_some h1
  simp [PySem.W.kitCls, hcd, h2, h3]
/-! ### classes and methods as the top has made them -/
structure FK (K : PySem.W.Frag) (C : Addr) (qual : Str) (st : Stmt) (ps : List Str) : Prop where
  ex : ∃ f fd, Fun K "__init__" qual st f fd ∧ Mk K C f ∧ Binds K fd ps []
structure FM (K : PySem.W.Frag) (C : Addr) (m qual : Str) (st : Stmt) (ps : List Str) : Prop where
  ex : ∃ f fd, Fun K m qual st f fd ∧ Meth K C m f ∧ Binds K fd ps []
theorem FK.cal {P : Program} {w : World} {K : PySem.W.Frag} {mg : Str → Option Value} {base : Heap} {x : Str} {C : Addr} {qual : Str} {st : Stmt} {ps : List Str} {k : Nat} {sp : Sp} (h : FK K C qual st ps) (gl : mg x = some (.ref C))
    (ok : ∀ {f fd}, Fun K "__init__" qual st f fd → FnOk P w K mg base (CXr P w) k f fd ps sp) : KCal P w K mg base x C k ps [] sp := let ⟨f, fd, F, m, b⟩ := h.ex; ⟨gl, f, fd, [], ok F, m, b, .nil⟩
theorem FM.cal {P : Program} {w : World} {K : PySem.W.Frag} {mg : Str → Option Value} {base : Heap} {C : Addr} {m qual : Str} {st : Stmt} {ps : List Str} {k : Nat} {sp : Sp} (h : FM K C m qual st ps) (cl : Cls K C)
    (ok : ∀ {f fd}, Fun K m qual st f fd → FnOk P w K mg base (CXr P w) k f fd ps sp) : MCal P w K mg base C m k ps [] sp := let ⟨f, fd, F, mm, b⟩ := h.ex; ⟨cl, f, fd, [], ok F, mm, b, .nil⟩
theorem fk_mk {K : PySem.W.Frag} {C : Addr} {qual : Str} {st : Stmt} {ps : List Str} {f : Addr} {oc : Value} {od an : Option Addr} {osl : Array (Option Value)} {kV doc pm cdv ct : Value} (mk : PySem.W.makesIn K C = true) (kc : PySem.W.keepIn K (.ref C) = true)
    (a : PySem.W.findIn K (.ref C) "__init__" = some (some (.ref f))) (i : PySem.W.isFn K (.ref f) = true) (l : K.lookup f = some ⟨oc, od, .func (PySem.W.fnOf "__init__" qual (defArgs st) (defBody st) (defScope st) .none kV doc pm an cdv ct), osl⟩)
    (c : PySem.W.codeIn K cdv qual = true) (k : PySem.W.keepIn K (.ref f) = true)
    (hb : ∀ (kV doc pm : Value) (an : Option Addr) (cdv ct : Value) (us : List Value), us.length = ps.length → bindArgs (PySem.W.fnOf "__init__" qual (defArgs st) (defBody st) (defScope st) .none kV doc pm an cdv ct) ⟨us, []⟩ = pure (ps.zip us)) : FK K C qual st ps :=
  ⟨f, _, fun_mk l c k, ⟨mk, a, i, kc⟩, (fun_mk l c k).binds hb⟩
theorem fm_mk {K : PySem.W.Frag} {C : Addr} {m qual : Str} {st : Stmt} {ps : List Str} {f : Addr} {oc : Value} {od an : Option Addr} {osl : Array (Option Value)} {kV doc pm cdv ct : Value}
    (a : PySem.W.findIn K (.ref C) m = some (some (.ref f))) (i : PySem.W.isFn K (.ref f) = true) (l : K.lookup f = some ⟨oc, od, .func (PySem.W.fnOf m qual (defArgs st) (defBody st) (defScope st) .none kV doc pm an cdv ct), osl⟩)
    (c : PySem.W.codeIn K cdv qual = true) (k : PySem.W.keepIn K (.ref f) = true)
    (hb : ∀ (kV doc pm : Value) (an : Option Addr) (cdv ct : Value) (us : List Value), us.length = ps.length → bindArgs (PySem.W.fnOf m qual (defArgs st) (defBody st) (defScope st) .none kV doc pm an cdv ct) ⟨us, []⟩ = pure (ps.zip us)) : FM K C m qual st ps :=
  ⟨f, _, fun_mk l c k, ⟨a, i, k⟩, (fun_mk l c k).binds hb⟩
/-- what isinstance asks of an own class -/
structure WI (K : PySem.W.Frag) (C : Addr) : Prop where
  c : PySem.W.findIn K (.ref C) "__class__" = some (some (.builtin "object.__class__"))
  m : PySem.W.mroIn K C (.type "object") = some true
  g : PySem.W.specialIn K (.builtin "object.__class__") "__get__" = some (some (.builtin "getset_descriptor.__get__"))
  t : PySem.W.takesIn K (.builtin "object.__class__") = some true
theorem WI.ty {K : PySem.W.Frag} {H : Hp} {a C dx : Addr} {fs : List (Str × V)} (f : WI K C) (cl : Cls K C) (h : H a = some (.ins C dx fs)) : TyX K H (.ref a) (.ref C) := .old (.ins h cl f.c f.g f.t f.m)
end L2

namespace L2
open PySem PySem.Spec PySem.Calls PyProof.Rows
section
variable {prog : Program} {w : World} {A : Around} {E : Value → Shared → Prop} {s : Shared}
theorem args_sumK (a b : Value) : argsOk "sum" ⟨[a], [(("start" : Str), b)]⟩ := by unfold argsOk; kernel_rfl
theorem pre_list {ns : List Int} : ∀ k, k ≤ ns.length → preSum (fun i => ns[i]?.getD 0) k = (ns.take k).sum
  | 0, _ => by simp [preSum]
  | k + 1, h => by
    have h2 : k < ns.length := h
    rw [preSum, pre_list k (by omega), List.take_succ, List.sum_append, List.getElem?_eq_getElem h2]
    simp
theorem vals_intAt : ∀ {ns : List Int} {its : List Value}, Vals (ns.map V.int) its → ∀ (i : Nat) (v : Value), its[i]? = some v → ∃ t, v = .int (ns[i]?.getD 0) t
  | [], _, .nil, i, v, h => by simp at h
  | n :: ns, _, .cons (b := y) ⟨t, e⟩ r, 0, v, h => by
    have : y = v := by simpa using h
    exact ⟨t, by rw [← this, e]; rfl⟩
  | n :: ns, _, .cons _ r, i + 1, v, h => by
    obtain ⟨t, e⟩ := vals_intAt r i v (by simpa using h)
    exact ⟨t, by simpa using e⟩
/-- sum(xs, start=c): c nought, or no items -/
theorem sum_start {l : Addr} {its : List Value} {ns : List Int} {c : Int} {u : Tok} {Q : Value → Shared → Prop} (hh : A.handled = none) (hl : s.heap.IsList l its.toArray) (hi : Vals (ns.map V.int) its) (hc : c = 0 ∨ ns = [])
    (h : ∀ h' tk t', (∀ b o, s.heap.get? b = some o → h'.get? b = some o) → Q (.int (c + ns.sum) t') { s with heap := h', toks := tk }) :
    wpAny (model prog w) A (call (.builtin "sum") [.ref l] [(("start" : Str), .int c u)]) Q E s := by
  have hlt : l < s.heap.objs.size := by obtain ⟨_, e, _⟩ := hl; exact Heap.lt_size e
  have hlen : ns.length = its.length := by simpa using hi.length
  refine wpAny_call (codeAny_call_builtin F.plain_sum F.entry_sum ?_)
  simp only [checkBuiltinCall, F.kind_sum]
  have ha := args_sumK (.ref l) (.int c u)
  refine wpAny_of_eq (a := ()) ?_ ?_
  · unfold argsOk at ha
    split
    · next sg e => rw [e] at ha; exact ha
    · rfl
  unfold Builtin.«sum»
  simp only [List.length_cons, List.length_nil]
  rw [if_neg (by decide)]
  refine wpAny_bind (wpAny_of_eq (show Builtin.Builtins.bindParams "sum" ["start"] 0 ⟨[], [(("start" : Str), .int c u)]⟩ = pure [some (.int c u)] from rfl) ?_)
  refine wpAny_bind (wpAny_pyIter_list hl ?_)
  simp only
  have hn : s.heap.objs.size ≠ l := Nat.ne_of_gt hlt
  have W := Walks.list (prog := prog) (w := w) (A := A.in1) hh s.heap.objs.size l (Nat.ne_of_lt hlt) its.toArray
  have fin : ∀ (sg : Int) (t : Tok) (tk : Nat), sg = 0 ∨ sg = 2 → codeAny (model prog w) A
      (.builtin "sum.loop" ⟨[.ref s.heap.objs.size, .ref (s.heap.objs.size + 1), rawInt sg, rawInt 0], []⟩)
      (fun r s' => match r with | .ok (.ret v) => Q v s' | .ok _ => False | .error e => E e s')
      { s with heap := (s.heap.push { cls := .type "list_iterator", data := .fields #[.ref l, .int 0 0] }).push { cls := .type "list", data := .seq #[.int c t] 0 }, toks := tk } := by
    intro sg t tk hsg
    have hsz : (s.heap.push { cls := .type "list_iterator", data := .fields #[.ref l, .int 0 0] }).objs.size = s.heap.objs.size + 1 := Heap.size_push ..
    have hS := Heap.get?_push_size (s.heap.push { cls := .type "list_iterator", data := .fields #[.ref l, .int 0 0] }) (o := { cls := .type "list", data := .seq #[.int c t] 0 }) rfl
    rw [hsz] at hS
    have st1 : (s.heap.push { cls := .type "list_iterator", data := .fields #[.ref l, .int 0 0] }).IsListIter s.heap.objs.size l 0 ∧ (s.heap.push { cls := .type "list_iterator", data := .fields #[.ref l, .int 0 0] }).IsList l its.toArray :=
      ⟨⟨_, Heap.get?_push_size _ rfl, rfl, rfl⟩, hl.push _⟩
    have st0 := W.frame 0 _ ((s.heap.push { cls := .type "list_iterator", data := .fields #[.ref l, .int 0 0] }).push { cls := .type "list", data := .seq #[.int c t] 0 }) st1 fun b _ o e => Heap.get?_push_of_some _ e
    have old : ∀ h' : Heap, (∀ b o, b ≠ s.heap.objs.size → b ≠ s.heap.objs.size + 1 → ((s.heap.push { cls := .type "list_iterator", data := .fields #[.ref l, .int 0 0] }).push { cls := .type "list", data := .seq #[.int c t] 0 }).get? b = some o → h'.get? b = some o) → ∀ b o, s.heap.get? b = some o → h'.get? b = some o := fun h' hk b o e => by
      have hb := Heap.lt_size e
      exact hk b o (Nat.ne_of_lt hb) (Nat.ne_of_lt (Nat.lt_succ_of_lt hb)) (Heap.get?_push_of_some _ (Heap.get?_push_of_some _ e))
    have hSf : s.heap.objs.size + 1 ∉ [s.heap.objs.size, l] := fun hm => by
      rcases List.mem_cons.mp hm with e | hm
      · exact absurd e (Nat.succ_ne_self _)
      · exact absurd (List.mem_singleton.mp hm) (Nat.ne_of_gt (Nat.lt_succ_of_lt hlt))
    rcases hc with z | z
    · subst z
      refine codeAny_sum_loopG W (fun i => ns[i]?.getD 0) (fun i v e => vals_intAt hi i v (by simpa using e)) (s.heap.objs.size + 1) hSf its.toArray.size 0 _ t 0 sg hsg rfl (Nat.zero_le _) st0 hS fun h' tk' t' hk => ?_
      have e0 := pre_list (ns := ns) ns.length (Nat.le_refl _)
      rw [List.take_length] at e0
      have e1 : its.toArray.size = ns.length := by rw [List.size_toArray, hlen]
      rw [e1, e0, ← Int.zero_add ns.sum]
      exact h h' tk' t' (old h' fun b o h1 h2 e => hk b o (by simpa using h1) h2 e)
    · subst z
      have z2 : its = [] := List.eq_nil_of_length_eq_zero hlen.symm
      subst z2
      have h0 : c + ([] : List Int).sum = c := by simp
      rw [h0] at h
      refine codeAny_builtin F.entry_sum_loop ?_
      rw [Around.under_plainId F.plain_sum_loop]
      show wpAny _ _ (seqItems? (.ref (s.heap.objs.size + 1)) >>= _) _ _ _
      refine wpAny_bind (wpAny_seqItems hS rfl ?_)
      show wpAny _ _ (tryCatch (pyNext (.ref s.heap.objs.size)) _ >>= _) _ _ _
      refine wpAny_bind (wpAny_tryCatch (W.done _ _ _ st0 fun h' tk' hk => ?_))
      exact wpAny_pure (h h' tk' t (old h' fun b o h1 _ e => hk b o (by simpa using h1) e))
  split
  · refine wpAny_bind (wpAny_rule (wpAny_bind (wpAny_mkInt (wpAny_bind (wpAny_pure ?_)))))
    simp only [List.forIn_cons, List.forIn_nil]
    refine wpAny_bind (wpAny_bind (wpAny_bind (wpAny_isInstance (b := false) (typeIs_int _ _ _) PySem.sub_int_str ?_)))
    rw [if_neg (by decide)]
    refine wpAny_pure (wpAny_bind (wpAny_bind (wpAny_isInstance (b := false) (typeIs_int _ _ _) PySem.sub_int_bytes ?_)))
    rw [if_neg (by decide)]
    refine wpAny_pure (wpAny_bind (wpAny_bind (wpAny_isInstance (b := false) (typeIs_int _ _ _) PySem.sub_int_bytearray ?_)))
    rw [if_neg (by decide)]
    refine wpAny_pure (wpAny_pure (wpAny_bind (wpAny_newObj_type ?_)))
    refine wpAny_pure ⟨plainId_quiet F.plain_sum_loop _, ?_⟩
    have := fin 0 s.toks (s.toks + 1) (.inl rfl)
    simp only [Heap.size_push]
    exact this
  · refine wpAny_bind (wpAny_pure ?_)
    simp only [List.forIn_cons, List.forIn_nil]
    refine wpAny_bind (wpAny_bind (wpAny_bind (wpAny_isInstance (b := false) (typeIs_int _ _ _) PySem.sub_int_str ?_)))
    rw [if_neg (by decide)]
    refine wpAny_pure (wpAny_bind (wpAny_bind (wpAny_isInstance (b := false) (typeIs_int _ _ _) PySem.sub_int_bytes ?_)))
    rw [if_neg (by decide)]
    refine wpAny_pure (wpAny_bind (wpAny_bind (wpAny_isInstance (b := false) (typeIs_int _ _ _) PySem.sub_int_bytearray ?_)))
    rw [if_neg (by decide)]
    refine wpAny_pure (wpAny_pure (wpAny_bind (wpAny_newObj_type ?_)))
    refine wpAny_pure ⟨plainId_quiet F.plain_sum_loop _, ?_⟩
    have := fin 2 u s.toks (.inr rfl)
    simp only [Heap.size_push]
    exact this
end
section
variable {X : Cx} {a e : Expr} {ta : TA} {te : TE} {pos p kp : Pos}
/-- sum(xs, start=e) -/
def tSumK (X : Cx) (ta : TA) (te : TE) : TE := fun σ H Q => X.mg "sum" = none ∧ ta σ H fun vs H1 => te σ H1 fun y H2 => ∃ l ns c, vs = [.ref l] ∧ y = .int c ∧ SqL X.K H2 l (ns.map V.int) ∧ (c = 0 ∨ ns = []) ∧ Q (.int (c + ns.sum)) H2
theorem pe_sumK (ha : PA X [a] ta) (he : PE X e te) (hh : X.A.handled = none) (hg : Gl X "sum" := by rfl) (hs : starEach [a] X.env = (false, eval a X.env) :: starEach [] X.env := by rfl) :
    PE X (.Call (.Name "sum" p) [a] [⟨some "start", e, kp⟩] pos) (tSumK X ta te) := by
  intro pins s σ H Q I h
  refine wpAny_Call_Name_kw (ld_blt I hg h.1 bo_sum ?_)
  refine callWith_kw (he := by rw [hs]; rfl) (hplain := by rw [hs]; rfl) ?_
  refine thn (ha pos pins s σ H _ I h.2) fun us s1 ⟨vs, H1, I1, r1, q1⟩ => ?_
  refine kws_cons ?_
  refine thn (he pins s1 σ H1 _ I1 q1) fun v s2 ⟨y, H2, I2, r2, q2⟩ => ?_
  refine kws_nil ?_
  obtain ⟨l, ns, c, rfl, rfl, hq, hc, q⟩ := q2
  obtain ⟨u, rfl, rx⟩ := vals1 r1
  cases rx
  obtain ⟨t, rfl⟩ := r2
  obtain ⟨its, rv, pl, hz⟩ := I2.list hq
  show wpAny _ _ (call (.builtin "sum") [.ref l] [(("start" : Str), .int c t)]) _ _ _
  refine sum_start hh pl.isList rv hc fun h' tk t' hk => ?_
  exact ⟨.int _, H2, I2.kept (t' := tk) hk, ⟨_, rfl⟩, q⟩
theorem sl_any : SlR X (rSlL X.K) := sl_list
theorem bt_list : CallR X (.type "list") (fun xs H Q => ∃ p ys, xs = [.ref p] ∧ (SqL X.K H p ys ∨ SqT X.K H p ys) ∧ ∀ l, H l = none → Q (.ref l) (upd H l (.lst ys))) := call_list_of
theorem bt_int : CallR X (.type "int") (fun xs H Q => (∃ i, xs = [.int i] ∧ Q (.int i) H) ∨ ∃ k, xs = [.bl k] ∧ Q (.int (if k then 1 else 0)) H) := call_int1
theorem cut_ints (ns : List Int) (lo hi : Option Int) : ∃ ms : List Int, cutV (ns.map V.int) lo hi = ms.map V.int ∧ ms.length ≤ ns.length := by
  refine ⟨(ns.drop (HT.sIx (ns.map V.int).length 0 lo)).take (HT.sIx (ns.map V.int).length (ns.map V.int).length hi - HT.sIx (ns.map V.int).length 0 lo), ?_, ?_⟩
  · unfold cutV
    rw [List.map_take, List.map_drop]
  · rw [List.length_take, List.length_drop]; omega
theorem cut_one (ns : List Int) : cutV (ns.map V.int) none (some 1) = (ns.take 1).map V.int := by
  have h := HT.sIx_nat (ns.map V.int).length (ns.map V.int).length 1
  unfold cutV
  rw [HT.sIx_none]
  show List.take (HT.sIx _ _ (some ((1 : Nat) : Int)) - 0) _ = _
  rw [h]
  cases ns with
  | nil => rfl
  | cons n ns => simp
theorem seqEq_self : ∀ ns : List Int, seqEq (ns.map V.int) (ns.map V.int) = true
  | [] => rfl
  | n :: ns => by
    show (eqV (.int n) (.int n) && seqEq (ns.map V.int) (ns.map V.int)) = true
    rw [seqEq_self ns, Bool.and_true]
    simp [eqV]
theorem flat_ints (ns : List Int) : (ns.map V.int).all flatV = true := by
  rw [List.all_map, List.all_eq_true]
  intro _ _
  rfl
end
end L2

namespace L2
open PySem PySem.Spec PySem.Calls PyProof.Rows
section
variable {X : Cx} {v v1 v2 : Expr} {es : List Expr} {te : TE} {pos p : Pos}
/-! ### texts with values in them -/
def tFv (te : TE) : TE := fun σ H Q => te σ H fun x H1 => (∃ i, x = .int i ∧ i.natAbs.log2 < 1920 ∧ Q (.str (toString i)) H1) ∨ (∃ y, x = .str y ∧ y.length ≤ sizeLine ∧ Q (.str y) H1)
theorem pe_fv (h : PE X v te) : PE X (.FormattedValue v (-1) none pos) (tFv te) := by
  intro pins s σ H Q I hw
  refine PyProof.Rows.FormattedValue_plain (thn (h pins s σ H _ I hw) fun u s1 ⟨x, H1, I1, r1, q1⟩ => ?_)
  rcases q1 with ⟨i, rfl, hi, q⟩ | ⟨y, rfl, hy, q⟩
  · obtain ⟨t, rfl⟩ := r1
    exact formatField_int_small hi ⟨.str _, H1, I1.tok _, ⟨_, rfl⟩, q⟩
  · obtain ⟨t, rfl⟩ := r1
    exact PyProof.Rows.formatField_str (fun t' tk => ⟨.str _, H1, I1.tok _, ⟨_, rfl⟩, q⟩) hy
theorem pe_f1 (h : PE X v te) : PE X (.JoinedStr [v] pos) te := fun pins s σ H Q I hw => PyProof.Rows.JoinedStr_one (h pins s σ H Q I hw)
abbrev TJ := Str → TE
def PJ (X : Cx) (es : List Expr) (t : TJ) : Prop := ∀ (out : Str) (pins : List (Addr × Obj)) (s : Shared) (σ : St) (H : Hp) (Q : VK), Inv X pins σ H s → t out σ H Q → wpAny (model X.prog X.w) X.A (joinParts out (evalEach es X.env)) (EP X pins σ Q) X.xe s
def tJ0 : TJ := fun out _ H Q => out.length ≤ sizeLine ∧ Q (.str out) H
def tJ1 (te : TE) (t : TJ) : TJ := fun out σ H Q => te σ H fun x H1 => ∃ y, x = .str y ∧ (out ++ y).length ≤ sizeLine ∧ t (out ++ y) σ H1 Q
theorem pj_nil : PJ X [] tJ0 := fun _ _ _ _ H _ I hw => PyProof.Rows.joinParts_nil ⟨.str _, H, I.tok _, ⟨_, rfl⟩, hw.2⟩ hw.1
theorem pj_cons {t : TJ} (h : PE X v te) (hr : PJ X es t) : PJ X (v :: es) (tJ1 te t) := by
  intro out pins s σ H Q I hw
  show wpAny _ _ (joinParts out (eval v X.env :: evalEach es X.env)) _ _ s
  refine PyProof.Rows.joinParts_cons (thn (h pins s σ H _ I hw) fun u s1 ⟨x, H1, I1, r1, q1⟩ => ?_)
  obtain ⟨y, rfl, hz, q⟩ := q1
  obtain ⟨t', rfl⟩ := r1
  exact ⟨hz, hr _ pins s1 σ H1 Q I1 q⟩
theorem pe_fj {t : TJ} (h : PJ X (v1 :: v2 :: es) t) : PE X (.JoinedStr (v1 :: v2 :: es) pos) (t Str.empty) := fun pins s σ H Q I hw => PyProof.Rows.JoinedStr_many (h _ pins s σ H Q I hw)
theorem bt_str : CallR X (.type "str") (fun xs H Q => ∃ i, xs = [.int i] ∧ i.natAbs.log2 < 1920 ∧ Q (.str (toString i)) H) := call_str_int
/-! ### a body cut in two: what holds between -/
def tCut (t u : TS) : TS := fun D σ H => ∃ M : St → Hp → Prop, t { D with nx := M } σ H ∧ ∀ σ' H', M σ' H' → u D σ' H'
theorem pss_cut {st : Stmt} {rest : List Stmt} {t u : TS} (h1 : PS X st t) (h2 : PSs X rest u) : PSs X (st :: rest) (tCut t u) := by
  intro pins s σ H D I ⟨M, ht, hu⟩
  refine wpAny_execs_cons (thn (h1 pins s σ H _ I ht) fun f s1 q => ?_)
  cases f with
  | next => exact let ⟨σ', H', I', q⟩ := q; h2 pins s1 σ' H' D I' (hu σ' H' q)
  | _ => exact q
theorem cut {t u : TS} {D : Ends} {σ : St} {H : Hp} (M : St → Hp → Prop) (h1 : t { D with nx := M } σ H) (h2 : ∀ σ' H', M σ' H' → u D σ' H') : tCut t u D σ H := ⟨M, h1, h2⟩
end
end L2

namespace L2
open PySem PySem.Spec PySem.Calls PyProof.Rows

/-! ### calls out of which nothing is raised, in any context -/
section
variable {X : Cx} {k : Nat} {x m : Str} {p pos apos : Pos} {e o : Expr} {es : List Expr} {ta : TE} {t : TA}
theorem passF : Passes (CXr X.prog X.w) X (fun _ _ _ => False) := fun _ _ _ _ _ _ _ h => let ⟨_, _, _, _, _, _, _, _, _, z⟩ := h; z.elim
def tClN (X : Cx) (k : Nat) (x : Str) (t : TA) : TE := fun σ H Q => ∃ ps dvs sp, Cal X.prog X.w X.K X.mg X.base x k ps dvs sp ∧ t σ H fun vs H1 => sp (vs ++ dvs) H1 Q (fun _ _ _ => False)
theorem pe_clN (hr : Room k X.A) (ha : PA X (e :: es) t) (hg : Gl X x := by rfl) (hdb : (x == ("__debug__" : Str)) = false := by decide)
    (he : starEach (e :: es) X.env = (false, eval e X.env) :: starEach es X.env := by rfl) (hpl : (backTo pos (starEach es X.env)).any (·.1) = false := by rfl) :
    PE X (.Call (.Name x p) (e :: es) [] pos) (tClN X k x t) := by
  intro pins s σ H Q I h
  obtain ⟨ps, dvs, sp, ⟨f, fd, ds, F, hm, hk, hb, hd⟩, h⟩ := h
  refine wpAny_Call_Name_kw (ld_glob I hg hm ?_ hdb)
  refine PySem.W.callWith_K (h₀ := X.base) I.ok.mod.kin hk (thn (ha pos pins s σ H _ I h) fun us s1 ⟨vs, H1, I1, r, q⟩ => ⟨I1.kIn, ?_⟩) he hpl
  exact run_fn F hr hb hd passF I1 r q
def tMkN (X : Cx) (k : Nat) (x : Str) (t : TA) : TE := fun σ H Q => ∃ C ps dvs sp, KCal X.prog X.w X.K X.mg X.base x C k ps dvs sp ∧ t σ H fun vs H1 => ∀ y dx, H1 y = none → H1 dx = none → dx ≠ y →
  sp (.ref y :: (vs ++ dvs)) (upd (upd H1 dx (.own y)) y (.ins C dx [])) (fun v H2 => v = .non ∧ Q (.ref y) H2) (fun _ _ _ => False)
theorem pe_mkN (hr : Room (k + 1) X.A) (ha : PA X (e :: es) t) (hg : Gl X x := by rfl) (hdb : (x == ("__debug__" : Str)) = false := by decide)
    (he : starEach (e :: es) X.env = (false, eval e X.env) :: starEach es X.env := by rfl) (hpl : (backTo pos (starEach es X.env)).any (·.1) = false := by rfl) :
    PE X (.Call (.Name x p) (e :: es) [] pos) (tMkN X k x t) := by
  intro pins s σ H Q I h
  obtain ⟨C, ps, dvs, sp, ⟨hm, f, fd, ds, F, M, hb, hd⟩, h⟩ := h
  refine wpAny_Call_Name_kw (ld_glob I hg hm ?_ hdb)
  refine PySem.W.callWith_K (h₀ := X.base) I.ok.mod.kin M.kp (thn (ha pos pins s σ H _ I h) fun us s1 ⟨vs, H1, I1, r, q⟩ => ⟨I1.kIn, ?_⟩) he hpl
  exact run_make M F hr hb hd passF I1 r q
def tMthN (X : Cx) (k : Nat) (m : Str) (ta : TE) (t : TA) : TE := fun σ H Q => ta σ H fun y H1 => ∃ a C dx fs ps dvs sp, y = .ref a ∧ H1 a = some (.ins C dx fs) ∧ fs.lookup m = none ∧
  MCal X.prog X.w X.K X.mg X.base C m k ps dvs sp ∧ t σ H1 fun vs H2 => sp (.ref a :: (vs ++ dvs)) H2 Q (fun _ _ _ => False)
theorem pe_mthN {pl : Sem Bool} (hr : Room k X.A) (he : PE X o ta) (ha : PA X (e :: es) t)
    (hst : starEach (e :: es) X.env = (false, eval e X.env) :: starEach es X.env := by rfl) (hpl : (backTo pos (starEach es X.env)).any (·.1) = false := by rfl)
    (ht : eval (.Call (.Attribute o m apos) (e :: es) [] pos) X.env = (do
      let ov ← eval o X.env
      standAt apos.atName
      let (f, first) ← holding [ov] (getMethod ov m pl)
      callWith pos f first (backTo pos (starEach (e :: es) X.env)) (backToKw pos (keywordEach [] X.env))) := by rfl) :
    PE X (.Call (.Attribute o m apos) (e :: es) [] pos) (tMthN X k m ta t) := by
  intro pins s σ H Q I h
  refine PySem.W.methodCall_KW (pl := pl) (thn (he pins s σ H _ I h) fun u s1 ⟨x, H1, I1, rx, a, C, dx, fs, ps, dvs, sp, ex, ea, l, ⟨c, f, fd, ds, F, hm, hb, hd⟩, q⟩ => ?_) ht
  subst ex
  obtain rfl : u = Value.ref a := rx
  refine getmeth_ok I1 ea c hm l ?_
  refine PySem.W.callWith_K (first := [.ref a]) (h₀ := X.base) I.ok.mod.kin hm.kp (thn (ha pos pins s1 σ H1 _ I1 q) fun us s2 ⟨vs, H2, I2, r, q2⟩ => ⟨I2.kIn, ?_⟩) hst hpl
  exact run_fn (us := .ref a :: us) (vs := .ref a :: vs) F hr hb hd passF I2 (.cons rfl r) q2
theorem pe_mthN0 {pl : Sem Bool} (hr : Room k X.A) (he : PE X o ta)
    (ht : eval (.Call (.Attribute o m apos) [] [] pos) X.env = (do
      let ov ← eval o X.env
      standAt apos.atName
      let (f, first) ← holding [ov] (getMethod ov m pl)
      callWith pos f first (backTo pos (starEach [] X.env)) (backToKw pos (keywordEach [] X.env))) := by rfl) :
    PE X (.Call (.Attribute o m apos) [] [] pos) (tMthN X k m ta tNil) := by
  intro pins s σ H Q I h
  refine PySem.W.methodCall_KW (pl := pl) (thn (he pins s σ H _ I h) fun u s1 ⟨x, H1, I1, rx, a, C, dx, fs, ps, dvs, sp, ex, ea, l, ⟨c, f, fd, ds, F, hm, hb, hd⟩, q⟩ => ?_) ht
  subst ex
  obtain rfl : u = Value.ref a := rx
  refine getmeth_ok I1 ea c hm l ?_
  exact PySem.W.callWith_K0 (first := [.ref a]) I1.kIn hm.kp (run_fn (us := [.ref a]) (vs := [.ref a]) F hr hb hd passF I1 (.cons rfl .nil) q)
end

/-! ### the closure of a comprehension's block -/
def clFrom (cells : List (Str × Addr)) : List (Str × NameKind) → List (Str × Addr) → List (Str × Addr)
  | [], cs => cs
  | (n, k) :: r, cs => if k = .free then clFrom cells r ((n, (cells.lookup n).getD 0) :: cs) else clFrom cells r cs
def clOk (cells : List (Str × Addr)) (ns : List (Str × NameKind)) : Prop := ∀ y ∈ ns, y.2 = .free → ∃ c, cells.lookup y.1 = some c
theorem closureFor_of {scope : Scope} {env : Env} (h : clOk env.cells scope.names) : closureFor scope env = pure (clFrom env.cells scope.names []) := by
  simp only [closureFor]
  have key : ∀ (ns : List (Str × NameKind)) (cs : List (Str × Addr)), clOk env.cells ns →
      (forIn ns cs fun x r => if (x.2 == NameKind.free) = true then do let c ← cellOf env x.1; pure (ForInStep.yield ((x.1, c) :: r)) else pure (ForInStep.yield r) : Sem (List (Str × Addr))) = pure (clFrom env.cells ns cs) := by
    intro ns
    induction ns with
    | nil => intro cs _; rfl
    | cons y r ih =>
      intro cs hc
      obtain ⟨n, k⟩ := y
      have hr : clOk env.cells r := fun z hz => hc z (List.mem_cons_of_mem _ hz)
      rw [List.forIn_cons]
      by_cases hk : k = .free
      · subst hk
        obtain ⟨c, e⟩ := hc (n, .free) List.mem_cons_self rfl
        have e' : cellOf env n = pure c := by unfold cellOf; simp only at e; rw [e]
        simp only [beq_self_eq_true, if_true, e', pure_bind]
        rw [ih _ hr]
        simp only at e
        simp [clFrom, e]
      · have hb : (k == NameKind.free) = false := by simpa using hk
        simp only [hb, Bool.false_eq_true, if_false, pure_bind]
        rw [ih _ hr]
        simp [clFrom, hk]
  have := key scope.names [] h
  first
    | exact this
    | (simp only [bind_pure] at *; exact this)
theorem clFrom_get {cells : List (Str × Addr)} {x : Str} {c : Addr} : ∀ {ns : List (Str × NameKind)} {cs : List (Str × Addr)}, clOk cells ns → (∀ c, cs.lookup x = some c → cells.lookup x = some c) → (clFrom cells ns cs).lookup x = some c → cells.lookup x = some c
  | [], _, _, hs, h => hs c h
  | (n, k) :: r, cs, hc, hs, h => by
    have hr : clOk cells r := fun z hz => hc z (List.mem_cons_of_mem _ hz)
    unfold clFrom at h
    split at h
    · rename_i hk
      obtain ⟨d, e⟩ := hc (n, k) List.mem_cons_self hk
      refine clFrom_get hr (fun c' hc' => ?_) h
      rw [List.lookup_cons] at hc'
      split at hc'
      · rename_i hx
        have hx : x = n := by simpa using hx
        subst hx
        simp only at e
        rw [e] at hc' ⊢
        exact hc'
      · exact hs c' hc'
    · exact clFrom_get hr hs h
theorem clFrom_mono {cells : List (Str × Addr)} {x : Str} : ∀ {ns : List (Str × NameKind)} {cs : List (Str × Addr)}, (∃ c, cs.lookup x = some c) → ∃ c, (clFrom cells ns cs).lookup x = some c
  | [], _, h => h
  | (n, k) :: r, cs, h => by
    unfold clFrom
    split
    · refine clFrom_mono ?_
      rw [List.lookup_cons]
      split
      · exact ⟨_, rfl⟩
      · exact h
    · exact clFrom_mono h
theorem clFrom_has {cells : List (Str × Addr)} {x : Str} : ∀ {ns : List (Str × NameKind)} {cs : List (Str × Addr)}, (x, NameKind.free) ∈ ns → ∃ c, (clFrom cells ns cs).lookup x = some c
  | [], _, h => by simp at h
  | (n, k) :: r, cs, h => by
    unfold clFrom
    rcases List.mem_cons.mp h with h | h
    · cases h
      rw [if_pos rfl]
      exact clFrom_mono ⟨(cells.lookup x).getD 0, by rw [List.lookup_cons]; simp⟩
    · split <;> exact clFrom_has h
/-- the block's names as the def's scope makes them -/
def relab (scope osc : Scope) : Scope :=
  { scope with names := scope.names.map fun (n, k) => if (k == .free && osc.kind == .function && osc.names.lookup n == some .cell) then (n, .cell) else (n, k) }
theorem relab_eq {scope : Scope} {env : Env} : relabel scope env = relab scope env.scope := rfl
theorem relab_free {scope osc : Scope} {x : Str} (hcell : ∀ y ∈ scope.names, y.2 ≠ .cell) (h : (relab scope osc).names.lookup x = some .cell ∨ (relab scope osc).names.lookup x = some .free) : (x, NameKind.free) ∈ scope.names := by
  have key : ∀ k, (k = .cell ∨ k = .free) → (relab scope osc).names.lookup x = some k → (x, NameKind.free) ∈ scope.names := fun k hk hl => by
    have hm := PySem.mem_of_lookup hl
    obtain ⟨⟨n, k'⟩, hm', e⟩ := List.mem_map.mp hm
    simp only at e
    split at e
    · rename_i hc
      simp only [Bool.and_eq_true, beq_iff_eq] at hc
      cases e
      rw [← hc.1.1]; exact hm'
    · cases e
      rcases hk with rfl | rfl
      · exact absurd rfl (hcell _ hm')
      · exact hm'
  rcases h with h | h
  · exact key _ (.inl rfl) h
  · exact key _ (.inr rfl) h
/-- the context of a comprehension's block -/
def cxC (X : Cx) (N : List Str) (scope : Scope) (s : Shared) (H : Hp) (fp : List Addr) (pins : List (Addr × Obj)) : Cx where
  prog := X.prog
  w := X.w
  K := X.K
  mg := X.mg
  base := X.base
  A := X.A
  N := N
  s₀ := s
  H₀ := H
  env := compEnvC scope (clFrom X.env.cells scope.names []) s.heap.objs.size X.env
  outer := X.stack
  stack := X.stack
  ex := fp
  fn := fun _ => false
  calm := X.calm
  pn := X.pn ++ pins
  xe := fun _ _ => False
/-- the slots at the block's start: its own names empty, the captured ones -/
def stC (nv : Nat) (caps : List Nat) (σ : St) : St := List.replicate nv none ++ caps.map fun k => (σ[k]?).getD none
/-- what the names of a block are to be -/
structure CompOk (osc scope : Scope) (ON : List Str) (vars : List Str) (caps : List Nat) : Prop where
  kind : scope.kind = .function
  cell : ∀ y ∈ scope.names, y.2 ≠ .cell
  loc : ∀ y ∈ scope.names, y.2 = .local → scope.names.lookup y.1 = some .local
  free : ∀ y ∈ scope.names, y.2 = .free → osc.names.lookup y.1 = some .cell ∨ osc.names.lookup y.1 = some .free
  caps : ∀ k ∈ caps, k < ON.length ∧ scope.names.lookup (ON.getD k Str.empty) = some .free
def compB (osc scope : Scope) (ON : List Str) (caps : List Nat) : Bool :=
  scope.kind == .function && scope.names.all (fun y => y.2 != .cell) && scope.names.all (fun y => y.2 != .local || scope.names.lookup y.1 == some .local) &&
  scope.names.all (fun y => y.2 != .free || (osc.names.lookup y.1 == some .cell || osc.names.lookup y.1 == some .free)) && caps.all fun k => decide (k < ON.length) && scope.names.lookup (ON.getD k Str.empty) == some .free
theorem compB_ok {osc scope : Scope} {ON vars : List Str} {caps : List Nat} (h : compB osc scope ON caps = true) : CompOk osc scope ON vars caps := by
  simp only [compB, Bool.and_eq_true, List.all_eq_true, beq_iff_eq, bne_iff_ne, Bool.or_eq_true, decide_eq_true_eq] at h
  obtain ⟨⟨⟨⟨h1, h2⟩, h3⟩, h4⟩, h5⟩ := h
  refine ⟨h1, h2, fun y hy e => (h3 y hy).resolve_left (fun z => z e), fun y hy e => (h4 y hy).resolve_left (fun z => z e), fun k hk => h5 k hk⟩
theorem relab_look {osc : Scope} {x : Str} : ∀ {ns : List (Str × NameKind)}, ns.lookup x = some .free →
    (ns.map fun (n, k) => if (k == NameKind.free && osc.kind == .function && osc.names.lookup n == some .cell) then (n, NameKind.cell) else (n, k)).lookup x = some .cell ∨
    (ns.map fun (n, k) => if (k == NameKind.free && osc.kind == .function && osc.names.lookup n == some .cell) then (n, NameKind.cell) else (n, k)).lookup x = some .free
  | [], h => by simp at h
  | (n, k) :: r, h => by
    have ih := @relab_look osc x r
    rw [List.map_cons]
    show List.lookup x ((if (k == NameKind.free && osc.kind == .function && osc.names.lookup n == some .cell) = true then (n, NameKind.cell) else (n, k)) :: _) = _ ∨ List.lookup x ((if (k == NameKind.free && osc.kind == .function && osc.names.lookup n == some .cell) = true then (n, NameKind.cell) else (n, k)) :: _) = _
    cases hx : x == n with
    | true =>
      simp only [List.lookup_cons, hx] at h
      cases h
      split
      · exact .inl (by simp [List.lookup_cons, hx])
      · exact .inr (by simp [List.lookup_cons, hx])
    | false =>
      simp only [List.lookup_cons, hx] at h
      split <;> (simp only [List.lookup_cons, hx]; exact ih h)
section
variable {X : Cx} {pins : List (Addr × Obj)} {σ : St} {H : Hp} {s : Shared} {fp : List Addr} {N vars : List Str} {caps : List Nat} {scope osc : Scope}
theorem inv_comp (I : Inv X pins σ H s) (hosc : X.env.scope = osc) (C : CompOk osc scope X.N vars caps) (hN : N = vars ++ caps.map fun k => X.N.getD k Str.empty)
    (hf : ∀ b ∈ fp, FpOk X pins H b) (hfo : ∀ b ∈ fp, ∃ o, s.heap.get? b = some o)
    {h' : Heap} {tk : Nat} {mm : Str → Option Value} (hns : h'.Ns s.heap.objs.size mm) (hk : ∀ b o, s.heap.get? b = some o → h'.get? b = some o) :
    Inv (cxC X N scope s H fp pins) [] (stC vars.length caps σ) H { s with heap := h', toks := tk } := by
  have hkf : ∀ y ∈ scope.names, y.2 = .free → X.env.kindOf y.1 = some .cell ∨ X.env.kindOf y.1 = some .free := fun y hy e => by
    have z := C.free y hy e
    rw [← hosc] at z
    exact z
  have hcl : clOk X.env.cells scope.names := fun y hy e => I.ok.has y.1 (hkf y hy e)
  have get : ∀ x c, (clFrom X.env.cells scope.names []).lookup x = some c → X.env.cells.lookup x = some c := fun x c h => clFrom_get hcl (fun c h => by simp at h) h
  refine ⟨⟨I.ok.mod, C.kind, I.ok.glob, I.ok.blt, Nat.le_refl _, fun x y c h1 h2 => I.ok.inj x y c (get x c h1) (get y c h2), fun x hx => clFrom_has (relab_free (osc := X.env.scope) C.cell hx), fun _ _ h _ => Bool.noConfusion h, I.ok.hd, I.ok.frames, .inl rfl,
      fun b hb => ⟨?_, fun x c h => (hf b hb).2.2.2.2.1 x c (get x c h)⟩, I.bs, Nat.le_trans I.ok.bsz I.sz, fun b o e hb => ?_, fun b hb z => (List.mem_cons.mp (I.stkSub b z)).elim (hf b hb).2.1 (hf b hb).2.2.1, I.stack, I.stkFree⟩,
    rfl, I.bare, Un.kept hk, ⟨_, hns, fun i x v e1 e2 e3 => ?_⟩, fun x c h => ?_, I.hok.fresh (Nat.le_refl _), fun x c h => I.freeC x c (get x c h), fun p hp => ?_, I.hok.kept hk, ?_⟩
  · obtain ⟨o, e⟩ := hfo b hb
    exact Nat.ne_of_lt (Heap.lt_size e)
  · rcases (hf b hb).2.2.2.1 with z | z
    · exact I.ok.noex b o e z
    · exact absurd (Nat.lt_of_lt_of_le (Heap.lt_size (I.ok.bs b o e).1) z) (Nat.lt_irrefl _)
  · have hi : ¬ i < vars.length := fun hi => by
      unfold stC at e2
      rw [List.getElem?_append_left (by simpa using hi), List.getElem?_replicate] at e2
      split at e2 <;> cases e2
    have e1' : (vars ++ caps.map fun k => X.N.getD k Str.empty)[i]? = some x := by rw [← hN]; exact e1
    unfold stC at e2
    rw [List.getElem?_append_right (by simpa using hi), List.length_replicate, List.getElem?_map] at e2
    rw [List.getElem?_append_right (by omega), List.getElem?_map] at e1'
    cases ek : caps[i - vars.length]? with
    | none => rw [ek] at e2; cases e2
    | some k =>
      rw [ek] at e1' e2
      obtain ⟨hkl, hlk⟩ := C.caps k (List.mem_of_getElem? ek)
      have ex : X.N.getD k Str.empty = x := by simpa using e1'
      have es : σ[k]?.getD none = some v := by simpa using e2
      have es' : σ[k]? = some (some v) := by
        cases q : σ[k]? with
        | none => rw [q] at es; cases es
        | some z => rw [q] at es; simp only [Option.getD_some] at es; rw [es]
      have eN : X.N[k]? = some x := by
        rw [← ex, List.getD_eq_getElem?_getD, List.getElem?_eq_getElem hkl]; rfl
      rw [ex] at hlk
      have hm : (x, NameKind.free) ∈ scope.names := PySem.mem_of_lookup hlk
      have hkx := hkf _ hm rfl
      obtain ⟨m, _, hl⟩ := I.loc
      obtain ⟨u, r, L⟩ := hl k x v eN es' (hkx.elim (fun z => .inr (.inl z)) fun z => .inr (.inr z))
      refine ⟨u, r, .inr ⟨relab_look (osc := X.env.scope) hlk, ?_⟩⟩
      obtain ⟨c', ec⟩ := clFrom_has (cells := X.env.cells) (cs := []) hm
      rcases L with ⟨z, _⟩ | ⟨_, c, ec2, o, ho, hd⟩
      · rcases hkx with y | y <;> (simp only at y; rw [y] at z; cases z)
      · have z := get x c' ec
        rw [ec2] at z
        obtain rfl : c = c' := Option.some.inj z
        exact ⟨c, ec, o, hk _ _ ho, hd⟩
  · obtain ⟨v, o, ho, hd⟩ := I.cell x c (get x c h)
    exact ⟨v, o, hk _ _ ho, hd⟩
  · have hp' : p ∈ X.pn ++ pins := by simpa [cxC] using hp
    obtain ⟨e, n, ne, nf, d⟩ := I.pin p hp'
    exact ⟨hk _ _ e, n, Nat.ne_of_lt (Heap.lt_size e), fun z => (List.mem_cons.mp (I.stkSub _ z)).elim ne nf, d⟩
  · show (stC vars.length caps σ).length = N.length
    rw [hN]
    simp [stC]
theorem inv_uncomp {σ' : St} {H' : Hp} {s' : Shared} (I : Inv X pins σ H s) (hf : ∀ b ∈ fp, FpOk X pins H b) (I' : Inv (cxC X N scope s H fp pins) [] σ' H' s') : Inv X pins σ H' s' :=
  I.call' (ch := fp) I'.os I'.base I'.hok I'.bare fun b hb => ⟨(hf b hb).2.2.2.1, (hf b hb).2.1, (hf b hb).2.2.2.2.1, (hf b hb).2.2.2.2.2⟩
end
section
variable {prog : Program} {w : World} {A : Around} {R : Result → Shared → Prop} {s : Shared}
abbrev NoX : Value → Shared → Prop := fun _ _ => False
theorem comp_loop {elt target iter : Expr} {ifs : List Expr} {scope : Scope} {pos : Pos} {it acc : Value} {env : Env} (I : Nat → Shared → Prop)
    (turn : ∀ n s, I n s → wpAny (model prog w) A (pyNext it) (fun r s₁ => match r with
      | none => R (.ok .next) s₁
      | some v => wpAny (model prog w) A (letOwnedTupleGo target it v) (fun _ s₁' => wpAny (model prog w) A (assign target env v) (fun _ s₂ =>
          wpAny (model prog w) A (forIn ifs true fun c r => if r = true then do let ok ← isTrue c env (eval c env); pure (ForInStep.yield ok) else pure (ForInStep.yield r)) (fun ok s₃ =>
            if ok = true then wpAny (model prog w) A (eval elt env) (fun x s₄ =>
              wpAny (model prog w) A (call (.builtin "list.append") [acc, x]) (fun _ s₅ => ∃ m, m < n ∧ I m s₅) NoX s₄) NoX s₃
            else ∃ m, m < n ∧ I m s₃) NoX s₂) NoX s₁') NoX s₁) NoX s)
    (n : Nat) (h : I n s) :
    codeAny (model prog w) A (.compLoop (.ListComp elt [⟨target, iter, ifs, 0⟩] scope pos) 0 it acc env) R s := by
  refine codeAny_loop rfl I (fun n s hI => ?_) n h
  show wpAny _ A ((compTurn (.ListComp elt [⟨target, iter, ifs, 0⟩] scope pos) 0 it acc env).onRaise (fun x => do noteFrame x env; theTreesLotGoes x)) _ _ s
  refine wpAny_noted ?_
  rw [compTurn_list]
  refine wpAny_bind (wpAny_standAt (wpAny_bind (wpAny_mono (turn n s hI) (fun r s₁ h₁ => ?_) fun _ _ h' => h'.elim)))
  cases r with
  | none => exact wpAny_pure h₁
  | some v =>
    refine wpAny_bind (wpAny_mono h₁ (fun _ s₁' h₁' => ?_) fun _ _ h' => h'.elim)
    refine wpAny_bind (wpAny_mono h₁' (fun _ s₂ h₂ => wpAny_bind (wpAny_mono h₂ (fun ok s₃ h₃ => ?_) fun _ _ h' => h'.elim)) fun _ _ h' => h'.elim)
    cases ok with
    | false => exact wpAny_pure ⟨rfl, h₃⟩
    | true =>
      exact wpAny_bind (wpAny_bind (wpAny_mono h₃ (fun x s₄ h₄ => wpAny_bind (wpAny_mono h₄ (fun _ s₅ h₅ => wpAny_pure (wpAny_pure ⟨rfl, h₅⟩)) fun _ _ h' => h'.elim)) fun _ _ h' => h'.elim))
end
/-! ### the tests of a clause -/
def PIfs (X : Cx) (ifs : List Expr) (t : TT) : Prop :=
  ∀ (pins : List (Addr × Obj)) (s : Shared) (σ : St) (H : Hp) (Q : Bool → Hp → Prop), Inv X pins σ H s → t σ H Q →
    wpAny (model X.prog X.w) X.A (forIn ifs true fun c r => if r = true then do let ok ← isTrue c X.env (eval c X.env); pure (ForInStep.yield ok) else pure (ForInStep.yield r)) (TP X pins σ Q) X.xe s
def tYes : TT := fun _ H Q => Q true H
theorem pif_nil {X : Cx} : PIfs X [] tYes := fun _ _ _ H _ I h => wpAny_tests_nil ⟨H, I, h⟩
theorem pif_one {X : Cx} {c : Expr} {t : TT} (h : PT X c t) : PIfs X [c] t := fun pins s σ H Q I hw => wpAny_tests_one (h pins s σ H Q I hw)
/-- [e for .. in .. (if ..)] -/
abbrev CB (α : Type) := Shared → Hp → List Addr → List (Addr × Obj) → α
def tLc (wi : TI) (nv : Nat) (caps : List Nat) (g : CB TG) (tt : CB TT) (te : CB TE) : TE := fun σ H Q => wi σ H fun J H1 => ∀ (s3 : Shared) (H3 : Hp) (fp : List Addr) (pns : List (Addr × Obj)) acc, H1 acc = none →
  ∃ W : Nat → Nat → St → Hp → Prop, (∃ m, W 0 m (stC nv caps σ) (upd H1 acc (.lst []))) ∧ ∀ i m σ' H', W i m σ' H' →
    (J.stop i H' ∧ Q (.ref acc) H') ∨ (J.go i H' ∧ ∃ N : St → Hp → Prop, (∀ σ'' H'', N σ'' H'' → ∃ m', m' < m ∧ W (i + 1) m' σ'' H'') ∧ ∀ x H'', J.yld i H' x H'' → g s3 H3 fp pns x σ' H'' fun σ2 H2 => tt s3 H3 fp pns σ2 H2 fun b H5 =>
      if b = true then te s3 H3 fp pns σ2 H5 fun y H4 => ∃ ys, H4 acc = some (.lst ys) ∧ ys.length < sizeLine ∧ N σ2 (upd H4 acc (.lst (ys ++ [y]))) else N σ2 H5)
section
variable {X : Cx} {elt target iter : Expr} {ifs : List Expr} {scope osc : Scope} {pos : Pos} {wi : TI} {g : CB TG} {tt : CB TT} {te : CB TE} {N vars : List Str} {caps : List Nat}
/-- what a block has when it is through: of the wanted end R -/
theorem comp_block {pins : List (Addr × Obj)} {σ : St} {H2 : Hp} {s2 : Shared} {it : Addr} {fp : List Addr} {tn : Nat → Heap → Prop} {J : It} {Q : VK} {RR : Value → Addr → Result → Shared → Prop} {E : Value → Shared → Prop}
    (hosc : X.env.scope = osc) (C : CompOk osc scope X.N vars caps) (hN : N = vars ++ caps.map fun k => X.N.getD k Str.empty) (hc : X.calm = true)
    (hg : ∀ s H fp pins, PG (cxC X N scope s H fp pins) target (g s H fp pins)) (ht : ∀ s H fp pins, PIfs (cxC X N scope s H fp pins) ifs (tt s H fp pins)) (he : ∀ s H fp pins, PE (cxC X N scope s H fp pins) elt (te s H fp pins))
    (I2 : Inv X pins σ H2 s2) (T : Turn X.prog X.w X.K target J fp it tn) (st2 : tn 0 s2.heap) (hf : ∀ b ∈ fp, FpOk X pins H2 b)
    (h : ∀ (s3 : Shared) (H3 : Hp) (fp : List Addr) (pns : List (Addr × Obj)) acc, H2 acc = none → ∃ W : Nat → Nat → St → Hp → Prop, (∃ m, W 0 m (stC vars.length caps σ) (upd H2 acc (.lst []))) ∧ ∀ i m σ' H', W i m σ' H' →
      (J.stop i H' ∧ Q (.ref acc) H') ∨ (J.go i H' ∧ ∃ N : St → Hp → Prop, (∀ σ'' H'', N σ'' H'' → ∃ m', m' < m ∧ W (i + 1) m' σ'' H'') ∧ ∀ x H'', J.yld i H' x H'' → g s3 H3 fp pns x σ' H'' fun σ2 H2 => tt s3 H3 fp pns σ2 H2 fun b H5 =>
        if b = true then te s3 H3 fp pns σ2 H5 fun y H4 => ∃ ys, H4 acc = some (.lst ys) ∧ ys.length < sizeLine ∧ N σ2 (upd H4 acc (.lst (ys ++ [y]))) else N σ2 H5))
    (hRR : ∀ acc C s' H' m, Inv X pins σ H' s' → Q (.ref acc) H' → s'.heap.Ns C m → H' C = none → C ≠ X.env.locals → X.s₀.heap.objs.size ≤ C → (∀ x c, X.env.cells.lookup x = some c → c ≠ C) → (∀ p ∈ X.pn ++ pins, p.1 ≠ C) → RR (.ref acc) C (.ok .next) s') :
    wpAny (model X.prog X.w) X.A (newList []) (fun acc s₃ => wpAny (model X.prog X.w) X.A (newFunctionEnv scope X.env.globals (clFrom X.env.cells scope.names []) [] X.env.qual none .none (some X.env)) (fun cenv s₄ =>
      codeAny (model X.prog X.w) X.A (.compStart (.ListComp elt [⟨target, iter, ifs, 0⟩] scope pos) 0 (.ref it) acc { cenv with scope := relabel scope X.env }) (RR acc cenv.locals) s₄) E s₃) E s2 := by
  refine wpAny_newObj_type (wpAny_newFunctionEnv C.cell (by intro y hy; simp at hy) (fun h₁ hns₁ hsb₁ => ?_) C.kind)
  obtain ⟨W, ⟨m0, w0⟩, turn⟩ := h { s2 with heap := s2.heap.push { cls := .type "list", dict := none, data := .seq ([] : List Value).toArray } } (upd H2 s2.heap.objs.size (.lst [])) fp pins s2.heap.objs.size I2.fresh
  have I3 : Inv X pins σ (upd H2 s2.heap.objs.size (.lst [])) { s2 with heap := s2.heap.push { cls := .type "list", dict := none, data := .seq ([] : List Value).toArray } } := I2.lnew (its := []) (t' := s2.toks) .nil (by decide)
  dsimp only at hns₁ hsb₁ ⊢
  have hfo : ∀ b ∈ fp, ∃ o, s2.heap.get? b = some o := fun b hb => let ⟨o, e, _⟩ := T.obj _ _ st2 b hb; ⟨o, e⟩
  have hf3 : ∀ b ∈ fp, FpOk X pins (upd H2 s2.heap.objs.size (.lst [])) b := fun b hb => by
    refine ⟨?_, (hf b hb).2⟩
    obtain ⟨o, e⟩ := hfo b hb
    rw [upd_ne (Nat.ne_of_lt (Heap.lt_size e))]
    exact (hf b hb).1
  generalize hs3 : ({ s2 with heap := s2.heap.push { cls := .type "list", dict := none, data := .seq ([] : List Value).toArray } } : Shared) = s3 at I3 turn
  have eh : s2.heap.push { cls := .type "list", dict := none, data := .seq ([] : List Value).toArray } = s3.heap := by rw [← hs3]
  have old : ∀ b o, s2.heap.get? b = some o → s3.heap.get? b = some o := fun b o e => by rw [← eh]; exact Heap.get?_push_of_some _ e
  rw [eh] at hns₁ hsb₁ ⊢
  have es : ({ s2 with heap := h₁, toks := s2.toks + ([] : List (Str × Value)).length } : Shared) = { s3 with heap := h₁, toks := s2.toks } := by rw [← hs3]; rfl
  rw [es]
  generalize hH3 : upd H2 s2.heap.objs.size (.lst []) = H3 at *
  have hk : ∀ b o, s3.heap.get? b = some o → h₁.get? b = some o := fun b o e => hsb₁.extBut b o (Nat.ne_of_lt (Heap.lt_size e)) (Heap.get?_push_of_some _ e)
  have I4 : Inv (cxC X N scope s3 H3 fp pins) [] (stC vars.length caps σ) H3 { s3 with heap := h₁, toks := s2.toks } := inv_comp I3 hosc C hN hf3 (fun b hb => let ⟨o, e⟩ := hfo b hb; ⟨o, old b o e⟩) hns₁ hk
  have st4 : tn 0 h₁ := T.keep _ _ _ st2 fun b hb o e => hk b o (old b o e)
  have stat : ∀ {H' : Hp}, (∀ b ∈ fp, H' b = none) → ∀ b ∈ fp, FpOk (cxC X N scope s3 H3 fp pins) [] H' b := fun hn b hb =>
    ⟨hn b hb, (I4.ok.exf b hb).1, I4.ok.exfs b hb, .inl hb, (I4.ok.exf b hb).2, fun p hp => (hf b hb).2.2.2.2.2 p (by simpa [cxC] using hp)⟩
  have loop : ∀ s4 : Shared, s4 = { s3 with heap := h₁, toks := s2.toks } →
      codeAny (model X.prog X.w) X.A (.compLoop (.ListComp elt [⟨target, iter, ifs, 0⟩] scope pos) 0 (.ref it) (.ref s2.heap.objs.size) (cxC X N scope s3 H3 fp pins).env) (RR (.ref s2.heap.objs.size) s3.heap.objs.size) s4 := by
    rintro s4 rfl
    refine comp_loop (fun n s' => ∃ i σ' H', Inv (cxC X N scope s3 H3 fp pins) [] σ' H' s' ∧ tn i s'.heap ∧ (∀ b ∈ fp, H' b = none) ∧ W i n σ' H') ?_ m0 ⟨0, _, H3, I4, st4, fun b hb => (hf3 b hb).1, w0⟩
    rintro n s5 ⟨i, σ5, H5, I5, st5, fr5, w5⟩
    rcases turn i n σ5 H5 w5 with ⟨stop, qn⟩ | ⟨go, NN, hNN, step⟩
    · refine thn (T.done (cxC X N scope s3 H3 fp pins) rfl rfl rfl hc i [] s5 σ5 H5 NoX I5 (stat fr5) st5 stop) fun r s6 ⟨hr, I6⟩ => ?_
      subst hr
      obtain ⟨m, hn, _⟩ := I6.loc
      have hlt : ∀ b o, s3.heap.get? b = some o → b ≠ s3.heap.objs.size := fun b o e => Nat.ne_of_lt (Heap.lt_size e)
      obtain ⟨m3, ⟨oL, _, _, hoL, _⟩, _⟩ := I3.loc
      refine hRR _ _ s6 H5 m (inv_uncomp I3 hf3 I6) qn hn I6.free (fun z => hlt _ _ hoL z.symm) I3.sz (fun x c ec z => ?_) fun p hp z => hlt _ _ (I3.pin p hp).1 z
      obtain ⟨v, o, ho, _⟩ := I3.cell x c ec
      exact hlt _ _ ho z
    · refine thn (T.item (cxC X N scope s3 H3 fp pins) rfl rfl rfl hc i [] s5 σ5 H5 NoX I5 (stat fr5) st5 go) fun r s6 ⟨u, hr, h6⟩ => ?_
      subst hr
      refine thn h6 fun _ s7 ⟨x, H7, I7, r7, y7, st7, fr7⟩ => ?_
      have I7' := I7.pinned (stat fr7) (T.obj _ _ st7)
      have again : ∀ {σ8 : St} {H8 : Hp} {s8 : Shared}, Inv (cxC X N scope s3 H3 fp pins) ([] ++ pinsAt fp s7.heap) σ8 H8 s8 → NN σ8 H8 → ∃ m, m < n ∧ ∃ i σ' H', Inv (cxC X N scope s3 H3 fp pins) [] σ' H' s8 ∧ tn i s8.heap ∧ (∀ b ∈ fp, H' b = none) ∧ W i m σ' H' := fun {σ8 H8 s8} I8 n8 => by
        obtain ⟨m', hm, w8⟩ := hNN σ8 H8 n8
        refine ⟨m', hm, i + 1, σ8, H8, I8.unpinned, T.keep _ _ _ st7 fun b hb o e => (I8.pin (b, o) (List.mem_append_right _ (List.mem_append_right _ (mem_pinsAt hb e)))).1, fun b hb => ?_, w8⟩
        obtain ⟨o, e, d⟩ := T.obj _ _ st7 b hb
        exact (I8.pin (b, o) (List.mem_append_right _ (List.mem_append_right _ (mem_pinsAt hb e)))).2.1
      refine thn (hg s3 H3 fp pins _ s7 σ5 H7 x u _ I7' r7 (step x H7 y7)) fun _ s8 ⟨σ8, H8, I8, q8⟩ => ?_
      refine thn (ht s3 H3 fp pins _ s8 σ8 H8 _ I8 q8) fun b s9 ⟨H9, I9, q9⟩ => ?_
      cases b with
      | false => exact again I9 q9
      | true =>
        refine thn (he s3 H3 fp pins _ s9 σ8 H9 _ I9 q9) fun v s10 ⟨y, H10, I10, r10, ys, ea, hz, q10⟩ => ?_
        refine thn (mt_append (X := cxC X N scope s3 H3 fp pins) _ s10 σ8 H10 (.ref s2.heap.objs.size) [y] (.ref s2.heap.objs.size) [v] (fun _ H' => NN σ8 H') I10 rfl (.cons r10 .nil) ⟨_, ys, y, rfl, rfl, ea, hz, q10⟩) fun _ s11 ⟨_, H11, I11, _, q11⟩ => ?_
        exact again I11 q11
  exact codeAny_compStart_list (loop _ rfl) (T.self X.A 0 _ _ _ st4 (loop _ rfl))
theorem pe_lc {ON : List Str} (hosc : X.env.scope = osc) (hON : X.N = ON) (hB : compB osc scope ON caps = true) (hN : N = vars ++ caps.map fun k => ON.getD k Str.empty) (hc : X.calm = true) (hi : PI X target iter wi)
    (hg : ∀ s H fp pins, PG (cxC X N scope s H fp pins) target (g s H fp pins)) (ht : ∀ s H fp pins, PIfs (cxC X N scope s H fp pins) ifs (tt s H fp pins)) (he : ∀ s H fp pins, PE (cxC X N scope s H fp pins) elt (te s H fp pins))
    (hs : ∀ x, foldedSetIterable iter X.env x = pure x := by intro _; rfl) : PE X (.ListComp elt [⟨target, iter, ifs, 0⟩] scope pos) (tLc wi vars.length caps g tt te) := by
  subst hON
  intro pins s σ H Q I h
  have C : CompOk osc scope X.N vars caps := compB_ok hB
  have hclos : closureFor scope X.env = pure (clFrom X.env.cells scope.names []) := closureFor_of fun y hy e => I.ok.has y.1 (by have z := C.free y hy e; rw [← hosc] at z; exact z)
  rw [eval_ListComp]
  refine wpAny_comprehension_free (use := none) rfl hs hclos C.kind C.loc (thn (hi pins s σ H _ I h) fun v s1 h1 => thn h1 fun itv s2 h2 => ?_)
  obtain ⟨it, fp, tn, J, H2, e, I2, T, st2, f2, hw⟩ := h2
  subst e
  refine comp_block (N := N) (RR := fun acc Cc => compPost (model X.prog X.w) X.A X.xe none (EP X pins σ Q) acc Cc) hosc C hN hc hg ht he I2 T st2 f2 hw fun acc Cc s' H' m I' q hn hC hL hsz hcc hpp => ?_
  refine ⟨m, hn, fun h' hs' => ⟨.ref acc, H', ?_, rfl, q⟩⟩
  exact I'.turned (t' := s'.toks) (it := Cc) (fun b o hb e => (hs'.2 b hb).trans e) hC (fun z => hL z) (.inr hsz) hcc hpp
/-- x = [e for ..] on one row: stored ahead of the letting go -/
theorem ps_lc {ON : List Str} {i : Nat} {x : Str} {pos' spos : Pos} (hNd : X.N.Nodup) (hix : X.N[i]? = some x) (hx : Loc X.env.scope x)
    (hosc : X.env.scope = osc) (hON : X.N = ON) (hB : compB osc scope ON caps = true) (hN : N = vars ++ caps.map fun k => ON.getD k Str.empty) (hc : X.calm = true) (hi : PI X target iter wi)
    (hg : ∀ s H fp pins, PG (cxC X N scope s H fp pins) target (g s H fp pins)) (ht : ∀ s H fp pins, PIfs (cxC X N scope s H fp pins) ifs (tt s H fp pins)) (he : ∀ s H fp pins, PE (cxC X N scope s H fp pins) elt (te s H fp pins))
    (hsw : swapsWith (.ListComp elt [⟨target, iter, ifs, 0⟩] scope pos) (some (.Name x pos')) spos.line X.env = pure true := by rfl)
    (hf : X.fn x = true ∨ X.env.scope.names.lookup x = some .local := by first | exact .inl rfl | exact .inr rfl | assumption)
    (hs : ∀ x, foldedSetIterable iter X.env x = pure x := by intro _; rfl) : PS X (.Assign [.Name x pos'] (.ListComp elt [⟨target, iter, ifs, 0⟩] scope pos) spos) (tAsg (tLc wi vars.length caps g tt te) (gName i)) := by
  subst hON
  intro pins s σ H D I h
  have C : CompOk osc scope X.N vars caps := compB_ok hB
  have hclos : closureFor scope X.env = pure (clFrom X.env.cells scope.names []) := closureFor_of fun y hy e => I.ok.has y.1 (by have z := C.free y hy e; rw [← hosc] at z; exact z)
  rw [exec_Assign_Name_used _ _ _ _ hsw]
  refine wpAny_bind (wpAny_standAt (wpAny_bind ?_))
  show wpAny _ X.A (do let _ ← comprehension (.ListComp elt [⟨target, iter, ifs, 0⟩] scope pos) scope X.env _ (newList []) false (eval iter X.env) (some (assign (.Name x pos') X.env))) _ _ s
  refine wpAny_bind (wpAny_mono (wpAny_comprehension_free (use := some (assign (.Name x pos') X.env)) (Q := fun _ s' => SP X pins D .next s') rfl hs hclos C.kind C.loc (thn (hi pins s σ H _ I h) fun v s1 h1 => thn h1 fun itv s2 h2 => ?_)) (fun _ s' hq => wpAny_pure (wpAny_pure hq)) fun _ _ e => e)
  obtain ⟨it, fp, tn, J, H2, e, I2, T, st2, f2, hw⟩ := h2
  subst e
  refine comp_block (N := N) (Q := fun v H1 => gName i v σ H1 D.nx) (RR := fun acc Cc => compPost (model X.prog X.w) X.A X.xe (some (assign (.Name x pos') X.env)) (fun _ s' => SP X pins D .next s') acc Cc) hosc C hN hc hg ht he I2 T st2 f2 hw fun acc Cc s' H' m I' q hn hC hL hsz hcc hpp => ?_
  refine wpAny_assign_Name (store_ok2 I' hNd hix hx (v := .ref acc) rfl (fun s3 I3 ⟨a, sb, ha⟩ => ?_) hf)
  have hne : Cc ≠ a := fun z => by
    rcases ha with e | e
    · exact hL (z.trans e)
    · exact hcc x a e z.symm
  refine ⟨m, hn.sameBut sb hne, fun h' hs' => ⟨_, H', ?_, q⟩⟩
  exact I3.turned (t' := s3.toks) (it := Cc) (fun b o hb e => (hs'.2 b hb).trans e) hC (fun z => hL z) (.inr hsz) hcc hpp
end
end L2

namespace L2
open PySem PySem.Spec PySem.Calls PyProof.Rows

/-! ### records of iterators that turn, and a new object -/
section
variable {X : Cx} {pins : List (Addr × Obj)} {σ : St} {H : Hp} {s : Shared} {h' : Heap} {ch : List Addr}
theorem Inv.turnNew {T : Addr} {o : HO} {t' : Nat} (I : Inv X pins σ H s) (hch : ∀ b ∈ ch, FpOk X pins H b) (hT : s.heap.objs.size ≤ T) (keep : ∀ b o, b ∉ ch → s.heap.get? b = some o → h'.get? b = some o)
    (new : ObjOk X.prog X.w (upd H T o) h' T o) : Inv X pins σ (upd H T o) { s with heap := h', toks := t' } := by
  have hn : H T = none := I.hok.fresh hT
  have lt : ∀ b u, s.heap.get? b = some u → b ≠ T := fun b u e => Nat.ne_of_lt (Nat.lt_of_lt_of_le (Heap.lt_size e) hT)
  have nch : ∀ b u, H b = some u → b ∉ ch := fun b u e z => by rw [(hch b z).1] at e; cases e
  refine I.step (g' := s.gens) (d' := s.drawn) (ch := ch) (fun b hb => ⟨(hch b hb).2.2.2.1, (hch b hb).2.1, (hch b hb).2.2.2.2.1, (hch b hb).2.2.2.2.2⟩) (fun b o _ _ hc e _ => keep b o hc e) (fun b o _ _ hc e _ => ⟨o.slots, keep b o hc e⟩)
    (fun b o _ e n => by rw [upd_ne (lt b o e)]; exact n) (fun b o hc e => ⟨o, keep b o hc e⟩) (fun b xs e => by rw [upd_ne (ne_of_none e hn)]; exact e) (fun b o u e => by rw [upd_ne (ne_of_none e hn)]; exact e)
    (fun b ps e => ⟨#[], by rw [upd_ne (ne_of_none e hn), e]; simp⟩) (fun m hm => ?_) (fun b u e => ?_) I.bare
  · obtain ⟨o, es, ep, ho, r⟩ := hm
    exact ⟨o, es, ep, keep _ o (fun z => (hch _ z).2.1 rfl) ho, r⟩
  · by_cases hb : b = T
    · subst hb
      rw [upd_same] at e
      cases e
      exact new
    · rw [upd_ne hb] at e
      refine (I.hok b u e).stay (fun c v hc q => keep c v ?_ q) (fun c q => by rw [upd_ne (ne_of_none q hn)]; exact q) fun c xs q => by rw [upd_ne (ne_of_none q hn)]; exact q
      rcases hc with z | z
      · rw [z]; exact nch b u e
      · exact nch c _ z
theorem Inv.turnL {t' : Nat} (I : Inv X pins σ H s) (hch : ∀ b ∈ ch, FpOk X pins H b) (keep : ∀ b o, b ∉ ch → s.heap.get? b = some o → h'.get? b = some o) : Inv X pins σ H { s with heap := h', toks := t' } := by
  have nch : ∀ b u, H b = some u → b ∉ ch := fun b u e z => by rw [(hch b z).1] at e; cases e
  refine I.step (g' := s.gens) (d' := s.drawn) (ch := ch) (fun b hb => ⟨(hch b hb).2.2.2.1, (hch b hb).2.1, (hch b hb).2.2.2.2.1, (hch b hb).2.2.2.2.2⟩) (fun b o _ _ hc e _ => keep b o hc e) (fun b o _ _ hc e _ => ⟨o.slots, keep b o hc e⟩)
    (fun _ _ _ _ n => n) (fun b o hc e => ⟨o, keep b o hc e⟩) (fun _ _ e => e) (fun _ _ _ e => e) (fun b ps e => ⟨#[], by rw [e]; simp⟩) (fun m hm => ?_) (fun b u e => ?_) I.bare
  · obtain ⟨o, es, ep, ho, r⟩ := hm
    exact ⟨o, es, ep, keep _ o (fun z => (hch _ z).2.1 rfl) ho, r⟩
  · refine (I.hok b u e).stay (fun c v hc q => keep c v ?_ q) (fun _ q => q) fun _ _ q => q
    rcases hc with z | z
    · rw [z]; exact nch b u e
    · exact nch c _ z
end

/-! ### enumerate over a list -/
def Ite (K : PySem.W.Frag) (a : Addr) : It :=
  ⟨fun i H => ∃ xs x, SqL K H a xs ∧ xs[i]? = some x, fun i H v H' => ∃ t x, H t = none ∧ v = .ref t ∧ (∀ xs, SqL K H a xs → xs[i]? = some x) ∧ H' = upd H t (.tup [.int i, x]), fun i H => ∃ xs, SqL K H a xs ∧ xs.length ≤ i⟩
theorem turn_enum {P : Program} {w : World} {K : PySem.W.Frag} {elts : List Expr} {x1} {pos : Pos} (a e it : Addr) (hne : e ≠ it) :
    Turn P w K (.Tuple elts x1 pos) (Ite K a) [e, it] e (fun i h => (∃ old, IsEnum h e it i old) ∧ h.IsListIter it a i) where
  mem := by simp
  obj := fun i h st b hb => by
    obtain ⟨⟨old, he⟩, o, ho, c, d⟩ := st
    rcases List.mem_cons.mp hb with rfl | hb
    · exact ⟨_, he, fun v z => by cases z⟩
    · obtain rfl : b = it := by simpa using hb
      exact ⟨o, ho, fun v z => by rw [d] at z; cases z⟩
  keep := fun i h h' st k => by
    obtain ⟨⟨old, he⟩, hi⟩ := st
    exact ⟨⟨old, k e (by simp) _ he⟩, hi.at fun o z => k it (by simp) o z⟩
  item := by
    intro X hP hw hK hc i pins s σ H E I hf st hg
    subst hP hw hK
    obtain ⟨⟨old, he⟩, hi⟩ := st
    obtain ⟨xs, x, hq, hx⟩ := hg
    obtain ⟨its, rv, p, hz⟩ := I.list hq
    obtain ⟨u, hu, ru⟩ := rv.get hx
    refine wpAny_pyNext_enum_item he hi p.isList (x := u) (by simpa using hu) hne fun h' he' hi' hT hsz hk => ?_
    refine ⟨_, rfl, ?_⟩
    have I1 : Inv X pins σ (upd H s.heap.objs.size (.tup [.int i, x])) { s with heap := h', toks := s.toks + 1 } := I.turnNew hf (Nat.le_refl _) (fun b o hb q => hk b o (fun z => hb (by simp [z])) (fun z => hb (by simp [z])) q)
      ⟨by show 2 ≤ sizeLine; decide, [.int i s.toks, u], .cons ⟨_, rfl⟩ (.cons ru .nil), ⟨_, hT, rfl, _, rfl⟩⟩
    have hn : H s.heap.objs.size = none := I.hok.fresh (Nat.le_refl _)
    have ne : ∀ b ∈ [e, it], b ≠ s.heap.objs.size := fun b hb => by
      rcases List.mem_cons.mp hb with rfl | hb
      · exact Nat.ne_of_lt (Heap.lt_size he)
      · obtain rfl : b = it := by simpa using hb
        obtain ⟨o, ho, _⟩ := hi
        exact Nat.ne_of_lt (Heap.lt_size ho)
    have fr : ∀ b ∈ [e, it], (upd H s.heap.objs.size (.tup [.int i, x])) b = none := fun b hb => by rw [upd_ne (ne b hb)]; exact (hf b hb).1
    refine wpAny_letOwnedTupleGo_enum he' fun h'' he'' hs'' => ?_
    refine ⟨.ref s.heap.objs.size, _, I1.turnL (t' := s.toks + 1) (ch := [e]) (fun b hb => ?_) (fun b o hb q => (hs''.2 b (fun z => hb (by simp [z]))).trans q), rfl,
      ⟨s.heap.objs.size, x, hn, rfl, fun ys hy => by rw [I.list_inj hy hq]; exact hx, rfl⟩, ⟨⟨u, ?_⟩, hi'.extBut hs''.extBut (Ne.symm hne)⟩, fr⟩
    · obtain rfl : b = e := by simpa using hb
      exact ⟨fr b (by simp), (hf b (by simp)).2⟩
    · exact he''
  done := by
    intro X hP hw hK hc i pins s σ H E I hf st hg
    subst hP hw hK
    obtain ⟨⟨old, he⟩, hi⟩ := st
    obtain ⟨xs, hq, hx⟩ := hg
    obtain ⟨its, rv, p, hz⟩ := I.list hq
    have hl := rv.length
    exact wpAny_pyNext_enum_end (I.ok.hd hc) he hi p.isList (by simp; omega) fun h' eb => ⟨rfl, I.turnL (t' := s.toks) hf fun b o hb q => eb b o (fun z => hb (by simp [z])) q⟩
  self := fun _ _ _ _ _ st h => by
    obtain ⟨⟨old, he⟩, _⟩ := st
    exact wpAny_pyIter_enum he h

theorem bo_enumerate : bootBuiltins "enumerate" = some (.type "enumerate") := by decide +kernel
theorem bo_zip : bootBuiltins "zip" = some (.type "zip") := by decide +kernel
def iEnum (X : Cx) (ta : TA) : TI := fun σ H R => X.mg "enumerate" = none ∧ ta σ H fun vs H1 => ∃ a xs, vs = [.ref a] ∧ H1 a = some (.lst xs) ∧ R (Ite X.K a) H1
theorem pi_enumerate {X : Cx} {a : Expr} {elts : List Expr} {x1} {tp p pos : Pos} {ta : TA} (ha : PA X [a] ta) (hg : Gl X "enumerate" := by rfl)
    (hs : starEach [a] X.env = (false, eval a X.env) :: starEach [] X.env := by rfl) (hpl : (backTo pos (starEach [] X.env)).any (·.1) = false := by rfl) :
    PI X (.Tuple elts x1 tp) (.Call (.Name "enumerate" p) [a] [] pos) (iEnum X ta) := by
  intro pins s σ H R I h
  refine wpAny_Call_Name_kw (ld_blt I hg h.1 bo_enumerate ?_)
  refine PyProof.Rows.callWith_type1 (thn (ha pos pins s σ H _ I h.2) fun us s1 ⟨vs, H1, I1, r1, q1⟩ => ?_) hs hpl
  obtain ⟨l, xs, rfl, hq, hR⟩ := q1
  obtain ⟨u, rfl, rx⟩ := vals1 r1
  cases rx
  obtain ⟨hz, its, n, rv, hl, e⟩ := I1.lstM hq
  refine call_enumerate_1 e fun h' he hi hsz hk => wpAny_pyIter_enum he ?_
  refine ⟨s1.heap.objs.size + 1, [s1.heap.objs.size + 1, s1.heap.objs.size], _, _, H1, rfl, I1.kept (t' := s1.toks) hk, turn_enum l _ _ (Nat.succ_ne_self _), ⟨⟨_, he⟩, hi⟩, fun b hb => ?_, hR⟩
  rcases List.mem_cons.mp hb with rfl | hb
  · exact I1.fpOk (Nat.le_succ _) (I1.hok.fresh (Nat.le_succ _))
  · obtain rfl : b = s1.heap.objs.size := by simpa using hb
    exact I1.fpOk (Nat.le_refl _) (I1.hok.fresh (Nat.le_refl _))

/-! ### zip of two sequences, each a list or a tuple -/
/-- an iterator over a list (true) or a tuple -/
def ItAt (b : Bool) (h : Heap) (it a : Addr) (i : Nat) : Prop := if b = true then h.IsListIter it a i else h.IsTupleIter it a i
def SqAt (b : Bool) (h : Heap) (a : Addr) (items : Array Value) : Prop := if b = true then h.IsList a items else h.IsTuple a items
def itName (b : Bool) : String := if b = true then "list_iterator" else "tuple_iterator"
theorem ItAt.at' {b : Bool} {h h' : Heap} {it a : Addr} {i : Nat} (x : ItAt b h it a i) (hk : ∀ o, h.get? it = some o → h'.get? it = some o) : ItAt b h' it a i := by
  cases b <;> exact let ⟨o, ho, r⟩ := x; ⟨o, hk o ho, r⟩
theorem ItAt.obj {b : Bool} {h : Heap} {it a : Addr} {i : Nat} (x : ItAt b h it a i) : ∃ o, h.get? it = some o ∧ ∀ v, o.data ≠ .cell v := by
  cases b <;> exact let ⟨o, ho, _, hd⟩ := x; ⟨o, ho, fun v z => by rw [hd] at z; cases z⟩
theorem SqAt.at' {b : Bool} {h h' : Heap} {a : Addr} {items : Array Value} (x : SqAt b h a items) (hk : ∀ o, h.get? a = some o → h'.get? a = some o) : SqAt b h' a items := by
  cases b <;> exact let ⟨o, ho, r⟩ := x; ⟨o, hk o ho, r⟩
section
variable {prog : Program} {w : World} {A : Around} {E : Value → Shared → Prop} {s : Shared}
theorem nextOf_tuple_item {it t : Addr} {i : Nat} {items} {x : Value} {Q : Value → Shared → Prop} (hit : s.heap.IsTupleIter it t i) (ht : s.heap.IsTuple t items) (hx : items[i]? = some x)
    (hQ : ∀ h', h'.IsTupleIter it t (i + 1) → Heap.SameBut it s.heap h' → Q x { s with heap := h' }) : wpAny (model prog w) A (Builtin.SmallTypes.nextOf (.ref it)) Q E s := by
  obtain ⟨o, ho, hc, hd⟩ := id hit
  obtain ⟨ol, hol, _, nl, hdl⟩ := ht
  unfold Builtin.SmallTypes.nextOf
  refine wpAny_bind (wpAny_callSpecial?_slot (name := Str.ofString "__next__") hit.typeIs F.slot_tuple_iterator_next
    (wpAny_call_entry F.slot_tuple_iterator_next hit.typeIs F.entry_tuple_iterator_next ?_ (F.args_tuple_iterator_next_1 _)))
  show wpAny _ _ (field (.ref it) 0 >>= _) _ _ s
  refine wpAny_bind (wpAny_field ho hd (x := .ref t) rfl ?_)
  show wpAny _ _ (if (Value.ref t == Value.none) = true then _ else _) _ _ s
  rw [if_neg (show ¬ ((Value.ref t == Value.none) = true) from Bool.false_ne_true)]
  show wpAny _ _ (field (.ref it) 1 >>= _) _ _ s
  refine wpAny_bind (wpAny_field ho hd (x := .int i 0) rfl ?_)
  show wpAny _ _ (seqItems? (.ref t) >>= _) _ _ s
  refine wpAny_bind (wpAny_seqItems hol hdl ?_)
  simp only [Int.toNat_natCast, hx]
  refine wpAny_bind (wpAny_setField ho hd (by simp) (wpAny_pure ⟨x, rfl, wpAny_pure (hQ _ ?_ (Heap.SameBut.update ..))⟩))
  exact ⟨_, Heap.get?_update_self _ ho (Obj.isFreed_of_fields (Obj.data_mapFields hd _)), (Obj.cls_mapFields ..).trans hc, by
    rw [Obj.data_mapFields hd]; simp [rawInt]⟩
theorem nextOf_tuple_end {it t : Addr} {i : Nat} {items} {Q : Value → Shared → Prop} (hh : A.handled = none) (hit : s.heap.IsTupleIter it t i) (ht : s.heap.IsTuple t items) (hx : items[i]? = none)
    (hE : ∀ h' e, Heap.ExtBut it s.heap h' → (∃ o, h'.get? e = some o ∧ o.cls = .type "StopIteration") → E (.ref e) { s with heap := h' }) :
    wpAny (model prog w) A (Builtin.SmallTypes.nextOf (.ref it)) Q E s := by
  obtain ⟨o, ho, hc, hd⟩ := id hit
  obtain ⟨ol, hol, _, nl, hdl⟩ := ht
  unfold Builtin.SmallTypes.nextOf
  refine wpAny_bind (wpAny_callSpecial?_slot (name := Str.ofString "__next__") hit.typeIs F.slot_tuple_iterator_next
    (wpAny_call_entry F.slot_tuple_iterator_next hit.typeIs F.entry_tuple_iterator_next ?_ (F.args_tuple_iterator_next_1 _)))
  show wpAny _ _ (field (.ref it) 0 >>= _) _ _ s
  refine wpAny_bind (wpAny_field ho hd (x := .ref t) rfl ?_)
  show wpAny _ _ (if (Value.ref t == Value.none) = true then _ else _) _ _ s
  rw [if_neg (show ¬ ((Value.ref t == Value.none) = true) from Bool.false_ne_true)]
  show wpAny _ _ (field (.ref it) 1 >>= _) _ _ s
  refine wpAny_bind (wpAny_field ho hd (x := .int i 0) rfl ?_)
  show wpAny _ _ (seqItems? (.ref t) >>= _) _ _ s
  refine wpAny_bind (wpAny_seqItems hol hdl ?_)
  simp only [Int.toNat_natCast, hx]
  refine wpAny_bind (wpAny_rule (wpAny_bind (wpAny_setField ho hd (by simp) ?_)))
  show wpAny _ _ (newExc (.type "StopIteration") [] >>= _) _ _ _
  refine wpAny_bind ?_
  simp only [newExc, newTuple]
  refine wpAny_bind (wpAny_newObj_type ?_ (by size_fits))
  refine wpAny_bind (m := firstArgMember _ _) (wpAny_of_eq (a := Value.none) (by first | rfl | (simp only [firstArgMember]; rfl)) ?_)
  refine wpAny_newObj_type ?_ (by size_fits)
  simp only [raiseNew]
  refine wpAny_bind (wpAny_handled ?_)
  first | rw [show A.in1.handled = none from hh] | rw [hh]
  refine wpAny_bind (wpAny_pure (wpAny_throw ?_))
  exact hE _ _ (((Heap.SameBut.update ..).extBut.push _).push _) ⟨_, Heap.get?_push_size _ rfl, rfl⟩
theorem nextOf_item {b : Bool} {it t : Addr} {i : Nat} {items} {x : Value} {Q : Value → Shared → Prop} (hit : ItAt b s.heap it t i) (ht : SqAt b s.heap t items) (hx : items[i]? = some x)
    (hQ : ∀ h', ItAt b h' it t (i + 1) → Heap.SameBut it s.heap h' → Q x { s with heap := h' }) : wpAny (model prog w) A (Builtin.SmallTypes.nextOf (.ref it)) Q E s := by
  cases b
  · exact nextOf_tuple_item hit ht hx hQ
  · exact wpAny_nextOf_list_item hit ht hx hQ
theorem nextOf_end {b : Bool} {it t : Addr} {i : Nat} {items} {Q : Value → Shared → Prop} (hh : A.handled = none) (hit : ItAt b s.heap it t i) (ht : SqAt b s.heap t items) (hx : items[i]? = none)
    (hE : ∀ h' e, Heap.ExtBut it s.heap h' → (∃ o, h'.get? e = some o ∧ o.cls = .type "StopIteration") → E (.ref e) { s with heap := h' }) :
    wpAny (model prog w) A (Builtin.SmallTypes.nextOf (.ref it)) Q E s := by
  cases b
  · exact nextOf_tuple_end hh hit ht hx hE
  · exact wpAny_nextOf_list_end hh hit ht hx hE
theorem pyIter_at {b : Bool} {t : Addr} {items} {Q : Value → Shared → Prop} (ht : SqAt b s.heap t items)
    (hQ : Q (.ref s.heap.objs.size) { s with heap := s.heap.push { cls := .type (itName b), data := .fields #[.ref t, .int 0 0] } }) : wpAny (model prog w) A (pyIter (.ref t)) Q E s := by
  cases b
  · exact wpAny_pyIter_tuple ht hQ
  · exact wpAny_pyIter_list ht hQ
theorem zip_item {b1 b2 : Bool} {z TI TO i1 i2 l1 l2 : Addr} {k1 k2 : Nat} {xs ys : Array Value} {x y a b : Value} {Q : Value → Shared → Prop} (D : ZipApart z TI TO i1 i2 l1 l2)
    (hz : IsZip s.heap z TI TO .none) (hTI : IsPair s.heap TI (.ref i1) (.ref i2)) (hTO : IsPair s.heap TO a b)
    (h1 : ItAt b1 s.heap i1 l1 k1) (h2 : ItAt b2 s.heap i2 l2 k2) (hl1 : SqAt b1 s.heap l1 xs) (hl2 : SqAt b2 s.heap l2 ys) (hx : xs[k1]? = some x) (hy : ys[k2]? = some y)
    (hQ : ∀ h', IsZip h' z TI TO (rawInt s.heap.objs.size) → IsPair h' TO x y → ItAt b1 h' i1 l1 (k1 + 1) → ItAt b2 h' i2 l2 (k2 + 1) → IsPair h' s.heap.objs.size x y → h'.objs.size = s.heap.objs.size + 1 →
      (∀ c o, c ≠ z → c ≠ TO → c ≠ i1 → c ≠ i2 → s.heap.get? c = some o → h'.get? c = some o) → Q (.ref s.heap.objs.size) { s with heap := h' }) :
    wpAny (model prog w) A (Builtin.«zip.__next__» ⟨[.ref z], []⟩) (fun fin s' => ∃ v, fin = .done (.ret v) ∧ Q v s') E s := by
  show wpAny _ _ (field (.ref z) 2 >>= _) _ _ _
  refine wpAny_bind (wpAny_field hz rfl (x := .bool false) rfl ?_)
  show wpAny _ _ (field (.ref z) 3 >>= _) _ _ _
  refine wpAny_bind (wpAny_field hz rfl (x := .ref TI) rfl ?_)
  refine wpAny_bind (wpAny_seqItems hTI rfl ?_)
  show wpAny _ _ (Builtin.SmallTypes.ownedTupleIsFree (.ref z) >>= _) _ _ _
  refine wpAny_bind ?_
  unfold Builtin.SmallTypes.ownedTupleIsFree
  refine wpAny_bind (wpAny_field hz rfl (x := .none) rfl (wpAny_pure ?_))
  simp only [if_true]
  refine wpAny_bind (wpAny_rule ?_)
  refine wpAny_bind (wpAny_field hz rfl (x := .ref TO) rfl ?_)
  refine wpAny_bind (wpAny_setField_rec hz (by simp) fun h₁ hz₁ hs₁ => ?_)
  replace hz₁ : IsZip h₁ z TI TO .ellipsis := hz₁
  refine wpAny_bind ?_
  simp only [List.zipIdx_cons, List.zipIdx_nil, List.forIn_cons, List.forIn_nil]
  refine wpAny_bind (wpAny_bind (wpAny_onRaise ?_))
  show wpAny _ _ (Builtin.SmallTypes.nextOf (.ref i1) >>= _) _ _ _
  refine wpAny_bind (nextOf_item (h1.at' fun o e => hs₁.extBut _ _ D.i1z e) (hl1.at' fun o e => hs₁.extBut _ _ D.l1z e) hx fun h₂ h1₂ hs₂ => wpAny_pure ?_)
  have hTO₂ : IsPair h₂ TO a b := hs₂.extBut _ _ D.TOi1 (hs₁.extBut _ _ D.TOz hTO)
  refine wpAny_bind (wpAny_seqItems hTO₂ rfl ?_)
  refine wpAny_bind (wpAny_updateSeq_pair hTO₂ fun h₃ hTO₃ hs₃ => ?_)
  replace hTO₃ : IsPair h₃ TO x b := hTO₃
  refine wpAny_bind (wpAny_letGo (wpAny_pure ?_))
  refine wpAny_bind (wpAny_bind (wpAny_onRaise ?_))
  show wpAny _ _ (Builtin.SmallTypes.nextOf (.ref i2) >>= _) _ _ _
  refine wpAny_bind (nextOf_item (h2.at' fun o e => hs₃.extBut _ _ D.TOi2.symm (hs₂.extBut _ _ D.i12.symm (hs₁.extBut _ _ D.i2z e)))
    (hl2.at' fun o e => hs₃.extBut _ _ D.l2TO (hs₂.extBut _ _ D.l2i1 (hs₁.extBut _ _ D.l2z e))) hy fun h₄ h2₄ hs₄ => wpAny_pure ?_)
  have hTO₄ : IsPair h₄ TO x b := hs₄.extBut _ _ D.TOi2 hTO₃
  refine wpAny_bind (wpAny_seqItems hTO₄ rfl ?_)
  refine wpAny_bind (wpAny_updateSeq_pair hTO₄ fun h₅ hTO₅ hs₅ => ?_)
  replace hTO₅ : IsPair h₅ TO x y := hTO₅
  refine wpAny_bind (wpAny_letGo (wpAny_pure (wpAny_pure ?_)))
  refine wpAny_bind (wpAny_seqItems hTO₅ rfl ?_)
  refine wpAny_bind (wpAny_newTuple ?_)
  have hsz : h₅.objs.size = s.heap.objs.size := by rw [hs₅.1, hs₄.1, hs₃.1, hs₂.1, hs₁.1]
  have hz₅ : IsZip h₅ z TI TO .ellipsis := hs₅.extBut _ _ D.TOz.symm (hs₄.extBut _ _ D.i2z.symm (hs₃.extBut _ _ D.TOz.symm (hs₂.extBut _ _ D.i1z.symm hz₁)))
  have hk₅ : ∀ c o, c ≠ z → c ≠ TO → c ≠ i1 → c ≠ i2 → s.heap.get? c = some o → h₅.get? c = some o := fun c o c1 c2 c3 c4 e =>
    hs₅.extBut _ _ c2 (hs₄.extBut _ _ c4 (hs₃.extBut _ _ c2 (hs₂.extBut _ _ c3 (hs₁.extBut _ _ c1 e))))
  have h1₅ : ItAt b1 h₅ i1 l1 (k1 + 1) := h1₂.at' fun o e => hs₅.extBut _ _ D.TOi1.symm (hs₄.extBut _ _ D.i12 (hs₃.extBut _ _ D.TOi1.symm e))
  have h2₅ : ItAt b2 h₅ i2 l2 (k2 + 1) := h2₄.at' fun o e => hs₅.extBut _ _ D.TOi2.symm e
  have hzlt : z < h₅.objs.size := Heap.lt_size hz₅
  show wpAny _ _ (Builtin.SmallTypes.ownedTupleHandOut (.ref z) (.ref h₅.objs.size) >>= _) _ _ _
  refine wpAny_bind ?_
  unfold Builtin.SmallTypes.ownedTupleHandOut
  have hz₆ : IsZip (h₅.push { cls := .type "tuple", data := .seq #[x, y] }) z TI TO .ellipsis := Heap.get?_push_of_some _ hz₅
  refine wpAny_bind (wpAny_setField_rec hz₆ (by simp) fun h₇ hz₇ hs₇ => ?_)
  replace hz₇ : IsZip h₇ z TI TO (rawInt h₅.objs.size) := hz₇
  refine wpAny_setField_rec hz₇ (by simp) fun h₈ hz₈ hs₈ => ?_
  replace hz₈ : IsZip h₈ z TI TO (rawInt h₅.objs.size) := hz₈
  have up : ∀ c o, c ≠ z → h₅.get? c = some o → h₈.get? c = some o := fun c o c1 e => hs₈.extBut _ _ c1 (hs₇.extBut _ _ c1 (Heap.get?_push_of_some _ e))
  have hT₈ : IsPair h₈ h₅.objs.size x y := hs₈.extBut _ _ (Nat.ne_of_gt hzlt) (hs₇.extBut _ _ (Nat.ne_of_gt hzlt) (Heap.get?_push_size _ rfl))
  have hz8 : h₈.objs.size = h₅.objs.size + 1 := by rw [hs₈.1, hs₇.1, Heap.size_push]
  rw [hsz] at hz₈ hT₈ hz8
  refine wpAny_pure ⟨_, rfl, ?_⟩
  show Q (.ref h₅.objs.size) _
  rw [hsz]
  exact hQ h₈ hz₈ (up _ _ D.TOz hTO₅) (h1₅.at' fun o e => up _ o D.i1z e) (h2₅.at' fun o e => up _ o D.i2z e) hT₈ hz8 fun c o c1 c2 c3 c4 e => up c o c1 (hk₅ c o c1 c2 c3 c4 e)
theorem zip_end {b1 b2 : Bool} {z TI TO i1 i2 l1 l2 : Addr} {k1 k2 : Nat} {xs ys : Array Value} {a b : Value} {Q : Fin → Shared → Prop} (hh : A.handled = none) (D : ZipApart z TI TO i1 i2 l1 l2)
    (hz : IsZip s.heap z TI TO .none) (hTI : IsPair s.heap TI (.ref i1) (.ref i2)) (hTO : IsPair s.heap TO a b)
    (h1 : ItAt b1 s.heap i1 l1 k1) (h2 : ItAt b2 s.heap i2 l2 k2) (hl1 : SqAt b1 s.heap l1 xs) (hl2 : SqAt b2 s.heap l2 ys) (hend : xs[k1]? = none ∨ ys[k2]? = none)
    (hE : ∀ h' e, (∀ c o, c ≠ z → c ≠ TO → c ≠ i1 → c ≠ i2 → s.heap.get? c = some o → h'.get? c = some o) → (∃ o, h'.get? e = some o ∧ o.cls = .type "StopIteration") → E (.ref e) { s with heap := h' }) :
    wpAny (model prog w) A (Builtin.«zip.__next__» ⟨[.ref z], []⟩) Q E s := by
  show wpAny _ _ (field (.ref z) 2 >>= _) _ _ _
  refine wpAny_bind (wpAny_field hz rfl (x := .bool false) rfl ?_)
  show wpAny _ _ (field (.ref z) 3 >>= _) _ _ _
  refine wpAny_bind (wpAny_field hz rfl (x := .ref TI) rfl ?_)
  refine wpAny_bind (wpAny_seqItems hTI rfl ?_)
  show wpAny _ _ (Builtin.SmallTypes.ownedTupleIsFree (.ref z) >>= _) _ _ _
  refine wpAny_bind ?_
  unfold Builtin.SmallTypes.ownedTupleIsFree
  refine wpAny_bind (wpAny_field hz rfl (x := .none) rfl (wpAny_pure ?_))
  simp only [if_true]
  refine wpAny_bind (wpAny_rule ?_)
  refine wpAny_bind (wpAny_field hz rfl (x := .ref TO) rfl ?_)
  refine wpAny_bind (wpAny_setField_rec hz (by simp) fun h₁ hz₁ hs₁ => ?_)
  replace hz₁ : IsZip h₁ z TI TO .ellipsis := hz₁
  refine wpAny_bind ?_
  simp only [List.zipIdx_cons, List.zipIdx_nil, List.forIn_cons, List.forIn_nil]
  refine wpAny_bind (wpAny_bind (wpAny_onRaise ?_))
  show wpAny _ _ (Builtin.SmallTypes.nextOf (.ref i1) >>= _) _ _ _
  cases hx : xs[k1]? with
  | none =>
    refine wpAny_bind (nextOf_end hh (h1.at' fun o e => hs₁.extBut _ _ D.i1z e) (hl1.at' fun o e => hs₁.extBut _ _ D.l1z e) hx fun h₂ e hs₂ he => ?_)
    obtain ⟨oe, hoe, hce⟩ := he
    have hz₂ : IsZip h₂ z TI TO .ellipsis := hs₂ _ _ D.i1z.symm hz₁
    have hez : e ≠ z := fun x => by subst x; rw [hz₂] at hoe; cases hoe; simp at hce
    refine wpAny_setField_rec hz₂ (by simp) fun h₃ _ hs₃ => hE h₃ e (fun c o c1 _ c3 _ x => hs₃.extBut _ _ c1 (hs₂ _ _ c3 (hs₁.extBut _ _ c1 x))) ⟨oe, hs₃.extBut _ _ hez hoe, hce⟩
  | some x =>
    have hy : ys[k2]? = none := by rcases hend with h | h; rw [hx] at h; cases h; exact h
    refine wpAny_bind (nextOf_item (h1.at' fun o e => hs₁.extBut _ _ D.i1z e) (hl1.at' fun o e => hs₁.extBut _ _ D.l1z e) hx fun h₂ h1₂ hs₂ => wpAny_pure ?_)
    have hTO₂ : IsPair h₂ TO a b := hs₂.extBut _ _ D.TOi1 (hs₁.extBut _ _ D.TOz hTO)
    refine wpAny_bind (wpAny_seqItems hTO₂ rfl ?_)
    refine wpAny_bind (wpAny_updateSeq_pair hTO₂ fun h₃ hTO₃ hs₃ => ?_)
    refine wpAny_bind (wpAny_letGo (wpAny_pure ?_))
    refine wpAny_bind (wpAny_bind (wpAny_onRaise ?_))
    show wpAny _ _ (Builtin.SmallTypes.nextOf (.ref i2) >>= _) _ _ _
    refine wpAny_bind (nextOf_end hh (h2.at' fun o e => hs₃.extBut _ _ D.TOi2.symm (hs₂.extBut _ _ D.i12.symm (hs₁.extBut _ _ D.i2z e)))
      (hl2.at' fun o e => hs₃.extBut _ _ D.l2TO (hs₂.extBut _ _ D.l2i1 (hs₁.extBut _ _ D.l2z e))) hy fun h₄ e hs₄ he => ?_)
    obtain ⟨oe, hoe, hce⟩ := he
    have hz₄ : IsZip h₄ z TI TO .ellipsis := hs₄ _ _ D.i2z.symm (hs₃.extBut _ _ D.TOz.symm (hs₂.extBut _ _ D.i1z.symm hz₁))
    have hez : e ≠ z := fun x => by subst x; rw [hz₄] at hoe; cases hoe; simp at hce
    refine wpAny_setField_rec hz₄ (by simp) fun h₅ _ hs₅ => hE h₅ e (fun c o c1 c2 c3 c4 x => hs₅.extBut _ _ c1 (hs₄ _ _ c4 (hs₃.extBut _ _ c2 (hs₂.extBut _ _ c3 (hs₁.extBut _ _ c1 x))))) ⟨oe, hs₅.extBut _ _ hez hoe, hce⟩
abbrev zH1 (h : Heap) (b1 : Bool) (l1 : Addr) : Heap := h.push { cls := .type (itName b1), data := .fields #[.ref l1, .int 0 0] }
abbrev zH2 (h : Heap) (b1 b2 : Bool) (l1 l2 : Addr) : Heap := (zH1 h b1 l1).push { cls := .type (itName b2), data := .fields #[.ref l2, .int 0 0] }
abbrev zH3 (h : Heap) (b1 b2 : Bool) (l1 l2 : Addr) : Heap := (zH2 h b1 b2 l1 l2).push { cls := .type "tuple", data := .seq #[.ref h.objs.size, .ref (zH1 h b1 l1).objs.size] }
abbrev zH4 (h : Heap) (b1 b2 : Bool) (l1 l2 : Addr) : Heap := (zH3 h b1 b2 l1 l2).push { cls := .type "tuple", data := .seq #[.none, .none] }
abbrev zH5 (h : Heap) (b1 b2 : Bool) (l1 l2 : Addr) : Heap := (zH4 h b1 b2 l1 l2).push { cls := .type "zip", data := .fields #[.none, .bool false, .bool false, .ref (zH2 h b1 b2 l1 l2).objs.size, .ref (zH3 h b1 b2 l1 l2).objs.size] }
end
theorem meets_zip {b1 b2 : Bool} (l1 l2 : Addr) (xs ys : Array Value) :
    Meets (Builtin.«zip.__new__» ⟨[.type "zip", .ref l1, .ref l2], []⟩) (fun _ R s => SqAt b1 s.heap l1 xs ∧ SqAt b2 s.heap l2 ys ∧
      R (.ok (.ret (.ref (zH4 s.heap b1 b2 l1 l2).objs.size))) { s with heap := zH5 s.heap b1 b2 l1 l2 }) :=
  .of_wp fun prog w A R s h => by
    obtain ⟨hp, g, d, tk, os⟩ := s; obtain ⟨hl1, hl2, h⟩ := h
    have hsub := sub_zip
    have hL1 : SqAt b1 (Shared.heap ⟨hp, g, d, tk, os⟩) l1 xs := hl1
    have hL2 : SqAt b2 (Shared.heap ⟨hp.push { cls := .type (itName b1), data := .fields #[.ref l1, .int 0 0] }, g, d, tk, os⟩) l2 ys := hl2.at' fun o e => Heap.get?_push_of_some _ e
    wp_walk using pyIter_at hL1, pyIter_at hL2
    exact ⟨_, rfl, h⟩
section
variable {prog : Program} {w : World} {A : Around} {E : Value → Shared → Prop} {s : Shared}
theorem ItAt.new {b : Bool} {h : Heap} {it l : Addr} (e : h.get? it = some { cls := .type (itName b), data := .fields #[.ref l, .int 0 0] }) : ItAt b h it l 0 := by
  cases b <;> exact ⟨_, e, rfl, rfl⟩
theorem call_zip {b1 b2 : Bool} {l1 l2 : Addr} {xs ys : Array Value} {Q : Value → Shared → Prop} (hl1 : SqAt b1 s.heap l1 xs) (hl2 : SqAt b2 s.heap l2 ys)
    (h : ∀ h', IsZip h' (s.heap.objs.size + 4) (s.heap.objs.size + 2) (s.heap.objs.size + 3) .none → IsPair h' (s.heap.objs.size + 2) (.ref s.heap.objs.size) (.ref (s.heap.objs.size + 1)) →
      IsPair h' (s.heap.objs.size + 3) .none .none → ItAt b1 h' s.heap.objs.size l1 0 → ItAt b2 h' (s.heap.objs.size + 1) l2 0 → h'.objs.size = s.heap.objs.size + 5 →
      (∀ c o, s.heap.get? c = some o → h'.get? c = some o) → Q (.ref (s.heap.objs.size + 4)) { s with heap := h' }) :
    wpAny (model prog w) A (call (.type "zip") [.ref l1, .ref l2]) Q E s := by
  refine callType_new F.called_zip (by decide) (F.typeCall_zip_2 _ _) (F.newCall_zip_2 _ _) (fun obj => F.args_object_init_3 obj _ _) F.entry_zip_new
    (meets_zip (b1 := b1) (b2 := b2) l1 l2 xs ys) ⟨hl1, hl2, ?_⟩
  have z1 : (zH1 s.heap b1 l1).objs.size = s.heap.objs.size + 1 := Heap.size_push ..
  have z2 : (zH2 s.heap b1 b2 l1 l2).objs.size = s.heap.objs.size + 2 := by rw [Heap.size_push, z1]
  have z3 : (zH3 s.heap b1 b2 l1 l2).objs.size = s.heap.objs.size + 3 := by rw [Heap.size_push, z2]
  have z4 : (zH4 s.heap b1 b2 l1 l2).objs.size = s.heap.objs.size + 4 := by rw [Heap.size_push, z3]
  have z5 : (zH5 s.heap b1 b2 l1 l2).objs.size = s.heap.objs.size + 5 := by rw [Heap.size_push, z4]
  have g5 : (zH5 s.heap b1 b2 l1 l2).get? (zH4 s.heap b1 b2 l1 l2).objs.size = some _ := Heap.get?_push_size _ rfl
  have g4 : (zH5 s.heap b1 b2 l1 l2).get? (zH3 s.heap b1 b2 l1 l2).objs.size = some _ := Heap.get?_push_of_some _ (Heap.get?_push_size _ rfl)
  have g3 : (zH5 s.heap b1 b2 l1 l2).get? (zH2 s.heap b1 b2 l1 l2).objs.size = some _ := Heap.get?_push_of_some _ (Heap.get?_push_of_some _ (Heap.get?_push_size _ rfl))
  have g2 : (zH5 s.heap b1 b2 l1 l2).get? (zH1 s.heap b1 l1).objs.size = some _ := Heap.get?_push_of_some _ (Heap.get?_push_of_some _ (Heap.get?_push_of_some _ (Heap.get?_push_size _ rfl)))
  have g1 : (zH5 s.heap b1 b2 l1 l2).get? s.heap.objs.size = some _ := Heap.get?_push_of_some _ (Heap.get?_push_of_some _ (Heap.get?_push_of_some _ (Heap.get?_push_of_some _ (Heap.get?_push_size _ rfl))))
  show _ ∧ _
  rw [z2, z3, z4] at g5
  rw [z1, z2] at g3
  rw [z3] at g4
  rw [z1] at g2
  rw [z4]
  exact ⟨⟨_, g5, rfl⟩, h _ g5 g3 g4 (ItAt.new g1) (ItAt.new g2) z5 fun c o x =>
    Heap.get?_push_of_some _ (Heap.get?_push_of_some _ (Heap.get?_push_of_some _ (Heap.get?_push_of_some _ (Heap.get?_push_of_some _ x))))⟩
end
/-- a sequence of the abstract heap -/
def SqB (b : Bool) (K : PySem.W.Frag) (H : Hp) (a : Addr) (xs : List V) : Prop := if b = true then SqL K H a xs else SqT K H a xs
theorem Inv.sqB {X : Cx} {pins : List (Addr × Obj)} {σ : St} {H : Hp} {s : Shared} {b : Bool} {a : Addr} {xs : List V} (I : Inv X pins σ H s) (h : SqB b X.K H a xs) : ∃ its : List Value, Vals xs its ∧ SqAt b s.heap a its.toArray := by
  cases b
  · obtain ⟨its, r, p, _⟩ := I.tuple (show SqT X.K H a xs from h)
    exact ⟨its, r, p⟩
  · obtain ⟨its, r, p, _⟩ := I.list (show SqL X.K H a xs from h)
    exact ⟨its, r, p.isList⟩
theorem Inv.sqB_inj {X : Cx} {pins : List (Addr × Obj)} {σ : St} {H : Hp} {s : Shared} {b : Bool} {a : Addr} {xs ys : List V} (I : Inv X pins σ H s) (h1 : SqB b X.K H a xs) (h2 : SqB b X.K H a ys) : xs = ys := by
  cases b
  · exact I.tuple_inj (show SqT X.K H a xs from h1) (show SqT X.K H a ys from h2)
  · exact I.list_inj (show SqL X.K H a xs from h1) (show SqL X.K H a ys from h2)
def Itz (K : PySem.W.Frag) (b1 b2 : Bool) (a1 a2 : Addr) : It :=
  ⟨fun i H => ∃ xs ys x y, SqB b1 K H a1 xs ∧ SqB b2 K H a2 ys ∧ xs[i]? = some x ∧ ys[i]? = some y,
   fun i H v H' => ∃ t x y, H t = none ∧ v = .ref t ∧ (∀ xs, SqB b1 K H a1 xs → xs[i]? = some x) ∧ (∀ ys, SqB b2 K H a2 ys → ys[i]? = some y) ∧ H' = upd H t (.tup [x, y]),
   fun i H => ∃ xs ys, SqB b1 K H a1 xs ∧ SqB b2 K H a2 ys ∧ (xs.length ≤ i ∨ ys.length ≤ i)⟩
theorem SqB.there {X : Cx} {pins : List (Addr × Obj)} {σ : St} {H : Hp} {s : Shared} {b : Bool} {a : Addr} {xs : List V} (I : Inv X pins σ H s) (h : SqB b X.K H a xs) : ∃ o, s.heap.get? a = some o ∧ (o.cls = .type "list" ∨ o.cls = .type "tuple") ∧ ∃ its n, o.data = .seq its n := by
  obtain ⟨its, _, p⟩ := I.sqB h
  cases b
  · obtain ⟨o, e, c, n, d⟩ := p; exact ⟨o, e, .inr c, _, n, d⟩
  · obtain ⟨o, e, c, n, d⟩ := p; exact ⟨o, e, .inl c, _, n, d⟩
theorem turn_zip {P : Program} {w : World} {K : PySem.W.Frag} {elts : List Expr} {x1} {pos : Pos} {b1 b2 : Bool} (z TI TO i1 i2 l1 l2 : Addr) (D : ZipApart z TI TO i1 i2 l1 l2) :
    Turn P w K (.Tuple elts x1 pos) (Itz K b1 b2 l1 l2) [z, TI, TO, i1, i2] z (fun i h => IsZip h z TI TO .none ∧ IsPair h TI (.ref i1) (.ref i2) ∧ (∃ a b, IsPair h TO a b) ∧ ItAt b1 h i1 l1 i ∧ ItAt b2 h i2 l2 i) where
  mem := by simp
  obj := fun i h st b hb => by
    obtain ⟨hz, hTI, ⟨a, b', hTO⟩, h1, h2⟩ := st
    simp only [List.mem_cons, List.not_mem_nil, or_false] at hb
    rcases hb with rfl | rfl | rfl | rfl | rfl
    · exact ⟨_, hz, fun v z => by cases z⟩
    · exact ⟨_, hTI, fun v z => by cases z⟩
    · exact ⟨_, hTO, fun v z => by cases z⟩
    · exact h1.obj
    · exact h2.obj
  keep := fun i h h' st k => by
    obtain ⟨hz, hTI, ⟨a, b', hTO⟩, h1, h2⟩ := st
    exact ⟨k z (by simp) _ hz, k TI (by simp) _ hTI, ⟨a, b', k TO (by simp) _ hTO⟩, h1.at' fun o e => k i1 (by simp) o e, h2.at' fun o e => k i2 (by simp) o e⟩
  item := by
    intro X hP hw hK hc i pins s σ H E I hf st hg
    subst hP hw hK
    obtain ⟨hz, hTI, ⟨a, b', hTO⟩, h1, h2⟩ := st
    obtain ⟨xs, ys, x, y, q1, q2, hx, hy⟩ := hg
    obtain ⟨its1, r1, p1⟩ := I.sqB q1
    obtain ⟨its2, r2, p2⟩ := I.sqB q2
    obtain ⟨u1, hu1, ru1⟩ := r1.get hx
    obtain ⟨u2, hu2, ru2⟩ := r2.get hy
    have hT : s.TypeIs (.ref z) "zip" := ⟨_, hz, rfl⟩
    unfold pyNext
    refine wpAny_bind (wpAny_attempt (wpAny_callSpecial?_slot (name := Str.ofString "__next__") hT F.slot_zip_next (wpAny_call_entry F.slot_zip_next hT F.entry_zip_next
      (zip_item D hz hTI hTO h1 h2 p1 p2 (x := u1) (y := u2) (by simpa using hu1) (by simpa using hu2) fun h' a1 a2 a3 a4 a5 a6 hk => wpAny_pure ?_) (F.args_zip_next_1 _))))
    refine ⟨_, rfl, ?_⟩
    have I1 : Inv X pins σ (upd H s.heap.objs.size (.tup [x, y])) { s with heap := h' } := I.turnNew (t' := s.toks) hf (Nat.le_refl _) (fun b o hb q => hk b o (fun z => hb (by simp [z])) (fun z => hb (by simp [z])) (fun z => hb (by simp [z])) (fun z => hb (by simp [z])) q)
      ⟨by show 2 ≤ sizeLine; decide, [u1, u2], .cons ru1 (.cons ru2 .nil), ⟨_, a5, rfl, _, rfl⟩⟩
    have hn : H s.heap.objs.size = none := I.hok.fresh (Nat.le_refl _)
    have ne : ∀ b ∈ [z, TI, TO, i1, i2], b ≠ s.heap.objs.size := fun b hb => by
      have : ∃ o, s.heap.get? b = some o := by
        simp only [List.mem_cons, List.not_mem_nil, or_false] at hb
        rcases hb with rfl | rfl | rfl | rfl | rfl
        · exact ⟨_, hz⟩
        · exact ⟨_, hTI⟩
        · exact ⟨_, hTO⟩
        · exact let ⟨o, e, _⟩ := h1.obj; ⟨o, e⟩
        · exact let ⟨o, e, _⟩ := h2.obj; ⟨o, e⟩
      obtain ⟨o, e⟩ := this
      exact Nat.ne_of_lt (Heap.lt_size e)
    have fr : ∀ b ∈ [z, TI, TO, i1, i2], (upd H s.heap.objs.size (.tup [x, y])) b = none := fun b hb => by rw [upd_ne (ne b hb)]; exact (hf b hb).1
    have hTI' : IsPair h' TI (.ref i1) (.ref i2) := hk _ _ D.TIz D.TITO D.TIi1 D.TIi2 hTI
    refine wpAny_letOwnedTupleGo_zip a1 fun h'' hz'' hs'' => ?_
    refine ⟨.ref s.heap.objs.size, _, I1.turnL (t' := s.toks) (ch := [z]) (fun b hb => ?_) (fun b o hb q => (hs''.2 b (fun z => hb (by simp [z]))).trans q), rfl,
      ⟨s.heap.objs.size, x, y, hn, rfl, fun zs hy => by rw [I.sqB_inj hy q1]; exact hx, fun zs hz => by rw [I.sqB_inj hz q2]; exact hy, rfl⟩,
      ⟨hz'', hs''.extBut _ _ D.TIz hTI', ⟨_, _, hs''.extBut _ _ D.TOz a2⟩, a3.at' fun o e => hs''.extBut _ _ D.i1z e, a4.at' fun o e => hs''.extBut _ _ D.i2z e⟩, fr⟩
    obtain rfl : b = z := by simpa using hb
    exact ⟨fr b (by simp), (hf b (by simp)).2⟩
  done := by
    intro X hP hw hK hc i pins s σ H E I hf st hg
    subst hP hw hK
    obtain ⟨hz, hTI, ⟨a, b', hTO⟩, h1, h2⟩ := st
    obtain ⟨xs, ys, q1, q2, hx⟩ := hg
    obtain ⟨its1, r1, p1⟩ := I.sqB q1
    obtain ⟨its2, r2, p2⟩ := I.sqB q2
    have e1 := r1.length
    have e2 := r2.length
    have hT : s.TypeIs (.ref z) "zip" := ⟨_, hz, rfl⟩
    have hend : its1.toArray[i]? = none ∨ its2.toArray[i]? = none := by
      rcases hx with h | h
      · exact .inl (by simp; omega)
      · exact .inr (by simp; omega)
    unfold pyNext
    refine wpAny_bind (wpAny_attempt (wpAny_callSpecial?_slot (name := Str.ofString "__next__") hT F.slot_zip_next
      (wpAny_call_entry F.slot_zip_next hT F.entry_zip_next (zip_end (I.ok.hd hc) D hz hTI hTO h1 h2 p1 p2 hend fun h' e hk he => ?_) (F.args_zip_next_1 _))))
    obtain ⟨o, ho, hcl⟩ := he
    refine wpAny_bind (wpAny_isInstance (T := "StopIteration") (b := true) ⟨o, ho, hcl⟩ isSubtype_stop ?_)
    exact wpAny_pure ⟨rfl, I.turnL (t' := s.toks) hf fun b o hb q => hk b o (fun z => hb (by simp [z])) (fun z => hb (by simp [z])) (fun z => hb (by simp [z])) (fun z => hb (by simp [z])) q⟩
  self := fun _ _ _ _ _ st h => wpAny_pyIter_zip st.1 h
theorem zip_apart (n l1 l2 : Nat) (h1 : l1 < n) (h2 : l2 < n) : ZipApart (n + 4) (n + 2) (n + 3) n (n + 1) l1 l2 := by
  constructor <;> (show (_ : Nat) ≠ _) <;> omega
def iZip (X : Cx) (ta : TA) : TI := fun σ H R => X.mg "zip" = none ∧ ta σ H fun vs H1 => ∃ b1 b2 l1 l2 xs ys, vs = [.ref l1, .ref l2] ∧ SqB b1 X.K H1 l1 xs ∧ SqB b2 X.K H1 l2 ys ∧ R (Itz X.K b1 b2 l1 l2) H1
theorem pi_zip {X : Cx} {a b : Expr} {elts : List Expr} {x1} {tp p pos : Pos} {ta : TA} (ha : PA X [a, b] ta) (hg : Gl X "zip" := by rfl)
    (hs : starEach [a, b] X.env = (false, eval a X.env) :: starEach [b] X.env := by rfl) (hpl : (backTo pos (starEach [b] X.env)).any (·.1) = false := by rfl) :
    PI X (.Tuple elts x1 tp) (.Call (.Name "zip" p) [a, b] [] pos) (iZip X ta) := by
  intro pins s σ H R I h
  refine wpAny_Call_Name_kw (ld_blt I hg h.1 bo_zip ?_)
  refine PyProof.Rows.callWith_type1 (thn (ha pos pins s σ H _ I h.2) fun us s1 ⟨vs, H1, I1, r1, q1⟩ => ?_) hs hpl
  obtain ⟨b1, b2, l1, l2, xs, ys, rfl, q1, q2, hR⟩ := q1
  obtain ⟨u1, u2, rfl, rx, ry⟩ := vals2 r1
  cases rx
  cases ry
  obtain ⟨its1, rv1, p1⟩ := I1.sqB q1
  obtain ⟨its2, rv2, p2⟩ := I1.sqB q2
  obtain ⟨o1, e1, _⟩ := SqB.there I1 q1
  obtain ⟨o2, e2, _⟩ := SqB.there I1 q2
  have n1 := Heap.lt_size e1
  have n2 := Heap.lt_size e2
  refine call_zip p1 p2 fun h' hz hTI hTO h1 h2 hsz hk => wpAny_pyIter_zip hz ?_
  refine ⟨s1.heap.objs.size + 4, [s1.heap.objs.size + 4, s1.heap.objs.size + 2, s1.heap.objs.size + 3, s1.heap.objs.size, s1.heap.objs.size + 1], _, _, H1, rfl, I1.kept (t' := s1.toks) hk,
    turn_zip _ _ _ _ _ l1 l2 (zip_apart _ _ _ n1 n2), ⟨hz, hTI, ⟨_, _, hTO⟩, h1, h2⟩, fun b hb => ?_, hR⟩
  have ge : s1.heap.objs.size ≤ b := by
    simp only [List.mem_cons, List.not_mem_nil, or_false] at hb
    rcases hb with rfl | rfl | rfl | rfl | rfl
    · exact Nat.le_add_right _ _
    · exact Nat.le_add_right _ _
    · exact Nat.le_add_right _ _
    · exact Nat.le_refl _
    · exact Nat.le_add_right _ _
  exact I1.fpOk ge (I1.hok.fresh ge)
section
variable {K : PySem.W.Frag} {σ : St} {H : Hp}
theorem for_E {a : Addr} {xs : List V} {DN : St → Hp → Prop} {B : (St → Hp → Prop) → V → St → Hp → Prop} (Pv : Nat → St → Hp → Prop) (h0 : Pv 0 σ H) (hl : ∀ i σ H, i ≤ xs.length → Pv i σ H → SqL K H a xs)
    (hs : ∀ i x t σ H, xs[i]? = some x → H t = none → Pv i σ H → B (Pv (i + 1)) (.ref t) σ (upd H t (.tup [.int i, x]))) (hd : ∀ σ H, Pv xs.length σ H → DN σ H) :
    ∃ W : Nat → Nat → St → Hp → Prop, (∃ m, W 0 m σ H) ∧ ∀ i m σ H, W i m σ H →
      ((Ite K a).stop i H ∧ DN σ H) ∨ ((Ite K a).go i H ∧ ∃ N : St → Hp → Prop, (∀ σ' H', N σ' H' → ∃ m', m' < m ∧ W (i + 1) m' σ' H') ∧ ∀ x H', (Ite K a).yld i H x H' → B N x σ H') := by
  refine ⟨fun i m σ H => m = xs.length - i ∧ i ≤ xs.length ∧ Pv i σ H, ⟨xs.length, by simp, Nat.zero_le _, h0⟩, ?_⟩
  rintro i m σ H ⟨rfl, hi, p⟩
  have q := hl i σ H hi p
  by_cases hlt : i < xs.length
  · refine .inr ⟨⟨xs, xs[i], q, by simp [hlt]⟩, Pv (i + 1), fun σ' H' p' => ⟨xs.length - (i + 1), by omega, rfl, hlt, p'⟩, fun v H' y => ?_⟩
    obtain ⟨t, x, ht, rfl, hx, rfl⟩ := y
    exact hs i x t σ _ (hx xs q) ht p
  · have e : i = xs.length := by omega
    subst e
    exact .inl ⟨⟨xs, q, Nat.le_refl _⟩, hd σ H p⟩
theorem for_Z {b1 b2 : Bool} {a1 a2 : Addr} {xs ys : List V} {DN : St → Hp → Prop} {B : (St → Hp → Prop) → V → St → Hp → Prop} (Pv : Nat → St → Hp → Prop) (h0 : Pv 0 σ H) (hl : ∀ i σ H, i ≤ min xs.length ys.length → Pv i σ H → SqB b1 K H a1 xs ∧ SqB b2 K H a2 ys)
    (hs : ∀ i x y t σ H, xs[i]? = some x → ys[i]? = some y → H t = none → Pv i σ H → B (Pv (i + 1)) (.ref t) σ (upd H t (.tup [x, y]))) (hd : ∀ σ H, Pv (min xs.length ys.length) σ H → DN σ H) :
    ∃ W : Nat → Nat → St → Hp → Prop, (∃ m, W 0 m σ H) ∧ ∀ i m σ H, W i m σ H →
      ((Itz K b1 b2 a1 a2).stop i H ∧ DN σ H) ∨ ((Itz K b1 b2 a1 a2).go i H ∧ ∃ N : St → Hp → Prop, (∀ σ' H', N σ' H' → ∃ m', m' < m ∧ W (i + 1) m' σ' H') ∧ ∀ x H', (Itz K b1 b2 a1 a2).yld i H x H' → B N x σ H') := by
  refine ⟨fun i m σ H => m = min xs.length ys.length - i ∧ i ≤ min xs.length ys.length ∧ Pv i σ H, ⟨min xs.length ys.length, by simp, Nat.zero_le _, h0⟩, ?_⟩
  rintro i m σ H ⟨rfl, hi, p⟩
  obtain ⟨q1, q2⟩ := hl i σ H hi p
  by_cases hlt : i < min xs.length ys.length
  · have l1 : i < xs.length := by omega
    have l2 : i < ys.length := by omega
    refine .inr ⟨⟨xs, ys, xs[i], ys[i], q1, q2, by simp [l1], by simp [l2]⟩, Pv (i + 1), fun σ' H' p' => ⟨min xs.length ys.length - (i + 1), by omega, rfl, hlt, p'⟩, fun v H' y => ?_⟩
    obtain ⟨t, x, y, ht, rfl, hx, hy, rfl⟩ := y
    exact hs i x y t σ _ (hx xs q1) (hy ys q2) ht p
  · have e : i = min xs.length ys.length := by omega
    subst e
    exact .inl ⟨⟨xs, ys, q1, q2, by omega⟩, hd σ H p⟩
end
section
variable {X : Cx} {N : List Str} {scope : Scope} {s : Shared} {H : Hp} {fp : List Addr} {pins : List (Addr × Obj)}
theorem cxC_K : (cxC X N scope s H fp pins).K = X.K := rfl
theorem cxC_mg : (cxC X N scope s H fp pins).mg = X.mg := rfl
theorem cxC_prog : (cxC X N scope s H fp pins).prog = X.prog := rfl
theorem cxC_w : (cxC X N scope s H fp pins).w = X.w := rfl
theorem cxC_base : (cxC X N scope s H fp pins).base = X.base := rfl
end
end L2

namespace L2
open PySem PySem.Spec PySem.Calls PyProof.Rows

/-! ### C.m(self, ..): a method asked of its class -/
structure BCal (P : Program) (w : World) (K : PySem.W.Frag) (mg : Str → Option Value) (base : Heap) (x m : Str) (k : Nat) (ps : List Str) (dvs : List V) (sp : Sp) : Prop where
  ex : ∃ C f fd ds, mg x = some (.ref C) ∧ PySem.W.specialIn K (.ref C) "__getattribute__" = some (some (.builtin "type.__getattribute__")) ∧ PySem.W.readsIn K C (.type "type") = true ∧
    PySem.W.findCls K (.ref C) (.type "type") m = some (.val (.ref f)) ∧ PySem.W.handedIn (.ref f) = true ∧ FnOk P w K mg base (CXr P w) k f fd ps sp ∧ PySem.W.keepIn K (.ref f) = true ∧ Binds K fd ps ds ∧ Vals dvs ds
theorem BCal.mono {P : Program} {w : World} {K : PySem.W.Frag} {mg : Str → Option Value} {base : Heap} {x m : Str} {j k : Nat} {ps : List Str} {dvs : List V} {sp : Sp} (c : BCal P w K mg base x m j ps dvs sp) (h : j ≤ k := by decide) : BCal P w K mg base x m k ps dvs sp :=
  let ⟨C, f, fd, ds, a, b, c, d, e, g, r⟩ := c.ex; ⟨C, f, fd, ds, a, b, c, d, e, g.mono h, r⟩
section
variable {X : Cx} {G : GK} {k : Nat} {x m : Str} {p pos apos : Pos} {e : Expr} {es : List Expr} {t : TA}
def tBase (X : Cx) (k : Nat) (x m : Str) (G : GK) (t : TA) : TE := fun σ H Q => ∃ ps dvs sp, BCal X.prog X.w X.K X.mg X.base x m k ps dvs sp ∧ t σ H fun vs H1 => sp (vs ++ dvs) H1 Q (fun cls _ H' => G cls σ H')
theorem pe_base {pl : Sem Bool} (B : Bod X) (hr : Room k X.A) (ha : PA (X.exg G) (e :: es) t) (hg : Gl X x := by rfl) (hdb : (x == ("__debug__" : Str)) = false := by decide)
    (hst : starEach (e :: es) X.env = (false, eval e X.env) :: starEach es X.env := by rfl) (hpl : (backTo pos (starEach es X.env)).any (·.1) = false := by rfl)
    (ht : eval (.Call (.Attribute (.Name x p) m apos) (e :: es) [] pos) X.env = (do
      let ov ← eval (.Name x p) X.env
      standAt apos.atName
      let (f, first) ← holding [ov] (getMethod ov m pl)
      callWith pos f first (backTo pos (starEach (e :: es) X.env)) (backToKw pos (keywordEach [] X.env))) := by rfl) :
    PE (X.exg G) (.Call (.Attribute (.Name x p) m apos) (e :: es) [] pos) (tBase X k x m G t) := by
  intro pins s σ H Q I h
  obtain ⟨ps, dvs, sp, ⟨C, f, fd, ds, hm, hga, hrd, hfc, hhd, F, hk, hb, hd⟩, h⟩ := h
  refine PySem.W.methodCall_KW (pl := pl) (ld_glob I hg hm ?_ hdb) ht
  refine PySem.W.method_cls I.kIn hga (PySem.W.cls_value I.kIn hrd hfc hhd ?_)
  have I0 := I.tok (s.toks + 1)
  refine PySem.W.callWith_K (first := []) (h₀ := X.base) I.ok.mod.kin hk (thn (ha pos pins _ σ H _ I0 h) fun us s1 ⟨vs, H1, I1, r, q⟩ => ⟨I1.kIn, ?_⟩) hst hpl
  exact run_fnx B F hr hb hd I1 r q
end
structure FB (K : PySem.W.Frag) (mg : Str → Option Value) (x m qual : Str) (st : Stmt) (ps : List Str) : Prop where
  ex : ∃ C f fd, mg x = some (.ref C) ∧ PySem.W.specialIn K (.ref C) "__getattribute__" = some (some (.builtin "type.__getattribute__")) ∧ PySem.W.readsIn K C (.type "type") = true ∧
    PySem.W.findCls K (.ref C) (.type "type") m = some (.val (.ref f)) ∧ Fun K m qual st f fd ∧ PySem.W.keepIn K (.ref f) = true ∧ Binds K fd ps []
theorem FB.cal {P : Program} {w : World} {K : PySem.W.Frag} {mg : Str → Option Value} {base : Heap} {x m qual : Str} {st : Stmt} {ps : List Str} {k : Nat} {sp : Sp} (h : FB K mg x m qual st ps)
    (ok : ∀ {f fd}, Fun K m qual st f fd → FnOk P w K mg base (CXr P w) k f fd ps sp) : BCal P w K mg base x m k ps [] sp := let ⟨C, f, fd, a, b, c, d, F, kp, bi⟩ := h.ex; ⟨C, f, fd, [], a, b, c, d, rfl, ok F, kp, bi, .nil⟩
theorem fb_mk {K : PySem.W.Frag} {mg : Str → Option Value} {C : Addr} {x m qual : Str} {st : Stmt} {ps : List Str} {f : Addr} {oc : Value} {od an : Option Addr} {osl : Array (Option Value)} {kV doc pm cdv ct : Value} (gl : mg x = some (.ref C))
    (ga : PySem.W.specialIn K (.ref C) "__getattribute__" = some (some (.builtin "type.__getattribute__"))) (rd : PySem.W.readsIn K C (.type "type") = true) (fc : PySem.W.findCls K (.ref C) (.type "type") m = some (.val (.ref f)))
    (l : K.lookup f = some ⟨oc, od, .func (PySem.W.fnOf m qual (defArgs st) (defBody st) (defScope st) .none kV doc pm an cdv ct), osl⟩)
    (c : PySem.W.codeIn K cdv qual = true) (k : PySem.W.keepIn K (.ref f) = true)
    (hb : ∀ (kV doc pm : Value) (an : Option Addr) (cdv ct : Value) (us : List Value), us.length = ps.length → bindArgs (PySem.W.fnOf m qual (defArgs st) (defBody st) (defScope st) .none kV doc pm an cdv ct) ⟨us, []⟩ = pure (ps.zip us)) : FB K mg x m qual st ps :=
  ⟨C, f, _, gl, ga, rd, fc, fun_mk l c k, k, (fun_mk l c k).binds hb⟩

/-! ### list(range(..)) -/
section
variable {X : Cx} {a b : Expr} {ta : TA} {p pos lp lpos : Pos}
def rgL (lo : Int) (n : Nat) : List V := (List.range n).map fun (i : Nat) => V.int (lo + (i : Int))
theorem vals_range {lo : Int} {n : Nat} {acc : Array Value} (h : ItemsOf (fun i v => ∃ t, v = .int (lo + i * 1) t) acc n) : Vals (rgL lo n) acc.toList := by
  have key : ∀ (k : Nat) (l : List Value) (m : Nat), l.length = m → (∀ i v, l[i]? = some v → ∃ t, v = Value.int (lo + ((k + i : Nat) : Int)) t) → Vals ((List.range' k m).map fun (i : Nat) => V.int (lo + (i : Int))) l := by
    intro k l
    induction l generalizing k with
    | nil => intro m hm _; simp at hm; subst hm; exact .nil
    | cons x r ih =>
      intro m hm hv
      obtain ⟨m, rfl⟩ : ∃ m', m = m' + 1 := ⟨r.length, by simpa using hm.symm⟩
      rw [List.range'_succ, List.map_cons]
      refine .cons ?_ (ih (k + 1) m (by simpa using hm) fun i v e => ?_)
      · obtain ⟨t, e⟩ := hv 0 x rfl
        exact ⟨t, by simpa using e⟩
      · obtain ⟨t, e'⟩ := hv (i + 1) v (by simpa using e)
        exact ⟨t, by rw [e']; congr 2; omega⟩
  have := key 0 acc.toList n (by simpa using h.1) fun i v e => by
    obtain ⟨t, e'⟩ := h.2 i v (by simpa using e)
    exact ⟨t, by rw [e']; simp⟩
  rw [rgL, List.range_eq_range']
  exact this
def tRg1 (X : Cx) (ta : TA) : TE := fun σ H Q => X.mg "range" = none ∧ ta σ H fun vs H1 => ∃ j : Int, vs = [.int j] ∧ ∀ p, H1 p = none → Q (.ref p) (upd H1 p (.rng 0 j))
def tRg2 (X : Cx) (ta : TA) : TE := fun σ H Q => X.mg "range" = none ∧ ta σ H fun vs H1 => ∃ i j : Int, vs = [.int i, .int j] ∧ ∀ p, H1 p = none → Q (.ref p) (upd H1 p (.rng i j))
theorem pe_rg1 (ha : PA X [a] ta) (hg : Gl X "range" := by rfl) (hs : starEach [a] X.env = [(false, eval a X.env)] := by rfl) : PE X (.Call (.Name "range" p) [a] [] pos) (tRg1 X ta) := by
  intro pins s σ H Q I h
  refine Call_ (ld_blt I hg h.1 boot_range (PyProof.Rows.callWith_type1 (thn (ha pos pins s σ H _ I h.2) fun us s1 ⟨vs, H1, I1, r1, q1⟩ => ?_) hs rfl))
  obtain ⟨j, e, q⟩ := q1
  subst e
  cases r1 with
  | cons r rr =>
    cases rr
    obtain ⟨t, rfl⟩ := r
    exact call_range_1 ⟨.ref _, _, I1.laid (o := .rng 0 j) (fun b o e => Heap.get?_push_of_some _ e) (Nat.le_refl _) ⟨_, _, _, Heap.get?_push_size _ rfl⟩, rfl, q _ I1.fresh⟩
theorem pe_rg2 (ha : PA X [a, b] ta) (hg : Gl X "range" := by rfl) (hs : starEach [a, b] X.env = [(false, eval a X.env), (false, eval b X.env)] := by rfl) (hs2 : starEach [b] X.env = [(false, eval b X.env)] := by rfl) : PE X (.Call (.Name "range" p) [a, b] [] pos) (tRg2 X ta) := by
  intro pins s σ H Q I h
  refine Call_ (ld_blt I hg h.1 boot_range (PyProof.Rows.callWith_type1 (thn (ha pos pins s σ H _ I h.2) fun us s1 ⟨vs, H1, I1, r1, q1⟩ => ?_) (by rw [hs, hs2]) (by rw [hs2]; rfl)))
  obtain ⟨i, j, e, q⟩ := q1
  subst e
  cases r1 with
  | cons r rr =>
    cases rr with
    | cons r' rr =>
      cases rr
      obtain ⟨t, rfl⟩ := r
      obtain ⟨t', rfl⟩ := r'
      exact call_range_2 ⟨.ref _, _, I1.laid (o := .rng i j) (fun b o e => Heap.get?_push_of_some _ e) (Nat.le_refl _) ⟨_, _, _, Heap.get?_push_size _ rfl⟩, rfl, q _ I1.fresh⟩
theorem rgL_length {lo : Int} {n : Nat} : (rgL lo n).length = n := by simp [rgL]
theorem bt_listR (hc : X.calm = true) : CallR X (.type "list") (fun xs H Q => ∃ p lo hi, xs = [.ref p] ∧ H p = some (.rng lo hi) ∧ (-(2 ^ 62) ≤ lo ∧ lo < 2 ^ 62 ∧ -(2 ^ 62) ≤ hi ∧ hi < 2 ^ 62 ∧ (hi - lo).toNat ≤ 1000) ∧ ∀ l, H l = none → Q (.ref l) (upd H l (.lst (rgL lo (hi - lo).toNat)))) := by
  intro pins s σ H xs us Q I r h
  obtain ⟨p, lo, hi, rfl, hq, ⟨h1, h2, h3, h4, h5⟩, q⟩ := h
  obtain ⟨u, rfl, rx⟩ := vals1 r
  cases rx
  obtain ⟨t, u, v, e⟩ := I.hok p _ hq
  refine call_list_range (n := (hi - lo).toNat) (I.ok.hd hc) e (small_one h1 h2 h3 h4) (by rw [rangeSize_one]; split <;> omega) (by omega) fun h' tk acc' c' hk hS hit => ?_
  exact ⟨.ref _, _, I.laid (o := .lst (rgL lo (hi - lo).toNat)) (t' := tk) hk (Nat.le_refl _) ⟨by rw [rgL_length]; exact Nat.le_of_lt (small1000 h5), acc'.toList, c', vals_range hit, by simpa using hS⟩, rfl, q _ I.fresh⟩
end
end L2

/-! for x in range(a, b, -1) -/
namespace L2
open PySem PySem.Spec PyProof.Rows
def Itd (lo : Int) (n : Nat) : It := ⟨fun i _ => i < n, fun i H x H' => H' = H ∧ x = .int (lo - i), fun i _ => n ≤ i⟩
theorem turn_down {P : Program} {w : World} {K : PySem.W.Frag} {tg : Expr} (it : Addr) (lo : Int) (n : Nat) : Turn P w K tg (Itd lo n) [it] it (fun i h => IsRangeIter h it (lo + (i : Nat) * (-1)) ((n : Int) - (i : Nat)) (-1)) where
  mem := by simp
  obj := fun i h st b hb => by
    have e : b = it := by simpa using hb
    subst e
    exact ⟨_, st, fun v z => by
      have z' : Data.fields _ = Data.cell v := z
      cases z'⟩
  keep := fun i h h' st k => k it (by simp) _ st
  item := by
    intro X hP hw hK hc i pins s σ H E I hf st hg
    subst hP hw hK
    obtain ⟨f0, f1, f2, f3, f4, f5⟩ := hf it (by simp)
    have W := Walks.range (prog := X.prog) (w := X.w) (I.ok.hd hc) it lo (-1) n
    refine W.item i s _ _ hg st fun v h' tk hv st' kk => ?_
    obtain ⟨t, rfl⟩ := hv
    have I1 : Inv X pins σ H { s with heap := h', toks := tk } := I.turned (fun b o hb e => kk b o (by simpa using hb) e) f0 f1 f3 f4 f5
    refine ⟨_, rfl, go_of (s := { s with heap := h', toks := tk }) (n := "range_iterator") st' rfl rfl (by decide) ⟨.int (lo - i), H, I1, ⟨t, ?_⟩, ⟨rfl, rfl⟩, st', fun b hb => (hf b hb).1⟩⟩
    congr 1; omega
  done := by
    intro X hP hw hK hc i pins s σ H E I hf st hg
    subst hP hw hK
    obtain ⟨f0, f1, f2, f3, f4, f5⟩ := hf it (by simp)
    exact wpAny_pyNext_range_end (I.ok.hd hc) st (by have : n ≤ i := hg; omega) fun h' eb => ⟨rfl, I.turned (t' := s.toks) (fun b o hb e => eb b o hb e) f0 f1 f3 f4 f5⟩
  self := fun _ _ _ _ _ st h => wpAny_pyIter_rangeiter st h
theorem rangeSize_down (a b : Int) : Builtin.Range.rangeSize a b (-1) = ((a - b).toNat : Int) := by
  unfold Builtin.Range.rangeSize
  rw [if_neg (by decide), show (- (-1 : Int)) = 1 from rfl, Int.ediv_one]
  split <;> omega
theorem small_down {a b : Int} (ha : -(2 ^ 62) ≤ a) (ha' : a < 2 ^ 62) (hb : -(2 ^ 62) ≤ b) (hb' : b < 2 ^ 62) : Builtin.Range.small a b (-1) = true := by
  unfold Builtin.Range.small
  rw [rangeSize_down]
  simp only [Builtin.Range.rangeFitsLong, Bool.and_eq_true, Bool.or_eq_true, decide_eq_true_eq, beq_iff_eq, show ¬ ((-1 : Int) > 0) by decide, if_false]
  omega
section
variable {X : Cx} {tg : Expr}
theorem down_it {pins : List (Addr × Obj)} {σ : St} {H : Hp} {s : Shared} {R : It → Hp → Prop} {E : Value → Shared → Prop} {lo hi : Int} {t u v : Tok} {tk : Nat} (I : Inv X pins σ H s) (h1 : -(2 ^ 62) ≤ lo) (h2 : lo < 2 ^ 62) (h3 : -(2 ^ 62) ≤ hi) (h4 : hi < 2 ^ 62)
    (q : R (Itd lo (lo - hi).toNat) H) : wpAny (model X.prog X.w) X.A (pyIter (.ref s.heap.objs.size)) (PIE X pins σ tg R) E { s with heap := s.heap.push { cls := .type "range", data := .fields #[.int lo t, .int hi u, .int (-1) v] }, toks := tk } := by
  refine wpAny_pyIter_range (IsRange.new ..) (small_down h1 h2 h3 h4) ?_
  have I1 : Inv X pins σ H { s with heap := s.heap.push { cls := .type "range", data := .fields #[.int lo t, .int hi u, .int (-1) v] }, toks := tk } := I.kept fun b o e => Heap.get?_push_of_some _ e
  refine ⟨(s.heap.push { cls := .type "range", data := .fields #[.int lo t, .int hi u, .int (-1) v] }).objs.size, [(s.heap.push { cls := .type "range", data := .fields #[.int lo t, .int hi u, .int (-1) v] }).objs.size], _, _, H, rfl,
    I1.kept (t' := tk) fun b o e => Heap.get?_push_of_some _ e, turn_down _ lo (lo - hi).toNat, ?_, fun b hb => ?_, q⟩
  · have e1 : lo + ((0 : Nat) : Int) * (-1) = lo := by simp
    have e2 : (((lo - hi).toNat : Nat) : Int) - ((0 : Nat) : Int) = Builtin.Range.rangeSize lo hi (-1) := by rw [rangeSize_down]; omega
    show IsRangeIter _ _ (lo + ((0 : Nat) : Int) * (-1)) ((((lo - hi).toNat : Nat) : Int) - ((0 : Nat) : Int)) (-1)
    rw [e1, e2]
    exact Heap.get?_push_size _ rfl
  · have e : b = (s.heap.push { cls := .type "range", data := .fields #[.int lo t, .int hi u, .int (-1) v] }).objs.size := by simpa using hb
    subst e
    exact I1.fpOk (Nat.le_refl _) (I1.hok.fresh (Nat.le_refl _))
def iRng3 (X : Cx) (ta : TA) : TI := fun σ H R => X.mg "range" = none ∧ ta σ H fun vs H1 => ∃ i j : Int, vs = [.int i, .int j, .int (-1)] ∧ (-1000 ≤ i ∧ i < 1000 ∧ -1000 ≤ j ∧ j < 1000) ∧ R (Itd i (i - j).toNat) H1
theorem pi_rg3 {a b c : Expr} {ta : TA} {p pos : Pos} (ha : PA X [a, b, c] ta) (hg : Gl X "range" := by rfl) (hs : starEach [a, b, c] X.env = [(false, eval a X.env), (false, eval b X.env), (false, eval c X.env)] := by rfl) (hs2 : starEach [b, c] X.env = [(false, eval b X.env), (false, eval c X.env)] := by rfl) :
    PI X tg (.Call (.Name "range" p) [a, b, c] [] pos) (iRng3 X ta) := by
  intro pins s σ H R I h
  refine Call_ (ld_blt I hg h.1 boot_range (PyProof.Rows.callWith_type1 (thn (ha pos pins s σ H _ I h.2) fun us s1 ⟨vs, H1, I1, r1, q1⟩ => ?_) (by rw [hs, hs2]) (by rw [hs2]; rfl)))
  obtain ⟨i, j, e, ⟨q1, q2, q3, q4⟩, q⟩ := q1
  subst e
  cases r1 with
  | cons r rr =>
    cases rr with
    | cons r' rr =>
      cases rr with
      | cons r'' rr =>
        cases rr
        obtain ⟨t, rfl⟩ := r
        obtain ⟨t', rfl⟩ := r'
        obtain ⟨t'', rfl⟩ := r''
        exact call_range_3 (by decide) (down_it I1 (by omega) (by omega) (by omega) (by omega) q) (Or.inl (PyProof.noPylong_small (by omega)))
theorem for_D {K : PySem.W.Frag} {σ : St} {H : Hp} {lo : Int} {n : Nat} {DN : St → Hp → Prop} {B : (St → Hp → Prop) → V → St → Hp → Prop} (Pv : Nat → St → Hp → Prop) (h0 : Pv 0 σ H)
    (hs : ∀ i σ H, i < n → Pv i σ H → B (Pv (i + 1)) (.int (lo - i)) σ H) (hd : ∀ σ H, Pv n σ H → DN σ H) :
    ∃ W : Nat → Nat → St → Hp → Prop, (∃ m, W 0 m σ H) ∧ ∀ i m σ H, W i m σ H →
      ((Itd lo n).stop i H ∧ DN σ H) ∨ ((Itd lo n).go i H ∧ ∃ N : St → Hp → Prop, (∀ σ' H', N σ' H' → ∃ m', m' < m ∧ W (i + 1) m' σ' H') ∧ ∀ x H', (Itd lo n).yld i H x H' → B N x σ H') := by
  refine ⟨fun i m σ H => m = n - i ∧ i ≤ n ∧ Pv i σ H, ⟨n, by simp, Nat.zero_le _, h0⟩, ?_⟩
  rintro i m σ H ⟨rfl, hi, p⟩
  by_cases hlt : i < n
  · refine .inr ⟨hlt, Pv (i + 1), fun σ' H' p' => ⟨n - (i + 1), by omega, rfl, hlt, p'⟩, fun x H' y => ?_⟩
    obtain ⟨e, y⟩ := y
    subst e y
    exact hs i σ _ hlt p
  · have e : i = n := by omega
    subst e
    exact .inl ⟨Nat.le_refl _, hd σ H p⟩
end
end L2

/-! texts: walked sign by sign, cut, told over, searched; int of a text; all of a list of truths -/
namespace L2
open PySem PySem.Spec PyProof.Rows
section
variable {X : Cx} {tg : Expr}
/-- the signs of a text, one by one -/
def Its (x : Str) : It := ⟨fun i _ => i < x.cps.size, fun i H v H' => H' = H ∧ ∃ c, x.cps[i]? = some c ∧ v = .str ⟨#[c]⟩, fun i _ => i = x.cps.size⟩
theorem turn_str {P : Program} {w : World} {K : PySem.W.Frag} {tg : Expr} (it : Addr) (x : Str) (t : Tok) (nm : String) (hn : nm = "str_ascii_iterator" ∨ nm = "str_iterator")
    (W : ∀ A : Around, A.handled = none → Walks P w A it [it] [it] x.cps.size (SignAt x) (fun i h => h.IsStrIter it nm x t i))
    (hself : ∀ (A : Around) (i : Nat) (s : Shared) (Q : Value → Shared → Prop) (E : Value → Shared → Prop), s.heap.IsStrIter it nm x t i → Q (.ref it) s → wpAny (model P w) A (pyIter (.ref it)) Q E s) : Turn P w K tg (Its x) [it] it (fun i h => h.IsStrIter it nm x t i) where
  mem := by simp
  obj := fun i h st b hb => by
    have e : b = it := by simpa using hb
    subst e
    obtain ⟨o, e, c, d⟩ := st
    exact ⟨o, e, fun v z => by rw [d] at z; cases z⟩
  keep := fun i h h' st k => let ⟨o, e, r⟩ := st; ⟨o, k it (by simp) o e, r⟩
  item := by
    intro X hP hw hK hc i pins s σ H E I hf st hg
    subst hP hw hK
    obtain ⟨f0, f1, f2, f3, f4, f5⟩ := hf it (by simp)
    refine (W X.A (I.ok.hd hc)).item i s _ _ hg st fun v h' tk hv st' kk => ?_
    obtain ⟨c, u, hcx, rfl⟩ := hv
    have I1 : Inv X pins σ H { s with heap := h', toks := tk } := I.turned (fun b o hb e => kk b o (by simpa using hb) e) f0 f1 f3 f4 f5
    obtain ⟨o, e, c1, d⟩ := id st'
    refine ⟨_, rfl, go_of (s := { s with heap := h', toks := tk }) e c1 d (by rcases hn with rfl | rfl <;> decide) ⟨.str ⟨#[c]⟩, H, I1, ⟨_, rfl⟩, ⟨rfl, c, hcx, rfl⟩, st', fun b hb => (hf b hb).1⟩⟩
  done := by
    intro X hP hw hK hc i pins s σ H E I hf st hg
    subst hP hw hK
    have hg : i = x.cps.size := hg
    subst hg
    obtain ⟨f0, f1, f2, f3, f4, f5⟩ := hf it (by simp)
    exact (W X.A (I.ok.hd hc)).done s _ _ st fun h' tk kk => ⟨rfl, I.turned (fun b o hb e => kk b o (by simpa using hb) e) f0 f1 f3 f4 f5⟩
  self := hself
def iStr (tl : TE) : TI := fun σ H R => tl σ H fun v H1 => ∃ x, v = .str x ∧ R (Its x) H1
theorem pi_str {l : Expr} {tl : TE} (hl : PE X l tl) : PI X tg l (iStr tl) := by
  intro pins s σ H R I h
  refine thn (hl pins s σ H _ I h) fun v s1 ⟨y, H1, I1, r1, q1⟩ => ?_
  obtain ⟨x, e, q⟩ := q1
  subst e
  obtain ⟨t, rfl⟩ := r1
  have fin : ∀ nm, nm = "str_ascii_iterator" ∨ nm = "str_iterator" → (∀ A : Around, A.handled = none → Walks X.prog X.w A s1.heap.objs.size [s1.heap.objs.size] [s1.heap.objs.size] x.cps.size (SignAt x) (fun i h => h.IsStrIter s1.heap.objs.size nm x t i)) →
      (∀ (A : Around) (i : Nat) (s : Shared) (Q : Value → Shared → Prop) (E : Value → Shared → Prop), s.heap.IsStrIter s1.heap.objs.size nm x t i → Q (.ref s1.heap.objs.size) s → wpAny (model X.prog X.w) A (pyIter (.ref s1.heap.objs.size)) Q E s) →
      PIE X pins σ tg R (.ref s1.heap.objs.size) { s1 with heap := s1.heap.push { cls := .type nm, data := .fields #[.str x t, .int 0 0] } } := by
    intro nm hn W hs
    refine ⟨s1.heap.objs.size, [s1.heap.objs.size], _, _, H1, rfl, I1.kept (t' := s1.toks) fun b o e => Heap.get?_push_of_some _ e, turn_str _ x t nm hn W hs, ⟨_, Heap.get?_push_size _ rfl, rfl, rfl⟩, fun b hb => ?_, q⟩
    have e : b = s1.heap.objs.size := by simpa using hb
    subst e
    exact I1.fpOk (Nat.le_refl _) (I1.hok.fresh (Nat.le_refl _))
  cases ha : x.cps.all (· < 128)
  · exact wpAny_pyIter_wide ha (fin _ (.inr rfl) (fun A hA => Walks.strWide hA _ x t) fun _ _ _ _ _ st h => wpAny_pyIter_striter_wide st h)
  · exact wpAny_pyIter_ascii ha (fin _ (.inl rfl) (fun A hA => Walks.strAscii hA _ x t) fun _ _ _ _ _ st h => wpAny_pyIter_striter_ascii st h)
theorem for_S {σ : St} {H : Hp} {x : Str} {DN : St → Hp → Prop} {B : (St → Hp → Prop) → V → St → Hp → Prop} (Pv : Nat → St → Hp → Prop) (h0 : Pv 0 σ H)
    (hs : ∀ i c σ H, x.cps[i]? = some c → Pv i σ H → B (Pv (i + 1)) (.str ⟨#[c]⟩) σ H) (hd : ∀ σ H, Pv x.cps.size σ H → DN σ H) :
    ∃ W : Nat → Nat → St → Hp → Prop, (∃ m, W 0 m σ H) ∧ ∀ i m σ H, W i m σ H →
      ((Its x).stop i H ∧ DN σ H) ∨ ((Its x).go i H ∧ ∃ N : St → Hp → Prop, (∀ σ' H', N σ' H' → ∃ m', m' < m ∧ W (i + 1) m' σ' H') ∧ ∀ v H', (Its x).yld i H v H' → B N v σ H') := by
  refine ⟨fun i m σ H => m = x.cps.size - i ∧ i ≤ x.cps.size ∧ Pv i σ H, ⟨x.cps.size, by simp, Nat.zero_le _, h0⟩, ?_⟩
  rintro i m σ H ⟨rfl, hi, p⟩
  by_cases hlt : i < x.cps.size
  · refine .inr ⟨hlt, Pv (i + 1), fun σ' H' p' => ⟨x.cps.size - (i + 1), by omega, rfl, hlt, p'⟩, fun v H' y => ?_⟩
    obtain ⟨e, c, hc, y⟩ := y
    subst e y
    exact hs i c σ _ hc p
  · have e : i = x.cps.size := by omega
    subst e
    exact .inl ⟨rfl, hd σ H p⟩
/-- x[lo:hi]: some text, not longer -/
def rSlS : V → Option Int → Option Int → Hp → VK → Prop := fun v _ _ H Q => ∃ x, v = .str x ∧ x.length ≤ sizeLine ∧ ∀ y : Str, y.length ≤ x.length → Q (.str y) H
theorem sl_str : SlR X rSlS := by
  intro pins s σ H v u vl vu lo hi sl Q I rx hs pl pu h
  obtain ⟨x, rfl, hx, q⟩ := h
  obtain ⟨t, rfl⟩ := rx
  refine ⟨"str", _, F.slot_str_getitem.lookup, typeIs_str _ _ _, ?_⟩
  obtain ⟨l, hl⟩ : ∃ l : Option (Int × Tok), vl = partValue l := by
    cases pl with
    | none => exact ⟨none, rfl⟩
    | int => exact ⟨some ⟨_, _⟩, rfl⟩
  obtain ⟨r, hr⟩ : ∃ l : Option (Int × Tok), vu = partValue l := by
    cases pu with
    | none => exact ⟨none, rfl⟩
    | int => exact ⟨some ⟨_, _⟩, rfl⟩
  subst hl hr
  refine wpAny_getItem_str_slice (l := l) (u := r) (st := none) hs rfl (post_val_or_str ⟨Nat.le_trans (Txt.slice_le x _ _) hx, fun t' k => ?_⟩)
  exact ⟨.str _, H, I.tok _, ⟨_, rfl⟩, q _ (Txt.slice_le x _ _)⟩
/-- x * n: some text -/
def rMulS : R2 := fun v u H Q => ∃ (x : Str) (n : Int), v = .str x ∧ u = .int n ∧ x.length ≤ 64 ∧ -1000000 ≤ n ∧ n ≤ 10000 ∧ ∀ y : Str, y.length ≤ 640000 → Q (.str y) H
theorem mulTxt_le {x : Str} {n : Int} (h : x.length ≤ 64) (h2 : n ≤ 10000) : (Txt.mul x n).length ≤ 640000 := by
  have key : ∀ (k : Nat) (acc : Array Nat), ((List.replicate k x.cps).foldl (· ++ ·) acc).size = acc.size + k * x.cps.size := by
    intro k
    induction k with
    | zero => intro acc; simp
    | succ k ih => intro acc; rw [List.replicate_succ, List.foldl_cons, ih, Array.size_append, Nat.succ_mul]; omega
  have hx : x.cps.size ≤ 64 := h
  unfold Txt.mul
  split
  · show (0 : Nat) ≤ 640000; decide
  · split
    · omega
    · show ((List.replicate n.toNat x.cps).foldl (· ++ ·) #[]).size ≤ 640000
      rw [key]
      have h3 : n.toNat * x.cps.size ≤ 10000 * 64 := Nat.mul_le_mul (by omega) hx
      simp only [List.size_toArray, List.length_nil]
      omega
theorem og_mulS : OpR X (binaryOp .Mult) rMulS := by
  intro pins s σ H v u a b Q I rv ru h
  obtain ⟨x, n, rfl, rfl, h1, h2, h3, q⟩ := h
  obtain ⟨t, rfl⟩ := rv
  obtain ⟨t', rfl⟩ := ru
  exact SB.mul (mulOk_of 64 10000 h1 (by omega) (by omega) (by decide) (by decide)) fun t' k => ⟨.str _, H, I.tok _, ⟨_, rfl⟩, q _ (mulTxt_le h1 h3)⟩
/-- x in y, of texts -/
theorem og_inS : OpR X (compareOp .In) (fun x y H Q => ∃ i j, x = .str i ∧ y = .str j ∧ Q (.bl (!(Builtin.Str.occurrences j i 0 j.length 1).isEmpty)) H) := op_in_str
/-- int of a text -/
theorem bt_intS : CallR X (.type "int") (fun xs H Q => ∃ x n, xs = [.str x] ∧ PySem.intText? x = some n ∧ x.length ≤ 640 ∧ Q (.int n) H) := by
  intro pins s σ H xs us Q I r h
  obtain ⟨x, n, rfl, hn, hl, q⟩ := h
  obtain ⟨u, rfl, rx⟩ := vals1 r
  obtain ⟨t, rfl⟩ := rx
  exact PySem.W.KIN.call_text hn hl ⟨.int n, H, I.tok _, ⟨_, rfl⟩, q⟩
/-- x.find(y) -/
def rFind : V → List V → Hp → VK → Prop := fun v vs H Q => ∃ x y, v = .str x ∧ vs = [.str y] ∧ Q (.int (Txt.find x y)) H
theorem mt_find : MtR X "str.find" rFind := by
  intro pins s σ H v vs a us Q I rv r h
  obtain ⟨x, y, rfl, rfl, q⟩ := h
  obtain ⟨t, rfl⟩ := rv
  obtain ⟨u, rfl, rx⟩ := vals1 r
  obtain ⟨t', rfl⟩ := rx
  exact SC.find ⟨.int (Txt.find x y), H, I.tok _, ⟨_, rfl⟩, q⟩
/-- all of a list of truths -/
theorem bi_all (hc : X.calm = true) : CallR X (.builtin "all") (fun xs H Q => ∃ p, ∃ bs : List Bool, xs = [.ref p] ∧ H p = some (.lst (bs.map V.bl)) ∧ Q (.bl (bs.all id)) H) := by
  intro pins s σ H xs us Q I r h
  obtain ⟨p, bs, rfl, hp, q⟩ := h
  obtain ⟨u, rfl, rx⟩ := vals1 r
  cases rx
  obtain ⟨its, rv, hl, hz⟩ := I.list (SqL.of (K := X.K) hp)
  have hl' := hl.isList
  have hlt : p < s.heap.objs.size := by obtain ⟨_, e, _⟩ := hl'; exact Heap.lt_size e
  have hlen : its.length = bs.length := by have := rv.length; rw [List.length_map] at this; exact this.symm
  refine call_all_walk (wpAny_pyIter_list hl' ?_)
  refine ⟨s.heap.objs.size, [s.heap.objs.size, p], [s.heap.objs.size], its.toArray.size, _, _, fun i => (bs[i]?).getD true, rfl, Walks.list (A := X.A.in1) (I.ok.hd hc) _ p (Nat.ne_of_lt hlt) its.toArray,
    ⟨⟨_, Heap.get?_push_size _ rfl, rfl, rfl⟩, hl'.push _⟩, fun i v s' Q' E' hP hQ => ?_, fun h' tk hk => ?_⟩
  · have hP : its[i]? = some v := by simpa using hP
    have hib : i < bs.length := by rw [← hlen]; exact (List.getElem?_eq_some_iff.mp hP).1
    obtain ⟨u, hu, ru⟩ := rv.get (i := i) (x := .bl bs[i]) (by rw [List.getElem?_map, List.getElem?_eq_getElem hib]; rfl)
    rw [hu] at hP
    cases hP
    cases ru
    have e : (bs[i]?).getD true = bs[i] := by rw [List.getElem?_eq_getElem hib]; rfl
    simp only [e] at hQ
    exact wpAny_truthy_bool hQ
  · have e : ((List.range its.toArray.size).all fun i => (bs[i]?).getD true) = bs.all id := by
      rw [List.size_toArray, hlen]
      cases hb : bs.all id with
      | true =>
        rw [List.all_eq_true] at hb ⊢
        intro i hi
        have hi := List.mem_range.mp hi
        rw [List.getElem?_eq_getElem hi]
        exact hb _ (List.getElem_mem hi)
      | false =>
        rw [List.all_eq_false] at hb ⊢
        obtain ⟨b, hbm, hbf⟩ := hb
        obtain ⟨i, hi, rfl⟩ := List.getElem_of_mem hbm
        exact ⟨i, List.mem_range.mpr hi, by rw [List.getElem?_eq_getElem hi]; exact hbf⟩
    rw [e]
    refine ⟨.bl (bs.all id), H, I.kept (t' := tk) (fun b o eb => hk b o (fun hm => ?_) (Heap.get?_push_of_some _ eb)), rfl, q⟩
    rw [List.mem_singleton.mp hm] at eb
    exact Nat.lt_irrefl _ (Heap.lt_size eb)
/-- x += y, of texts -/
def ipS : TIp := fun x y H Q => ∃ i j : Str, x = .str i ∧ y = .str j ∧ i.length + j.length ≤ sizeLine ∧ Q (.str (i ++ j)) H
theorem ip_addS : PIp X .Add ipS := by
  intro pins s σ H x y v u Q I r1 r2 h
  exact iop_add_str pins s σ H x y v u Q I r1 r2 h
end
/-! the figures -/
def isFig (c : Nat) : Bool := decide (48 ≤ c) && decide (c ≤ 57)
theorem figs_len : (("0123456789" : Str)).length = 10 := by decide +kernel
theorem occ_fig (c : Nat) : Builtin.Str.occurrences ("0123456789" : Str) ⟨#[c]⟩ 0 10 1 = if isFig c = true then [c - 48] else [] := by
  by_cases h : isFig c = true
  · rw [if_pos h]
    have h1 : 48 ≤ c ∧ c ≤ 57 := by simpa [isFig] using h
    have h2 : c = 48 ∨ c = 49 ∨ c = 50 ∨ c = 51 ∨ c = 52 ∨ c = 53 ∨ c = 54 ∨ c = 55 ∨ c = 56 ∨ c = 57 := by omega
    rcases h2 with rfl | rfl | rfl | rfl | rfl | rfl | rfl | rfl | rfl | rfl <;> decide +kernel
  · rw [if_neg h]
    have h1 : ¬ (48 ≤ c ∧ c ≤ 57) := by simpa [isFig] using h
    have := PySem.W.occ_nil_of_no (x := ("0123456789" : Str)) (y := ⟨#[c]⟩) 1 (fun i hi => ?_)
    · rw [figs_len] at this; exact this
    · have hi : i + 1 ≤ 10 := by rw [figs_len] at hi; exact hi
      have h3 : i = 0 ∨ i = 1 ∨ i = 2 ∨ i = 3 ∨ i = 4 ∨ i = 5 ∨ i = 6 ∨ i = 7 ∨ i = 8 ∨ i = 9 := by omega
      have key : ∀ d : Nat, 48 ≤ d ∧ d ≤ 57 → ((#[d] : Array Nat) == #[c]) = false := fun d hd => by
        rw [beq_eq_false_iff_ne]
        intro z
        have : d = c := by simpa using z
        omega
      rcases h3 with rfl | rfl | rfl | rfl | rfl | rfl | rfl | rfl | rfl | rfl <;> exact key _ (by decide)
end L2

namespace L2
open PySem PySem.Spec PySem.Calls PyProof.Rows
/-! ### sorted of a list of whole numbers -/
theorem vals_of_ints : ∀ {us : List Value} {ns : List Int}, IntsAre us ns → Vals (ns.map V.int) us
  | _, _, .nil => .nil
  | _, _, .cons n t h => .cons ⟨t, rfl⟩ (vals_of_ints h)
section
variable {X : Cx}
theorem bi_sorted : CallR X (.builtin "sorted") (fun xs H Q => ∃ p, ∃ ns : List Int, xs = [.ref p] ∧ SqL X.K H p (ns.map V.int) ∧ ns.length < 64 ∧
    ∀ (ms : List Int) l, ms.Perm ns → ms.Pairwise (· ≤ ·) → H l = none → Q (.ref l) (upd H l (.lst (ms.map V.int)))) := by
  intro pins s σ H xs us Q I r h
  obtain ⟨p, ns, rfl, hp, h64, q⟩ := h
  obtain ⟨u, rfl, rx⟩ := vals1 r
  cases rx
  obtain ⟨its, rv, hl, hz⟩ := I.list hp
  have hlen : its.length = ns.length := by have := rv.length; rw [List.length_map] at this; exact this.symm
  refine sorted_ints hl.isList (intsAre_of rv) (by omega) fun out ms a1 a2 a3 => ?_
  obtain ⟨e, he⟩ := sortedAll_at s.heap its out
  exact ⟨.ref _, _, I.laid (a := s.heap.objs.size + 1) (o := .lst (ms.map V.int)) (t' := s.toks) (fun b o h => sortedAll_old h) (Nat.le_succ _) ⟨by rw [List.length_map, a2.length_eq]; exact Nat.le_of_lt (small1000 (by omega)), out.toList, e, vals_of_ints a1, by simpa using he⟩, rfl, q ms _ a2 a3 (I.hok.fresh (Nat.le_succ _))⟩
/-- sum of a list of whole numbers -/
theorem bi_sum (hc : X.calm = true) : CallR X (.builtin "sum") (fun xs H Q => ∃ p, ∃ ns : List Int, xs = [.ref p] ∧ SqL X.K H p (ns.map V.int) ∧ Q (.int ns.sum) H) := by
  intro pins s σ H xs us Q I r h
  obtain ⟨p, ns, rfl, hp, q⟩ := h
  obtain ⟨u, rfl, rx⟩ := vals1 r
  cases rx
  obtain ⟨its, rv, hl, hz⟩ := I.list hp
  have hl' := hl.isList
  have hlt : p < s.heap.objs.size := by obtain ⟨_, e, _⟩ := hl'; exact Heap.lt_size e
  have hlen : its.length = ns.length := by have := rv.length; rw [List.length_map] at this; exact this.symm
  refine call_sum_walkG (wpAny_pyIter_list hl' ?_)
  refine ⟨s.heap.objs.size, [s.heap.objs.size, p], [s.heap.objs.size], its.toArray.size, _, _, fun i => ns[i]?.getD 0, rfl, Walks.list (A := X.A.in1) (I.ok.hd hc) _ p (Nat.ne_of_lt hlt) its.toArray,
    ⟨⟨_, Heap.get?_push_size _ rfl, rfl, rfl⟩, hl'.push _⟩, fun b hb => ?_, fun i v hP => vals_intAt rv i v (by simpa using hP), fun h' tk t' hk => ?_⟩
  · simp only [List.mem_cons, List.not_mem_nil, or_false] at hb
    simp only [Heap.size_push]
    rcases hb with rfl | rfl
    · exact Nat.lt_succ_self _
    · exact Nat.lt_succ_of_lt hlt
  · have e0 := pre_list (ns := ns) ns.length (Nat.le_refl _)
    rw [List.take_length] at e0
    rw [List.size_toArray, hlen, e0]
    exact ⟨.int ns.sum, H, I.kept (t' := tk) (fun b o e => hk b o (by simpa using Nat.ne_of_lt (Heap.lt_size e)) (Heap.get?_push_of_some _ e)), ⟨_, rfl⟩, q⟩
end

/-! ### a def with written defaults -/
structure FunD (K : PySem.W.Frag) (x qual : Str) (st : Stmt) (f : Addr) (fd : FuncData) : Prop where
  ex : ∃ (oc : Value) (od : Option Addr) (dV kV doc pm : Value) (an : Option Addr) (cdv ct : Value) (osl : Array (Option Value)),
    fd = PySem.W.fnOf x qual (defArgs st) (defBody st) (defScope st) dV kV doc pm an cdv ct ∧ K.lookup f = some ⟨oc, od, .func fd, osl⟩ ∧ PySem.W.codeIn K cdv qual = true
  kp : PySem.W.keepIn K (.ref f) = true
section
variable {P : Program} {w : World} {K : PySem.W.Frag} {mg : Str → Option Value} {base : Heap}
theorem FunD.okx {x qual : Str} {st : Stmt} {f : Addr} {fd : FuncData} {N ps : List Str} {k : Nat} {sp : Sp} (F : FunD K x qual st f fd) (S : FnScope N ps (defScope st)) (len : ∀ vs H Q E, sp vs H Q E → vs.length = ps.length)
    (hbody : ∀ (cdv : Value) (A : Around) (outer : List Env) (s : Shared) (H : Hp) (vs : List V) (Q : VK) (E : XK), Room k (A.deeper (envOfC qual (defScope st) s.heap.objs.size f cdv)) → sp vs H Q E →
      ∃ t, PSs ((cxR P w K mg base N qual (defScope st) f cdv A outer s H E).exg fun cls _ H' => E cls none H') (defBody st) t ∧ t { nx := fun _ H' => Q .non H', rt := Q } (start N vs) H) : FnOk P w K mg base (CXr P w) (k + 1) f fd ps sp := by
  obtain ⟨oc, od, dV, kV, doc, pm, an, cdv, ct, osl, rfl, lk, hcd⟩ := F.ex
  refine fn_of lk hcd S len fun A outer s H vs Q E hr hsp => ?_
  obtain ⟨t, h, q⟩ := hbody cdv A outer s H vs Q E hr hsp
  refine ⟨t, fun pins s σ H' D I hw => ?_, q⟩
  refine wpAny_mono (h pins s σ H' D (I.wish _) hw) (fun _ _ z => z.unwish) fun e s' z => ?_
  refine wpAny_bind (wpAny_mono (show wpAny _ _ _ _ _ _ from z) (fun _ s1 y1 => wpAny_mono y1 (fun _ s'' y => ?_) fun _ _ y => y.elim) fun _ _ y => y.elim)
  obtain ⟨a, cls, σ2, H2, rfl, J, xx, g⟩ := y
  exact ⟨a, cls, H2, rfl, J.os, J.bare, J.base, J.hok, xx.less (fun p hp => absurd hp (by simp)), g⟩
/-- ds: the last parameters' written values -/
structure FD (K : PySem.W.Frag) (mg : Str → Option Value) (x : Str) (st : Stmt) (ps : List Str) (dvs : List V) : Prop where
  ex : ∃ f fd ds, FunD K x x st f fd ∧ mg x = some (.ref f) ∧ Binds K fd ps [] ∧ Binds K fd ps ds ∧ Vals dvs ds
theorem FD.cal {x : Str} {st : Stmt} {ps : List Str} {dvs : List V} {k : Nat} {sp : Sp} (h : FD K mg x st ps dvs) (ok : ∀ {f fd}, FunD K x x st f fd → FnOk P w K mg base (CXr P w) k f fd ps sp) :
    Cal P w K mg base x k ps [] sp := let ⟨f, fd, _, F, m, b, _⟩ := h.ex; ⟨f, fd, [], ok F, m, F.kp, b, .nil⟩
theorem FD.cald {x : Str} {st : Stmt} {ps : List Str} {dvs : List V} {k : Nat} {sp : Sp} (h : FD K mg x st ps dvs) (ok : ∀ {f fd}, FunD K x x st f fd → FnOk P w K mg base (CXr P w) k f fd ps sp) :
    Cal P w K mg base x k ps dvs sp := let ⟨f, fd, ds, F, m, _, b, v⟩ := h.ex; ⟨f, fd, ds, ok F, m, F.kp, b, v⟩
theorem fd_mk {h : Heap} {x : Str} {st : Stmt} {ps : List Str} {dvs : List V} {f dT : Addr} {oc toc : Value} {od an tod : Option Addr} {osl tsl : Array (Option Value)} {items : Array Value} {tn : Nat} {kV doc pm cdv ct : Value} (X : K.In h) (G : h.Ns mainGlobals mg)
    (a : PySem.W.nsIn K mainGlobals x = some (some (.ref f))) (l : K.lookup f = some ⟨oc, od, .func (PySem.W.fnOf x x (defArgs st) (defBody st) (defScope st) (.ref dT) kV doc pm an cdv ct), osl⟩)
    (c : PySem.W.codeIn K cdv x = true) (k : PySem.W.keepIn K (.ref f) = true) (lt : K.lookup dT = some ⟨toc, tod, .seq items tn, tsl⟩) (hv : Vals dvs items.toList)
    (hb : ∀ (s : Shared) (us : List Value), K.In s.heap → us.length = ps.length → BindsTo s (PySem.W.fnOf x x (defArgs st) (defBody st) (defScope st) (.ref dT) kV doc pm an cdv ct) ⟨us, []⟩ (ps.zip us))
    (hd : ∀ (s : Shared) (us : List Value), K.In s.heap → (us ++ items.toList).length = ps.length → BindsTo s (PySem.W.fnOf x x (defArgs st) (defBody st) (defScope st) (.ref dT) kV doc pm an cdv ct) ⟨us, []⟩ (ps.zip (us ++ items.toList))) : FD K mg x st ps dvs :=
  ⟨f, _, items.toList, ⟨⟨oc, od, .ref dT, kV, doc, pm, an, cdv, ct, osl, rfl, l, c⟩, k⟩, PySem.W.mg_of X G a, (fun s us hK hl => by rw [List.append_nil] at hl ⊢; exact hb s us hK hl), hd, hv⟩
end
end L2

namespace Mine
/-! the numbers of stage 1 -/
theorem gcd_turn {p r : Int} (hp : 0 ≤ p) (hr : 0 < r) : Int.gcd r (p % r) = Int.gcd p r := by
  have e : (p % r).natAbs = p.natAbs % r.natAbs := by
    have h1 : p = (p.natAbs : Int) := by omega
    have h2 : r = (r.natAbs : Int) := by omega
    rw [h1, h2, ← Int.natCast_emod, Int.natAbs_natCast, Int.natAbs_natCast, Int.natAbs_natCast]
  show Nat.gcd r.natAbs (p % r).natAbs = Nat.gcd p.natAbs r.natAbs
  rw [e, Nat.gcd_comm p.natAbs, Nat.gcd_rec r.natAbs p.natAbs, Nat.gcd_comm]
theorem gcd_end {p : Int} (hp : 0 ≤ p) : (Int.gcd p 0 : Int) = p := by
  rw [Int.gcd_zero_right]; omega
theorem gcd_comm' (a b : Int) : (Int.gcd a b : Int) = Int.gcd b a := by rw [Int.gcd_comm]
/-- what the extended run keeps -/
structure Ext (a b r0 s0 t0 r1 s1 t1 : Int) : Prop where
  e0 : s0 * a + t0 * b = r0
  e1 : s1 * a + t1 * b = r1
  n0 : 0 ≤ r0
  n1 : 0 ≤ r1
  g : Int.gcd r0 r1 = Int.gcd a b
  /-- the signs go in turn -/
  sg : (0 ≤ s0 ∧ s1 ≤ 0 ∧ t0 ≤ 0 ∧ 0 ≤ t1) ∨ (s0 ≤ 0 ∧ 0 ≤ s1 ∧ 0 ≤ t0 ∧ t1 ≤ 0)
  bs : s1.natAbs * r0.natAbs + s0.natAbs * r1.natAbs = b.natAbs
  bt : t1.natAbs * r0.natAbs + t0.natAbs * r1.natAbs = a.natAbs
  z0 : r0.natAbs ≤ a.natAbs + b.natAbs ∧ s0.natAbs ≤ b.natAbs + 1 ∧ t0.natAbs ≤ a.natAbs + 1
  z1 : r1.natAbs ≤ a.natAbs + b.natAbs ∧ s1.natAbs ≤ b.natAbs + 1 ∧ t1.natAbs ≤ a.natAbs + 1
theorem ext_start {a b : Int} (ha : 0 ≤ a) (hb : 0 ≤ b) : Ext a b a 1 0 b 0 1 := by
  refine ⟨by omega, by omega, ha, hb, rfl, .inl ⟨by decide, by decide, by decide, by decide⟩, ?_, ?_, ?_, ?_⟩
  · simp
  · simp
  · simp only [Int.natAbs_one, Int.natAbs_zero]; omega
  · simp only [Int.natAbs_one, Int.natAbs_zero]; omega
theorem natAbs_sub_opp {x y q : Int} (hq : 0 ≤ q) (h : (0 ≤ x ∧ y ≤ 0) ∨ (x ≤ 0 ∧ 0 ≤ y)) : (x - q * y).natAbs = x.natAbs + q.natAbs * y.natAbs := by
  have e : (q * y).natAbs = q.natAbs * y.natAbs := Int.natAbs_mul q y
  rcases h with ⟨h1, h2⟩ | ⟨h1, h2⟩
  · have : q * y ≤ 0 := Int.mul_nonpos_of_nonneg_of_nonpos hq h2
    omega
  · have : 0 ≤ q * y := Int.mul_nonneg hq h2
    omega
theorem ext_turn {a b r0 s0 t0 r1 s1 t1 : Int} (x : Ext a b r0 s0 t0 r1 s1 t1) (h : 0 < r1) : Ext a b r1 s1 t1 (r0 - r0 / r1 * r1) (s0 - r0 / r1 * s1) (t0 - r0 / r1 * t1) := by
  obtain ⟨e0, e1, n0, n1, g, sg, bs, bt, z0, z1⟩ := x
  have hq : 0 ≤ r0 / r1 := Int.ediv_nonneg n0 n1
  have em : r0 - r0 / r1 * r1 = r0 % r1 := by rw [Int.emod_def, Int.mul_comm]
  have m0 : 0 ≤ r0 % r1 := Int.emod_nonneg _ (by omega)
  generalize hqq : r0 / r1 = q at *
  have es : (s0 - q * s1).natAbs = s0.natAbs + q.natAbs * s1.natAbs := natAbs_sub_opp hq (by rcases sg with h | h <;> omega)
  have et : (t0 - q * t1).natAbs = t0.natAbs + q.natAbs * t1.natAbs := natAbs_sub_opp hq (by rcases sg with h | h <;> omega)
  have hr : r0.natAbs = q.natAbs * r1.natAbs + (r0 - q * r1).natAbs := by
    have z : q * r1 = ((q.natAbs * r1.natAbs : Nat) : Int) := by
      rw [← Int.natAbs_mul]; have := Int.mul_nonneg hq n1; omega
    omega
  have Bs : (s0 - q * s1).natAbs * r1.natAbs + s1.natAbs * (r0 - q * r1).natAbs = b.natAbs := by
    rw [es, ← bs, hr, Nat.add_mul, Nat.mul_add]
    have : s1.natAbs * (q.natAbs * r1.natAbs) = q.natAbs * s1.natAbs * r1.natAbs := by rw [← Nat.mul_assoc, Nat.mul_comm s1.natAbs]
    omega
  have Bt : (t0 - q * t1).natAbs * r1.natAbs + t1.natAbs * (r0 - q * r1).natAbs = a.natAbs := by
    rw [et, ← bt, hr, Nat.add_mul, Nat.mul_add]
    have : t1.natAbs * (q.natAbs * r1.natAbs) = q.natAbs * t1.natAbs * r1.natAbs := by rw [← Nat.mul_assoc, Nat.mul_comm t1.natAbs]
    omega
  have r1p : 0 < r1.natAbs := by omega
  have Ls : (s0 - q * s1).natAbs ≤ b.natAbs := by
    have := Nat.le_mul_of_pos_right (s0 - q * s1).natAbs r1p
    omega
  have Lt : (t0 - q * t1).natAbs ≤ a.natAbs := by
    have := Nat.le_mul_of_pos_right (t0 - q * t1).natAbs r1p
    omega
  refine ⟨e1, ?_, by omega, by rw [em]; exact m0, ?_, ?_, Bs, Bt, z1, ⟨by omega, by omega, by omega⟩⟩
  · rw [Int.sub_mul, Int.sub_mul, Int.mul_assoc, Int.mul_assoc, ← e0, ← e1, Int.mul_add]; omega
  · rw [em, gcd_turn n0 h, g]
  · rcases sg with ⟨h1, h2, h3, h4⟩ | ⟨h1, h2, h3, h4⟩
    · right
      have k1 := Int.mul_nonpos_of_nonneg_of_nonpos hq h2
      have k2 := Int.mul_nonneg hq h4
      refine ⟨h2, by omega, h4, by omega⟩
    · left
      have k1 := Int.mul_nonneg hq h2
      have k2 := Int.mul_nonpos_of_nonneg_of_nonpos hq h4
      refine ⟨h2, by omega, h4, by omega⟩
theorem ext_end {a b r0 s0 t0 r1 s1 t1 : Int} (x : Ext a b r0 s0 t0 r1 s1 t1) (h : ¬ 0 < r1) : s0 * a + t0 * b = (Int.gcd a b : Int) := by
  have n1 := x.n1
  have e : r1 = 0 := by omega
  rw [x.e0, ← x.g, e]
  exact (gcd_end x.n0).symm
theorem gcd_pos {a b : Int} (h : ¬ (a = 0 ∧ b = 0)) : 1 ≤ (Int.gcd a b : Int) := by
  have : 0 < Int.gcd a b := Int.gcd_pos_iff.mpr (by omega)
  omega
theorem mod_gcd_left (a b : Int) : a % (Int.gcd a b : Int) = 0 := Int.emod_eq_zero_of_dvd (Int.gcd_dvd_left ..)
theorem mod_gcd_right (a b : Int) : b % (Int.gcd a b : Int) = 0 := Int.emod_eq_zero_of_dvd (Int.gcd_dvd_right ..)
end Mine

/-! readings, simplified by simp -/
namespace L2
open PySem PySem.Spec PyProof.Rows
section
variable {X : Cx} {K : PySem.W.Frag} {σ : St} {H : Hp} {Q : VK} {D : Ends}
theorem rd_ex1 {α : Type} {a : α} {P : α → Prop} : (∃ x, a = x ∧ P x) ↔ P a := ⟨fun ⟨_, e, h⟩ => e ▸ h, fun h => ⟨a, rfl, h⟩⟩
theorem rd_int2 {i j : Int} {C : Int → Int → Prop} {P : Int → Int → Prop} : (∃ a b, V.int i = V.int a ∧ V.int j = V.int b ∧ C a b ∧ P a b) ↔ C i j ∧ P i j :=
  ⟨fun ⟨_, _, e1, e2, h⟩ => by cases e1; cases e2; exact h, fun h => ⟨i, j, rfl, rfl, h⟩⟩
theorem rd_I {C : Int → Int → Prop} {g : Int → Int → V} {i j : Int} : rI C g (.int i) (.int j) H Q ↔ C i j ∧ Q (g i j) H :=
  ⟨fun ⟨_, _, e1, e2, h⟩ => by cases e1; cases e2; exact h, fun h => ⟨i, j, rfl, rfl, h⟩⟩
theorem rd_I0 {g : Int → Int → V} {i j : Int} : rI0 g (.int i) (.int j) H Q ↔ Q (g i j) H :=
  ⟨fun ⟨_, _, e1, e2, h⟩ => by cases e1; cases e2; exact h, fun h => ⟨i, j, rfl, rfl, h⟩⟩
theorem rd_ipI {f : Int → Int → Int} {i j : Int} : ipI f (.int i) (.int j) H Q ↔ Q (.int (f i j)) H := ⟨fun ⟨_, _, e1, e2, h⟩ => by cases e1; cases e2; exact h, fun h => ⟨i, j, rfl, rfl, h⟩⟩
theorem rd_U {g : Int → V} {i : Int} : rU g (.int i) H Q ↔ Q (g i) H := ⟨fun ⟨_, e, h⟩ => by cases e; exact h, fun h => ⟨i, rfl, h⟩⟩
theorem rd_addI {i j : Int} : rAddG K (.int i) (.int j) H Q ↔ Q (.int (i + j)) H := by
  constructor
  · rintro (h | ⟨_, _, e, _⟩ | ⟨_, _, _, _, e, _⟩)
    · exact rd_I0.mp h
    · cases e
    · cases e
  · intro h; exact .inl (rd_I0.mpr h)
theorem rd_addS {i j : Str} : rAddG K (.str i) (.str j) H Q ↔ i.length + j.length ≤ sizeLine ∧ Q (.str (i ++ j)) H := by
  constructor
  · rintro (⟨_, _, e, _⟩ | ⟨_, _, e1, e2, h⟩ | ⟨_, _, _, _, e, _⟩)
    · cases e
    · cases e1; cases e2; exact h
    · cases e
  · intro h; exact .inr (.inl ⟨i, j, rfl, rfl, h⟩)
theorem rd_var {i : Nat} : tVar i σ H Q ↔ ∃ v, σ[i]? = some (some v) ∧ Q v H := Iff.rfl
theorem rd_varS {v : V} {P : V → Prop} : (∃ u, some (some v) = some (some u) ∧ P u) ↔ P v := ⟨fun ⟨_, e, h⟩ => by cases e; exact h, fun h => ⟨v, rfl, h⟩⟩
theorem rd_test {b : Bool} {P : Bool → Prop} : (∃ k, V.bl b = V.bl k ∧ P k) ↔ P b := ⟨fun ⟨_, e, h⟩ => by cases e; exact h, fun h => ⟨b, rfl, h⟩⟩
theorem rd_truB {b : Bool} {P : Bool → Prop} : (∃ k, TruV K (.bl b) H k ∧ P k) ↔ P b := ⟨fun ⟨_, e, h⟩ => by cases (show _ = b from e); exact h, fun h => ⟨b, rfl, h⟩⟩
theorem rd_eqI {i j : Int} : rEqG K (.int i) (.int j) H Q ↔ Q (.bl (decide (i = j))) H := by
  have e : decide (V.int i = V.int j) = decide (i = j) := by simp
  unfold rEqG rEq
  rw [e]
  exact ⟨fun h => h.elim (fun h => h.2) (fun h => h.elim (fun ⟨_, _, _, _, z, _⟩ => nomatch z) (fun ⟨_, _, _, _, _, _, z, _⟩ => nomatch z)), fun h => .inl ⟨rfl, h⟩⟩
theorem rd_neI {i j : Int} : rNeG K (.int i) (.int j) H Q ↔ Q (.bl (!decide (i = j))) H := by
  have e : decide (V.int i = V.int j) = decide (i = j) := by simp
  unfold rNeG rNe
  rw [e]
  exact ⟨fun h => h.elim (fun h => h.2) (fun h => h.elim (fun ⟨_, _, _, _, z, _⟩ => nomatch z) (fun ⟨_, _, _, _, _, _, z, _⟩ => nomatch z)), fun h => .inl ⟨rfl, h⟩⟩
theorem rd_eqS {i j : Str} : rEqG K (.str i) (.str j) H Q ↔ Q (.bl (decide (i = j))) H := by
  have e : decide (V.str i = V.str j) = decide (i = j) := by simp
  unfold rEqG rEq
  rw [e]
  exact ⟨fun h => h.elim (fun h => h.2) (fun h => h.elim (fun ⟨_, _, _, _, z, _⟩ => nomatch z) (fun ⟨_, _, _, _, _, _, z, _⟩ => nomatch z)), fun h => .inl ⟨rfl, h⟩⟩
theorem rd_eqB {i j : Bool} : rEqG K (.bl i) (.bl j) H Q ↔ Q (.bl (decide (i = j))) H := by
  have e : decide (V.bl i = V.bl j) = decide (i = j) := by simp
  unfold rEqG rEq
  rw [e]
  exact ⟨fun h => h.elim (fun h => h.2) (fun h => h.elim (fun ⟨_, _, _, _, z, _⟩ => nomatch z) (fun ⟨_, _, _, _, _, _, z, _⟩ => nomatch z)), fun h => .inl ⟨rfl, h⟩⟩
theorem rd_fvI {i : Int} {P : Str → Prop} {R : Str → Prop} : ((∃ j, V.int i = V.int j ∧ j.natAbs.log2 < 1920 ∧ P (toString j)) ∨ (∃ y, V.int i = V.str y ∧ y.length ≤ sizeLine ∧ R y)) ↔ i.natAbs.log2 < 1920 ∧ P (toString i) :=
  ⟨fun h => h.elim (fun ⟨_, e, h⟩ => by cases e; exact h) (fun ⟨_, e, _⟩ => nomatch e), fun h => .inl ⟨i, rfl, h⟩⟩
theorem rd_strS {y : Str} {P : Str → Prop} : (∃ z, V.str y = V.str z ∧ P z) ↔ P y := ⟨fun ⟨_, e, h⟩ => by cases e; exact h, fun h => ⟨y, rfl, h⟩⟩
theorem rd_neT {a b : Addr} {xs : List V} (h1 : SqT K H a xs) (h2 : SqT K H b xs) (hf : xs.all flatV = true) (hs : seqEq xs xs = true) (q : Q (.bl false) H) : rNeG K (.ref a) (.ref b) H Q :=
  .inr (.inl ⟨a, b, xs, xs, rfl, rfl, .inr ⟨h1, h2⟩, hf, hf, by rw [hs]; exact q⟩)
theorem rd_c0 : ((0 : Nat) : Int) = 0 := rfl
theorem rd_c1 : ((1 : Nat) : Int) = 1 := rfl
theorem rd_c2 : ((2 : Nat) : Int) = 2 := rfl
theorem rd_c3 : ((3 : Nat) : Int) = 3 := rfl
theorem rd_c4 : ((4 : Nat) : Int) = 4 := rfl
theorem rd_c5 : ((5 : Nat) : Int) = 5 := rfl
theorem rd_c6 : ((6 : Nat) : Int) = 6 := rfl
theorem rd_sz0 : (0 ≤ sizeLine) = True := eq_true (by decide)
theorem rd_sz1 : (1 ≤ sizeLine) = True := eq_true (by decide)
theorem rd_sz2 : (2 ≤ sizeLine) = True := eq_true (by decide)
theorem rd_sz3 : (3 ≤ sizeLine) = True := eq_true (by decide)
theorem rd_sz4 : (4 ≤ sizeLine) = True := eq_true (by decide)
theorem rd_sz5 : (5 ≤ sizeLine) = True := eq_true (by decide)
theorem rd_sz6 : (6 ≤ sizeLine) = True := eq_true (by decide)
theorem rd_sz7 : (7 ≤ sizeLine) = True := eq_true (by decide)
theorem rd_setL {p : Addr} {xs : List V} {k : Int} {j : Nat} {v : V} {R : Hp → Prop} (h : H p = some (.lst xs)) (e : ixN xs.length k = some j) (q : R (upd H p (.lst (xs.set j v)))) : rSetL (.ref p) (.int k) v H R := ⟨p, xs, k, j, rfl, rfl, h, e, q⟩
theorem ixN_ok {n : Nat} {k : Int} (h0 : 0 ≤ k) (h1 : k < n) : ixN n k = some k.toNat := by unfold ixN; rw [if_pos h0, if_pos h1]
theorem rd_sz8 : (8 ≤ sizeLine) = True := eq_true (by decide)
theorem rd_sz9 : (9 ≤ sizeLine) = True := eq_true (by decide)
theorem cx_K {CX : CXT} {P : Program} {w : World} {K : PySem.W.Frag} {mg : Str → Option Value} {base : Heap} {N : List Str} {qual : Str} {scope : Scope} {f : Addr} {cd : Value} {A : Around} {outer : List Env} {s : Shared} {H : Hp} {E : XK} : (cxOf CX P w K mg base N qual scope f cd A outer s H E).K = K := rfl
theorem cx_mg {CX : CXT} {P : Program} {w : World} {K : PySem.W.Frag} {mg : Str → Option Value} {base : Heap} {N : List Str} {qual : Str} {scope : Scope} {f : Addr} {cd : Value} {A : Around} {outer : List Env} {s : Shared} {H : Hp} {E : XK} : (cxOf CX P w K mg base N qual scope f cd A outer s H E).mg = mg := rfl
theorem cx_prog {CX : CXT} {P : Program} {w : World} {K : PySem.W.Frag} {mg : Str → Option Value} {base : Heap} {N : List Str} {qual : Str} {scope : Scope} {f : Addr} {cd : Value} {A : Around} {outer : List Env} {s : Shared} {H : Hp} {E : XK} : (cxOf CX P w K mg base N qual scope f cd A outer s H E).prog = P := rfl
theorem cx_w {CX : CXT} {P : Program} {w : World} {K : PySem.W.Frag} {mg : Str → Option Value} {base : Heap} {N : List Str} {qual : Str} {scope : Scope} {f : Addr} {cd : Value} {A : Around} {outer : List Env} {s : Shared} {H : Hp} {E : XK} : (cxOf CX P w K mg base N qual scope f cd A outer s H E).w = w := rfl
theorem cx_base {CX : CXT} {P : Program} {w : World} {K : PySem.W.Frag} {mg : Str → Option Value} {base : Heap} {N : List Str} {qual : Str} {scope : Scope} {f : Addr} {cd : Value} {A : Around} {outer : List Env} {s : Shared} {H : Hp} {E : XK} : (cxOf CX P w K mg base N qual scope f cd A outer s H E).base = base := rfl
theorem rd_cpow {n : Int} : CPow 10 n ↔ 0 ≤ n ∧ n ≤ 1000000 := ⟨fun h => ⟨h.1, h.2.1⟩, fun h => ⟨h.1, h.2, by decide⟩⟩
theorem rd_mul_lt {x y m n : Int} (hx : 0 ≤ x) (hy : 0 ≤ y) (h1 : x < m) (h2 : y < n) : 0 ≤ x * y ∧ x * y < m * n := by
  refine ⟨Int.mul_nonneg hx hy, Int.lt_of_le_of_lt (Int.mul_le_mul_of_nonneg_right (Int.le_of_lt h1) hy) (Int.mul_lt_mul_of_pos_left h2 (by omega))⟩
theorem rd_isiI {i : Int} : rIsi K [.int i, .ty "int"] H Q ↔ Q (.bl true) H := by
  refine ⟨fun h => ?_, fun q => ⟨_, _, _, _, rfl, .old (.int i), .inl ⟨_, rfl, kit_int_int⟩, q⟩⟩
  obtain ⟨x, c, t, b, e, ty, k, q⟩ := h
  cases e
  rcases k with ⟨u, hu, k⟩ | ⟨_, _, _, e, _⟩
  · cases hu; cases ty with | old ty => cases ty; rw [kit_int_int] at k; cases k; exact q
  · cases e
theorem rd_isiIB {i : Int} : rIsi K [.int i, .ty "bool"] H Q ↔ Q (.bl false) H := by
  refine ⟨fun h => ?_, fun q => ⟨_, _, _, _, rfl, .old (.int i), .inl ⟨_, rfl, kit_int_bool⟩, q⟩⟩
  obtain ⟨x, c, t, b, e, ty, k, q⟩ := h
  cases e
  rcases k with ⟨u, hu, k⟩ | ⟨_, _, _, e, _⟩
  · cases hu; cases ty with | old ty => cases ty; rw [kit_int_bool] at k; cases k; exact q
  · cases e
theorem rd_isiB {i : Bool} : rIsi K [.bl i, .ty "bool"] H Q ↔ Q (.bl true) H := by
  refine ⟨fun h => ?_, fun q => ⟨_, _, _, _, rfl, .old (.bl i), .inl ⟨_, rfl, kit_bool_bool⟩, q⟩⟩
  obtain ⟨x, c, t, b, e, ty, k, q⟩ := h
  cases e
  rcases k with ⟨u, hu, k⟩ | ⟨_, _, _, e, _⟩
  · cases hu; cases ty with | old ty => cases ty; rw [kit_bool_bool] at k; cases k; exact q
  · cases e
theorem rd_isiS {i : Str} : rIsi K [.str i, .ty "str"] H Q ↔ Q (.bl true) H := by
  refine ⟨fun h => ?_, fun q => ⟨_, _, _, _, rfl, .old (.str i), .inl ⟨_, rfl, kit_str_str⟩, q⟩⟩
  obtain ⟨x, c, t, b, e, ty, k, q⟩ := h
  cases e
  rcases k with ⟨u, hu, k⟩ | ⟨_, _, _, e, _⟩
  · cases hu; cases ty with | old ty => cases ty; rw [kit_str_str] at k; cases k; exact q
  · cases e
theorem isi_exc {a C : Addr} {c : V} {u : Value} {b : Bool} (h : H a = some (excO a (.ref C))) (f : XI K C) (hu : clsV c = some u) (k : PySem.W.kitOne K (.ref C) u = some b) (q : Q (.bl b) H) : rIsi K [.ref a, c] H Q :=
  ⟨_, _, _, _, rfl, .exc h f, .inl ⟨u, hu, k⟩, q⟩
theorem isi_excT {a C p : Addr} {cs : List V} {us : List Value} {b : Bool} (h : H a = some (excO a (.ref C))) (f : XI K C) (hp : H p = some (.tup cs)) (hu : clsVs cs = some us) (k : PySem.W.kitAny K (.ref C) us = some b) (q : Q (.bl b) H) : rIsi K [.ref a, .ref p] H Q :=
  ⟨_, _, _, _, rfl, .exc h f, .inr ⟨p, cs, us, rfl, hp, hu, k⟩, q⟩
theorem isi_tup {a : Addr} {xs : List V} (h : H a = some (.tup xs)) (q : Q (.bl true) H) : rIsi K [.ref a, .ty "tuple"] H Q := ⟨_, _, _, _, rfl, .old (.tup h), .inl ⟨_, rfl, kit_tup_tup⟩, q⟩
theorem rd_addL {a b : Addr} {xs ys : List V} (h1 : SqL K H a xs) (h2 : SqL K H b ys) (hl : xs.length + ys.length ≤ sizeLine) (q : ∀ p, H p = none → Q (.ref p) (upd H p (.lst (xs ++ ys)))) : rAddG K (.ref a) (.ref b) H Q :=
  .inr (.inr ⟨a, b, xs, ys, rfl, rfl, h1, h2, hl, q⟩)
theorem small64 {n : Nat} (h : n ≤ 1000) : n ≤ sizeLine := Nat.le_of_lt (small1000 h)
theorem for_L {a : Addr} {xs : List V} {DN : St → Hp → Prop} {B : (St → Hp → Prop) → V → St → Hp → Prop} (Pv : Nat → St → Hp → Prop) (h0 : Pv 0 σ H) (hl : ∀ i σ H, i ≤ xs.length → Pv i σ H → SqL K H a xs)
    (hs : ∀ i x σ H, xs[i]? = some x → Pv i σ H → B (Pv (i + 1)) x σ H) (hd : ∀ σ H, Pv xs.length σ H → DN σ H) :
    ∃ W : Nat → Nat → St → Hp → Prop, (∃ m, W 0 m σ H) ∧ ∀ i m σ H, W i m σ H →
      ((Itl K a).stop i H ∧ DN σ H) ∨ ((Itl K a).go i H ∧ ∃ N : St → Hp → Prop, (∀ σ' H', N σ' H' → ∃ m', m' < m ∧ W (i + 1) m' σ' H') ∧ ∀ x H', (Itl K a).yld i H x H' → B N x σ H') := by
  refine ⟨fun i m σ H => m = xs.length - i ∧ i ≤ xs.length ∧ Pv i σ H, ⟨xs.length, by simp, Nat.zero_le _, h0⟩, ?_⟩
  rintro i m σ H ⟨rfl, hi, p⟩
  have q := hl i σ H hi p
  by_cases hlt : i < xs.length
  · refine .inr ⟨⟨xs, xs[i], q, by simp [hlt]⟩, Pv (i + 1), fun σ' H' p' => ⟨xs.length - (i + 1), by omega, rfl, hlt, p'⟩, fun x H' y => ?_⟩
    obtain ⟨e, y⟩ := y
    subst e
    exact hs i x σ _ (y xs q) p
  · have e : i = xs.length := by omega
    subst e
    exact .inl ⟨⟨xs, q, Nat.le_refl _⟩, hd σ H p⟩
theorem for_T {a : Addr} {xs : List V} {DN : St → Hp → Prop} {B : (St → Hp → Prop) → V → St → Hp → Prop} (Pv : Nat → St → Hp → Prop) (h0 : Pv 0 σ H) (hl : ∀ i σ H, i ≤ xs.length → Pv i σ H → SqT K H a xs)
    (hs : ∀ i x σ H, xs[i]? = some x → Pv i σ H → B (Pv (i + 1)) x σ H) (hd : ∀ σ H, Pv xs.length σ H → DN σ H) :
    ∃ W : Nat → Nat → St → Hp → Prop, (∃ m, W 0 m σ H) ∧ ∀ i m σ H, W i m σ H →
      ((Itt K a).stop i H ∧ DN σ H) ∨ ((Itt K a).go i H ∧ ∃ N : St → Hp → Prop, (∀ σ' H', N σ' H' → ∃ m', m' < m ∧ W (i + 1) m' σ' H') ∧ ∀ x H', (Itt K a).yld i H x H' → B N x σ H') := by
  refine ⟨fun i m σ H => m = xs.length - i ∧ i ≤ xs.length ∧ Pv i σ H, ⟨xs.length, by simp, Nat.zero_le _, h0⟩, ?_⟩
  rintro i m σ H ⟨rfl, hi, p⟩
  have q := hl i σ H hi p
  by_cases hlt : i < xs.length
  · refine .inr ⟨⟨xs, xs[i], q, by simp [hlt]⟩, Pv (i + 1), fun σ' H' p' => ⟨xs.length - (i + 1), by omega, rfl, hlt, p'⟩, fun x H' y => ?_⟩
    obtain ⟨e, y⟩ := y
    subst e
    exact hs i x σ _ (y xs q) p
  · have e : i = xs.length := by omega
    subst e
    exact .inl ⟨⟨xs, q, Nat.le_refl _⟩, hd σ H p⟩
theorem for_R {lo : Int} {n : Nat} {DN : St → Hp → Prop} {B : (St → Hp → Prop) → V → St → Hp → Prop} (Pv : Nat → St → Hp → Prop) (h0 : Pv 0 σ H)
    (hs : ∀ i σ H, i < n → Pv i σ H → B (Pv (i + 1)) (.int (lo + i)) σ H) (hd : ∀ σ H, Pv n σ H → DN σ H) :
    ∃ W : Nat → Nat → St → Hp → Prop, (∃ m, W 0 m σ H) ∧ ∀ i m σ H, W i m σ H →
      ((Itr lo n).stop i H ∧ DN σ H) ∨ ((Itr lo n).go i H ∧ ∃ N : St → Hp → Prop, (∀ σ' H', N σ' H' → ∃ m', m' < m ∧ W (i + 1) m' σ' H') ∧ ∀ x H', (Itr lo n).yld i H x H' → B N x σ H') := by
  refine ⟨fun i m σ H => m = n - i ∧ i ≤ n ∧ Pv i σ H, ⟨n, by simp, Nat.zero_le _, h0⟩, ?_⟩
  rintro i m σ H ⟨rfl, hi, p⟩
  by_cases hlt : i < n
  · refine .inr ⟨hlt, Pv (i + 1), fun σ' H' p' => ⟨n - (i + 1), by omega, rfl, hlt, p'⟩, fun x H' y => ?_⟩
    obtain ⟨e, y⟩ := y
    subst e y
    exact hs i σ _ hlt p
  · have e : i = n := by omega
    subst e
    exact .inl ⟨Nat.le_refl _, hd σ H p⟩
theorem rd_l1 {i : Int} {P : Int → Prop} : (∃ j, [V.int i] = [V.int j] ∧ P j) ↔ P i := ⟨fun ⟨_, e, h⟩ => by cases e; exact h, fun h => ⟨i, rfl, h⟩⟩
theorem rd_part {i : Int} {P : Int → Prop} : (∃ j, V.int i = V.int j ∧ P j) ↔ P i := ⟨fun ⟨_, e, h⟩ => by cases e; exact h, fun h => ⟨i, rfl, h⟩⟩
theorem rd_neL {a b : Addr} {xs : List V} (h1 : SqL K H a xs) (h2 : SqL K H b xs) (hf : xs.all flatV = true) (hs : seqEq xs xs = true) (q : Q (.bl false) H) : rNeG K (.ref a) (.ref b) H Q :=
  .inr (.inl ⟨a, b, xs, xs, rfl, rfl, .inl ⟨h1, h2⟩, hf, hf, by rw [hs]; exact q⟩)
theorem rd_neD {a b : Addr} {xs ys : List V} {n : Nat} (hn : n ≤ 8) (h1 : SqL K H a xs) (h2 : SqL K H b ys) (hl : xs.length = ys.length) (hde : ∀ (j : Nat) (x y : V), xs[j]? = some x → ys[j]? = some y → DE K H n x y true) (q : Q (.bl false) H) : rNeG K (.ref a) (.ref b) H Q :=
  .inr (.inr ⟨a, b, xs, ys, n, fun _ => true, rfl, rfl, hn, hde, .inl ⟨h1, h2, hl, by rw [List.all_eq_true.mpr (fun _ _ => rfl)]; exact q⟩⟩)
theorem de_ints {p q : Addr} {ns : List Int} {n : Nat} (hne : p ≠ q) (h1 : SqL K H p (ns.map V.int)) (h2 : SqL K H q (ns.map V.int)) : DE K H (n + 1) (.ref p) (.ref q) true := by
  have := DE.lists (n := n) (e := fun _ => true) hne h1 h2 rfl (fun j x y hx hy => by
    rw [hx] at hy
    cases hy
    rw [List.getElem?_map, Option.map_eq_some_iff] at hx
    obtain ⟨m, _, rfl⟩ := hx
    have z : DE K H n (.int m) (.int m) (eqV (.int m) (.int m)) := .flat rfl rfl
    rw [show eqV (V.int m) (V.int m) = true by simp [eqV]] at z
    exact z)
  rw [List.all_eq_true.mpr (fun _ _ => rfl)] at this
  exact this
theorem rd_eqT {a b : Addr} {xs : List V} (h1 : SqT K H a xs) (h2 : SqT K H b xs) (hf : xs.all flatV = true) (hs : seqEq xs xs = true) (q : Q (.bl true) H) : rEqG K (.ref a) (.ref b) H Q :=
  .inr (.inl ⟨a, b, xs, xs, rfl, rfl, .inr ⟨h1, h2⟩, hf, hf, by rw [hs]; exact q⟩)
theorem rd_eqL {a b : Addr} {xs : List V} (h1 : SqL K H a xs) (h2 : SqL K H b xs) (hf : xs.all flatV = true) (hs : seqEq xs xs = true) (q : Q (.bl true) H) : rEqG K (.ref a) (.ref b) H Q :=
  .inr (.inl ⟨a, b, xs, xs, rfl, rfl, .inl ⟨h1, h2⟩, hf, hf, by rw [hs]; exact q⟩)
theorem rd_slL {a : Addr} {xs : List V} {lo hi : Option Int} (h : SqL K H a xs) (q : ∀ p, H p = none → Q (.ref p) (upd H p (.lst (cutV xs lo hi)))) : rSlL K (.ref a) lo hi H Q := ⟨a, xs, rfl, h, q⟩
theorem rd_len {v : V} {P : V → Nat → Prop} : (∃ x n, [v] = [x] ∧ P x n) ↔ ∃ n, P v n := ⟨fun ⟨_, n, e, h⟩ => by cases e; exact ⟨n, h⟩, fun ⟨n, h⟩ => ⟨v, n, rfl, h⟩⟩
/-- what a heap keeps: a lookup in an updated heap -/
theorem upd_keep {a b : Addr} {o u : HO} (h : H b = some u) (ha : H a = none) : upd H a o b = some u := by rw [upd_ne (ne_of_none h ha)]; exact h
theorem same_upd {a : Addr} {o : HO} (ha : H a = none) : Same H (upd H a o) := fun _ _ h => upd_keep h ha
/-- t[i] of a tuple -/
theorem rd_ixT {a : Addr} {xs : List V} {i : Int} {v : V} (h : H a = some (.tup xs)) (e : atI xs i = some v) (q : Q v H) : rIx K (.ref a) (.int i) H Q := .inr (.inl ⟨a, xs, i, v, rfl, rfl, SqT.of h, e, q⟩)
theorem rd_ixL {a : Addr} {xs : List V} {i : Int} {v : V} (h : SqL K H a xs) (e : atI xs i = some v) (q : Q v H) : rIx K (.ref a) (.int i) H Q := .inl ⟨a, xs, i, v, rfl, rfl, h, e, q⟩
theorem rd_N {N0 : St → Hp → Prop} {B : (St → Hp → Prop) → Prop} (h : B N0) : ∃ N : St → Hp → Prop, (∀ σ' H', N σ' H' → N0 σ' H') ∧ B N := ⟨N0, fun _ _ h => h, h⟩
theorem iteD {c A B : Prop} [Decidable c] (h1 : c → A) (h2 : ¬ c → B) : if decide c = true then A else B := by
  by_cases h : c
  · rw [decide_eq_true h]; exact iteT (h1 h)
  · rw [decide_eq_false h]; exact iteF (h2 h)
theorem iteN {c A B : Prop} [Decidable c] (h1 : c → B) (h2 : ¬ c → A) : if (!decide c) = true then A else B := by
  by_cases h : c
  · rw [decide_eq_true h]; exact iteF (h1 h)
  · rw [decide_eq_false h]; exact iteT (h2 h)
end
end L2
local macro_rules | `(tactic| walk_at "rd") => `(tactic| (simp only [L2.start, List.map_cons, List.map_nil, List.length_cons, List.length_nil, List.cons_append, List.nil_append, L2.tSeq, L2.tAsg, L2.gName, L2.tC, L2.tOp, L2.tUn, L2.tTest, L2.tIfS, L2.tRet, L2.tRetN, L2.tNext, L2.tDrop, L2.tNot, L2.tAnd, L2.tOr, L2.tAndV, L2.tOrV, L2.tNotV, L2.tCons, L2.tNil, L2.tTup, L2.tLst, L2.tBi, L2.tBl,
  L2.rd_var, L2.rd_varS, L2.rd_I, L2.rd_I0, L2.rd_U, L2.tAug, L2.rd_ipI, L2.rd_addI, L2.rd_addS, L2.rd_test, L2.rd_truB, L2.rd_eqI, L2.rd_neI, L2.rd_eqS, L2.rd_eqB, L2.tFv, L2.tJ0, L2.tJ1, L2.rd_fvI, L2.rd_strS, L2.rd_sz0, L2.rd_sz1, L2.rd_sz2, L2.rd_sz3, L2.rd_sz4, L2.rd_sz5, L2.rd_sz6, L2.rd_sz7, L2.gSub, L2.tCont, L2.tBreak, L2.rd_sz8, L2.rd_sz9, L2.cx_K, L2.cx_mg, L2.cx_prog, L2.cx_w, L2.cx_base, L2.gTup, L2.gCons, L2.gNil, L2.tCl, L2.tGl, L2.tChain, L2.tRaise, L2.tTryAs, L2.sFld, L2.tFld, L2.tMk, L2.tMth, L2.tBM, L2.tBM0, L2.tSl, L2.tNoPart, L2.tPart, L2.rd_part, L2.tSumK, L2.rd_l1, L2.rd_len, L2.tClN, L2.tMkN, L2.tMthN, L2.tBase, L2.tYes, L2.tRg1, L2.tRg2, L2.tIf, L2.cxC_K, L2.cxC_mg, L2.cxC_prog, L2.cxC_w, L2.cxC_base, eq_self, reduceCtorEq, decide_false, Option.getD_some, Option.getD_none,
  List.getElem?_cons_zero, List.getElem?_cons_succ, List.set_cons_zero, List.set_cons_succ, List.replicate, Nat.reduceSub, Nat.reduceAdd, true_and, and_true, List.append_nil, L2.rd_cpow, Int.reduceToNat, Int.reducePow, Int.reduceLT, Int.reduceLE, Int.reduceNeg, L2.fdiv_pos, L2.rd_isiI, L2.rd_isiIB, L2.rd_isiB, L2.rd_isiS, Bool.not_true, Bool.not_false, Bool.false_eq_true, reduceIte, decide_true, decide_eq_true_eq, Bool.true_eq_false, Bool.not_eq_true', decide_eq_false_iff_not, L2.rd_c0, L2.rd_c1, L2.rd_c2, L2.rd_c3, L2.rd_c4, L2.rd_c5, L2.rd_c6, Int.reduceEq, not_true_eq_false, not_false_eq_true, Int.reduceMul, Int.reduceAdd, Int.reduceSub]))
local macro_rules | `(tactic| walk_at "r") => `(tactic| try walk_at "rd")
local macro_rules | `(tactic| walk_at "ixT") => `(tactic| (refine L2.rd_ixT (by assumption) rfl ?_; try walk_at "rd"))
local macro_rules | `(tactic| walk_at "sd") => `(tactic| first | assumption | exact L2.mul_okR (by decide) (by decide) | exact L2.mul_okL (by decide) (by decide) | exact L2.mul_okR (by omega) (by omega) | exact L2.mul_okL (by omega) (by omega) | exact L2.fd_ok (by decide) (by decide +kernel) | decide | omega)
local macro_rules | `(tactic| walk_at "sds") => `(tactic| repeat (refine And.intro (by walk_at "sd") ?_))
local macro_rules | `(tactic| walk_at "for") => `(tactic| ((try simp only [L2.tFor, L2.iSeq, L2.iRng1, L2.iRng2, L2.iRng3, L2.iStr, L2.iEnum, L2.iZip]); try walk_at "rd"))
local macro_rules | `(tactic| walk_at "lc") => `(tactic| ((try simp only [L2.tLc, L2.iSeq, L2.stC, L2.iRng1, L2.iRng2, L2.iRng3, L2.iStr, L2.iEnum, L2.iZip]); try walk_at "rd"))
local macro_rules | `(tactic| walk_at "go") => `(tactic| repeat (first | walk_at "rd" | refine And.intro (by assumption) ?_))
set_option hygiene false

namespace K43
open PySem L2 Mine
def top (i : Nat) : Stmt := PySem.Challenge.pw_beltshares_k43_a_made_work.main.body.getD i (.Pass ⟨0, 0, 0, 0⟩)
abbrev s__wall : Stmt := top 0
theorem sc__wall : FnScope ["k"] ["k"] (defScope s__wall) := ⟨rfl, rfl, rfl, by decide +kernel, rfl, by decide +kernel, by decide +kernel⟩
abbrev s_Belt_init : Stmt := inClass (top 10) 0
theorem sc_Belt_init : FnScope ["self", "room", "pace"] ["self", "room", "pace"] (defScope s_Belt_init) := ⟨rfl, rfl, rfl, by decide +kernel, rfl, by decide +kernel, by decide +kernel⟩
abbrev s_check_pace : Stmt := top 15
theorem sc_check_pace : FnScope ["pace", "least"] ["pace", "least"] (defScope s_check_pace) := ⟨rfl, rfl, rfl, by decide +kernel, rfl, by decide +kernel, by decide +kernel⟩
abbrev s_check_kind : Stmt := top 16
theorem sc_check_kind : FnScope ["kind"] ["kind"] (defScope s_check_kind) := ⟨rfl, rfl, rfl, by decide +kernel, rfl, by decide +kernel, by decide +kernel⟩
abbrev s_check_ways : Stmt := top 17
theorem sc_check_ways : FnScope ["belts"] ["belts"] (defScope s_check_ways) := ⟨rfl, rfl, rfl, by decide +kernel, rfl, by decide +kernel, by decide +kernel⟩
abbrev s_Knot_init : Stmt := inClass (top 18) 0
theorem sc_Knot_init : FnScope ["self", "ins", "outs"] ["self", "ins", "outs"] (defScope s_Knot_init) := ⟨rfl, rfl, rfl, by decide +kernel, rfl, by decide +kernel, by decide +kernel⟩
abbrev s_Knot_choice : Stmt := inClass (top 18) 1
theorem sc_Knot_choice : FnScope ["self", "heads", "free", "turn", "side"] ["self", "heads", "free", "turn", "side"] (defScope s_Knot_choice) := ⟨rfl, rfl, rfl, by decide +kernel, rfl, by decide +kernel, by decide +kernel⟩
abbrev s_Knot_copied : Stmt := inClass (top 18) 2
theorem sc_Knot_copied : FnScope ["self"] ["self"] (defScope s_Knot_copied) := ⟨rfl, rfl, rfl, by decide +kernel, rfl, by decide +kernel, by decide +kernel⟩
abbrev s_Source_init : Stmt := inClass (top 19) 0
theorem sc_Source_init : FnScope ["self", "out", "pace", "kinds", "kind"] ["self", "out", "pace", "kinds"] (defScope s_Source_init) := ⟨rfl, rfl, rfl, by decide +kernel, rfl, by decide +kernel, by decide +kernel⟩
abbrev s_Source_choice : Stmt := inClass (top 19) 1
theorem sc_Source_choice : FnScope ["self", "heads", "free", "turn", "side"] ["self", "heads", "free", "turn", "side"] (defScope s_Source_choice) := ⟨rfl, rfl, rfl, by decide +kernel, rfl, by decide +kernel, by decide +kernel⟩
abbrev s_Source_copied : Stmt := inClass (top 19) 2
theorem sc_Source_copied : FnScope ["self"] ["self"] (defScope s_Source_copied) := ⟨rfl, rfl, rfl, by decide +kernel, rfl, by decide +kernel, by decide +kernel⟩
abbrev s_Drain_init : Stmt := inClass (top 20) 0
theorem sc_Drain_init : FnScope ["self", "into", "pace"] ["self", "into", "pace"] (defScope s_Drain_init) := ⟨rfl, rfl, rfl, by decide +kernel, rfl, by decide +kernel, by decide +kernel⟩
abbrev s_Drain_choice : Stmt := inClass (top 20) 1
theorem sc_Drain_choice : FnScope ["self", "heads", "free", "turn", "side"] ["self", "heads", "free", "turn", "side"] (defScope s_Drain_choice) := ⟨rfl, rfl, rfl, by decide +kernel, rfl, by decide +kernel, by decide +kernel⟩
abbrev s_Drain_copied : Stmt := inClass (top 20) 2
theorem sc_Drain_copied : FnScope ["self"] ["self"] (defScope s_Drain_copied) := ⟨rfl, rfl, rfl, by decide +kernel, rfl, by decide +kernel, by decide +kernel⟩
abbrev s_Parter_init : Stmt := inClass (top 21) 0
theorem sc_Parter_init : FnScope ["self", "into", "outs"] ["self", "into", "outs"] (defScope s_Parter_init) := ⟨rfl, rfl, rfl, by decide +kernel, rfl, by decide +kernel, by decide +kernel⟩
abbrev s_Parter_choice : Stmt := inClass (top 21) 1
theorem sc_Parter_choice : FnScope ["self", "heads", "free", "turn", "side"] ["self", "heads", "free", "turn", "side"] (defScope s_Parter_choice) := ⟨rfl, rfl, rfl, by decide +kernel, rfl, by decide +kernel, by decide +kernel⟩
abbrev s_Parter_copied : Stmt := inClass (top 21) 2
theorem sc_Parter_copied : FnScope ["self"] ["self"] (defScope s_Parter_copied) := ⟨rfl, rfl, rfl, by decide +kernel, rfl, by decide +kernel, by decide +kernel⟩
abbrev s_Joiner_init : Stmt := inClass (top 22) 0
theorem sc_Joiner_init : FnScope ["self", "ins", "out"] ["self", "ins", "out"] (defScope s_Joiner_init) := ⟨rfl, rfl, rfl, by decide +kernel, rfl, by decide +kernel, by decide +kernel⟩
abbrev s_Joiner_choice : Stmt := inClass (top 22) 1
theorem sc_Joiner_choice : FnScope ["self", "heads", "free", "turn", "side"] ["self", "heads", "free", "turn", "side"] (defScope s_Joiner_choice) := ⟨rfl, rfl, rfl, by decide +kernel, rfl, by decide +kernel, by decide +kernel⟩
abbrev s_Joiner_copied : Stmt := inClass (top 22) 2
theorem sc_Joiner_copied : FnScope ["self"] ["self"] (defScope s_Joiner_copied) := ⟨rfl, rfl, rfl, by decide +kernel, rfl, by decide +kernel, by decide +kernel⟩
abbrev s_check_size : Stmt := top 26
theorem sc_check_size : FnScope ["belts", "knots"] ["belts", "knots"] (defScope s_check_size) := ⟨rfl, rfl, rfl, by decide +kernel, rfl, by decide +kernel, by decide +kernel⟩
abbrev s_check_each_once : Stmt := top 27
theorem sc_check_each_once : FnScope ["named", "size"] ["named", "size"] (defScope s_check_each_once) := ⟨rfl, rfl, rfl, by decide +kernel, rfl, by decide +kernel, by decide +kernel⟩
abbrev s_Work_init : Stmt := inClass (top 28) 0
theorem sc_Work_init : FnScope ["self", "belts", "knots", "fed", "taken", "knot"] ["self", "belts", "knots"] (defScope s_Work_init) := ⟨rfl, rfl, rfl, by decide +kernel, rfl, by decide +kernel, by decide +kernel⟩
abbrev s_Work_feeder : Stmt := inClass (top 28) 1
theorem sc_Work_feeder : FnScope ["self", "belt"] ["self", "belt"] (defScope s_Work_feeder) := ⟨rfl, rfl, rfl, by decide +kernel, rfl, by decide +kernel, by decide +kernel⟩
abbrev s_Work_taker : Stmt := inClass (top 28) 2
theorem sc_Work_taker : FnScope ["self", "belt"] ["self", "belt"] (defScope s_Work_taker) := ⟨rfl, rfl, rfl, by decide +kernel, rfl, by decide +kernel, by decide +kernel⟩
abbrev s_Work_drains : Stmt := inClass (top 28) 3
theorem sc_Work_drains : FnScope ["self"] ["self"] (defScope s_Work_drains) := ⟨rfl, rfl, rfl, by decide +kernel, rfl, by decide +kernel, by decide +kernel⟩
abbrev s_Work_sources : Stmt := inClass (top 28) 4
theorem sc_Work_sources : FnScope ["self"] ["self"] (defScope s_Work_sources) := ⟨rfl, rfl, rfl, by decide +kernel, rfl, by decide +kernel, by decide +kernel⟩
abbrev s_Work_beat : Stmt := inClass (top 28) 5
theorem sc_Work_beat : FnScope ["self"] ["self"] (defScope s_Work_beat) := ⟨rfl, rfl, rfl, by decide +kernel, rfl, by decide +kernel, by decide +kernel⟩
abbrev s_ends_for : Stmt := top 32
theorem sc_ends_for : FnScope ["ways", "ends"] ["ways"] (defScope s_ends_for) := ⟨rfl, rfl, rfl, by decide +kernel, rfl, by decide +kernel, by decide +kernel⟩
abbrev s_grow_tree : Stmt := top 33
theorem sc_grow_tree : FnScope ["root", "count", "knots", "ends", "belt", "grown", "end"] ["root", "count", "knots"] (defScope s_grow_tree) := ⟨rfl, rfl, rfl, by decide +kernel, rfl, by decide +kernel, by decide +kernel⟩
abbrev s_even_work : Stmt := top 34
theorem sc_even_work : FnScope ["ways", "kinds", "pace", "knots", "count", "root", "ends"] ["ways", "kinds", "pace"] (defScope s_even_work) := ⟨rfl, rfl, rfl, by decide +kernel, rfl, by decide +kernel, by decide +kernel⟩
abbrev s_L_cell : Stmt := top 36
theorem sc_L_cell : FnScope ["_law_cells", "_law_k"] ["_law_cells", "_law_k"] (defScope s_L_cell) := ⟨rfl, rfl, rfl, by decide +kernel, rfl, by decide +kernel, by decide +kernel⟩
abbrev s_L_kinds : Stmt := top 37
theorem sc_L_kinds : FnScope ["_law_cells", "_law_kinds_here"] ["_law_cells"] (defScope s_L_kinds) := ⟨rfl, rfl, rfl, by decide +kernel, rfl, by decide +kernel, by decide +kernel⟩
abbrev s_L_made : Stmt := top 38
theorem sc_L_made : FnScope ["_law_ways", "_law_kinds_here", "_law_pace", "_law_out"] ["_law_ways", "_law_kinds_here", "_law_pace", "_law_out"] (defScope s_L_made) := ⟨rfl, rfl, rfl, by decide +kernel, rfl, by decide +kernel, by decide +kernel⟩
abbrev s_L_refused : Stmt := top 39
theorem sc_L_refused : FnScope ["_law_ways", "_law_kinds_here", "_law_pace", "_law_due_here", "_law_caught", "e"] ["_law_ways", "_law_kinds_here", "_law_pace", "_law_due_here"] (defScope s_L_refused) := ⟨rfl, rfl, rfl, by decide +kernel, rfl, by decide +kernel, by decide +kernel⟩
abbrev s_L_due : Stmt := top 40
theorem sc_L_due : FnScope ["_law_ways", "_law_kinds_here", "_law_pace"] ["_law_ways", "_law_kinds_here", "_law_pace"] (defScope s_L_due) := ⟨rfl, rfl, rfl, by decide +kernel, rfl, by decide +kernel, by decide +kernel⟩
abbrev s_L_once : Stmt := top 41
theorem sc_L_once : FnScope ["_law_rows", "_law_many", "_law_seen", "_law_row"] ["_law_rows", "_law_many"] (defScope s_L_once) := ⟨rfl, rfl, rfl, by decide +kernel, rfl, by decide +kernel, by decide +kernel⟩
abbrev s_L_good : Stmt := top 42
theorem sc_L_good : FnScope ["_law_work", "_law_ways", "_law_kinds_here", "_law_pace", "_law_many", "_law_knot"] ["_law_work", "_law_ways", "_law_kinds_here", "_law_pace"] (defScope s_L_good) := ⟨rfl, rfl, rfl, by decide +kernel, rfl, by decide +kernel, by decide +kernel⟩
abbrev s_law : Stmt := top 43
theorem sc_law : FnScope ["_law_script", "_law_cells", "_law_ways", "_law_pace", "_law_kinds_here", "_law_kept", "_law_due_here", "_law_work"] ["_law_script"] (defScope s_law) := ⟨rfl, rfl, rfl, by decide +kernel, rfl, by decide +kernel, by decide +kernel⟩
/- _wall level 1 params ['k'] names ['k'] -/
/- Belt_init level 1 params ['self', 'room', 'pace'] names ['self', 'room', 'pace'] -/
/- check_pace level 1 params ['pace', 'least'] names ['pace', 'least'] -/
/- check_kind level 1 params ['kind'] names ['kind'] -/
/- check_ways level 1 params ['belts'] names ['belts'] -/
/- Knot_init level 1 params ['self', 'ins', 'outs'] names ['self', 'ins', 'outs'] -/
/- Knot_choice level 2 params ['self', 'heads', 'free', 'turn', 'side'] names ['self', 'heads', 'free', 'turn', 'side'] -/
/- Knot_copied level 3 params ['self'] names ['self'] -/
/- Source_init level 2 params ['self', 'out', 'pace', 'kinds'] names ['self', 'out', 'pace', 'kinds', 'kind'] -/
/- Source_choice level 2 params ['self', 'heads', 'free', 'turn', 'side'] names ['self', 'heads', 'free', 'turn', 'side'] -/
/- Source_copied level 4 params ['self'] names ['self'] -/
/- Drain_init level 2 params ['self', 'into', 'pace'] names ['self', 'into', 'pace'] -/
/- Drain_choice level 2 params ['self', 'heads', 'free', 'turn', 'side'] names ['self', 'heads', 'free', 'turn', 'side'] -/
/- Drain_copied level 4 params ['self'] names ['self'] -/
/- Parter_init level 2 params ['self', 'into', 'outs'] names ['self', 'into', 'outs'] -/
/- Parter_choice level 2 params ['self', 'heads', 'free', 'turn', 'side'] names ['self', 'heads', 'free', 'turn', 'side'] -/
/- Parter_copied level 4 params ['self'] names ['self'] -/
/- Joiner_init level 2 params ['self', 'ins', 'out'] names ['self', 'ins', 'out'] -/
/- Joiner_choice level 2 params ['self', 'heads', 'free', 'turn', 'side'] names ['self', 'heads', 'free', 'turn', 'side'] -/
/- Joiner_copied level 4 params ['self'] names ['self'] -/
/- check_size level 1 params ['belts', 'knots'] names ['belts', 'knots'] -/
/- check_each_once level 1 params ['named', 'size'] names ['named', 'size'] -/
/- Work_init level 5 params ['self', 'belts', 'knots'] names ['self', 'belts', 'knots', 'fed', 'taken', 'knot'] -/
/- Work_feeder level 2 params ['self', 'belt'] names ['self', 'belt'] -/
/- Work_taker level 2 params ['self', 'belt'] names ['self', 'belt'] -/
/- Work_drains level 1 params ['self'] names ['self'] -/
/- Work_sources level 2 params ['self'] names ['self'] -/
/- Work_beat level 2 params ['self'] names ['self'] -/
/- ends_for level 1 params ['ways'] names ['ways', 'ends'] -/
/- grow_tree level 4 params ['root', 'count', 'knots'] names ['root', 'count', 'knots', 'ends', 'belt', 'grown', 'end'] -/
/- even_work level 7 params ['ways', 'kinds', 'pace'] names ['ways', 'kinds', 'pace', 'knots', 'count', 'root', 'ends'] -/
/- L_cell level 1 params ['_law_cells', '_law_k'] names ['_law_cells', '_law_k'] -/
/- L_kinds level 2 params ['_law_cells'] names ['_law_cells', '_law_kinds_here'] -/
/- L_made level 8 params ['_law_ways', '_law_kinds_here', '_law_pace', '_law_out'] names ['_law_ways', '_law_kinds_here', '_law_pace', '_law_out'] -/
/- L_refused level 8 params ['_law_ways', '_law_kinds_here', '_law_pace', '_law_due_here'] names ['_law_ways', '_law_kinds_here', '_law_pace', '_law_due_here', '_law_caught', 'e'] -/
/- L_due level 1 params ['_law_ways', '_law_kinds_here', '_law_pace'] names ['_law_ways', '_law_kinds_here', '_law_pace'] -/
/- L_once level 1 params ['_law_rows', '_law_many'] names ['_law_rows', '_law_many', '_law_seen', '_law_row'] -/
/- L_good level 2 params ['_law_work', '_law_ways', '_law_kinds_here', '_law_pace'] names ['_law_work', '_law_ways', '_law_kinds_here', '_law_pace', '_law_many', '_law_knot'] -/
/- law level 9 params ['_law_script'] names ['_law_script', '_law_cells', '_law_ways', '_law_pace', '_law_kinds_here', '_law_kept', '_law_due_here', '_law_work'] -/
local macro_rules | `(tactic| walk_at "T") => `(tactic| (have m_len := T.m_len; have m_list := T.m_list; have m_sorted := T.m_sorted; have m_range := T.m_range; have m_enumerate := T.m_enumerate; have m_isinstance := T.m_isinstance; have m_all := T.m_all; have m_sum := T.m_sum))
structure Ad where
  WorkError : Addr
  BadBelt : Addr
  BadKnot : Addr
  BadWork : Addr
  BadPaces : Addr
  Belt : Addr
  Knot : Addr
  Source : Addr
  Drain : Addr
  Parter : Addr
  Joiner : Addr
  Work : Addr
structure Txt (K : PySem.W.Frag) (mg : Str → Option Value) (a : Ad) : Prop where
  h__wall : FA K mg "_wall" s__wall ["k"]
  h_check_pace : FA K mg "check_pace" s_check_pace ["pace", "least"]
  h_check_kind : FA K mg "check_kind" s_check_kind ["kind"]
  h_check_ways : FA K mg "check_ways" s_check_ways ["belts"]
  h_check_size : FA K mg "check_size" s_check_size ["belts", "knots"]
  h_check_each_once : FA K mg "check_each_once" s_check_each_once ["named", "size"]
  h_ends_for : FA K mg "ends_for" s_ends_for ["ways"]
  h_grow_tree : FA K mg "grow_tree" s_grow_tree ["root", "count", "knots"]
  h_even_work : FD K mg "even_work" s_even_work ["ways", "kinds", "pace"] [.int 2]
  h_L_cell : FA K mg "_law_cell" s_L_cell ["_law_cells", "_law_k"]
  h_L_kinds : FA K mg "_law_kinds" s_L_kinds ["_law_cells"]
  h_L_made : FA K mg "_law_made" s_L_made ["_law_ways", "_law_kinds_here", "_law_pace", "_law_out"]
  h_L_refused : FA K mg "_law_refused" s_L_refused ["_law_ways", "_law_kinds_here", "_law_pace", "_law_due_here"]
  h_L_due : FA K mg "_law_due" s_L_due ["_law_ways", "_law_kinds_here", "_law_pace"]
  h_L_once : FA K mg "_law_once" s_L_once ["_law_rows", "_law_many"]
  h_L_good : FA K mg "_law_good" s_L_good ["_law_work", "_law_ways", "_law_kinds_here", "_law_pace"]
  m_len : mg "len" = none
  m_list : mg "list" = none
  m_sorted : mg "sorted" = none
  m_range : mg "range" = none
  m_enumerate : mg "enumerate" = none
  m_isinstance : mg "isinstance" = none
  m_all : mg "all" = none
  m_sum : mg "sum" = none
  g_WorkError : mg "WorkError" = some (.ref a.WorkError)
  g_BadBelt : mg "BadBelt" = some (.ref a.BadBelt)
  g_BadKnot : mg "BadKnot" = some (.ref a.BadKnot)
  g_BadWork : mg "BadWork" = some (.ref a.BadWork)
  g_BadPaces : mg "BadPaces" = some (.ref a.BadPaces)
  g_Belt : mg "Belt" = some (.ref a.Belt)
  g_Knot : mg "Knot" = some (.ref a.Knot)
  g_Source : mg "Source" = some (.ref a.Source)
  g_Drain : mg "Drain" = some (.ref a.Drain)
  g_Parter : mg "Parter" = some (.ref a.Parter)
  g_Joiner : mg "Joiner" = some (.ref a.Joiner)
  g_Work : mg "Work" = some (.ref a.Work)
  C_Belt : Cls K a.Belt
  N_Belt_room : NoAttr K a.Belt "room"
  N_Belt_pace : NoAttr K a.Belt "pace"
  W_Belt : WI K a.Belt
  h_Belt_init : FK K a.Belt "Belt.__init__" s_Belt_init ["self", "room", "pace"]
  C_Knot : Cls K a.Knot
  N_Knot_ins : NoAttr K a.Knot "ins"
  N_Knot_outs : NoAttr K a.Knot "outs"
  W_Knot : WI K a.Knot
  h_Knot_init : FK K a.Knot "Knot.__init__" s_Knot_init ["self", "ins", "outs"]
  b_Knot_init : FB K mg "Knot" "__init__" "Knot.__init__" s_Knot_init ["self", "ins", "outs"]
  h_Knot_choice : FM K a.Knot "choice" "Knot.choice" s_Knot_choice ["self", "heads", "free", "turn", "side"]
  h_Knot_copied : FM K a.Knot "copied" "Knot.copied" s_Knot_copied ["self"]
  C_Source : Cls K a.Source
  N_Source_pace : NoAttr K a.Source "pace"
  N_Source_kinds : NoAttr K a.Source "kinds"
  N_Source_ins : NoAttr K a.Source "ins"
  N_Source_outs : NoAttr K a.Source "outs"
  W_Source : WI K a.Source
  h_Source_init : FK K a.Source "Source.__init__" s_Source_init ["self", "out", "pace", "kinds"]
  h_Source_choice : FM K a.Source "choice" "Source.choice" s_Source_choice ["self", "heads", "free", "turn", "side"]
  h_Source_copied : FM K a.Source "copied" "Source.copied" s_Source_copied ["self"]
  C_Drain : Cls K a.Drain
  N_Drain_pace : NoAttr K a.Drain "pace"
  N_Drain_ins : NoAttr K a.Drain "ins"
  N_Drain_outs : NoAttr K a.Drain "outs"
  W_Drain : WI K a.Drain
  h_Drain_init : FK K a.Drain "Drain.__init__" s_Drain_init ["self", "into", "pace"]
  h_Drain_choice : FM K a.Drain "choice" "Drain.choice" s_Drain_choice ["self", "heads", "free", "turn", "side"]
  h_Drain_copied : FM K a.Drain "copied" "Drain.copied" s_Drain_copied ["self"]
  C_Parter : Cls K a.Parter
  N_Parter_ins : NoAttr K a.Parter "ins"
  N_Parter_outs : NoAttr K a.Parter "outs"
  W_Parter : WI K a.Parter
  h_Parter_init : FK K a.Parter "Parter.__init__" s_Parter_init ["self", "into", "outs"]
  h_Parter_choice : FM K a.Parter "choice" "Parter.choice" s_Parter_choice ["self", "heads", "free", "turn", "side"]
  h_Parter_copied : FM K a.Parter "copied" "Parter.copied" s_Parter_copied ["self"]
  C_Joiner : Cls K a.Joiner
  N_Joiner_ins : NoAttr K a.Joiner "ins"
  N_Joiner_outs : NoAttr K a.Joiner "outs"
  W_Joiner : WI K a.Joiner
  h_Joiner_init : FK K a.Joiner "Joiner.__init__" s_Joiner_init ["self", "ins", "out"]
  h_Joiner_choice : FM K a.Joiner "choice" "Joiner.choice" s_Joiner_choice ["self", "heads", "free", "turn", "side"]
  h_Joiner_copied : FM K a.Joiner "copied" "Joiner.copied" s_Joiner_copied ["self"]
  C_Work : Cls K a.Work
  N_Work_belts : NoAttr K a.Work "belts"
  N_Work_knots : NoAttr K a.Work "knots"
  W_Work : WI K a.Work
  h_Work_init : FK K a.Work "Work.__init__" s_Work_init ["self", "belts", "knots"]
  h_Work_feeder : FM K a.Work "feeder" "Work.feeder" s_Work_feeder ["self", "belt"]
  h_Work_taker : FM K a.Work "taker" "Work.taker" s_Work_taker ["self", "belt"]
  h_Work_drains : FM K a.Work "drains" "Work.drains" s_Work_drains ["self"]
  h_Work_sources : FM K a.Work "sources" "Work.sources" s_Work_sources ["self"]
  h_Work_beat : FM K a.Work "beat" "Work.beat" s_Work_beat ["self"]
  g_MOST_ROOM : ∃ t, mg "MOST_ROOM" = some (.int 6 t)
  g_MOST_PACE : ∃ t, mg "MOST_PACE" = some (.int 4 t)
  g_MOST_KINDS : ∃ t, mg "MOST_KINDS" = some (.int 6 t)
  g_FEWEST_WAYS : ∃ t, mg "FEWEST_WAYS" = some (.int 2 t)
  g_MOST_WAYS : ∃ t, mg "MOST_WAYS" = some (.int 4 t)
  g_MOST_BELTS : ∃ t, mg "MOST_BELTS" = some (.int 24 t)
  g_MOST_KNOTS : ∃ t, mg "MOST_KNOTS" = some (.int 24 t)
  g_MOST_EVEN_WAYS : ∃ t, mg "MOST_EVEN_WAYS" = some (.int 8 t)
  g_LEAST_EVEN_PACE : ∃ t, mg "LEAST_EVEN_PACE" = some (.int 2 t)
  X_BadBelt : XC K a.BadBelt
  XI_BadBelt : XI K a.BadBelt
  X_BadKnot : XC K a.BadKnot
  XI_BadKnot : XI K a.BadKnot
  X_BadWork : XC K a.BadWork
  XI_BadWork : XI K a.BadWork
  X_BadPaces : XC K a.BadPaces
  XI_BadPaces : XI K a.BadPaces
  S_WorkError : PySem.W.subIn K (.ref a.WorkError) (.type "BaseException") = some true
  E_BadBelt_WorkError : PySem.W.kitCls K (.ref a.BadBelt) (.ref a.WorkError) = some true
  E_BadKnot_WorkError : PySem.W.kitCls K (.ref a.BadKnot) (.ref a.WorkError) = some true
  E_BadWork_WorkError : PySem.W.kitCls K (.ref a.BadWork) (.ref a.WorkError) = some true
  E_BadPaces_WorkError : PySem.W.kitCls K (.ref a.BadPaces) (.ref a.WorkError) = some true
  k1_Belt_Drain : PySem.W.kitOne K (.ref a.Belt) (.ref a.Drain) = some false
  k1_Knot_Drain : PySem.W.kitOne K (.ref a.Knot) (.ref a.Drain) = some false
  k1_Source_Drain : PySem.W.kitOne K (.ref a.Source) (.ref a.Drain) = some false
  k1_Drain_Drain : PySem.W.kitOne K (.ref a.Drain) (.ref a.Drain) = some true
  k1_Parter_Drain : PySem.W.kitOne K (.ref a.Parter) (.ref a.Drain) = some false
  k1_Joiner_Drain : PySem.W.kitOne K (.ref a.Joiner) (.ref a.Drain) = some false
  k1_Work_Drain : PySem.W.kitOne K (.ref a.Work) (.ref a.Drain) = some false
  k1_BadBelt_BadKnot : PySem.W.kitOne K (.ref a.BadBelt) (.ref a.BadKnot) = some false
  k1_BadKnot_BadKnot : PySem.W.kitOne K (.ref a.BadKnot) (.ref a.BadKnot) = some true
  k1_BadWork_BadKnot : PySem.W.kitOne K (.ref a.BadWork) (.ref a.BadKnot) = some false
  k1_BadPaces_BadKnot : PySem.W.kitOne K (.ref a.BadPaces) (.ref a.BadKnot) = some false
  k1_BadBelt_BadPaces : PySem.W.kitOne K (.ref a.BadBelt) (.ref a.BadPaces) = some false
  k1_BadKnot_BadPaces : PySem.W.kitOne K (.ref a.BadKnot) (.ref a.BadPaces) = some false
  k1_BadWork_BadPaces : PySem.W.kitOne K (.ref a.BadWork) (.ref a.BadPaces) = some false
  k1_BadPaces_BadPaces : PySem.W.kitOne K (.ref a.BadPaces) (.ref a.BadPaces) = some true
  k1_BadBelt_BadPaces_BadWork : PySem.W.kitAny K (.ref a.BadBelt) [.ref a.BadPaces, .ref a.BadWork] = some false
  k1_BadKnot_BadPaces_BadWork : PySem.W.kitAny K (.ref a.BadKnot) [.ref a.BadPaces, .ref a.BadWork] = some false
  k1_BadWork_BadPaces_BadWork : PySem.W.kitAny K (.ref a.BadWork) [.ref a.BadPaces, .ref a.BadWork] = some true
  k1_BadPaces_BadPaces_BadWork : PySem.W.kitAny K (.ref a.BadPaces) [.ref a.BadPaces, .ref a.BadWork] = some true
  k1_BadBelt_BadKnot_BadWork : PySem.W.kitAny K (.ref a.BadBelt) [.ref a.BadKnot, .ref a.BadWork] = some false
  k1_BadKnot_BadKnot_BadWork : PySem.W.kitAny K (.ref a.BadKnot) [.ref a.BadKnot, .ref a.BadWork] = some true
  k1_BadWork_BadKnot_BadWork : PySem.W.kitAny K (.ref a.BadWork) [.ref a.BadKnot, .ref a.BadWork] = some true
  k1_BadPaces_BadKnot_BadWork : PySem.W.kitAny K (.ref a.BadPaces) [.ref a.BadKnot, .ref a.BadWork] = some false
  k1_Belt_Source : PySem.W.kitOne K (.ref a.Belt) (.ref a.Source) = some false
  k1_Knot_Source : PySem.W.kitOne K (.ref a.Knot) (.ref a.Source) = some false
  k1_Source_Source : PySem.W.kitOne K (.ref a.Source) (.ref a.Source) = some true
  k1_Drain_Source : PySem.W.kitOne K (.ref a.Drain) (.ref a.Source) = some false
  k1_Parter_Source : PySem.W.kitOne K (.ref a.Parter) (.ref a.Source) = some false
  k1_Joiner_Source : PySem.W.kitOne K (.ref a.Joiner) (.ref a.Source) = some false
  k1_Work_Source : PySem.W.kitOne K (.ref a.Work) (.ref a.Source) = some false
  k1_Belt_Parter : PySem.W.kitOne K (.ref a.Belt) (.ref a.Parter) = some false
  k1_Knot_Parter : PySem.W.kitOne K (.ref a.Knot) (.ref a.Parter) = some false
  k1_Source_Parter : PySem.W.kitOne K (.ref a.Source) (.ref a.Parter) = some false
  k1_Drain_Parter : PySem.W.kitOne K (.ref a.Drain) (.ref a.Parter) = some false
  k1_Parter_Parter : PySem.W.kitOne K (.ref a.Parter) (.ref a.Parter) = some true
  k1_Joiner_Parter : PySem.W.kitOne K (.ref a.Joiner) (.ref a.Parter) = some false
  k1_Work_Parter : PySem.W.kitOne K (.ref a.Work) (.ref a.Parter) = some false
  k1_Belt_Joiner : PySem.W.kitOne K (.ref a.Belt) (.ref a.Joiner) = some false
  k1_Knot_Joiner : PySem.W.kitOne K (.ref a.Knot) (.ref a.Joiner) = some false
  k1_Source_Joiner : PySem.W.kitOne K (.ref a.Source) (.ref a.Joiner) = some false
  k1_Drain_Joiner : PySem.W.kitOne K (.ref a.Drain) (.ref a.Joiner) = some false
  k1_Parter_Joiner : PySem.W.kitOne K (.ref a.Parter) (.ref a.Joiner) = some false
  k1_Joiner_Joiner : PySem.W.kitOne K (.ref a.Joiner) (.ref a.Joiner) = some true
  k1_Work_Joiner : PySem.W.kitOne K (.ref a.Work) (.ref a.Joiner) = some false
section
variable {P : Program} {w : World} {K : PySem.W.Frag} {mg : Str → Option Value} {base : Heap} {a : Ad}
theorem at0 {α : Type} {x : α} {xs : List α} : atI (x :: xs) 0 = some x := by
  have := atI_nat (xs := x :: xs) (j := 0) rfl
  simpa using this
def iv (ns : List Int) : List V := ns.map V.int
/-- a knot's attributes -/
def kf (l1 l2 : Addr) : List (Str × V) := putF "outs" (.ref l2) (putF "ins" (.ref l1) [])
theorem kf_ins {l1 l2 : Addr} : (kf l1 l2).lookup ("ins" : Str) = some (.ref l1) := by
  unfold kf; rw [lookup_putF, if_neg (by decide +kernel), lookup_putF, if_pos rfl]
theorem kf_outs {l1 l2 : Addr} : (kf l1 l2).lookup ("outs" : Str) = some (.ref l2) := by
  unfold kf; rw [lookup_putF, if_pos rfl]
theorem kf_len {l1 l2 : Addr} : (kf l1 l2).length < 1000 := by
  unfold kf; have := length_putF "outs" (V.ref l2) (putF "ins" (.ref l1) []); have := length_putF "ins" (V.ref l1) []; simp at *; omega
theorem kf_no {l1 l2 : Addr} {m : Str} (h1 : m ≠ "ins") (h2 : m ≠ "outs") : (kf l1 l2).lookup m = none := by
  unfold kf; rw [lookup_putF, if_neg h2, lookup_putF, if_neg h1]; rfl
/-- an instance of C with the attributes fs ahead of which ins and outs were laid -/
def Own (H H' : Hp) (y : Addr) : Prop := ∀ b o, b ≠ y → H b = some o → H' b = some o
theorem Same.own {H H' : Hp} {y : Addr} (s : Same H H') : Own H H' y := fun b o _ h => s b o h
theorem Own.trans {H1 H2 H3 : Hp} {y : Addr} (s : Own H1 H2 y) (t : Own H2 H3 y) : Own H1 H3 y := fun b o hb h => t b o hb (s b o hb h)
theorem own_upd {H : Hp} {y : Addr} {o : HO} : Own H (upd H y o) y := fun b u hb h => by rw [upd_ne hb]; exact h
theorem Own.of_new {H H' : Hp} {y dx : Addr} {o p : HO} (hy : H y = none) (hd : H dx = none) (s : Own (upd (upd H dx o) y p) H' y) : Same H H' := fun b u h =>
  s b u (ne_of_none h hy) (by rw [upd_ne (ne_of_none h hy), upd_ne (ne_of_none h hd)]; exact h)
theorem upd_none {H : Hp} {p b : Addr} {o : HO} (h : upd H p o b = none) : H b = none := by
  by_cases e : b = p
  · subst e; rw [upd_same] at h; cases h
  · rw [upd_ne e] at h; exact h
def spKnotInit (K : PySem.W.Frag) : Sp := fun vs H Q _ => ∃ (y C dx i o : Addr) (xs ys : List V), vs = [.ref y, .ref i, .ref o] ∧ H y = some (.ins C dx []) ∧ Cls K C ∧ NoAttr K C "ins" ∧ NoAttr K C "outs" ∧ SqL K H i xs ∧ SqL K H o ys ∧ i ≠ y ∧ o ≠ y ∧
  ∀ H' l1 l2, Own H H' y → H' y = some (.ins C dx (kf l1 l2)) → H' l1 = some (.lst xs) → H' l2 = some (.lst ys) → H l1 = none → H l2 = none → Q .non H'
theorem sqL_own {H H' : Hp} {y l : Addr} {xs : List V} (h : SqL K H l xs) (s : Own H H' y) (hl : l ≠ y) : SqL K H' l xs := by
  rcases h with h | h
  · refine .inl ?_
    rcases h with h | ⟨ob, h⟩
    · exact .inl (s _ _ hl h)
    · exact .inr ⟨ob, s _ _ hl h⟩
  · exact .inr h
theorem ok_Knot_init (T : Txt K mg a) {f : Addr} {fd : FuncData} (F : Fun K "__init__" "Knot.__init__" s_Knot_init f fd) : FnOk P w K mg base (CXr P w) 1 f fd ["self", "ins", "outs"] (spKnotInit K) := by
  refine F.okx sc_Knot_init (fun vs H Q E h => ?_) (fun cdv A outer s H vs Q E hr h => ?_)
  · obtain ⟨y, C, dx, i, o, xs, ys, rfl, _⟩ := h; rfl
  obtain ⟨y, C, dx, i, o, xs, ys, rfl, hy, hC, hN1, hN2, hi, ho, hiy, hoy, k⟩ := h
  walk_at "T"
  refine ⟨_, (pss_cons (ps_fld (pv 0) (pe_bt bt_list bo_list (pa_cons (pv 1) pa_nil)) rfl)  (pss_one (ps_fld (pv 0) (pe_bt bt_list bo_list (pa_cons (pv 2) pa_nil)) rfl))), ?_⟩
  walk_at "go"
  refine ⟨i, xs, rfl, .inl hi, fun l1 h1 => ?_⟩
  walk_at "go"
  have y1 : y ≠ l1 := ne_of_none hy h1
  refine ⟨y, C, dx, [], rfl, upd_keep hy h1, hC, hN1, by decide, ?_⟩
  walk_at "go"
  have s1 : Own H (upd (upd H l1 (.lst xs)) y (.ins C dx (putF "ins" (.ref l1) []))) y := (Same.own (same_upd h1)).trans own_upd
  refine ⟨o, ys, rfl, .inl (sqL_own ho s1 hoy), fun l2 h2 => ?_⟩
  walk_at "go"
  have y2 : y ≠ l2 := ne_of_none upd_same h2
  have l12 : l1 ≠ l2 := fun z => by
    rw [← z, upd_ne (Ne.symm y1), upd_same] at h2; cases h2
  refine ⟨y, C, dx, _, rfl, upd_keep upd_same h2, hC, hN2, by show 1 < 1000; decide, ?_⟩
  refine k _ l1 l2 (s1.trans ((Same.own (same_upd h2)).trans own_upd)) upd_same ?_ ?_ h1 ?_
  · rw [upd_ne (Ne.symm y1), upd_ne l12, upd_ne (Ne.symm y1), upd_same]
  · rw [upd_ne (Ne.symm y2), upd_same]
  · rw [upd_ne (Ne.symm y2), upd_ne (Ne.symm l12)] at h2
    exact h2
theorem b_Knot_init (T : Txt K mg a) : BCal P w K mg base "Knot" "__init__" 1 ["self", "ins", "outs"] [] (spKnotInit K) := T.b_Knot_init.cal (ok_Knot_init T)
def spCheckWays (K : PySem.W.Frag) (a : Ad) : Sp := fun vs H Q E => ∃ (l : Addr) (xs : List V), vs = [.ref l] ∧ SqL K H l xs ∧ if 2 ≤ xs.length ∧ xs.length ≤ 4 then Q .non H else E (.ref a.BadKnot) none H
theorem ok_check_ways (T : Txt K mg a) {f : Addr} {fd : FuncData} (F : Fun K "check_ways" "check_ways" s_check_ways f fd) : FnOk P w K mg base (CXr P w) 1 f fd ["belts"] (spCheckWays K a) := by
  refine F.okx sc_check_ways (fun vs H Q E h => ?_) (fun cdv A outer s H vs Q E hr h => ?_)
  · obtain ⟨a, b, rfl, _⟩ := h; rfl
  obtain ⟨l, xs, rfl, hl, k⟩ := h
  walk_at "T"
  refine ⟨_, (pss_one (ps_if (pt_not (pt_chain op_le op_le pe_gl (pe_bi bi_len bo_len (pa_cons (pv 0) pa_nil)) pe_gl))  (pss_one (ps_raise ⟨rfl, rfl, rfl⟩ rfl (pa_cons pe_str pa_nil)))  pss_nil)), ?_⟩
  walk_at "go"
  obtain ⟨t1, g1⟩ := T.g_FEWEST_WAYS
  obtain ⟨t2, g2⟩ := T.g_MOST_WAYS
  have bad : ¬ (2 ≤ xs.length ∧ xs.length ≤ 4) → ∃ C, mg "BadKnot" = some (Value.ref C) ∧ XC K C ∧ E (Value.ref C) none H := fun h => by
    rw [if_neg h] at k
    exact ⟨a.BadKnot, T.g_BadKnot, T.X_BadKnot, k⟩
  refine ⟨.int 2, _, g1, ⟨_, rfl⟩, ?_⟩
  walk_at "go"
  refine ⟨_, .inl ⟨_, hl, rfl⟩, ?_⟩
  walk_at "r"
  refine ite2 (fun h1 => ?_) (fun h1 => bad (by omega))
  refine ⟨.int 4, _, g2, ⟨_, rfl⟩, ?_⟩
  walk_at "r"
  refine ite2 (fun h2 => bad (by omega)) (fun h2 => ?_)
  rw [if_pos (by omega)] at k
  exact k
theorem c_check_ways (T : Txt K mg a) : Cal P w K mg base "check_ways" 1 ["belts"] [] (spCheckWays K a) := T.h_check_ways.cal (ok_check_ways T)
def spCheckPace (a : Ad) : Sp := fun vs H Q E => ∃ p q : Int, vs = [.int p, .int q] ∧ if q ≤ p ∧ p ≤ 4 then Q .non H else E (.ref a.BadKnot) none H
theorem ok_check_pace (T : Txt K mg a) {f : Addr} {fd : FuncData} (F : Fun K "check_pace" "check_pace" s_check_pace f fd) : FnOk P w K mg base (CXr P w) 1 f fd ["pace", "least"] (spCheckPace a) := by
  refine F.okx sc_check_pace (fun vs H Q E h => ?_) (fun cdv A outer s H vs Q E hr h => ?_)
  · obtain ⟨_, _, rfl, _⟩ := h; rfl
  obtain ⟨p, q, rfl, k⟩ := h
  walk_at "T"
  refine ⟨_, (pss_one (ps_if (pt_not (pt_chain op_le op_le (pv 1) (pv 0) pe_gl))  (pss_one (ps_raise ⟨rfl, rfl, rfl⟩ rfl (pa_cons pe_str pa_nil)))  pss_nil)), ?_⟩
  walk_at "go"
  obtain ⟨t1, g1⟩ := T.g_MOST_PACE
  have bad : ¬ (q ≤ p ∧ p ≤ 4) → ∃ C, mg "BadKnot" = some (Value.ref C) ∧ XC K C ∧ E (Value.ref C) none H := fun h => by
    rw [if_neg h] at k
    exact ⟨a.BadKnot, T.g_BadKnot, T.X_BadKnot, k⟩
  refine ite2 (fun h1 => ?_) (fun h1 => bad (by omega))
  refine ⟨.int 4, _, g1, ⟨_, rfl⟩, ?_⟩
  walk_at "go"
  refine ite2 (fun h2 => bad (by omega)) (fun h2 => ?_)
  rw [if_pos (by omega)] at k
  walk_at "go"
  exact k
theorem c_check_pace (T : Txt K mg a) : Cal P w K mg base "check_pace" 1 ["pace", "least"] [] (spCheckPace a) := T.h_check_pace.cal (ok_check_pace T)
abbrev kindLim : Int := 1000000000000000000000000000000
def spCheckKind (a : Ad) : Sp := fun vs H Q E => ∃ n : Int, vs = [.int n] ∧ if 0 ≤ n ∧ n < kindLim then Q .non H else E (.ref a.BadKnot) none H
theorem ok_check_kind (T : Txt K mg a) {f : Addr} {fd : FuncData} (F : Fun K "check_kind" "check_kind" s_check_kind f fd) : FnOk P w K mg base (CXr P w) 1 f fd ["kind"] (spCheckKind a) := by
  refine F.okx sc_check_kind (fun vs H Q E h => ?_) (fun cdv A outer s H vs Q E hr h => ?_)
  · obtain ⟨_, rfl, _⟩ := h; rfl
  obtain ⟨n, rfl, k⟩ := h
  walk_at "T"
  refine ⟨_, (pss_one (ps_if (pt_not (pt_chain op_le og_lt pe_int (pv 0) (pe_op op_pow pe_int pe_int)))  (pss_one (ps_raise ⟨rfl, rfl, rfl⟩ rfl (pa_cons pe_str pa_nil)))  pss_nil)), ?_⟩
  walk_at "go"
  have bad : ¬ (0 ≤ n ∧ n < kindLim) → ∃ C, mg "BadKnot" = some (Value.ref C) ∧ XC K C ∧ E (Value.ref C) none H := fun h => by
    rw [if_neg h] at k
    exact ⟨a.BadKnot, T.g_BadKnot, T.X_BadKnot, k⟩
  refine ite2 (fun h1 => ?_) (fun h1 => bad (by omega))
  walk_at "go"
  refine ite2 (fun h2 => bad (by unfold kindLim; omega)) (fun h2 => ?_)
  rw [if_pos (by unfold kindLim; omega)] at k
  walk_at "go"
  exact k
theorem c_check_kind (T : Txt K mg a) : Cal P w K mg base "check_kind" 1 ["kind"] [] (spCheckKind a) := T.h_check_kind.cal (ok_check_kind T)
def spParterInit (K : PySem.W.Frag) (C CB : Addr) : Sp := fun vs H Q E => ∃ (y dx o : Addr) (into : V) (ys : List V), vs = [.ref y, into, .ref o] ∧ H y = some (.ins C dx []) ∧ SqL K H o ys ∧ o ≠ y ∧
  if 2 ≤ ys.length ∧ ys.length ≤ 4 then ∀ H' l1 l2, Own H H' y → H' y = some (.ins C dx (kf l1 l2)) → H' l1 = some (.lst [into]) → H' l2 = some (.lst ys) → H l1 = none → H l2 = none → Q .non H' else E (.ref CB) none H
theorem ok_Parter_init (T : Txt K mg a) {f : Addr} {fd : FuncData} (F : Fun K "__init__" "Parter.__init__" s_Parter_init f fd) : FnOk P w K mg base (CXr P w) 2 f fd ["self", "into", "outs"] (spParterInit K a.Parter a.BadKnot) := by
  refine F.okx sc_Parter_init (fun vs H Q E h => ?_) (fun cdv A outer s H vs Q E hr h => ?_)
  · obtain ⟨y, dx, o, into, ys, rfl, _⟩ := h; rfl
  obtain ⟨y, dx, o, into, ys, rfl, hy, ho, hoy, k⟩ := h
  walk_at "T"
  refine ⟨_, (pss_cons (ps_expr (pe_cl ⟨rfl, rfl, rfl⟩ hr (pa_cons (pv 2) pa_nil)))  (pss_one (ps_expr (pe_base ⟨rfl, rfl, rfl⟩ hr (pa_cons (pv 0) (pa_cons (pe_lst (pa_cons (pv 1) pa_nil)) (pa_cons (pv 2) pa_nil))))))), ?_⟩
  walk_at "go"
  refine ⟨_, _, _, c_check_ways T, o, ys, rfl, ho, ite2 (fun hok => ?_) (fun hok => ?_)⟩
  · rw [if_pos hok] at k
    walk_at "go"
    refine ⟨_, _, _, b_Knot_init T, fun p hp => ⟨y, a.Parter, dx, p, o, [into], ys, rfl, upd_keep hy hp, T.C_Parter, T.N_Parter_ins, T.N_Parter_outs, SqL.of upd_same, (same_upd hp).seq ho, (ne_of_none hy hp).symm, hoy, fun H' l1 l2 s h1 h2 h3 h4 h5 => ?_⟩⟩
    exact k H' l1 l2 ((Same.own (same_upd hp)).trans s) h1 h2 h3 (upd_none h4) (upd_none h5)
  · rw [if_neg hok] at k
    exact k
theorem k_Parter (T : Txt K mg a) : KCal P w K mg base "Parter" a.Parter 2 ["self", "into", "outs"] [] (spParterInit K a.Parter a.BadKnot) := T.h_Parter_init.cal T.g_Parter (ok_Parter_init T)
def spJoinerInit (K : PySem.W.Frag) (C CB : Addr) : Sp := fun vs H Q E => ∃ (y dx o : Addr) (out : V) (ys : List V), vs = [.ref y, .ref o, out] ∧ H y = some (.ins C dx []) ∧ SqL K H o ys ∧ o ≠ y ∧
  if 2 ≤ ys.length ∧ ys.length ≤ 4 then ∀ H' l1 l2, Own H H' y → H' y = some (.ins C dx (kf l1 l2)) → H' l1 = some (.lst ys) → H' l2 = some (.lst [out]) → H l1 = none → H l2 = none → Q .non H' else E (.ref CB) none H
theorem ok_Joiner_init (T : Txt K mg a) {f : Addr} {fd : FuncData} (F : Fun K "__init__" "Joiner.__init__" s_Joiner_init f fd) : FnOk P w K mg base (CXr P w) 2 f fd ["self", "ins", "out"] (spJoinerInit K a.Joiner a.BadKnot) := by
  refine F.okx sc_Joiner_init (fun vs H Q E h => ?_) (fun cdv A outer s H vs Q E hr h => ?_)
  · obtain ⟨_, _, _, _, _, rfl, _⟩ := h; rfl
  obtain ⟨y, dx, o, out, ys, rfl, hy, ho, hoy, k⟩ := h
  walk_at "T"
  refine ⟨_, (pss_cons (ps_expr (pe_cl ⟨rfl, rfl, rfl⟩ hr (pa_cons (pv 1) pa_nil)))  (pss_one (ps_expr (pe_base ⟨rfl, rfl, rfl⟩ hr (pa_cons (pv 0) (pa_cons (pv 1) (pa_cons (pe_lst (pa_cons (pv 2) pa_nil)) pa_nil))))))), ?_⟩
  walk_at "go"
  refine ⟨_, _, _, c_check_ways T, o, ys, rfl, ho, ite2 (fun hok => ?_) (fun hok => ?_)⟩
  · rw [if_pos hok] at k
    walk_at "go"
    refine ⟨_, _, _, b_Knot_init T, fun p hp => ⟨y, a.Joiner, dx, o, p, ys, [out], rfl, upd_keep hy hp, T.C_Joiner, T.N_Joiner_ins, T.N_Joiner_outs, (same_upd hp).seq ho, SqL.of upd_same, hoy, (ne_of_none hy hp).symm, fun H' l1 l2 s h1 h2 h3 h4 h5 => ?_⟩⟩
    exact k H' l1 l2 ((Same.own (same_upd hp)).trans s) h1 h2 h3 (upd_none h4) (upd_none h5)
  · rw [if_neg hok] at k
    exact k
theorem k_Joiner (T : Txt K mg a) : KCal P w K mg base "Joiner" a.Joiner 2 ["self", "ins", "out"] [] (spJoinerInit K a.Joiner a.BadKnot) := T.h_Joiner_init.cal T.g_Joiner (ok_Joiner_init T)
/-- a drain's attributes -/
def df (l1 l2 : Addr) (p : Int) : List (Str × V) := putF "pace" (.int p) (kf l1 l2)
theorem df_ins {l1 l2 : Addr} {p : Int} : (df l1 l2 p).lookup ("ins" : Str) = some (.ref l1) := by
  unfold df; rw [lookup_putF, if_neg (by decide +kernel)]; exact kf_ins
theorem df_outs {l1 l2 : Addr} {p : Int} : (df l1 l2 p).lookup ("outs" : Str) = some (.ref l2) := by
  unfold df; rw [lookup_putF, if_neg (by decide +kernel)]; exact kf_outs
theorem df_pace {l1 l2 : Addr} {p : Int} : (df l1 l2 p).lookup ("pace" : Str) = some (.int p) := by
  unfold df; rw [lookup_putF, if_pos rfl]
theorem df_no {l1 l2 : Addr} {p : Int} {m : Str} (h1 : m ≠ "ins") (h2 : m ≠ "outs") (h3 : m ≠ "pace") : (df l1 l2 p).lookup m = none := by
  unfold df; rw [lookup_putF, if_neg h3]; exact kf_no h1 h2
theorem putF_len (f : Str) (v : V) : ∀ fs : List (Str × V), (putF f v fs).length ≤ fs.length + 1
  | [] => by simp [putF]
  | (g, x) :: r => by
    unfold putF
    split
    · simp
    · have := putF_len f v r
      simp; omega
theorem kf_len3 {l1 l2 : Addr} : (kf l1 l2).length ≤ 2 := by
  unfold kf
  have h1 := putF_len "outs" (V.ref l2) (putF "ins" (.ref l1) [])
  have h2 := putF_len "ins" (V.ref l1) []
  simp only [List.length_nil] at h2
  omega
theorem df_len {l1 l2 : Addr} {p : Int} : (df l1 l2 p).length < 1000 := by
  unfold df
  have h1 := putF_len "pace" (V.int p) (kf l1 l2)
  have h2 := kf_len3 (l1 := l1) (l2 := l2)
  omega
def spDrainInit (C CB : Addr) : Sp := fun vs H Q E => ∃ (y dx : Addr) (into : V) (p : Int), vs = [.ref y, into, .int p] ∧ H y = some (.ins C dx []) ∧
  if 0 ≤ p ∧ p ≤ 4 then ∀ H' l1 l2, Own H H' y → H' y = some (.ins C dx (df l1 l2 p)) → H' l1 = some (.lst [into]) → H' l2 = some (.lst []) → H l1 = none → H l2 = none → Q .non H' else E (.ref CB) none H
theorem ok_Drain_init (T : Txt K mg a) {f : Addr} {fd : FuncData} (F : Fun K "__init__" "Drain.__init__" s_Drain_init f fd) : FnOk P w K mg base (CXr P w) 2 f fd ["self", "into", "pace"] (spDrainInit a.Drain a.BadKnot) := by
  refine F.okx sc_Drain_init (fun vs H Q E h => ?_) (fun cdv A outer s H vs Q E hr h => ?_)
  · obtain ⟨_, _, _, _, rfl, _⟩ := h; rfl
  obtain ⟨y, dx, into, p, rfl, hy, k⟩ := h
  walk_at "T"
  refine ⟨_, (pss_cons (ps_expr (pe_cl ⟨rfl, rfl, rfl⟩ hr (pa_cons (pv 2) (pa_cons pe_int pa_nil))))  (pss_cons (ps_expr (pe_base ⟨rfl, rfl, rfl⟩ hr (pa_cons (pv 0) (pa_cons (pe_lst (pa_cons (pv 1) pa_nil)) (pa_cons (pe_lst pa_nil) pa_nil)))))  (pss_one (ps_fld (pv 0) (pv 2) rfl)))), ?_⟩
  walk_at "go"
  refine ⟨_, _, _, c_check_pace T, p, 0, rfl, ite2 (fun hok => ?_) (fun hok => ?_)⟩
  · rw [if_pos hok] at k
    walk_at "go"
    refine ⟨_, _, _, b_Knot_init T, fun q1 hq1 q2 hq2 => ?_⟩
    have n12 : q1 ≠ q2 := ne_of_none upd_same hq2
    have hy2 := upd_keep (o := .lst []) (upd_keep (o := .lst [into]) hy hq1) hq2
    refine ⟨y, a.Drain, dx, q1, q2, [into], [], rfl, hy2, T.C_Drain, T.N_Drain_ins, T.N_Drain_outs, SqL.of (upd_keep upd_same hq2), SqL.of upd_same, (ne_of_none hy hq1).symm, (ne_of_none (upd_keep hy hq1) hq2).symm, fun H' l1 l2 s h1 h2 h3 h4 h5 => ?_⟩
    walk_at "go"
    refine ⟨y, a.Drain, dx, _, rfl, h1, T.C_Drain, T.N_Drain_pace, kf_len, ?_⟩
    exact k _ l1 l2 (((Same.own ((same_upd hq1).trans (same_upd hq2))).trans s).trans own_upd) upd_same (by rw [upd_ne (ne_of h2 h1 (by intro z; cases z))]; exact h2) (by rw [upd_ne (ne_of h3 h1 (by intro z; cases z))]; exact h3) (upd_none (upd_none h4)) (upd_none (upd_none h5))
  · rw [if_neg hok] at k
    exact k
theorem k_Drain (T : Txt K mg a) : KCal P w K mg base "Drain" a.Drain 2 ["self", "into", "pace"] [] (spDrainInit a.Drain a.BadKnot) := T.h_Drain_init.cal T.g_Drain (ok_Drain_init T)
/-- a source's attributes -/
def sf (l1 l2 : Addr) (p : Int) (l3 : Addr) : List (Str × V) := putF "kinds" (.ref l3) (df l1 l2 p)
theorem sf_ins {l1 l2 l3 : Addr} {p : Int} : (sf l1 l2 p l3).lookup ("ins" : Str) = some (.ref l1) := by
  unfold sf; rw [lookup_putF, if_neg (by decide +kernel)]; exact df_ins
theorem sf_outs {l1 l2 l3 : Addr} {p : Int} : (sf l1 l2 p l3).lookup ("outs" : Str) = some (.ref l2) := by
  unfold sf; rw [lookup_putF, if_neg (by decide +kernel)]; exact df_outs
theorem sf_pace {l1 l2 l3 : Addr} {p : Int} : (sf l1 l2 p l3).lookup ("pace" : Str) = some (.int p) := by
  unfold sf; rw [lookup_putF, if_neg (by decide +kernel)]; exact df_pace
theorem sf_kinds {l1 l2 l3 : Addr} {p : Int} : (sf l1 l2 p l3).lookup ("kinds" : Str) = some (.ref l3) := by
  unfold sf; rw [lookup_putF, if_pos rfl]
theorem sf_no {l1 l2 l3 : Addr} {p : Int} {m : Str} (h1 : m ≠ "ins") (h2 : m ≠ "outs") (h3 : m ≠ "pace") (h4 : m ≠ "kinds") : (sf l1 l2 p l3).lookup m = none := by
  unfold sf; rw [lookup_putF, if_neg h4]; exact df_no h1 h2 h3
def Kinds (ks : List Int) : Prop := ∀ n ∈ ks, 0 ≤ n ∧ n < kindLim
def spSourceInit (K : PySem.W.Frag) (C CB : Addr) : Sp := fun vs H Q E => ∃ (y dx l : Addr) (out : V) (p : Int) (ks : List Int), vs = [.ref y, out, .int p, .ref l] ∧ H y = some (.ins C dx []) ∧ SqL K H l (ks.map V.int) ∧ l ≠ y ∧
  ((1 ≤ p ∧ p ≤ 4 ∧ 1 ≤ ks.length ∧ ks.length ≤ 6 ∧ Kinds ks → ∀ H' l1 l2 l3, Own H H' y → H' y = some (.ins C dx (sf l1 l2 p l3)) → H' l1 = some (.lst []) → H' l2 = some (.lst [out]) → H' l3 = some (.lst (ks.map V.int)) → H l1 = none → H l2 = none → H l3 = none → Q .non H') ∧
   (¬ (1 ≤ p ∧ p ≤ 4 ∧ 1 ≤ ks.length ∧ ks.length ≤ 6 ∧ Kinds ks) → E (.ref CB) none H))
theorem ok_Source_init (T : Txt K mg a) {f : Addr} {fd : FuncData} (F : Fun K "__init__" "Source.__init__" s_Source_init f fd) : FnOk P w K mg base (CXr P w) 2 f fd ["self", "out", "pace", "kinds"] (spSourceInit K a.Source a.BadKnot) := by
  refine F.okx sc_Source_init (fun vs H Q E h => ?_) (fun cdv A outer s H vs Q E hr h => ?_)
  · obtain ⟨_, _, _, _, _, _, rfl, _⟩ := h; rfl
  obtain ⟨y, dx, l, out, p, ks, rfl, hy, hl, hly, kok, kbad⟩ := h
  obtain ⟨t1, g1⟩ := T.g_MOST_KINDS
  walk_at "T"
  refine ⟨_, (pss_cons (ps_expr (pe_cl ⟨rfl, rfl, rfl⟩ hr (pa_cons (pv 2) (pa_cons pe_int pa_nil))))  (pss_cons (ps_if (pt_not (pt_chain op_le op_le pe_int (pe_bi bi_len bo_len (pa_cons (pv 3) pa_nil)) pe_gl))  (pss_one (ps_raise ⟨rfl, rfl, rfl⟩ rfl (pa_cons pe_str pa_nil)))  pss_nil)  (pss_cons (ps_for passG rfl (pi_seq (pv 3)) (pg_name (i := 4) sc_Source_init.nd rfl (Or.inl rfl))  (pss_one (ps_expr (pe_cl ⟨rfl, rfl, rfl⟩ hr (pa_cons (pv 4) pa_nil)))))  (pss_cons (ps_expr (pe_base ⟨rfl, rfl, rfl⟩ hr (pa_cons (pv 0) (pa_cons (pe_lst pa_nil) (pa_cons (pe_lst (pa_cons (pv 1) pa_nil)) pa_nil)))))  (pss_cons (ps_fld (pv 0) (pv 2) rfl)  (pss_one (ps_fld (pv 0) (pe_bt bt_list bo_list (pa_cons (pv 3) pa_nil)) rfl))))))), ?_⟩
  walk_at "go"
  refine ⟨_, _, _, c_check_pace T, p, 1, rfl, ite2 (fun hp => ?_) (fun hp => kbad fun z => hp ⟨z.1, z.2.1⟩)⟩
  walk_at "go"
  refine ⟨_, .inl ⟨_, hl, rfl⟩, ?_⟩
  rw [List.length_map]
  walk_at "go"
  have bad : ¬ (1 ≤ ks.length ∧ ks.length ≤ 6) → ∃ C, mg "BadKnot" = some (Value.ref C) ∧ XC K C ∧ E (Value.ref C) none H := fun h => ⟨a.BadKnot, T.g_BadKnot, T.X_BadKnot, kbad fun z => h ⟨z.2.2.1, z.2.2.2.1⟩⟩
  refine ite2 (fun h1 => ?_) (fun h1 => bad (by omega))
  refine ⟨.int 6, _, g1, ⟨_, rfl⟩, ?_⟩
  walk_at "go"
  refine ite2 (fun h2 => bad (by omega)) (fun h2 => ?_)
  walk_at "for"
  refine ⟨l, rfl, .inl ⟨⟨_, hl⟩, ?_⟩⟩
  refine for_L (K := K) (a := l) (xs := ks.map V.int) (fun i σ H' => ∃ v4, σ = [some (.ref y), some out, some (.int p), some (.ref l), v4] ∧ H' = H ∧ Kinds (ks.take i)) ⟨_, rfl, rfl, (fun _ h => nomatch h)⟩ (fun i σ H' _ ⟨_, _, e, _⟩ => e ▸ hl) ?_ ?_
  · rintro i x σ H' hi ⟨v4, rfl, rfl, hk⟩
    rw [List.getElem?_map, Option.map_eq_some_iff] at hi
    obtain ⟨n, hn, rfl⟩ := hi
    walk_at "go"
    refine ⟨_, _, _, c_check_kind T, n, rfl, ite2 (fun hok => ?_) (fun hok => kbad fun z => hok (z.2.2.2.2 n (List.mem_of_getElem? hn)))⟩
    walk_at "go"
    have : Kinds (ks.take (i + 1)) := fun m hm => by
      rw [List.take_succ, hn] at hm
      rcases List.mem_append.mp hm with z | z
      · exact hk m z
      · have e : m = n := by simpa using z
        rw [e]; exact hok
    first | exact ⟨_, rfl, rfl, this⟩ | exact ⟨_, rfl, this⟩
  · rintro σ H' ⟨v4, rfl, rfl, hk⟩
    rw [List.length_map, List.take_length] at hk
    have kok := kok ⟨hp.1, hp.2, by omega, by omega, hk⟩
    walk_at "go"
    refine ⟨_, _, _, b_Knot_init T, fun q1 hq1 q2 hq2 => ?_⟩
    have hy2 := upd_keep (o := .lst [out]) (upd_keep (o := .lst []) hy hq1) hq2
    have s12 : Same H' (upd (upd H' q1 (.lst [])) q2 (.lst [out])) := (same_upd hq1).trans (same_upd hq2)
    refine ⟨y, a.Source, dx, q1, q2, [], [out], rfl, hy2, T.C_Source, T.N_Source_ins, T.N_Source_outs, SqL.of (upd_keep upd_same hq2), SqL.of upd_same, (ne_of_none hy hq1).symm, (ne_of_none (upd_keep hy hq1) hq2).symm, fun H2 l1 l2 s h1 h2 h3 h4 h5 => ?_⟩
    walk_at "go"
    refine ⟨y, a.Source, dx, _, rfl, h1, T.C_Source, T.N_Source_pace, kf_len, ?_⟩
    walk_at "go"
    have s3 : Own H' (upd H2 y (.ins a.Source dx (df l1 l2 p))) y := ((Same.own s12).trans s).trans own_upd
    have h2' : upd H2 y (.ins a.Source dx (df l1 l2 p)) l1 = some (.lst []) := by rw [upd_ne (ne_of h2 h1 (by intro z; cases z))]; exact h2
    have h3' : upd H2 y (.ins a.Source dx (df l1 l2 p)) l2 = some (.lst [out]) := by rw [upd_ne (ne_of h3 h1 (by intro z; cases z))]; exact h3
    refine ⟨l, _, rfl, .inl (sqL_own hl s3 hly), fun l3 hl3 => ?_⟩
    walk_at "go"
    have hy3 : upd (upd H2 y (.ins a.Source dx (df l1 l2 p))) l3 (.lst (ks.map V.int)) y = some (.ins a.Source dx (df l1 l2 p)) := upd_keep upd_same hl3
    refine ⟨y, a.Source, dx, _, rfl, hy3, T.C_Source, T.N_Source_kinds, df_len, ?_⟩
    have n1 : l1 ≠ y := ne_of h2 h1 (by intro z; cases z)
    have n2 : l2 ≠ y := ne_of h3 h1 (by intro z; cases z)
    have n3 : l3 ≠ y := (ne_of_none (upd_same (H := H2)) hl3).symm
    refine kok _ l1 l2 l3 ((s3.trans (Same.own (same_upd hl3))).trans own_upd) upd_same ?_ ?_ ?_ (upd_none (upd_none h4)) (upd_none (upd_none h5)) ?_
    · rw [upd_ne n1]; exact upd_keep h2' hl3
    · rw [upd_ne n2]; exact upd_keep h3' hl3
    · rw [upd_ne n3]; exact upd_same
    · cases e : H' l3 with
      | none => rfl
      | some o => exact absurd (hl3.symm.trans (s3 l3 o n3 e)) (by intro z; cases z)
theorem k_Source (T : Txt K mg a) : KCal P w K mg base "Source" a.Source 2 ["self", "out", "pace", "kinds"] [] (spSourceInit K a.Source a.BadKnot) := T.h_Source_init.cal T.g_Source (ok_Source_init T)
/-- a belt's attributes -/
def bf (rm pc : Int) : List (Str × V) := putF "pace" (.int pc) (putF "room" (.int rm) [])
theorem bf_room {rm pc : Int} : (bf rm pc).lookup ("room" : Str) = some (.int rm) := by
  unfold bf; rw [lookup_putF, if_neg (by decide +kernel), lookup_putF, if_pos rfl]
theorem bf_pace {rm pc : Int} : (bf rm pc).lookup ("pace" : Str) = some (.int pc) := by
  unfold bf; rw [lookup_putF, if_pos rfl]
abbrev beltOk (rm pc : Int) : Prop := 1 ≤ rm ∧ rm ≤ 6 ∧ 1 ≤ pc ∧ pc ≤ 4
def spBeltInit (C CB : Addr) : Sp := fun vs H Q E => ∃ (y dx : Addr) (rm pc : Int), vs = [.ref y, .int rm, .int pc] ∧ H y = some (.ins C dx []) ∧ if beltOk rm pc then Q .non (upd H y (.ins C dx (bf rm pc))) else E (.ref CB) none H
theorem ok_Belt_init (T : Txt K mg a) {f : Addr} {fd : FuncData} (F : Fun K "__init__" "Belt.__init__" s_Belt_init f fd) : FnOk P w K mg base (CXr P w) 1 f fd ["self", "room", "pace"] (spBeltInit a.Belt a.BadBelt) := by
  refine F.okx sc_Belt_init (fun vs H Q E h => ?_) (fun cdv A outer s H vs Q E hr h => ?_)
  · obtain ⟨_, _, _, _, rfl, _⟩ := h; rfl
  obtain ⟨y, dx, rm, pc, rfl, hy, k⟩ := h
  obtain ⟨t1, g1⟩ := T.g_MOST_ROOM
  obtain ⟨t2, g2⟩ := T.g_MOST_PACE
  walk_at "T"
  refine ⟨_, (pss_cons (ps_if (pt_not (pt_chain op_le op_le pe_int (pv 1) pe_gl))  (pss_one (ps_raise ⟨rfl, rfl, rfl⟩ rfl (pa_cons pe_str pa_nil)))  pss_nil)  (pss_cons (ps_if (pt_not (pt_chain op_le op_le pe_int (pv 2) pe_gl))  (pss_one (ps_raise ⟨rfl, rfl, rfl⟩ rfl (pa_cons pe_str pa_nil)))  pss_nil)  (pss_cons (ps_fld (pv 0) (pv 1) rfl)  (pss_one (ps_fld (pv 0) (pv 2) rfl))))), ?_⟩
  walk_at "go"
  have bad : ¬ beltOk rm pc → ∃ C, mg "BadBelt" = some (Value.ref C) ∧ XC K C ∧ E (Value.ref C) none H := fun h => by
    rw [if_neg h] at k
    exact ⟨a.BadBelt, T.g_BadBelt, T.X_BadBelt, k⟩
  refine ite2 (fun h1 => ?_) (fun h1 => bad (by unfold beltOk; omega))
  refine ⟨.int 6, _, g1, ⟨_, rfl⟩, ?_⟩
  walk_at "go"
  refine ite2 (fun h2 => bad (by unfold beltOk; omega)) (fun h2 => ?_)
  walk_at "go"
  refine ite2 (fun h3 => ?_) (fun h3 => bad (by unfold beltOk; omega))
  refine ⟨.int 4, _, g2, ⟨_, rfl⟩, ?_⟩
  walk_at "go"
  refine ite2 (fun h4 => bad (by unfold beltOk; omega)) (fun h4 => ?_)
  rw [if_pos (by unfold beltOk; omega)] at k
  walk_at "go"
  refine ⟨y, a.Belt, dx, [], rfl, hy, T.C_Belt, T.N_Belt_room, by decide, ?_⟩
  walk_at "go"
  refine ⟨y, a.Belt, dx, _, rfl, upd_same, T.C_Belt, T.N_Belt_pace, by show 1 < 1000; decide, ?_⟩
  rw [upd_upd]
  exact k
theorem k_Belt (T : Txt K mg a) : KCal P w K mg base "Belt" a.Belt 1 ["self", "room", "pace"] [] (spBeltInit a.Belt a.BadBelt) := T.h_Belt_init.cal T.g_Belt (ok_Belt_init T)
inductive Wd | source | drain | parter | joiner
deriving DecidableEq
def clsA (a : Ad) : Wd → Addr
  | .source => a.Source
  | .drain => a.Drain
  | .parter => a.Parter
  | .joiner => a.Joiner
/-- a knot of a work: its word, ins, outs, pace, kinds -/
structure Row where
  wd : Wd
  ins : List Int
  outs : List Int
  pace : Int
  kinds : List Int
def Row.ok (r : Row) : Prop := match r.wd with
  | .source => r.ins = [] ∧ (∃ o, r.outs = [o]) ∧ 1 ≤ r.pace ∧ r.pace ≤ 4 ∧ 1 ≤ r.kinds.length ∧ r.kinds.length ≤ 6 ∧ Kinds r.kinds
  | .drain => (∃ i, r.ins = [i]) ∧ r.outs = [] ∧ 0 ≤ r.pace ∧ r.pace ≤ 4
  | .parter => (∃ i, r.ins = [i]) ∧ 2 ≤ r.outs.length ∧ r.outs.length ≤ 4
  | .joiner => (∃ o, r.outs = [o]) ∧ 2 ≤ r.ins.length ∧ r.ins.length ≤ 4
theorem new_keep {H : Hp} {y dx b C : Addr} {u : HO} (hy : H y = none) (hdx : H dx = none) (h : H b = some u) : upd (upd H dx (.own y)) y (.ins C dx []) b = some u := by
  rw [upd_ne (ne_of_none h hy), upd_ne (ne_of_none h hdx)]; exact h
theorem new_same {H : Hp} {y dx C : Addr} (hy : H y = none) (hdx : H dx = none) : Same H (upd (upd H dx (.own y)) y (.ins C dx [])) := fun _ _ h => new_keep hy hdx h
theorem new_none {H : Hp} {y dx b : Addr} {o p : HO} (h : upd (upd H dx o) y p b = none) : H b = none := upd_none (upd_none h)
theorem same_none {H H' : Hp} {b : Addr} (s : Same H H') (h : H' b = none) : H b = none := by
  cases e : H b with
  | none => rfl
  | some o => rw [s b o e] at h; cases h
/-- a knot at v whose objects all have p -/
def KnP (a : Ad) (H : Hp) (p : Addr → Prop) (v : V) (r : Row) : Prop := ∃ y dx l1 l2 l3 fs, v = .ref y ∧ p y ∧ p l1 ∧ p l2 ∧ (r.wd = .source → p l3) ∧ H y = some (.ins (clsA a r.wd) dx fs) ∧ fs.lookup ("ins" : Str) = some (.ref l1) ∧ fs.lookup ("outs" : Str) = some (.ref l2) ∧
  fs.lookup ("copied" : Str) = none ∧ H l1 = some (.lst (iv r.ins)) ∧ H l2 = some (.lst (iv r.outs)) ∧ (r.wd = .source → fs.lookup ("kinds" : Str) = some (.ref l3) ∧ H l3 = some (.lst (iv r.kinds))) ∧ ((r.wd = .source ∨ r.wd = .drain) → fs.lookup ("pace" : Str) = some (.int r.pace))
theorem KnP.keep {H H' : Hp} {p q : Addr → Prop} {v : V} {r : Row} (h : KnP a H p v r) (s : ∀ b o, p b → H b = some o → q b ∧ H' b = some o) : KnP a H' q v r := by
  obtain ⟨y, dx, l1, l2, l3, fs, rfl, p0, p1, p2, p3, h0, e1, e2, e3, h1, h2, h3, h4⟩ := h
  exact ⟨y, dx, l1, l2, l3, fs, rfl, (s _ _ p0 h0).1, (s _ _ p1 h1).1, (s _ _ p2 h2).1, fun z => (s _ _ (p3 z) (h3 z).2).1, (s _ _ p0 h0).2, e1, e2, e3, (s _ _ p1 h1).2, (s _ _ p2 h2).2, fun z => ⟨(h3 z).1, (s _ _ (p3 z) (h3 z).2).2⟩, h4⟩
structure Kns (a : Ad) (H : Hp) (p : Addr → Prop) (vs : List V) (rs : List Row) : Prop where
  len : vs.length = rs.length
  g : ∀ (i : Nat) v r, vs[i]? = some v → rs[i]? = some r → KnP a H p v r
theorem Kns.keep {H H' : Hp} {p q : Addr → Prop} {vs : List V} {rs : List Row} (h : Kns a H p vs rs) (s : ∀ b o, p b → H b = some o → q b ∧ H' b = some o) : Kns a H' q vs rs := ⟨h.len, fun i v r e1 e2 => (h.g i v r e1 e2).keep s⟩
theorem Kns.nil {H : Hp} {p : Addr → Prop} : Kns a H p [] [] := ⟨rfl, fun i v r h => by simp at h⟩
theorem Kns.append {H : Hp} {p : Addr → Prop} {vs us : List V} {rs qs : List Row} (h : Kns a H p vs rs) (k : Kns a H p us qs) : Kns a H p (vs ++ us) (rs ++ qs) := by
  refine ⟨by rw [List.length_append, List.length_append, h.len, k.len], fun i v r e1 e2 => ?_⟩
  by_cases hi : i < vs.length
  · rw [List.getElem?_append_left hi] at e1
    rw [List.getElem?_append_left (by rw [← h.len]; exact hi)] at e2
    exact h.g i v r e1 e2
  · rw [List.getElem?_append_right (by omega)] at e1
    rw [List.getElem?_append_right (by rw [← h.len]; omega), ← h.len] at e2
    exact k.g _ v r e1 e2
theorem Kns.one {H : Hp} {p : Addr → Prop} {v : V} {r : Row} (h : KnP a H p v r) : Kns a H p [v] [r] :=
  ⟨rfl, fun i u q e1 e2 => by
    have hi := (List.getElem?_eq_some_iff.mp e1).1
    have : i = 0 := by simp at hi; omega
    subst this
    have e1 : v = u := by simpa using e1
    have e2 : r = q := by simpa using e2
    rw [← e1, ← e2]; exact h⟩
theorem Kns.at {H : Hp} {p : Addr → Prop} {vs : List V} {rs : List Row} (h : Kns a H p vs rs) {i : Nat} {v : V} (e : vs[i]? = some v) : ∃ r, rs[i]? = some r ∧ KnP a H p v r := by
  have hi := (List.getElem?_eq_some_iff.mp e).1
  have e2 : rs[i]? = some (rs[i]'(by rw [← h.len]; exact hi)) := List.getElem?_eq_getElem _
  exact ⟨_, e2, h.g i v _ e e2⟩
/-- belts, as (room, pace) -/
def BtP (a : Ad) (H : Hp) (p : Addr → Prop) (v : V) (r : Int × Int) : Prop := ∃ y dx fs, v = .ref y ∧ p y ∧ H y = some (.ins a.Belt dx fs) ∧ fs.lookup ("room" : Str) = some (.int r.1) ∧ fs.lookup ("pace" : Str) = some (.int r.2)
theorem BtP.keep {H H' : Hp} {p q : Addr → Prop} {v : V} {r : Int × Int} (h : BtP a H p v r) (s : ∀ b o, p b → H b = some o → q b ∧ H' b = some o) : BtP a H' q v r := by
  obtain ⟨y, dx, fs, rfl, p0, h0, e1, e2⟩ := h
  exact ⟨y, dx, fs, rfl, (s _ _ p0 h0).1, (s _ _ p0 h0).2, e1, e2⟩
structure Bts (a : Ad) (H : Hp) (p : Addr → Prop) (vs : List V) (rs : List (Int × Int)) : Prop where
  len : vs.length = rs.length
  g : ∀ (i : Nat) v r, vs[i]? = some v → rs[i]? = some r → BtP a H p v r
theorem Bts.keep {H H' : Hp} {p q : Addr → Prop} {vs : List V} {rs : List (Int × Int)} (h : Bts a H p vs rs) (s : ∀ b o, p b → H b = some o → q b ∧ H' b = some o) : Bts a H' q vs rs := ⟨h.len, fun i v r e1 e2 => (h.g i v r e1 e2).keep s⟩
theorem Bts.nil {H : Hp} {p : Addr → Prop} : Bts a H p [] [] := ⟨rfl, fun i v r h => by simp at h⟩
theorem Bts.push {H : Hp} {p : Addr → Prop} {vs : List V} {v : V} {rs : List (Int × Int)} {r : Int × Int} (h : Bts a H p vs rs) (k : BtP a H p v r) : Bts a H p (vs ++ [v]) (rs ++ [r]) := by
  refine ⟨by rw [List.length_append, List.length_append, h.len]; rfl, fun i u q e1 e2 => ?_⟩
  by_cases hi : i < vs.length
  · rw [List.getElem?_append_left hi] at e1
    rw [List.getElem?_append_left (by rw [← h.len]; exact hi)] at e2
    exact h.g i u q e1 e2
  · rw [List.getElem?_append_right (by omega)] at e1
    rw [List.getElem?_append_right (by rw [← h.len]; omega), ← h.len] at e2
    have hj := (List.getElem?_eq_some_iff.mp e1).1
    have : i - vs.length = 0 := by simp at hj; omega
    rw [this] at e1 e2
    have e1 : v = u := by simpa using e1
    have e2 : r = q := by simpa using e2
    rw [← e1, ← e2]; exact k
theorem Bts.at {H : Hp} {p : Addr → Prop} {vs : List V} {rs : List (Int × Int)} (h : Bts a H p vs rs) {i : Nat} {v : V} (e : vs[i]? = some v) : ∃ r, rs[i]? = some r ∧ BtP a H p v r := by
  have hi := (List.getElem?_eq_some_iff.mp e).1
  have e2 : rs[i]? = some (rs[i]'(by rw [← h.len]; exact hi)) := List.getElem?_eq_getElem _
  exact ⟨_, e2, h.g i v _ e e2⟩
/-- what a heap had not -/
abbrev New (H : Hp) : Addr → Prop := fun b => H b = none
def spCopied (a : Ad) (wd : Wd) : Sp := fun vs H Q _ => ∃ (y : Addr) (r : Row) (p : Addr → Prop), vs = [.ref y] ∧ KnP a H p (.ref y) r ∧ r.wd = wd ∧ r.ok ∧ ∀ v H', Same H H' → KnP a H' (New H) v r → Q v H'
theorem ok_Source_copied (T : Txt K mg a) {f : Addr} {fd : FuncData} (F : Fun K "copied" "Source.copied" s_Source_copied f fd) : FnOk P w K mg base (CXr P w) 4 f fd ["self"] (spCopied a .source) := by
  refine F.okx sc_Source_copied (fun vs H Q E h => ?_) (fun cdv A outer s H vs Q E hr h => ?_)
  · obtain ⟨_, _, _, rfl, _⟩ := h; rfl
  obtain ⟨y, ⟨wd, ins, outs, pace, kinds⟩, p, rfl, hK, hw, hok, k⟩ := h
  cases hw
  obtain ⟨y', dx, l1, l2, l3, fs, e, p0, p1, p2, p3, h0, e1, e2, e3, h1, h2, h3, h4⟩ := hK
  cases e
  obtain ⟨hk, hk'⟩ := h3 rfl
  have hp := h4 (.inl rfl)
  obtain ⟨q1, ⟨ov, q2⟩, q3, q4, q5, q6, q7⟩ := hok
  simp only at q1 q2
  subst q1 q2
  walk_at "T"
  refine ⟨_, (pss_one (ps_ret (pe_mk ⟨rfl, rfl, rfl⟩ hr (pa_cons (pe_ix ix_any (pe_fld (pv 0) rfl) pe_int (fun _ _ => rfl)) (pa_cons (pe_fld (pv 0) rfl) (pa_cons (pe_fld (pv 0) rfl) pa_nil)))))), ?_⟩
  walk_at "go"
  refine ⟨a.Source, _, _, _, (k_Source T).mono, y, a.Source, dx, fs, _, rfl, h0, T.C_Source, T.N_Source_outs, e2, rd_ixL (SqL.of h2) at0 ?_⟩
  refine ⟨y, a.Source, dx, fs, _, rfl, h0, T.C_Source, T.N_Source_pace, hp, ?_⟩
  refine ⟨y, a.Source, dx, fs, _, rfl, h0, T.C_Source, T.N_Source_kinds, hk, ?_⟩
  intro z dz hz hdz hne
  refine ⟨z, dz, l3, .int ov, pace, kinds, rfl, upd_same, SqL.of (new_keep hz hdz hk'), ne_of_none hk' hz, fun _ H' m1 m2 m3 s' g1 g2 g3 g4 n1 n2 n3 => ⟨rfl, ?_⟩, fun hbad => absurd ⟨q3, q4, q5, q6, q7⟩ hbad⟩
  exact k _ _ (Own.of_new hz hdz s') ⟨z, dz, m1, m2, m3, _, rfl, hz, new_none n1, new_none n2, fun _ => new_none n3, g1, sf_ins, sf_outs, sf_no (by decide +kernel) (by decide +kernel) (by decide +kernel) (by decide +kernel), g2, g3, fun _ => ⟨sf_kinds, g4⟩, fun _ => sf_pace⟩
theorem m_Source_copied (T : Txt K mg a) : MCal P w K mg base a.Source "copied" 4 ["self"] [] (spCopied a .source) := T.h_Source_copied.cal T.C_Source (ok_Source_copied T)
theorem ok_Drain_copied (T : Txt K mg a) {f : Addr} {fd : FuncData} (F : Fun K "copied" "Drain.copied" s_Drain_copied f fd) : FnOk P w K mg base (CXr P w) 4 f fd ["self"] (spCopied a .drain) := by
  refine F.okx sc_Drain_copied (fun vs H Q E h => ?_) (fun cdv A outer s H vs Q E hr h => ?_)
  · obtain ⟨_, _, _, rfl, _⟩ := h; rfl
  obtain ⟨y, ⟨wd, ins, outs, pace, kinds⟩, p, rfl, hK, hw, hok, k⟩ := h
  cases hw
  obtain ⟨y', dx, l1, l2, l3, fs, e, p0, p1, p2, p3, h0, e1, e2, e3, h1, h2, h3, h4⟩ := hK
  cases e
  have hp := h4 (.inr rfl)
  obtain ⟨⟨iv', q1⟩, q2, q3, q4⟩ := hok
  simp only at q1 q2
  subst q1 q2
  walk_at "T"
  refine ⟨_, (pss_one (ps_ret (pe_mk ⟨rfl, rfl, rfl⟩ hr (pa_cons (pe_ix ix_any (pe_fld (pv 0) rfl) pe_int (fun _ _ => rfl)) (pa_cons (pe_fld (pv 0) rfl) pa_nil))))), ?_⟩
  walk_at "go"
  refine ⟨a.Drain, _, _, _, (k_Drain T).mono, y, a.Drain, dx, fs, _, rfl, h0, T.C_Drain, T.N_Drain_ins, e1, rd_ixL (SqL.of h1) at0 ?_⟩
  refine ⟨y, a.Drain, dx, fs, _, rfl, h0, T.C_Drain, T.N_Drain_pace, hp, ?_⟩
  intro z dz hz hdz hne
  refine ⟨z, dz, .int iv', pace, rfl, upd_same, ?_⟩
  rw [if_pos ⟨q3, q4⟩]
  intro H' m1 m2 s' g1 g2 g3 n1 n2
  refine ⟨rfl, ?_⟩
  exact k _ _ (Own.of_new hz hdz s') ⟨z, dz, m1, m2, z, _, rfl, hz, new_none n1, new_none n2, (fun z => nomatch z), g1, df_ins, df_outs, df_no (by decide +kernel) (by decide +kernel) (by decide +kernel), g2, g3, (fun z => nomatch z), fun _ => df_pace⟩
theorem m_Drain_copied (T : Txt K mg a) : MCal P w K mg base a.Drain "copied" 4 ["self"] [] (spCopied a .drain) := T.h_Drain_copied.cal T.C_Drain (ok_Drain_copied T)
theorem ok_Parter_copied (T : Txt K mg a) {f : Addr} {fd : FuncData} (F : Fun K "copied" "Parter.copied" s_Parter_copied f fd) : FnOk P w K mg base (CXr P w) 4 f fd ["self"] (spCopied a .parter) := by
  refine F.okx sc_Parter_copied (fun vs H Q E h => ?_) (fun cdv A outer s H vs Q E hr h => ?_)
  · obtain ⟨_, _, _, rfl, _⟩ := h; rfl
  obtain ⟨y, ⟨wd, ins, outs, pace, kinds⟩, p, rfl, hK, hw, hok, k⟩ := h
  cases hw
  obtain ⟨y', dx, l1, l2, l3, fs, e, p0, p1, p2, p3, h0, e1, e2, e3, h1, h2, h3, h4⟩ := hK
  cases e
  obtain ⟨⟨iv', q1⟩, q3, q4⟩ := hok
  simp only at q1 q3 q4
  subst q1
  walk_at "T"
  refine ⟨_, (pss_one (ps_ret (pe_mk ⟨rfl, rfl, rfl⟩ hr (pa_cons (pe_ix ix_any (pe_fld (pv 0) rfl) pe_int (fun _ _ => rfl)) (pa_cons (pe_fld (pv 0) rfl) pa_nil))))), ?_⟩
  walk_at "go"
  refine ⟨a.Parter, _, _, _, (k_Parter T).mono, y, a.Parter, dx, fs, _, rfl, h0, T.C_Parter, T.N_Parter_ins, e1, rd_ixL (SqL.of h1) at0 ?_⟩
  refine ⟨y, a.Parter, dx, fs, _, rfl, h0, T.C_Parter, T.N_Parter_outs, e2, ?_⟩
  intro z dz hz hdz hne
  refine ⟨z, dz, l2, .int iv', iv outs, rfl, upd_same, SqL.of (new_keep hz hdz h2), ne_of_none h2 hz, ?_⟩
  rw [if_pos (by rw [iv, List.length_map]; exact ⟨q3, q4⟩)]
  intro H' m1 m2 s' g1 g2 g3 n1 n2
  refine ⟨rfl, ?_⟩
  exact k _ _ (Own.of_new hz hdz s') ⟨z, dz, m1, m2, z, _, rfl, hz, new_none n1, new_none n2, (fun z => nomatch z), g1, kf_ins, kf_outs, kf_no (by decide +kernel) (by decide +kernel), g2, g3, (fun z => nomatch z), (fun z => by rcases z with z | z <;> cases z)⟩
theorem m_Parter_copied (T : Txt K mg a) : MCal P w K mg base a.Parter "copied" 4 ["self"] [] (spCopied a .parter) := T.h_Parter_copied.cal T.C_Parter (ok_Parter_copied T)
theorem ok_Joiner_copied (T : Txt K mg a) {f : Addr} {fd : FuncData} (F : Fun K "copied" "Joiner.copied" s_Joiner_copied f fd) : FnOk P w K mg base (CXr P w) 4 f fd ["self"] (spCopied a .joiner) := by
  refine F.okx sc_Joiner_copied (fun vs H Q E h => ?_) (fun cdv A outer s H vs Q E hr h => ?_)
  · obtain ⟨_, _, _, rfl, _⟩ := h; rfl
  obtain ⟨y, ⟨wd, ins, outs, pace, kinds⟩, p, rfl, hK, hw, hok, k⟩ := h
  cases hw
  obtain ⟨y', dx, l1, l2, l3, fs, e, p0, p1, p2, p3, h0, e1, e2, e3, h1, h2, h3, h4⟩ := hK
  cases e
  obtain ⟨⟨ov, q1⟩, q3, q4⟩ := hok
  simp only at q1 q3 q4
  subst q1
  walk_at "T"
  refine ⟨_, (pss_one (ps_ret (pe_mk ⟨rfl, rfl, rfl⟩ hr (pa_cons (pe_fld (pv 0) rfl) (pa_cons (pe_ix ix_any (pe_fld (pv 0) rfl) pe_int (fun _ _ => rfl)) pa_nil))))), ?_⟩
  walk_at "go"
  refine ⟨a.Joiner, _, _, _, (k_Joiner T).mono, y, a.Joiner, dx, fs, _, rfl, h0, T.C_Joiner, T.N_Joiner_ins, e1, ?_⟩
  refine ⟨y, a.Joiner, dx, fs, _, rfl, h0, T.C_Joiner, T.N_Joiner_outs, e2, rd_ixL (SqL.of h2) at0 ?_⟩
  intro z dz hz hdz hne
  refine ⟨z, dz, l1, .int ov, iv ins, rfl, upd_same, SqL.of (new_keep hz hdz h1), ne_of_none h1 hz, ?_⟩
  rw [if_pos (by rw [iv, List.length_map]; exact ⟨q3, q4⟩)]
  intro H' m1 m2 s' g1 g2 g3 n1 n2
  refine ⟨rfl, ?_⟩
  exact k _ _ (Own.of_new hz hdz s') ⟨z, dz, m1, m2, z, _, rfl, hz, new_none n1, new_none n2, (fun z => nomatch z), g1, kf_ins, kf_outs, kf_no (by decide +kernel) (by decide +kernel), g2, g3, (fun z => nomatch z), (fun z => by rcases z with z | z <;> cases z)⟩
theorem m_Joiner_copied (T : Txt K mg a) : MCal P w K mg base a.Joiner "copied" 4 ["self"] [] (spCopied a .joiner) := T.h_Joiner_copied.cal T.C_Joiner (ok_Joiner_copied T)
theorem CT (T : Txt K mg a) (wd : Wd) : Cls K (clsA a wd) := by
  cases wd
  · exact T.C_Source
  · exact T.C_Drain
  · exact T.C_Parter
  · exact T.C_Joiner
theorem NI (T : Txt K mg a) (wd : Wd) : NoAttr K (clsA a wd) "ins" := by
  cases wd
  · exact T.N_Source_ins
  · exact T.N_Drain_ins
  · exact T.N_Parter_ins
  · exact T.N_Joiner_ins
theorem NO (T : Txt K mg a) (wd : Wd) : NoAttr K (clsA a wd) "outs" := by
  cases wd
  · exact T.N_Source_outs
  · exact T.N_Drain_outs
  · exact T.N_Parter_outs
  · exact T.N_Joiner_outs
theorem m_copied (T : Txt K mg a) (wd : Wd) : MCal P w K mg base (clsA a wd) "copied" 4 ["self"] [] (spCopied a wd) := by
  cases wd
  · exact m_Source_copied T
  · exact m_Drain_copied T
  · exact m_Parter_copied T
  · exact m_Joiner_copied T
theorem sorted_eq : ∀ (xs ys : List Int), xs.Perm ys → xs.Pairwise (· ≤ ·) → ys.Pairwise (· ≤ ·) → xs = ys
  | [], ys, h, _, _ => (List.nil_perm.mp h).symm
  | x :: xs, [], h, _, _ => absurd h.length_eq (by simp)
  | x :: xs, y :: ys, h, hx, hy => by
    have e : x = y := by
      have h1 : y ∈ x :: xs := h.mem_iff.mpr (by simp)
      have h2 : x ∈ y :: ys := h.mem_iff.mp (by simp)
      rcases List.mem_cons.mp h1 with e | m1
      · exact e.symm
      rcases List.mem_cons.mp h2 with e | m2
      · exact e
      have := (List.pairwise_cons.mp hx).1 y m1
      have := (List.pairwise_cons.mp hy).1 x m2
      omega
    subst e
    rw [sorted_eq xs ys h.cons_inv (List.pairwise_cons.mp hx).2 (List.pairwise_cons.mp hy).2]
def rgI (n : Nat) : List Int := (List.range n).map fun (i : Nat) => (i : Int)
theorem rgI_sorted (n : Nat) : (rgI n).Pairwise (· ≤ ·) := by
  unfold rgI
  rw [List.pairwise_map]
  exact List.pairwise_lt_range.imp fun {i j} h => by omega
theorem rgL_rgI (n : Nat) : rgL 0 n = iv (rgI n) := by
  simp [rgL, iv, rgI, List.map_map, Function.comp_def]
theorem seqEq_ints : ∀ ms ns : List Int, seqEq (iv ms) (iv ns) = decide (ms = ns)
  | [], [] => rfl
  | [], _ :: _ => rfl
  | _ :: _, [] => rfl
  | m :: ms, n :: ns => by
    show (eqV (.int m) (.int n) && seqEq (iv ms) (iv ns)) = _
    rw [seqEq_ints ms ns]
    by_cases e : m = n
    · subst e; simp [eqV]
    · simp [eqV, e]
theorem flat_iv (ns : List Int) : (iv ns).all flatV = true := List.all_eq_true.mpr fun x hx => by
  obtain ⟨n, _, rfl⟩ := List.mem_map.mp hx
  rfl
theorem rd_neI2 {H : Hp} {Q : VK} {p q : Addr} {ms ns : List Int} (h1 : SqL K H p (iv ms)) (h2 : SqL K H q (iv ns)) (k : Q (.bl (!decide (ms = ns))) H) : rNeG K (.ref p) (.ref q) H Q :=
  .inr (.inl ⟨p, q, iv ms, iv ns, rfl, rfl, .inl ⟨h1, h2⟩, flat_iv ms, flat_iv ns, by rw [seqEq_ints]; exact k⟩)
theorem rd_eqI2 {H : Hp} {Q : VK} {p q : Addr} {ms ns : List Int} (h1 : SqL K H p (iv ms)) (h2 : SqL K H q (iv ns)) (k : Q (.bl (decide (ms = ns))) H) : rEqG K (.ref p) (.ref q) H Q :=
  .inr (.inl ⟨p, q, iv ms, iv ns, rfl, rfl, .inl ⟨h1, h2⟩, flat_iv ms, flat_iv ns, by rw [seqEq_ints]; exact k⟩)
def spCheckSize (K : PySem.W.Frag) (a : Ad) : Sp := fun vs H Q E => ∃ (bl kl : Addr) (xs ys : List V), vs = [.ref bl, .ref kl] ∧ SqL K H bl xs ∧ SqL K H kl ys ∧ if (1 ≤ xs.length ∧ xs.length ≤ 24) ∧ 1 ≤ ys.length ∧ ys.length ≤ 24 then Q .non H else E (.ref a.BadWork) none H
theorem ok_check_size (T : Txt K mg a) {f : Addr} {fd : FuncData} (F : Fun K "check_size" "check_size" s_check_size f fd) : FnOk P w K mg base (CXr P w) 1 f fd ["belts", "knots"] (spCheckSize K a) := by
  refine F.okx sc_check_size (fun vs H Q E h => ?_) (fun cdv A outer s H vs Q E hr h => ?_)
  · obtain ⟨_, _, _, _, rfl, _⟩ := h; rfl
  obtain ⟨bl, kl, xs, ys, rfl, h1, h2, k⟩ := h
  obtain ⟨t1, g1⟩ := T.g_MOST_BELTS
  obtain ⟨t2, g2⟩ := T.g_MOST_KNOTS
  walk_at "T"
  refine ⟨_, (pss_cons (ps_if (pt_not (pt_chain op_le op_le pe_int (pe_bi bi_len bo_len (pa_cons (pv 0) pa_nil)) pe_gl))  (pss_one (ps_raise ⟨rfl, rfl, rfl⟩ rfl (pa_cons pe_str pa_nil)))  pss_nil)  (pss_one (ps_if (pt_not (pt_chain op_le op_le pe_int (pe_bi bi_len bo_len (pa_cons (pv 1) pa_nil)) pe_gl))  (pss_one (ps_raise ⟨rfl, rfl, rfl⟩ rfl (pa_cons pe_str pa_nil)))  pss_nil))), ?_⟩
  walk_at "go"
  have bad : ¬ ((1 ≤ xs.length ∧ xs.length ≤ 24) ∧ 1 ≤ ys.length ∧ ys.length ≤ 24) → ∃ C, mg "BadWork" = some (Value.ref C) ∧ XC K C ∧ E (Value.ref C) none H := fun h => by
    rw [if_neg h] at k
    exact ⟨a.BadWork, T.g_BadWork, T.X_BadWork, k⟩
  refine ⟨_, .inl ⟨_, h1, rfl⟩, ?_⟩
  walk_at "go"
  refine ite2 (fun b1 => ?_) (fun b1 => bad (by omega))
  refine ⟨.int 24, _, g1, ⟨_, rfl⟩, ?_⟩
  walk_at "go"
  refine ite2 (fun b2 => bad (by omega)) (fun b2 => ?_)
  walk_at "go"
  refine ⟨_, .inl ⟨_, h2, rfl⟩, ?_⟩
  walk_at "go"
  refine ite2 (fun b3 => ?_) (fun b3 => bad (by omega))
  refine ⟨.int 24, _, g2, ⟨_, rfl⟩, ?_⟩
  walk_at "go"
  refine ite2 (fun b4 => bad (by omega)) (fun b4 => ?_)
  rw [if_pos (by omega)] at k
  walk_at "go"
  exact k
theorem c_check_size (T : Txt K mg a) : Cal P w K mg base "check_size" 1 ["belts", "knots"] [] (spCheckSize K a) := T.h_check_size.cal (ok_check_size T)
def spEachOnce (K : PySem.W.Frag) (a : Ad) : Sp := fun vs H Q E => ∃ (l : Addr) (ns : List Int) (n : Nat), vs = [.ref l, .int n] ∧ SqL K H l (iv ns) ∧ ns.length < 64 ∧ n ≤ 1000 ∧ (ns.Perm (rgI n) → ∀ H', Same H H' → Q .non H') ∧ (¬ ns.Perm (rgI n) → ∀ H', Same H H' → E (.ref a.BadWork) none H')
theorem ok_check_each_once (T : Txt K mg a) {f : Addr} {fd : FuncData} (F : Fun K "check_each_once" "check_each_once" s_check_each_once f fd) : FnOk P w K mg base (CXr P w) 1 f fd ["named", "size"] (spEachOnce K a) := by
  refine F.okx sc_check_each_once (fun vs H Q E h => ?_) (fun cdv A outer s H vs Q E hr h => ?_)
  · obtain ⟨_, _, _, rfl, _⟩ := h; rfl
  obtain ⟨l, ns, n, rfl, hl, h64, hn, kok, kbad⟩ := h
  walk_at "T"
  refine ⟨_, (pss_one (ps_if (pt_cmpR (og_ne hr.units1) (pe_bi bi_sorted bo_sorted (pa_cons (pv 0) pa_nil)) (pe_bt (bt_listR rfl) bo_list (pa_cons (pe_rg1 (pa_cons (pv 1) pa_nil)) pa_nil)) (nomark _))  (pss_one (ps_raise ⟨rfl, rfl, rfl⟩ rfl (pa_cons pe_str pa_nil)))  pss_nil)), ?_⟩
  walk_at "go"
  refine ⟨l, ns, rfl, hl, h64, fun ms q1 hp hs hq1 => ?_⟩
  walk_at "go"
  intro q2 hq2
  refine ⟨q2, 0, n, rfl, upd_same, ⟨by omega, by omega, by omega, by omega, by omega⟩, fun q3 hq3 => ?_⟩
  rw [show ((n : Int) - 0).toNat = n by omega, rgL_rgI]
  walk_at "go"
  have sm : Same H (upd (upd (upd H q1 (.lst (iv ms))) q2 (.rng 0 n)) q3 (.lst (iv (rgI n)))) := (same_upd hq1).trans ((same_upd hq2).trans (same_upd hq3))
  refine rd_neI2 (ms := ms) (ns := rgI n) (SqL.of (upd_keep (upd_keep upd_same hq2) hq3)) (SqL.of upd_same) ?_
  walk_at "go"
  refine ite2 (fun b1 => ?_) (fun b1 => ?_)
  · refine ⟨a.BadWork, T.g_BadWork, T.X_BadWork, kbad (fun z => b1 (sorted_eq _ _ (hp.trans z) hs (rgI_sorted n))) _ sm⟩
  · walk_at "go"
    refine kok ?_ _ sm
    have e : ms = rgI n := Decidable.of_not_not b1
    rw [← e]
    exact hp.symm
theorem c_check_each_once (T : Txt K mg a) : Cal P w K mg base "check_each_once" 1 ["named", "size"] [] (spEachOnce K a) := T.h_check_each_once.cal (ok_check_each_once T)
def fedOf (rs : List Row) : List Int := rs.flatMap Row.outs
def takenOf (rs : List Row) : List Int := rs.flatMap Row.ins
/-- a work's attributes -/
def wf (l1 l2 : Addr) : List (Str × V) := putF "knots" (.ref l2) (putF "belts" (.ref l1) [])
theorem wf_belts {l1 l2 : Addr} : (wf l1 l2).lookup ("belts" : Str) = some (.ref l1) := by
  unfold wf; rw [lookup_putF, if_neg (by decide +kernel), lookup_putF, if_pos rfl]
theorem wf_knots {l1 l2 : Addr} : (wf l1 l2).lookup ("knots" : Str) = some (.ref l2) := by
  unfold wf; rw [lookup_putF, if_pos rfl]
def workOk (bs : List (Int × Int)) (rs : List Row) : Prop := ((1 ≤ bs.length ∧ bs.length ≤ 24) ∧ 1 ≤ rs.length ∧ rs.length ≤ 24) ∧ (fedOf rs).Perm (rgI bs.length) ∧ (takenOf rs).Perm (rgI bs.length)
/-- a work at y: new since B -/
def spWorkInit (K : PySem.W.Frag) (a : Ad) : Sp := fun vs H Q E => ∃ (y dx bl kl : Addr) (bvs kvs : List V) (bs : List (Int × Int)) (rs : List Row) (p : Addr → Prop), vs = [.ref y, .ref bl, .ref kl] ∧ H y = some (.ins a.Work dx []) ∧ bl ≠ y ∧ kl ≠ y ∧ (∀ b, p b → b ≠ y) ∧
  H bl = some (.lst bvs) ∧ H kl = some (.lst kvs) ∧ Bts a H p bvs bs ∧ Kns a H p kvs rs ∧ (∀ b ∈ bs, beltOk b.1 b.2) ∧ (∀ r ∈ rs, r.ok) ∧ (fedOf rs).length < 64 ∧ (takenOf rs).length < 64 ∧ bs.length ≤ 1000 ∧
  (workOk bs rs → ∀ H' l1 l2 bvs' kvs', Own H H' y → H' y = some (.ins a.Work dx (wf l1 l2)) → H' l1 = some (.lst bvs') → H' l2 = some (.lst kvs') → Bts a H' (New H) bvs' bs → Kns a H' (New H) kvs' rs → H l1 = none → H l2 = none → Q .non H') ∧
  (¬ workOk bs rs → ∀ H', Same H H' → E (.ref a.BadWork) none H')
theorem fedOf_succ {rs : List Row} {i : Nat} {r : Row} (h : rs[i]? = some r) : fedOf (rs.take (i + 1)) = fedOf (rs.take i) ++ r.outs := by
  unfold fedOf; rw [List.take_add_one, h, List.flatMap_append]; simp
theorem takenOf_succ {rs : List Row} {i : Nat} {r : Row} (h : rs[i]? = some r) : takenOf (rs.take (i + 1)) = takenOf (rs.take i) ++ r.ins := by
  unfold takenOf; rw [List.take_add_one, h, List.flatMap_append]; simp
theorem flat_take_le (f : Row → List Int) (rs : List Row) (i : Nat) : ((rs.take i).flatMap f).length ≤ (rs.flatMap f).length := by
  conv => rhs; rw [← List.take_append_drop i rs, List.flatMap_append, List.length_append]
  omega
theorem iv_app (xs ys : List Int) : iv xs ++ iv ys = iv (xs ++ ys) := by rw [iv, iv, iv, List.map_append]
theorem ok_Work_init (T : Txt K mg a) {f : Addr} {fd : FuncData} (F : Fun K "__init__" "Work.__init__" s_Work_init f fd) : FnOk P w K mg base (CXr P w) 5 f fd ["self", "belts", "knots"] (spWorkInit K a) := by
  refine F.okx sc_Work_init (fun vs H Q E h => ?_) (fun cdv A outer s H vs Q E hr h => ?_)
  · obtain ⟨_, _, _, _, _, _, _, _, _, rfl, _⟩ := h; rfl
  obtain ⟨y, dx, bl, kl, bvs, kvs, bs, rs, p, rfl, hy, nby, nky, hpy, hb, hk, hB, hKs, hbo, hro, h64, h64', hlb, kok, kbad⟩ := h
  walk_at "T"
  refine ⟨_, (pss_cons (ps_expr (pe_cl ⟨rfl, rfl, rfl⟩ hr (pa_cons (pv 1) (pa_cons (pv 2) pa_nil))))  (pss_cons (ps_set (i := 3) sc_Work_init.nd rfl (Or.inl rfl) (pe_lst pa_nil))  (pss_cons (ps_set (i := 4) sc_Work_init.nd rfl (Or.inl rfl) (pe_lst pa_nil))  (pss_cons (ps_for passG rfl (pi_seq (pv 2)) (pg_name (i := 5) sc_Work_init.nd rfl (Or.inl rfl))  (pss_cons (ps_expr (pe_bm PySem.F.plainAttrs_list PySem.F.slot_list_extend PySem.F.type_list_extend mt_extend (pv 3) (pa_cons (pe_fld (pv 5) rfl) pa_nil)))  (pss_one (ps_expr (pe_bm PySem.F.plainAttrs_list PySem.F.slot_list_extend PySem.F.type_list_extend mt_extend (pv 4) (pa_cons (pe_fld (pv 5) rfl) pa_nil))))))  (pss_cons (ps_expr (pe_cl ⟨rfl, rfl, rfl⟩ hr (pa_cons (pv 3) (pa_cons (pe_bi bi_len bo_len (pa_cons (pv 1) pa_nil)) pa_nil))))  (pss_cons (ps_expr (pe_cl ⟨rfl, rfl, rfl⟩ hr (pa_cons (pv 4) (pa_cons (pe_bi bi_len bo_len (pa_cons (pv 1) pa_nil)) pa_nil))))  (pss_cons (ps_fld (pv 0) (pe_lc (vars := ["belt"]) (caps := []) (N := ["belt"]) (ON := ["self", "belts", "knots", "fed", "taken", "knot"]) (osc := defScope s_Work_init) rfl rfl (by first | decide +kernel | kernel_rfl) rfl rfl (pi_seq (pv 1)) (fun s H fp pins => (pg_name (i := 0) (show (["belt"] : List Str).Nodup from by decide +kernel) rfl (Or.inl rfl))) (fun s H fp pins => pif_nil) (fun s H fp pins => (pe_mkN hr (pa_cons (pe_fld (pv 0) rfl) (pa_cons (pe_fld (pv 0) rfl) pa_nil))))) rfl)  (pss_one (ps_fld (pv 0) (pe_lc (vars := ["knot"]) (caps := []) (N := ["knot"]) (ON := ["self", "belts", "knots", "fed", "taken", "knot"]) (osc := defScope s_Work_init) rfl rfl (by first | decide +kernel | kernel_rfl) rfl rfl (pi_seq (pv 2)) (fun s H fp pins => (pg_name (i := 0) (show (["knot"] : List Str).Nodup from by decide +kernel) rfl (Or.inl rfl))) (fun s H fp pins => pif_nil) (fun s H fp pins => (pe_mthN0 hr (pv 0)))) rfl))))))))), ?_⟩
  walk_at "go"
  refine ⟨_, _, _, (c_check_size T).mono, bl, kl, bvs, kvs, rfl, SqL.of hb, SqL.of hk, ite2 (fun b1 => ?_) (fun b1 => ?_)⟩
  rotate_left
  · refine kbad (fun z => b1 ?_) H (Same.refl _)
    rw [hB.len, hKs.len]; exact z.1
  rw [hB.len, hKs.len] at b1
  walk_at "go"
  intro fl hfl
  walk_at "go"
  intro tl htl
  have nft : fl ≠ tl := ne_of_none upd_same htl
  have htl0 : H tl = none := upd_none htl
  walk_at "for"
  walk_at "go"
  have s2 : Same H (upd (upd H fl (.lst [])) tl (.lst [])) := (same_upd hfl).trans (same_upd htl)
  refine ⟨kl, rfl, .inl ⟨⟨_, SqL.of (s2 _ _ hk)⟩, ?_⟩⟩
  refine for_L (K := K) (a := kl) (xs := kvs) (fun i σ H' => ∃ v5, σ = [some (.ref y), some (.ref bl), some (.ref kl), some (.ref fl), some (.ref tl), v5] ∧ Same H H' ∧ H' fl = some (.lst (iv (fedOf (rs.take i)))) ∧ H' tl = some (.lst (iv (takenOf (rs.take i))))) ⟨_, rfl, s2, upd_keep upd_same htl, upd_same⟩ (fun i σ H' _ ⟨_, _, s, _⟩ => SqL.of (s _ _ hk)) ?_ ?_
  · rintro i x σ H' hi ⟨v5, rfl, s3, e1, e2⟩
    obtain ⟨r, hr', y1, dx1, l1, l2, l3, fs, rfl, p0, p1, p2, p3, h0, f1, f2, f3, h1, h2, h3, h4⟩ := hKs.at hi
    have L1 := flat_take_le Row.outs rs i
    have L2' := flat_take_le Row.ins rs i
    have L3 := flat_take_le Row.outs rs (i + 1)
    have L4 := flat_take_le Row.ins rs (i + 1)
    have E1 := fedOf_succ hr'
    have E2 := takenOf_succ hr'
    have n1 : ∀ {b : Addr} {o : HO}, H b = some o → b ≠ fl := fun h => ne_of_none h hfl
    have n2 : ∀ {b : Addr} {o : HO}, H b = some o → b ≠ tl := fun h => ne_of_none h htl0
    walk_at "go"
    refine ⟨.inl ⟨rfl, _, SqL.of e1⟩, y1, clsA a r.wd, dx1, fs, _, rfl, s3 _ _ h0, CT T _, NO T _, f2, ?_⟩
    refine ⟨fl, l2, _, _, rfl, rfl, e1, s3 _ _ h2, ?_, ?_⟩
    · refine Nat.le_of_lt (small1000 ?_)
      have := congrArg List.length E1
      rw [List.length_append] at this
      rw [iv, iv, List.length_map, List.length_map]
      unfold fedOf at this h64 ⊢
      omega
    walk_at "go"
    have e2' : upd H' fl (.lst (iv (fedOf (rs.take i)) ++ iv r.outs)) tl = some (.lst (iv (takenOf (rs.take i)))) := by rw [upd_ne (Ne.symm nft)]; exact e2
    refine ⟨.inl ⟨rfl, _, SqL.of e2'⟩, y1, clsA a r.wd, dx1, fs, _, rfl, ?_, CT T _, NI T _, f1, ?_⟩
    · rw [upd_ne (n1 h0)]; exact s3 _ _ h0
    refine ⟨tl, l1, _, iv r.ins, rfl, rfl, e2', ?_, ?_, ?_⟩
    · rw [upd_ne (n1 h1)]; exact s3 _ _ h1
    · refine Nat.le_of_lt (small1000 ?_)
      have := congrArg List.length E2
      rw [List.length_append] at this
      rw [iv, iv, List.length_map, List.length_map]
      unfold takenOf at this h64' ⊢
      omega
    refine ⟨_, rfl, fun b o hb => ?_, ?_, ?_⟩
    · rw [upd_ne (n2 hb), upd_ne (n1 hb)]; exact s3 _ _ hb
    · rw [upd_ne nft, upd_same, E1, iv_app]
    · rw [upd_same, E2, iv_app]
  · rintro σ H1 ⟨v5, rfl, s3, e1, e2⟩
    rw [hKs.len, List.take_length] at e1 e2
    walk_at "go"
    refine ⟨_, _, _, (c_check_each_once T).mono, m_len, _, .inl ⟨_, SqL.of (s3 _ _ hb), rfl⟩, ?_⟩
    rw [hB.len]
    refine ⟨fl, fedOf rs, bs.length, rfl, SqL.of e1, h64, hlb, fun g1 H2 s4 => ?_, fun g1 H2 s4 => kbad (fun z => g1 z.2.1) _ (s3.trans s4)⟩
    walk_at "go"
    refine ⟨_, _, _, (c_check_each_once T).mono, m_len, _, .inl ⟨_, SqL.of (s4 _ _ (s3 _ _ hb)), rfl⟩, ?_⟩
    rw [hB.len]
    refine ⟨tl, takenOf rs, bs.length, rfl, SqL.of (s4 _ _ e2), h64', hlb, fun g2 H3 s5 => ?_, fun g2 H3 s5 => kbad (fun z => g2 z.2.2) _ (s3.trans (s4.trans s5))⟩
    have kok := kok ⟨b1, g1, g2⟩
    have s6 := s3.trans (s4.trans s5)
    clear s3 s4 s5 e1 e2
    clear g1 g2
    walk_at "go"
    walk_at "lc"
    walk_at "go"
    refine ⟨bl, rfl, .inl ⟨⟨_, SqL.of (s6 _ _ hb)⟩, fun _ _ _ _ acc hacc => ?_⟩⟩
    have nacc : H acc = none := same_none s6 hacc
    refine for_L (K := K) (a := bl) (xs := bvs) (fun i σ H' => ∃ v us, σ = [v] ∧ Same H3 H' ∧ H' acc = some (.lst us) ∧ Bts a H' (fun b => H3 b = none ∧ b ≠ acc) us (bs.take i)) ⟨_, [], rfl, same_upd hacc, upd_same, by rw [List.take_zero]; exact .nil⟩ (fun i σ H' _ ⟨_, _, _, s, _⟩ => SqL.of (s _ _ (s6 _ _ hb))) ?_ ?_
    · rintro i x σ H' hi ⟨v, us, rfl, s7, e1, hU⟩
      obtain ⟨⟨rm, pc⟩, hr', y1, dx1, fs, rfl, p0, h0, f1, f2⟩ := hB.at hi
      have hok := hbo _ (List.mem_of_getElem? hr')
      have hil : i < bs.length := (List.getElem?_eq_some_iff.mp hr').1
      have h0' := s7 _ _ (s6 _ _ h0)
      walk_at "go"
      refine ⟨a.Belt, _, _, _, (k_Belt T).mono, y1, a.Belt, dx1, fs, _, rfl, h0', T.C_Belt, T.N_Belt_room, f1, y1, a.Belt, dx1, fs, _, rfl, h0', T.C_Belt, T.N_Belt_pace, f2, ?_⟩
      intro z dz hz hdz hne
      refine ⟨z, dz, rm, pc, rfl, upd_same, ?_⟩
      rw [if_pos hok, upd_upd]
      have sN : Same H' (upd (upd H' dz (.own z)) z (.ins a.Belt dz (bf rm pc))) := fun b o h => by rw [upd_ne (ne_of_none h hz), upd_ne (ne_of_none h hdz)]; exact h
      have hz' : upd (upd H' dz (.own z)) z (.ins a.Belt dz (bf rm pc)) z = some (.ins a.Belt dz (bf rm pc)) := upd_same
      generalize upd (upd H' dz (.own z)) z (.ins a.Belt dz (bf rm pc)) = H4 at sN hz' ⊢
      have hzn : z ≠ acc := fun q => by rw [q, e1] at hz; cases hz
      refine ⟨rfl, _, sN _ _ e1, small1000 (by have := hU.len; rw [List.length_take] at this; omega), _, us ++ [.ref z], rfl, fun b o hb => ?_, upd_same, ?_⟩
      · rw [upd_ne (ne_of_none hb hacc)]; exact sN _ _ (s7 _ _ hb)
      · rw [List.take_add_one, hr']
        refine Bts.push (hU.keep fun b o hp hb => ⟨hp, by rw [upd_ne hp.2]; exact sN _ _ hb⟩) ⟨z, dz, _, rfl, ⟨same_none s7 hz, hzn⟩, by rw [upd_ne hzn]; exact hz', bf_room, bf_pace⟩
    · rintro σ H4 ⟨v, us, rfl, s7, e1, hU⟩
      rw [hB.len, List.take_length] at hU
      have s8 := s6.trans s7
      have nacy : acc ≠ y := (ne_of_none hy nacc).symm
      walk_at "go"
      refine ⟨y, a.Work, dx, [], rfl, s8 _ _ hy, T.C_Work, T.N_Work_belts, by decide, ?_⟩
      have o9 : Own H (upd H4 y (.ins a.Work dx (putF "belts" (.ref acc) []))) y := (Same.own s8).trans own_upd
      have hy9 : upd H4 y (.ins a.Work dx (putF "belts" (.ref acc) [])) y = some (.ins a.Work dx (putF "belts" (.ref acc) [])) := upd_same
      have e9 : upd H4 y (.ins a.Work dx (putF "belts" (.ref acc) [])) acc = some (.lst us) := by rw [upd_ne nacy]; exact e1
      have hU9 : Bts a (upd H4 y (.ins a.Work dx (putF "belts" (.ref acc) []))) (fun b => H b = none ∧ b ≠ y) us bs := hU.keep fun b o hp hb => by
        have q1 : H b = none := same_none s6 hp.1
        have q2 : b ≠ y := (ne_of_none hy q1).symm
        exact ⟨⟨q1, q2⟩, by rw [upd_ne q2]; exact hb⟩
      generalize upd H4 y (.ins a.Work dx (putF "belts" (.ref acc) [])) = H5 at o9 hy9 e9 hU9 ⊢
      walk_at "go"
      walk_at "lc"
      walk_at "go"
      refine ⟨kl, rfl, .inl ⟨⟨_, SqL.of (o9 _ _ nky hk)⟩, fun _ _ _ _ ac2 hac2 => ?_⟩⟩
      refine for_L (K := K) (a := kl) (xs := kvs) (fun i σ H' => ∃ v us2, σ = [v] ∧ Same H5 H' ∧ H' ac2 = some (.lst us2) ∧ Kns a H' (fun b => H5 b = none ∧ b ≠ ac2) us2 (rs.take i)) ⟨_, [], rfl, same_upd hac2, upd_same, by rw [List.take_zero]; exact .nil⟩ (fun i σ H' _ ⟨_, _, _, s, _⟩ => SqL.of (s _ _ (o9 _ _ nky hk))) ?_ ?_
      · rintro i x σ H' hi ⟨v, us2, rfl, s10, e2, hV⟩
        obtain ⟨r, hr', hKn⟩ := hKs.at hi
        have hok := hro _ (List.mem_of_getElem? hr')
        have hil : i < rs.length := (List.getElem?_eq_some_iff.mp hr').1
        have hKn' : KnP a H' p x r := hKn.keep fun b o hp hb => ⟨hp, s10 _ _ (o9 _ _ (hpy b hp) hb)⟩
        obtain ⟨y1, dx1, l1, l2, l3, fs, rfl, p0, p1, p2, p3, h0, f1, f2, f3, h1, h2, h3, h4⟩ := id hKn'
        walk_at "go"
        refine ⟨y1, clsA a r.wd, dx1, fs, _, _, _, rfl, h0, f3, (m_copied T r.wd).mono, ?_⟩
        refine ⟨y1, r, p, rfl, hKn', rfl, hok, fun v' H6 s11 hN => ?_⟩
        refine ⟨_, s11 _ _ e2, small1000 (by have := hV.len; rw [List.length_take] at this; omega), _, us2 ++ [v'], rfl, fun b o hb => ?_, upd_same, ?_⟩
        · rw [upd_ne (ne_of_none hb hac2)]; exact s11 _ _ (s10 _ _ hb)
        · rw [List.take_add_one, hr']
          refine Kns.append (hV.keep fun b o hp hb => ⟨hp, by rw [upd_ne hp.2]; exact s11 _ _ hb⟩) (Kns.one (hN.keep fun b o hp hb => ?_))
          have q2 : b ≠ ac2 := fun z => by rw [z] at hp; rw [New, e2] at hp; cases hp
          exact ⟨⟨same_none s10 hp, q2⟩, by rw [upd_ne q2]; exact hb⟩
      · rintro σ H6 ⟨v, us2, rfl, s10, e2, hV⟩
        rw [hKs.len, List.take_length] at hV
        have hy10 := s10 _ _ hy9
        walk_at "go"
        refine ⟨y, a.Work, dx, _, rfl, hy10, T.C_Work, T.N_Work_knots, by show 1 < 1000; decide, ?_⟩
        have n2y : ac2 ≠ y := fun z => by rw [z, hy9] at hac2; cases hac2
        have ho : ∀ b, H5 b = none → b ≠ y → H b = none := fun b h1 h2 => by
          cases e : H b with
          | none => rfl
          | some o => rw [o9 b o h2 e] at h1; cases h1
        refine kok _ acc ac2 us us2 ((o9.trans (Same.own s10)).trans own_upd) upd_same ?_ ?_ ?_ ?_ nacc (ho _ hac2 n2y)
        · rw [upd_ne nacy]; exact s10 _ _ e9
        · rw [upd_ne n2y]; exact e2
        · exact hU9.keep fun b o hp hb => ⟨hp.1, by rw [upd_ne hp.2]; exact s10 _ _ hb⟩
        · refine hV.keep fun b o hp hb => ?_
          have q : b ≠ y := fun z => by rw [z, hy9] at hp; cases hp.1
          exact ⟨ho b hp.1 q, by rw [upd_ne q]; exact hb⟩
theorem k_Work (T : Txt K mg a) : KCal P w K mg base "Work" a.Work 5 ["self", "belts", "knots"] [] (spWorkInit K a) := T.h_Work_init.cal T.g_Work (ok_Work_init T)
def cntOf (n : Nat) : Nat := if n ≤ 1 then 1 else if n ≤ 2 then 2 else if n ≤ 4 then 4 else 8
theorem cnt_step {n e : Nat} (h : e = 1 ∨ e = 2 ∨ e = 4 ∨ e = 8) (hn : n ≤ 8) (h1 : e < n) : e * 2 ≤ cntOf n := by
  unfold cntOf; split <;> (try split) <;> (try split) <;> omega
theorem cnt_end {n e : Nat} (h : e = 1 ∨ e = 2 ∨ e = 4 ∨ e = 8) (h1 : ¬ e < n) (h2 : e ≤ cntOf n) : e = cntOf n := by
  unfold cntOf at *; split at h2 <;> (try split at h2) <;> (try split at h2) <;> (try split) <;> (try split) <;> (try split) <;> omega
theorem cnt_pos (n : Nat) : cntOf n = 1 ∨ cntOf n = 2 ∨ cntOf n = 4 ∨ cntOf n = 8 := by
  unfold cntOf; split <;> (try split) <;> (try split) <;> omega
def spEnds : Sp := fun vs H Q _ => ∃ n : Nat, vs = [.int n] ∧ 1 ≤ n ∧ n ≤ 8 ∧ Q (.int (cntOf n)) H
theorem ok_ends_for (T : Txt K mg a) {f : Addr} {fd : FuncData} (F : Fun K "ends_for" "ends_for" s_ends_for f fd) : FnOk P w K mg base (CXr P w) 1 f fd ["ways"] spEnds := by
  refine F.okx sc_ends_for (fun vs H Q E h => ?_) (fun cdv A outer s H vs Q E hr h => ?_)
  · obtain ⟨_, rfl, _⟩ := h; rfl
  obtain ⟨n, rfl, h1, h8, k⟩ := h
  walk_at "T"
  refine ⟨_, (pss_cons (ps_set (i := 1) sc_ends_for.nd rfl (Or.inl rfl) pe_int)  (pss_cons (ps_while passG (pt_cmpR og_lt (pv 1) (pv 0) (nomark _))  (pss_one (ps_set (i := 1) sc_ends_for.nd rfl (Or.inl rfl) (pe_op og_mul (pv 1) pe_int))))  (pss_one (ps_ret (pv 1))))), ?_⟩
  walk_at "go"
  refine ⟨fun m σ H' => ∃ e : Nat, σ = [some (.int n), some (.int e)] ∧ H' = H ∧ (e = 1 ∨ e = 2 ∨ e = 4 ∨ e = 8) ∧ e ≤ cntOf n ∧ m = 16 - e, ⟨_, 1, rfl, rfl, by omega, (by have := cnt_pos n; omega), rfl⟩, ?_⟩
  rintro m σ H' ⟨e, rfl, rfl, he, hle, rfl⟩
  walk_at "go"
  refine ite2 (fun h => ?_) (fun h => ?_)
  · refine rd_N ?_
    walk_at "go"
    have := cnt_step he h8 (by omega)
    refine ⟨mul_okR (by decide) (by decide), _, ?_, e * 2, by push_cast; rfl, by have := cnt_pos n; omega, this, rfl⟩
    omega
  · walk_at "go"
    rw [cnt_end he (by omega) hle]
    exact k
theorem c_ends_for (T : Txt K mg a) : Cal P w K mg base "ends_for" 1 ["ways"] [] spEnds := T.h_ends_for.cal (ok_ends_for T)
def segI (lo : Int) (n : Nat) : List Int := (List.range n).map fun (i : Nat) => lo + (i : Int)
theorem segI_len (lo : Int) (n : Nat) : (segI lo n).length = n := by simp [segI]
theorem segI_at {lo : Int} {n i : Nat} (h : i < n) : (segI lo n)[i]? = some (lo + i) := by simp [segI, h]
theorem segI_two (lo : Int) (n : Nat) : segI lo (2 * (n + 1)) = segI lo (2 * n) ++ [lo + 2 * n, lo + 2 * n + 1] := by
  rw [show 2 * (n + 1) = 2 * n + 1 + 1 by omega]
  simp only [segI, List.range_succ, List.map_append, List.map_cons, List.map_nil, List.append_assoc, List.cons_append, List.nil_append]
  push_cast
  congr 3
  omega
def parters (r : Int) (n : Nat) : List Row := (List.range n).map fun (i : Nat) => ⟨.parter, [r + i], [r + 2 * i + 1, r + 2 * i + 2], 0, []⟩
theorem parters_succ (r : Int) (n : Nat) : parters r (n + 1) = parters r n ++ [⟨.parter, [r + n], [r + 2 * n + 1, r + 2 * n + 2], 0, []⟩] := by
  simp [parters, List.range_succ]
theorem parters_len (r : Int) (n : Nat) : (parters r n).length = n := by simp [parters]
theorem iv_len (ns : List Int) : (iv ns).length = ns.length := by rw [iv, List.length_map]
theorem iv_at {ns : List Int} {i : Nat} {x : V} (h : (iv ns)[i]? = some x) : ∃ n, ns[i]? = some n ∧ x = .int n := by
  rw [iv, List.getElem?_map, Option.map_eq_some_iff] at h
  obtain ⟨n, h1, h2⟩ := h
  exact ⟨n, h1, h2.symm⟩
def spGrow (a : Ad) : Sp := fun vs H Q _ => ∃ (r : Int) (c : Nat) (L : Addr) (kv : List V) (rs : List Row), vs = [.int r, .int c, .ref L] ∧ (c = 1 ∨ c = 2 ∨ c = 4 ∨ c = 8) ∧ H L = some (.lst kv) ∧ kv.length ≤ 100 ∧ Kns a H (fun b => b ≠ L) kv rs ∧
  ∀ H' e kv', Own H H' L → H e = none → H' L = some (.lst (kv ++ kv')) → H' e = some (.lst (iv (segI (r + (c : Int) - 1) c))) → Kns a H' (fun b => b ≠ L ∧ b ≠ e) (kv ++ kv') (rs ++ parters r (c - 1)) → Q (.ref e) H'
theorem ok_grow_tree (T : Txt K mg a) {f : Addr} {fd : FuncData} (F : Fun K "grow_tree" "grow_tree" s_grow_tree f fd) : FnOk P w K mg base (CXr P w) 4 f fd ["root", "count", "knots"] (spGrow a) := by
  refine F.okx sc_grow_tree (fun vs H Q E h => ?_) (fun cdv A outer s H vs Q E hr h => ?_)
  · obtain ⟨_, _, _, _, _, rfl, _⟩ := h; rfl
  obtain ⟨r, c, L, kv, rs, rfl, hc, hL, hkl, hK, k⟩ := h
  walk_at "T"
  refine ⟨_, (pss_cons (ps_set (i := 3) sc_grow_tree.nd rfl (Or.inl rfl) (pe_lst (pa_cons (pv 0) pa_nil)))  (pss_cons (ps_set (i := 4) sc_grow_tree.nd rfl (Or.inl rfl) (pv 0))  (pss_cons (ps_while passG (pt_cmpR og_lt (pe_bi bi_len bo_len (pa_cons (pv 3) pa_nil)) (pv 1) (nomark _))  (pss_cons (ps_set (i := 5) sc_grow_tree.nd rfl (Or.inl rfl) (pe_lst pa_nil))  (pss_cons (ps_for passG rfl (pi_seq (pv 3)) (pg_name (i := 6) sc_grow_tree.nd rfl (Or.inl rfl))  (pss_cons (ps_expr (pe_bm PySem.F.plainAttrs_list PySem.F.slot_list_append PySem.F.type_list_append mt_append (pv 2) (pa_cons (pe_mk ⟨rfl, rfl, rfl⟩ hr (pa_cons (pv 6) (pa_cons (pe_lst (pa_cons (pe_op og_add (pv 4) pe_int) (pa_cons (pe_op og_add (pv 4) pe_int) pa_nil))) pa_nil))) pa_nil)))  (pss_cons (ps_expr (pe_bm PySem.F.plainAttrs_list PySem.F.slot_list_extend PySem.F.type_list_extend mt_extend (pv 5) (pa_cons (pe_lst (pa_cons (pe_op og_add (pv 4) pe_int) (pa_cons (pe_op og_add (pv 4) pe_int) pa_nil))) pa_nil)))  (pss_one (ps_aug (i := 4) sc_grow_tree.nd rfl (Or.inl rfl) pe_int ip_add)))))  (pss_one (ps_set (i := 3) sc_grow_tree.nd rfl (Or.inl rfl) (pv 5))))))  (pss_one (ps_ret (pv 3)))))), ?_⟩
  walk_at "go"
  intro e0 he0
  have nL0 : L ≠ e0 := ne_of_none hL he0
  walk_at "go"
  refine ⟨fun m σ H' => ∃ (q : Nat) (e : Addr) (kv' : List V), ∃ v5 v6, σ = [some (.int r), some (.int c), some (.ref L), some (.ref e), some (.int (r + 2 * (q : Int))), v5, v6] ∧ (q = 0 ∨ q = 1 ∨ q = 3 ∨ q = 7) ∧ q + 1 ≤ c ∧ Own H H' L ∧ H e = none ∧ H' L = some (.lst (kv ++ kv')) ∧
    H' e = some (.lst (iv (segI (r + q) (q + 1)))) ∧ Kns a H' (fun b => b ≠ L ∧ b ≠ e) (kv ++ kv') (rs ++ parters r q) ∧ m = 100 - q, ⟨_, 0, e0, [], none, none, ?_, by omega, by omega, Same.own (same_upd he0), he0, ?_, ?_, ?_, rfl⟩, ?_⟩
  · simp
  · rw [List.append_nil, upd_ne nL0]; exact hL
  · rw [upd_same]; simp [segI, iv]
  · have e : kv ++ [] = kv := List.append_nil _
    rw [e, show rs ++ parters r 0 = rs by simp [parters]]
    refine hK.keep fun b o hp hb => ⟨⟨hp, ne_of_none hb he0⟩, upd_keep hb he0⟩
  rintro m σ H1 ⟨q, e, kv', v5, v6, rfl, hq, hqc, o1, hen, hL1, he1, hK1, rfl⟩
  walk_at "go"
  refine ⟨_, .inl ⟨_, SqL.of he1, rfl⟩, ?_⟩
  rw [iv_len, segI_len]
  walk_at "go"
  refine ite2 (fun h => ?_) (fun h => ?_)
  rotate_left
  · have ec : c = q + 1 := by omega
    subst ec
    walk_at "go"
    refine k H1 e kv' o1 hen hL1 ?_ ?_
    · rw [show r + ((q + 1 : Nat) : Int) - 1 = r + q by omega]; exact he1
    · rw [show q + 1 - 1 = q by omega]; exact hK1
  refine rd_N ?_
  walk_at "go"
  intro g hg
  have nLg : L ≠ g := ne_of_none hL1 hg
  have neg : e ≠ g := ne_of_none he1 hg
  have neL : e ≠ L := fun z => by rw [z, hL] at hen; cases hen
  have hgn : H g = none := by
    cases z : H g with
    | none => rfl
    | some o => rw [o1 g o (Ne.symm nLg) z] at hg; cases hg
  walk_at "go"
  walk_at "for"
  walk_at "go"
  refine ⟨e, rfl, .inl ⟨⟨_, SqL.of (upd_keep he1 hg)⟩, ?_⟩⟩
  refine for_L (K := K) (a := e) (xs := iv (segI (r + q) (q + 1))) (fun i σ H2 => ∃ kv2 : List V, ∃ v6, σ = [some (.int r), some (.int c), some (.ref L), some (.ref e), some (.int (r + 2 * ((q + i : Nat) : Int))), some (.ref g), v6] ∧ Own H H2 L ∧ H2 e = some (.lst (iv (segI (r + q) (q + 1)))) ∧
    H2 g = some (.lst (iv (segI (r + 2 * q + 1) (2 * i)))) ∧ H2 L = some (.lst (kv ++ kv2)) ∧ Kns a H2 (fun b => b ≠ L ∧ b ≠ e ∧ b ≠ g) (kv ++ kv2) (rs ++ parters r (q + i)))
    ⟨kv', v6, by simp, o1.trans (Same.own (same_upd hg)), upd_keep he1 hg, by rw [upd_same]; simp [segI, iv], upd_keep hL1 hg, hK1.keep fun b o hp hb => ⟨⟨hp.1, hp.2, ne_of_none hb hg⟩, upd_keep hb hg⟩⟩ (fun i σ H' _ ⟨_, _, _, _, h, _⟩ => SqL.of h) ?_ ?_
  · rintro i x σ H2 hi ⟨kv2, v6, rfl, o2, he2, hg2, hL2, hK2⟩
    have hil : i < q + 1 := by
      have := (List.getElem?_eq_some_iff.mp hi).1
      rw [iv_len, segI_len] at this
      exact this
    obtain ⟨n, hn, rfl⟩ := iv_at hi
    rw [segI_at hil] at hn
    cases hn
    have hlen := hK2.len
    rw [List.length_append, List.length_append, parters_len, ← hK.len] at hlen
    walk_at "go"
    refine ⟨.inl ⟨rfl, _, SqL.of hL2⟩, a.Parter, _, _, _, (k_Parter T).mono, fun b1 hb1 => ?_⟩
    intro z dz hz hdz hne
    refine ⟨z, dz, b1, _, _, rfl, upd_same, SqL.of (new_keep hz hdz upd_same), ne_of_none upd_same hz, ?_⟩
    rw [if_pos (by simp)]
    intro H3 m1 m2 s' g1 g2 g3 n1 n2
    have s3 : Same (upd H2 b1 (.lst [.int (r + 2 * ((q + i : Nat) : Int) + 1), .int (r + 2 * ((q + i : Nat) : Int) + 2)])) H3 := Own.of_new hz hdz s'
    have s23 : Same H2 H3 := (same_upd hb1).trans s3
    have f1 : H2 m1 = none := upd_none (new_none n1)
    have f2 : H2 m2 = none := upd_none (new_none n2)
    have f0 : H2 z = none := upd_none hz
    have hLd := s23 _ _ hL2
    refine ⟨rfl, ?_⟩
    walk_at "go"
    refine ⟨L, _, _, rfl, rfl, hLd, small1000 (by rw [List.length_append]; omega), ?_⟩
    have hz3 : KnP a H3 (fun b => b ≠ L ∧ b ≠ e ∧ b ≠ g) (.ref z) ⟨.parter, [r + q + i], [r + 2 * ((q + i : Nat) : Int) + 1, r + 2 * ((q + i : Nat) : Int) + 2], 0, []⟩ := by
      have nn : ∀ {b : Addr}, H2 b = none → b ≠ L ∧ b ≠ e ∧ b ≠ g := fun {b} hb => ⟨(ne_of_none hL2 hb).symm, (ne_of_none he2 hb).symm, (ne_of_none hg2 hb).symm⟩
      exact ⟨z, dz, m1, m2, z, _, rfl, nn f0, nn f1, nn f2, (fun z => nomatch z), g1, kf_ins, kf_outs, kf_no (by decide +kernel) (by decide +kernel), g2, g3, (fun z => nomatch z), (fun z => by rcases z with z | z <;> cases z)⟩
    have hK3 : Kns a (upd H3 L (.lst (kv ++ kv2 ++ [.ref z]))) (fun b => b ≠ L ∧ b ≠ e ∧ b ≠ g) (kv ++ (kv2 ++ [.ref z])) (rs ++ parters r (q + (i + 1))) := by
      rw [show q + (i + 1) = q + i + 1 by omega, parters_succ, ← List.append_assoc, ← List.append_assoc]
      refine Kns.append (hK2.keep fun b o hp hb => ⟨hp, by rw [upd_ne hp.1]; exact s23 _ _ hb⟩) (Kns.one ?_)
      rw [show r + ((q + i : Nat) : Int) = r + q + i by omega]
      exact hz3.keep fun b o hp hb => ⟨hp, by rw [upd_ne hp.1]; exact hb⟩
    have o3 : Own H (upd H3 L (.lst (kv ++ kv2 ++ [.ref z]))) L := (o2.trans (Same.own s23)).trans own_upd
    have he3 : upd H3 L (.lst (kv ++ kv2 ++ [.ref z])) e = some (.lst (iv (segI (r + q) (q + 1)))) := by rw [upd_ne neL]; exact s23 _ _ he2
    have hg3 : upd H3 L (.lst (kv ++ kv2 ++ [.ref z])) g = some (.lst (iv (segI (r + 2 * q + 1) (2 * i)))) := by rw [upd_ne (Ne.symm nLg)]; exact s23 _ _ hg2
    have hL3 : upd H3 L (.lst (kv ++ kv2 ++ [.ref z])) L = some (.lst (kv ++ (kv2 ++ [.ref z]))) := by rw [upd_same, List.append_assoc]
    generalize upd H3 L (.lst (kv ++ kv2 ++ [.ref z])) = H4 at hK3 o3 he3 hg3 hL3 ⊢
    refine ⟨.inl ⟨rfl, _, SqL.of hg3⟩, fun b2 hb2 => ?_⟩
    refine ⟨g, b2, _, _, rfl, rfl, upd_keep hg3 hb2, upd_same, ?_, ?_⟩
    · refine Nat.le_of_lt (small1000 ?_)
      rw [iv_len, segI_len]
      simp
      omega
    walk_at "go"
    refine ⟨kv2 ++ [.ref z], some (.int (r + q + i)), ?_, ?_, ?_, ?_, ?_, ?_⟩
    · simp only [List.cons.injEq, Option.some.injEq, V.int.injEq, and_true, true_and]
      push_cast
      omega
    · exact fun b o hb h => by rw [upd_ne (fun z => by rw [z, hgn] at h; cases h)]; exact upd_keep (o3 b o hb h) hb2
    · rw [upd_ne neg]; exact upd_keep he3 hb2
    · rw [upd_same, segI_two, ← iv_app]
      have q1 : r + 2 * ((q + i : Nat) : Int) + 1 = r + 2 * q + 1 + 2 * i := by push_cast; omega
      have q2 : r + 2 * ((q + i : Nat) : Int) + 2 = r + 2 * q + 1 + 2 * i + 1 := by push_cast; omega
      rw [q1, q2]
      rfl
    · rw [upd_ne nLg]; exact upd_keep hL3 hb2
    · exact hK3.keep fun b o hp hb => ⟨hp, by rw [upd_ne hp.2.2]; exact upd_keep hb hb2⟩
  · rintro σ H2 ⟨kv2, v6, rfl, o2, he2, hg2, hL2, hK2⟩
    rw [iv_len, segI_len] at hg2 hK2 ⊢
    walk_at "go"
    refine ⟨100 - (2 * q + 1), by omega, 2 * q + 1, g, kv2, some (.ref g), v6, ?_, by omega, by omega, o2, hgn, hL2, ?_, ?_, rfl⟩
    · simp only [List.cons.injEq, Option.some.injEq, V.int.injEq, and_true, true_and]
      push_cast
      omega
    · rw [show r + ((2 * q + 1 : Nat) : Int) = r + 2 * q + 1 by omega, show 2 * q + 1 + 1 = 2 * (q + 1) by omega]; exact hg2
    · rw [show 2 * q + 1 = q + (q + 1) by omega]
      exact hK2.keep fun b o hp hb => ⟨⟨hp.1, hp.2.2⟩, hb⟩
theorem c_grow_tree (T : Txt K mg a) : Cal P w K mg base "grow_tree" 4 ["root", "count", "knots"] [] (spGrow a) := T.h_grow_tree.cal (ok_grow_tree T)
def cellF (ns : List Int) (k : Nat) : Int := ns.getD k 0
def spCell (K : PySem.W.Frag) : Sp := fun vs H Q _ => ∃ (l : Addr) (ns : List Int) (k : Nat), vs = [.ref l, .int k] ∧ SqL K H l (ns.map V.int) ∧ Q (.int (cellF ns k)) H
theorem ok_L_cell (T : Txt K mg a) {f : Addr} {fd : FuncData} (F : Fun K "_law_cell" "_law_cell" s_L_cell f fd) : FnOk P w K mg base (CXr P w) 1 f fd ["_law_cells", "_law_k"] (spCell K) := by
  refine F.okx sc_L_cell (fun vs H Q E h => ?_) (fun cdv A outer s H vs Q E hr h => ?_)
  · obtain ⟨a, ns, k, rfl, _⟩ := h; rfl
  obtain ⟨l, ns, n, rfl, hl, k⟩ := h
  walk_at "T"
  refine ⟨_, (pss_cons (ps_if (pt_cmpR og_lt (pv 1) (pe_bi bi_len bo_len (pa_cons (pv 0) pa_nil)) (nomark _))  (pss_one (ps_ret (pe_ix ix_any (pv 0) (pv 1) (fun _ _ => rfl))))  pss_nil)  (pss_one (ps_ret pe_int))), ?_⟩
  walk_at "go"
  refine ⟨_, .inl ⟨_, hl, rfl⟩, ?_⟩
  walk_at "r"
  rw [List.length_map]
  refine ite2 (fun h => ?_) (fun h => ?_)
  · have h : n < ns.length := by omega
    refine rd_ixL hl (atI_nat (by rw [List.getElem?_map, List.getElem?_eq_getElem h]; rfl)) ?_
    have e : ns[n] = cellF ns n := by simp [cellF, h]
    rw [e]; exact k
  · have e : cellF ns n = 0 := by
      have h : ns.length ≤ n := by omega
      simp [cellF, h]
    rw [e] at k
    walk_at "r"
    exact k
theorem c_L_cell (T : Txt K mg a) : Cal P w K mg base "_law_cell" 1 ["_law_cells", "_law_k"] [] (spCell K) := T.h_L_cell.cal (ok_L_cell T)
def rootOf (n : Nat) : Int := if cntOf n = n then 0 else 1
def endsOf (n : Nat) : List Int := segI (rootOf n + (cntOf n : Int) - 1) (cntOf n)
def joinR (n : Nat) : List Row := if n < cntOf n then [⟨.joiner, 0 :: (endsOf n).drop n, [rootOf n], 0, []⟩] else []
def drainR (e : Int) : Row := ⟨.drain, [e], [], 1, []⟩
def rowsA (n : Nat) (pc : Int) (ks : List Int) : List Row := [⟨.source, [], [0], pc, ks⟩] ++ parters (rootOf n) (cntOf n - 1)
def rowsFor (n : Nat) (pc : Int) (ks : List Int) : List Row := rowsA n pc ks ++ joinR n ++ ((endsOf n).take n).map drainR
def nbOf (n : Nat) : Nat := (rootOf n).toNat + 2 * (cntOf n - 1) + 1
abbrev twoOne : Int × Int := (2, 1)
def WorkAt (a : Ad) (H : Hp) (y : Addr) (bs : List (Int × Int)) (rs : List Row) : Prop := ∃ dx l1 l2 bvs kvs, H y = some (.ins a.Work dx (wf l1 l2)) ∧ H l1 = some (.lst bvs) ∧ H l2 = some (.lst kvs) ∧ Bts a H (fun _ => True) bvs bs ∧ Kns a H (fun _ => True) kvs rs
abbrev paceOk (ws pc : Int) : Prop := (1 ≤ ws ∧ ws ≤ 8) ∧ 2 ≤ pc ∧ pc ≤ 4
abbrev kindsOk (ks : List Int) : Prop := 1 ≤ ks.length ∧ ks.length ≤ 6 ∧ Kinds ks
theorem eight {n : Nat} (h1 : 1 ≤ n) (h8 : n ≤ 8) : n = 1 ∨ n = 2 ∨ n = 3 ∨ n = 4 ∨ n = 5 ∨ n = 6 ∨ n = 7 ∨ n = 8 := by omega
theorem rows_fed {n : Nat} (h1 : 1 ≤ n) (h8 : n ≤ 8) (pc : Int) (ks : List Int) : (fedOf (rowsFor n pc ks)).Perm (rgI (nbOf n)) := by
  rcases eight h1 h8 with rfl | rfl | rfl | rfl | rfl | rfl | rfl | rfl <;> exact List.isPerm_iff.mp rfl
theorem rows_taken {n : Nat} (h1 : 1 ≤ n) (h8 : n ≤ 8) (pc : Int) (ks : List Int) : (takenOf (rowsFor n pc ks)).Perm (rgI (nbOf n)) := by
  rcases eight h1 h8 with rfl | rfl | rfl | rfl | rfl | rfl | rfl | rfl <;> exact List.isPerm_iff.mp rfl
theorem rows_len {n : Nat} (h1 : 1 ≤ n) (h8 : n ≤ 8) (pc : Int) (ks : List Int) : 1 ≤ (rowsFor n pc ks).length ∧ (rowsFor n pc ks).length ≤ 24 := by
  rcases eight h1 h8 with rfl | rfl | rfl | rfl | rfl | rfl | rfl | rfl <;> exact ⟨Nat.le_of_ble_eq_true rfl, Nat.le_of_ble_eq_true rfl⟩
theorem nb_len {n : Nat} (h1 : 1 ≤ n) (h8 : n ≤ 8) : 1 ≤ nbOf n ∧ nbOf n ≤ 24 := by
  rcases eight h1 h8 with rfl | rfl | rfl | rfl | rfl | rfl | rfl | rfl <;> exact ⟨Nat.le_of_ble_eq_true rfl, Nat.le_of_ble_eq_true rfl⟩
theorem rgI_len (n : Nat) : (rgI n).length = n := by simp [rgI]
theorem rows_ok {n : Nat} (h1 : 1 ≤ n) (h8 : n ≤ 8) {pc : Int} {ks : List Int} (hp : 1 ≤ pc ∧ pc ≤ 4) (hk : kindsOk ks) : ∀ r ∈ rowsFor n pc ks, r.ok := by
  intro r hr
  unfold rowsFor rowsA at hr
  rcases List.mem_append.mp hr with hr | hr
  · rcases List.mem_append.mp hr with hr | hr
    · rcases List.mem_append.mp hr with hr | hr
      · rw [List.mem_singleton.mp hr]
        exact ⟨rfl, ⟨_, rfl⟩, hp.1, hp.2, hk.1, hk.2.1, hk.2.2⟩
      · obtain ⟨i, _, rfl⟩ := List.mem_map.mp hr
        exact ⟨⟨_, rfl⟩, by simp, by simp⟩
    · unfold joinR at hr
      split at hr
      · rw [List.mem_singleton.mp hr]
        refine ⟨⟨_, rfl⟩, ?_⟩
        simp only [List.length_cons, List.length_drop, endsOf, segI_len]
        rename_i hlt
        have := cnt_pos n
        unfold cntOf at *
        split at hlt <;> (try split at hlt) <;> (try split at hlt) <;> constructor <;> (try split) <;> (try split) <;> (try split) <;> omega
      · simp at hr
  · obtain ⟨e, _, rfl⟩ := List.mem_map.mp hr
    exact ⟨⟨_, rfl⟩, rfl, by simp [drainR], by simp [drainR]⟩
theorem ends_last {n : Nat} (h1 : 1 ≤ n) (h8 : n ≤ 8) : atI (iv (endsOf n)) (-1) = some (.int ((nbOf n : Int) - 1)) := by
  rcases eight h1 h8 with rfl | rfl | rfl | rfl | rfl | rfl | rfl | rfl <;> rfl
def spEven (a : Ad) : Sp := fun vs H Q E => ∃ (kl : Addr) (ws pc : Int) (ks : List Int), vs = [.int ws, .ref kl, .int pc] ∧ H kl = some (.lst (iv ks)) ∧ (¬ paceOk ws pc → E (.ref a.BadPaces) none H) ∧ (paceOk ws pc → ¬ kindsOk ks → ∀ H', Same H H' → E (.ref a.BadKnot) none H') ∧
  (paceOk ws pc → kindsOk ks → ∀ y H', Same H H' → WorkAt a H' y (List.replicate (nbOf ws.toNat) twoOne) (rowsFor ws.toNat pc ks) → Q (.ref y) H')
theorem cut_from (ns : List Int) (n : Nat) : cutV (iv ns) (some (n : Int)) none = iv (ns.drop n) := by
  unfold cutV
  rw [HT.sIx_none, HT.sIx_nat, iv, iv, List.length_map, List.map_drop]
  rcases Nat.le_total n ns.length with h | h
  · rw [Nat.min_eq_left h, List.take_of_length_le (by simp)]
  · rw [Nat.min_eq_right h, List.drop_of_length_le (by simp), List.drop_of_length_le (by simp; omega)]
    simp
theorem cut_to (ns : List Int) (n : Nat) : cutV (iv ns) none (some (n : Int)) = iv (ns.take n) := by
  unfold cutV
  rw [HT.sIx_none, HT.sIx_nat, iv, iv, List.length_map, List.map_take]
  simp only [List.drop_zero, Nat.sub_zero]
  rcases Nat.le_total n ns.length with h | h
  · rw [Nat.min_eq_left h]
  · rw [Nat.min_eq_right h, List.take_of_length_le (by simp), List.take_of_length_le (by simp; omega)]
theorem join_len {n : Nat} (h1 : 1 ≤ n) (h8 : n ≤ 8) : cntOf n - n ≤ 3 := by
  rcases eight h1 h8 with rfl | rfl | rfl | rfl | rfl | rfl | rfl | rfl <;> decide
theorem ok_even_work (T : Txt K mg a) {f : Addr} {fd : FuncData} (F : FunD K "even_work" "even_work" s_even_work f fd) : FnOk P w K mg base (CXr P w) 7 f fd ["ways", "kinds", "pace"] (spEven a) := by
  refine F.okx sc_even_work (fun vs H Q E h => ?_) (fun cdv A outer s H vs Q E hr h => ?_)
  · obtain ⟨_, _, _, _, rfl, _⟩ := h; rfl
  obtain ⟨kl, ws, pc, ks, rfl, hkl, kp, kk, kok⟩ := h
  obtain ⟨t1, g1⟩ := T.g_MOST_EVEN_WAYS
  obtain ⟨t2, g2⟩ := T.g_LEAST_EVEN_PACE
  obtain ⟨t3, g3⟩ := T.g_MOST_PACE
  walk_at "T"
  refine ⟨_, (pss_cons (ps_if (pt_not (pt_chain op_le op_le pe_int (pv 0) pe_gl))  (pss_one (ps_raise ⟨rfl, rfl, rfl⟩ rfl (pa_cons pe_str pa_nil)))  pss_nil)  (pss_cons (ps_if (pt_not (pt_chain op_le op_le pe_gl (pv 2) pe_gl))  (pss_one (ps_raise ⟨rfl, rfl, rfl⟩ rfl (pa_cons pe_str pa_nil)))  pss_nil)  (pss_cons (ps_set (i := 3) sc_even_work.nd rfl (Or.inl rfl) (pe_lst (pa_cons (pe_mk ⟨rfl, rfl, rfl⟩ hr (pa_cons pe_int (pa_cons (pv 2) (pa_cons (pv 1) pa_nil)))) pa_nil)))  (pss_cons (ps_set (i := 4) sc_even_work.nd rfl (Or.inl rfl) (pe_cl ⟨rfl, rfl, rfl⟩ hr (pa_cons (pv 0) pa_nil)))  (pss_cut (ps_set (i := 5) sc_even_work.nd rfl (Or.inl rfl) (pe_ifExp (pt_cmpR (og_eq hr.units1) (pv 4) (pv 0) (nomark _)) pe_int pe_int))  (pss_cons (ps_set (i := 6) sc_even_work.nd rfl (Or.inl rfl) (pe_cl ⟨rfl, rfl, rfl⟩ hr (pa_cons (pv 5) (pa_cons (pv 4) (pa_cons (pv 3) pa_nil)))))  (pss_cut (ps_if (pt_cmpR og_gt (pv 4) (pv 0) (nomark _))  (pss_one (ps_expr (pe_bm PySem.F.plainAttrs_list PySem.F.slot_list_append PySem.F.type_list_append mt_append (pv 3) (pa_cons (pe_mk ⟨rfl, rfl, rfl⟩ hr (pa_cons (pe_op og_add (pe_lst (pa_cons pe_int pa_nil)) (pe_slice sl_any (pv 6) (po_some (pv 0)) po_none)) (pa_cons (pv 5) pa_nil))) pa_nil))))  pss_nil)  (pss_cons (ps_expr (pe_bm PySem.F.plainAttrs_list PySem.F.slot_list_extend PySem.F.type_list_extend mt_extend (pv 3) (pa_cons (pe_lc (vars := ["end"]) (caps := []) (N := ["end"]) (ON := ["ways", "kinds", "pace", "knots", "count", "root", "ends"]) (osc := defScope s_even_work) rfl rfl (by first | decide +kernel | kernel_rfl) rfl rfl (pi_seq (pe_slice sl_any (pv 6) po_none (po_some (pv 0)))) (fun s H fp pins => (pg_name (i := 0) (show (["end"] : List Str).Nodup from by decide +kernel) rfl (Or.inl rfl))) (fun s H fp pins => pif_nil) (fun s H fp pins => (pe_mkN hr (pa_cons (pv 0) (pa_cons pe_int pa_nil))))) pa_nil)))  (pss_one (ps_ret (pe_mk ⟨rfl, rfl, rfl⟩ hr (pa_cons (pe_lc (vars := ["belt"]) (caps := []) (N := ["belt"]) (ON := ["ways", "kinds", "pace", "knots", "count", "root", "ends"]) (osc := defScope s_even_work) rfl rfl (by first | decide +kernel | kernel_rfl) rfl rfl (pi_rg1 (pa_cons (pe_op og_add (pe_ix ix_any (pv 6) (pe_un un_neg pe_int) (fun _ _ => rfl)) pe_int) pa_nil)) (fun s H fp pins => (pg_name (i := 0) (show (["belt"] : List Str).Nodup from by decide +kernel) rfl (Or.inl rfl))) (fun s H fp pins => pif_nil) (fun s H fp pins => (pe_mkN hr (pa_cons pe_int (pa_cons pe_int pa_nil))))) (pa_cons (pv 3) pa_nil))))))))))))), ?_⟩
  walk_at "go"
  have bad : ¬ paceOk ws pc → ∃ C, mg "BadPaces" = some (Value.ref C) ∧ XC K C ∧ E (Value.ref C) none H := fun h => ⟨a.BadPaces, T.g_BadPaces, T.X_BadPaces, kp h⟩
  refine ite2 (fun b1 => ?_) (fun b1 => bad (by unfold paceOk; omega))
  refine ⟨.int 8, _, g1, ⟨_, rfl⟩, ?_⟩
  walk_at "go"
  refine ite2 (fun b2 => bad (by unfold paceOk; omega)) (fun b2 => ?_)
  walk_at "go"
  refine ⟨.int 2, _, g2, ⟨_, rfl⟩, ?_⟩
  walk_at "go"
  refine ite2 (fun b3 => ?_) (fun b3 => bad (by unfold paceOk; omega))
  refine ⟨.int 4, _, g3, ⟨_, rfl⟩, ?_⟩
  walk_at "go"
  refine ite2 (fun b4 => bad (by unfold paceOk; omega)) (fun b4 => ?_)
  have po : paceOk ws pc := by unfold paceOk; omega
  obtain ⟨n, rfl⟩ : ∃ n : Nat, ws = n := ⟨ws.toNat, by omega⟩
  have kk' := kk po
  have kok' := kok po
  rw [Int.toNat_natCast] at kok'
  clear bad kp kk kok
  have hn1 : 1 ≤ n := by omega
  have hn8 : n ≤ 8 := by omega
  walk_at "go"
  refine ⟨a.Source, _, _, _, (k_Source T).mono, ?_⟩
  intro z dz hz hdz hne
  refine ⟨z, dz, kl, .int 0, pc, ks, rfl, upd_same, SqL.of (new_keep hz hdz hkl), ne_of_none hkl hz, fun ok H1 m1 m2 m3 s1 e1 e2 e3 e4 n1 n2 n3 => ⟨rfl, ?_⟩, fun nb => kk' (fun z => nb ⟨by omega, by omega, z.1, z.2.1, z.2.2⟩) _ (new_same hz hdz)⟩
  have kok := kok' ⟨ok.2.2.1, ok.2.2.2.1, ok.2.2.2.2⟩
  have s1 : Same H H1 := Own.of_new hz hdz s1
  have hKn : KnP a H1 (New H) (.ref z) ⟨.source, [], [0], pc, ks⟩ := ⟨z, dz, m1, m2, m3, _, rfl, hz, new_none n1, new_none n2, fun _ => new_none n3, e1, sf_ins, sf_outs, sf_no (by decide +kernel) (by decide +kernel) (by decide +kernel) (by decide +kernel), e2, e3, fun _ => ⟨sf_kinds, e4⟩, fun _ => sf_pace⟩
  clear e1 e2 e3 e4 n1 n2 n3
  walk_at "go"
  intro L hL
  have hLn : H L = none := same_none s1 hL
  walk_at "go"
  refine ⟨_, _, _, (c_ends_for T).mono, n, rfl, hn1, hn8, ?_⟩
  walk_at "go"
  have s2 : Same H (upd H1 L (.lst [.ref z])) := s1.trans (same_upd hL)
  have hL2 : upd H1 L (.lst [.ref z]) L = some (.lst [.ref z]) := upd_same
  have hK2 : Kns a (upd H1 L (.lst [.ref z])) (fun b => b ≠ L) [.ref z] [⟨.source, [], [0], pc, ks⟩] := Kns.one (hKn.keep fun b o hp hb => ⟨ne_of_none hb hL, upd_keep hb hL⟩)
  generalize upd H1 L (.lst [.ref z]) = H2 at s2 hL2 hK2 ⊢
  refine cut (fun σ' H' => σ' = [some (.int n), some (.ref kl), some (.int pc), some (.ref L), some (.int (cntOf n)), some (.int (rootOf n)), none] ∧ H' = H2) ?_ ?_
  · walk_at "go"
    refine ite2 (fun b => ?_) (fun b => ?_)
    · walk_at "go"
      rw [show rootOf n = 0 from if_pos (by omega)]
    · walk_at "go"
      rw [show rootOf n = 1 from if_neg (by omega)]
  rintro σ' H' ⟨rfl, rfl⟩
  walk_at "go"
  refine ⟨_, _, _, (c_grow_tree T).mono, rootOf n, cntOf n, L, _, _, rfl, cnt_pos n, hL2, by simp, hK2, fun H3 e kv' o3 hen hL3 he3 hK3 => ?_⟩
  have hen0 : H e = none := same_none s2 hen
  have s3 : Same H H3 := fun b o hb => o3 b o (fun z => by rw [z, hLn] at hb; cases hb) (s2 _ _ hb)
  have neL : e ≠ L := fun z => by rw [z, hL2] at hen; cases hen
  walk_at "go"
  refine cut (fun σ' H' => ∃ kv2, σ' = [some (.int n), some (.ref kl), some (.int pc), some (.ref L), some (.int (cntOf n)), some (.int (rootOf n)), some (.ref e)] ∧ Same H H' ∧ H' e = some (.lst (iv (endsOf n))) ∧ H' L = some (.lst kv2) ∧ Kns a H' (fun b => b ≠ L ∧ b ≠ e) kv2 (rowsA n pc ks ++ joinR n)) ?_ ?_
  · walk_at "go"
    refine ite2 (fun b => ?_) (fun b => ?_)
    · walk_at "go"
      refine ⟨.inl ⟨rfl, _, SqL.of hL3⟩, a.Joiner, _, _, _, (k_Joiner T).mono, fun q1 hq1 => ?_⟩
      have hlt : n < cntOf n := by omega
      have jl := join_len hn1 hn8
      have hkl3 := hK3.len
      rw [List.length_append, List.length_append, parters_len] at hkl3
      have hc8 := cnt_pos n
      refine rd_slL (SqL.of (upd_keep he3 hq1)) fun q2 hq2 => ?_
      rw [cut_from]
      refine .inr (.inr ⟨q1, q2, _, _, rfl, rfl, SqL.of (upd_keep upd_same hq2), SqL.of upd_same, Nat.le_of_lt (small1000 (by simp only [iv_len, List.length_drop, segI_len, List.length_cons, List.length_nil]; omega)), fun q3 hq3 => ?_⟩)
      have sq : Same H3 (upd (upd (upd H3 q1 (.lst [.int 0])) q2 (.lst (iv ((segI (rootOf n + (cntOf n : Int) - 1) (cntOf n)).drop n)))) q3 (.lst ([V.int 0] ++ iv ((segI (rootOf n + (cntOf n : Int) - 1) (cntOf n)).drop n)))) := (same_upd hq1).trans ((same_upd hq2).trans (same_upd hq3))
      have hq : upd (upd (upd H3 q1 (.lst [.int 0])) q2 (.lst (iv ((segI (rootOf n + (cntOf n : Int) - 1) (cntOf n)).drop n)))) q3 (.lst ([V.int 0] ++ iv ((segI (rootOf n + (cntOf n : Int) - 1) (cntOf n)).drop n))) q3 = some (.lst (iv (0 :: (endsOf n).drop n))) := upd_same
      generalize upd (upd (upd H3 q1 (.lst [.int 0])) q2 (.lst (iv ((segI (rootOf n + (cntOf n : Int) - 1) (cntOf n)).drop n)))) q3 (.lst ([V.int 0] ++ iv ((segI (rootOf n + (cntOf n : Int) - 1) (cntOf n)).drop n))) = Hq at sq hq ⊢
      intro z2 dz2 hz2 hdz2 _
      refine ⟨z2, dz2, q3, .int (rootOf n), _, rfl, upd_same, SqL.of (new_keep hz2 hdz2 hq), ne_of_none hq hz2, ?_⟩
      rw [if_pos (by rw [iv_len, List.length_cons, List.length_drop, endsOf, segI_len]; omega)]
      intro H4 m4 m5 s' f1 f2 f3 n4 n5
      have s4 : Same H3 H4 := sq.trans (Own.of_new hz2 hdz2 s')
      have nn : ∀ {b : Addr}, Hq b = none → b ≠ L ∧ b ≠ e := fun {b} hb => ⟨fun z => (by rw [z, sq _ _ hL3] at hb; cases hb), fun z => (by rw [z, sq _ _ he3] at hb; cases hb)⟩
      have hz4 : KnP a H4 (fun b => b ≠ L ∧ b ≠ e) (.ref z2) ⟨.joiner, 0 :: (endsOf n).drop n, [rootOf n], 0, []⟩ := ⟨z2, dz2, m4, m5, z2, _, rfl, nn hz2, nn (new_none n4), nn (new_none n5), (fun z => nomatch z), f1, kf_ins, kf_outs, kf_no (by decide +kernel) (by decide +kernel), f2, f3, (fun z => nomatch z), (fun z => by rcases z with z | z <;> cases z)⟩
      refine ⟨rfl, L, _, _, rfl, rfl, s4 _ _ hL3, small1000 (by rw [List.length_append, hkl3]; simp only [List.length_cons, List.length_nil]; omega), _, ?_, ?_, upd_same, ?_⟩
      · exact fun b o hb => by rw [upd_ne (fun z => by rw [z, hLn] at hb; cases hb)]; exact s4 _ _ (s3 _ _ hb)
      · rw [upd_ne neL]; exact s4 _ _ he3
      · rw [show joinR n = [⟨.joiner, 0 :: (endsOf n).drop n, [rootOf n], 0, []⟩] from if_pos hlt]
        exact Kns.append (hK3.keep fun b o hp hb => ⟨hp, by rw [upd_ne hp.1]; exact s4 _ _ hb⟩) (Kns.one (hz4.keep fun b o hp hb => ⟨hp, by rw [upd_ne hp.1]; exact hb⟩))
    · walk_at "go"
      rw [show joinR n = [] from if_neg (by omega), List.append_nil]
      exact ⟨_, s3, he3, hL3, hK3⟩
  rintro σ' H4 ⟨kv2, rfl, s4, he4, hL4, hK4⟩
  have hc8 := cnt_pos n
  have hnb := nb_len hn1 hn8
  have hrl := rows_len hn1 hn8 pc ks
  have hlen4 := hK4.len
  have hlenR : (rowsFor n pc ks).length = (rowsA n pc ks ++ joinR n).length + ((endsOf n).take n).length := by
    unfold rowsFor; rw [List.length_append, List.length_map]
  clear hK3 he3 hL3 o3 s3 hK2 hL2 s2 hKn s1
  walk_at "go"
  refine ⟨.inl ⟨rfl, _, SqL.of hL4⟩, ?_⟩
  walk_at "lc"
  walk_at "go"
  refine rd_slL (SqL.of he4) fun q1 hq1 => ?_
  rw [cut_to]
  have s5 : Same H4 (upd H4 q1 (.lst (iv ((endsOf n).take n)))) := same_upd hq1
  have h5 : upd H4 q1 (.lst (iv ((endsOf n).take n))) q1 = some (.lst (iv ((endsOf n).take n))) := upd_same
  generalize upd H4 q1 (.lst (iv ((endsOf n).take n))) = H5 at s5 h5 ⊢
  refine ⟨q1, rfl, .inl ⟨⟨_, SqL.of h5⟩, fun _ _ _ _ acc hacc => ?_⟩⟩
  refine for_L (K := K) (a := q1) (xs := iv ((endsOf n).take n)) (fun i σ H' => ∃ v us, σ = [v] ∧ Same H5 H' ∧ H' acc = some (.lst us) ∧ Kns a H' (fun b => H5 b = none ∧ b ≠ acc) us ((((endsOf n).take n).take i).map drainR)) ⟨_, [], rfl, same_upd hacc, upd_same, by rw [List.take_zero]; exact .nil⟩ (fun i σ H' _ ⟨_, _, _, s, _⟩ => SqL.of (s _ _ h5)) ?_ ?_
  · rintro i x σ H' hi ⟨v, us, rfl, s6, e1, hU⟩
    obtain ⟨ev, hev, rfl⟩ := iv_at hi
    have hil : i < ((endsOf n).take n).length := (List.getElem?_eq_some_iff.mp hev).1
    walk_at "go"
    refine ⟨a.Drain, _, _, _, (k_Drain T).mono, ?_⟩
    intro z2 dz2 hz2 hdz2 _
    refine ⟨z2, dz2, .int ev, 1, rfl, upd_same, ?_⟩
    rw [if_pos ⟨by decide, by decide⟩]
    intro H6 m4 m5 s' f1 f2 f3 n4 n5
    have s7 : Same H' H6 := Own.of_new hz2 hdz2 s'
    have nn : ∀ {b : Addr}, H' b = none → H5 b = none ∧ b ≠ acc := fun {b} hb => ⟨same_none s6 hb, fun z => by rw [z, e1] at hb; cases hb⟩
    have hz6 : KnP a H6 (fun b => H5 b = none ∧ b ≠ acc) (.ref z2) (drainR ev) := ⟨z2, dz2, m4, m5, z2, _, rfl, nn hz2, nn (new_none n4), nn (new_none n5), (fun z => nomatch z), f1, df_ins, df_outs, df_no (by decide +kernel) (by decide +kernel) (by decide +kernel), f2, f3, (fun z => nomatch z), fun _ => df_pace⟩
    refine ⟨rfl, _, s7 _ _ e1, small1000 (by have := hU.len; rw [List.length_map, List.length_take] at this; omega), _, us ++ [.ref z2], rfl, fun b o hb => ?_, upd_same, ?_⟩
    · rw [upd_ne (ne_of_none hb hacc)]; exact s7 _ _ (s6 _ _ hb)
    · rw [List.take_add_one, hev, List.map_append]
      exact Kns.append (hU.keep fun b o hp hb => ⟨hp, by rw [upd_ne hp.2]; exact s7 _ _ hb⟩) (Kns.one (hz6.keep fun b o hp hb => ⟨hp, by rw [upd_ne hp.2]; exact hb⟩))
  rintro σ H6 ⟨v, us, rfl, s6, e1, hU⟩
  rw [iv_len, List.take_length] at hU
  have s46 := s5.trans s6
  have hlenU := hU.len
  rw [List.length_map] at hlenU
  refine ⟨L, acc, _, _, rfl, rfl, s46 _ _ hL4, e1, Nat.le_of_lt (small1000 (by omega)), ?_⟩
  have n5L : ∀ {b : Addr}, H5 b = none → b ≠ L := fun {b} hb z => by rw [z, s5 _ _ hL4] at hb; cases hb
  have s7 : Same H (upd H6 L (.lst (kv2 ++ us))) := fun b o hb => by rw [upd_ne (fun z => by rw [z, hLn] at hb; cases hb)]; exact s46 _ _ (s4 _ _ hb)
  have hL7 : upd H6 L (.lst (kv2 ++ us)) L = some (.lst (kv2 ++ us)) := upd_same
  have he7 : upd H6 L (.lst (kv2 ++ us)) e = some (.lst (iv (endsOf n))) := by rw [upd_ne neL]; exact s46 _ _ he4
  have hK7 : Kns a (upd H6 L (.lst (kv2 ++ us))) (fun b => b ≠ L) (kv2 ++ us) (rowsFor n pc ks) := Kns.append (hK4.keep fun b o hp hb => ⟨hp.1, by rw [upd_ne hp.1]; exact s46 _ _ hb⟩) (hU.keep fun b o hp hb => ⟨n5L hp.1, by rw [upd_ne (n5L hp.1)]; exact hb⟩)
  generalize upd H6 L (.lst (kv2 ++ us)) = H7 at s7 hL7 he7 hK7 ⊢
  clear hU e1 s6 s46 h5 s5 hK4 hL4 he4 s4
  walk_at "go"
  refine ⟨a.Work, _, _, _, (k_Work T).mono, ?_⟩
  walk_at "lc"
  walk_at "go"
  refine rd_ixL (SqL.of he7) (ends_last hn1 hn8) ?_
  walk_at "go"
  refine ⟨by omega, by omega, fun _ _ _ _ ac2 hac2 => ?_⟩
  rw [show ((nbOf n : Int) - 1 + 1).toNat = nbOf n by omega]
  refine for_R (fun i σ H' => ∃ v us2, σ = [v] ∧ Same H7 H' ∧ H' ac2 = some (.lst us2) ∧ Bts a H' (fun b => H7 b = none ∧ b ≠ ac2) us2 (List.replicate i twoOne)) ⟨_, [], rfl, same_upd hac2, upd_same, .nil⟩ ?_ ?_
  · rintro i σ H' hi ⟨v, us2, rfl, s8, e2, hV⟩
    walk_at "go"
    refine ⟨a.Belt, _, _, _, (k_Belt T).mono, ?_⟩
    intro z2 dz2 hz2 hdz2 _
    refine ⟨z2, dz2, 2, 1, rfl, upd_same, ?_⟩
    rw [if_pos (by decide), upd_upd]
    have sN : Same H' (upd (upd H' dz2 (.own z2)) z2 (.ins a.Belt dz2 (bf 2 1))) := fun b o h => by rw [upd_ne (ne_of_none h hz2), upd_ne (ne_of_none h hdz2)]; exact h
    have hz' : upd (upd H' dz2 (.own z2)) z2 (.ins a.Belt dz2 (bf 2 1)) z2 = some (.ins a.Belt dz2 (bf 2 1)) := upd_same
    generalize upd (upd H' dz2 (.own z2)) z2 (.ins a.Belt dz2 (bf 2 1)) = H8 at sN hz' ⊢
    have hzn : z2 ≠ ac2 := fun q => by rw [q, e2] at hz2; cases hz2
    refine ⟨rfl, _, sN _ _ e2, small1000 (by have := hV.len; rw [List.length_replicate] at this; omega), _, us2 ++ [.ref z2], rfl, fun b o hb => ?_, upd_same, ?_⟩
    · rw [upd_ne (ne_of_none hb hac2)]; exact sN _ _ (s8 _ _ hb)
    · rw [← List.replicate_succ, List.replicate_succ']
      exact Bts.push (hV.keep fun b o hp hb => ⟨hp, by rw [upd_ne hp.2]; exact sN _ _ hb⟩) ⟨z2, dz2, _, rfl, ⟨same_none s8 hz2, hzn⟩, by rw [upd_ne hzn]; exact hz', bf_room, bf_pace⟩
  rintro σ H8 ⟨v, us2, rfl, s8, e2, hV⟩
  walk_at "go"
  intro y dy hy hdy _
  have nL2 : ac2 ≠ L := fun z => by rw [z, hL7] at hac2; cases hac2
  refine ⟨y, dy, ac2, L, us2, kv2 ++ us, List.replicate (nbOf n) twoOne, rowsFor n pc ks, fun b => b ≠ y, rfl, upd_same, ne_of_none e2 hy, ne_of_none (s8 _ _ hL7) hy, fun _ h => h, new_keep hy hdy e2, new_keep hy hdy (s8 _ _ hL7), hV.keep fun b o hp hb => ⟨ne_of_none hb hy, new_keep hy hdy hb⟩, hK7.keep fun b o hp hb => ⟨ne_of_none (s8 _ _ hb) hy, new_keep hy hdy (s8 _ _ hb)⟩, ?_, rows_ok hn1 hn8 ⟨by omega, by omega⟩ ⟨ok.2.2.1, ok.2.2.2.1, ok.2.2.2.2⟩, ?_, ?_, ?_, ?_, ?_⟩
  · intro b hb
    rw [(List.mem_replicate.mp hb).2]
    exact ⟨by decide, by decide, by decide, by decide⟩
  · rw [(rows_fed hn1 hn8 pc ks).length_eq, rgI_len]; omega
  · rw [(rows_taken hn1 hn8 pc ks).length_eq, rgI_len]; omega
  · rw [List.length_replicate]; omega
  · intro _ H9 l1 l2 bvs' kvs' o9 hy9 h1 h2 hB9 hK9 n1 n2
    refine ⟨rfl, kok y H9 ((s7.trans s8).trans (Own.of_new hy hdy o9)) ⟨dy, l1, l2, bvs', kvs', hy9, h1, h2, hB9.keep fun b o _ hb => ⟨True.intro, hb⟩, hK9.keep fun b o _ hb => ⟨True.intro, hb⟩⟩⟩
  · intro hbad
    refine absurd ⟨⟨?_, hrl⟩, ?_, ?_⟩ hbad
    · rw [List.length_replicate]; exact hnb
    · rw [List.length_replicate]; exact rows_fed hn1 hn8 pc ks
    · rw [List.length_replicate]; exact rows_taken hn1 hn8 pc ks
theorem c_even_work (T : Txt K mg a) : Cal P w K mg base "even_work" 7 ["ways", "kinds", "pace"] [] (spEven a) := T.h_even_work.cal (ok_even_work T)
theorem d_even_work (T : Txt K mg a) : Cal P w K mg base "even_work" 7 ["ways", "kinds", "pace"] [.int 2] (spEven a) := T.h_even_work.cald (ok_even_work T)
def spKinds : Sp := fun vs H Q _ => ∃ (l : Addr) (ns : List Int), vs = [.ref l] ∧ H l = some (.lst (iv ns)) ∧ ns.length ≤ 63 ∧ ∀ (ks : List Int) l2 H', Same H H' → H l2 = none → H' l2 = some (.lst (iv ks)) → ks.length ≤ 63 → Q (.ref l2) H'
theorem ok_L_kinds (T : Txt K mg a) {f : Addr} {fd : FuncData} (F : Fun K "_law_kinds" "_law_kinds" s_L_kinds f fd) : FnOk P w K mg base (CXr P w) 2 f fd ["_law_cells"] spKinds := by
  refine F.okx sc_L_kinds (fun vs H Q E h => ?_) (fun cdv A outer s H vs Q E hr h => ?_)
  · obtain ⟨_, _, rfl, _⟩ := h; rfl
  obtain ⟨l, ns, rfl, hl, hn, k⟩ := h
  walk_at "T"
  refine ⟨_, (pss_cons (ps_lc (i := 1) sc_L_kinds.nd rfl (Or.inl rfl) (vars := ["_law_cell_here"]) (caps := []) (N := ["_law_cell_here"]) (ON := ["_law_cells", "_law_kinds_here"]) (osc := defScope s_L_kinds) rfl rfl (by first | decide +kernel | kernel_rfl) rfl rfl (pi_seq (pe_slice sl_any (pv 0) (po_some pe_int) (po_some (pe_op og_add pe_int (pe_op op_mod (pe_op og_fdiv (pe_cl ⟨rfl, rfl, rfl⟩ hr (pa_cons (pv 0) (pa_cons pe_int pa_nil))) pe_int) pe_int))))) (fun s H fp pins => (pg_name (i := 0) (show (["_law_cell_here"] : List Str).Nodup from by decide +kernel) rfl (Or.inl rfl))) (fun s H fp pins => pif_nil) (fun s H fp pins => (pe_op op_mod (pv 0) (pe_op op_pow pe_int pe_int))))  (pss_cut (ps_if (PW.pt (pw_and (pt_cmpR og_gt (pe_bi bi_len bo_len (pa_cons (pv 1) pa_nil)) pe_int (nomark _)) (pw_and1 (pt_cmpR (og_eq hr.units1) (pe_op op_mod (pe_op og_fdiv (pe_cl ⟨rfl, rfl, rfl⟩ hr (pa_cons (pv 0) (pa_cons pe_int pa_nil))) pe_int) pe_int) pe_int (nomark _)))))  (pss_one (ps_asg (pe_ix ix_any (pe_lst (pa_cons (pe_op op_pow pe_int pe_int) (pa_cons (pe_un un_neg pe_int) pa_nil))) (pe_op op_mod (pe_op og_fdiv (pe_cl ⟨rfl, rfl, rfl⟩ hr (pa_cons (pv 0) (pa_cons pe_int pa_nil))) pe_int) pe_int) (fun _ _ => rfl)) (pg_sub (pv 1) (pe_op op_mod (pe_op og_fdiv (pe_cl ⟨rfl, rfl, rfl⟩ hr (pa_cons (pv 0) (pa_cons pe_int pa_nil))) pe_int) (pe_bi bi_len bo_len (pa_cons (pv 1) pa_nil))) set_list)))  pss_nil)  (pss_one (ps_ret (pv 1))))), ?_⟩
  walk_at "go"
  walk_at "lc"
  walk_at "go"
  refine ⟨_, _, _, c_L_cell T, l, ns, 0, rfl, SqL.of hl, ?_⟩
  walk_at "go"
  refine And.intro (fd_ok (by decide) (by decide +kernel)) ?_
  walk_at "go"
  obtain ⟨xs, hxs, hxl⟩ := cut_ints ns (some 2) (some (2 + cellF ns 0 / 5 % 9))
  refine rd_slL (SqL.of hl) fun q1 hq1 => ?_
  have hxs : cutV (iv ns) (some 2) (some (2 + cellF ns 0 / 5 % 9)) = iv xs := hxs
  rw [hxs]
  have h1 : upd H q1 (.lst (iv xs)) q1 = some (.lst (iv xs)) := upd_same
  have s1 : Same H (upd H q1 (.lst (iv xs))) := same_upd hq1
  generalize upd H q1 (.lst (iv xs)) = H1 at s1 h1 ⊢
  refine ⟨q1, rfl, .inl ⟨⟨_, SqL.of h1⟩, fun _ _ _ _ acc hacc => ?_⟩⟩
  refine for_L (K := K) (a := q1) (xs := iv xs) (fun i σ H' => ∃ v, ∃ ms : List Int, σ = [v] ∧ Same H1 H' ∧ ms.length = i ∧ H' acc = some (.lst (iv ms))) ⟨_, [], rfl, same_upd hacc, rfl, upd_same⟩ (fun i σ H' _ ⟨_, _, _, s, _⟩ => SqL.of (s _ _ h1)) ?_ ?_
  · rintro i x σ H' hi ⟨v, ms, rfl, s2, hm, ha⟩
    obtain ⟨n, hn', rfl⟩ := iv_at hi
    have hil : i < xs.length := (List.getElem?_eq_some_iff.mp hn').1
    walk_at "go"
    refine ⟨_, ha, by rw [iv_len]; exact small1000 (by omega), _, ms ++ [n % 1000000000000000000000000000000], rfl, (fun b o hb => by rw [upd_ne (ne_of_none hb hacc)]; exact s2 b o hb), by simp [hm], ?_⟩
    rw [upd_same, ← iv_app]; rfl
  rintro σ H2 ⟨v, ms, rfl, s2, hm, ha⟩
  rw [iv_len] at hm
  have sH := s1.trans s2
  have nacc : H acc = none := same_none s1 hacc
  walk_at "go"
  refine cut (fun σ' H' => ∃ ms' : List Int, σ' = [some (.ref l), some (.ref acc)] ∧ Same H H' ∧ ms'.length = ms.length ∧ H' acc = some (.lst (iv ms'))) ?_ ?_
  · walk_at "go"
    refine ⟨_, .inl ⟨_, SqL.of ha, rfl⟩, ?_⟩
    rw [iv_len]
    walk_at "go"
    refine ite2 (fun c1 => ?_) (fun c1 => ?_)
    rotate_left
    · walk_at "go"
      exact ⟨ms, sH, rfl, ha⟩
    refine ⟨_, _, _, c_L_cell T, l, ns, 1, rfl, SqL.of (sH _ _ hl), ?_⟩
    walk_at "go"
    refine And.intro (fd_ok (by decide) (by decide +kernel)) ?_
    walk_at "go"
    refine ite2 (fun c2 => ?_) (fun c2 => ?_)
    rotate_left
    · walk_at "go"
      exact ⟨ms, sH, rfl, ha⟩
    intro p hp
    have hl4 := upd_keep (o := .lst [V.int 1000000000000000000000000000000, V.int (-1)]) (sH _ _ hl) hp
    have ha4 := upd_keep (o := .lst [V.int 1000000000000000000000000000000, V.int (-1)]) ha hp
    have hp4 := upd_same (H := H2) (a := p) (o := .lst [V.int 1000000000000000000000000000000, V.int (-1)])
    have s4 := sH.trans (same_upd (o := .lst [V.int 1000000000000000000000000000000, V.int (-1)]) hp)
    generalize upd H2 p (.lst [V.int 1000000000000000000000000000000, V.int (-1)]) = H4 at hl4 ha4 hp4 s4 ⊢
    refine ⟨_, _, _, c_L_cell T, l, ns, 1, rfl, SqL.of hl4, ?_⟩
    walk_at "go"
    refine And.intro (fd_ok (by decide) (by decide +kernel)) ?_
    walk_at "go"
    generalize cellF ns 1 = c
    have hix : ∃ z, atI [V.int 1000000000000000000000000000000, V.int (-1)] (c / 84 % 2) = some (.int z) := by
      have h0 : c / 84 % 2 = 0 ∨ c / 84 % 2 = 1 := by omega
      rcases h0 with e | e <;> rw [e] <;> exact ⟨_, rfl⟩
    obtain ⟨z, hz⟩ := hix
    refine rd_ixL (SqL.of hp4) hz ?_
    walk_at "go"
    refine ⟨_, _, _, c_L_cell T, l, ns, 1, rfl, SqL.of hl4, ?_⟩
    walk_at "go"
    refine And.intro (fd_ok (by decide) (by decide +kernel)) ?_
    walk_at "go"
    refine ⟨_, .inl ⟨_, SqL.of ha4, rfl⟩, ?_⟩
    rw [iv_len]
    walk_at "go"
    generalize cellF ns 1 / 28 = c2
    have q0 := Int.emod_nonneg c2 (show (ms.length : Int) ≠ 0 by omega)
    have q1' := Int.emod_lt_of_pos c2 (show (0 : Int) < ms.length by omega)
    refine rd_setL ha4 (ixN_ok q0 (by rw [iv_len]; exact q1')) ?_
    refine ⟨ms.set (c2 % ms.length).toNat z, ?_, by simp, ?_⟩
    · exact fun b o hb => by rw [upd_ne (ne_of_none hb nacc)]; exact s4 _ _ hb
    · rw [upd_same, iv, iv, List.map_set]
  · rintro σ' H3 ⟨ms', rfl, s3, hl3, ha3⟩
    walk_at "go"
    exact k ms' acc H3 s3 nacc ha3 (by omega)
theorem c_L_kinds (T : Txt K mg a) : Cal P w K mg base "_law_kinds" 2 ["_law_cells"] [] spKinds := T.h_L_kinds.cal (ok_L_kinds T)
instance (ks : List Int) : Decidable (Kinds ks) := inferInstanceAs (Decidable (∀ n ∈ ks, 0 ≤ n ∧ n < kindLim))
def dueS (ws pc : Int) (ks : List Int) : Str := if paceOk ws pc then (if kindsOk ks then "made" else "kinds") else "paces"
def spDue : Sp := fun vs H Q _ => ∃ (kl : Addr) (ws pc : Int) (ks : List Int), vs = [.int ws, .ref kl, .int pc] ∧ H kl = some (.lst (iv ks)) ∧ ks.length ≤ 63 ∧ ∀ H', Same H H' → Q (.str (dueS ws pc ks)) H'
def kOk (n : Int) : Bool := decide (0 ≤ n ∧ n < kindLim)
theorem ok_L_due (T : Txt K mg a) {f : Addr} {fd : FuncData} (F : Fun K "_law_due" "_law_due" s_L_due f fd) : FnOk P w K mg base (CXr P w) 1 f fd ["_law_ways", "_law_kinds_here", "_law_pace"] spDue := by
  refine F.okx sc_L_due (fun vs H Q E h => ?_) (fun cdv A outer s H vs Q E hr h => ?_)
  · obtain ⟨_, _, _, _, rfl, _⟩ := h; rfl
  obtain ⟨kl, ws, pc, ks, rfl, hl, h63, k⟩ := h
  walk_at "T"
  refine ⟨_, (pss_cons (ps_if (PW.pt (pw_or (pt_not (pt_chain op_le op_le pe_int (pv 0) pe_int)) (pw_or1 (pt_not (pt_chain op_le op_le pe_int (pv 2) pe_int)))))  (pss_one (ps_ret pe_str))  pss_nil)  (pss_cons (ps_if (PW.pt (pw_or (pt_not (pt_chain op_le op_le pe_int (pe_bi bi_len bo_len (pa_cons (pv 1) pa_nil)) pe_int)) (pw_or1 (pt_not (pt_truth (pe_bi (bi_all rfl) bo_all (pa_cons (pe_lc (vars := ["_law_kind"]) (caps := []) (N := ["_law_kind"]) (ON := ["_law_ways", "_law_kinds_here", "_law_pace"]) (osc := defScope s_L_due) rfl rfl (by first | decide +kernel | kernel_rfl) rfl rfl (pi_seq (pv 1)) (fun s H fp pins => (pg_name (i := 0) (show (["_law_kind"] : List Str).Nodup from by decide +kernel) rfl (Or.inl rfl))) (fun s H fp pins => pif_nil) (fun s H fp pins => (pe_chain op_le og_lt pe_int (pv 0) (pe_op op_pow pe_int pe_int)))) pa_nil)) (fun _ => rfl))))))  (pss_one (ps_ret pe_str))  pss_nil)  (pss_one (ps_ret pe_str)))), ?_⟩
  walk_at "go"
  have bad : ¬ paceOk ws pc → ∀ H', Same H H' → Q (.str "paces") H' := fun h H' s => by
    have := k H' s
    unfold dueS at this
    rw [if_neg h] at this
    exact this
  refine ite2 (fun b1 => ?_) (fun b1 => bad (by unfold paceOk; omega) _ (Same.refl _))
  walk_at "go"
  refine ite2 (fun b2 => bad (by unfold paceOk; omega) _ (Same.refl _)) (fun b2 => ?_)
  walk_at "go"
  refine ite2 (fun b3 => ?_) (fun b3 => bad (by unfold paceOk; omega) _ (Same.refl _))
  walk_at "go"
  refine ite2 (fun b4 => bad (by unfold paceOk; omega) _ (Same.refl _)) (fun b4 => ?_)
  have po : paceOk ws pc := by unfold paceOk; omega
  have bad2 : ¬ kindsOk ks → ∀ H', Same H H' → Q (.str "kinds") H' := fun h H' s => by
    have := k H' s
    unfold dueS at this
    rw [if_pos po, if_neg h] at this
    exact this
  walk_at "go"
  refine ⟨_, .inl ⟨_, SqL.of hl, rfl⟩, ?_⟩
  rw [iv_len]
  walk_at "go"
  refine ite2 (fun c1 => ?_) (fun c1 => bad2 (fun z => c1 (by have := z.1; omega)) _ (Same.refl _))
  walk_at "go"
  refine ite2 (fun c2 => bad2 (fun z => by have := z.2.1; omega) _ (Same.refl _)) (fun c2 => ?_)
  walk_at "lc"
  walk_at "go"
  refine ⟨kl, rfl, .inl ⟨⟨_, SqL.of hl⟩, fun _ _ _ _ acc hacc => ?_⟩⟩
  refine for_L (K := K) (a := kl) (xs := iv ks) (fun i σ H' => ∃ v, σ = [v] ∧ Same H H' ∧ H' acc = some (.lst (((ks.take i).map kOk).map V.bl))) ⟨_, rfl, same_upd hacc, upd_same⟩ (fun i σ H' _ ⟨_, _, s, _⟩ => SqL.of (s _ _ hl)) ?_ ?_
  · rintro i x σ H' hi ⟨v, rfl, sH, ha⟩
    obtain ⟨n, hn, rfl⟩ := iv_at hi
    have fin : ∀ b : Bool, b = kOk n → (∃ xs, H' acc = some (.lst xs) ∧ xs.length < sizeLine ∧ ∃ v, [some (V.int n)] = [v] ∧ Same H (upd H' acc (.lst (xs ++ [.bl b]))) ∧ upd H' acc (.lst (xs ++ [.bl b])) acc = some (.lst (((ks.take (i + 1)).map kOk).map V.bl))) := fun b hb => by
      refine ⟨_, ha, by rw [List.length_map, List.length_map, List.length_take]; exact small1000 (by omega), _, rfl, (fun b o hb => by rw [upd_ne (ne_of_none hb hacc)]; exact sH b o hb), ?_⟩
      rw [upd_same, List.take_add_one, hn, hb]
      simp
    walk_at "go"
    refine ite2 (fun h0 => ?_) (fun h0 => ?_)
    · exact fin _ (by unfold kOk; rw [decide_eq_decide]; exact ⟨fun h => ⟨h0, h⟩, fun h => h.2⟩)
    · exact fin false (by unfold kOk; rw [decide_eq_false (fun h => h0 h.1)])
  · rintro σ H' ⟨v, rfl, sH, ha⟩
    rw [iv_len, List.take_length] at ha
    walk_at "go"
    refine ⟨acc, _, rfl, ha, ?_⟩
    have hall : (ks.map kOk).all id = decide (Kinds ks) := by
      rw [List.all_map]
      by_cases h : Kinds ks
      · rw [decide_eq_true h, List.all_eq_true]
        exact fun n hn => decide_eq_true (h n hn)
      · rw [decide_eq_false h]
        by_cases z : ks.all (id ∘ kOk) = true
        · exact absurd (fun n hn => of_decide_eq_true (List.all_eq_true.mp z n hn)) h
        · simpa using z
    rw [hall]
    walk_at "go"
    refine ite2 (fun h => bad2 (fun z => h z.2.2) _ sH) (fun h => ?_)
    have := k H' sH
    unfold dueS at this
    rw [if_pos po, if_pos ⟨by omega, by omega, Decidable.of_not_not h⟩] at this
    exact this
theorem c_L_due (T : Txt K mg a) : Cal P w K mg base "_law_due" 1 ["_law_ways", "_law_kinds_here", "_law_pace"] [] spDue := T.h_L_due.cal (ok_L_due T)
def spMade (a : Ad) : Sp := fun vs H Q _ => ∃ (kl : Addr) (n : Nat) (pc : Int) (ks : List Int) (o : Bool), vs = [.int n, .ref kl, .int pc, .bl o] ∧ H kl = some (.lst (iv ks)) ∧ paceOk n pc ∧ kindsOk ks ∧ (o = true → pc = 2) ∧ ∀ y H', Same H H' → WorkAt a H' y (List.replicate (nbOf n) twoOne) (rowsFor n pc ks) → Q (.ref y) H'
theorem ok_L_made (T : Txt K mg a) {f : Addr} {fd : FuncData} (F : Fun K "_law_made" "_law_made" s_L_made f fd) : FnOk P w K mg base (CXr P w) 8 f fd ["_law_ways", "_law_kinds_here", "_law_pace", "_law_out"] (spMade a) := by
  refine F.okx sc_L_made (fun vs H Q E h => ?_) (fun cdv A outer s H vs Q E hr h => ?_)
  · obtain ⟨_, _, _, _, _, rfl, _⟩ := h; rfl
  obtain ⟨kl, n, pc, ks, o, rfl, hl, po, ko, ho, k⟩ := h
  walk_at "T"
  refine ⟨_, (pss_cons (ps_if (pt_truth (pv 3) (fun _ => rfl))  (pss_one (ps_ret (pe_cl ⟨rfl, rfl, rfl⟩ hr (pa_cons (pv 0) (pa_cons (pv 1) pa_nil)))))  pss_nil)  (pss_one (ps_ret (pe_cl ⟨rfl, rfl, rfl⟩ hr (pa_cons (pv 0) (pa_cons (pv 1) (pa_cons (pv 2) pa_nil))))))), ?_⟩
  walk_at "go"
  cases o with
  | true =>
    have := ho rfl
    subst this
    walk_at "go"
    refine ⟨_, _, _, (d_even_work T).mono, kl, n, 2, ks, rfl, hl, (fun z => absurd po z), (fun _ z => absurd ko z), fun _ _ y H' s hW => ?_⟩
    rw [Int.toNat_natCast] at hW
    exact k y H' s hW
  | false =>
    walk_at "go"
    refine ⟨_, _, _, (c_even_work T).mono, kl, n, pc, ks, rfl, hl, (fun z => absurd po z), (fun _ z => absurd ko z), fun _ _ y H' s hW => ?_⟩
    rw [Int.toNat_natCast] at hW
    exact k y H' s hW
theorem c_L_made (T : Txt K mg a) : Cal P w K mg base "_law_made" 8 ["_law_ways", "_law_kinds_here", "_law_pace", "_law_out"] [] (spMade a) := T.h_L_made.cal (ok_L_made T)
def spRefused : Sp := fun vs H Q _ => ∃ (kl : Addr) (ws pc : Int) (ks : List Int), vs = [.int ws, .ref kl, .int pc, .str (dueS ws pc ks)] ∧ H kl = some (.lst (iv ks)) ∧ ¬ (paceOk ws pc ∧ kindsOk ks) ∧ ∀ H', Same H H' → Q (.bl true) H'
theorem ok_L_refused (T : Txt K mg a) {f : Addr} {fd : FuncData} (F : Fun K "_law_refused" "_law_refused" s_L_refused f fd) : FnOk P w K mg base (CXr P w) 8 f fd ["_law_ways", "_law_kinds_here", "_law_pace", "_law_due_here"] spRefused := by
  refine F.okx sc_L_refused (fun vs H Q E h => ?_) (fun cdv A outer s H vs Q E hr h => ?_)
  · obtain ⟨_, _, _, _, rfl, _⟩ := h; rfl
  obtain ⟨kl, ws, pc, ks, rfl, hl, hno, k⟩ := h
  walk_at "T"
  refine ⟨_, (pss_cons (ps_set (i := 4) sc_L_refused.nd rfl (Or.inl rfl) pe_non)  (pss_cons (ps_try_as (i := 5) ⟨rfl, rfl, rfl⟩ rfl sc_L_refused.nd rfl rfl (fun pn G => (pss_one (ps_expr (pe_cl ⟨rfl, rfl, rfl⟩ hr (pa_cons (pv 0) (pa_cons (pv 1) (pa_cons (pv 2) pa_nil))))))) (fun pn a => (pss_one (ps_set (i := 4) sc_L_refused.nd rfl (Or.inl rfl) (pv 5)))))  (pss_cons (ps_if (pt_cmpR (og_eq hr.units1) (pv 3) pe_str (nomark _))  (pss_one (ps_ret (pe_and (pe_bi bi_isi bo_isinstance (pa_cons (pv 4) (pa_cons pe_gl pa_nil))) (pe_one (pe_not (pe_bi bi_isi bo_isinstance (pa_cons (pv 4) (pa_cons (pe_tup (pa_cons pe_gl (pa_cons pe_gl pa_nil))) pa_nil))))))))  pss_nil)  (pss_one (ps_ret (pe_and (pe_bi bi_isi bo_isinstance (pa_cons (pv 4) (pa_cons pe_gl pa_nil))) (pe_one (pe_not (pe_bi bi_isi bo_isinstance (pa_cons (pv 4) (pa_cons (pe_tup (pa_cons pe_gl (pa_cons pe_gl pa_nil))) pa_nil))))))))))), ?_⟩
  walk_at "go"
  refine ⟨a.WorkError, T.g_WorkError, T.S_WorkError, fun pn => ⟨_, _, _, (c_even_work T).mono, kl, ws, pc, ks, rfl, hl, fun np => ?_, fun po nk H1 s1 => ?_, fun po ko => absurd ⟨po, ko⟩ hno⟩⟩
  · refine ⟨a.BadPaces, rfl, T.E_BadPaces_WorkError, fun ex hex => ?_⟩
    walk_at "go"
    rw [show dueS ws pc ks = "paces" from if_neg np]
    walk_at "go"
    refine ⟨.ref a.BadPaces, _, T.g_BadPaces, rfl, isi_exc upd_same T.XI_BadPaces rfl T.k1_BadPaces_BadPaces ?_⟩
    walk_at "go"
    refine ⟨.ref a.BadKnot, _, T.g_BadKnot, rfl, .ref a.BadWork, _, T.g_BadWork, rfl, ?_⟩
    walk_at "go"
    intro pt hpt
    refine isi_excT (upd_keep upd_same hpt) T.XI_BadPaces upd_same rfl T.k1_BadPaces_BadKnot_BadWork ?_
    walk_at "go"
    exact k _ ((same_upd hex).trans (same_upd hpt))
  · refine ⟨a.BadKnot, rfl, T.E_BadKnot_WorkError, fun ex hex => ?_⟩
    walk_at "go"
    rw [show dueS ws pc ks = "kinds" by unfold dueS; rw [if_pos po, if_neg nk]]
    walk_at "go"
    refine ⟨.ref a.BadKnot, _, T.g_BadKnot, rfl, isi_exc upd_same T.XI_BadKnot rfl T.k1_BadKnot_BadKnot ?_⟩
    walk_at "go"
    refine ⟨.ref a.BadPaces, _, T.g_BadPaces, rfl, .ref a.BadWork, _, T.g_BadWork, rfl, ?_⟩
    walk_at "go"
    intro pt hpt
    refine isi_excT (upd_keep upd_same hpt) T.XI_BadKnot upd_same rfl T.k1_BadKnot_BadPaces_BadWork ?_
    walk_at "go"
    exact k _ (s1.trans ((same_upd hex).trans (same_upd hpt)))
theorem c_L_refused (T : Txt K mg a) : Cal P w K mg base "_law_refused" 8 ["_law_ways", "_law_kinds_here", "_law_pace", "_law_due_here"] [] spRefused := T.h_L_refused.cal (ok_L_refused T)
/-- lists of whole numbers at the addresses as -/
structure LL (H : Hp) (as : List Addr) (xss : List (List Int)) : Prop where
  len : as.length = xss.length
  r : ∀ (i : Nat) (b : Addr) (xs : List Int), as[i]? = some b → xss[i]? = some xs → H b = some (.lst (xs.map V.int))
theorem LL.nil {H : Hp} : LL H [] [] := ⟨rfl, fun i b xs h => by simp at h⟩
theorem LL.keep {H H' : Hp} {as : List Addr} {xss : List (List Int)} (h : LL H as xss) (s : ∀ b ∈ as, ∀ o, H b = some o → H' b = some o) : LL H' as xss :=
  ⟨h.len, fun i b xs e1 e2 => s b (List.mem_of_getElem? e1) _ (h.r i b xs e1 e2)⟩
theorem LL.same {H H' : Hp} {as : List Addr} {xss : List (List Int)} (h : LL H as xss) (s : Same H H') : LL H' as xss := h.keep fun b _ o => s b o
theorem LL.put {H : Hp} {as : List Addr} {xss : List (List Int)} {p : Addr} {o : HO} (h : LL H as xss) (n : ∀ b ∈ as, b ≠ p) : LL (upd H p o) as xss :=
  h.keep fun b hb o' e => by rw [upd_ne (n b hb)]; exact e
theorem LL.append {H : Hp} {as bs : List Addr} {xss yss : List (List Int)} (h : LL H as xss) (g : LL H bs yss) : LL H (as ++ bs) (xss ++ yss) := by
  refine ⟨by rw [List.length_append, List.length_append, h.len, g.len], fun i b xs e1 e2 => ?_⟩
  by_cases hi : i < as.length
  · rw [List.getElem?_append_left hi] at e1
    rw [List.getElem?_append_left (by rw [← h.len]; exact hi)] at e2
    exact h.r i b xs e1 e2
  · rw [List.getElem?_append_right (by omega)] at e1
    rw [List.getElem?_append_right (by rw [← h.len]; omega), ← h.len] at e2
    exact g.r _ b xs e1 e2
theorem LL.has {H : Hp} {as : List Addr} {xss : List (List Int)} (h : LL H as xss) {b : Addr} (hb : b ∈ as) : ∃ xs, xs ∈ xss ∧ H b = some (.lst (xs.map V.int)) := by
  obtain ⟨i, hi, e⟩ := List.getElem_of_mem hb
  have e1 : as[i]? = some b := by rw [List.getElem?_eq_getElem hi, e]
  have e2 : xss[i]? = some (xss[i]'(by rw [← h.len]; exact hi)) := List.getElem?_eq_getElem _
  exact ⟨_, List.mem_of_getElem? e2, h.r i b _ e1 e2⟩
theorem LL.at {H : Hp} {as : List Addr} {xss : List (List Int)} (h : LL H as xss) {i : Nat} {b : Addr} (hb : as[i]? = some b) : ∃ xs, xss[i]? = some xs ∧ H b = some (.lst (xs.map V.int)) := by
  have hi := (List.getElem?_eq_some_iff.mp hb).1
  have e2 : xss[i]? = some (xss[i]'(by rw [← h.len]; exact hi)) := List.getElem?_eq_getElem _
  exact ⟨_, e2, h.r i b _ hb e2⟩
theorem LL.one {H : Hp} {b : Addr} {xs : List Int} (h : H b = some (.lst (xs.map V.int))) : LL H [b] [xs] :=
  ⟨rfl, fun i c ys e1 e2 => by
    have hi := (List.getElem?_eq_some_iff.mp e1).1
    have : i = 0 := by simp at hi; omega
    subst this
    have e1 : b = c := by simpa using e1
    have e2 : xs = ys := by simpa using e2
    rw [← e1, ← e2]; exact h⟩
/-- a list of new lists, made since B -/
structure Grow (B H : Hp) (p : Addr) (as : List Addr) (xss : List (List Int)) : Prop where
  nb : B p = none
  sm : Same B H
  hp : H p = some (.lst (as.map V.ref))
  ll : LL H as xss
  fr : ∀ b ∈ as, B b = none ∧ b ≠ p
theorem none_of_same {B H : Hp} {p : Addr} (s : Same B H) (h : H p = none) : B p = none := by
  cases e : B p with
  | none => rfl
  | some o => rw [s _ _ e] at h; cases h
theorem Grow.new {B : Hp} {p : Addr} (h : B p = none) : Grow B (upd B p (.lst [])) p [] [] := ⟨h, same_upd h, upd_same, .nil, fun _ h => nomatch h⟩
theorem Grow.same {B H H' : Hp} {p : Addr} {as : List Addr} {xss : List (List Int)} (g : Grow B H p as xss) (s : Same H H') : Grow B H' p as xss := ⟨g.nb, g.sm.trans s, s _ _ g.hp, g.ll.same s, g.fr⟩
theorem Grow.older {B B' H : Hp} {p : Addr} {as : List Addr} {xss : List (List Int)} (g : Grow B H p as xss) (s : Same B' B) : Grow B' H p as xss := ⟨none_of_same s g.nb, s.trans g.sm, g.hp, g.ll, fun b hb => ⟨none_of_same s (g.fr b hb).1, (g.fr b hb).2⟩⟩
theorem Grow.more {B H : Hp} {p : Addr} {as bs : List Addr} {xss yss : List (List Int)} (g : Grow B H p as xss) (h : LL H bs yss) (hf : ∀ b ∈ bs, B b = none ∧ b ≠ p) : Grow B (upd H p (.lst (as.map V.ref ++ bs.map V.ref))) p (as ++ bs) (xss ++ yss) := by
  have hf' : ∀ b ∈ as ++ bs, B b = none ∧ b ≠ p := fun b hb => (List.mem_append.mp hb).elim (g.fr b) (hf b)
  refine ⟨g.nb, fun b o hb => ?_, by rw [upd_same, List.map_append], (g.ll.append h).put fun b hb => (hf' b hb).2, hf'⟩
  rw [upd_ne (ne_of_none hb g.nb)]; exact g.sm b o hb
theorem Grow.push {B H : Hp} {p b : Addr} {as : List Addr} {xss : List (List Int)} {xs : List Int} (g : Grow B H p as xss) (h : H b = some (.lst (xs.map V.int))) (hf : B b = none) (hn : b ≠ p) : Grow B (upd H p (.lst (as.map V.ref ++ [V.ref b]))) p (as ++ [b]) (xss ++ [xs]) :=
  g.more (.one h) fun c hc => by rw [List.mem_singleton.mp hc]; exact ⟨hf, hn⟩
def spOnce2 : Sp := fun vs H Q _ => ∃ (rl : Addr) (n : Nat) (as : List Addr) (xss : List (List Int)), vs = [.ref rl, .int n] ∧ H rl = some (.lst (as.map V.ref)) ∧ LL H as xss ∧ xss.flatten.length < 64 ∧ n ≤ 1000 ∧ xss.flatten.Perm (rgI n) ∧ ∀ H', Same H H' → Q (.bl true) H'
theorem flat_take_le2 (xss : List (List Int)) (i : Nat) : (xss.take i).flatten.length ≤ xss.flatten.length := by
  conv => rhs; rw [← List.take_append_drop i xss, List.flatten_append, List.length_append]
  omega
theorem ok_L_once (T : Txt K mg a) {f : Addr} {fd : FuncData} (F : Fun K "_law_once" "_law_once" s_L_once f fd) : FnOk P w K mg base (CXr P w) 1 f fd ["_law_rows", "_law_many"] spOnce2 := by
  refine F.okx sc_L_once (fun vs H Q E h => ?_) (fun cdv A outer s H vs Q E hr h => ?_)
  · obtain ⟨_, _, _, _, rfl, _⟩ := h; rfl
  obtain ⟨rl, n, as, xss, rfl, hl, hA, h64, hn, hp, k⟩ := h
  walk_at "T"
  refine ⟨_, (pss_cons (ps_set (i := 2) sc_L_once.nd rfl (Or.inl rfl) (pe_lst pa_nil))  (pss_cons (ps_for passG rfl (pi_seq (pv 0)) (pg_name (i := 3) sc_L_once.nd rfl (Or.inl rfl))  (pss_one (ps_set (i := 2) sc_L_once.nd rfl (Or.inl rfl) (pe_op og_add (pv 2) (pv 3)))))  (pss_one (ps_ret (pe_cmpR (og_eq hr.units1) (pe_bi bi_sorted bo_sorted (pa_cons (pv 2) pa_nil)) (pe_bt (bt_listR rfl) bo_list (pa_cons (pe_rg1 (pa_cons (pv 1) pa_nil)) pa_nil)) (nomark _)))))), ?_⟩
  walk_at "go"
  intro s0 hs0
  walk_at "for"
  walk_at "go"
  refine ⟨rl, rfl, .inl ⟨⟨_, SqL.of (upd_keep hl hs0)⟩, ?_⟩⟩
  refine for_L (K := K) (a := rl) (xs := as.map V.ref) (fun i σ H' => ∃ sl, ∃ v3, σ = [some (.ref rl), some (.int n), some (.ref sl), v3] ∧ Same H H' ∧ H' sl = some (.lst (iv (xss.take i).flatten))) ⟨s0, _, rfl, same_upd hs0, upd_same⟩ (fun i σ H' _ ⟨_, _, _, s, _⟩ => SqL.of (s _ _ hl)) ?_ ?_
  · rintro i x σ H' hi ⟨sl, v3, rfl, sH, hs⟩
    rw [List.getElem?_map, Option.map_eq_some_iff] at hi
    obtain ⟨b, hb, rfl⟩ := hi
    obtain ⟨xs, hx, hbx⟩ := hA.at hb
    have e1 : (xss.take (i + 1)).flatten = (xss.take i).flatten ++ xs := by rw [List.take_add_one, hx, List.flatten_append]; simp
    have L := flat_take_le2 xss (i + 1)
    rw [e1, List.length_append] at L
    walk_at "go"
    refine .inr (.inr ⟨sl, b, _, _, rfl, rfl, SqL.of hs, SqL.of (sH _ _ hbx), Nat.le_of_lt (small1000 (by rw [iv_len, List.length_map]; omega)), fun p hp => ⟨p, _, rfl, sH.trans (same_upd hp), ?_⟩⟩)
    rw [upd_same, e1, ← iv_app]; rfl
  · rintro σ H' ⟨sl, v3, rfl, sH, hs⟩
    rw [List.length_map, hA.len, List.take_length] at hs
    walk_at "go"
    refine ⟨sl, _, rfl, SqL.of hs, h64, fun ms q1 pm sm hq1 => ?_⟩
    walk_at "go"
    intro q2 hq2
    refine ⟨q2, 0, n, rfl, upd_same, ⟨by omega, by omega, by omega, by omega, by omega⟩, fun q3 hq3 => ?_⟩
    rw [show ((n : Int) - 0).toNat = n by omega, rgL_rgI]
    walk_at "go"
    refine rd_eqI2 (ms := ms) (ns := rgI n) (SqL.of (upd_keep (upd_keep upd_same hq2) hq3)) (SqL.of upd_same) ?_
    rw [decide_eq_true (sorted_eq _ _ (pm.trans hp) sm (rgI_sorted n))]
    exact k _ (sH.trans ((same_upd hq1).trans ((same_upd hq2).trans (same_upd hq3))))
theorem c_L_once (T : Txt K mg a) : Cal P w K mg base "_law_once" 1 ["_law_rows", "_law_many"] [] spOnce2 := T.h_L_once.cal (ok_L_once T)
theorem WT (T : Txt K mg a) (wd : Wd) : WI K (clsA a wd) := by
  cases wd
  · exact T.W_Source
  · exact T.W_Drain
  · exact T.W_Parter
  · exact T.W_Joiner
theorem kitS (T : Txt K mg a) (wd : Wd) : PySem.W.kitOne K (.ref (clsA a wd)) (.ref a.Source) = some (decide (wd = .source)) := by
  cases wd
  · exact T.k1_Source_Source
  · exact T.k1_Drain_Source
  · exact T.k1_Parter_Source
  · exact T.k1_Joiner_Source
theorem kitD (T : Txt K mg a) (wd : Wd) : PySem.W.kitOne K (.ref (clsA a wd)) (.ref a.Drain) = some (decide (wd = .drain)) := by
  cases wd
  · exact T.k1_Source_Drain
  · exact T.k1_Drain_Drain
  · exact T.k1_Parter_Drain
  · exact T.k1_Joiner_Drain
theorem kitP (T : Txt K mg a) (wd : Wd) : PySem.W.kitOne K (.ref (clsA a wd)) (.ref a.Parter) = some (decide (wd = .parter)) := by
  cases wd
  · exact T.k1_Source_Parter
  · exact T.k1_Drain_Parter
  · exact T.k1_Parter_Parter
  · exact T.k1_Joiner_Parter
theorem kitJ (T : Txt K mg a) (wd : Wd) : PySem.W.kitOne K (.ref (clsA a wd)) (.ref a.Joiner) = some (decide (wd = .joiner)) := by
  cases wd
  · exact T.k1_Source_Joiner
  · exact T.k1_Drain_Joiner
  · exact T.k1_Parter_Joiner
  · exact T.k1_Joiner_Joiner
theorem NP (T : Txt K mg a) {wd : Wd} (h : wd = .source ∨ wd = .drain) : NoAttr K (clsA a wd) "pace" := by
  rcases h with rfl | rfl
  · exact T.N_Source_pace
  · exact T.N_Drain_pace
/-- how many of a kind -/
def many (wd : Wd) (rs : List Row) : Int := ((rs.filter fun r => r.wd = wd).length : Nat)
theorem many_succ {rs : List Row} {i : Nat} {r : Row} (wd : Wd) (h : rs[i]? = some r) : many wd (rs.take (i + 1)) = many wd (rs.take i) + if r.wd = wd then 1 else 0 := by
  unfold many
  rw [List.take_add_one, h, List.filter_append, List.length_append]
  by_cases e : r.wd = wd
  · simp [e]
  · simp [e]
def goodRow (pc : Int) (ks : List Int) (r : Row) : Prop := match r.wd with
  | .source => r.pace = pc ∧ r.kinds = ks
  | .drain => r.pace = 1
  | .parter => r.outs.length = 2
  | .joiner => True
theorem rows_good (n : Nat) (pc : Int) (ks : List Int) : ∀ r ∈ rowsFor n pc ks, goodRow pc ks r := by
  intro r hr
  unfold rowsFor rowsA at hr
  rcases List.mem_append.mp hr with hr | hr
  · rcases List.mem_append.mp hr with hr | hr
    · rcases List.mem_append.mp hr with hr | hr
      · rw [List.mem_singleton.mp hr]
        exact ⟨rfl, rfl⟩
      · obtain ⟨i, _, rfl⟩ := List.mem_map.mp hr
        exact rfl
    · unfold joinR at hr
      split at hr
      · rw [List.mem_singleton.mp hr]
        exact True.intro
      · simp at hr
  · obtain ⟨e, _, rfl⟩ := List.mem_map.mp hr
    exact rfl
theorem rows_many {n : Nat} (h1 : 1 ≤ n) (h8 : n ≤ 8) (pc : Int) (ks : List Int) : many .source (rowsFor n pc ks) = 1 ∧ many .drain (rowsFor n pc ks) = n ∧ many .joiner (rowsFor n pc ks) ≤ 1 ∧ many .source (rowsFor n pc ks) + (many .drain (rowsFor n pc ks) + (many .parter (rowsFor n pc ks) + (many .joiner (rowsFor n pc ks) + 0))) = (rowsFor n pc ks).length := by
  rcases eight h1 h8 with rfl | rfl | rfl | rfl | rfl | rfl | rfl | rfl <;> exact ⟨rfl, rfl, of_decide_eq_true rfl, rfl⟩
def mv (rs : List Row) : List Int := [many .source rs, many .drain rs, many .parter rs, many .joiner rs]
def spGood (a : Ad) : Sp := fun vs H Q _ => ∃ (y kl : Addr) (n : Nat) (pc : Int) (ks : List Int), vs = [.ref y, .int n, .ref kl, .int pc] ∧ 1 ≤ n ∧ n ≤ 8 ∧ H kl = some (.lst (iv ks)) ∧ WorkAt a H y (List.replicate (nbOf n) twoOne) (rowsFor n pc ks) ∧ ∀ H', Same H H' → Q (.bl true) H'
theorem ok_L_good (T : Txt K mg a) {f : Addr} {fd : FuncData} (F : Fun K "_law_good" "_law_good" s_L_good f fd) : FnOk P w K mg base (CXr P w) 2 f fd ["_law_work", "_law_ways", "_law_kinds_here", "_law_pace"] (spGood a) := by
  refine F.okx sc_L_good (fun vs H Q E h => ?_) (fun cdv A outer s H vs Q E hr h => ?_)
  · obtain ⟨_, _, _, _, _, rfl, _⟩ := h; rfl
  obtain ⟨y, kl, n, pc, ks, rfl, h1, h8, hkl, ⟨dx, l1, l2, bvs, kvs, hy, hl1, hl2, hB, hKs⟩, k⟩ := h
  have hgood := rows_good n pc ks
  have hmany := rows_many h1 h8 pc ks
  have hfed := rows_fed h1 h8 pc ks
  have htak := rows_taken h1 h8 pc ks
  have hnb := nb_len h1 h8
  have hrl := rows_len h1 h8 pc ks
  have hbl := hB.len
  rw [List.length_replicate] at hbl
  generalize rowsFor n pc ks = rs at hKs hgood hmany hfed htak hrl
  walk_at "T"
  refine ⟨_, (pss_cons (ps_set (i := 4) sc_L_good.nd rfl (Or.inl rfl) (pe_lst (pa_cons pe_int (pa_cons pe_int (pa_cons pe_int (pa_cons pe_int pa_nil))))))  (pss_cut (ps_for passG rfl (pi_seq (pe_fld (pv 0) rfl)) (pg_name (i := 5) sc_L_good.nd rfl (Or.inl rfl))  (pss_one (ps_if (pt_truth (pe_bi bi_isi bo_isinstance (pa_cons (pv 5) (pa_cons pe_gl pa_nil))) (fun _ => rfl))  (pss_cons (ps_if (PW.pt (pw_or (pt_cmpR (og_ne hr.units1) (pe_fld (pv 5) rfl) (pv 3) (nomark _)) (pw_or1 (pt_cmpR (og_ne hr.units1) (pe_fld (pv 5) rfl) (pv 2) (nomark _)))))  (pss_one (ps_ret pe_bl))  pss_nil)  (pss_one (ps_asg (pe_op og_add (pe_ix ix_any (pv 4) pe_int (fun _ _ => rfl)) pe_int) (pg_sub (pv 4) pe_int set_list))))  (pss_one (ps_if (pt_truth (pe_bi bi_isi bo_isinstance (pa_cons (pv 5) (pa_cons pe_gl pa_nil))) (fun _ => rfl))  (pss_cons (ps_if (pt_cmpR (og_ne hr.units1) (pe_fld (pv 5) rfl) pe_int (nomark _))  (pss_one (ps_ret pe_bl))  pss_nil)  (pss_one (ps_asg (pe_op og_add (pe_ix ix_any (pv 4) pe_int (fun _ _ => rfl)) pe_int) (pg_sub (pv 4) pe_int set_list))))  (pss_one (ps_if (pt_truth (pe_bi bi_isi bo_isinstance (pa_cons (pv 5) (pa_cons pe_gl pa_nil))) (fun _ => rfl))  (pss_cons (ps_if (pt_cmpR (og_ne hr.units1) (pe_bi bi_len bo_len (pa_cons (pe_fld (pv 5) rfl) pa_nil)) pe_int (nomark _))  (pss_one (ps_ret pe_bl))  pss_nil)  (pss_one (ps_asg (pe_op og_add (pe_ix ix_any (pv 4) pe_int (fun _ _ => rfl)) pe_int) (pg_sub (pv 4) pe_int set_list))))  (pss_one (ps_if (pt_truth (pe_bi bi_isi bo_isinstance (pa_cons (pv 5) (pa_cons pe_gl pa_nil))) (fun _ => rfl))  (pss_one (ps_asg (pe_op og_add (pe_ix ix_any (pv 4) pe_int (fun _ _ => rfl)) pe_int) (pg_sub (pv 4) pe_int set_list)))  pss_nil)))))))))  (pss_cons (ps_if (PW.pt (pw_or (pt_cmpR (og_ne hr.units1) (pe_ix ix_any (pv 4) pe_int (fun _ _ => rfl)) pe_int (nomark _)) (pw_or (pt_cmpR (og_ne hr.units1) (pe_ix ix_any (pv 4) pe_int (fun _ _ => rfl)) (pv 1) (nomark _)) (pw_or (pt_cmpR og_gt (pe_ix ix_any (pv 4) pe_int (fun _ _ => rfl)) pe_int (nomark _)) (pw_or1 (pt_cmpR (og_ne hr.units1) (pe_bi (bi_sum rfl) bo_sum (pa_cons (pv 4) pa_nil)) (pe_bi bi_len bo_len (pa_cons (pe_fld (pv 0) rfl) pa_nil)) (nomark _)))))))  (pss_one (ps_ret pe_bl))  pss_nil)  (pss_cons (ps_if (pt_not (pt_truth (pe_cl ⟨rfl, rfl, rfl⟩ hr (pa_cons (pe_lc (vars := ["_law_knot"]) (caps := []) (N := ["_law_knot"]) (ON := ["_law_work", "_law_ways", "_law_kinds_here", "_law_pace", "_law_many", "_law_knot"]) (osc := defScope s_L_good) rfl rfl (by first | decide +kernel | kernel_rfl) rfl rfl (pi_seq (pe_fld (pv 0) rfl)) (fun s H fp pins => (pg_name (i := 0) (show (["_law_knot"] : List Str).Nodup from by decide +kernel) rfl (Or.inl rfl))) (fun s H fp pins => pif_nil) (fun s H fp pins => (pe_fld (pv 0) rfl))) (pa_cons (pe_bi bi_len bo_len (pa_cons (pe_fld (pv 0) rfl) pa_nil)) pa_nil))) (fun _ => rfl)))  (pss_one (ps_ret pe_bl))  pss_nil)  (pss_one (ps_ret (pe_cl ⟨rfl, rfl, rfl⟩ hr (pa_cons (pe_lc (vars := ["_law_knot"]) (caps := []) (N := ["_law_knot"]) (ON := ["_law_work", "_law_ways", "_law_kinds_here", "_law_pace", "_law_many", "_law_knot"]) (osc := defScope s_L_good) rfl rfl (by first | decide +kernel | kernel_rfl) rfl rfl (pi_seq (pe_fld (pv 0) rfl)) (fun s H fp pins => (pg_name (i := 0) (show (["_law_knot"] : List Str).Nodup from by decide +kernel) rfl (Or.inl rfl))) (fun s H fp pins => pif_nil) (fun s H fp pins => (pe_fld (pv 0) rfl))) (pa_cons (pe_bi bi_len bo_len (pa_cons (pe_fld (pv 0) rfl) pa_nil)) pa_nil))))))))), ?_⟩
  walk_at "go"
  intro ml hml
  have nml : ∀ {b : Addr} {o : HO}, H b = some o → b ≠ ml := fun h => ne_of_none h hml
  refine cut (fun σ' H' => ∃ v5, σ' = [some (.ref y), some (.int n), some (.ref kl), some (.int pc), some (.ref ml), v5] ∧ Same H H' ∧ H' ml = some (.lst (iv (mv rs)))) ?_ ?_
  · walk_at "for"
    walk_at "go"
    refine ⟨y, a.Work, dx, _, _, rfl, upd_keep hy hml, T.C_Work, T.N_Work_knots, wf_knots, l2, rfl, .inl ⟨⟨_, SqL.of (upd_keep hl2 hml)⟩, ?_⟩⟩
    refine for_L (K := K) (a := l2) (xs := kvs) (fun i σ H' => ∃ v5, σ = [some (.ref y), some (.int n), some (.ref kl), some (.int pc), some (.ref ml), v5] ∧ Same H H' ∧ H' ml = some (.lst (iv (mv (rs.take i))))) ⟨_, rfl, same_upd hml, upd_same⟩ (fun i σ H' _ ⟨_, _, s, _⟩ => SqL.of (s _ _ hl2)) ?_ ?_
    · rintro i x σ H' hi ⟨v5, rfl, sH, hm⟩
      obtain ⟨r, hr', y1, dx1, m1, m2, m3, fs, rfl, p0, p1, p2, p3, g0, f1, f2, f3, g1, g2, g3, g4⟩ := hKs.at hi
      have hg := hgood r (List.mem_of_getElem? hr')
      have M := fun wd => many_succ wd hr'
      obtain ⟨wd, ins, outs, pace, kinds⟩ := r
      have g0' := sH _ _ g0
      have fin : ∀ xs' : List V, xs' = iv (mv (rs.take (i + 1))) → ∃ v, ([some (V.ref y), some (.int n), some (.ref kl), some (.int pc), some (.ref ml), some (.ref y1)] : St) = [some (.ref y), some (.int n), some (.ref kl), some (.int pc), some (.ref ml), v] ∧ Same H (upd H' ml (.lst xs')) ∧ upd H' ml (.lst xs') ml = some (.lst (iv (mv (rs.take (i + 1))))) := fun xs' e => ⟨_, rfl, fun b o hb => by rw [upd_ne (nml hb)]; exact sH _ _ hb, by rw [upd_same, e]⟩
      walk_at "go"
      cases wd with
      | source =>
        obtain ⟨k1, k2⟩ := g3 rfl
        obtain ⟨hg1, hg2⟩ := hg
        refine ⟨.ref a.Source, _, T.g_Source, rfl, _, _, _, _, rfl, (WT T .source).ty (CT T .source) g0', .inl ⟨_, rfl, kitS T .source⟩, ?_⟩
        walk_at "go"
        refine ⟨y1, a.Source, dx1, fs, _, rfl, g0', T.C_Source, T.N_Source_pace, g4 (.inl rfl), ?_⟩
        simp only at hg1 hg2
        rw [hg1]
        walk_at "go"
        refine ⟨y1, a.Source, dx1, fs, _, rfl, g0', T.C_Source, T.N_Source_kinds, k1, ?_⟩
        refine rd_neI2 (SqL.of (sH _ _ k2)) (SqL.of (sH _ _ hkl)) ?_
        rw [decide_eq_true hg2]
        walk_at "go"
        refine rd_ixL (SqL.of hm) at0 ?_
        walk_at "go"
        refine rd_setL hm (ixN_ok (by decide) (by simp [iv, mv])) ?_
        exact fin _ (by simp [iv, mv, M])
      | drain =>
        refine ⟨.ref a.Source, _, T.g_Source, rfl, _, _, _, _, rfl, (WT T .drain).ty (CT T .drain) g0', .inl ⟨_, rfl, kitS T .drain⟩, ?_⟩
        walk_at "go"
        refine ⟨.ref a.Drain, _, T.g_Drain, rfl, _, _, _, _, rfl, (WT T .drain).ty (CT T .drain) g0', .inl ⟨_, rfl, kitD T .drain⟩, ?_⟩
        walk_at "go"
        refine ⟨y1, a.Drain, dx1, fs, _, rfl, g0', T.C_Drain, T.N_Drain_pace, g4 (.inr rfl), ?_⟩
        have hg1 : pace = 1 := hg
        rw [hg1]
        walk_at "go"
        refine rd_ixL (SqL.of hm) (show atI (iv (mv (rs.take i))) 1 = some (.int (many .drain (rs.take i))) from rfl) ?_
        walk_at "go"
        refine rd_setL hm (ixN_ok (by decide) (by simp [iv, mv])) ?_
        exact fin _ (by simp [iv, mv, M])
      | parter =>
        refine ⟨.ref a.Source, _, T.g_Source, rfl, _, _, _, _, rfl, (WT T .parter).ty (CT T .parter) g0', .inl ⟨_, rfl, kitS T .parter⟩, ?_⟩
        walk_at "go"
        refine ⟨.ref a.Drain, _, T.g_Drain, rfl, _, _, _, _, rfl, (WT T .parter).ty (CT T .parter) g0', .inl ⟨_, rfl, kitD T .parter⟩, ?_⟩
        walk_at "go"
        refine ⟨.ref a.Parter, _, T.g_Parter, rfl, _, _, _, _, rfl, (WT T .parter).ty (CT T .parter) g0', .inl ⟨_, rfl, kitP T .parter⟩, ?_⟩
        walk_at "go"
        refine ⟨y1, a.Parter, dx1, fs, _, rfl, g0', T.C_Parter, T.N_Parter_outs, f2, _, .inl ⟨_, SqL.of (sH _ _ g2), rfl⟩, ?_⟩
        have hg1 : outs.length = 2 := hg
        rw [iv_len, hg1]
        walk_at "go"
        refine rd_ixL (SqL.of hm) (show atI (iv (mv (rs.take i))) 2 = some (.int (many .parter (rs.take i))) from rfl) ?_
        walk_at "go"
        refine rd_setL hm (ixN_ok (by decide) (by simp [iv, mv])) ?_
        exact fin _ (by simp [iv, mv, M])
      | joiner =>
        refine ⟨.ref a.Source, _, T.g_Source, rfl, _, _, _, _, rfl, (WT T .joiner).ty (CT T .joiner) g0', .inl ⟨_, rfl, kitS T .joiner⟩, ?_⟩
        walk_at "go"
        refine ⟨.ref a.Drain, _, T.g_Drain, rfl, _, _, _, _, rfl, (WT T .joiner).ty (CT T .joiner) g0', .inl ⟨_, rfl, kitD T .joiner⟩, ?_⟩
        walk_at "go"
        refine ⟨.ref a.Parter, _, T.g_Parter, rfl, _, _, _, _, rfl, (WT T .joiner).ty (CT T .joiner) g0', .inl ⟨_, rfl, kitP T .joiner⟩, ?_⟩
        walk_at "go"
        refine ⟨.ref a.Joiner, _, T.g_Joiner, rfl, _, _, _, _, rfl, (WT T .joiner).ty (CT T .joiner) g0', .inl ⟨_, rfl, kitJ T .joiner⟩, ?_⟩
        walk_at "go"
        refine rd_ixL (SqL.of hm) (show atI (iv (mv (rs.take i))) 3 = some (.int (many .joiner (rs.take i))) from rfl) ?_
        walk_at "go"
        refine rd_setL hm (ixN_ok (by decide) (by simp [iv, mv])) ?_
        exact fin _ (by simp [iv, mv, M])
    · rintro σ H' ⟨v5, rfl, sH, hm⟩
      rw [hKs.len, List.take_length] at hm
      exact ⟨_, rfl, sH, hm⟩
  rintro σ' H1 ⟨v5, rfl, s1, hm⟩
  obtain ⟨mm1, mm2, mm3, mm4⟩ := hmany
  have hy1 := s1 _ _ hy
  have hl1' := s1 _ _ hl1
  have hl2' := s1 _ _ hl2
  walk_at "go"
  refine rd_ixL (SqL.of hm) at0 ?_
  rw [mm1]
  walk_at "go"
  refine rd_ixL (SqL.of hm) (show atI (iv (mv rs)) 1 = some (.int (many .drain rs)) from rfl) ?_
  rw [mm2]
  walk_at "go"
  refine rd_ixL (SqL.of hm) (show atI (iv (mv rs)) 3 = some (.int (many .joiner rs)) from rfl) ?_
  walk_at "go"
  refine ite2 (fun b => absurd b (by omega)) (fun b => ?_)
  refine ⟨m_sum, ml, mv rs, rfl, SqL.of hm, ?_⟩
  walk_at "go"
  refine ⟨y, a.Work, dx, _, _, rfl, hy1, T.C_Work, T.N_Work_knots, wf_knots, _, .inl ⟨_, SqL.of hl2', rfl⟩, ?_⟩
  refine ite2 (fun b => absurd ?_ b) (fun b => ?_)
  · rw [hKs.len, ← mm4]; rfl
  walk_at "go"
  refine ⟨_, _, _, c_L_once T, ?_⟩
  walk_at "lc"
  walk_at "go"
  refine ⟨y, a.Work, dx, _, _, rfl, hy1, T.C_Work, T.N_Work_knots, wf_knots, l2, rfl, .inl ⟨⟨_, SqL.of hl2'⟩, fun _ _ _ _ acc1 hacc => ?_⟩⟩
  refine for_L (K := K) (a := l2) (xs := kvs) (fun i σ H' => ∃ v, ∃ as : List Addr, σ = [v] ∧ Same H1 H' ∧ H' acc1 = some (.lst (as.map V.ref)) ∧ LL H as ((rs.take i).map Row.ins)) ⟨_, [], rfl, same_upd hacc, upd_same, by rw [List.take_zero]; exact .nil⟩ (fun i σ H' _ ⟨_, _, _, s, _⟩ => SqL.of (s _ _ hl2')) ?_ ?_
  · rintro i x σ H' hi ⟨v, as, rfl, sH, ha, hA⟩
    obtain ⟨r, hr', y1, dx1, m1, m2, m3, fs, rfl, p0, p1, p2, p3, g0, f1, f2, f3, g1, g2, g3, g4⟩ := hKs.at hi
    have hil : i < rs.length := (List.getElem?_eq_some_iff.mp hr').1
    walk_at "go"
    refine ⟨y1, clsA a r.wd, dx1, fs, _, rfl, sH _ _ (s1 _ _ g0), CT T _, NI T _, f1, ?_⟩
    refine ⟨_, ha, small1000 (by rw [List.length_map, hA.len, List.length_map, List.length_take]; omega), _, as ++ [m1], rfl, fun b o hb => ?_, ?_, ?_⟩
    · rw [upd_ne (ne_of_none hb hacc)]; exact sH _ _ hb
    · rw [upd_same, List.map_append]; rfl
    · rw [List.take_add_one, hr', List.map_append]
      exact hA.append (.one g1)
  rintro σ H2 ⟨v, as1, rfl, sH1, ha1, hA1⟩
  rw [hKs.len, List.take_length] at hA1
  have s2 : Same H H2 := s1.trans sH1
  refine ⟨m_len, y, a.Work, dx, _, _, rfl, s2 _ _ hy, T.C_Work, T.N_Work_belts, wf_belts, _, .inl ⟨_, SqL.of (s2 _ _ hl1), rfl⟩, ?_⟩
  rw [hbl]
  have fl1 : (rs.map Row.ins).flatten = takenOf rs := (List.flatMap_def ..).symm
  refine ⟨acc1, nbOf n, as1, rs.map Row.ins, rfl, ha1, hA1.same s2, by rw [fl1, htak.length_eq, rgI_len]; omega, by omega, by rw [fl1]; exact htak, fun H3 s9 => ?_⟩
  have s3 : Same H H3 := s2.trans s9
  clear s9
  walk_at "go"
  refine ⟨_, _, _, c_L_once T, ?_⟩
  walk_at "lc"
  walk_at "go"
  refine ⟨y, a.Work, dx, _, _, rfl, (s3 _ _ hy), T.C_Work, T.N_Work_knots, wf_knots, l2, rfl, .inl ⟨⟨_, SqL.of (s3 _ _ hl2)⟩, fun _ _ _ _ acc3 hacc => ?_⟩⟩
  refine for_L (K := K) (a := l2) (xs := kvs) (fun i σ H' => ∃ v, ∃ as : List Addr, σ = [v] ∧ Same H3 H' ∧ H' acc3 = some (.lst (as.map V.ref)) ∧ LL H as ((rs.take i).map Row.outs)) ⟨_, [], rfl, same_upd hacc, upd_same, by rw [List.take_zero]; exact .nil⟩ (fun i σ H' _ ⟨_, _, _, s, _⟩ => SqL.of (s _ _ (s3 _ _ hl2))) ?_ ?_
  · rintro i x σ H' hi ⟨v, as, rfl, sH, ha, hA⟩
    obtain ⟨r, hr', y1, dx1, m1, m2, m3, fs, rfl, p0, p1, p2, p3, g0, f1, f2, f3, g1, g2, g3, g4⟩ := hKs.at hi
    have hil : i < rs.length := (List.getElem?_eq_some_iff.mp hr').1
    walk_at "go"
    refine ⟨y1, clsA a r.wd, dx1, fs, _, rfl, sH _ _ (s3 _ _ g0), CT T _, NO T _, f2, ?_⟩
    refine ⟨_, ha, small1000 (by rw [List.length_map, hA.len, List.length_map, List.length_take]; omega), _, as ++ [m2], rfl, fun b o hb => ?_, ?_, ?_⟩
    · rw [upd_ne (ne_of_none hb hacc)]; exact sH _ _ hb
    · rw [upd_same, List.map_append]; rfl
    · rw [List.take_add_one, hr', List.map_append]
      exact hA.append (.one g2)
  rintro σ H4 ⟨v, as3, rfl, sH3, ha3, hA3⟩
  rw [hKs.len, List.take_length] at hA3
  have s4 : Same H H4 := s3.trans sH3
  refine ⟨m_len, y, a.Work, dx, _, _, rfl, s4 _ _ hy, T.C_Work, T.N_Work_belts, wf_belts, _, .inl ⟨_, SqL.of (s4 _ _ hl1), rfl⟩, ?_⟩
  rw [hbl]
  have fl3 : (rs.map Row.outs).flatten = fedOf rs := (List.flatMap_def ..).symm
  refine ⟨acc3, nbOf n, as3, rs.map Row.outs, rfl, ha3, hA3.same s4, by rw [fl3, hfed.length_eq, rgI_len]; omega, by omega, by rw [fl3]; exact hfed, fun H5 s9 => ?_⟩
  have s5 : Same H H5 := s4.trans s9
  clear s9
  walk_at "go"
  exact k _ s5
theorem c_L_good (T : Txt K mg a) : Cal P w K mg base "_law_good" 2 ["_law_work", "_law_ways", "_law_kinds_here", "_law_pace"] [] (spGood a) := T.h_L_good.cal (ok_L_good T)
def spLaw (K : PySem.W.Frag) : Sp := fun vs H Q _ => ∃ (l : Addr) (ns : List Int), vs = [.ref l] ∧ SqL K H l (ns.map V.int) ∧ ns.length ≤ 63 ∧ ∀ H', Q (.bl true) H'
theorem dueS_made {ws pc : Int} {ks : List Int} : (dueS ws pc ks = Str.ofString "made") = (paceOk ws pc ∧ kindsOk ks) := by
  unfold dueS
  by_cases h1 : paceOk ws pc
  · by_cases h2 : kindsOk ks
    · rw [if_pos h1, if_pos h2]; exact propext ⟨fun _ => ⟨h1, h2⟩, fun _ => rfl⟩
    · rw [if_pos h1, if_neg h2]; exact propext ⟨fun h => absurd h (by decide +kernel), fun h => absurd h.2 h2⟩
  · rw [if_neg h1]; exact propext ⟨fun h => absurd h (by decide +kernel), fun h => absurd h.1 h1⟩
theorem rd_neS {H : Hp} {Q : VK} {i j : Str} (h : Q (.bl (!decide (i = j))) H) : rNeG K (.str i) (.str j) H Q := by
  have e : decide (V.str i = V.str j) = decide (i = j) := by simp
  unfold rNeG rNe
  rw [e]
  exact .inl ⟨rfl, h⟩
theorem ok_law (T : Txt K mg a) {f : Addr} {fd : FuncData} (F : Fun K "law" "law" s_law f fd) : FnOk P w K mg base (CXr P w) 9 f fd ["_law_script"] (spLaw K) := by
  refine F.okx sc_law (fun vs H Q E h => ?_) (fun cdv A outer s H vs Q E hr h => ?_)
  · obtain ⟨_, _, rfl, _⟩ := h; rfl
  obtain ⟨l, ns, rfl, hl, hn, k⟩ := h
  walk_at "T"
  refine ⟨_, (pss_cons (ps_lc (i := 1) sc_law.nd rfl (Or.inl rfl) (vars := ["_law_cell_here"]) (caps := []) (N := ["_law_cell_here"]) (ON := ["_law_script", "_law_cells", "_law_ways", "_law_pace", "_law_kinds_here", "_law_kept", "_law_due_here", "_law_work"]) (osc := defScope s_law) rfl rfl (by first | decide +kernel | kernel_rfl) rfl rfl (pi_seq (pv 0)) (fun s H fp pins => (pg_name (i := 0) (show (["_law_cell_here"] : List Str).Nodup from by decide +kernel) rfl (Or.inl rfl))) (fun s H fp pins => pif_nil) (fun s H fp pins => (pe_op op_mod (pv 0) (pe_op op_pow pe_int pe_int))))  (pss_cons (ps_set (i := 2) sc_law.nd rfl (Or.inl rfl) (pe_op op_sub (pe_op op_mod (pe_cl ⟨rfl, rfl, rfl⟩ hr (pa_cons (pv 1) (pa_cons pe_int pa_nil))) pe_int) pe_int))  (pss_cons (ps_set (i := 3) sc_law.nd rfl (Or.inl rfl) (pe_op op_mod (pe_cl ⟨rfl, rfl, rfl⟩ hr (pa_cons (pv 1) (pa_cons pe_int pa_nil))) pe_int))  (pss_cut (ps_if (pt_cmpR (og_eq hr.units1) (pe_op op_mod (pe_op og_fdiv (pe_cl ⟨rfl, rfl, rfl⟩ hr (pa_cons (pv 1) (pa_cons pe_int pa_nil))) pe_int) pe_int) pe_int (nomark _))  (pss_cons (ps_set (i := 2) sc_law.nd rfl (Or.inl rfl) (pe_op og_add pe_int (pe_op op_mod (pv 2) pe_int)))  (pss_one (ps_set (i := 3) sc_law.nd rfl (Or.inl rfl) (pe_op og_add pe_int (pe_op op_mod (pv 3) pe_int)))))  pss_nil)  (pss_cons (ps_set (i := 4) sc_law.nd rfl (Or.inl rfl) (pe_cl ⟨rfl, rfl, rfl⟩ hr (pa_cons (pv 1) pa_nil)))  (pss_cons (ps_set (i := 5) sc_law.nd rfl (Or.inl rfl) (pe_bt bt_list bo_list (pa_cons (pv 4) pa_nil)))  (pss_cons (ps_set (i := 6) sc_law.nd rfl (Or.inl rfl) (pe_cl ⟨rfl, rfl, rfl⟩ hr (pa_cons (pv 2) (pa_cons (pv 4) (pa_cons (pv 3) pa_nil)))))  (pss_cons (ps_if (pt_cmpR (og_ne hr.units1) (pv 6) pe_str (nomark _))  (pss_one (ps_ret (pe_and (pe_cl ⟨rfl, rfl, rfl⟩ hr (pa_cons (pv 2) (pa_cons (pv 4) (pa_cons (pv 3) (pa_cons (pv 6) pa_nil))))) (pe_one (pe_cmpR (og_eq hr.units1) (pv 4) (pv 5) (nomark _))))))  pss_nil)  (pss_cons (ps_set (i := 7) sc_law.nd rfl (Or.inl rfl) (pe_cl ⟨rfl, rfl, rfl⟩ hr (pa_cons (pv 2) (pa_cons (pv 4) (pa_cons (pv 3) (pa_cons (pe_and (pe_cmpR (og_eq hr.units1) (pv 3) pe_int (nomark _)) (pe_one (pe_cmpR (og_eq hr.units1) (pe_op op_mod (pe_op og_fdiv (pe_cl ⟨rfl, rfl, rfl⟩ hr (pa_cons (pv 1) (pa_cons pe_int pa_nil))) pe_int) pe_int) pe_int (nomark _)))) pa_nil))))))  (pss_one (ps_ret (pe_and (pe_cl ⟨rfl, rfl, rfl⟩ hr (pa_cons (pv 7) (pa_cons (pv 2) (pa_cons (pv 5) (pa_cons (pv 3) pa_nil))))) (pe_one (pe_cmpR (og_eq hr.units1) (pv 4) (pv 5) (nomark _))))))))))))))), ?_⟩
  walk_at "go"
  walk_at "lc"
  walk_at "go"
  refine ⟨l, rfl, .inl ⟨⟨_, hl⟩, fun _ _ _ _ acc hacc => ?_⟩⟩
  refine for_L (K := K) (a := l) (xs := ns.map V.int) (fun i σ H' => ∃ v, ∃ ms : List Int, σ = [v] ∧ Same H H' ∧ ms.length = i ∧ H' acc = some (.lst (iv ms))) ⟨_, [], rfl, same_upd hacc, rfl, upd_same⟩ (fun i σ H' _ ⟨_, _, _, s, _⟩ => s.seq hl) ?_ ?_
  · rintro i x σ H' hi ⟨v, ms, rfl, s, hm, ha⟩
    obtain ⟨n, hn', rfl⟩ := iv_at hi
    have hil : i < ns.length := (List.getElem?_eq_some_iff.mp hn').1
    walk_at "go"
    refine ⟨_, ha, by rw [iv_len]; exact small1000 (by omega), _, ms ++ [n % 10000000000000000000000000000000000000000], rfl, (fun b o hb => by rw [upd_ne (ne_of_none hb hacc)]; exact s b o hb), by simp [hm], ?_⟩
    rw [upd_same, ← iv_app]; rfl
  rintro σ H1 ⟨v, ms, rfl, s1, hm, ha⟩
  rw [List.length_map] at hm
  walk_at "go"
  refine ⟨_, _, _, (c_L_cell T).mono, acc, ms, 0, rfl, SqL.of ha, ?_⟩
  walk_at "go"
  refine ⟨_, _, _, (c_L_cell T).mono, acc, ms, 1, rfl, SqL.of ha, ?_⟩
  walk_at "go"
  refine cut (fun σ' H' => ∃ ws pc : Int, σ' = [some (.ref l), some (.ref acc), some (.int ws), some (.int pc), none, none, none, none] ∧ H' = H1) ?_ ?_
  · walk_at "go"
    refine ⟨_, _, _, (c_L_cell T).mono, acc, ms, 0, rfl, SqL.of ha, ?_⟩
    walk_at "go"
    refine And.intro (fd_ok (by decide) (by decide +kernel)) ?_
    walk_at "go"
    refine ite2 (fun b => ?_) (fun b => ?_)
    · walk_at "go"
      exact ⟨_, _, rfl⟩
    · walk_at "go"
      exact ⟨_, _, rfl⟩
  rintro σ' H' ⟨ws, pc, rfl, rfl⟩
  walk_at "go"
  refine ⟨_, _, _, (c_L_kinds T).mono, acc, ms, rfl, ha, by omega, fun ks kl H2 s2 nk hk hk63 => ?_⟩
  walk_at "go"
  refine ⟨kl, _, rfl, .inl (SqL.of hk), fun kp hkp => ?_⟩
  have hk3 := upd_keep (o := .lst (iv ks)) hk hkp
  have hp3 := upd_same (H := H2) (a := kp) (o := .lst (iv ks))
  have ha3 := upd_keep (o := .lst (iv ks)) (s2 _ _ ha) hkp
  generalize upd H2 kp (.lst (iv ks)) = H3 at hk3 hp3 ha3 ⊢
  walk_at "go"
  refine ⟨_, _, _, (c_L_due T).mono, kl, ws, pc, ks, rfl, hk3, hk63, fun H4 s4 => ?_⟩
  have hk4 := s4 _ _ hk3
  have hp4 := s4 _ _ hp3
  have ha4 := s4 _ _ ha3
  clear hk3 hp3 ha3 s4
  walk_at "go"
  refine rd_neS ?_
  walk_at "go"
  try simp only [dueS_made]
  refine ite2 (fun b => ?_) (fun b => ?_)
  · walk_at "go"
    refine ⟨_, _, _, (c_L_refused T).mono, kl, ws, pc, ks, rfl, hk4, b, fun H5 s5 => ?_⟩
    walk_at "go"
    refine rd_eqI2 (ms := ks) (ns := ks) (SqL.of (s5 _ _ hk4)) (SqL.of (s5 _ _ hp4)) ?_
    rw [decide_eq_true (rfl : ks = ks)]
    walk_at "go"
    exact k _
  obtain ⟨po, ko⟩ : paceOk ws pc ∧ kindsOk ks := Decidable.of_not_not b
  obtain ⟨n, rfl⟩ : ∃ n : Nat, ws = n := ⟨ws.toNat, by have := po.1.1; omega⟩
  have n1 := po.1.1
  have n8 := po.1.2
  walk_at "go"
  refine ⟨_, _, _, (c_L_made T).mono, ?_⟩
  refine ite2 (fun b2 => ?_) (fun b2 => ?_)
  · refine ⟨_, _, _, (c_L_cell T).mono, acc, ms, 0, rfl, SqL.of ha4, ?_⟩
    walk_at "go"
    refine And.intro (fd_ok (by decide) (by decide +kernel)) ?_
    walk_at "go"
    refine ⟨kl, n, pc, ks, _, rfl, hk4, po, ko, fun _ => b2, fun y H5 s5 hW => ?_⟩
    walk_at "go"
    refine ⟨_, _, _, (c_L_good T).mono, y, kp, n, pc, ks, rfl, by omega, by omega, s5 _ _ hp4, hW, fun H6 s6 => ?_⟩
    walk_at "go"
    refine rd_eqI2 (ms := ks) (ns := ks) (SqL.of (s6 _ _ (s5 _ _ hk4))) (SqL.of (s6 _ _ (s5 _ _ hp4))) ?_
    rw [decide_eq_true (rfl : ks = ks)]
    exact k _
  · refine ⟨kl, n, pc, ks, false, rfl, hk4, po, ko, (fun z => nomatch z), fun y H5 s5 hW => ?_⟩
    walk_at "go"
    refine ⟨_, _, _, (c_L_good T).mono, y, kp, n, pc, ks, rfl, by omega, by omega, s5 _ _ hp4, hW, fun H6 s6 => ?_⟩
    walk_at "go"
    refine rd_eqI2 (ms := ks) (ns := ks) (SqL.of (s6 _ _ (s5 _ _ hk4))) (SqL.of (s6 _ _ (s5 _ _ hp4))) ?_
    rw [decide_eq_true (rfl : ks = ks)]
    exact k _
theorem top_ok (T : Txt K mg a) {f : Addr} {fd : FuncData} (F : Fun K "law" "law" s_law f fd) : FnOk P w K mg base (CXr P w) 9 f fd ["_law_script"] (spLaw K) := ok_law T F
end
theorem all_mk {l : PySem.W.OpenLaw} {w : World} {K : PySem.W.Frag} {h : Heap} {mg : Str → Option Value} {fa fL f0 f1 f2 f3 f4 f5 f6 f7 f8 f9 f10 f11 f12 f13 f14 f15 dT8 x_WorkError x_BadBelt x_BadKnot x_BadWork x_BadPaces x_Belt x_Knot x_Source x_Drain x_Parter x_Joiner x_Work fBelt_init fKnot_init fKnot_choice fKnot_copied fSource_init fSource_choice fSource_copied fDrain_init fDrain_choice fDrain_copied fParter_init fParter_choice fParter_copied fJoiner_init fJoiner_choice fJoiner_copied fWork_init fWork_feeder fWork_taker fWork_drains fWork_sources fWork_beat : Addr} (X : K.In h) (G : h.Ns mainGlobals mg) (hfa : mg "law" = some (.ref fa))
    {od0 an0 od1 an1 od2 an2 od3 an3 od4 an4 od5 an5 od6 an6 od7 an7 od8 an8 od9 an9 od10 an10 od11 an11 od12 an12 od13 an13 od14 an14 od15 an15 odL anL odBelt_init anBelt_init odKnot_init anKnot_init odKnot_choice anKnot_choice odKnot_copied anKnot_copied odSource_init anSource_init odSource_choice anSource_choice odSource_copied anSource_copied odDrain_init anDrain_init odDrain_choice anDrain_choice odDrain_copied anDrain_copied odParter_init anParter_init odParter_choice anParter_choice odParter_copied anParter_copied odJoiner_init anJoiner_init odJoiner_choice anJoiner_choice odJoiner_copied anJoiner_copied odWork_init anWork_init odWork_feeder anWork_feeder odWork_taker anWork_taker odWork_drains anWork_drains odWork_sources anWork_sources odWork_beat anWork_beat : Option Addr} {sl0 sl1 sl2 sl3 sl4 sl5 sl6 sl7 sl8 sl9 sl10 sl11 sl12 sl13 sl14 sl15 slL slBelt_init slKnot_init slKnot_choice slKnot_copied slSource_init slSource_choice slSource_copied slDrain_init slDrain_choice slDrain_copied slParter_init slParter_choice slParter_copied slJoiner_init slJoiner_choice slJoiner_copied slWork_init slWork_feeder slWork_taker slWork_drains slWork_sources slWork_beat : Array (Option Value)} {oc0 kV0 dc0 pm0 cd0 ct0 oc1 kV1 dc1 pm1 cd1 ct1 oc2 kV2 dc2 pm2 cd2 ct2 oc3 kV3 dc3 pm3 cd3 ct3 oc4 kV4 dc4 pm4 cd4 ct4 oc5 kV5 dc5 pm5 cd5 ct5 oc6 kV6 dc6 pm6 cd6 ct6 oc7 kV7 dc7 pm7 cd7 ct7 oc8 kV8 dc8 pm8 cd8 ct8 oc9 kV9 dc9 pm9 cd9 ct9 oc10 kV10 dc10 pm10 cd10 ct10 oc11 kV11 dc11 pm11 cd11 ct11 oc12 kV12 dc12 pm12 cd12 ct12 oc13 kV13 dc13 pm13 cd13 ct13 oc14 kV14 dc14 pm14 cd14 ct14 oc15 kV15 dc15 pm15 cd15 ct15 ocL kVL dcL pmL cdL ctL ocBelt_init kVBelt_init dcBelt_init pmBelt_init cdBelt_init ctBelt_init ocKnot_init kVKnot_init dcKnot_init pmKnot_init cdKnot_init ctKnot_init ocKnot_choice kVKnot_choice dcKnot_choice pmKnot_choice cdKnot_choice ctKnot_choice ocKnot_copied kVKnot_copied dcKnot_copied pmKnot_copied cdKnot_copied ctKnot_copied ocSource_init kVSource_init dcSource_init pmSource_init cdSource_init ctSource_init ocSource_choice kVSource_choice dcSource_choice pmSource_choice cdSource_choice ctSource_choice ocSource_copied kVSource_copied dcSource_copied pmSource_copied cdSource_copied ctSource_copied ocDrain_init kVDrain_init dcDrain_init pmDrain_init cdDrain_init ctDrain_init ocDrain_choice kVDrain_choice dcDrain_choice pmDrain_choice cdDrain_choice ctDrain_choice ocDrain_copied kVDrain_copied dcDrain_copied pmDrain_copied cdDrain_copied ctDrain_copied ocParter_init kVParter_init dcParter_init pmParter_init cdParter_init ctParter_init ocParter_choice kVParter_choice dcParter_choice pmParter_choice cdParter_choice ctParter_choice ocParter_copied kVParter_copied dcParter_copied pmParter_copied cdParter_copied ctParter_copied ocJoiner_init kVJoiner_init dcJoiner_init pmJoiner_init cdJoiner_init ctJoiner_init ocJoiner_choice kVJoiner_choice dcJoiner_choice pmJoiner_choice cdJoiner_choice ctJoiner_choice ocJoiner_copied kVJoiner_copied dcJoiner_copied pmJoiner_copied cdJoiner_copied ctJoiner_copied ocWork_init kVWork_init dcWork_init pmWork_init cdWork_init ctWork_init ocWork_feeder kVWork_feeder dcWork_feeder pmWork_feeder cdWork_feeder ctWork_feeder ocWork_taker kVWork_taker dcWork_taker pmWork_taker cdWork_taker ctWork_taker ocWork_drains kVWork_drains dcWork_drains pmWork_drains cdWork_drains ctWork_drains ocWork_sources kVWork_sources dcWork_sources pmWork_sources cdWork_sources ctWork_sources ocWork_beat kVWork_beat dcWork_beat pmWork_beat cdWork_beat ctWork_beat : Value}
    {toc8 : Value} {tod8 : Option Addr} {tn8 : Nat} {tsl8 : Array (Option Value)} {td8_0 : Tok}
    {t_MOST_ROOM t_MOST_PACE t_MOST_KINDS t_FEWEST_WAYS t_MOST_WAYS t_MOST_BELTS t_MOST_KNOTS t_MOST_EVEN_WAYS t_LEAST_EVEN_PACE : Tok}
    (a0 : PySem.W.nsIn K mainGlobals "_wall" = some (some (.ref f0))) (l0 : K.lookup f0 = some ⟨oc0, od0, .func (PySem.W.fnOf "_wall" "_wall" (defArgs s__wall) (defBody s__wall) (defScope s__wall) .none kV0 dc0 pm0 an0 cd0 ct0), sl0⟩) (c0 : PySem.W.codeIn K cd0 "_wall" = true) (k0 : PySem.W.keepIn K (.ref f0) = true)
    (a1 : PySem.W.nsIn K mainGlobals "check_pace" = some (some (.ref f1))) (l1 : K.lookup f1 = some ⟨oc1, od1, .func (PySem.W.fnOf "check_pace" "check_pace" (defArgs s_check_pace) (defBody s_check_pace) (defScope s_check_pace) .none kV1 dc1 pm1 an1 cd1 ct1), sl1⟩) (c1 : PySem.W.codeIn K cd1 "check_pace" = true) (k1 : PySem.W.keepIn K (.ref f1) = true)
    (a2 : PySem.W.nsIn K mainGlobals "check_kind" = some (some (.ref f2))) (l2 : K.lookup f2 = some ⟨oc2, od2, .func (PySem.W.fnOf "check_kind" "check_kind" (defArgs s_check_kind) (defBody s_check_kind) (defScope s_check_kind) .none kV2 dc2 pm2 an2 cd2 ct2), sl2⟩) (c2 : PySem.W.codeIn K cd2 "check_kind" = true) (k2 : PySem.W.keepIn K (.ref f2) = true)
    (a3 : PySem.W.nsIn K mainGlobals "check_ways" = some (some (.ref f3))) (l3 : K.lookup f3 = some ⟨oc3, od3, .func (PySem.W.fnOf "check_ways" "check_ways" (defArgs s_check_ways) (defBody s_check_ways) (defScope s_check_ways) .none kV3 dc3 pm3 an3 cd3 ct3), sl3⟩) (c3 : PySem.W.codeIn K cd3 "check_ways" = true) (k3 : PySem.W.keepIn K (.ref f3) = true)
    (a4 : PySem.W.nsIn K mainGlobals "check_size" = some (some (.ref f4))) (l4 : K.lookup f4 = some ⟨oc4, od4, .func (PySem.W.fnOf "check_size" "check_size" (defArgs s_check_size) (defBody s_check_size) (defScope s_check_size) .none kV4 dc4 pm4 an4 cd4 ct4), sl4⟩) (c4 : PySem.W.codeIn K cd4 "check_size" = true) (k4 : PySem.W.keepIn K (.ref f4) = true)
    (a5 : PySem.W.nsIn K mainGlobals "check_each_once" = some (some (.ref f5))) (l5 : K.lookup f5 = some ⟨oc5, od5, .func (PySem.W.fnOf "check_each_once" "check_each_once" (defArgs s_check_each_once) (defBody s_check_each_once) (defScope s_check_each_once) .none kV5 dc5 pm5 an5 cd5 ct5), sl5⟩) (c5 : PySem.W.codeIn K cd5 "check_each_once" = true) (k5 : PySem.W.keepIn K (.ref f5) = true)
    (a6 : PySem.W.nsIn K mainGlobals "ends_for" = some (some (.ref f6))) (l6 : K.lookup f6 = some ⟨oc6, od6, .func (PySem.W.fnOf "ends_for" "ends_for" (defArgs s_ends_for) (defBody s_ends_for) (defScope s_ends_for) .none kV6 dc6 pm6 an6 cd6 ct6), sl6⟩) (c6 : PySem.W.codeIn K cd6 "ends_for" = true) (k6 : PySem.W.keepIn K (.ref f6) = true)
    (a7 : PySem.W.nsIn K mainGlobals "grow_tree" = some (some (.ref f7))) (l7 : K.lookup f7 = some ⟨oc7, od7, .func (PySem.W.fnOf "grow_tree" "grow_tree" (defArgs s_grow_tree) (defBody s_grow_tree) (defScope s_grow_tree) .none kV7 dc7 pm7 an7 cd7 ct7), sl7⟩) (c7 : PySem.W.codeIn K cd7 "grow_tree" = true) (k7 : PySem.W.keepIn K (.ref f7) = true)
    (a8 : PySem.W.nsIn K mainGlobals "even_work" = some (some (.ref f8))) (l8 : K.lookup f8 = some ⟨oc8, od8, .func (PySem.W.fnOf "even_work" "even_work" (defArgs s_even_work) (defBody s_even_work) (defScope s_even_work) (.ref dT8) kV8 dc8 pm8 an8 cd8 ct8), sl8⟩) (c8 : PySem.W.codeIn K cd8 "even_work" = true) (k8 : PySem.W.keepIn K (.ref f8) = true)
    (lt8 : K.lookup dT8 = some ⟨toc8, tod8, .seq #[.int 2 td8_0] tn8, tsl8⟩)
    (a9 : PySem.W.nsIn K mainGlobals "_law_cell" = some (some (.ref f9))) (l9 : K.lookup f9 = some ⟨oc9, od9, .func (PySem.W.fnOf "_law_cell" "_law_cell" (defArgs s_L_cell) (defBody s_L_cell) (defScope s_L_cell) .none kV9 dc9 pm9 an9 cd9 ct9), sl9⟩) (c9 : PySem.W.codeIn K cd9 "_law_cell" = true) (k9 : PySem.W.keepIn K (.ref f9) = true)
    (a10 : PySem.W.nsIn K mainGlobals "_law_kinds" = some (some (.ref f10))) (l10 : K.lookup f10 = some ⟨oc10, od10, .func (PySem.W.fnOf "_law_kinds" "_law_kinds" (defArgs s_L_kinds) (defBody s_L_kinds) (defScope s_L_kinds) .none kV10 dc10 pm10 an10 cd10 ct10), sl10⟩) (c10 : PySem.W.codeIn K cd10 "_law_kinds" = true) (k10 : PySem.W.keepIn K (.ref f10) = true)
    (a11 : PySem.W.nsIn K mainGlobals "_law_made" = some (some (.ref f11))) (l11 : K.lookup f11 = some ⟨oc11, od11, .func (PySem.W.fnOf "_law_made" "_law_made" (defArgs s_L_made) (defBody s_L_made) (defScope s_L_made) .none kV11 dc11 pm11 an11 cd11 ct11), sl11⟩) (c11 : PySem.W.codeIn K cd11 "_law_made" = true) (k11 : PySem.W.keepIn K (.ref f11) = true)
    (a12 : PySem.W.nsIn K mainGlobals "_law_refused" = some (some (.ref f12))) (l12 : K.lookup f12 = some ⟨oc12, od12, .func (PySem.W.fnOf "_law_refused" "_law_refused" (defArgs s_L_refused) (defBody s_L_refused) (defScope s_L_refused) .none kV12 dc12 pm12 an12 cd12 ct12), sl12⟩) (c12 : PySem.W.codeIn K cd12 "_law_refused" = true) (k12 : PySem.W.keepIn K (.ref f12) = true)
    (a13 : PySem.W.nsIn K mainGlobals "_law_due" = some (some (.ref f13))) (l13 : K.lookup f13 = some ⟨oc13, od13, .func (PySem.W.fnOf "_law_due" "_law_due" (defArgs s_L_due) (defBody s_L_due) (defScope s_L_due) .none kV13 dc13 pm13 an13 cd13 ct13), sl13⟩) (c13 : PySem.W.codeIn K cd13 "_law_due" = true) (k13 : PySem.W.keepIn K (.ref f13) = true)
    (a14 : PySem.W.nsIn K mainGlobals "_law_once" = some (some (.ref f14))) (l14 : K.lookup f14 = some ⟨oc14, od14, .func (PySem.W.fnOf "_law_once" "_law_once" (defArgs s_L_once) (defBody s_L_once) (defScope s_L_once) .none kV14 dc14 pm14 an14 cd14 ct14), sl14⟩) (c14 : PySem.W.codeIn K cd14 "_law_once" = true) (k14 : PySem.W.keepIn K (.ref f14) = true)
    (a15 : PySem.W.nsIn K mainGlobals "_law_good" = some (some (.ref f15))) (l15 : K.lookup f15 = some ⟨oc15, od15, .func (PySem.W.fnOf "_law_good" "_law_good" (defArgs s_L_good) (defBody s_L_good) (defScope s_L_good) .none kV15 dc15 pm15 an15 cd15 ct15), sl15⟩) (c15 : PySem.W.codeIn K cd15 "_law_good" = true) (k15 : PySem.W.keepIn K (.ref f15) = true)
    (aL : PySem.W.nsIn K mainGlobals "law" = some (some (.ref fL))) (lL : K.lookup fL = some ⟨ocL, odL, .func (PySem.W.fnOf "law" "law" (defArgs s_law) (defBody s_law) (defScope s_law) .none kVL dcL pmL anL cdL ctL), slL⟩) (cL : PySem.W.codeIn K cdL "law" = true) (kL : PySem.W.keepIn K (.ref fL) = true)
    (z_len : PySem.W.nsIn K mainGlobals "len" = some none)
    (z_list : PySem.W.nsIn K mainGlobals "list" = some none)
    (z_sorted : PySem.W.nsIn K mainGlobals "sorted" = some none)
    (z_range : PySem.W.nsIn K mainGlobals "range" = some none)
    (z_enumerate : PySem.W.nsIn K mainGlobals "enumerate" = some none)
    (z_isinstance : PySem.W.nsIn K mainGlobals "isinstance" = some none)
    (z_all : PySem.W.nsIn K mainGlobals "all" = some none)
    (z_sum : PySem.W.nsIn K mainGlobals "sum" = some none)
    (ag_WorkError : PySem.W.nsIn K mainGlobals "WorkError" = some (some (.ref x_WorkError)))
    (ag_BadBelt : PySem.W.nsIn K mainGlobals "BadBelt" = some (some (.ref x_BadBelt)))
    (ag_BadKnot : PySem.W.nsIn K mainGlobals "BadKnot" = some (some (.ref x_BadKnot)))
    (ag_BadWork : PySem.W.nsIn K mainGlobals "BadWork" = some (some (.ref x_BadWork)))
    (ag_BadPaces : PySem.W.nsIn K mainGlobals "BadPaces" = some (some (.ref x_BadPaces)))
    (ag_Belt : PySem.W.nsIn K mainGlobals "Belt" = some (some (.ref x_Belt)))
    (ag_Knot : PySem.W.nsIn K mainGlobals "Knot" = some (some (.ref x_Knot)))
    (ag_Source : PySem.W.nsIn K mainGlobals "Source" = some (some (.ref x_Source)))
    (ag_Drain : PySem.W.nsIn K mainGlobals "Drain" = some (some (.ref x_Drain)))
    (ag_Parter : PySem.W.nsIn K mainGlobals "Parter" = some (some (.ref x_Parter)))
    (ag_Joiner : PySem.W.nsIn K mainGlobals "Joiner" = some (some (.ref x_Joiner)))
    (ag_Work : PySem.W.nsIn K mainGlobals "Work" = some (some (.ref x_Work)))
    (pg_Belt : PySem.W.plainGet K x_Belt Str.empty = true)
    (hd_Belt : PySem.W.hasDictIn K x_Belt = true)
    (po_Belt : PySem.W.plainOver K x_Belt = true)
    (sa_Belt : PySem.W.findIn K (.ref x_Belt) "__setattr__" = some (some (.builtin "object.__setattr__")))
    (mk_Belt : PySem.W.makesIn K x_Belt = true)
    (kc_Belt : PySem.W.keepIn K (.ref x_Belt) = true)
    (wc_Belt : PySem.W.findIn K (.ref x_Belt) "__class__" = some (some (.builtin "object.__class__")))
    (wm_Belt : PySem.W.mroIn K x_Belt (.type "object") = some true)
    (nf_room_Belt : PySem.W.findIn K (.ref x_Belt) "room" = some none)
    (nf_pace_Belt : PySem.W.findIn K (.ref x_Belt) "pace" = some none)
    (aBelt_init : PySem.W.findIn K (.ref x_Belt) "__init__" = some (some (.ref fBelt_init))) (iBelt_init : PySem.W.isFn K (.ref fBelt_init) = true) (lBelt_init : K.lookup fBelt_init = some ⟨ocBelt_init, odBelt_init, .func (PySem.W.fnOf "__init__" "Belt.__init__" (defArgs s_Belt_init) (defBody s_Belt_init) (defScope s_Belt_init) .none kVBelt_init dcBelt_init pmBelt_init anBelt_init cdBelt_init ctBelt_init), slBelt_init⟩) (cBelt_init : PySem.W.codeIn K cdBelt_init "Belt.__init__" = true) (kBelt_init : PySem.W.keepIn K (.ref fBelt_init) = true)
    (pg_Knot : PySem.W.plainGet K x_Knot Str.empty = true)
    (hd_Knot : PySem.W.hasDictIn K x_Knot = true)
    (po_Knot : PySem.W.plainOver K x_Knot = true)
    (sa_Knot : PySem.W.findIn K (.ref x_Knot) "__setattr__" = some (some (.builtin "object.__setattr__")))
    (mk_Knot : PySem.W.makesIn K x_Knot = true)
    (kc_Knot : PySem.W.keepIn K (.ref x_Knot) = true)
    (wc_Knot : PySem.W.findIn K (.ref x_Knot) "__class__" = some (some (.builtin "object.__class__")))
    (wm_Knot : PySem.W.mroIn K x_Knot (.type "object") = some true)
    (nf_ins_Knot : PySem.W.findIn K (.ref x_Knot) "ins" = some none)
    (nf_outs_Knot : PySem.W.findIn K (.ref x_Knot) "outs" = some none)
    (aKnot_init : PySem.W.findIn K (.ref x_Knot) "__init__" = some (some (.ref fKnot_init))) (iKnot_init : PySem.W.isFn K (.ref fKnot_init) = true) (lKnot_init : K.lookup fKnot_init = some ⟨ocKnot_init, odKnot_init, .func (PySem.W.fnOf "__init__" "Knot.__init__" (defArgs s_Knot_init) (defBody s_Knot_init) (defScope s_Knot_init) .none kVKnot_init dcKnot_init pmKnot_init anKnot_init cdKnot_init ctKnot_init), slKnot_init⟩) (cKnot_init : PySem.W.codeIn K cdKnot_init "Knot.__init__" = true) (kKnot_init : PySem.W.keepIn K (.ref fKnot_init) = true)
    (bga_Knot_init : PySem.W.specialIn K (.ref x_Knot) "__getattribute__" = some (some (.builtin "type.__getattribute__")))
    (brd_Knot_init : PySem.W.readsIn K x_Knot (.type "type") = true)
    (bfc_Knot_init : PySem.W.findCls K (.ref x_Knot) (.type "type") "__init__" = some (.val (.ref fKnot_init)))
    (aKnot_choice : PySem.W.findIn K (.ref x_Knot) "choice" = some (some (.ref fKnot_choice))) (iKnot_choice : PySem.W.isFn K (.ref fKnot_choice) = true) (lKnot_choice : K.lookup fKnot_choice = some ⟨ocKnot_choice, odKnot_choice, .func (PySem.W.fnOf "choice" "Knot.choice" (defArgs s_Knot_choice) (defBody s_Knot_choice) (defScope s_Knot_choice) .none kVKnot_choice dcKnot_choice pmKnot_choice anKnot_choice cdKnot_choice ctKnot_choice), slKnot_choice⟩) (cKnot_choice : PySem.W.codeIn K cdKnot_choice "Knot.choice" = true) (kKnot_choice : PySem.W.keepIn K (.ref fKnot_choice) = true)
    (aKnot_copied : PySem.W.findIn K (.ref x_Knot) "copied" = some (some (.ref fKnot_copied))) (iKnot_copied : PySem.W.isFn K (.ref fKnot_copied) = true) (lKnot_copied : K.lookup fKnot_copied = some ⟨ocKnot_copied, odKnot_copied, .func (PySem.W.fnOf "copied" "Knot.copied" (defArgs s_Knot_copied) (defBody s_Knot_copied) (defScope s_Knot_copied) .none kVKnot_copied dcKnot_copied pmKnot_copied anKnot_copied cdKnot_copied ctKnot_copied), slKnot_copied⟩) (cKnot_copied : PySem.W.codeIn K cdKnot_copied "Knot.copied" = true) (kKnot_copied : PySem.W.keepIn K (.ref fKnot_copied) = true)
    (pg_Source : PySem.W.plainGet K x_Source Str.empty = true)
    (hd_Source : PySem.W.hasDictIn K x_Source = true)
    (po_Source : PySem.W.plainOver K x_Source = true)
    (sa_Source : PySem.W.findIn K (.ref x_Source) "__setattr__" = some (some (.builtin "object.__setattr__")))
    (mk_Source : PySem.W.makesIn K x_Source = true)
    (kc_Source : PySem.W.keepIn K (.ref x_Source) = true)
    (wc_Source : PySem.W.findIn K (.ref x_Source) "__class__" = some (some (.builtin "object.__class__")))
    (wm_Source : PySem.W.mroIn K x_Source (.type "object") = some true)
    (nf_pace_Source : PySem.W.findIn K (.ref x_Source) "pace" = some none)
    (nf_kinds_Source : PySem.W.findIn K (.ref x_Source) "kinds" = some none)
    (nf_ins_Source : PySem.W.findIn K (.ref x_Source) "ins" = some none)
    (nf_outs_Source : PySem.W.findIn K (.ref x_Source) "outs" = some none)
    (aSource_init : PySem.W.findIn K (.ref x_Source) "__init__" = some (some (.ref fSource_init))) (iSource_init : PySem.W.isFn K (.ref fSource_init) = true) (lSource_init : K.lookup fSource_init = some ⟨ocSource_init, odSource_init, .func (PySem.W.fnOf "__init__" "Source.__init__" (defArgs s_Source_init) (defBody s_Source_init) (defScope s_Source_init) .none kVSource_init dcSource_init pmSource_init anSource_init cdSource_init ctSource_init), slSource_init⟩) (cSource_init : PySem.W.codeIn K cdSource_init "Source.__init__" = true) (kSource_init : PySem.W.keepIn K (.ref fSource_init) = true)
    (aSource_choice : PySem.W.findIn K (.ref x_Source) "choice" = some (some (.ref fSource_choice))) (iSource_choice : PySem.W.isFn K (.ref fSource_choice) = true) (lSource_choice : K.lookup fSource_choice = some ⟨ocSource_choice, odSource_choice, .func (PySem.W.fnOf "choice" "Source.choice" (defArgs s_Source_choice) (defBody s_Source_choice) (defScope s_Source_choice) .none kVSource_choice dcSource_choice pmSource_choice anSource_choice cdSource_choice ctSource_choice), slSource_choice⟩) (cSource_choice : PySem.W.codeIn K cdSource_choice "Source.choice" = true) (kSource_choice : PySem.W.keepIn K (.ref fSource_choice) = true)
    (aSource_copied : PySem.W.findIn K (.ref x_Source) "copied" = some (some (.ref fSource_copied))) (iSource_copied : PySem.W.isFn K (.ref fSource_copied) = true) (lSource_copied : K.lookup fSource_copied = some ⟨ocSource_copied, odSource_copied, .func (PySem.W.fnOf "copied" "Source.copied" (defArgs s_Source_copied) (defBody s_Source_copied) (defScope s_Source_copied) .none kVSource_copied dcSource_copied pmSource_copied anSource_copied cdSource_copied ctSource_copied), slSource_copied⟩) (cSource_copied : PySem.W.codeIn K cdSource_copied "Source.copied" = true) (kSource_copied : PySem.W.keepIn K (.ref fSource_copied) = true)
    (pg_Drain : PySem.W.plainGet K x_Drain Str.empty = true)
    (hd_Drain : PySem.W.hasDictIn K x_Drain = true)
    (po_Drain : PySem.W.plainOver K x_Drain = true)
    (sa_Drain : PySem.W.findIn K (.ref x_Drain) "__setattr__" = some (some (.builtin "object.__setattr__")))
    (mk_Drain : PySem.W.makesIn K x_Drain = true)
    (kc_Drain : PySem.W.keepIn K (.ref x_Drain) = true)
    (wc_Drain : PySem.W.findIn K (.ref x_Drain) "__class__" = some (some (.builtin "object.__class__")))
    (wm_Drain : PySem.W.mroIn K x_Drain (.type "object") = some true)
    (nf_pace_Drain : PySem.W.findIn K (.ref x_Drain) "pace" = some none)
    (nf_ins_Drain : PySem.W.findIn K (.ref x_Drain) "ins" = some none)
    (nf_outs_Drain : PySem.W.findIn K (.ref x_Drain) "outs" = some none)
    (aDrain_init : PySem.W.findIn K (.ref x_Drain) "__init__" = some (some (.ref fDrain_init))) (iDrain_init : PySem.W.isFn K (.ref fDrain_init) = true) (lDrain_init : K.lookup fDrain_init = some ⟨ocDrain_init, odDrain_init, .func (PySem.W.fnOf "__init__" "Drain.__init__" (defArgs s_Drain_init) (defBody s_Drain_init) (defScope s_Drain_init) .none kVDrain_init dcDrain_init pmDrain_init anDrain_init cdDrain_init ctDrain_init), slDrain_init⟩) (cDrain_init : PySem.W.codeIn K cdDrain_init "Drain.__init__" = true) (kDrain_init : PySem.W.keepIn K (.ref fDrain_init) = true)
    (aDrain_choice : PySem.W.findIn K (.ref x_Drain) "choice" = some (some (.ref fDrain_choice))) (iDrain_choice : PySem.W.isFn K (.ref fDrain_choice) = true) (lDrain_choice : K.lookup fDrain_choice = some ⟨ocDrain_choice, odDrain_choice, .func (PySem.W.fnOf "choice" "Drain.choice" (defArgs s_Drain_choice) (defBody s_Drain_choice) (defScope s_Drain_choice) .none kVDrain_choice dcDrain_choice pmDrain_choice anDrain_choice cdDrain_choice ctDrain_choice), slDrain_choice⟩) (cDrain_choice : PySem.W.codeIn K cdDrain_choice "Drain.choice" = true) (kDrain_choice : PySem.W.keepIn K (.ref fDrain_choice) = true)
    (aDrain_copied : PySem.W.findIn K (.ref x_Drain) "copied" = some (some (.ref fDrain_copied))) (iDrain_copied : PySem.W.isFn K (.ref fDrain_copied) = true) (lDrain_copied : K.lookup fDrain_copied = some ⟨ocDrain_copied, odDrain_copied, .func (PySem.W.fnOf "copied" "Drain.copied" (defArgs s_Drain_copied) (defBody s_Drain_copied) (defScope s_Drain_copied) .none kVDrain_copied dcDrain_copied pmDrain_copied anDrain_copied cdDrain_copied ctDrain_copied), slDrain_copied⟩) (cDrain_copied : PySem.W.codeIn K cdDrain_copied "Drain.copied" = true) (kDrain_copied : PySem.W.keepIn K (.ref fDrain_copied) = true)
    (pg_Parter : PySem.W.plainGet K x_Parter Str.empty = true)
    (hd_Parter : PySem.W.hasDictIn K x_Parter = true)
    (po_Parter : PySem.W.plainOver K x_Parter = true)
    (sa_Parter : PySem.W.findIn K (.ref x_Parter) "__setattr__" = some (some (.builtin "object.__setattr__")))
    (mk_Parter : PySem.W.makesIn K x_Parter = true)
    (kc_Parter : PySem.W.keepIn K (.ref x_Parter) = true)
    (wc_Parter : PySem.W.findIn K (.ref x_Parter) "__class__" = some (some (.builtin "object.__class__")))
    (wm_Parter : PySem.W.mroIn K x_Parter (.type "object") = some true)
    (nf_ins_Parter : PySem.W.findIn K (.ref x_Parter) "ins" = some none)
    (nf_outs_Parter : PySem.W.findIn K (.ref x_Parter) "outs" = some none)
    (aParter_init : PySem.W.findIn K (.ref x_Parter) "__init__" = some (some (.ref fParter_init))) (iParter_init : PySem.W.isFn K (.ref fParter_init) = true) (lParter_init : K.lookup fParter_init = some ⟨ocParter_init, odParter_init, .func (PySem.W.fnOf "__init__" "Parter.__init__" (defArgs s_Parter_init) (defBody s_Parter_init) (defScope s_Parter_init) .none kVParter_init dcParter_init pmParter_init anParter_init cdParter_init ctParter_init), slParter_init⟩) (cParter_init : PySem.W.codeIn K cdParter_init "Parter.__init__" = true) (kParter_init : PySem.W.keepIn K (.ref fParter_init) = true)
    (aParter_choice : PySem.W.findIn K (.ref x_Parter) "choice" = some (some (.ref fParter_choice))) (iParter_choice : PySem.W.isFn K (.ref fParter_choice) = true) (lParter_choice : K.lookup fParter_choice = some ⟨ocParter_choice, odParter_choice, .func (PySem.W.fnOf "choice" "Parter.choice" (defArgs s_Parter_choice) (defBody s_Parter_choice) (defScope s_Parter_choice) .none kVParter_choice dcParter_choice pmParter_choice anParter_choice cdParter_choice ctParter_choice), slParter_choice⟩) (cParter_choice : PySem.W.codeIn K cdParter_choice "Parter.choice" = true) (kParter_choice : PySem.W.keepIn K (.ref fParter_choice) = true)
    (aParter_copied : PySem.W.findIn K (.ref x_Parter) "copied" = some (some (.ref fParter_copied))) (iParter_copied : PySem.W.isFn K (.ref fParter_copied) = true) (lParter_copied : K.lookup fParter_copied = some ⟨ocParter_copied, odParter_copied, .func (PySem.W.fnOf "copied" "Parter.copied" (defArgs s_Parter_copied) (defBody s_Parter_copied) (defScope s_Parter_copied) .none kVParter_copied dcParter_copied pmParter_copied anParter_copied cdParter_copied ctParter_copied), slParter_copied⟩) (cParter_copied : PySem.W.codeIn K cdParter_copied "Parter.copied" = true) (kParter_copied : PySem.W.keepIn K (.ref fParter_copied) = true)
    (pg_Joiner : PySem.W.plainGet K x_Joiner Str.empty = true)
    (hd_Joiner : PySem.W.hasDictIn K x_Joiner = true)
    (po_Joiner : PySem.W.plainOver K x_Joiner = true)
    (sa_Joiner : PySem.W.findIn K (.ref x_Joiner) "__setattr__" = some (some (.builtin "object.__setattr__")))
    (mk_Joiner : PySem.W.makesIn K x_Joiner = true)
    (kc_Joiner : PySem.W.keepIn K (.ref x_Joiner) = true)
    (wc_Joiner : PySem.W.findIn K (.ref x_Joiner) "__class__" = some (some (.builtin "object.__class__")))
    (wm_Joiner : PySem.W.mroIn K x_Joiner (.type "object") = some true)
    (nf_ins_Joiner : PySem.W.findIn K (.ref x_Joiner) "ins" = some none)
    (nf_outs_Joiner : PySem.W.findIn K (.ref x_Joiner) "outs" = some none)
    (aJoiner_init : PySem.W.findIn K (.ref x_Joiner) "__init__" = some (some (.ref fJoiner_init))) (iJoiner_init : PySem.W.isFn K (.ref fJoiner_init) = true) (lJoiner_init : K.lookup fJoiner_init = some ⟨ocJoiner_init, odJoiner_init, .func (PySem.W.fnOf "__init__" "Joiner.__init__" (defArgs s_Joiner_init) (defBody s_Joiner_init) (defScope s_Joiner_init) .none kVJoiner_init dcJoiner_init pmJoiner_init anJoiner_init cdJoiner_init ctJoiner_init), slJoiner_init⟩) (cJoiner_init : PySem.W.codeIn K cdJoiner_init "Joiner.__init__" = true) (kJoiner_init : PySem.W.keepIn K (.ref fJoiner_init) = true)
    (aJoiner_choice : PySem.W.findIn K (.ref x_Joiner) "choice" = some (some (.ref fJoiner_choice))) (iJoiner_choice : PySem.W.isFn K (.ref fJoiner_choice) = true) (lJoiner_choice : K.lookup fJoiner_choice = some ⟨ocJoiner_choice, odJoiner_choice, .func (PySem.W.fnOf "choice" "Joiner.choice" (defArgs s_Joiner_choice) (defBody s_Joiner_choice) (defScope s_Joiner_choice) .none kVJoiner_choice dcJoiner_choice pmJoiner_choice anJoiner_choice cdJoiner_choice ctJoiner_choice), slJoiner_choice⟩) (cJoiner_choice : PySem.W.codeIn K cdJoiner_choice "Joiner.choice" = true) (kJoiner_choice : PySem.W.keepIn K (.ref fJoiner_choice) = true)
    (aJoiner_copied : PySem.W.findIn K (.ref x_Joiner) "copied" = some (some (.ref fJoiner_copied))) (iJoiner_copied : PySem.W.isFn K (.ref fJoiner_copied) = true) (lJoiner_copied : K.lookup fJoiner_copied = some ⟨ocJoiner_copied, odJoiner_copied, .func (PySem.W.fnOf "copied" "Joiner.copied" (defArgs s_Joiner_copied) (defBody s_Joiner_copied) (defScope s_Joiner_copied) .none kVJoiner_copied dcJoiner_copied pmJoiner_copied anJoiner_copied cdJoiner_copied ctJoiner_copied), slJoiner_copied⟩) (cJoiner_copied : PySem.W.codeIn K cdJoiner_copied "Joiner.copied" = true) (kJoiner_copied : PySem.W.keepIn K (.ref fJoiner_copied) = true)
    (pg_Work : PySem.W.plainGet K x_Work Str.empty = true)
    (hd_Work : PySem.W.hasDictIn K x_Work = true)
    (po_Work : PySem.W.plainOver K x_Work = true)
    (sa_Work : PySem.W.findIn K (.ref x_Work) "__setattr__" = some (some (.builtin "object.__setattr__")))
    (mk_Work : PySem.W.makesIn K x_Work = true)
    (kc_Work : PySem.W.keepIn K (.ref x_Work) = true)
    (wc_Work : PySem.W.findIn K (.ref x_Work) "__class__" = some (some (.builtin "object.__class__")))
    (wm_Work : PySem.W.mroIn K x_Work (.type "object") = some true)
    (nf_belts_Work : PySem.W.findIn K (.ref x_Work) "belts" = some none)
    (nf_knots_Work : PySem.W.findIn K (.ref x_Work) "knots" = some none)
    (aWork_init : PySem.W.findIn K (.ref x_Work) "__init__" = some (some (.ref fWork_init))) (iWork_init : PySem.W.isFn K (.ref fWork_init) = true) (lWork_init : K.lookup fWork_init = some ⟨ocWork_init, odWork_init, .func (PySem.W.fnOf "__init__" "Work.__init__" (defArgs s_Work_init) (defBody s_Work_init) (defScope s_Work_init) .none kVWork_init dcWork_init pmWork_init anWork_init cdWork_init ctWork_init), slWork_init⟩) (cWork_init : PySem.W.codeIn K cdWork_init "Work.__init__" = true) (kWork_init : PySem.W.keepIn K (.ref fWork_init) = true)
    (aWork_feeder : PySem.W.findIn K (.ref x_Work) "feeder" = some (some (.ref fWork_feeder))) (iWork_feeder : PySem.W.isFn K (.ref fWork_feeder) = true) (lWork_feeder : K.lookup fWork_feeder = some ⟨ocWork_feeder, odWork_feeder, .func (PySem.W.fnOf "feeder" "Work.feeder" (defArgs s_Work_feeder) (defBody s_Work_feeder) (defScope s_Work_feeder) .none kVWork_feeder dcWork_feeder pmWork_feeder anWork_feeder cdWork_feeder ctWork_feeder), slWork_feeder⟩) (cWork_feeder : PySem.W.codeIn K cdWork_feeder "Work.feeder" = true) (kWork_feeder : PySem.W.keepIn K (.ref fWork_feeder) = true)
    (aWork_taker : PySem.W.findIn K (.ref x_Work) "taker" = some (some (.ref fWork_taker))) (iWork_taker : PySem.W.isFn K (.ref fWork_taker) = true) (lWork_taker : K.lookup fWork_taker = some ⟨ocWork_taker, odWork_taker, .func (PySem.W.fnOf "taker" "Work.taker" (defArgs s_Work_taker) (defBody s_Work_taker) (defScope s_Work_taker) .none kVWork_taker dcWork_taker pmWork_taker anWork_taker cdWork_taker ctWork_taker), slWork_taker⟩) (cWork_taker : PySem.W.codeIn K cdWork_taker "Work.taker" = true) (kWork_taker : PySem.W.keepIn K (.ref fWork_taker) = true)
    (aWork_drains : PySem.W.findIn K (.ref x_Work) "drains" = some (some (.ref fWork_drains))) (iWork_drains : PySem.W.isFn K (.ref fWork_drains) = true) (lWork_drains : K.lookup fWork_drains = some ⟨ocWork_drains, odWork_drains, .func (PySem.W.fnOf "drains" "Work.drains" (defArgs s_Work_drains) (defBody s_Work_drains) (defScope s_Work_drains) .none kVWork_drains dcWork_drains pmWork_drains anWork_drains cdWork_drains ctWork_drains), slWork_drains⟩) (cWork_drains : PySem.W.codeIn K cdWork_drains "Work.drains" = true) (kWork_drains : PySem.W.keepIn K (.ref fWork_drains) = true)
    (aWork_sources : PySem.W.findIn K (.ref x_Work) "sources" = some (some (.ref fWork_sources))) (iWork_sources : PySem.W.isFn K (.ref fWork_sources) = true) (lWork_sources : K.lookup fWork_sources = some ⟨ocWork_sources, odWork_sources, .func (PySem.W.fnOf "sources" "Work.sources" (defArgs s_Work_sources) (defBody s_Work_sources) (defScope s_Work_sources) .none kVWork_sources dcWork_sources pmWork_sources anWork_sources cdWork_sources ctWork_sources), slWork_sources⟩) (cWork_sources : PySem.W.codeIn K cdWork_sources "Work.sources" = true) (kWork_sources : PySem.W.keepIn K (.ref fWork_sources) = true)
    (aWork_beat : PySem.W.findIn K (.ref x_Work) "beat" = some (some (.ref fWork_beat))) (iWork_beat : PySem.W.isFn K (.ref fWork_beat) = true) (lWork_beat : K.lookup fWork_beat = some ⟨ocWork_beat, odWork_beat, .func (PySem.W.fnOf "beat" "Work.beat" (defArgs s_Work_beat) (defBody s_Work_beat) (defScope s_Work_beat) .none kVWork_beat dcWork_beat pmWork_beat anWork_beat cdWork_beat ctWork_beat), slWork_beat⟩) (cWork_beat : PySem.W.codeIn K cdWork_beat "Work.beat" = true) (kWork_beat : PySem.W.keepIn K (.ref fWork_beat) = true)
    (wgn : PySem.W.specialIn K (.builtin "object.__class__") "__get__" = some (some (.builtin "getset_descriptor.__get__"))) (wtk : PySem.W.takesIn K (.builtin "object.__class__") = some true)
    (ac_MOST_ROOM : PySem.W.nsIn K mainGlobals "MOST_ROOM" = some (some (.int 6 t_MOST_ROOM)))
    (ac_MOST_PACE : PySem.W.nsIn K mainGlobals "MOST_PACE" = some (some (.int 4 t_MOST_PACE)))
    (ac_MOST_KINDS : PySem.W.nsIn K mainGlobals "MOST_KINDS" = some (some (.int 6 t_MOST_KINDS)))
    (ac_FEWEST_WAYS : PySem.W.nsIn K mainGlobals "FEWEST_WAYS" = some (some (.int 2 t_FEWEST_WAYS)))
    (ac_MOST_WAYS : PySem.W.nsIn K mainGlobals "MOST_WAYS" = some (some (.int 4 t_MOST_WAYS)))
    (ac_MOST_BELTS : PySem.W.nsIn K mainGlobals "MOST_BELTS" = some (some (.int 24 t_MOST_BELTS)))
    (ac_MOST_KNOTS : PySem.W.nsIn K mainGlobals "MOST_KNOTS" = some (some (.int 24 t_MOST_KNOTS)))
    (ac_MOST_EVEN_WAYS : PySem.W.nsIn K mainGlobals "MOST_EVEN_WAYS" = some (some (.int 8 t_MOST_EVEN_WAYS)))
    (ac_LEAST_EVEN_PACE : PySem.W.nsIn K mainGlobals "LEAST_EVEN_PACE" = some (some (.int 2 t_LEAST_EVEN_PACE)))
    (xq_BadBelt : PySem.W.excIn K x_BadBelt bmV "ValueError.__new__" = true)
    (xga_BadBelt : PySem.W.findIn K (.ref x_BadBelt) "__getattribute__" = some (some (.builtin "BaseException.__getattribute__")))
    (xgt_BadBelt : PySem.W.findIn K (.ref x_BadBelt) "__getattr__" = some none)
    (xcl_BadBelt : PySem.W.findIn K (.ref x_BadBelt) "__class__" = some (some (.builtin "object.__class__")))
    (xhd_BadBelt : PySem.W.hasDictIn K x_BadBelt = true)
    (xmo_BadBelt : PySem.W.mroIn K x_BadBelt (.type "object") = some true)
    (xmb_BadBelt : PySem.W.subIn K (.ref x_BadBelt) (.type "BaseException") = some true)
    (xq_BadKnot : PySem.W.excIn K x_BadKnot bmV "ValueError.__new__" = true)
    (xga_BadKnot : PySem.W.findIn K (.ref x_BadKnot) "__getattribute__" = some (some (.builtin "BaseException.__getattribute__")))
    (xgt_BadKnot : PySem.W.findIn K (.ref x_BadKnot) "__getattr__" = some none)
    (xcl_BadKnot : PySem.W.findIn K (.ref x_BadKnot) "__class__" = some (some (.builtin "object.__class__")))
    (xhd_BadKnot : PySem.W.hasDictIn K x_BadKnot = true)
    (xmo_BadKnot : PySem.W.mroIn K x_BadKnot (.type "object") = some true)
    (xmb_BadKnot : PySem.W.subIn K (.ref x_BadKnot) (.type "BaseException") = some true)
    (xq_BadWork : PySem.W.excIn K x_BadWork bmV "ValueError.__new__" = true)
    (xga_BadWork : PySem.W.findIn K (.ref x_BadWork) "__getattribute__" = some (some (.builtin "BaseException.__getattribute__")))
    (xgt_BadWork : PySem.W.findIn K (.ref x_BadWork) "__getattr__" = some none)
    (xcl_BadWork : PySem.W.findIn K (.ref x_BadWork) "__class__" = some (some (.builtin "object.__class__")))
    (xhd_BadWork : PySem.W.hasDictIn K x_BadWork = true)
    (xmo_BadWork : PySem.W.mroIn K x_BadWork (.type "object") = some true)
    (xmb_BadWork : PySem.W.subIn K (.ref x_BadWork) (.type "BaseException") = some true)
    (xq_BadPaces : PySem.W.excIn K x_BadPaces bmV "ValueError.__new__" = true)
    (xga_BadPaces : PySem.W.findIn K (.ref x_BadPaces) "__getattribute__" = some (some (.builtin "BaseException.__getattribute__")))
    (xgt_BadPaces : PySem.W.findIn K (.ref x_BadPaces) "__getattr__" = some none)
    (xcl_BadPaces : PySem.W.findIn K (.ref x_BadPaces) "__class__" = some (some (.builtin "object.__class__")))
    (xhd_BadPaces : PySem.W.hasDictIn K x_BadPaces = true)
    (xmo_BadPaces : PySem.W.mroIn K x_BadPaces (.type "object") = some true)
    (xmb_BadPaces : PySem.W.subIn K (.ref x_BadPaces) (.type "BaseException") = some true)
    (xgn : PySem.W.specialIn K (.builtin "object.__class__") "__get__" = some (some (.builtin "getset_descriptor.__get__")))
    (xtk : PySem.W.takesIn K (.builtin "object.__class__") = some true)
    (sub_WorkError : PySem.W.subIn K (.ref x_WorkError) (.type "BaseException") = some true)
    (hdw_WorkError : PySem.W.hasDictIn K x_WorkError = true)
    (tyw_WorkError : PySem.W.typeIn K (.ref x_WorkError) = some (.type "type"))
    (sb_BadBelt_WorkError : PySem.W.subIn K (.ref x_BadBelt) (.ref x_WorkError) = some true)
    (sb_BadKnot_WorkError : PySem.W.subIn K (.ref x_BadKnot) (.ref x_WorkError) = some true)
    (sb_BadWork_WorkError : PySem.W.subIn K (.ref x_BadWork) (.ref x_WorkError) = some true)
    (sb_BadPaces_WorkError : PySem.W.subIn K (.ref x_BadPaces) (.ref x_WorkError) = some true)
    (k1_Belt_Drain : PySem.W.kitOne K (.ref x_Belt) (.ref x_Drain) = some false)
    (k1_Knot_Drain : PySem.W.kitOne K (.ref x_Knot) (.ref x_Drain) = some false)
    (k1_Source_Drain : PySem.W.kitOne K (.ref x_Source) (.ref x_Drain) = some false)
    (k1_Drain_Drain : PySem.W.kitOne K (.ref x_Drain) (.ref x_Drain) = some true)
    (k1_Parter_Drain : PySem.W.kitOne K (.ref x_Parter) (.ref x_Drain) = some false)
    (k1_Joiner_Drain : PySem.W.kitOne K (.ref x_Joiner) (.ref x_Drain) = some false)
    (k1_Work_Drain : PySem.W.kitOne K (.ref x_Work) (.ref x_Drain) = some false)
    (k1_BadBelt_BadKnot : PySem.W.kitOne K (.ref x_BadBelt) (.ref x_BadKnot) = some false)
    (k1_BadKnot_BadKnot : PySem.W.kitOne K (.ref x_BadKnot) (.ref x_BadKnot) = some true)
    (k1_BadWork_BadKnot : PySem.W.kitOne K (.ref x_BadWork) (.ref x_BadKnot) = some false)
    (k1_BadPaces_BadKnot : PySem.W.kitOne K (.ref x_BadPaces) (.ref x_BadKnot) = some false)
    (k1_BadBelt_BadPaces : PySem.W.kitOne K (.ref x_BadBelt) (.ref x_BadPaces) = some false)
    (k1_BadKnot_BadPaces : PySem.W.kitOne K (.ref x_BadKnot) (.ref x_BadPaces) = some false)
    (k1_BadWork_BadPaces : PySem.W.kitOne K (.ref x_BadWork) (.ref x_BadPaces) = some false)
    (k1_BadPaces_BadPaces : PySem.W.kitOne K (.ref x_BadPaces) (.ref x_BadPaces) = some true)
    (k1_BadBelt_BadPaces_BadWork : PySem.W.kitAny K (.ref x_BadBelt) [.ref x_BadPaces, .ref x_BadWork] = some false)
    (k1_BadKnot_BadPaces_BadWork : PySem.W.kitAny K (.ref x_BadKnot) [.ref x_BadPaces, .ref x_BadWork] = some false)
    (k1_BadWork_BadPaces_BadWork : PySem.W.kitAny K (.ref x_BadWork) [.ref x_BadPaces, .ref x_BadWork] = some true)
    (k1_BadPaces_BadPaces_BadWork : PySem.W.kitAny K (.ref x_BadPaces) [.ref x_BadPaces, .ref x_BadWork] = some true)
    (k1_BadBelt_BadKnot_BadWork : PySem.W.kitAny K (.ref x_BadBelt) [.ref x_BadKnot, .ref x_BadWork] = some false)
    (k1_BadKnot_BadKnot_BadWork : PySem.W.kitAny K (.ref x_BadKnot) [.ref x_BadKnot, .ref x_BadWork] = some true)
    (k1_BadWork_BadKnot_BadWork : PySem.W.kitAny K (.ref x_BadWork) [.ref x_BadKnot, .ref x_BadWork] = some true)
    (k1_BadPaces_BadKnot_BadWork : PySem.W.kitAny K (.ref x_BadPaces) [.ref x_BadKnot, .ref x_BadWork] = some false)
    (k1_Belt_Source : PySem.W.kitOne K (.ref x_Belt) (.ref x_Source) = some false)
    (k1_Knot_Source : PySem.W.kitOne K (.ref x_Knot) (.ref x_Source) = some false)
    (k1_Source_Source : PySem.W.kitOne K (.ref x_Source) (.ref x_Source) = some true)
    (k1_Drain_Source : PySem.W.kitOne K (.ref x_Drain) (.ref x_Source) = some false)
    (k1_Parter_Source : PySem.W.kitOne K (.ref x_Parter) (.ref x_Source) = some false)
    (k1_Joiner_Source : PySem.W.kitOne K (.ref x_Joiner) (.ref x_Source) = some false)
    (k1_Work_Source : PySem.W.kitOne K (.ref x_Work) (.ref x_Source) = some false)
    (k1_Belt_Parter : PySem.W.kitOne K (.ref x_Belt) (.ref x_Parter) = some false)
    (k1_Knot_Parter : PySem.W.kitOne K (.ref x_Knot) (.ref x_Parter) = some false)
    (k1_Source_Parter : PySem.W.kitOne K (.ref x_Source) (.ref x_Parter) = some false)
    (k1_Drain_Parter : PySem.W.kitOne K (.ref x_Drain) (.ref x_Parter) = some false)
    (k1_Parter_Parter : PySem.W.kitOne K (.ref x_Parter) (.ref x_Parter) = some true)
    (k1_Joiner_Parter : PySem.W.kitOne K (.ref x_Joiner) (.ref x_Parter) = some false)
    (k1_Work_Parter : PySem.W.kitOne K (.ref x_Work) (.ref x_Parter) = some false)
    (k1_Belt_Joiner : PySem.W.kitOne K (.ref x_Belt) (.ref x_Joiner) = some false)
    (k1_Knot_Joiner : PySem.W.kitOne K (.ref x_Knot) (.ref x_Joiner) = some false)
    (k1_Source_Joiner : PySem.W.kitOne K (.ref x_Source) (.ref x_Joiner) = some false)
    (k1_Drain_Joiner : PySem.W.kitOne K (.ref x_Drain) (.ref x_Joiner) = some false)
    (k1_Parter_Joiner : PySem.W.kitOne K (.ref x_Parter) (.ref x_Joiner) = some false)
    (k1_Joiner_Joiner : PySem.W.kitOne K (.ref x_Joiner) (.ref x_Joiner) = some true)
    (k1_Work_Joiner : PySem.W.kitOne K (.ref x_Work) (.ref x_Joiner) = some false)
    : ∃ fd : FuncData, (∀ (s : Shared) (v : Value), BindsTo s fd ⟨[v], []⟩ [("_law_script", v)]) ∧ ∀ base : Heap, K.In base → base.Ns mainGlobals mg → FnOk l.prog w K mg base (CXr l.prog w) 9 fa fd ["_law_script"] (spLaw K) := by
  have e := hfa.symm.trans (PySem.W.mg_of X G aL)
  cases e
  have T : Txt K mg ⟨x_WorkError, x_BadBelt, x_BadKnot, x_BadWork, x_BadPaces, x_Belt, x_Knot, x_Source, x_Drain, x_Parter, x_Joiner, x_Work⟩ := {
    h__wall := fa_mk (st := s__wall) (ps := ["k"]) X G a0 l0 c0 k0 fun _ _ _ _ _ _ us hl => match us, hl with | [_], _ => rfl
    h_check_pace := fa_mk (st := s_check_pace) (ps := ["pace", "least"]) X G a1 l1 c1 k1 fun _ _ _ _ _ _ us hl => match us, hl with | [_, _], _ => rfl
    h_check_kind := fa_mk (st := s_check_kind) (ps := ["kind"]) X G a2 l2 c2 k2 fun _ _ _ _ _ _ us hl => match us, hl with | [_], _ => rfl
    h_check_ways := fa_mk (st := s_check_ways) (ps := ["belts"]) X G a3 l3 c3 k3 fun _ _ _ _ _ _ us hl => match us, hl with | [_], _ => rfl
    h_check_size := fa_mk (st := s_check_size) (ps := ["belts", "knots"]) X G a4 l4 c4 k4 fun _ _ _ _ _ _ us hl => match us, hl with | [_, _], _ => rfl
    h_check_each_once := fa_mk (st := s_check_each_once) (ps := ["named", "size"]) X G a5 l5 c5 k5 fun _ _ _ _ _ _ us hl => match us, hl with | [_, _], _ => rfl
    h_ends_for := fa_mk (st := s_ends_for) (ps := ["ways"]) X G a6 l6 c6 k6 fun _ _ _ _ _ _ us hl => match us, hl with | [_], _ => rfl
    h_grow_tree := fa_mk (st := s_grow_tree) (ps := ["root", "count", "knots"]) X G a7 l7 c7 k7 fun _ _ _ _ _ _ us hl => match us, hl with | [_, _, _], _ => rfl
    h_even_work := fd_mk (st := s_even_work) (ps := ["ways", "kinds", "pace"]) X G a8 l8 c8 k8 lt8 (.cons ⟨_, rfl⟩ (.nil)) (fun s us hK hl => match us, hl with | [_, _, _], _ => PySem.W.binds_K hK rfl lt8 rfl rfl rfl) (fun s us hK hl => match us, (show us.length = 2 by simp at hl; omega) with | [_, _], _ => PySem.W.binds_K hK rfl lt8 rfl rfl rfl)
    h_L_cell := fa_mk (st := s_L_cell) (ps := ["_law_cells", "_law_k"]) X G a9 l9 c9 k9 fun _ _ _ _ _ _ us hl => match us, hl with | [_, _], _ => rfl
    h_L_kinds := fa_mk (st := s_L_kinds) (ps := ["_law_cells"]) X G a10 l10 c10 k10 fun _ _ _ _ _ _ us hl => match us, hl with | [_], _ => rfl
    h_L_made := fa_mk (st := s_L_made) (ps := ["_law_ways", "_law_kinds_here", "_law_pace", "_law_out"]) X G a11 l11 c11 k11 fun _ _ _ _ _ _ us hl => match us, hl with | [_, _, _, _], _ => rfl
    h_L_refused := fa_mk (st := s_L_refused) (ps := ["_law_ways", "_law_kinds_here", "_law_pace", "_law_due_here"]) X G a12 l12 c12 k12 fun _ _ _ _ _ _ us hl => match us, hl with | [_, _, _, _], _ => rfl
    h_L_due := fa_mk (st := s_L_due) (ps := ["_law_ways", "_law_kinds_here", "_law_pace"]) X G a13 l13 c13 k13 fun _ _ _ _ _ _ us hl => match us, hl with | [_, _, _], _ => rfl
    h_L_once := fa_mk (st := s_L_once) (ps := ["_law_rows", "_law_many"]) X G a14 l14 c14 k14 fun _ _ _ _ _ _ us hl => match us, hl with | [_, _], _ => rfl
    h_L_good := fa_mk (st := s_L_good) (ps := ["_law_work", "_law_ways", "_law_kinds_here", "_law_pace"]) X G a15 l15 c15 k15 fun _ _ _ _ _ _ us hl => match us, hl with | [_, _, _, _], _ => rfl
    m_len := PySem.W.mg_none_of X G z_len
    m_list := PySem.W.mg_none_of X G z_list
    m_sorted := PySem.W.mg_none_of X G z_sorted
    m_range := PySem.W.mg_none_of X G z_range
    m_enumerate := PySem.W.mg_none_of X G z_enumerate
    m_isinstance := PySem.W.mg_none_of X G z_isinstance
    m_all := PySem.W.mg_none_of X G z_all
    m_sum := PySem.W.mg_none_of X G z_sum
    g_WorkError := PySem.W.mg_of X G ag_WorkError
    g_BadBelt := PySem.W.mg_of X G ag_BadBelt
    g_BadKnot := PySem.W.mg_of X G ag_BadKnot
    g_BadWork := PySem.W.mg_of X G ag_BadWork
    g_BadPaces := PySem.W.mg_of X G ag_BadPaces
    g_Belt := PySem.W.mg_of X G ag_Belt
    g_Knot := PySem.W.mg_of X G ag_Knot
    g_Source := PySem.W.mg_of X G ag_Source
    g_Drain := PySem.W.mg_of X G ag_Drain
    g_Parter := PySem.W.mg_of X G ag_Parter
    g_Joiner := PySem.W.mg_of X G ag_Joiner
    g_Work := PySem.W.mg_of X G ag_Work
    C_Belt := ⟨pg_Belt, hd_Belt, po_Belt, sa_Belt⟩
    N_Belt_room := nf_room_Belt
    N_Belt_pace := nf_pace_Belt
    W_Belt := ⟨wc_Belt, wm_Belt, wgn, wtk⟩
    h_Belt_init := fk_mk (st := s_Belt_init) (ps := ["self", "room", "pace"]) mk_Belt kc_Belt aBelt_init iBelt_init lBelt_init cBelt_init kBelt_init fun _ _ _ _ _ _ us hl => match us, hl with | [_, _, _], _ => rfl
    C_Knot := ⟨pg_Knot, hd_Knot, po_Knot, sa_Knot⟩
    N_Knot_ins := nf_ins_Knot
    N_Knot_outs := nf_outs_Knot
    W_Knot := ⟨wc_Knot, wm_Knot, wgn, wtk⟩
    h_Knot_init := fk_mk (st := s_Knot_init) (ps := ["self", "ins", "outs"]) mk_Knot kc_Knot aKnot_init iKnot_init lKnot_init cKnot_init kKnot_init fun _ _ _ _ _ _ us hl => match us, hl with | [_, _, _], _ => rfl
    b_Knot_init := fb_mk (st := s_Knot_init) (ps := ["self", "ins", "outs"]) (PySem.W.mg_of X G ag_Knot) bga_Knot_init brd_Knot_init bfc_Knot_init lKnot_init cKnot_init kKnot_init fun _ _ _ _ _ _ us hl => match us, hl with | [_, _, _], _ => rfl
    h_Knot_choice := fm_mk (st := s_Knot_choice) (ps := ["self", "heads", "free", "turn", "side"]) aKnot_choice iKnot_choice lKnot_choice cKnot_choice kKnot_choice fun _ _ _ _ _ _ us hl => match us, hl with | [_, _, _, _, _], _ => rfl
    h_Knot_copied := fm_mk (st := s_Knot_copied) (ps := ["self"]) aKnot_copied iKnot_copied lKnot_copied cKnot_copied kKnot_copied fun _ _ _ _ _ _ us hl => match us, hl with | [_], _ => rfl
    C_Source := ⟨pg_Source, hd_Source, po_Source, sa_Source⟩
    N_Source_pace := nf_pace_Source
    N_Source_kinds := nf_kinds_Source
    N_Source_ins := nf_ins_Source
    N_Source_outs := nf_outs_Source
    W_Source := ⟨wc_Source, wm_Source, wgn, wtk⟩
    h_Source_init := fk_mk (st := s_Source_init) (ps := ["self", "out", "pace", "kinds"]) mk_Source kc_Source aSource_init iSource_init lSource_init cSource_init kSource_init fun _ _ _ _ _ _ us hl => match us, hl with | [_, _, _, _], _ => rfl
    h_Source_choice := fm_mk (st := s_Source_choice) (ps := ["self", "heads", "free", "turn", "side"]) aSource_choice iSource_choice lSource_choice cSource_choice kSource_choice fun _ _ _ _ _ _ us hl => match us, hl with | [_, _, _, _, _], _ => rfl
    h_Source_copied := fm_mk (st := s_Source_copied) (ps := ["self"]) aSource_copied iSource_copied lSource_copied cSource_copied kSource_copied fun _ _ _ _ _ _ us hl => match us, hl with | [_], _ => rfl
    C_Drain := ⟨pg_Drain, hd_Drain, po_Drain, sa_Drain⟩
    N_Drain_pace := nf_pace_Drain
    N_Drain_ins := nf_ins_Drain
    N_Drain_outs := nf_outs_Drain
    W_Drain := ⟨wc_Drain, wm_Drain, wgn, wtk⟩
    h_Drain_init := fk_mk (st := s_Drain_init) (ps := ["self", "into", "pace"]) mk_Drain kc_Drain aDrain_init iDrain_init lDrain_init cDrain_init kDrain_init fun _ _ _ _ _ _ us hl => match us, hl with | [_, _, _], _ => rfl
    h_Drain_choice := fm_mk (st := s_Drain_choice) (ps := ["self", "heads", "free", "turn", "side"]) aDrain_choice iDrain_choice lDrain_choice cDrain_choice kDrain_choice fun _ _ _ _ _ _ us hl => match us, hl with | [_, _, _, _, _], _ => rfl
    h_Drain_copied := fm_mk (st := s_Drain_copied) (ps := ["self"]) aDrain_copied iDrain_copied lDrain_copied cDrain_copied kDrain_copied fun _ _ _ _ _ _ us hl => match us, hl with | [_], _ => rfl
    C_Parter := ⟨pg_Parter, hd_Parter, po_Parter, sa_Parter⟩
    N_Parter_ins := nf_ins_Parter
    N_Parter_outs := nf_outs_Parter
    W_Parter := ⟨wc_Parter, wm_Parter, wgn, wtk⟩
    h_Parter_init := fk_mk (st := s_Parter_init) (ps := ["self", "into", "outs"]) mk_Parter kc_Parter aParter_init iParter_init lParter_init cParter_init kParter_init fun _ _ _ _ _ _ us hl => match us, hl with | [_, _, _], _ => rfl
    h_Parter_choice := fm_mk (st := s_Parter_choice) (ps := ["self", "heads", "free", "turn", "side"]) aParter_choice iParter_choice lParter_choice cParter_choice kParter_choice fun _ _ _ _ _ _ us hl => match us, hl with | [_, _, _, _, _], _ => rfl
    h_Parter_copied := fm_mk (st := s_Parter_copied) (ps := ["self"]) aParter_copied iParter_copied lParter_copied cParter_copied kParter_copied fun _ _ _ _ _ _ us hl => match us, hl with | [_], _ => rfl
    C_Joiner := ⟨pg_Joiner, hd_Joiner, po_Joiner, sa_Joiner⟩
    N_Joiner_ins := nf_ins_Joiner
    N_Joiner_outs := nf_outs_Joiner
    W_Joiner := ⟨wc_Joiner, wm_Joiner, wgn, wtk⟩
    h_Joiner_init := fk_mk (st := s_Joiner_init) (ps := ["self", "ins", "out"]) mk_Joiner kc_Joiner aJoiner_init iJoiner_init lJoiner_init cJoiner_init kJoiner_init fun _ _ _ _ _ _ us hl => match us, hl with | [_, _, _], _ => rfl
    h_Joiner_choice := fm_mk (st := s_Joiner_choice) (ps := ["self", "heads", "free", "turn", "side"]) aJoiner_choice iJoiner_choice lJoiner_choice cJoiner_choice kJoiner_choice fun _ _ _ _ _ _ us hl => match us, hl with | [_, _, _, _, _], _ => rfl
    h_Joiner_copied := fm_mk (st := s_Joiner_copied) (ps := ["self"]) aJoiner_copied iJoiner_copied lJoiner_copied cJoiner_copied kJoiner_copied fun _ _ _ _ _ _ us hl => match us, hl with | [_], _ => rfl
    C_Work := ⟨pg_Work, hd_Work, po_Work, sa_Work⟩
    N_Work_belts := nf_belts_Work
    N_Work_knots := nf_knots_Work
    W_Work := ⟨wc_Work, wm_Work, wgn, wtk⟩
    h_Work_init := fk_mk (st := s_Work_init) (ps := ["self", "belts", "knots"]) mk_Work kc_Work aWork_init iWork_init lWork_init cWork_init kWork_init fun _ _ _ _ _ _ us hl => match us, hl with | [_, _, _], _ => rfl
    h_Work_feeder := fm_mk (st := s_Work_feeder) (ps := ["self", "belt"]) aWork_feeder iWork_feeder lWork_feeder cWork_feeder kWork_feeder fun _ _ _ _ _ _ us hl => match us, hl with | [_, _], _ => rfl
    h_Work_taker := fm_mk (st := s_Work_taker) (ps := ["self", "belt"]) aWork_taker iWork_taker lWork_taker cWork_taker kWork_taker fun _ _ _ _ _ _ us hl => match us, hl with | [_, _], _ => rfl
    h_Work_drains := fm_mk (st := s_Work_drains) (ps := ["self"]) aWork_drains iWork_drains lWork_drains cWork_drains kWork_drains fun _ _ _ _ _ _ us hl => match us, hl with | [_], _ => rfl
    h_Work_sources := fm_mk (st := s_Work_sources) (ps := ["self"]) aWork_sources iWork_sources lWork_sources cWork_sources kWork_sources fun _ _ _ _ _ _ us hl => match us, hl with | [_], _ => rfl
    h_Work_beat := fm_mk (st := s_Work_beat) (ps := ["self"]) aWork_beat iWork_beat lWork_beat cWork_beat kWork_beat fun _ _ _ _ _ _ us hl => match us, hl with | [_], _ => rfl
    g_MOST_ROOM := ⟨_, PySem.W.mg_of X G ac_MOST_ROOM⟩
    g_MOST_PACE := ⟨_, PySem.W.mg_of X G ac_MOST_PACE⟩
    g_MOST_KINDS := ⟨_, PySem.W.mg_of X G ac_MOST_KINDS⟩
    g_FEWEST_WAYS := ⟨_, PySem.W.mg_of X G ac_FEWEST_WAYS⟩
    g_MOST_WAYS := ⟨_, PySem.W.mg_of X G ac_MOST_WAYS⟩
    g_MOST_BELTS := ⟨_, PySem.W.mg_of X G ac_MOST_BELTS⟩
    g_MOST_KNOTS := ⟨_, PySem.W.mg_of X G ac_MOST_KNOTS⟩
    g_MOST_EVEN_WAYS := ⟨_, PySem.W.mg_of X G ac_MOST_EVEN_WAYS⟩
    g_LEAST_EVEN_PACE := ⟨_, PySem.W.mg_of X G ac_LEAST_EVEN_PACE⟩
    X_BadBelt := ⟨xq_BadBelt⟩
    XI_BadBelt := ⟨xga_BadBelt, xgt_BadBelt, xcl_BadBelt, xhd_BadBelt, xgn, xtk, xmo_BadBelt, xmb_BadBelt⟩
    X_BadKnot := ⟨xq_BadKnot⟩
    XI_BadKnot := ⟨xga_BadKnot, xgt_BadKnot, xcl_BadKnot, xhd_BadKnot, xgn, xtk, xmo_BadKnot, xmb_BadKnot⟩
    X_BadWork := ⟨xq_BadWork⟩
    XI_BadWork := ⟨xga_BadWork, xgt_BadWork, xcl_BadWork, xhd_BadWork, xgn, xtk, xmo_BadWork, xmb_BadWork⟩
    X_BadPaces := ⟨xq_BadPaces⟩
    XI_BadPaces := ⟨xga_BadPaces, xgt_BadPaces, xcl_BadPaces, xhd_BadPaces, xgn, xtk, xmo_BadPaces, xmb_BadPaces⟩
    S_WorkError := sub_WorkError
    E_BadBelt_WorkError := kitCls_of hdw_WorkError tyw_WorkError sb_BadBelt_WorkError
    E_BadKnot_WorkError := kitCls_of hdw_WorkError tyw_WorkError sb_BadKnot_WorkError
    E_BadWork_WorkError := kitCls_of hdw_WorkError tyw_WorkError sb_BadWork_WorkError
    E_BadPaces_WorkError := kitCls_of hdw_WorkError tyw_WorkError sb_BadPaces_WorkError
    k1_Belt_Drain := k1_Belt_Drain
    k1_Knot_Drain := k1_Knot_Drain
    k1_Source_Drain := k1_Source_Drain
    k1_Drain_Drain := k1_Drain_Drain
    k1_Parter_Drain := k1_Parter_Drain
    k1_Joiner_Drain := k1_Joiner_Drain
    k1_Work_Drain := k1_Work_Drain
    k1_BadBelt_BadKnot := k1_BadBelt_BadKnot
    k1_BadKnot_BadKnot := k1_BadKnot_BadKnot
    k1_BadWork_BadKnot := k1_BadWork_BadKnot
    k1_BadPaces_BadKnot := k1_BadPaces_BadKnot
    k1_BadBelt_BadPaces := k1_BadBelt_BadPaces
    k1_BadKnot_BadPaces := k1_BadKnot_BadPaces
    k1_BadWork_BadPaces := k1_BadWork_BadPaces
    k1_BadPaces_BadPaces := k1_BadPaces_BadPaces
    k1_BadBelt_BadPaces_BadWork := k1_BadBelt_BadPaces_BadWork
    k1_BadKnot_BadPaces_BadWork := k1_BadKnot_BadPaces_BadWork
    k1_BadWork_BadPaces_BadWork := k1_BadWork_BadPaces_BadWork
    k1_BadPaces_BadPaces_BadWork := k1_BadPaces_BadPaces_BadWork
    k1_BadBelt_BadKnot_BadWork := k1_BadBelt_BadKnot_BadWork
    k1_BadKnot_BadKnot_BadWork := k1_BadKnot_BadKnot_BadWork
    k1_BadWork_BadKnot_BadWork := k1_BadWork_BadKnot_BadWork
    k1_BadPaces_BadKnot_BadWork := k1_BadPaces_BadKnot_BadWork
    k1_Belt_Source := k1_Belt_Source
    k1_Knot_Source := k1_Knot_Source
    k1_Source_Source := k1_Source_Source
    k1_Drain_Source := k1_Drain_Source
    k1_Parter_Source := k1_Parter_Source
    k1_Joiner_Source := k1_Joiner_Source
    k1_Work_Source := k1_Work_Source
    k1_Belt_Parter := k1_Belt_Parter
    k1_Knot_Parter := k1_Knot_Parter
    k1_Source_Parter := k1_Source_Parter
    k1_Drain_Parter := k1_Drain_Parter
    k1_Parter_Parter := k1_Parter_Parter
    k1_Joiner_Parter := k1_Joiner_Parter
    k1_Work_Parter := k1_Work_Parter
    k1_Belt_Joiner := k1_Belt_Joiner
    k1_Knot_Joiner := k1_Knot_Joiner
    k1_Source_Joiner := k1_Source_Joiner
    k1_Drain_Joiner := k1_Drain_Joiner
    k1_Parter_Joiner := k1_Parter_Joiner
    k1_Joiner_Joiner := k1_Joiner_Joiner
    k1_Work_Joiner := k1_Work_Joiner
  }
  exact ⟨_, fun s v => .of_eq rfl, fun base _ _ => top_ok T (fun_mk (st := s_law) lL cL kL)⟩
theorem walk {l : PySem.W.OpenLaw} {q : Program} {loose : List Str} {XP : (Str → Option Value) → Heap → Prop} {YP : World → Heap → Prop} {d : DefRec} {K : Params → PySem.W.Frag} (hn : l.most = some 63) (hdf : d.params.defaults = [])
    (hY : ∀ (w : World) (h : Heap), YP w h → (K w.params).In h)
    (F : ∀ (w : World) (mg : Str → Option Value) (fa : Addr) (h : Heap), (K w.params).In h → h.Ns mainGlobals mg → mg d.name = some (.ref fa) →
      ∃ fd : FuncData, (∀ (s : Shared) (u : Value), BindsTo s fd ⟨[u], []⟩ [("_law_script", u)]) ∧ ∀ base : Heap, (K w.params).In base → base.Ns mainGlobals mg → FnOk l.prog w (K w.params) mg base (CXr l.prog w) 9 fa fd ["_law_script"] (spLaw (K w.params))) :
    PySem.W.WalkO q loose XP YP l.row.toRowW d [] (fun f vs => PySem.call f vs) :=
  L2.walk_of (n := 63) (k := 9) (x := "_law_script") (CX := fun w => CXr l.prog w) (sp := fun w => spLaw (K w.params)) hn (by decide) hdf ⟨rfl, by decide, by decide⟩ hY F (fun _ _ a ns hl _ hS => ⟨a, ns, rfl, hS, hl, fun _ => rfl⟩) fun _ _ _ _ _ z => cxr_false z
end K43
set_option Elab.async false
def PySem.W.Fast.tw5040936019966930155 : Unit := ()
def PySem.W.Fast.tw15533579371158436909 : Unit := ()
def PySem.W.Fast.tw13384456202830756533 : Unit := ()
def PySem.W.Fast.tw16563463599637721889 : Unit := ()
def PySem.W.Fast.tw6216511271371703617 : Unit := ()
def PySem.W.Fast.tw10131517685438895244 : Unit := ()
def PySem.W.Fast.tw2806215107302325756 : Unit := ()
def PySem.W.Fast.tw2528779697448880490 : Unit := ()
def PySem.W.Fast.tw6960189278740498242 : Unit := ()
def PySem.W.Fast.tw7430669088206707459 : Unit := ()
def PySem.W.Fast.tw6119236106973943877 : Unit := ()
def PySem.W.Fast.tw1885314978990699052 : Unit := ()
open PySem PySem.W PyProof.Rows
set_option maxRecDepth 100000 in
set_option maxHeartbeats 0 in
theorem PySem.Challenge.cw_beltshares_k43_a_made_work_holds : PySem.Challenge.rw_beltshares_k43_a_made_work.Holds := by
  w_on; o_law; k_head; (case hw => w_witness2)
  k_fill
  refine K43.walk (l := PySem.Challenge.rw_beltshares_k43_a_made_work) rfl rfl (fun w h Y => PySem.W.kIn_of Y) ?F
  case F =>
    intro w mg fa h KX G hmg
    refine' K43.all_mk KX G hmg ?a0 ?l0 ?c0 ?k0 ?a1 ?l1 ?c1 ?k1 ?a2 ?l2 ?c2 ?k2 ?a3 ?l3 ?c3 ?k3 ?a4 ?l4 ?c4 ?k4 ?a5 ?l5 ?c5 ?k5 ?a6 ?l6 ?c6 ?k6 ?a7 ?l7 ?c7 ?k7 ?a8 ?l8 ?c8 ?k8 ?lt8 ?a9 ?l9 ?c9 ?k9 ?a10 ?l10 ?c10 ?k10 ?a11 ?l11 ?c11 ?k11 ?a12 ?l12 ?c12 ?k12 ?a13 ?l13 ?c13 ?k13 ?a14 ?l14 ?c14 ?k14 ?a15 ?l15 ?c15 ?k15 ?aL ?lL ?cL ?kL ?z_len ?z_list ?z_sorted ?z_range ?z_enumerate ?z_isinstance ?z_all ?z_sum ?ag_WorkError ?ag_BadBelt ?ag_BadKnot ?ag_BadWork ?ag_BadPaces ?ag_Belt ?ag_Knot ?ag_Source ?ag_Drain ?ag_Parter ?ag_Joiner ?ag_Work ?pg_Belt ?hd_Belt ?po_Belt ?sa_Belt ?mk_Belt ?kc_Belt ?wc_Belt ?wm_Belt ?nf_room_Belt ?nf_pace_Belt ?aBelt_init ?iBelt_init ?lBelt_init ?cBelt_init ?kBelt_init ?pg_Knot ?hd_Knot ?po_Knot ?sa_Knot ?mk_Knot ?kc_Knot ?wc_Knot ?wm_Knot ?nf_ins_Knot ?nf_outs_Knot ?aKnot_init ?iKnot_init ?lKnot_init ?cKnot_init ?kKnot_init ?bga_Knot_init ?brd_Knot_init ?bfc_Knot_init ?aKnot_choice ?iKnot_choice ?lKnot_choice ?cKnot_choice ?kKnot_choice ?aKnot_copied ?iKnot_copied ?lKnot_copied ?cKnot_copied ?kKnot_copied ?pg_Source ?hd_Source ?po_Source ?sa_Source ?mk_Source ?kc_Source ?wc_Source ?wm_Source ?nf_pace_Source ?nf_kinds_Source ?nf_ins_Source ?nf_outs_Source ?aSource_init ?iSource_init ?lSource_init ?cSource_init ?kSource_init ?aSource_choice ?iSource_choice ?lSource_choice ?cSource_choice ?kSource_choice ?aSource_copied ?iSource_copied ?lSource_copied ?cSource_copied ?kSource_copied ?pg_Drain ?hd_Drain ?po_Drain ?sa_Drain ?mk_Drain ?kc_Drain ?wc_Drain ?wm_Drain ?nf_pace_Drain ?nf_ins_Drain ?nf_outs_Drain ?aDrain_init ?iDrain_init ?lDrain_init ?cDrain_init ?kDrain_init ?aDrain_choice ?iDrain_choice ?lDrain_choice ?cDrain_choice ?kDrain_choice ?aDrain_copied ?iDrain_copied ?lDrain_copied ?cDrain_copied ?kDrain_copied ?pg_Parter ?hd_Parter ?po_Parter ?sa_Parter ?mk_Parter ?kc_Parter ?wc_Parter ?wm_Parter ?nf_ins_Parter ?nf_outs_Parter ?aParter_init ?iParter_init ?lParter_init ?cParter_init ?kParter_init ?aParter_choice ?iParter_choice ?lParter_choice ?cParter_choice ?kParter_choice ?aParter_copied ?iParter_copied ?lParter_copied ?cParter_copied ?kParter_copied ?pg_Joiner ?hd_Joiner ?po_Joiner ?sa_Joiner ?mk_Joiner ?kc_Joiner ?wc_Joiner ?wm_Joiner ?nf_ins_Joiner ?nf_outs_Joiner ?aJoiner_init ?iJoiner_init ?lJoiner_init ?cJoiner_init ?kJoiner_init ?aJoiner_choice ?iJoiner_choice ?lJoiner_choice ?cJoiner_choice ?kJoiner_choice ?aJoiner_copied ?iJoiner_copied ?lJoiner_copied ?cJoiner_copied ?kJoiner_copied ?pg_Work ?hd_Work ?po_Work ?sa_Work ?mk_Work ?kc_Work ?wc_Work ?wm_Work ?nf_belts_Work ?nf_knots_Work ?aWork_init ?iWork_init ?lWork_init ?cWork_init ?kWork_init ?aWork_feeder ?iWork_feeder ?lWork_feeder ?cWork_feeder ?kWork_feeder ?aWork_taker ?iWork_taker ?lWork_taker ?cWork_taker ?kWork_taker ?aWork_drains ?iWork_drains ?lWork_drains ?cWork_drains ?kWork_drains ?aWork_sources ?iWork_sources ?lWork_sources ?cWork_sources ?kWork_sources ?aWork_beat ?iWork_beat ?lWork_beat ?cWork_beat ?kWork_beat ?wgn ?wtk ?ac_MOST_ROOM ?ac_MOST_PACE ?ac_MOST_KINDS ?ac_FEWEST_WAYS ?ac_MOST_WAYS ?ac_MOST_BELTS ?ac_MOST_KNOTS ?ac_MOST_EVEN_WAYS ?ac_LEAST_EVEN_PACE ?xq_BadBelt ?xga_BadBelt ?xgt_BadBelt ?xcl_BadBelt ?xhd_BadBelt ?xmo_BadBelt ?xmb_BadBelt ?xq_BadKnot ?xga_BadKnot ?xgt_BadKnot ?xcl_BadKnot ?xhd_BadKnot ?xmo_BadKnot ?xmb_BadKnot ?xq_BadWork ?xga_BadWork ?xgt_BadWork ?xcl_BadWork ?xhd_BadWork ?xmo_BadWork ?xmb_BadWork ?xq_BadPaces ?xga_BadPaces ?xgt_BadPaces ?xcl_BadPaces ?xhd_BadPaces ?xmo_BadPaces ?xmb_BadPaces ?xgn ?xtk ?sub_WorkError ?hdw_WorkError ?tyw_WorkError ?sb_BadBelt_WorkError ?sb_BadKnot_WorkError ?sb_BadWork_WorkError ?sb_BadPaces_WorkError ?k1_Belt_Drain ?k1_Knot_Drain ?k1_Source_Drain ?k1_Drain_Drain ?k1_Parter_Drain ?k1_Joiner_Drain ?k1_Work_Drain ?k1_BadBelt_BadKnot ?k1_BadKnot_BadKnot ?k1_BadWork_BadKnot ?k1_BadPaces_BadKnot ?k1_BadBelt_BadPaces ?k1_BadKnot_BadPaces ?k1_BadWork_BadPaces ?k1_BadPaces_BadPaces ?k1_BadBelt_BadPaces_BadWork ?k1_BadKnot_BadPaces_BadWork ?k1_BadWork_BadPaces_BadWork ?k1_BadPaces_BadPaces_BadWork ?k1_BadBelt_BadKnot_BadWork ?k1_BadKnot_BadKnot_BadWork ?k1_BadWork_BadKnot_BadWork ?k1_BadPaces_BadKnot_BadWork ?k1_Belt_Source ?k1_Knot_Source ?k1_Source_Source ?k1_Drain_Source ?k1_Parter_Source ?k1_Joiner_Source ?k1_Work_Source ?k1_Belt_Parter ?k1_Knot_Parter ?k1_Source_Parter ?k1_Drain_Parter ?k1_Parter_Parter ?k1_Joiner_Parter ?k1_Work_Parter ?k1_Belt_Joiner ?k1_Knot_Joiner ?k1_Source_Joiner ?k1_Drain_Joiner ?k1_Parter_Joiner ?k1_Joiner_Joiner ?k1_Work_Joiner
    (case a0 => k_is)
    (case l0 => k_is)
    (case c0 => k_is)
    (case k0 => k_is)
    (case a1 => k_is)
    (case l1 => k_is)
    (case c1 => k_is)
    (case k1 => k_is)
    (case a2 => k_is)
    (case l2 => k_is)
    (case c2 => k_is)
    (case k2 => k_is)
    (case a3 => k_is)
    (case l3 => k_is)
    (case c3 => k_is)
    (case k3 => k_is)
    (case a4 => k_is)
    (case l4 => k_is)
    (case c4 => k_is)
    (case k4 => k_is)
    (case a5 => k_is)
    (case l5 => k_is)
    (case c5 => k_is)
    (case k5 => k_is)
    (case a6 => k_is)
    (case l6 => k_is)
    (case c6 => k_is)
    (case k6 => k_is)
    (case a7 => k_is)
    (case l7 => k_is)
    (case c7 => k_is)
    (case k7 => k_is)
    (case a8 => k_is)
    (case l8 => k_is)
    (case c8 => k_is)
    (case k8 => k_is)
    (case lt8 => k_is)
    (case a9 => k_is)
    (case l9 => k_is)
    (case c9 => k_is)
    (case k9 => k_is)
    (case a10 => k_is)
    (case l10 => k_is)
    (case c10 => k_is)
    (case k10 => k_is)
    (case a11 => k_is)
    (case l11 => k_is)
    (case c11 => k_is)
    (case k11 => k_is)
    (case a12 => k_is)
    (case l12 => k_is)
    (case c12 => k_is)
    (case k12 => k_is)
    (case a13 => k_is)
    (case l13 => k_is)
    (case c13 => k_is)
    (case k13 => k_is)
    (case a14 => k_is)
    (case l14 => k_is)
    (case c14 => k_is)
    (case k14 => k_is)
    (case a15 => k_is)
    (case l15 => k_is)
    (case c15 => k_is)
    (case k15 => k_is)
    (case aL => k_is)
    (case lL => k_is)
    (case cL => k_is)
    (case kL => k_is)
    (case z_len => k_is)
    (case z_list => k_is)
    (case z_sorted => k_is)
    (case z_range => k_is)
    (case z_enumerate => k_is)
    (case z_isinstance => k_is)
    (case z_all => k_is)
    (case z_sum => k_is)
    (case ag_WorkError => k_is)
    (case ag_BadBelt => k_is)
    (case ag_BadKnot => k_is)
    (case ag_BadWork => k_is)
    (case ag_BadPaces => k_is)
    (case ag_Belt => k_is)
    (case ag_Knot => k_is)
    (case ag_Source => k_is)
    (case ag_Drain => k_is)
    (case ag_Parter => k_is)
    (case ag_Joiner => k_is)
    (case ag_Work => k_is)
    (case pg_Belt => k_is)
    (case hd_Belt => k_is)
    (case po_Belt => k_is)
    (case sa_Belt => k_is)
    (case mk_Belt => k_is)
    (case kc_Belt => k_is)
    (case wc_Belt => k_is)
    (case wm_Belt => k_is)
    (case nf_room_Belt => k_is)
    (case nf_pace_Belt => k_is)
    (case aBelt_init => k_is)
    (case iBelt_init => k_is)
    (case lBelt_init => k_is)
    (case cBelt_init => k_is)
    (case kBelt_init => k_is)
    (case pg_Knot => k_is)
    (case hd_Knot => k_is)
    (case po_Knot => k_is)
    (case sa_Knot => k_is)
    (case mk_Knot => k_is)
    (case kc_Knot => k_is)
    (case wc_Knot => k_is)
    (case wm_Knot => k_is)
    (case nf_ins_Knot => k_is)
    (case nf_outs_Knot => k_is)
    (case aKnot_init => k_is)
    (case iKnot_init => k_is)
    (case lKnot_init => k_is)
    (case cKnot_init => k_is)
    (case kKnot_init => k_is)
    (case bga_Knot_init => k_is)
    (case brd_Knot_init => k_is)
    (case bfc_Knot_init => k_is)
    (case aKnot_choice => k_is)
    (case iKnot_choice => k_is)
    (case lKnot_choice => k_is)
    (case cKnot_choice => k_is)
    (case kKnot_choice => k_is)
    (case aKnot_copied => k_is)
    (case iKnot_copied => k_is)
    (case lKnot_copied => k_is)
    (case cKnot_copied => k_is)
    (case kKnot_copied => k_is)
    (case pg_Source => k_is)
    (case hd_Source => k_is)
    (case po_Source => k_is)
    (case sa_Source => k_is)
    (case mk_Source => k_is)
    (case kc_Source => k_is)
    (case wc_Source => k_is)
    (case wm_Source => k_is)
    (case nf_pace_Source => k_is)
    (case nf_kinds_Source => k_is)
    (case nf_ins_Source => k_is)
    (case nf_outs_Source => k_is)
    (case aSource_init => k_is)
    (case iSource_init => k_is)
    (case lSource_init => k_is)
    (case cSource_init => k_is)
    (case kSource_init => k_is)
    (case aSource_choice => k_is)
    (case iSource_choice => k_is)
    (case lSource_choice => k_is)
    (case cSource_choice => k_is)
    (case kSource_choice => k_is)
    (case aSource_copied => k_is)
    (case iSource_copied => k_is)
    (case lSource_copied => k_is)
    (case cSource_copied => k_is)
    (case kSource_copied => k_is)
    (case pg_Drain => k_is)
    (case hd_Drain => k_is)
    (case po_Drain => k_is)
    (case sa_Drain => k_is)
    (case mk_Drain => k_is)
    (case kc_Drain => k_is)
    (case wc_Drain => k_is)
    (case wm_Drain => k_is)
    (case nf_pace_Drain => k_is)
    (case nf_ins_Drain => k_is)
    (case nf_outs_Drain => k_is)
    (case aDrain_init => k_is)
    (case iDrain_init => k_is)
    (case lDrain_init => k_is)
    (case cDrain_init => k_is)
    (case kDrain_init => k_is)
    (case aDrain_choice => k_is)
    (case iDrain_choice => k_is)
    (case lDrain_choice => k_is)
    (case cDrain_choice => k_is)
    (case kDrain_choice => k_is)
    (case aDrain_copied => k_is)
    (case iDrain_copied => k_is)
    (case lDrain_copied => k_is)
    (case cDrain_copied => k_is)
    (case kDrain_copied => k_is)
    (case pg_Parter => k_is)
    (case hd_Parter => k_is)
    (case po_Parter => k_is)
    (case sa_Parter => k_is)
    (case mk_Parter => k_is)
    (case kc_Parter => k_is)
    (case wc_Parter => k_is)
    (case wm_Parter => k_is)
    (case nf_ins_Parter => k_is)
    (case nf_outs_Parter => k_is)
    (case aParter_init => k_is)
    (case iParter_init => k_is)
    (case lParter_init => k_is)
    (case cParter_init => k_is)
    (case kParter_init => k_is)
    (case aParter_choice => k_is)
    (case iParter_choice => k_is)
    (case lParter_choice => k_is)
    (case cParter_choice => k_is)
    (case kParter_choice => k_is)
    (case aParter_copied => k_is)
    (case iParter_copied => k_is)
    (case lParter_copied => k_is)
    (case cParter_copied => k_is)
    (case kParter_copied => k_is)
    (case pg_Joiner => k_is)
    (case hd_Joiner => k_is)
    (case po_Joiner => k_is)
    (case sa_Joiner => k_is)
    (case mk_Joiner => k_is)
    (case kc_Joiner => k_is)
    (case wc_Joiner => k_is)
    (case wm_Joiner => k_is)
    (case nf_ins_Joiner => k_is)
    (case nf_outs_Joiner => k_is)
    (case aJoiner_init => k_is)
    (case iJoiner_init => k_is)
    (case lJoiner_init => k_is)
    (case cJoiner_init => k_is)
    (case kJoiner_init => k_is)
    (case aJoiner_choice => k_is)
    (case iJoiner_choice => k_is)
    (case lJoiner_choice => k_is)
    (case cJoiner_choice => k_is)
    (case kJoiner_choice => k_is)
    (case aJoiner_copied => k_is)
    (case iJoiner_copied => k_is)
    (case lJoiner_copied => k_is)
    (case cJoiner_copied => k_is)
    (case kJoiner_copied => k_is)
    (case pg_Work => k_is)
    (case hd_Work => k_is)
    (case po_Work => k_is)
    (case sa_Work => k_is)
    (case mk_Work => k_is)
    (case kc_Work => k_is)
    (case wc_Work => k_is)
    (case wm_Work => k_is)
    (case nf_belts_Work => k_is)
    (case nf_knots_Work => k_is)
    (case aWork_init => k_is)
    (case iWork_init => k_is)
    (case lWork_init => k_is)
    (case cWork_init => k_is)
    (case kWork_init => k_is)
    (case aWork_feeder => k_is)
    (case iWork_feeder => k_is)
    (case lWork_feeder => k_is)
    (case cWork_feeder => k_is)
    (case kWork_feeder => k_is)
    (case aWork_taker => k_is)
    (case iWork_taker => k_is)
    (case lWork_taker => k_is)
    (case cWork_taker => k_is)
    (case kWork_taker => k_is)
    (case aWork_drains => k_is)
    (case iWork_drains => k_is)
    (case lWork_drains => k_is)
    (case cWork_drains => k_is)
    (case kWork_drains => k_is)
    (case aWork_sources => k_is)
    (case iWork_sources => k_is)
    (case lWork_sources => k_is)
    (case cWork_sources => k_is)
    (case kWork_sources => k_is)
    (case aWork_beat => k_is)
    (case iWork_beat => k_is)
    (case lWork_beat => k_is)
    (case cWork_beat => k_is)
    (case kWork_beat => k_is)
    (case wgn => k_is)
    (case wtk => k_is)
    (case ac_MOST_ROOM => k_is)
    (case ac_MOST_PACE => k_is)
    (case ac_MOST_KINDS => k_is)
    (case ac_FEWEST_WAYS => k_is)
    (case ac_MOST_WAYS => k_is)
    (case ac_MOST_BELTS => k_is)
    (case ac_MOST_KNOTS => k_is)
    (case ac_MOST_EVEN_WAYS => k_is)
    (case ac_LEAST_EVEN_PACE => k_is)
    (case xq_BadBelt => k_exc)
    (case xga_BadBelt => k_is)
    (case xgt_BadBelt => k_is)
    (case xcl_BadBelt => k_is)
    (case xhd_BadBelt => k_is)
    (case xmo_BadBelt => k_is)
    (case xmb_BadBelt => k_is)
    (case xq_BadKnot => k_exc)
    (case xga_BadKnot => k_is)
    (case xgt_BadKnot => k_is)
    (case xcl_BadKnot => k_is)
    (case xhd_BadKnot => k_is)
    (case xmo_BadKnot => k_is)
    (case xmb_BadKnot => k_is)
    (case xq_BadWork => k_exc)
    (case xga_BadWork => k_is)
    (case xgt_BadWork => k_is)
    (case xcl_BadWork => k_is)
    (case xhd_BadWork => k_is)
    (case xmo_BadWork => k_is)
    (case xmb_BadWork => k_is)
    (case xq_BadPaces => k_exc)
    (case xga_BadPaces => k_is)
    (case xgt_BadPaces => k_is)
    (case xcl_BadPaces => k_is)
    (case xhd_BadPaces => k_is)
    (case xmo_BadPaces => k_is)
    (case xmb_BadPaces => k_is)
    (case xgn => k_is)
    (case xtk => k_is)
    (case sub_WorkError => k_is)
    (case hdw_WorkError => k_is)
    (case tyw_WorkError => k_is)
    (case sb_BadBelt_WorkError => k_is)
    (case sb_BadKnot_WorkError => k_is)
    (case sb_BadWork_WorkError => k_is)
    (case sb_BadPaces_WorkError => k_is)
    (case k1_Belt_Drain => kit_is)
    (case k1_Knot_Drain => kit_is)
    (case k1_Source_Drain => kit_is)
    (case k1_Drain_Drain => kit_is)
    (case k1_Parter_Drain => kit_is)
    (case k1_Joiner_Drain => kit_is)
    (case k1_Work_Drain => kit_is)
    (case k1_BadBelt_BadKnot => kit_is)
    (case k1_BadKnot_BadKnot => kit_is)
    (case k1_BadWork_BadKnot => kit_is)
    (case k1_BadPaces_BadKnot => kit_is)
    (case k1_BadBelt_BadPaces => kit_is)
    (case k1_BadKnot_BadPaces => kit_is)
    (case k1_BadWork_BadPaces => kit_is)
    (case k1_BadPaces_BadPaces => kit_is)
    (case k1_BadBelt_BadPaces_BadWork => kit_is)
    (case k1_BadKnot_BadPaces_BadWork => kit_is)
    (case k1_BadWork_BadPaces_BadWork => kit_is)
    (case k1_BadPaces_BadPaces_BadWork => kit_is)
    (case k1_BadBelt_BadKnot_BadWork => kit_is)
    (case k1_BadKnot_BadKnot_BadWork => kit_is)
    (case k1_BadWork_BadKnot_BadWork => kit_is)
    (case k1_BadPaces_BadKnot_BadWork => kit_is)
    (case k1_Belt_Source => kit_is)
    (case k1_Knot_Source => kit_is)
    (case k1_Source_Source => kit_is)
    (case k1_Drain_Source => kit_is)
    (case k1_Parter_Source => kit_is)
    (case k1_Joiner_Source => kit_is)
    (case k1_Work_Source => kit_is)
    (case k1_Belt_Parter => kit_is)
    (case k1_Knot_Parter => kit_is)
    (case k1_Source_Parter => kit_is)
    (case k1_Drain_Parter => kit_is)
    (case k1_Parter_Parter => kit_is)
    (case k1_Joiner_Parter => kit_is)
    (case k1_Work_Parter => kit_is)
    (case k1_Belt_Joiner => kit_is)
    (case k1_Knot_Joiner => kit_is)
    (case k1_Source_Joiner => kit_is)
    (case k1_Drain_Joiner => kit_is)
    (case k1_Parter_Joiner => kit_is)
    (case k1_Joiner_Joiner => kit_is)
    (case k1_Work_Joiner => kit_is)
