import PyProof.Rows.All
import Wide.All
import OpenK.AllK
import Wide.FinOn
import Lean
import PyProof.EqAt
import PyProof.EqKinds
import PyProof.TupleCall
import PyProof.NeKinds
import PyProof.SumWalkG
import PyProof.Rows.CallKwBuiltin
import PyProof.Rows.FStr
import PyProof.ListRange
import PyProof.ZipIter
import PyProof.CompFree
import KE.KIntText
import PyProof.StrWalks
import PyProof.Rows.StrMul
import PyProof.ConsumeWalk
import Wide.Txt
import PySem.Challenge.RW_beltshares_k28_where_wares_come_from
set_option Elab.async false
set_option linter.all false
set_option maxRecDepth 100000
set_option compiler.extract_closed false
set_option hygiene false
local macro_rules | `(tactic| walk_at "p")=>`(tactic| first | exact Or.inl rfl | exact Or.inr rfl | assumption)
local macro_rules | `(tactic| walk_at "q")=>`(tactic| first | exact L2.nobehind _ (by decide) (by decide) | rfl)
set_option hygiene true
namespace L2
open PySem PySem.Spec PyProof.Rows
abbrev Key:=Sum Int Str
def Zk:Key→Value→Bool
 | .inl k,v=>Value.isInt k v
 | .inr x,v=>Value.isStrOf x v
def keyH (w:World):Key→Int
 | .inl k=>hashInt k
 | .inr x=>hashStr w x
theorem qb:∀ {k:Key} {v:Value},Zk k v=true→(∃ i t,k=Sum.inl i∧v=Value.int i t)∨(∃ x t,k=Sum.inr x∧v=Value.str x t)
 | .inl i,v,h=>by
  obtain ⟨t,e⟩:=Value.isInt_shape (k:=i) (v:=v) h
  exact .inl ⟨i,t,rfl,e⟩
 | .inr x,v,h=>by
  obtain ⟨t,e⟩:=Value.isStrOf_shape (x:=x) (v:=v) h
  exact .inr ⟨x,t,rfl,e⟩
theorem keyIs_int (i:Int) (t:Tok):Zk (.inl i) (.int i t)=true:=by simp [Zk,Value.isInt]
theorem keyIs_str (x:Str) (t:Tok):Zk (.inr x) (.str x t)=true:=by simp [Zk,Value.isStrOf]
theorem key_ll (a b:Int):decide ((Sum.inl a:Key)=Sum.inl b)=(a == b):=by
 by_cases e:a=b
 ·subst e; simp
 ·have h:¬ (Sum.inl a:Key)=Sum.inl b:=fun q=>e (Sum.inl.inj q)
  rw [decide_eq_false h]
  exact (beq_eq_false_iff_ne.mpr e).symm
theorem key_rr (a b:Str):decide ((Sum.inr a:Key)=Sum.inr b)=decide (a=b):=by
 by_cases e:a=b
 ·subst e; simp
 ·have h:¬ (Sum.inr a:Key)=Sum.inr b:=fun q=>e (Sum.inr.inj q)
  rw [decide_eq_false h,decide_eq_false e]
theorem key_lr (a:Int) (b:Str):decide ((Sum.inl a:Key)=Sum.inr b)=false:=decide_eq_false (fun q=>nomatch q)
theorem key_rl (a:Str) (b:Int):decide ((Sum.inr a:Key)=Sum.inl b)=false:=decide_eq_false (fun q=>nomatch q)
def qt (prog:Program) (w:World):PySem.KeyKind prog w Key where
 is:=Zk
 hash:=keyH w
 inj:=fun v a b ha hb=>by
  rcases qb ha with ⟨i,t,rfl,rfl⟩ | ⟨x,t,rfl,rfl⟩
  ·rcases qb hb with ⟨j,u,rfl,e⟩ | ⟨y,u,rfl,e⟩
   ·injection e with e1 _; rw [e1]
   ·exact nomatch e
  ·rcases qb hb with ⟨j,u,rfl,e⟩ | ⟨y,u,rfl,e⟩
   ·exact nomatch e
   ·injection e with e1 _; rw [e1]
 byValue:=fun k v h=>by
  rcases qb h with ⟨i,t,rfl,rfl⟩ | ⟨x,t,rfl,rfl⟩ <;> rfl
 pyHash:=fun hv h=>by
  rcases qb hv with ⟨i,t,rfl,rfl⟩ | ⟨x,t,rfl,rfl⟩
  ·exact wpAny_pyHash_int h
  ·exact wpAny_pyHash_str h
 eqBool:=fun hu hv h=>by
  rcases qb hu with ⟨i,t,rfl,rfl⟩ | ⟨x,t,rfl,rfl⟩
  ·rcases qb hv with ⟨j,u,rfl,rfl⟩ | ⟨y,u,rfl,rfl⟩
   ·rw [key_ll] at h; exact wpAny_eqBool_int h
   ·rw [key_lr] at h; exact SeqAt.EqAt.int_str i t y u _ _ _ _ h
  ·rcases qb hv with ⟨j,u,rfl,rfl⟩ | ⟨y,u,rfl,rfl⟩
   ·rw [key_rl] at h; exact SeqAt.EqAt.str_int x t j u _ _ _ _ h
   ·rw [key_rr] at h; exact wpAny_eqBool_str h
 «strs»:=fun k x t v h=>by
  rcases qb h with ⟨i,u,rfl,e⟩ | ⟨y,u,rfl,e⟩
  ·exact nomatch e
  ·injection e with e1 _
   subst e1
   cases v <;> rfl
theorem mixKind_int (prog:Program) (w:World) (i:Int) (t:Tok):(qt prog w).is (.inl i) (.int i t)=true:=keyIs_int i t
theorem mixKind_str (prog:Program) (w:World) (x:Str) (t:Tok):(qt prog w).is (.inr x) (.str x t)=true:=keyIs_str x t
end L2
namespace L2
open PySem PySem.Spec PyProof.Rows
inductive V where
 | non | bl (b:Bool) | int (i:Int) | str (x:Str) | byt (b:Array UInt8) | flt (b:UInt64) | ref (a:Addr) | ty (n:String)
 deriving DecidableEq
def RelV:V→Value→Prop
 | .non,u=>u=Value.none
 | .bl b,u=>u=Value.bool b
 | .int i,u=>∃ t,u=Value.int i t
 | .str x,u=>∃ t,u=Value.str x t
 | .byt b,u=>∃ t,u=Value.bytes b t
 | .flt b,u=>∃ t,u=Value.float b t
 | .ref a,u=>u=Value.ref a
 | .ty n,u=>u=Value.type n
abbrev Vals:List V→List Value→Prop:=Paired RelV
theorem Vals.length {xs:List V} {us:List Value} (r:Vals xs us):xs.length=us.length:=Paired.length r
theorem Vals.get:∀ {xs:List V} {us:List Value} {i:Nat} {x:V},Vals xs us→xs[i]?=some x→∃ u,us[i]?=some u∧RelV x u
 | _,_,_,_,.nil,e=>by simp at e
 | _,_,0,_,.cons r _,e=>by simp at e; subst e; exact ⟨_,rfl,r⟩
 | _,_,i + 1,x,.cons _ t,e=>by
  obtain ⟨u,h1,h2⟩:=Vals.get (i:=i) (x:=x) t (by simpa using e)
  exact ⟨u,by simpa using h1,h2⟩
theorem Vals.set {x:V} {u:Value} (r:RelV x u):∀ {xs:List V} {us:List Value} (i:Nat),Vals xs us→Vals (xs.set i x) (us.set i u)
 | _,_,_,.nil=>.nil
 | _,_,0,.cons _ t=>.cons r t
 | _,_,i + 1,.cons q t=>.cons q (Vals.set r i t)
theorem Vals.append:∀ {xs ys:List V} {us ws:List Value},Vals xs us→Vals ys ws→Vals (xs ++ ys) (us ++ ws)
 | _,_,_,_,.nil,s=>s
 | _,_,_,_,.cons r t,s=>.cons r (Vals.append t s)
theorem Vals.take:∀ {xs:List V} {us:List Value} (n:Nat),Vals xs us→Vals (xs.take n) (us.take n)
 | _,_,0,_=>.nil
 | _,_,_ + 1,.nil=>.nil
 | _,_,n + 1,.cons r t=>.cons r (Vals.take n t)
theorem Vals.drop:∀ {xs:List V} {us:List Value} (n:Nat),Vals xs us→Vals (xs.drop n) (us.drop n)
 | _,_,0,r=>r
 | _,_,_ + 1,.nil=>.nil
 | _,_,n + 1,.cons _ t=>Vals.drop n t
theorem Vals.none_of:∀ {xs:List V} {us:List Value} {i:Nat},Vals xs us→xs[i]?=none→us[i]?=none:=fun {xs us i} r e=>by
 have h1:=r.length
 have h2:xs.length≤i:=List.getElem?_eq_none_iff.mp e
 exact List.getElem?_eq_none_iff.mpr (by omega)
def RelO:Option V→Option Value→Prop
 | some v,some u=>RelV v u
 | none,none=>True
 | _,_=>False
def KV {κ:Type}:List (κ × V)→List (κ × Value)→Prop:=Paired fun (p:κ × V) (q:κ × Value)=>p.1=q.1∧RelV p.2 q.2
def kV:Key→V
 | .inl i=>.int i
 | .inr x=>.str x
inductive HO where
 /-- a list -/
 | lst (xs:List V)
 /-- a tuple (never changes) -/
 | tup (xs:List V)
 /-- a dict whose keys are ints and texts; one whose keys are tuples of ints and texts (the empty one is both) -/
 | dK (kvs:List (Key × V)) | dT (kvs:List (List Key × V))
 /-- a set of ints: its members,its size -/
 | set (S:Int→Bool) (n:Nat)
 /-- an instance of the class at C,its dict at dx,its attributes -/
 | ins (C dx:Addr) (fs:List (Str × V))
 /-- the dict of the instance at x -/
 | own (x:Addr)
 /-- the dict of an exception -/
 | xd (fs:List (Str × V))
 /-- a bound method,f of x -/
 | met (f x:Addr)
 /-- a range object lo,lo + 1,.. below hi -/
 | rng (lo hi:Int)
 /-- a thing that is known to the object (the script; a dict while a loop walks it): read,never written while it is so -/
 | frz (o:Obj) (u:HO)
 /-- a code object's table -/
 | tbl (ps:Array Value)
 /-- any other thing,by what is true of its one object (a def of one's own: SetO a S n:=HO.ext fun h=>..) -/
 | ext (φ:Heap→Prop)
abbrev Hp:=Addr→Option HO
def upd (H:Hp) (a:Addr) (o:HO):Hp:=fun b=>if b=a then some o else H b
theorem upd_same {H:Hp} {a:Addr} {o:HO}:upd H a o a=some o:=by unfold upd; rw [if_pos rfl]
theorem upd_ne {H:Hp} {a b:Addr} {o:HO} (h:b≠a):upd H a o b=H b:=by unfold upd; rw [if_neg h]
theorem xJ {H:Hp} {a:Addr} {o u:HO}:upd (upd H a o) a u=upd H a u:=by
 funext b; unfold upd; split <;> rfl
theorem xU {H:Hp} {a b:Addr} {o u:HO} (h:H a=some o) (h':H b=some u) (d:o≠u):a≠b:=by
 intro e; subst e; rw [h] at h'; exact d (Option.some.inj h')
theorem ne_of_none {H:Hp} {a b:Addr} {o:HO} (h:H a=some o) (h':H b=none):a≠b:=by
 intro e; subst e; rw [h] at h'; cases h'
section
variable (P:Program) (w:World)
def ObjOk (H:Hp) (h:Heap) (a:Addr):HO→Prop
 | .lst xs=>xs.length≤sizeLine∧∃ (its:List Value) (n:Nat),Vals xs its∧h.get? a=some { cls:=.type "list",data:=.seq its.toArray n }
 | .tup xs=>xs.length≤sizeLine∧∃ its:List Value,Vals xs its∧IsTup h a its.toArray
 | .dK kvs=>kvs.length≤sizeLine∧(a == sysModules)=false∧∃ vs,KV kvs vs∧h.DictOf (qt P w) a vs
 | .dT kvs=>kvs.length≤sizeLine∧(a == sysModules)=false∧∃ xs:List (List Key × Addr × Value),
   Paired (fun (p:List Key × V) (q:List Key × Addr × Value)=>p.1=q.1∧H q.2.1=some (.tup (p.1.map kV))∧RelV p.2 q.2.2) kvs xs ∧
   ∃ o es ep,h.get? a=some o∧o.ExactDict∧o.data=.dict es ep∧es.toList=xs.map (entryOfKey (tupleKind (qt P w)))∧(xs.map (·.1)).Nodup
 | .set S n=>h.SetOf (intKind P w) a S n
 | .ins C dx fs=>H dx=some (.own a)∧fs.length≤1000∧dx≠a∧h.get? a=some (PySem.W.instObj C dx) ∧
   ∃ mA,h.Ns1 dx mA∧(∀ f,RelO (fs.lookup f) (mA f))∧PySem.Within mA (fs.map (·.1))
 | .own _=>∃ o,h.get? a=some o
 | .xd fs=>∃ mA,h.Ns1 a mA∧∀ f,RelO (fs.lookup f) (mA f)
 | .rng lo hi=>∃ t u v,h.get? a=some { cls:=.type "range",data:=.fields #[.int lo t,.int hi u,.int 1 v] }
 | .frz o u=>h.get? a=some o∧ObjOk H h a u
 | .tbl ps=>h.get? a=some { cls:=.none,data:=.fields ps }
 | .met f x=>h.get? a=some (PySem.W.methodObj (.ref f) (.ref x))
 | .ext φ=>φ h∧(∃ o,h.get? a=some o)∧∀ h1 h2:Heap,φ h1→(∀ o,h1.get? a=some o→h2.get? a=some o)→φ h2
def HOk (H:Hp) (h:Heap):Prop:=∀ a o,H a=some o→ObjOk P w H h a o
end
section
variable {P:Program} {w:World} {H H':Hp} {h h':Heap} {a:Addr} {o:HO}
theorem ObjOk.lt (x:ObjOk P w H h a o):a < h.objs.size:=by
 cases o with
 | lst xs=>obtain ⟨_,_,_,_,e⟩:=x; exact Heap.lt_size e
 | tup xs=>obtain ⟨_,_,_,p⟩:=x; exact p.lt
 | dK kvs=>obtain ⟨_,_,_,_,o,_,_,e,_⟩:=x; exact Heap.lt_size e
 | dT kvs=>obtain ⟨_,_,_,_,o,_,_,e,_⟩:=x; exact Heap.lt_size e
 | set S n=>obtain ⟨o,_,_,_,e,_⟩:=x; exact Heap.lt_size e
 | ins C dx fs=>obtain ⟨_,_,_,e,_⟩:=x; exact Heap.lt_size e
 | own y=>obtain ⟨_,e⟩:=x; exact Heap.lt_size e
 | xd fs=>obtain ⟨_,⟨_,_,_,e,_⟩,_⟩:=x; exact Heap.lt_size e
 | rng lo hi=>obtain ⟨_,_,_,e⟩:=x; exact Heap.lt_size e
 | frz ob u=>obtain ⟨e,_⟩:=x; exact Heap.lt_size e
 | tbl ps=>exact Heap.lt_size (show h.get? a=some _ from x)
 | met f y=>exact Heap.lt_size (show h.get? a=some _ from x)
 | ext φ=>obtain ⟨_,⟨_,e⟩,_⟩:=x; exact Heap.lt_size e
theorem Paired.mapP {α β:Type} {F G:α→β→Prop}:∀ {l₁:List α} {l₂:List β},Paired F l₁ l₂→(∀ a b,F a b→G a b)→Paired G l₁ l₂
 | _,_,.nil,_=>.nil
 | _,_,.cons r t,f=>.cons (f _ _ r) (Paired.mapP t f)
theorem ObjOk.stay (x:ObjOk P w H h a o) (k:∀ b u,(b=a∨H b=some (.own a))→h.get? b=some u→h'.get? b=some u)
  (ho:∀ b,H b=some (.own a)→H' b=some (.own a)) (ht:∀ b xs,H b=some (.tup xs)→H' b=some (.tup xs)):ObjOk P w H' h' a o:=by
 induction o with
 | lst xs=>obtain ⟨z,its,n,r,e⟩:=x; exact ⟨z,its,n,r,k _ _ (.inl rfl) e⟩
 | tup xs=>obtain ⟨z,its,r,ob,e,c⟩:=x; exact ⟨z,its,r,ob,k _ _ (.inl rfl) e,c⟩
 | dK kvs=>obtain ⟨z,y,vs,r,ob,es,ep,e,c⟩:=x; exact ⟨z,y,vs,r,ob,es,ep,k _ _ (.inl rfl) e,c⟩
 | dT kvs =>
  obtain ⟨z,y,xs,r,ob,es,ep,e,c⟩:=x
  exact ⟨z,y,xs,Paired.mapP r fun p q z=>⟨z.1,ht _ _ z.2.1,z.2.2⟩,ob,es,ep,k _ _ (.inl rfl) e,c⟩
 | set S n=>obtain ⟨ob,es,ep,t,e,c⟩:=x; exact ⟨ob,es,ep,t,k _ _ (.inl rfl) e,c⟩
 | ins C dx fs =>
  obtain ⟨d,z,ne,e,mA,⟨od,es,ep,e2,c⟩,r⟩:=x
  exact ⟨ho _ d,z,ne,k _ _ (.inl rfl) e,mA,⟨od,es,ep,k _ _ (.inr d) e2,c⟩,r⟩
 | own y=>obtain ⟨ob,e⟩:=x; exact ⟨ob,k _ _ (.inl rfl) e⟩
 | xd fs=>obtain ⟨mA,⟨od,es,ep,e,c⟩,r⟩:=x; exact ⟨mA,⟨od,es,ep,k _ _ (.inl rfl) e,c⟩,r⟩
 | rng lo hi=>obtain ⟨t,u,v,e⟩:=x; exact ⟨t,u,v,k _ _ (.inl rfl) e⟩
 | frz ob u ih=>obtain ⟨e,q⟩:=x; exact ⟨k _ _ (.inl rfl) e,ih q⟩
 | tbl ps =>
  have e:h.get? a=some { cls:=.none,data:=.fields ps }:=x
  show h'.get? a=some { cls:=.none,data:=.fields ps }
  exact k a _ (.inl rfl) e
 | met f y =>
  have e:h.get? a=some (PySem.W.methodObj (.ref f) (.ref y)):=x
  show h'.get? a=some (PySem.W.methodObj (.ref f) (.ref y))
  exact k a _ (.inl rfl) e
 | ext φ=>obtain ⟨p,⟨o,e⟩,st⟩:=x; exact ⟨st _ _ p fun o q=>k _ _ (.inl rfl) q,⟨o,k _ _ (.inl rfl) e⟩,st⟩
theorem HOk.lt (x:HOk P w H h) (e:H a=some o):a < h.objs.size:=(x a o e).lt
theorem HOk.fresh (x:HOk P w H h) (e:h.objs.size≤a):H a=none:=by
 cases q:H a with
 | none=>rfl
 | some u=>exact absurd (Nat.lt_of_lt_of_le (x.lt q) e) (Nat.lt_irrefl _)
theorem HOk.kept (x:HOk P w H h) (k:∀ b u,h.get? b=some u→h'.get? b=some u):HOk P w H h':=fun a o e =>
 (x a o e).stay (fun b u _ q=>k b u q) (fun _ q=>q) fun _ _ q=>q
theorem HOk.laid (x:HOk P w H h) (k:∀ b u,h.get? b=some u→h'.get? b=some u) (hp:h.objs.size≤a) (new:ObjOk P w (upd H a o) h' a o):HOk P w (upd H a o) h':=fun b u e=>by
 have hn:=x.fresh hp
 by_cases hb:b=a
 ·subst hb; rw [upd_same] at e; cases e; exact new
 ·rw [upd_ne hb] at e
  exact (x b u e).stay (fun c v _ q=>k c v q) (fun c q=>by rw [upd_ne (ne_of_none q hn)]; exact q) fun c xs q=>by rw [upd_ne (ne_of_none q hn)]; exact q
end
def Rd (H:Hp) (a:Addr) (u:HO):Prop:=H a=some u∨∃ o,H a=some (.frz o u)
theorem Rd.of {H:Hp} {a:Addr} {u:HO} (h:H a=some u):Rd H a u:=.inl h
theorem Rd.ok {P:Program} {w:World} {H:Hp} {h:Heap} {a:Addr} {u:HO} (r:Rd H a u) (x:HOk P w H h):ObjOk P w H h a u:=by
 rcases r with r | ⟨o,r⟩
 ·exact x a u r
 ·obtain ⟨_,q⟩:=x a _ r
  exact q
def Mut:Option HO→Prop
 | some (.lst _)=>True
 | some (.dK _)=>True
 | some (.dT _)=>True
 | some (.set _ _)=>True
 | some (.ins _ _ _)=>True
 | some (.ext _)=>True
 | _=>False
section
variable {P:Program} {w:World} {H:Hp} {h h':Heap} {x e:Addr} {o':HO}
theorem HOk.write (ok:HOk P w H h) (mu:Mut (H x)) (he:e=x∨H e=some (.own x)) (k:∀ b u,b≠e→h.get? b=some u→h'.get? b=some u) (heo:∃ u,h'.get? e=some u)
  (new:ObjOk P w (upd H x o') h' x o'):HOk P w (upd H x o') h':=fun b u q=>by
 have nown:∀ c y,H c=some (.own y)→c≠x:=fun c y r z=>by subst z; rw [r] at mu; exact mu
 have ntup:∀ c xs,H c=some (.tup xs)→c≠x:=fun c xs r z=>by subst z; rw [r] at mu; exact mu
 by_cases hb:b=x
 ·subst hb; rw [upd_same] at q; cases q; exact new
 ·rw [upd_ne hb] at q
  by_cases hbe:b=e
  ·have q':H b=some (.own x):=by
    rcases he with z | z
    ·exact absurd (hbe.trans z) hb
    ·rw [hbe]; exact z
   rw [q] at q'; cases q'
   obtain ⟨v,hv⟩:=heo
   exact ⟨v,by rw [hbe]; exact hv⟩
  ·refine (ok b u q).stay (fun c v hc r=>k c v ?_ r) (fun c r=>by rw [upd_ne (nown c b r)]; exact r) fun c xs r=>by rw [upd_ne (ntup c xs r)]; exact r
   rcases hc with rfl | hc
   ·exact hbe
   ·rintro rfl
    rcases he with z | z
    ·exact nown c b hc z
    ·rw [hc] at z; cases z; exact hb rfl
end
structure Un (fs ex:List Addr) (H H':Hp) (h h':Heap):Prop where
 keep:∀ b o,h.get? b=some o→H b=none→b ∉ fs→b ∉ ex→h'.get? b=some o
 slot:∀ b o,h.get? b=some o→H b=none→b∈fs→b ∉ ex→∃ sl,h'.get? b=some { o with slots:=sl }
 free:∀ b o,h.get? b=some o→H b=none→b ∉ ex→H' b=none
 there:∀ b o,h.get? b=some o→b ∉ ex→∃ o',h'.get? b=some o'
 tups:∀ b xs,H b=some (.tup xs)→H' b=some (.tup xs)
 frzs:∀ b o u,H b=some (.frz o u)→H' b=some (.frz o u)
 tbls:∀ b ps,H b=some (.tbl ps)→∃ more,H' b=some (.tbl (ps ++ more))
section
variable {fs fs' ex ex':List Addr} {H H1 H2:Hp} {h h1 h2 h':Heap} {a x e:Addr} {o:HO}
theorem Un.any (u:Un fs ex H H1 h h1) {b:Addr} {ob:Obj} (q:h.get? b=some ob) (n:H b=none) (hx:b ∉ ex):∃ sl,h1.get? b=some { ob with slots:=sl }:=by
 by_cases hb:b∈fs
 ·exact u.slot b ob q n hb hx
 ·exact ⟨ob.slots,u.keep b ob q n hb hx⟩
theorem Un.trans (a:Un fs ex H H1 h h1) (b:Un fs ex H1 H2 h1 h2):Un fs ex H H2 h h2 where
 keep:=fun c ob q n hc hx=>b.keep c ob (a.keep c ob q n hc hx) (a.free c ob q n hx) hc hx
 slot:=fun c ob q n hc hx=>by
  obtain ⟨sl,e1⟩:=a.slot c ob q n hc hx
  obtain ⟨sl',e2⟩:=b.slot c _ e1 (a.free c ob q n hx) hc hx
  exact ⟨sl',e2⟩
 free:=fun c ob q n hx=>by
  obtain ⟨o',e1⟩:=a.there c ob q hx
  exact b.free c o' e1 (a.free c ob q n hx) hx
 there:=fun c ob q hx=>by
  obtain ⟨o',e1⟩:=a.there c ob q hx
  exact b.there c o' e1 hx
 tups:=fun c xs q=>b.tups c xs (a.tups c xs q)
 frzs:=fun c ob xs q=>b.frzs c ob xs (a.frzs c ob xs q)
 tbls:=fun c ps q=>by
  obtain ⟨m1,e1⟩:=a.tbls c ps q
  obtain ⟨m2,e2⟩:=b.tbls c _ e1
  exact ⟨m1 ++ m2,by rw [e2,Array.append_assoc]⟩
theorem Un.kept (k:∀ b u,h.get? b=some u→h'.get? b=some u):Un fs ex H H h h' :=
 ⟨fun b ob q _ _ _=>k b ob q,fun b ob q _ _ _=>⟨ob.slots,k b ob q⟩,fun _ _ _ n _=>n,fun b ob q _=>⟨ob,k b ob q⟩,fun _ _ q=>q,fun _ _ _ q=>q,fun _ ps q=>⟨#[],by rw [q]; simp⟩⟩
theorem Un.refl:Un fs ex H H h h:=Un.kept fun _ _ q=>q
theorem Un.laid (k:∀ b u,h.get? b=some u→h'.get? b=some u) (hp:h.objs.size≤a) (hn:H a=none):Un fs ex H (upd H a o) h h' where
 keep:=fun b u q _ _ _=>k b u q
 slot:=fun b u q _ _ _=>⟨u.slots,k b u q⟩
 free:=fun b u q n _=>by rw [upd_ne (Nat.ne_of_lt (Nat.lt_of_lt_of_le (Heap.lt_size q) hp))]; exact n
 there:=fun b u q _=>⟨u,k b u q⟩
 tups:=fun b xs q=>by rw [upd_ne (ne_of_none q hn)]; exact q
 frzs:=fun b u xs q=>by rw [upd_ne (ne_of_none q hn)]; exact q
 tbls:=fun b ps q=>⟨#[],by rw [upd_ne (ne_of_none q hn),q]; simp⟩
theorem Un.write (mu:Mut (H x)) (he:e=x∨H e=some (.own x)) (k:∀ b u,b≠e→h.get? b=some u→h'.get? b=some u) (heo:∃ u,h'.get? e=some u):Un fs ex H (upd H x o) h h':=by
 have hx:∀ b,H b=none→b≠x:=fun b n z=>by subst z; rw [n] at mu; exact mu
 have hb:∀ b,H b=none→b≠e:=fun b n z=>by
  subst z
  rcases he with r | r
  ·exact hx b n r
  ·rw [n] at r; cases r
 have hm:∀ b u,H b=some u→¬ Mut (some u)→b≠x:=fun b u q nm z=>by subst z; rw [q] at mu; exact nm mu
 refine ⟨fun b u q n _ _=>k b u (hb b n) q,fun b u q n _ _=>⟨u.slots,k b u (hb b n) q⟩,fun b u q n _=>by rw [upd_ne (hx b n)]; exact n,fun b u q _=>?_,
  fun b xs q=>by rw [upd_ne (hm b _ q fun z=>z)]; exact q,fun b u xs q=>by rw [upd_ne (hm b _ q fun z=>z)]; exact q,fun b ps q=>⟨#[],by rw [upd_ne (hm b _ q fun z=>z),q]; simp⟩⟩
 by_cases hbe:b=e
 ·subst hbe; exact heo
 ·exact ⟨u,k b u hbe q⟩
theorem Un.mono (u:Un fs ex H H1 h h1) (hs:∀ b∈fs,b∈fs') (hx:∀ b∈ex,b∈ex'):Un fs' ex' H H1 h h1 :=
 ⟨fun b ob q n hb he=>u.keep b ob q n (fun z=>hb (hs b z)) fun z=>he (hx b z),fun _ _ q n _ he=>u.any q n fun z=>he (hx _ z),fun b ob q n he=>u.free b ob q n fun z=>he (hx b z),fun b ob q he=>u.there b ob q fun z=>he (hx b z),u.tups,u.frzs,u.tbls⟩
end
def trk (h:Heap) (H:Hp):List Addr:=(List.range h.objs.size).filter fun a=>(H a).isSome
def hidT (h:Heap) (H:Hp):Heap:=PySem.W.hideAll h (trk h H)
theorem hidT_size (h:Heap) (H:Hp):(hidT h H).objs.size=h.objs.size:=PySem.W.hideAll_size _ _
theorem hidT_get {h:Heap} {H:Hp} {b:Addr} {o:Obj} (e:h.get? b=some o) (n:H b=none):(hidT h H).get? b=some o :=
 PySem.W.hideAll_get _ e fun hm=>by
  have q:(H b).isSome=true:=(List.mem_filter.mp hm).2
  rw [n] at q; simp at q
theorem of_hidT {h:Heap} {H:Hp} {b:Addr} {o:Obj} (e:(hidT h H).get? b=some o):h.get? b=some o∧H b=none:=by
 have e':h.get? b=some o:=PySem.W.of_hideAll (trk h H) e
 refine ⟨e',?_⟩
 cases q:H b with
 | none=>rfl
 | some x =>
  have hm:b∈trk h H:=List.mem_filter.mpr ⟨List.mem_range.mpr (Heap.lt_size e'),by simp [q]⟩
  have z:(hidT h H).get? b=none:=PySem.W.hideAll_none (trk h H) hm
  rw [z] at e; cases e
def allNews (g h:Heap) (L:Addr):List (Addr × Obj):=(List.range h.objs.size).filterMap fun a=>if a=L∨(g.get? a).isSome=true then none else (h.get? a).map fun o=>(a,o)
def rest (g h:Heap) (L d:Addr):List (Addr × Obj):=(allNews g h L).filter fun p=>decide (p.1≠d)
end L2
namespace L2
open PySem PySem.Spec PyProof.Rows
structure Mod (K:PySem.W.Frag) (mg:Str→Option Value) (base:Heap):Prop where
 kin:K.In base
 glob:base.Ns mainGlobals mg
 blt:∃ mb,base.Ns builtinsNs mb∧∀ x:Str,x≠"__name__"→mb x=bootBuiltins x
 nolimit:base.NoLimit
structure Cx where
 prog:Program
 w:World
 K:PySem.W.Frag
 mg:Str→Option Value
 base:Heap
 A:Around
 N:List Str
 s₀:Shared
 H₀:Hp
 env:Env
 outer:List Env
 stack:List Env
 ex:List Addr
 fn:Str→Bool
 calm:Bool
 pn:List (Addr × Obj)
 xe:Value→Shared→Prop
def frs (l:List Env):List Addr:=l.filterMap (·.frame)
abbrev Cx.fs (X:Cx):List Addr:=frs X.outer
def Vis (sc:Scope) (x:Str):Prop:=sc.names.lookup x=some .local∨sc.names.lookup x=some .cell∨sc.names.lookup x=some .free
def Loc (sc:Scope) (x:Str):Prop:=sc.names.lookup x=some .local∨sc.names.lookup x=some .cell
def Look (env:Env) (h:Heap) (m:Str→Option Value) (x:Str) (u:Value):Prop :=
 (env.kindOf x=some .local∧m x=some u)∨((env.kindOf x=some .cell∨env.kindOf x=some .free)∧∃ c,env.cells.lookup x=some c∧h.IsCell c (some u))
structure Cx.Ok (X:Cx):Prop where
 mod:Mod X.K X.mg X.base
 kind:X.env.scope.kind=.function
 glob:X.env.globals=mainGlobals
 blt:X.env.builtins=builtinsNs
 above:X.s₀.heap.objs.size≤X.env.locals
 inj:∀ x y c,X.env.cells.lookup x=some c→X.env.cells.lookup y=some c→x=y
 has:∀ x,(X.env.kindOf x=some .cell∨X.env.kindOf x=some .free)→∃ c,X.env.cells.lookup x=some c
 cab:∀ x c,X.fn x=true→X.env.cells.lookup x=some c→X.s₀.heap.objs.size≤c
 hd:X.calm=true→X.A.handled=none
 frames:X.A.frames=some X.stack
 stk:X.stack=X.outer∨(X.stack=X.env :: X.outer∧X.env.frame=some X.env.locals)
 exf:∀ b∈X.ex,b≠X.env.locals∧∀ x c,X.env.cells.lookup x=some c→c≠b
 bs:∀ b o,X.base.get? b=some o→X.s₀.heap.get? b=some o∧X.H₀ b=none
 bsz:X.base.objs.size≤X.s₀.heap.objs.size
 noex:∀ b o,X.base.get? b=some o→b ∉ X.ex
 exfs:∀ b∈X.ex,b ∉ X.fs
 funs:X.s₀.heap.FunFrames X.base X.outer
 frf:∀ b∈X.fs,X.H₀ b=none
structure Inv (X:Cx) (pins:List (Addr × Obj)) (σ:List (Option V)) (H:Hp) (s:Shared):Prop where
 ok:X.Ok
 os:s.os=X.s₀.os
 bare:AllBare s.gens
 base:Un X.fs X.ex X.H₀ H X.s₀.heap s.heap
 loc:∃ m,s.heap.Ns X.env.locals m∧∀ (i:Nat) (x:Str) (v:V),X.N[i]?=some x→σ[i]?=some (some v)→Vis X.env.scope x→∃ u,RelV v u∧Look X.env s.heap m x u
 cell:∀ x c,X.env.cells.lookup x=some c→∃ v,s.heap.IsCell c v
 free:H X.env.locals=none
 freeC:∀ x c,X.env.cells.lookup x=some c→H c=none
 pin:∀ p∈X.pn ++ pins,s.heap.get? p.1=some p.2∧H p.1=none∧p.1≠X.env.locals∧p.1 ∉ X.fs∧∀ v,p.2.data≠.cell v
 hok:HOk X.prog X.w H s.heap
 len:σ.length=X.N.length
section
variable {X:Cx} {pins:List (Addr × Obj)} {σ:List (Option V)} {H H':Hp} {s:Shared} {h':Heap}
theorem Cx.Ok.nofr (ok:X.Ok) {b:Addr} {o:Obj} (e:X.base.get? b=some o):b ∉ X.fs:=fun hb=>by
 have:=(ok.funs.mem hb).1
 rw [e] at this; cases this
theorem Inv.bs (I:Inv X pins σ H s):∀ b o,X.base.get? b=some o→s.heap.get? b=some o∧H b=none:=fun b o e =>
 ⟨I.base.keep b o (I.ok.bs b o e).1 (I.ok.bs b o e).2 (I.ok.nofr e) (I.ok.noex b o e),I.base.free b o (I.ok.bs b o e).1 (I.ok.bs b o e).2 (I.ok.noex b o e)⟩
theorem Inv.bk (I:Inv X pins σ H s):∀ b o,X.base.get? b=some o→s.heap.get? b=some o:=fun b o e=>(I.bs b o e).1
theorem Inv.mod (I:Inv X pins σ H s):Mod X.K X.mg X.base:=I.ok.mod
theorem Inv.kIn (I:Inv X pins σ H s):X.K.In s.heap:=I.ok.mod.kin.keeps I.bk
theorem Inv.nolimit (I:Inv X pins σ H s):s.heap.NoLimit:=I.ok.mod.nolimit.keeps I.bk
theorem Inv.fr (I:Inv X pins σ H s):∃ m,Fr X.base X.env.locals s.heap m :=
 let ⟨m,hn,_⟩:=I.loc
 ⟨m,hn,I.bk,Nat.le_trans I.ok.bsz I.ok.above⟩
theorem Inv.lt (I:Inv X pins σ H s):X.env.locals < s.heap.objs.size:=let ⟨_,hn,_⟩:=I.loc; hn.lt
theorem Inv.sz (I:Inv X pins σ H s):X.s₀.heap.objs.size≤s.heap.objs.size:=Nat.le_trans I.ok.above (Nat.le_of_lt I.lt)
theorem Inv.nofs (I:Inv X pins σ H s) {a:Addr} (h:s.heap.objs.size≤a):a ∉ X.fs:=fun hb=>by
 obtain ⟨_,o,ho,_⟩:=I.ok.funs.mem hb
 exact absurd (Nat.lt_of_lt_of_le (Heap.lt_size ho) (Nat.le_trans I.sz h)) (Nat.lt_irrefl _)
theorem Inv.cne (I:Inv X pins σ H s):∀ x c,X.env.cells.lookup x=some c→c≠X.env.locals:=fun x c e z=>by
 obtain ⟨v,o,ho,hd⟩:=I.cell x c e
 obtain ⟨m,⟨o',es,ep,ho',hd',_⟩,_⟩:=I.loc
 rw [z,ho'] at ho; cases ho; rw [hd'] at hd; cases hd
theorem Inv.funs (I:Inv X pins σ H s):s.heap.FunFrames X.base X.outer:=by
 have all:∀ (l:List Env),(∀ b∈frs l,b∈X.fs)→X.s₀.heap.FunFrames X.base l→s.heap.FunFrames X.base l:=by
  intro l
  induction l with
  | nil=>intro _ _; trivial
  | cons env r ih =>
   intro hs hl
   obtain ⟨hk,⟨L,o,hf,hn,ho,hd⟩,hr⟩:=hl
   have hL:L∈X.fs:=hs L (by unfold frs; rw [List.filterMap_cons,hf]; exact List.mem_cons_self)
   obtain ⟨sl,e⟩:=I.base.slot L o ho (I.ok.frf L hL) hL fun z=>I.ok.exfs L z hL
   exact ⟨hk,⟨L,_,hf,hn,e,hd⟩,ih (fun b hb=>hs b (by unfold frs; rw [List.filterMap_cons,hf]; exact List.mem_cons_of_mem _ hb)) hr⟩
 exact all X.outer (fun _ hb=>hb) I.ok.funs
theorem Inv.stack (I:Inv X pins σ H s):s.heap.FunFrames X.base X.stack:=by
 rcases I.ok.stk with e | ⟨e,hf⟩
 ·rw [e]; exact I.funs
 ·rw [e]
  obtain ⟨m,hn,_⟩:=I.loc
  refine .cons (by rw [I.ok.kind]; decide) hf hn ?_ I.funs
  exact Heap.get?_none_of_le (Nat.le_trans I.ok.bsz I.ok.above)
theorem Inv.stkSub (I:Inv X pins σ H s):∀ b∈frs X.stack,b∈X.env.locals :: X.fs:=fun b hb=>by
 rcases I.ok.stk with e | ⟨e,hf⟩
 ·rw [e] at hb; exact List.mem_cons_of_mem _ hb
 ·rw [e] at hb
  unfold frs at hb
  rw [List.filterMap_cons,hf] at hb
  exact hb
theorem Inv.stkFree (I:Inv X pins σ H s):∀ b∈frs X.stack,H b=none:=fun b hb=>by
 rcases List.mem_cons.mp (I.stkSub b hb) with e | hb
 ·rw [e]; exact I.free
 ·obtain ⟨_,o,ho,_⟩:=I.ok.funs.mem hb
  exact I.base.free b o ho (I.ok.frf b hb) fun z=>I.ok.exfs b z hb
theorem Inv.step {g':Array GenState} {t':Nat} {d':Drawn} {ch:List Addr} (I:Inv X pins σ H s)
  (hch:∀ b∈ch,(b∈X.ex∨X.s₀.heap.objs.size≤b)∧b≠X.env.locals∧(∀ x c,X.env.cells.lookup x=some c→c≠b)∧∀ p∈X.pn ++ pins,p.1≠b)
  (keep:∀ b o,b≠X.env.locals→b ∉ X.fs→b ∉ ch→s.heap.get? b=some o→H b=none→h'.get? b=some o)
  (slot:∀ b o,b≠X.env.locals→b∈X.fs→b ∉ ch→s.heap.get? b=some o→H b=none→∃ sl,h'.get? b=some { o with slots:=sl }) (free:∀ b o,b ∉ ch→s.heap.get? b=some o→H b=none→H' b=none)
  (there:∀ b o,b ∉ ch→s.heap.get? b=some o→∃ o',h'.get? b=some o')
  (tups:∀ b xs,H b=some (.tup xs)→H' b=some (.tup xs)) (frzs:∀ b o u,H b=some (.frz o u)→H' b=some (.frz o u)) (tbls:∀ b ps,H b=some (.tbl ps)→∃ more,H' b=some (.tbl (ps ++ more)))
  (ns:∀ m,s.heap.Ns X.env.locals m→h'.Ns X.env.locals m) (hok:HOk X.prog X.w H' h') (hg:AllBare g') :
  Inv X pins σ H' { s with heap:=h',gens:=g',drawn:=d',toks:=t' }:=by
 have neL:∀ b o,X.s₀.heap.get? b=some o→b≠X.env.locals:=fun b o e=>Nat.ne_of_lt (Nat.lt_of_lt_of_le (Heap.lt_size e) I.ok.above)
 have neC:∀ b o,X.s₀.heap.get? b=some o→b ∉ X.ex→b ∉ ch:=fun b o e hx hb=>by
  rcases (hch b hb).1 with z | z
  ·exact hx z
  ·exact absurd (Nat.lt_of_lt_of_le (Heap.lt_size e) z) (Nat.lt_irrefl _)
 have cellK:∀ x c,X.env.cells.lookup x=some c→∀ v,s.heap.IsCell c v→h'.IsCell c v:=fun x c e v ⟨o,ho,hd⟩=>by
  have nch:c ∉ ch:=fun z=>(hch c z).2.2.1 x c e rfl
  by_cases hc:c∈X.fs
  ·obtain ⟨sl,q⟩:=slot c o (I.cne x c e) hc nch ho (I.freeC x c e)
   exact ⟨_,q,hd⟩
  ·exact ⟨o,keep c o (I.cne x c e) hc nch ho (I.freeC x c e),hd⟩
 refine ⟨I.ok,I.os,hg,⟨fun b o e n hb hx=>?_,fun b o e n hb hx=>?_,fun b o e n hx=>?_,fun b o e hx=>?_,fun b xs e=>tups b xs (I.base.tups b xs e),fun b o xs e=>frzs b o xs (I.base.frzs b o xs e),fun b ps e=>?_⟩,?_,fun x c e=>?_,?_,fun x c e=>?_,fun p hp=>?_,hok,I.len⟩
 ·exact keep b o (neL b o e) hb (neC b o e hx) (I.base.keep b o e n hb hx) (I.base.free b o e n hx)
 ·obtain ⟨sl,e1⟩:=I.base.slot b o e n hb hx
  obtain ⟨sl',e2⟩:=slot b _ (neL b o e) hb (neC b o e hx) e1 (I.base.free b o e n hx)
  exact ⟨sl',e2⟩
 ·obtain ⟨o',e1⟩:=I.base.there b o e hx
  exact free b o' (neC b o e hx) e1 (I.base.free b o e n hx)
 ·obtain ⟨o',e1⟩:=I.base.there b o e hx
  exact there b o' (neC b o e hx) e1
 ·obtain ⟨m1,e1⟩:=I.base.tbls b ps e
  obtain ⟨m2,e2⟩:=tbls b _ e1
  exact ⟨m1 ++ m2,by rw [e2,Array.append_assoc]⟩
 ·obtain ⟨m,hn,hl⟩:=I.loc
  refine ⟨m,ns m hn,fun i x v e1 e2 e3=>?_⟩
  obtain ⟨u,r,l⟩:=hl i x v e1 e2 e3
  refine ⟨u,r,?_⟩
  rcases l with l | ⟨k,c,e,z⟩
  ·exact .inl l
  ·exact .inr ⟨k,c,e,cellK x c e _ z⟩
 ·obtain ⟨v,z⟩:=I.cell x c e
  exact ⟨v,cellK x c e v z⟩
 ·obtain ⟨m,⟨o,_,_,ho,_⟩,_⟩:=I.loc
  exact free _ o (fun z=>(hch _ z).2.1 rfl) ho I.free
 ·obtain ⟨v,o,ho,hd⟩:=I.cell x c e
  exact free c o (fun z=>(hch c z).2.2.1 x c e rfl) ho (I.freeC x c e)
 ·obtain ⟨e,n,ne,nf,d⟩:=I.pin p hp
  have nch:p.1 ∉ ch:=fun z=>(hch p.1 z).2.2.2 p hp rfl
  exact ⟨keep p.1 p.2 ne nf nch e n,free p.1 p.2 nch e n,ne,nf,d⟩
theorem Inv.un {t':Nat} (I:Inv X pins σ H s) (u:Un X.fs [] H H' s.heap h') (hok:HOk X.prog X.w H' h'):Inv X pins σ H' { s with heap:=h',toks:=t' }:=by
 obtain ⟨m,⟨o,es,ep,ho,r⟩,_⟩:=id I.loc
 obtain ⟨sl,hL⟩:=u.any ho I.free (by simp)
 exact I.step (g':=s.gens) (d':=s.drawn) (ch:=[]) (fun _ z=>nomatch z) (fun b o _ hb _ e n=>u.keep b o e n hb (by simp)) (fun b o _ hb _ e n=>u.slot b o e n hb (by simp)) (fun b o _ e n=>u.free b o e n (by simp)) (fun b o _ e=>u.there b o e (by simp)) u.tups u.frzs u.tbls (fun m' hm=>by
  obtain ⟨o',es',ep',ho',r'⟩:=hm
  rw [ho] at ho'; cases ho'
  exact ⟨_,es',ep',hL,r'⟩) hok I.bare
theorem Inv.call {g':Array GenState} {t':Nat} {d':Drawn} {ch:List Addr} (I:Inv X pins σ H s) (u:Un (frs X.stack) ch H H' s.heap h') (hok:HOk X.prog X.w H' h') (hg:AllBare g')
  (hch:∀ b∈ch,(b∈X.ex∨X.s₀.heap.objs.size≤b)∧b≠X.env.locals∧(∀ x c,X.env.cells.lookup x=some c→c≠b)∧∀ p∈X.pn ++ pins,p.1≠b) :
  Inv X pins σ H' { s with heap:=h',gens:=g',drawn:=d',toks:=t' }:=by
 obtain ⟨m,⟨o,es,ep,ho,r⟩,_⟩:=id I.loc
 obtain ⟨sl,hL⟩:=u.any ho I.free fun z=>(hch _ z).2.1 rfl
 exact I.step (ch:=ch) hch (fun b o hL hb hc e n=>u.keep b o e n (fun z=>(List.mem_cons.mp (I.stkSub b z)).elim hL hb) hc) (fun b o _ _ hc e n=>u.any e n hc) (fun b o hc e n=>u.free b o e n hc) (fun b o hc e=>u.there b o e hc) u.tups u.frzs u.tbls (fun m' hm=>by
  obtain ⟨o',es',ep',ho',r'⟩:=hm
  rw [ho] at ho'; cases ho'
  exact ⟨_,es',ep',hL,r'⟩) hok hg
theorem Inv.turned {t':Nat} {it:Addr} (I:Inv X pins σ H s) (k:∀ b o,b≠it→s.heap.get? b=some o→h'.get? b=some o) (hn:H it=none) (hL:it≠X.env.locals)
  (h1:it∈X.ex∨X.s₀.heap.objs.size≤it) (h2:∀ x c,X.env.cells.lookup x=some c→c≠it) (h3:∀ p∈X.pn ++ pins,p.1≠it):Inv X pins σ H { s with heap:=h',toks:=t' }:=by
 have nit:∀ b u,H b=some u→b≠it:=fun b u e z=>by rw [z,hn] at e; cases e
 refine I.step (g':=s.gens) (d':=s.drawn) (ch:=[it]) (fun b hb=>?_) (fun b o _ _ hc e _=>k b o (fun z=>hc (by simp [z])) e) (fun b o _ _ hc e _=>⟨o.slots,k b o (fun z=>hc (by simp [z])) e⟩) (fun _ _ _ _ n=>n)
  (fun b o hc e=>⟨o,k b o (fun z=>hc (by simp [z])) e⟩) (fun _ _ e=>e) (fun _ _ _ e=>e) (fun b ps e=>⟨#[],by rw [e]; simp⟩) (fun m hm=>?_) (fun b u e=>?_) I.bare
 ·have e:b=it:=by simpa using hb
  subst e
  exact ⟨h1,hL,h2,h3⟩
 ·obtain ⟨o,es,ep,ho,r⟩:=hm
  exact ⟨o,es,ep,k _ o (Ne.symm hL) ho,r⟩
 ·refine (I.hok b u e).stay (fun c v hc q=>k c v ?_ q) (fun _ q=>q) fun _ _ q=>q
  rcases hc with z | z
  ·rw [z]; exact nit b u e
  ·exact nit c _ z
theorem Inv.tok (I:Inv X pins σ H s) (t:Nat):Inv X pins σ H { s with toks:=t }:=I.un (h':=s.heap) (t':=t) Un.refl I.hok
theorem Inv.kept {t':Nat} (I:Inv X pins σ H s) (k:∀ b u,s.heap.get? b=some u→h'.get? b=some u):Inv X pins σ H { s with heap:=h',toks:=t' }:=I.un (Un.kept k) (I.hok.kept k)
theorem Inv.laid {a:Addr} {o:HO} {t':Nat} (I:Inv X pins σ H s) (k:∀ b u,s.heap.get? b=some u→h'.get? b=some u) (hp:s.heap.objs.size≤a) (new:ObjOk X.prog X.w (upd H a o) h' a o) :
  Inv X pins σ (upd H a o) { s with heap:=h',toks:=t' }:=I.un (Un.laid k hp (I.hok.fresh hp)) (I.hok.laid k hp new)
theorem Inv.write {x e:Addr} {o:HO} {t':Nat} (I:Inv X pins σ H s) (mu:Mut (H x)) (he:e=x∨H e=some (.own x)) (k:∀ b u,b≠e→s.heap.get? b=some u→h'.get? b=some u) (heo:∃ u,h'.get? e=some u)
  (new:ObjOk X.prog X.w (upd H x o) h' x o):Inv X pins σ (upd H x o) { s with heap:=h',toks:=t' }:=I.un (Un.write mu he k heo) (I.hok.write mu he k heo new)
theorem Inv.pins_of {pins':List (Addr × Obj)} (I:Inv X pins σ H s) (h:∀ p∈pins',s.heap.get? p.1=some p.2∧H p.1=none∧p.1≠X.env.locals∧p.1 ∉ X.fs∧∀ v,p.2.data≠.cell v):Inv X pins' σ H s :=
 ⟨I.ok,I.os,I.bare,I.base,I.loc,I.cell,I.free,I.freeC,fun p hp=>(List.mem_append.mp hp).elim (fun z=>I.pin p (List.mem_append_left _ z)) (h p),I.hok,I.len⟩
theorem Ql {N:List Str} (hN:N.Nodup) {i j:Nat} {x:Str} (a:N[i]?=some x) (b:N[j]?=some x):i=j:=by
 obtain ⟨h1,e1⟩:=List.getElem?_eq_some_iff.mp a
 obtain ⟨h2,e2⟩:=List.getElem?_eq_some_iff.mp b
 exact (List.getElem_inj hN).mp (e1.trans e2.symm)
theorem vU {M:Model} {A:Around} {E:Value→Shared→Prop} {i:Nat} {x:Str} {v:V} {u:Value} {Q:Unit→Shared→Prop} (I:Inv X pins σ H s) (hN:X.N.Nodup) (hi:X.N[i]?=some x) (hx:Loc X.env.scope x) (r:RelV v u)
  (h:∀ s',Inv X pins (σ.set i (some v)) H s'→(∃ a,Heap.SameBut a s.heap s'.heap∧(a=X.env.locals∨X.env.cells.lookup x=some a))→Q () s') (hf:X.fn x=true∨X.env.scope.names.lookup x=some .local:=by walk_at "p"):wpAny M A (storeName X.env x u) Q E s:=by
 obtain ⟨m,hn,hl⟩:=id I.loc
 have hcls:(X.env.scope.kind == .class || (X.env.scope.kind == .module && X.env.locals != X.env.globals))=false:=by rw [I.ok.kind]; rfl
 have hiσ:i < σ.length:=by rw [I.len]; exact (List.getElem?_eq_some_iff.mp hi).1
 have cne:=I.cne
 have tracked:∀ {a:Addr} {h':Heap},(∃ o,s.heap.get? a=some o∧H a=none)→Heap.SameBut a s.heap h'→HOk X.prog X.w H h':=fun {a h'} ha hs b ob e=>by
  obtain ⟨_,_,hfree⟩:=ha
  refine (I.hok b ob e).stay (fun c w' hc q=>(hs.2 c ?_).trans q) (fun _ q=>q) fun _ _ q=>q
  rintro rfl
  rcases hc with rfl | hc
  ·rw [hfree] at e; cases e
  ·rw [hfree] at hc; cases hc
 rcases hx with hk | hk
 ·refine wpAny_storeName_local hk hn (fun h' hn' hs=>?_) hcls
  obtain ⟨oL,_,_,hoL,_⟩:=id hn
  refine h _ ⟨I.ok,I.os,I.bare,⟨fun b o e n hb hx=>?_,fun b o e n hb hx=>?_,I.base.free,fun b o e hx=>?_,I.base.tups,I.base.frzs,I.base.tbls⟩,⟨_,hn',fun j y v' e1 e2 e3=>?_⟩,fun y c e=>?_,I.free,I.freeC,fun p hp=>?_,tracked ⟨oL,hoL,I.free⟩ hs,by simpa using I.len⟩ ⟨_,hs,.inl rfl⟩
  ·exact (hs.2 b (Nat.ne_of_lt (Nat.lt_of_lt_of_le (Heap.lt_size e) I.ok.above))).trans (I.base.keep b o e n hb hx)
  ·obtain ⟨sl,e1⟩:=I.base.slot b o e n hb hx
   exact ⟨sl,(hs.2 b (Nat.ne_of_lt (Nat.lt_of_lt_of_le (Heap.lt_size e) I.ok.above))).trans e1⟩
  ·obtain ⟨o',e1⟩:=I.base.there b o e hx
   exact ⟨o',(hs.2 b (Nat.ne_of_lt (Nat.lt_of_lt_of_le (Heap.lt_size e) I.ok.above))).trans e1⟩
  ·by_cases hj:j=i
   ·subst hj
    rw [hi] at e1; cases e1
    rw [List.getElem?_set_self hiσ] at e2
    cases e2
    exact ⟨u,r,.inl ⟨hk,by simp⟩⟩
   ·rw [List.getElem?_set_ne (Ne.symm hj)] at e2
    obtain ⟨u',r',q⟩:=hl j y v' e1 e2 e3
    refine ⟨u',r',?_⟩
    rcases q with ⟨k,e⟩ | ⟨k,c,e,z⟩
    ·refine .inl ⟨k,?_⟩
     have:y≠x:=fun e=>hj (Ql hN e1 (e ▸ hi))
     simp [this,e]
    ·exact .inr ⟨k,c,e,z.sameBut hs (cne y c e)⟩
  ·obtain ⟨w',z⟩:=I.cell y c e
   exact ⟨w',z.sameBut hs (cne y c e)⟩
  ·obtain ⟨e,n,ne,nf,d⟩:=I.pin p hp
   exact ⟨(hs.2 p.1 ne).trans e,n,ne,nf,d⟩
 ·have hfn:X.fn x=true:=by
   rcases hf with z | z
   ·exact z
   ·rw [z] at hk; cases hk
  obtain ⟨c,hc⟩:=I.ok.has x (.inl hk)
  obtain ⟨w',z⟩:=I.cell x c hc
  refine wpAny_storeName_cell I.ok.kind hk hc z (fun h' hc' hs=>?_)
  obtain ⟨oc,hoc,hocd⟩:=id z
  refine h { s with heap:=h' } ⟨I.ok,I.os,I.bare,⟨fun b o e n hb hx=>?_,fun b o e n hb hx=>?_,I.base.free,fun b o e hx=>?_,I.base.tups,I.base.frzs,I.base.tbls⟩,⟨m,hn.sameBut hs (Ne.symm (cne x c hc)),fun j y v' e1 e2 e3=>?_⟩,fun y c' e=>?_,I.free,I.freeC,fun p hp=>?_,tracked ⟨oc,hoc,I.freeC x c hc⟩ hs,by simpa using I.len⟩ ⟨c,hs,.inr hc⟩
  ·exact (hs.2 b (Nat.ne_of_lt (Nat.lt_of_lt_of_le (Heap.lt_size e) (I.ok.cab x c hfn hc)))).trans (I.base.keep b o e n hb hx)
  ·obtain ⟨sl,e1⟩:=I.base.slot b o e n hb hx
   exact ⟨sl,(hs.2 b (Nat.ne_of_lt (Nat.lt_of_lt_of_le (Heap.lt_size e) (I.ok.cab x c hfn hc)))).trans e1⟩
  ·obtain ⟨o',e1⟩:=I.base.there b o e hx
   exact ⟨o',(hs.2 b (Nat.ne_of_lt (Nat.lt_of_lt_of_le (Heap.lt_size e) (I.ok.cab x c hfn hc)))).trans e1⟩
  ·by_cases hj:j=i
   ·subst hj
    rw [hi] at e1; cases e1
    rw [List.getElem?_set_self hiσ] at e2
    cases e2
    exact ⟨u,r,.inr ⟨.inl hk,c,hc,hc'⟩⟩
   ·rw [List.getElem?_set_ne (Ne.symm hj)] at e2
    obtain ⟨u',r',q⟩:=hl j y v' e1 e2 e3
    refine ⟨u',r',?_⟩
    rcases q with q | ⟨k,c',e,z'⟩
    ·exact .inl q
    ·refine .inr ⟨k,c',e,z'.sameBut hs ?_⟩
     rintro rfl
     exact hj (Ql hN e1 (I.ok.inj _ _ _ e hc ▸ hi))
  ·by_cases hcc:c'=c
   ·subst hcc; exact ⟨_,hc'⟩
   ·obtain ⟨w2,z2⟩:=I.cell y c' e
    exact ⟨w2,z2.sameBut hs hcc⟩
  ·obtain ⟨e,n,ne,nf,d⟩:=I.pin p hp
   refine ⟨(hs.2 p.1 ?_).trans e,n,ne,nf,d⟩
   intro q
   rw [q,hoc] at e
   have q':oc=p.2:=Option.some.inj e
   exact d w' (by rw [← q']; exact hocd)
theorem ZV {M:Model} {A:Around} {E:Value→Shared→Prop} {i:Nat} {x:Str} {v:V} {u:Value} {Q:Unit→Shared→Prop} (I:Inv X pins σ H s) (hN:X.N.Nodup) (hi:X.N[i]?=some x) (hx:Loc X.env.scope x) (r:RelV v u)
  (h:∀ s',Inv X pins (σ.set i (some v)) H s'→Q () s') (hf:X.fn x=true∨X.env.scope.names.lookup x=some .local:=by walk_at "p"):wpAny M A (storeName X.env x u) Q E s :=
 vU I hN hi hx r (fun s' I' _=>h s' I') hf
theorem Inv.call' {s':Shared} {ch:List Addr} (I:Inv X pins σ H s) (ho:s'.os=s.os) (u:Un (frs X.stack) ch H H' s.heap s'.heap) (hok:HOk X.prog X.w H' s'.heap) (hg:AllBare s'.gens)
  (hch:∀ b∈ch,(b∈X.ex∨X.s₀.heap.objs.size≤b)∧b≠X.env.locals∧(∀ x c,X.env.cells.lookup x=some c→c≠b)∧∀ p∈X.pn ++ pins,p.1≠b):Inv X pins σ H' s':=by
 obtain ⟨h',g',d',t',o'⟩:=s'
 have e:o'=s.os:=ho
 subst e
 exact I.call (g':=g') (t':=t') (d':=d') u hok hg hch
end
abbrev XK:=Value→Option Addr→Hp→Prop
abbrev St:=List (Option V)
abbrev VK:=V→Hp→Prop
abbrev TE:=St→Hp→VK→Prop
abbrev TT:=St→Hp→(Bool→Hp→Prop)→Prop
abbrev TA:=St→Hp→(List V→Hp→Prop)→Prop
structure Ends where
 nx:St→Hp→Prop
 rt:VK
 bk:St→Hp→Prop:=fun _ _=>False
 ct:St→Hp→Prop:=fun _ _=>False
abbrev TS:=Ends→St→Hp→Prop
def EP (X:Cx) (pins:List (Addr × Obj)) (σ:St) (Q:VK) (u:Value) (s':Shared):Prop:=∃ v H',Inv X pins σ H' s'∧RelV v u∧Q v H'
def TP (X:Cx) (pins:List (Addr × Obj)) (σ:St) (Q:Bool→Hp→Prop) (b:Bool) (s':Shared):Prop:=∃ H',Inv X pins σ H' s'∧Q b H'
def AP (X:Cx) (pins:List (Addr × Obj)) (σ:St) (Q:List V→Hp→Prop) (us:List Value) (s':Shared):Prop:=∃ vs H',Inv X pins σ H' s'∧Vals vs us∧Q vs H'
def SP (X:Cx) (pins:List (Addr × Obj)) (D:Ends) (f:Flow) (s':Shared):Prop :=
 match f with
 | .next=>∃ σ' H',Inv X pins σ' H' s'∧D.nx σ' H'
 | .brk=>∃ σ' H',Inv X pins σ' H' s'∧D.bk σ' H'
 | .cont=>∃ σ' H',Inv X pins σ' H' s'∧D.ct σ' H'
 | .ret u=>∃ v σ' H',Inv X pins σ' H' s'∧RelV v u∧D.rt v H'
def PE (X:Cx) (e:Expr) (t:TE):Prop :=
 ∀ (pins:List (Addr × Obj)) (s:Shared) (σ:St) (H:Hp) (Q:VK),Inv X pins σ H s→t σ H Q→wpAny (model X.prog X.w) X.A (eval e X.env) (EP X pins σ Q) X.xe s
def PT (X:Cx) (e:Expr) (t:TT):Prop :=
 ∀ (pins:List (Addr × Obj)) (s:Shared) (σ:St) (H:Hp) (Q:Bool→Hp→Prop),Inv X pins σ H s→t σ H Q→wpAny (model X.prog X.w) X.A (isTrue e X.env (eval e X.env)) (TP X pins σ Q) X.xe s
def PW (X:Cx) (e:Expr) (t:TT):Prop :=
 ∀ (whole:Sem Value) (pins:List (Addr × Obj)) (s:Shared) (σ:St) (H:Hp) (Q:Bool→Hp→Prop),Inv X pins σ H s→t σ H Q→wpAny (model X.prog X.w) X.A (isTrue e X.env whole) (TP X pins σ Q) X.xe s
theorem PW.pt {X:Cx} {e:Expr} {t:TT} (h:PW X e t):PT X e t:=h _
def PA (X:Cx) (es:List Expr) (t:TA):Prop :=
 ∀ (pos:Pos) (pins:List (Addr × Obj)) (s:Shared) (σ:St) (H:Hp) (Q:List V→Hp→Prop),Inv X pins σ H s→t σ H Q→wpAny (model X.prog X.w) X.A (spliced (backTo pos (starEach es X.env))) (AP X pins σ Q) X.xe s
def PS (X:Cx) (st:Stmt) (t:TS):Prop :=
 ∀ (pins:List (Addr × Obj)) (s:Shared) (σ:St) (H:Hp) (D:Ends),Inv X pins σ H s→t D σ H→wpAny (model X.prog X.w) X.A (exec st X.env) (SP X pins D) X.xe s
def PSs (X:Cx) (st:List Stmt) (t:TS):Prop :=
 ∀ (pins:List (Addr × Obj)) (s:Shared) (σ:St) (H:Hp) (D:Ends),Inv X pins σ H s→t D σ H→wpAny (model X.prog X.w) X.A (execs st X.env) (SP X pins D) X.xe s
theorem thn {α:Type} {t:Sem α} {Q Q':α→Shared→Prop} {M:Model} {A:Around} {E:Value→Shared→Prop} {s:Shared} (h:wpAny M A t Q E s) (hQ:∀ a s,Q a s→Q' a s):wpAny M A t Q' E s:=wpAny_mono h hQ fun _ _ x=>x
end L2
namespace L2
open PySem PySem.Spec PyProof.Rows
section
variable {X:Cx}
def tVar (i:Nat):TE:=fun σ H Q=>∃ v,σ[i]?=some (some v)∧Q v H
def tC (v:V):TE:=fun _ H Q=>Q v H
theorem pe_var {i:Nat} {x:Str} {pos:Pos} (hN:X.N[i]?=some x) (hv:Vis X.env.scope x) (hd:(x == ("__debug__":Str))=false:=by decide) (hcd:(x == ("__classdict__":Str))=false:=by decide):PE X (.Name x pos) (tVar i):=by
 intro pins s σ H Q I h
 obtain ⟨v,e,h⟩:=h
 obtain ⟨m,hn,hl⟩:=I.loc
 obtain ⟨u,r,l⟩:=hl i x v hN e hv
 have fin:EP X pins σ Q u s:=⟨v,H,I,r,h⟩
 rcases l with ⟨hk,hm⟩ | ⟨hk,c,hc,hcell⟩
 ·exact wpAny_Name (wpAny_loadName_local I.ok.kind hk hn hm fin) hd
 ·rcases hk with hk | hk
  ·exact wpAny_Name (wpAny_loadName_cell I.ok.kind hk hc hcell fin) hd
  ·exact wpAny_Name (wpAny_loadName_free I.ok.kind hk hc hcell fin hcd) hd
theorem zc {i j pos}:PE X (.Constant (.int i) j pos) (tC (.int i)):=fun _ _ _ H _ I h=>wpAny_Constant_int ⟨.int i,H,I.tok _,⟨_,rfl⟩,h⟩
theorem xS {b j pos}:PE X (.Constant (.bool b) j pos) (tC (.bl b)):=fun _ _ _ H _ I h=>Constant_bool ⟨.bl b,H,I,rfl,h⟩
theorem zz {j pos}:PE X (.Constant .none j pos) (tC .non):=fun _ _ _ H _ I h=>Constant_none ⟨.non,H,I,rfl,h⟩
theorem qG {x j pos}:PE X (.Constant (.str x) j pos) (tC (.str x)):=fun _ _ _ H _ I h=>Calls.Constant_str ⟨.str x,H,I.tok _,⟨_,rfl⟩,h⟩
def Gl (X:Cx) (x:Str):Prop:=X.env.kindOf x=some .globalImplicit
theorem jF {E:Value→Shared→Prop} {pins:List (Addr × Obj)} {s:Shared} {σ:St} {H:Hp} {x:Str} {u:Value} {pos:Pos} {Q:Value→Shared→Prop} (I:Inv X pins σ H s) (hg:Gl X x) (hm:X.mg x=some u) (h:Q u s)
  (hd:(x == ("__debug__":Str))=false:=by decide):wpAny (model X.prog X.w) X.A (eval (.Name x pos) X.env) Q E s :=
 Calls.Name_function_global I.ok.kind hg (Calls.loadGlobal_global (by rw [I.ok.glob]; exact I.mod.glob.keeps I.bk) hm h) hd
theorem jp {E:Value→Shared→Prop} {pins:List (Addr × Obj)} {s:Shared} {σ:St} {H:Hp} {x:Str} {u:Value} {pos:Pos} {Q:Value→Shared→Prop} (I:Inv X pins σ H s) (hg:Gl X x) (hm:X.mg x=none) (hv:bootBuiltins x=some u) (h:Q u s)
  (hn:x≠"__name__":=by decide) (hd:(x == ("__debug__":Str))=false:=by decide):wpAny (model X.prog X.w) X.A (eval (.Name x pos) X.env) Q E s:=by
 obtain ⟨mb,h1,h2⟩:=I.mod.blt
 exact Calls.Name_function_global I.ok.kind hg (Calls.loadGlobal_builtin (by rw [I.ok.glob]; exact I.mod.glob.keeps I.bk) hm (by rw [I.ok.blt]; exact h1.keeps I.bk) ((h2 x hn).trans hv) h) hd
variable {a b:Expr} {ta tb:TE} {pos:Pos}
def PC (X:Cx) (op:CmpOp) (a b:Expr) (t:TE):Prop :=
 ∀ (pins:List (Addr × Obj)) (s:Shared) (σ:St) (H:Hp) (Q:VK),Inv X pins σ H s→t σ H Q →
  wpAny (model X.prog X.w) X.A (eval a X.env) (fun v s₁=>wpAny (model X.prog X.w) X.A (eval b X.env) (fun u s₂=>wpAny (model X.prog X.w) X.A (compareOp op v u) (EP X pins σ Q) X.xe s₂) X.xe s₁) X.xe s
theorem nobehind (b:Expr) {op:CmpOp} (h:op≠.In) (h2:op≠.NotIn):behindInMarks op b=false:=by
 have e1:(op == CmpOp.In)=false:=by cases op <;> first | rfl | exact absurd rfl h
 have e2:(op == CmpOp.NotIn)=false:=by cases op <;> first | rfl | exact absurd rfl h2
 cases b <;> simp [behindInMarks,e1,e2]
def tB (t:TE):TT:=fun σ H Q=>t σ H fun x H1=>∃ c,x=.bl c∧Q c H1
theorem pt_cmp {op:CmpOp} {t:TE} (h:PC X op a b t) (h1:behindInMarks op b=false:=by walk_at "q"):PT X (.Compare a [op] [b] pos) (tB t):=by
 intro pins s σ H Q I hw
 refine wpAny_isTrue_Compare1 (thn (h pins s σ H _ I hw) fun v s1 h1=>thn h1 fun u s2 h2=>thn h2 fun c s3 ⟨x,H1,I1,r1,q1⟩=>?_) h1
 obtain ⟨d,rfl,q⟩:=q1
 cases r1
 exact wpAny_truthy_bool ⟨H1,I1,q⟩
variable {tA tB':TT} {rest:List Expr}
def tAnd (t u:TT):TT:=fun σ H Q=>t σ H fun c H1=>if c=true then u σ H1 Q else Q false H1
def tOr (t u:TT):TT:=fun σ H Q=>t σ H fun c H1=>if c=true then Q true H1 else u σ H1 Q
def tNot (t:TT):TT:=fun σ H Q=>t σ H fun c H1=>Q (!c) H1
theorem pw_and1 (ha:PT X a tA):PW X (.BoolOp .And [a] pos) tA:=by
 intro wh pins s σ H Q I h
 refine isTrue_and (thn (ha pins s σ H Q I h) fun c s1 e=>?_)
 cases c with
 | true=>exact isTrue_and_nil e
 | false=>exact e
theorem pw_or1 (ha:PT X a tA):PW X (.BoolOp .Or [a] pos) tA:=by
 intro wh pins s σ H Q I h
 refine isTrue_or (thn (ha pins s σ H Q I h) fun c s1 e=>?_)
 cases c with
 | false=>exact isTrue_or_nil e
 | true=>exact e
theorem pw_and (ha:PT X a tA) (hb:PW X (.BoolOp .And (b :: rest) pos) tB'):PW X (.BoolOp .And (a :: b :: rest) pos) (tAnd tA tB'):=by
 intro wh pins s σ H Q I h
 refine isTrue_and (thn (ha pins s σ H _ I h) fun c s1 ⟨H1,I1,q1⟩=>?_)
 cases c with
 | true=>exact hb wh pins s1 σ H1 Q I1 q1
 | false=>exact ⟨H1,I1,q1⟩
theorem pw_or (ha:PT X a tA) (hb:PW X (.BoolOp .Or (b :: rest) pos) tB'):PW X (.BoolOp .Or (a :: b :: rest) pos) (tOr tA tB'):=by
 intro wh pins s σ H Q I h
 refine isTrue_or (thn (ha pins s σ H _ I h) fun c s1 ⟨H1,I1,q1⟩=>?_)
 cases c with
 | true=>exact ⟨H1,I1,q1⟩
 | false=>exact hb wh pins s1 σ H1 Q I1 q1
theorem qk (ha:PT X a tA):PT X (.UnaryOp .Not a pos) (tNot tA):=by
 intro pins s σ H Q I h
 exact isTrue_not (ha pins s σ H (fun c H1=>Q (!c) H1) I h)
def tAndV (ta tb:TE):TE:=fun σ H Q=>ta σ H fun x H1=>∃ c,x=.bl c∧if c=true then tb σ H1 Q else Q (.bl false) H1
def tOrV (ta tb:TE):TE:=fun σ H Q=>ta σ H fun x H1=>∃ c,x=.bl c∧if c=true then Q (.bl true) H1 else tb σ H1 Q
def tNotV (ta:TE):TE:=fun σ H Q=>ta σ H fun x H1=>∃ c,x=.bl c∧Q (.bl (!c)) H1
theorem QL {op} {t:TE} (h:PE X a t):PE X (.BoolOp op [a] pos) t:=fun pins s σ H Q I hw=>BoolOp_one (h pins s σ H Q I hw)
theorem ZC (ha:PE X a ta) (hb:PE X (.BoolOp .And (b :: rest) pos) tb):PE X (.BoolOp .And (a :: b :: rest) pos) (tAndV ta tb):=by
 intro pins s σ H Q I h
 refine BoolOp_and (thn (ha pins s σ H _ I h) fun v s1 ⟨x,H1,I1,r1,q1⟩=>?_)
 obtain ⟨c,rfl,q1⟩:=q1
 cases r1
 refine wpAny_truthy_bool ?_
 cases c with
 | true=>exact hb pins s1 σ H1 Q I1 q1
 | false=>exact ⟨.bl false,H1,I1,rfl,q1⟩
theorem pe_not (ha:PE X a ta):PE X (.UnaryOp .Not a pos) (tNotV ta):=by
 intro pins s σ H Q I h
 refine UnaryOp_ (thn (ha pins s σ H _ I h) fun v s1 ⟨x,H1,I1,r1,q1⟩=>?_)
 obtain ⟨c,rfl,q1⟩:=q1
 cases r1
 exact not_of (wpAny_truthy_bool ⟨.bl (!c),H1,I1,rfl,q1⟩)
def tIf (t:TT) (ta tb:TE):TE:=fun σ H Q=>t σ H fun c H1=>if c=true then ta σ H1 Q else tb σ H1 Q
theorem jV {c:Expr} (hc:PT X c tA) (ha:PE X a ta) (hb:PE X b tb):PE X (.IfExp c a b pos) (tIf tA ta tb):=by
 intro pins s σ H Q I h
 refine wpAny_IfExp (thn (hc pins s σ H _ I h) fun d s1 ⟨H1,I1,q1⟩=>?_)
 cases d with
 | true=>exact ha pins s1 σ H1 Q I1 q1
 | false=>exact hb pins s1 σ H1 Q I1 q1
end
end L2
namespace L2
open PySem PySem.Spec PyProof.Rows
def SqL (K:PySem.W.Frag) (H:Hp) (a:Addr) (xs:List V):Prop :=
 Rd H a (.lst xs) ∨
  ∃ (o:Obj) (its:Array Value) (n:Nat),K.lookup a=some o∧o.cls=.type "list"∧o.dict=none∧o.data=.seq its n∧its.size≤sizeLine∧Vals xs its.toList
def SqT (K:PySem.W.Frag) (H:Hp) (a:Addr) (xs:List V):Prop :=
 Rd H a (.tup xs) ∨
  ∃ (o:Obj) (its:Array Value) (n:Nat),K.lookup a=some o∧o.cls=.type "tuple"∧o.data=.seq its n∧its.size≤sizeLine∧Vals xs its.toList
def absV:Value→Option V
 | .none=>some .non
 | .bool b=>some (.bl b)
 | .int i _=>some (.int i)
 | .str x _=>some (.str x)
 | .bytes b _=>some (.byt b)
 | .float b _=>some (.flt b)
 | .ref a=>some (.ref a)
 | .type n=>some (.ty n)
 | _=>none
theorem RelV.abs {x:V} {u:Value} (r:RelV x u):absV u=some x:=by
 cases x with
 | non=>cases r; rfl
 | bl _=>cases r; rfl
 | int _=>obtain ⟨t,rfl⟩:=r; rfl
 | str _=>obtain ⟨t,rfl⟩:=r; rfl
 | byt _=>obtain ⟨t,rfl⟩:=r; rfl
 | flt _=>obtain ⟨t,rfl⟩:=r; rfl
 | ref _=>cases r; rfl
 | ty _=>cases r; rfl
theorem RelV.inj {x y:V} {u:Value} (r:RelV x u) (q:RelV y u):x=y:=Option.some.inj (r.abs.symm.trans q.abs)
theorem Vals.inj:∀ {xs ys:List V} {us:List Value},Vals xs us→Vals ys us→xs=ys
 | _,_,_,.nil,.nil=>rfl
 | _,_,_,.cons r t,.cons r' t'=>by rw [r.inj r',Vals.inj t t']
section
variable {X:Cx} {pins:List (Addr × Obj)} {σ:St} {H:Hp} {s:Shared} {a:Addr} {xs ys:List V}
theorem SqL.of {K:PySem.W.Frag} (h:H a=some (.lst xs)):SqL K H a xs:=.inl (.inl h)
theorem SqT.of {K:PySem.W.Frag} (h:H a=some (.tup xs)):SqT K H a xs:=.inl (.inl h)
theorem Inv.list (I:Inv X pins σ H s) (h:SqL X.K H a xs):∃ its:List Value,Vals xs its∧PlainL s.heap a its.toArray∧xs.length≤sizeLine:=by
 rcases h with h | ⟨o,its,n,hk,hc,hd,hs,hz,r⟩
 ·obtain ⟨z,its,n,r,e⟩:=h.ok I.hok
  exact ⟨its,r,⟨_,n,e,rfl,rfl,rfl⟩,z⟩
 ·refine ⟨its.toList,r,⟨o,n,I.kIn a o hk,hc,hd,by simpa using hs⟩,?_⟩
  have e:=r.length
  simp only [Array.length_toList] at e
  omega
theorem Inv.tuple (I:Inv X pins σ H s) (h:SqT X.K H a xs):∃ its:List Value,Vals xs its∧IsTup s.heap a its.toArray∧xs.length≤sizeLine:=by
 rcases h with h | ⟨o,its,n,hk,hc,hs,hz,r⟩
 ·obtain ⟨z,its,r,p⟩:=h.ok I.hok
  exact ⟨its,r,p,z⟩
 ·refine ⟨its.toList,r,⟨o,I.kIn a o hk,hc,n,by simpa using hs⟩,?_⟩
  have e:=r.length
  simp only [Array.length_toList] at e
  omega
theorem Inv.list_inj (I:Inv X pins σ H s) (h:SqL X.K H a xs) (h':SqL X.K H a ys):xs=ys:=by
 obtain ⟨its,r,⟨o,n,e,_,_,d⟩,_⟩:=I.list h
 obtain ⟨its',r',⟨o',n',e',_,_,d'⟩,_⟩:=I.list h'
 rw [e] at e'; cases e'
 rw [d] at d'
 injection d' with d1 _
 have:its=its':=by simpa using congrArg Array.toList d1
 subst this
 exact r.inj r'
theorem Inv.tuple_inj (I:Inv X pins σ H s) (h:SqT X.K H a xs) (h':SqT X.K H a ys):xs=ys:=by
 obtain ⟨its,r,⟨o,e,_,n,d⟩,_⟩:=I.tuple h
 obtain ⟨its',r',⟨o',e',_,n',d'⟩,_⟩:=I.tuple h'
 rw [e] at e'; cases e'
 rw [d] at d'
 injection d' with d1 _
 have:its=its':=by simpa using congrArg Array.toList d1
 subst this
 exact r.inj r'
end
abbrev Cx.wish (X:Cx) (E:Value→Shared→Prop):Cx:={ X with xe:=E }
abbrev Cx.nox (X:Cx):Cx:=X.wish fun _ _=>False
theorem Cx.Ok.wish {X:Cx} (ok:X.Ok) (E:Value→Shared→Prop):(X.wish E).Ok :=
 ⟨ok.mod,ok.kind,ok.glob,ok.blt,ok.above,ok.inj,ok.has,ok.cab,ok.hd,ok.frames,ok.stk,ok.exf,ok.bs,ok.bsz,ok.noex,ok.exfs,ok.funs,ok.frf⟩
theorem Cx.Ok.unwish {X:Cx} {E:Value→Shared→Prop} (ok:(X.wish E).Ok):X.Ok :=
 ⟨ok.mod,ok.kind,ok.glob,ok.blt,ok.above,ok.inj,ok.has,ok.cab,ok.hd,ok.frames,ok.stk,ok.exf,ok.bs,ok.bsz,ok.noex,ok.exfs,ok.funs,ok.frf⟩
section
variable {X:Cx} {pins:List (Addr × Obj)} {σ:St} {H:Hp} {s:Shared} {E:Value→Shared→Prop}
theorem Inv.wish (I:Inv X pins σ H s) (E:Value→Shared→Prop):Inv (X.wish E) pins σ H s:=⟨I.ok.wish E,I.os,I.bare,I.base,I.loc,I.cell,I.free,I.freeC,I.pin,I.hok,I.len⟩
theorem Inv.unwish (I:Inv (X.wish E) pins σ H s):Inv X pins σ H s:=⟨I.ok.unwish,I.os,I.bare,I.base,I.loc,I.cell,I.free,I.freeC,I.pin,I.hok,I.len⟩
theorem SP.unwish {D:Ends} {f:Flow} {s':Shared} (h:SP (X.wish E) pins D f s'):SP X pins D f s':=by
 cases f with
 | next=>obtain ⟨σ',H',I,q⟩:=h; exact ⟨σ',H',I.unwish,q⟩
 | brk=>obtain ⟨σ',H',I,q⟩:=h; exact ⟨σ',H',I.unwish,q⟩
 | cont=>obtain ⟨σ',H',I,q⟩:=h; exact ⟨σ',H',I.unwish,q⟩
 | ret u=>obtain ⟨v,σ',H',I,r,q⟩:=h; exact ⟨v,σ',H',I.unwish,r,q⟩
theorem PE.nox {e:Expr} {t:TE} (h:PE X.nox e t):PE X e t:=fun pins s σ H Q I hw =>
 wpAny_mono (h pins s σ H Q (I.wish _) hw) (fun _ _ ⟨v,H',I',r,q⟩=>⟨v,H',I'.unwish,r,q⟩) fun _ _ z=>False.elim z
theorem PT.nox {e:Expr} {t:TT} (h:PT X.nox e t):PT X e t:=fun pins s σ H Q I hw =>
 wpAny_mono (h pins s σ H Q (I.wish _) hw) (fun _ _ ⟨H',I',q⟩=>⟨H',I'.unwish,q⟩) fun _ _ z=>False.elim z
theorem PSs.nox {st:List Stmt} {t:TS} (h:PSs X.nox st t):PSs X st t:=fun pins s σ H D I hw =>
 wpAny_mono (h pins s σ H D (I.wish _) hw) (fun _ _ q=>q.unwish) fun _ _ z=>False.elim z
end
section
variable {X:Cx} {st:Stmt} {rest:List Stmt} {t u:TS} {e:Expr} {te:TE} {pos:Pos}
def tNext:TS:=fun D σ H=>D.nx σ H
def tSeq (t u:TS):TS:=fun D σ H=>t { D with nx:=u D } σ H
theorem zk:PSs X [] tNext:=fun _ _ σ H _ I h=>wpAny_execs_nil ⟨σ,H,I,h⟩
theorem zh (h1:PS X st t) (h2:PSs X rest u):PSs X (st :: rest) (tSeq t u):=by
 intro pins s σ H D I h
 refine wpAny_execs_cons (thn (h1 pins s σ H { D with nx:=u D } I h) fun f s1 q=>?_)
 cases f with
 | next =>
  obtain ⟨σ',H',I',q⟩:=q
  exact h2 pins s1 σ' H' D I' q
 | ret v=>exact q
 | brk=>exact q
 | cont=>exact q
theorem zd (h1:PS X st t):PSs X [st] t:=by
 intro pins s σ H D I h
 refine wpAny_execs_cons (thn (h1 pins s σ H D I h) fun f s1 q=>?_)
 cases f with
 | next=>exact wpAny_execs_nil q
 | ret v=>exact q
 | brk=>exact q
 | cont=>exact q
def tBreak:TS:=fun D σ H=>D.bk σ H
def tCont:TS:=fun D σ H=>D.ct σ H
theorem Inv.quiet {pins:List (Addr × Obj)} {σ:St} {H:Hp} {s:Shared} (I:Inv X pins σ H s):interactive X.env=false:=by simp [interactive,I.ok.kind]
def tDrop (te:TE):TS:=fun D σ H=>te σ H fun _ H1=>D.nx σ H1
theorem zt (he:PE X e te) (hs:swapsWith e none pos.line X.env=pure false:=by rfl):PS X (.Expr e pos) (tDrop te):=by
 intro pins s σ H D I h
 exact wpAny_Expr_any (thn (he pins s σ H _ I h) fun v s1 ⟨x,H1,I1,r1,q1⟩=>⟨σ,H1,I1,q1⟩) I.quiet hs
def tRet (te:TE):TS:=fun D σ H=>te σ H D.rt
theorem zj (he:PE X e te):PS X (.Return (some e) pos) (tRet te):=by
 intro pins s σ H D I h
 exact wpAny_Return_some (thn (he pins s σ H _ I h) fun v s1 ⟨x,H1,I1,r1,q1⟩=>⟨x,σ,H1,I1,r1,q1⟩)
def tRetN:TS:=fun D _ H=>D.rt .non H
def tIfS (c:TT) (t u:TS):TS:=fun D σ H=>c σ H fun b H1=>if b=true then t D σ H1 else u D σ H1
theorem zy {c:Expr} {a b:List Stmt} {tc:TT} (hc:PT X c tc) (ha:PSs X a t) (hb:PSs X b u):PS X (.If c a b pos) (tIfS tc t u):=by
 intro pins s σ H D I h
 refine wpAny_If (thn (hc pins s σ H _ I h) fun d s1 ⟨H1,I1,q1⟩=>?_)
 cases d with
 | true=>exact ha pins s1 σ H1 D I1 q1
 | false=>exact hb pins s1 σ H1 D I1 q1
def tNever:TS:=fun _ _ _=>False
end
abbrev TG:=V→St→Hp→(St→Hp→Prop)→Prop
abbrev TGs:=List V→St→Hp→(St→Hp→Prop)→Prop
def PG (X:Cx) (target:Expr) (t:TG):Prop :=
 ∀ (pins:List (Addr × Obj)) (s:Shared) (σ:St) (H:Hp) (v:V) (u:Value) (Q:St→Hp→Prop),Inv X pins σ H s→RelV v u→t v σ H Q →
  wpAny (model X.prog X.w) X.A (assign target X.env u) (fun _ s'=>∃ σ' H',Inv X pins σ' H' s'∧Q σ' H') X.xe s
def PGs (X:Cx) (ts:List Expr) (t:TGs):Prop :=
 ∀ (pins:List (Addr × Obj)) (s:Shared) (σ:St) (H:Hp) (vs:List V) (us:List Value) (Q:St→Hp→Prop),Inv X pins σ H s→Vals vs us→t vs σ H Q →
  wpAny (model X.prog X.w) X.A (assignInOrder ((assignEach ts X.env).map (·.2)) us) (fun _ s'=>∃ σ' H',Inv X pins σ' H' s'∧Q σ' H') X.xe s
abbrev TSet:=V→V→V→Hp→(Hp→Prop)→Prop
def PSet (X:Cx) (t:TSet):Prop :=
 ∀ (pins:List (Addr × Obj)) (s:Shared) (σ:St) (H:Hp) (o i v:V) (ov iv u:Value) (Q:Hp→Prop),Inv X pins σ H s→RelV o ov→RelV i iv→RelV v u→t o i v H Q →
  wpAny (model X.prog X.w) X.A (setItem ov iv u) (fun _ s'=>∃ H',Inv X pins σ H' s'∧Q H') X.xe s
abbrev TIp:=V→V→Hp→VK→Prop
def PIp (X:Cx) (op:Operator) (t:TIp):Prop :=
 ∀ (pins:List (Addr × Obj)) (s:Shared) (σ:St) (H:Hp) (x y:V) (v u:Value) (Q:VK),Inv X pins σ H s→RelV x v→RelV y u→t x y H Q →
  wpAny (model X.prog X.w) X.A (inplaceOp op v u) (EP X pins σ Q) X.xe s
section
variable {X:Cx} {pos:Pos}
def gName (i:Nat):TG:=fun v σ H Q=>Q (σ.set i (some v)) H
theorem pg_name {i:Nat} {x:Str} (hN:X.N.Nodup) (hi:X.N[i]?=some x) (hx:Loc X.env.scope x) (hf:X.fn x=true∨X.env.scope.names.lookup x=some .local:=by walk_at "p"):PG X (.Name x pos) (gName i):=by
 intro pins s σ H v u Q I r h
 exact wpAny_assign_Name (ZV I hN hi hx r (fun s' I'=>⟨_,H,I',h⟩) hf)
def gNil:TGs:=fun vs σ H Q=>vs=[]∧Q σ H
def gCons (t:TG) (u:TGs):TGs:=fun vs σ H Q=>∃ v r,vs=v :: r∧t v σ H fun σ' H'=>u r σ' H' Q
theorem ja:PGs X [] gNil:=by
 intro pins s σ H vs us Q I r h
 obtain ⟨e,h⟩:=h
 subst e
 cases r
 exact assignInOrder_nil ⟨σ,H,I,h⟩
theorem zZ {e:Expr} {es:List Expr} {t:TG} {u:TGs} (h1:PG X e t) (h2:PGs X es u)
  (hs:(assignEach (e :: es) X.env).map (·.2)=assign e X.env :: (assignEach es X.env).map (·.2):=by rfl):PGs X (e :: es) (gCons t u):=by
 intro pins s σ H vs us Q I r h
 obtain ⟨v,vr,e1,h⟩:=h
 subst e1
 cases r with
 | cons r rr =>
  rw [hs]
  refine assignInOrder_cons (thn (h1 pins s σ H _ _ _ I r h) fun _ s1 ⟨σ1,H1,I1,q1⟩=>?_)
  exact h2 pins s1 σ1 H1 _ _ Q I1 rr q1
def gTup (K:PySem.W.Frag) (n:Nat) (t:TGs):TG:=fun v σ H Q=>∃ a xs,v=.ref a∧SqT K H a xs∧xs.length=n∧t xs σ H Q
theorem jD {es:List Expr} {k:Nat} {t:TGs} {n:Nat} (hc:X.calm=true) (h:PGs X es t)
  (hn:(assignEach es X.env).length=n:=by rfl) (hst:(assignEach es X.env).findIdx? (·.1)=none:=by rfl):PG X (.Tuple es k pos) (gTup X.K n t):=by
 intro pins s σ H v u Q I r hw
 obtain ⟨a,xs,e1,hq,hl,hw⟩:=hw
 subst e1
 cases r
 obtain ⟨its,rv,ht,hz⟩:=I.tuple hq
 refine assign_Tuple_tuple (I.ok.hd hc) ht (by simp [hn,← hl,rv.length]) hst fun h' hx=>?_
 have I1:Inv X pins σ H { s with heap:=h' }:=I.kept (t':=s.toks) fun b o e=>hx b o (Nat.ne_of_lt (Heap.lt_size e)) e
 exact h pins _ σ H xs _ Q I1 (by simpa using rv) hw
def gSub (to ti:TE) (t:TSet):TG:=fun v σ H Q=>to σ H fun o H1=>ti σ H1 fun i H2=>t o i v H2 fun H3=>Q σ H3
theorem vm {o i:Expr} {to ti:TE} {t:TSet} (ho:PE X o to) (hi:PE X i ti) (hs:PSet X t)
  (ha:∀ v,assign (.Subscript o i pos) X.env v=(do
   let ov ← holding [v] (eval o X.env)
   let iv ← holding [v,ov] (eval i X.env)
   standAt pos
   holding [v,ov,iv] (setItem ov iv v)
   release [v,ov,iv] []):=by intro _; rfl):PG X (.Subscript o i pos) (gSub to ti t):=by
 intro pins s σ H v u Q I r h
 rw [ha]
 refine wpAny_bind (wpAny_holding (thn (ho pins s σ H _ I h) fun ov s1 ⟨x,H1,I1,r1,q1⟩=>?_))
 refine wpAny_bind (wpAny_holding (thn (hi pins s1 σ H1 _ I1 q1) fun iv s2 ⟨y,H2,I2,r2,q2⟩=>?_))
 refine wpAny_bind (wpAny_standAt (wpAny_bind (wpAny_holding (thn (hs pins s2 σ H2 x y v ov iv u _ I2 r1 r2 r q2) fun _ s3 ⟨H3,I3,q3⟩=>?_))))
 exact wpAny_release ⟨σ,H3,I3,q3⟩
def tAsg (te:TE) (g:TG):TS:=fun D σ H=>te σ H fun x H1=>g x σ H1 D.nx
theorem vd {tg e:Expr} {te:TE} {g:TG} (he:PE X e te) (hg:PG X tg g) (hs:swapsWithSole [tg] e pos.line X.env=pure false:=by rfl) (hw:swappedStores [tg] e X.env=pure none:=by rfl)
  (h1:(assignEach [tg] X.env).map (·.2)=[assign tg X.env]:=by rfl):PS X (.Assign [tg] e pos) (tAsg te g):=by
 intro pins s σ H D I h
 refine wpAny_Assign_stores (thn (he pins s σ H _ I h) fun v s1 ⟨x,H1,I1,r1,q1⟩=>?_) hs hw
 rw [h1]
 exact thn (hg pins s1 σ H1 x v _ I1 r1 q1) fun _ s2 q=>q
theorem ZB {i:Nat} {x:Str} {e:Expr} {te:TE} {pos':Pos} (hN:X.N.Nodup) (hi:X.N[i]?=some x) (hx:Loc X.env.scope x) (he:PE X e te) (hs:swapsWith e (some (.Name x pos')) pos.line X.env=pure false:=by rfl) (hf:X.fn x=true∨X.env.scope.names.lookup x=some .local:=by walk_at "p") :
  PS X (.Assign [.Name x pos'] e pos) (tAsg te (gName i)):=by
 intro pins s σ H D I h
 refine wpAny_Assign_Name (thn (he pins s σ H _ I h) fun v s1 ⟨y,H1,I1,r1,q1⟩=>?_) hs
 exact ZV I1 hN hi hx r1 (fun s2 I2=>⟨_,H1,I2,q1⟩) hf
def tAug (i:Nat) (te:TE) (ti:TIp):TS:=fun D σ H=>∃ x,σ[i]?=some (some x)∧te σ H fun y H1=>ti x y H1 fun z H2=>D.nx (σ.set i (some z)) H2
def J3 (to ti te:TE) (tget:V→V→Hp→VK→Prop) (tip:TIp) (tset:TSet):TS:=fun D σ H=>to σ H fun o H1=>ti σ H1 fun i H2=>tget o i H2 fun x H3=>te σ H3 fun y H4=>tip x y H4 fun z H5=>tset o i z H5 fun H6=>D.nx σ H6
def PGet (X:Cx) (t:V→V→Hp→VK→Prop):Prop :=
 ∀ (pins:List (Addr × Obj)) (s:Shared) (σ:St) (H:Hp) (o i:V) (ov iv:Value) (Q:VK),Inv X pins σ H s→RelV o ov→RelV i iv→t o i H Q →
  wpAny (model X.prog X.w) X.A (getItem ov iv) (EP X pins σ Q) X.xe s
theorem ps_augS {o i e:Expr} {to ti te:TE} {tget:V→V→Hp→VK→Prop} {tip:TIp} {tset:TSet} {op:Operator} {tpos:Pos} (ho:PE X o to) (hi:PE X i ti) (hg:PGet X tget) (he:PE X e te) (hp:PIp X op tip) (hs:PSet X tset)
  (ha:∀ ov iv new,augStore i ov iv new=(do holding [new,ov,iv] (setItem ov iv new); release [new,ov,iv] []; pure .next):=by intros; rfl):PS X (.AugAssign (.Subscript o i tpos) op e pos) (J3 to ti te tget tip tset):=by
 intro pins s σ H D I h
 refine wpAny_AugAssign_SubscriptAny (thn (ho pins s σ H _ I h) fun ov s1 ⟨x1,H1,I1,r1,q1⟩=>?_) ha
 refine thn (hi pins s1 σ H1 _ I1 q1) fun iv s2 ⟨x2,H2,I2,r2,q2⟩=>?_
 refine thn (hg pins s2 σ H2 x1 x2 ov iv _ I2 r1 r2 q2) fun old s3 ⟨x3,H3,I3,r3,q3⟩=>?_
 refine thn (he pins s3 σ H3 _ I3 q3) fun v s4 ⟨x4,H4,I4,r4,q4⟩=>?_
 refine thn (hp pins s4 σ H4 x3 x4 old v _ I4 r3 r4 q4) fun new s5 ⟨x5,H5,I5,r5,q5⟩=>?_
 exact thn (hs pins s5 σ H5 x1 x2 x5 ov iv new _ I5 r1 r2 r5 q5) fun _ s6 ⟨H6,I6,q6⟩=>⟨σ,H6,I6,q6⟩
def ipI (f:Int→Int→Int):TIp:=fun x y H Q=>∃ i j,x=.int i∧y=.int j∧Q (.int (f i j)) H
theorem ip_add:PIp X .Add (ipI fun i j=>i + j):=by
 intro pins s σ H x y v u Q I r1 r2 h
 obtain ⟨i,j,e1,e2,q⟩:=h
 subst e1; subst e2
 obtain ⟨t,rfl⟩:=r1
 obtain ⟨t',rfl⟩:=r2
 exact iadd_int ⟨.int _,H,I.tok _,⟨_,rfl⟩,q⟩
end
section
variable {X:Cx} {pos:Pos}
end
structure It where
 go:Nat→Hp→Prop
 yld:Nat→Hp→V→Hp→Prop
 stop:Nat→Hp→Prop
def FpOk (X:Cx) (pins:List (Addr × Obj)) (H:Hp) (b:Addr):Prop :=
 H b=none∧b≠X.env.locals∧b ∉ X.fs∧(b∈X.ex∨X.s₀.heap.objs.size≤b)∧(∀ x c,X.env.cells.lookup x=some c→c≠b)∧∀ p∈X.pn ++ pins,p.1≠b
theorem Inv.fpOk {X:Cx} {pins:List (Addr × Obj)} {σ:St} {H H':Hp} {s:Shared} {b:Addr} (I:Inv X pins σ H s) (hb:s.heap.objs.size≤b) (hn:H' b=none):FpOk X pins H' b:=by
 refine ⟨hn,Nat.ne_of_gt (Nat.lt_of_lt_of_le I.lt hb),I.nofs hb,.inr (Nat.le_trans I.sz hb),fun x c e z=>?_,fun p hp z=>?_⟩
 ·obtain ⟨v,q⟩:=I.cell x c e
  exact absurd (Nat.lt_of_lt_of_le q.lt (by rw [z]; exact hb)) (Nat.lt_irrefl _)
 ·exact absurd (Nat.lt_of_lt_of_le (Heap.lt_size (I.pin p hp).1) (by rw [z]; exact hb)) (Nat.lt_irrefl _)
structure Turn (P:Program) (w:World) (K:PySem.W.Frag) (tg:Expr) (J:It) (fp:List Addr) (it:Addr) (tn:Nat→Heap→Prop):Prop where
 mem:it∈fp
 obj:∀ i h,tn i h→∀ b∈fp,∃ o,h.get? b=some o∧∀ v,o.data≠.cell v
 keep:∀ i h h',tn i h→(∀ b∈fp,∀ o,h.get? b=some o→h'.get? b=some o)→tn i h'
 item:∀ (X:Cx),X.prog=P→X.w=w→X.K=K→X.calm=true→∀ (i:Nat) (pins:List (Addr × Obj)) (s:Shared) (σ:St) (H:Hp) (E:Value→Shared→Prop),Inv X pins σ H s→(∀ b∈fp,FpOk X pins H b)→tn i s.heap→J.go i H →
  wpAny (model P w) X.A (pyNext (.ref it)) (fun r s1=>∃ u,r=some u ∧
   wpAny (model P w) X.A (letOwnedTupleGo tg (.ref it) u) (fun _ s2=>∃ x H',Inv X pins σ H' s2∧RelV x u∧J.yld i H x H'∧tn (i + 1) s2.heap∧∀ b∈fp,H' b=none) E s1) E s
 done:∀ (X:Cx),X.prog=P→X.w=w→X.K=K→X.calm=true→∀ (i:Nat) (pins:List (Addr × Obj)) (s:Shared) (σ:St) (H:Hp) (E:Value→Shared→Prop),Inv X pins σ H s→(∀ b∈fp,FpOk X pins H b)→tn i s.heap→J.stop i H →
  wpAny (model P w) X.A (pyNext (.ref it)) (fun r s1=>r=none∧Inv X pins σ H s1) E s
 self:∀ (A:Around) (i:Nat) (s:Shared) (Q:Value→Shared→Prop) (E:Value→Shared→Prop),tn i s.heap→Q (.ref it) s→wpAny (model P w) A (pyIter (.ref it)) Q E s
abbrev TI:=St→Hp→(It→Hp→Prop)→Prop
def PIE (X:Cx) (pins:List (Addr × Obj)) (σ:St) (tg:Expr) (R:It→Hp→Prop) (itv:Value) (s2:Shared):Prop :=
 ∃ (it:Addr) (fp:List Addr) (tn:Nat→Heap→Prop) (J:It) (H':Hp),itv=.ref it∧Inv X pins σ H' s2∧Turn X.prog X.w X.K tg J fp it tn∧tn 0 s2.heap∧(∀ b∈fp,FpOk X pins H' b)∧R J H'
def PI (X:Cx) (tg iter:Expr) (wi:TI):Prop :=
 ∀ (pins:List (Addr × Obj)) (s:Shared) (σ:St) (H:Hp) (R:It→Hp→Prop),Inv X pins σ H s→wi σ H R →
  wpAny (model X.prog X.w) X.A (eval iter X.env) (fun v s1=>wpAny (model X.prog X.w) X.A (pyIter v) (PIE X pins σ tg R) X.xe s1) X.xe s
theorem Jg {M:Model} {A:Around} {E:Value→Shared→Prop} {s:Shared} {tg:Expr} {it:Addr} {u:Value} {o:Obj} {n:String} {vs:Array Value} {Q:Unit→Shared→Prop} (ho:s.heap.get? it=some o) (hc:o.cls=.type n) (hd:o.data=.fields vs)
  (hn:["enumerate","zip","dict_itemiterator","dict_reverseitemiterator","odict_iterator","itertools.zip_longest","itertools.pairwise"].contains n=false) (hQ:Q () s):wpAny M A (letOwnedTupleGo tg (.ref it) u) Q E s:=by
 unfold letOwnedTupleGo
 cases tg <;> first
  | exact wpAny_pure hQ
  | (cases u <;> first
    | exact wpAny_pure hQ
    | (refine wpAny_bind (wpAny_load ho ?_)
       rw [hc,hd]
       show wpAny M A (if (["enumerate","zip","dict_itemiterator","dict_reverseitemiterator","odict_iterator","itertools.zip_longest","itertools.pairwise"].contains n && vs[0]? == some (rawInt _))=true then _ else _) Q E s
       rw [if_neg (by intro h; rw [hn,Bool.false_and] at h; cases h)]
       exact wpAny_pure hQ))
def Itl (K:PySem.W.Frag) (a:Addr):It :=
 ⟨fun i H=>∃ xs x,SqL K H a xs∧xs[i]?=some x,fun i H x H'=>H'=H∧∀ xs,SqL K H a xs→xs[i]?=some x,fun i H=>∃ xs,SqL K H a xs∧xs.length≤i⟩
def Itt (K:PySem.W.Frag) (a:Addr):It :=
 ⟨fun i H=>∃ xs x,SqT K H a xs∧xs[i]?=some x,fun i H x H'=>H'=H∧∀ xs,SqT K H a xs→xs[i]?=some x,fun i H=>∃ xs,SqT K H a xs∧xs.length≤i⟩
def Itr (lo:Int) (n:Nat):It:=⟨fun i _=>i < n,fun i H x H'=>H'=H∧x=.int (lo + i),fun i _=>n≤i⟩
theorem turn_list {P:Program} {w:World} {K:PySem.W.Frag} {tg:Expr} (a it:Addr):Turn P w K tg (Itl K a) [it] it (fun i h=>h.IsListIter it a i) where
 mem:=by simp
 obj:=fun i h st b hb=>by
  have e:b=it:=by simpa using hb
  subst e
  obtain ⟨o,e,c,d⟩:=st
  exact ⟨o,e,fun v z=>by rw [d] at z; cases z⟩
 keep:=fun i h h' st k=>st.at fun o e=>k it (by simp) o e
 item:=by
  intro X hP hw hK hc i pins s σ H E I hf st hg
  subst hP hw hK
  obtain ⟨xs,x,hq,hx⟩:=hg
  obtain ⟨its,rv,p,hz⟩:=I.list hq
  obtain ⟨u,hu,ru⟩:=rv.get hx
  obtain ⟨f0,f1,f2,f3,f4,f5⟩:=hf it (by simp)
  refine wpAny_pyNext_list_item st p.isList (x:=u) (by simpa using hu) fun h' st' sb=>?_
  have I1:Inv X pins σ H { s with heap:=h' }:=I.turned (t':=s.toks) (fun b o hb e=>(sb.2 b hb).trans e) f0 f1 f3 f4 f5
  obtain ⟨o,e,c,d⟩:=id st'
  exact ⟨u,rfl,Jg (s:={ s with heap:=h' }) e c d (by decide) ⟨x,H,I1,ru,⟨rfl,fun ys hy=>by rw [I.list_inj hy hq]; exact hx⟩,st',fun b hb=>(hf b hb).1⟩⟩
 done:=by
  intro X hP hw hK hc i pins s σ H E I hf st hg
  subst hP hw hK
  obtain ⟨xs,hq,hx⟩:=hg
  obtain ⟨its,rv,p,hz⟩:=I.list hq
  obtain ⟨f0,f1,f2,f3,f4,f5⟩:=hf it (by simp)
  have hl:=rv.length
  exact wpAny_pyNext_list_end (I.ok.hd hc) st p.isList (by simp; omega) fun h' eb=>⟨rfl,I.turned (t':=s.toks) (fun b o hb e=>eb b o hb e) f0 f1 f3 f4 f5⟩
 self:=fun _ _ _ _ _ st h=>wpAny_pyIter_listiter st h
theorem turn_tuple {P:Program} {w:World} {K:PySem.W.Frag} {tg:Expr} (a it:Addr):Turn P w K tg (Itt K a) [it] it (fun i h=>h.IsTupleIter it a i) where
 mem:=by simp
 obj:=fun i h st b hb=>by
  have e:b=it:=by simpa using hb
  subst e
  obtain ⟨o,e,c,d⟩:=st
  exact ⟨o,e,fun v z=>by rw [d] at z; cases z⟩
 keep:=fun i h h' st k=>st.at fun o e=>k it (by simp) o e
 item:=by
  intro X hP hw hK hc i pins s σ H E I hf st hg
  subst hP hw hK
  obtain ⟨xs,x,hq,hx⟩:=hg
  obtain ⟨its,rv,p,hz⟩:=I.tuple hq
  obtain ⟨u,hu,ru⟩:=rv.get hx
  obtain ⟨f0,f1,f2,f3,f4,f5⟩:=hf it (by simp)
  refine wpAny_pyNext_tuple_item st (show s.heap.IsTuple a its.toArray from p) (x:=u) (by simpa using hu) fun h' st' sb=>?_
  have I1:Inv X pins σ H { s with heap:=h' }:=I.turned (t':=s.toks) (fun b o hb e=>(sb.2 b hb).trans e) f0 f1 f3 f4 f5
  obtain ⟨o,e,c,d⟩:=id st'
  exact ⟨u,rfl,Jg (s:={ s with heap:=h' }) e c d (by decide) ⟨x,H,I1,ru,⟨rfl,fun ys hy=>by rw [I.tuple_inj hy hq]; exact hx⟩,st',fun b hb=>(hf b hb).1⟩⟩
 done:=by
  intro X hP hw hK hc i pins s σ H E I hf st hg
  subst hP hw hK
  obtain ⟨xs,hq,hx⟩:=hg
  obtain ⟨its,rv,p,hz⟩:=I.tuple hq
  obtain ⟨f0,f1,f2,f3,f4,f5⟩:=hf it (by simp)
  have hl:=rv.length
  exact wpAny_pyNext_tuple_end (I.ok.hd hc) st (show s.heap.IsTuple a its.toArray from p) (by simp; omega) fun h' eb=>⟨rfl,I.turned (t':=s.toks) (fun b o hb e=>eb b o hb e) f0 f1 f3 f4 f5⟩
 self:=fun _ _ _ _ _ st h=>wpAny_pyIter_tupleiter st h
theorem turn_range {P:Program} {w:World} {K:PySem.W.Frag} {tg:Expr} (it:Addr) (lo:Int) (n:Nat):Turn P w K tg (Itr lo n) [it] it (fun i h=>IsRangeIter h it (lo + (i:Nat) * 1) ((n:Int) - (i:Nat)) 1) where
 mem:=by simp
 obj:=fun i h st b hb=>by
  have e:b=it:=by simpa using hb
  subst e
  exact ⟨_,st,fun v z=>by
   have z':Data.fields _=Data.cell v:=z
   cases z'⟩
 keep:=fun i h h' st k=>k it (by simp) _ st
 item:=by
  intro X hP hw hK hc i pins s σ H E I hf st hg
  subst hP hw hK
  obtain ⟨f0,f1,f2,f3,f4,f5⟩:=hf it (by simp)
  have W:=Walks.range (prog:=X.prog) (w:=X.w) (I.ok.hd hc) it lo 1 n
  refine W.item i s _ _ hg st fun v h' tk hv st' kk=>?_
  obtain ⟨t,rfl⟩:=hv
  have I1:Inv X pins σ H { s with heap:=h',toks:=tk }:=I.turned (fun b o hb e=>kk b o (by simpa using hb) e) f0 f1 f3 f4 f5
  refine ⟨_,rfl,Jg (s:={ s with heap:=h',toks:=tk }) (n:="range_iterator") st' rfl rfl (by decide) ⟨.int (lo + i),H,I1,⟨t,?_⟩,⟨rfl,rfl⟩,st',fun b hb=>(hf b hb).1⟩⟩
  rw [Int.mul_one]
 done:=by
  intro X hP hw hK hc i pins s σ H E I hf st hg
  subst hP hw hK
  obtain ⟨f0,f1,f2,f3,f4,f5⟩:=hf it (by simp)
  exact wpAny_pyNext_range_end (I.ok.hd hc) st (by have:n≤i:=hg; omega) fun h' eb=>⟨rfl,I.turned (t':=s.toks) (fun b o hb e=>eb b o hb e) f0 f1 f3 f4 f5⟩
 self:=fun _ _ _ _ _ st h=>wpAny_pyIter_rangeiter st h
end L2
namespace L2
open PySem PySem.Spec PyProof.Rows
section
variable {X:Cx} {tg:Expr}
theorem range_it {pins:List (Addr × Obj)} {σ:St} {H:Hp} {s:Shared} {R:It→Hp→Prop} {E:Value→Shared→Prop} {lo hi:Int} {t u v:Tok} {tk:Nat} (I:Inv X pins σ H s) (h1:-(2 ^ 62)≤lo) (h2:lo < 2 ^ 62) (h3:-(2 ^ 62)≤hi) (h4:hi < 2 ^ 62)
  (q:R (Itr lo (hi - lo).toNat) H):wpAny (model X.prog X.w) X.A (pyIter (.ref s.heap.objs.size)) (PIE X pins σ tg R) E { s with heap:=s.heap.push { cls:=.type "range",data:=.fields #[.int lo t,.int hi u,.int 1 v] },toks:=tk }:=by
 refine wpAny_pyIter_range (IsRange.new ..) (small_one h1 h2 h3 h4) ?_
 have I1:Inv X pins σ H { s with heap:=s.heap.push { cls:=.type "range",data:=.fields #[.int lo t,.int hi u,.int 1 v] },toks:=tk }:=I.kept fun b o e=>Heap.get?_push_of_some _ e
 refine ⟨(s.heap.push { cls:=.type "range",data:=.fields #[.int lo t,.int hi u,.int 1 v] }).objs.size,[(s.heap.push { cls:=.type "range",data:=.fields #[.int lo t,.int hi u,.int 1 v] }).objs.size],_,_,H,rfl,
  I1.kept (t':=tk) fun b o e=>Heap.get?_push_of_some _ e,turn_range _ lo (hi - lo).toNat,?_,fun b hb=>?_,q⟩
 ·have e1:lo + ((0:Nat):Int) * 1=lo:=by simp
  have e2:(((hi - lo).toNat:Nat):Int) - ((0:Nat):Int)=Builtin.Range.rangeSize lo hi 1:=by rw [rangeSize_one]; split <;> omega
  show IsRangeIter _ _ (lo + ((0:Nat):Int) * 1) ((((hi - lo).toNat:Nat):Int) - ((0:Nat):Int)) 1
  rw [e1,e2]
  exact Heap.get?_push_size _ rfl
 ·have e:b=(s.heap.push { cls:=.type "range",data:=.fields #[.int lo t,.int hi u,.int 1 v] }).objs.size:=by simpa using hb
  subst e
  exact I1.fpOk (Nat.le_refl _) (I1.hok.fresh (Nat.le_refl _))
def iRng1 (ta:TA):TI:=fun σ H R=>ta σ H fun vs H1=>∃ j:Int,vs=[.int j]∧-(2 ^ 62)≤j∧j < 2 ^ 62∧R (Itr 0 j.toNat) H1
def iRng2 (ta:TA):TI:=fun σ H R=>ta σ H fun vs H1=>∃ i j:Int,vs=[.int i,.int j]∧(-(2 ^ 62)≤i∧i < 2 ^ 62∧-(2 ^ 62)≤j∧j < 2 ^ 62)∧R (Itr i (j - i).toNat) H1
theorem pi_range1 {a:Expr} {ta:TA} {p pos:Pos} (hg:Gl X "range") (hm:X.mg "range"=none) (ha:PA X [a] ta) (hs:starEach [a] X.env=[(false,eval a X.env)]:=by rfl):PI X tg (.Call (.Name "range" p) [a] [] pos) (iRng1 ta):=by
 intro pins s σ H R I h
 refine Call_ (jp I hg hm boot_range (PyProof.Rows.callWith_type1 (thn (ha pos pins s σ H _ I h) fun us s1 ⟨vs,H1,I1,r1,q1⟩=>?_) hs rfl))
 obtain ⟨j,e,q1,q2,q⟩:=q1
 subst e
 cases r1 with
 | cons r rr =>
  cases rr
  obtain ⟨t,rfl⟩:=r
  exact call_range_1 (range_it I1 (by omega) (by omega) q1 q2 (by simpa using q))
def tFor (wi:TI) (g:TG) (tb:TS):TS:=fun D σ H=>wi σ H fun J H1=>∃ W:Nat→Nat→St→Hp→Prop,(∃ m,W 0 m σ H1)∧∀ i m σ H,W i m σ H →
 (J.stop i H∧D.nx σ H)∨(J.go i H∧∃ N:St→Hp→Prop,(∀ σ' H',N σ' H'→∃ m',m' < m∧W (i + 1) m' σ' H')∧∀ x H',J.yld i H x H'→g x σ H' fun σ2 H2=>tb { D with nx:=N,ct:=N,bk:=D.nx } σ2 H2)
def vj (fp:List Addr) (h:Heap):List (Addr × Obj):=fp.filterMap fun b=>(h.get? b).map fun o=>(b,o)
theorem jE {fp:List Addr} {h:Heap} {b:Addr} {o:Obj} (hb:b∈fp) (e:h.get? b=some o):(b,o)∈vj fp h:=List.mem_filterMap.mpr ⟨b,hb,by rw [e]; rfl⟩
theorem of_pinsAt {fp:List Addr} {h:Heap} {p:Addr × Obj} (hp:p∈vj fp h):p.1∈fp∧h.get? p.1=some p.2:=by
 obtain ⟨b,hb,e⟩:=List.mem_filterMap.mp hp
 cases q:h.get? b with
 | none=>rw [q] at e; cases e
 | some o =>
  rw [q] at e
  have e':(b,o)=p:=Option.some.inj e
  subst e'
  exact ⟨hb,q⟩
theorem Inv.pinned {pins:List (Addr × Obj)} {σ:St} {H:Hp} {s:Shared} {fp:List Addr} (I:Inv X pins σ H s) (hf:∀ b∈fp,FpOk X pins H b) (ho:∀ b∈fp,∃ o,s.heap.get? b=some o∧∀ v,o.data≠.cell v):Inv X (pins ++ vj fp s.heap) σ H s :=
 I.pins_of fun p hp=>(List.mem_append.mp hp).elim (fun z=>I.pin p (List.mem_append_right _ z)) fun z=>by
  obtain ⟨hb,e⟩:=of_pinsAt z
  obtain ⟨f0,f1,f2,_⟩:=hf p.1 hb
  obtain ⟨o,e',d⟩:=ho p.1 hb
  rw [e] at e'; cases e'
  exact ⟨e,f0,f1,f2,d⟩
theorem Inv.unpinned {pins pl:List (Addr × Obj)} {σ:St} {H:Hp} {s:Shared} (I:Inv X (pins ++ pl) σ H s):Inv X pins σ H s:=I.pins_of fun p hp=>I.pin p (List.mem_append_right _ (List.mem_append_left _ hp))
theorem qd {iter:Expr} {body:List Stmt} {wi:TI} {g:TG} {tb:TS} {pos:Pos} (hp:PassesOwn (model X.prog X.w) X.A X.env X.xe) (hc:X.calm=true) (hi:PI X tg iter wi) (hg:PG X tg g) (hb:PSs X body tb)
  (hs:∀ x,foldedSetIterable iter X.env x=pure x:=by intro _; rfl):PS X (.For tg iter body [] pos) (tFor wi g tb):=by
 intro pins s σ H D I h
 refine wpAny_For (thn (hi pins s σ H _ I h) fun v s1 h1=>thn h1 fun itv s2 h2=>?_) hs
 obtain ⟨it,fp,tn,J,H2,e,I2,T,st2,f2,W,⟨m0,w0⟩,turn⟩:=h2
 subst e
 have stat:∀ {H':Hp},(∀ b∈fp,H' b=none)→∀ b∈fp,FpOk X pins H' b:=fun hn b hb=>⟨hn b hb,(f2 b hb).2⟩
 refine codeAny_forLoop_any (fun n s'=>∃ i σ' H',Inv X pins σ' H' s'∧tn i s'.heap∧(∀ b∈fp,H' b=none)∧W i n σ' H') ?_ m0 ⟨0,σ,H2,I2,st2,fun b hb=>(f2 b hb).1,w0⟩
 rintro n s3 ⟨i,σ3,H3,I3,st3,fr3,w3⟩
 rcases turn i n σ3 H3 w3 with ⟨stop,qn⟩ | ⟨go,N,hN,step⟩
 ·refine wpAny_passesOwn hp (thn (T.done X rfl rfl rfl hc i pins s3 σ3 H3 X.xe I3 (stat fr3) st3 stop) fun r s4 ⟨hr,I4⟩=>?_)
  subst hr
  exact wpAny_execs_nil ⟨σ3,H3,I4,qn⟩
 ·refine wpAny_passesOwn hp (thn (T.item X rfl rfl rfl hc i pins s3 σ3 H3 X.xe I3 (stat fr3) st3 go) fun r s4 ⟨u,hr,h4⟩=>?_)
  subst hr
  refine wpAny_passesOwn hp (thn h4 fun _ s5 ⟨x,H5,I5,r5,y5,st5,fr5⟩=>?_)
  have I5':=I5.pinned (stat fr5) (T.obj _ _ st5)
  refine wpAny_passesOwn hp (thn (hg _ s5 σ3 H5 x u _ I5' r5 (step x H5 y5)) fun _ s6 ⟨σ6,H6,I6,q6⟩=>?_)
  refine wpAny_passesOwn hp (thn (hb _ s6 σ6 H6 _ I6 q6) fun f s7 q7=>?_)
  have again:∀ {σ7:St} {H7:Hp},Inv X (pins ++ vj fp s5.heap) σ7 H7 s7→N σ7 H7→∃ m,m < n∧∃ i σ' H',Inv X pins σ' H' s7∧tn i s7.heap∧(∀ b∈fp,H' b=none)∧W i m σ' H':=fun {σ7 H7} I7 n7=>by
   obtain ⟨m',hm,w7⟩:=hN σ7 H7 n7
   refine ⟨m',hm,i + 1,σ7,H7,I7.unpinned,T.keep _ _ _ st5 fun b hb o e=>(I7.pin (b,o) (List.mem_append_right _ (List.mem_append_right _ (jE hb e)))).1,fun b hb=>?_,w7⟩
   obtain ⟨o,e,d⟩:=T.obj _ _ st5 b hb
   exact (I7.pin (b,o) (List.mem_append_right _ (List.mem_append_right _ (jE hb e)))).2.1
  cases f with
  | next=>obtain ⟨σ7,H7,I7,n7⟩:=q7; exact again I7 n7
  | cont=>obtain ⟨σ7,H7,I7,n7⟩:=q7; exact again I7 n7
  | brk=>obtain ⟨σ7,H7,I7,q7⟩:=q7; exact ⟨σ7,H7,I7.unpinned,q7⟩
  | ret v=>obtain ⟨x7,σ7,H7,I7,r7,q7⟩:=q7; exact ⟨x7,σ7,H7,I7.unpinned,r7,q7⟩
end
end L2
namespace L2
open PySem PySem.Spec PyProof.Rows
abbrev R2:=V→V→Hp→VK→Prop
def OpR (X:Cx) (f:Value→Value→Sem Value) (r:R2):Prop :=
 ∀ (pins:List (Addr × Obj)) (s:Shared) (σ:St) (H:Hp) (x y:V) (v u:Value) (Q:VK),Inv X pins σ H s→RelV x v→RelV y u→r x y H Q →
  wpAny (model X.prog X.w) X.A (f v u) (EP X pins σ Q) X.xe s
def UnR (X:Cx) (f:Value→Sem Value) (r:V→Hp→VK→Prop):Prop :=
 ∀ (pins:List (Addr × Obj)) (s:Shared) (σ:St) (H:Hp) (x:V) (v:Value) (Q:VK),Inv X pins σ H s→RelV x v→r x H Q →
  wpAny (model X.prog X.w) X.A (f v) (EP X pins σ Q) X.xe s
def CallR (X:Cx) (f:Value) (r:List V→Hp→VK→Prop):Prop :=
 ∀ (pins:List (Addr × Obj)) (s:Shared) (σ:St) (H:Hp) (xs:List V) (us:List Value) (Q:VK),Inv X pins σ H s→Vals xs us→r xs H Q →
  wpAny (model X.prog X.w) X.A (call f us) (EP X pins σ Q) X.xe s
def TruR (X:Cx) (r:V→Hp→(Bool→Hp→Prop)→Prop):Prop :=
 ∀ (pins:List (Addr × Obj)) (s:Shared) (σ:St) (H:Hp) (x:V) (v:Value) (Q:Bool→Hp→Prop),Inv X pins σ H s→RelV x v→r x H Q →
  wpAny (model X.prog X.w) X.A (truthy v) (TP X pins σ Q) X.xe s
def tOp (r:R2) (ta tb:TE):TE:=fun σ H Q=>ta σ H fun x H1=>tb σ H1 fun y H2=>r x y H2 Q
def tUn (r:V→Hp→VK→Prop) (ta:TE):TE:=fun σ H Q=>ta σ H fun x H1=>r x H1 Q
def rI (C:Int→Int→Prop) (g:Int→Int→V):R2:=fun x y H Q=>∃ i j,x=.int i∧y=.int j∧C i j∧Q (g i j) H
def rI0 (g:Int→Int→V):R2:=fun x y H Q=>∃ i j,x=.int i∧y=.int j∧Q (g i j) H
def rU (g:Int→V):V→Hp→VK→Prop:=fun x H Q=>∃ i,x=.int i∧Q (g i) H
section
variable {X:Cx} {a b c:Expr} {ta tb tc:TE} {pos:Pos}
theorem binT (ha:PE X a ta) (hb:PE X b tb) {pins:List (Addr × Obj)} {s:Shared} {σ:St} {H:Hp} {R:V→V→Hp→Prop} (I:Inv X pins σ H s)
  (h:ta σ H fun x H1=>tb σ H1 fun y H2=>R x y H2) {Q:Value→Shared→Prop} {f:Value→Value→Sem Value}
  (hf:∀ v u s2 x y H2,Inv X pins σ H2 s2→RelV x v→RelV y u→R x y H2→wpAny (model X.prog X.w) X.A (f v u) Q X.xe s2) :
  wpAny (model X.prog X.w) X.A (eval a X.env) (fun v s₁=>wpAny (model X.prog X.w) X.A (eval b X.env) (fun u s₂=>wpAny (model X.prog X.w) X.A (f v u) Q X.xe s₂) X.xe s₁) X.xe s:=by
 refine thn (ha pins s σ H _ I h) fun v s1 ⟨x,H1,I1,r1,q1⟩=>?_
 refine thn (hb pins s1 σ H1 _ I1 q1) fun u s2 ⟨y,H2,I2,r2,q2⟩=>?_
 exact hf v u s2 x y H2 I2 r1 r2 q2
theorem zi {op:Operator} {r:R2} (ho:OpR X (binaryOp op) r) (ha:PE X a ta) (hb:PE X b tb):PE X (.BinOp a op b pos) (tOp r ta tb):=by
 intro pins s σ H Q I h
 exact wpAny_BinOp (binT ha hb I h fun v u s2 x y H2 I2 rx ry q=>ho pins s2 σ H2 x y v u Q I2 rx ry q)
theorem xm {op:UnaryOp} {r:V→Hp→VK→Prop} (ho:UnR X (unaryOp op) r) (ha:PE X a ta):PE X (.UnaryOp op a pos) (tUn r ta):=by
 intro pins s σ H Q I h
 exact UnaryOp_ (thn (ha pins s σ H _ I h) fun v s1 ⟨x,H1,I1,r1,q1⟩=>ho pins s1 σ H1 x v Q I1 r1 q1)
theorem opI {f:Value→Value→Sem Value} {C:Int→Int→Prop} {g:Int→Int→Int}
  (rule:∀ (i j:Int) (t u:Tok) (s:Shared) (Q:Value→Shared→Prop) (E:Value→Shared→Prop),C i j→Q (.int (g i j) s.toks) { s with toks:=s.toks + 1 }→wpAny (model X.prog X.w) X.A (f (.int i t) (.int j u)) Q E s) :
  OpR X f (rI C fun i j=>.int (g i j)):=by
 intro pins s σ H x y v u Q I rx ry h
 obtain ⟨i,j,rfl,rfl,hc,q⟩:=h
 obtain ⟨t,rfl⟩:=rx
 obtain ⟨t',rfl⟩:=ry
 exact rule i j t t' s _ _ hc ⟨.int (g i j),H,I.tok _,⟨_,rfl⟩,q⟩
theorem opI0 {f:Value→Value→Sem Value} {g:Int→Int→Int}
  (rule:∀ (i j:Int) (t u:Tok) (s:Shared) (Q:Value→Shared→Prop) (E:Value→Shared→Prop),Q (.int (g i j) s.toks) { s with toks:=s.toks + 1 }→wpAny (model X.prog X.w) X.A (f (.int i t) (.int j u)) Q E s) :
  OpR X f (rI0 fun i j=>.int (g i j)):=by
 intro pins s σ H x y v u Q I rx ry h
 obtain ⟨i,j,rfl,rfl,q⟩:=h
 obtain ⟨t,rfl⟩:=rx
 obtain ⟨t',rfl⟩:=ry
 exact rule i j t t' s _ _ ⟨.int (g i j),H,I.tok _,⟨_,rfl⟩,q⟩
theorem opB0 {f:Value→Value→Sem Value} {g:Int→Int→Bool}
  (rule:∀ (i j:Int) (t u:Tok) (s:Shared) (Q:Value→Shared→Prop) (E:Value→Shared→Prop),Q (.bool (g i j)) s→wpAny (model X.prog X.w) X.A (f (.int i t) (.int j u)) Q E s) :
  OpR X f (rI0 fun i j=>.bl (g i j)):=by
 intro pins s σ H x y v u Q I rx ry h
 obtain ⟨i,j,rfl,rfl,q⟩:=h
 obtain ⟨t,rfl⟩:=rx
 obtain ⟨t',rfl⟩:=ry
 exact rule i j t t' s _ _ ⟨.bl (g i j),H,I,rfl,q⟩
def CPow (i j:Int):Prop:=0≤j∧j≤1000000∧i.natAbs < 2 ^ 64
def CMul (i j:Int):Prop:=(-(2 ^ 64) < i∧i < 2 ^ 64)∨(-(2 ^ 64) < j∧j < 2 ^ 64)
theorem CMul.ok {i j:Int} (h:CMul i j):IntMulOk i j:=by
 rcases h with ⟨h1,h2⟩ | ⟨h1,h2⟩
 ·exact .of_left (intBits_le_64 h1 h2)
 ·exact .of_right (intBits_le_64 h1 h2)
theorem op_add:OpR X (binaryOp .Add) (rI0 fun i j=>.int (i + j)):=opI0 fun _ _ _ _ _ _ _ q=>add_int q
theorem QN:OpR X (binaryOp .Sub) (rI0 fun i j=>.int (i - j)):=opI0 fun _ _ _ _ _ _ _ q=>sub_int q
theorem zB:OpR X (binaryOp .Mod) (rI (fun _ j=>0 < j) fun i j=>.int (i % j)):=opI fun i j _ _ _ _ _ hc q=>by
 have h1:(0:Int) < j:=hc
 exact mod_int' (by omega) (by rw [Int.fmod_eq_emod_of_nonneg i (by omega)]; exact q)
theorem ZE:OpR X (binaryOp .Pow) (rI CPow fun i j=>.int (i ^ j.toNat)):=opI fun _ _ _ _ _ _ _ hc q=>pow_int_small hc.1 hc.2.1 hc.2.2 q
theorem unI {f:Value→Sem Value} {g:Int→Int}
  (rule:∀ (i:Int) (t:Tok) (s:Shared) (Q:Value→Shared→Prop) (E:Value→Shared→Prop),Q (.int (g i) s.toks) { s with toks:=s.toks + 1 }→wpAny (model X.prog X.w) X.A (f (.int i t)) Q E s) :
  UnR X f (rU fun i=>.int (g i)):=by
 intro pins s σ H x v Q I rx h
 obtain ⟨i,rfl,q⟩:=h
 obtain ⟨t,rfl⟩:=rx
 exact rule i t s _ _ ⟨.int (g i),H,I.tok _,⟨_,rfl⟩,q⟩
theorem jm:UnR X (unaryOp .USub) (rU fun i=>.int (-i)):=unI fun _ _ _ _ _ q=>neg_int q
end
def scal:V→V→Bool
 | .non,.non=>true | .non,.int _=>true | .int _,.non=>true | .non,.bl _=>true | .bl _,.non=>true | .non,.str _=>true | .str _,.non=>true
 | .int _,.int _=>true | .bl _,.bl _=>true | .str _,.str _=>true | .byt _,.byt _=>true
 | .int _,.str _=>true | .str _,.int _=>true | .bl _,.str _=>true | .str _,.bl _=>true
 | _,_=>false
def rEq:R2:=fun x y H Q=>scal x y=true∧Q (.bl (decide (x=y))) H
def rNe:R2:=fun x y H Q=>scal x y=true∧Q (.bl (!decide (x=y))) H
theorem Jo {i j:Int}:decide (V.int i=V.int j)=(i == j):=by
 rw [Bool.eq_iff_iff]
 simp
theorem JW {i j:Bool}:decide (V.bl i=V.bl j)=(i == j):=by
 rw [Bool.eq_iff_iff]
 simp
theorem Jn {i j:Str}:decide (V.str i=V.str j)=(i == j):=by
 rw [Bool.eq_iff_iff]
 simp
theorem Jp {i j:Array UInt8}:decide (V.byt i=V.byt j)=(i.toList == j.toList):=by
 rw [Bool.eq_iff_iff]
 cases i
 cases j
 simp
section
variable {X:Cx} {a b c:Expr} {ta tb tc:TE} {pos:Pos}
theorem zS {pins:List (Addr × Obj)} {σ:St} {H:Hp} {s:Shared} {Q:VK} {k k':Bool} (I:Inv X pins σ H s) (q:Q (.bl k) H) (e:k=k'):EP X pins σ Q (.bool k') s:=by
 subst e
 exact ⟨.bl k,H,I,rfl,q⟩
theorem op_eq:OpR X (compareOp .Eq) rEq:=by
 intro pins s σ H x y v u Q I rx ry h
 obtain ⟨hs,q⟩:=h
 cases x with
 | non =>
  cases rx
  cases y with
  | non=>cases ry; exact PySem.EqNone.eq_none_none (zS I q (by simp))
  | bl j=>cases ry; exact PySem.EqNone.eq_none_bool (zS I q (by simp))
  | int j=>obtain ⟨t',rfl⟩:=ry; exact PySem.EqNone.eq_none_int (zS I q (by simp))
  | str j=>obtain ⟨t',rfl⟩:=ry; exact PySem.EqNone.eq_none_str (zS I q (by simp))
  | _=>exact absurd (show false=true from hs) Bool.false_ne_true
 | bl i =>
  cases rx
  cases y with
  | non=>cases ry; exact PySem.EqNone.eq_bool_none (zS I q (by simp))
  | bl j=>cases ry; exact eq_bool (zS I q JW)
  | str j=>obtain ⟨t',rfl⟩:=ry; exact PySem.EqMixed.eq_bool_str (zS I q (by simp))
  | _=>exact absurd (show false=true from hs) Bool.false_ne_true
 | int i =>
  obtain ⟨t,rfl⟩:=rx
  cases y with
  | non=>cases ry; exact PySem.EqNone.eq_int_none (zS I q (by simp))
  | int j=>obtain ⟨t',rfl⟩:=ry; exact eq_int (zS I q Jo)
  | str j=>obtain ⟨t',rfl⟩:=ry; exact PySem.EqMixed.eq_int_str (zS I q (by simp))
  | _=>exact absurd (show false=true from hs) Bool.false_ne_true
 | str i =>
  obtain ⟨t,rfl⟩:=rx
  cases y with
  | non=>cases ry; exact PySem.EqNone.eq_str_none (zS I q (by simp))
  | bl j=>cases ry; exact PySem.EqMixed.eq_str_bool (zS I q (by simp))
  | int j=>obtain ⟨t',rfl⟩:=ry; exact PySem.EqMixed.eq_str_int (zS I q (by simp))
  | str j=>obtain ⟨t',rfl⟩:=ry; exact eq_str (zS I q Jn)
  | _=>exact absurd (show false=true from hs) Bool.false_ne_true
 | byt i =>
  obtain ⟨t,rfl⟩:=rx
  cases y with
  | byt j=>obtain ⟨t',rfl⟩:=ry; exact PySem.W.eq_bytes (zS I q Jp)
  | _=>exact absurd (show false=true from hs) Bool.false_ne_true
 | _=>cases y <;> exact absurd (show false=true from hs) Bool.false_ne_true
theorem op_ne:OpR X (compareOp .NotEq) rNe:=by
 intro pins s σ H x y v u Q I rx ry h
 obtain ⟨hs,q⟩:=h
 cases x with
 | non =>
  cases rx
  cases y with
  | non=>cases ry; exact PySem.EqNone.ne_none_none (zS I q (by simp))
  | bl j=>cases ry; exact PySem.EqNone.ne_none_bool (zS I q (by simp))
  | int j=>obtain ⟨t',rfl⟩:=ry; exact PySem.EqNone.ne_none_int (zS I q (by simp))
  | str j=>obtain ⟨t',rfl⟩:=ry; exact PySem.EqNone.ne_none_str (zS I q (by simp))
  | _=>exact absurd (show false=true from hs) Bool.false_ne_true
 | bl i =>
  cases rx
  cases y with
  | non=>cases ry; exact PySem.EqNone.ne_bool_none (zS I q (by simp))
  | bl j=>cases ry; exact ne_bool (zS I q (congrArg not JW))
  | str j=>obtain ⟨t',rfl⟩:=ry; exact PySem.EqMixed.ne_bool_str (zS I q (by simp))
  | _=>exact absurd (show false=true from hs) Bool.false_ne_true
 | int i =>
  obtain ⟨t,rfl⟩:=rx
  cases y with
  | non=>cases ry; exact PySem.EqNone.ne_int_none (zS I q (by simp))
  | int j=>obtain ⟨t',rfl⟩:=ry; exact ne_int (zS I q (congrArg not Jo))
  | str j=>obtain ⟨t',rfl⟩:=ry; exact PySem.EqMixed.ne_int_str (zS I q (by simp))
  | _=>exact absurd (show false=true from hs) Bool.false_ne_true
 | str i =>
  obtain ⟨t,rfl⟩:=rx
  cases y with
  | non=>cases ry; exact PySem.EqNone.ne_str_none (zS I q (by simp))
  | bl j=>cases ry; exact PySem.EqMixed.ne_str_bool (zS I q (by simp))
  | int j=>obtain ⟨t',rfl⟩:=ry; exact PySem.EqMixed.ne_str_int (zS I q (by simp))
  | str j=>obtain ⟨t',rfl⟩:=ry; exact ne_str (zS I q (congrArg not Jn))
  | _=>exact absurd (show false=true from hs) Bool.false_ne_true
 | byt i =>
  obtain ⟨t,rfl⟩:=rx
  cases y with
  | byt j=>obtain ⟨t',rfl⟩:=ry; exact PySem.W.ne_bytes (zS I q (congrArg not Jp))
  | _=>exact absurd (show false=true from hs) Bool.false_ne_true
 | _=>cases y <;> exact absurd (show false=true from hs) Bool.false_ne_true
theorem op_lt:OpR X (compareOp .Lt) (rI0 fun i j=>.bl (decide (i < j))):=opB0 fun _ _ _ _ _ _ _ q=>lt_int q
theorem qX:OpR X (compareOp .LtE) (rI0 fun i j=>.bl (decide (i≤j))):=opB0 fun _ _ _ _ _ _ _ q=>le_int q
theorem op_gt:OpR X (compareOp .Gt) (rI0 fun i j=>.bl (decide (j < i))):=opB0 fun _ _ _ _ _ _ _ q=>gt_int q
theorem op_ge:OpR X (compareOp .GtE) (rI0 fun i j=>.bl (decide (j≤i))):=opB0 fun _ _ _ _ _ _ _ q=>ge_int q
theorem qw:OpR X (compareOp .Is) (fun x y H Q=>y=.non∧Q (.bl (decide (x=.non))) H):=by
 intro pins s σ H x y v u Q I rx ry h
 obtain ⟨rfl,q⟩:=h
 cases ry
 refine is_none_gen (zS I q ?_)
 cases x <;> first
  | (cases rx; rfl)
  | (obtain ⟨t,rfl⟩:=rx; rfl)
theorem j9:OpR X (compareOp .IsNot) (fun x y H Q=>y=.non∧Q (.bl (!decide (x=.non))) H):=by
 intro pins s σ H x y v u Q I rx ry h
 obtain ⟨rfl,q⟩:=h
 cases ry
 refine isnot_none_gen (zS I q ?_)
 cases x <;> first
  | (cases rx; rfl)
  | (obtain ⟨t,rfl⟩:=rx; rfl)
theorem OpR.or {f:Value→Value→Sem Value} {r r':R2} (h:OpR X f r) (h':OpR X f r'):OpR X f (fun x y H Q=>r x y H Q∨r' x y H Q):=by
 intro pins s σ H x y v u Q I rx ry q
 rcases q with q | q
 ·exact h pins s σ H x y v u Q I rx ry q
 ·exact h' pins s σ H x y v u Q I rx ry q
theorem zo (b:Expr) {op:CmpOp} (h:op≠.In:=by decide) (h2:op≠.NotIn:=by decide):behindInMarks op b=false:=by
 have e1:(op == CmpOp.In)=false:=by cases op <;> first | rfl | exact absurd rfl h
 have e2:(op == CmpOp.NotIn)=false:=by cases op <;> first | rfl | exact absurd rfl h2
 cases b <;> simp [behindInMarks,e1,e2]
theorem jh {op:CmpOp} {r:R2} (ho:OpR X (compareOp op) r) (ha:PE X a ta) (hb:PE X b tb) (hm:behindInMarks op b=false):PE X (.Compare a [op] [b] pos) (tOp r ta tb):=by
 intro pins s σ H Q I h
 exact wpAny_Compare1 (binT ha hb I h fun v u s2 x y H2 I2 rx ry q=>ho pins s2 σ H2 x y v u Q I2 rx ry q) hm
def tTest (t:TE):TT:=fun σ H Q=>t σ H fun x H'=>∃ k,x=.bl k∧Q k H'
theorem zn {op:CmpOp} {r:R2} (ho:OpR X (compareOp op) r) (ha:PE X a ta) (hb:PE X b tb) (hm:behindInMarks op b=false):PT X (.Compare a [op] [b] pos) (tTest (tOp r ta tb)):=by
 intro pins s σ H Q I h
 refine wpAny_isTrue_Compare1 (thn (ha pins s σ H _ I h) fun v s1 ⟨x,H1,I1,r1,q1⟩=>thn (hb pins s1 σ H1 _ I1 q1) fun u s2 ⟨y,H2,I2,r2,q2⟩ =>
  thn (ho pins s2 σ H2 x y v u _ I2 r1 r2 q2) fun c s3 ⟨z,H3,I3,r3,k,e,q3⟩=>?_) hm
 subst e
 cases r3
 exact wpAny_truthy_bool ⟨H3,I3,q3⟩
def tChain (r r':R2) (ta tb tc:TE):TE:=fun σ H Q=>ta σ H fun x H1=>tb σ H1 fun y H2=>r x y H2 fun z H3=>∃ k,z=.bl k ∧
 (if k=true then tc σ H3 fun w' H4=>r' y w' H4 Q else Q (.bl false) H3)
theorem pe_chain {op op':CmpOp} {r r':R2} (ho:OpR X (compareOp op) r) (ho':OpR X (compareOp op') r') (ha:PE X a ta) (hb:PE X b tb) (hc:PE X c tc)
  (hm:lastMarks [op,op'] [b,c]=false:=by with_unfolding_all rfl):PE X (.Compare a [op,op'] [b,c] pos) (tChain r r' ta tb tc):=by
 intro pins s σ H Q I h
 refine Compare_chain (thn (ha pins s σ H _ I h) fun v s1 ⟨x,H1,I1,r1,q1⟩=>chain_link (thn (hb pins s1 σ H1 _ I1 q1) fun u s2 ⟨y,H2,I2,r2,q2⟩ =>
  thn (ho pins s2 σ H2 x y v u _ I2 r1 r2 q2) fun d s3 ⟨z,H3,I3,r3,k,e,q3⟩=>?_)) hm
 subst e
 cases r3
 refine wpAny_truthy_bool ?_
 cases k with
 | false=>exact ite_ff ⟨.bl false,H3,I3,rfl,q3⟩
 | true=>exact ite_tt (chain_last (thn (hc pins s3 σ H3 _ I3 q3) fun w' s4 ⟨z',H4,I4,r4,q4⟩=>ho' pins s4 σ H4 y z' u w' Q I4 r2 r4 q4))
theorem qK {op op':CmpOp} {r r':R2} (ho:OpR X (compareOp op) r) (ho':OpR X (compareOp op') r') (ha:PE X a ta) (hb:PE X b tb) (hc:PE X c tc)
  (hm:lastMarks [op,op'] [b,c]=false:=by with_unfolding_all rfl):PT X (.Compare a [op,op'] [b,c] pos) (tTest (tChain r r' ta tb tc)):=by
 intro pins s σ H Q I h
 refine isTrue_chain (thn (ha pins s σ H _ I h) fun v s1 ⟨x,H1,I1,r1,q1⟩=>test_link (thn (hb pins s1 σ H1 _ I1 q1) fun u s2 ⟨y,H2,I2,r2,q2⟩ =>
  thn (ho pins s2 σ H2 x y v u _ I2 r1 r2 q2) fun d s3 ⟨z,H3,I3,r3,k,e,q3⟩=>?_)) hm
 subst e
 cases r3
 refine wpAny_truthy_bool ?_
 cases k with
 | false =>
  obtain ⟨k',e',q'⟩:=q3
  cases e'
  exact ite_ff ⟨H3,I3,q'⟩
 | true =>
  refine ite_tt (test_last (thn (hc pins s3 σ H3 _ I3 q3) fun w' s4 ⟨z',H4,I4,r4,q4⟩=>thn (ho' pins s4 σ H4 y z' u w' _ I4 r2 r4 q4) fun d' s5 ⟨z2,H5,I5,r5,k2,e2,q5⟩=>?_))
  subst e2
  cases r5
  exact wpAny_truthy_bool ⟨H5,I5,q5⟩
def TruV (K:PySem.W.Frag) (x:V) (H:Hp) (k:Bool):Prop :=
 match x with
 | .non=>k=false
 | .bl b=>k=b
 | .int i=>k=(i != 0)
 | .str y=>y.length≤sizeLine∧k=((y.length:Int) != 0)
 | .byt y=>y.size≤sizeLine∧k=((y.size:Int) != 0)
 | .ref p=>(∃ xs,SqL K H p xs∧k=!xs.isEmpty)∨(∃ xs,SqT K H p xs∧k=!xs.isEmpty)∨∃ kvs,H p=some (.dK kvs)∧k=!kvs.isEmpty
 | _=>False
theorem isEmpty_kv {κ:Type} {kvs:List (κ × V)} {vs:List (κ × Value)} (r:KV kvs vs):(!vs.isEmpty)=!kvs.isEmpty:=by
 cases r <;> rfl
theorem vA {xs:List V} {its:List Value} (r:Vals xs its):(!its.toArray.isEmpty)=!xs.isEmpty:=by
 cases r <;> simp
theorem xz:(sizeLine:Nat) < 2 ^ 63:=by rw [sizeLine_eq]; decide
theorem tru_ok:TruR X (fun x H Q=>∃ k,TruV X.K x H k∧Q k H):=by
 intro pins s σ H x v Q I rx h
 obtain ⟨k,e,q⟩:=h
 have hl:=xz
 have hs:sizeLine=16777216:=sizeLine_eq
 cases x with
 | non =>
  cases rx
  have e':k=false:=e
  subst e'
  exact truthy_none ⟨H,I,q⟩
 | bl b =>
  cases rx
  have e':k=b:=e
  subst e'
  exact wpAny_truthy_bool ⟨H,I,q⟩
 | int i =>
  obtain ⟨t,rfl⟩:=rx
  have e':k=(i != 0):=e
  subst e'
  exact PySem.P.truthy_int ⟨H,I,q⟩
 | str y =>
  obtain ⟨t,rfl⟩:=rx
  obtain ⟨hy,e'⟩:y.length≤sizeLine∧k=((y.length:Int) != 0):=e
  subst e'
  exact PySem.P.truthy_str (by omega) ⟨H,I.tok _,q⟩
 | byt y =>
  obtain ⟨t,rfl⟩:=rx
  obtain ⟨hy,e'⟩:y.size≤sizeLine∧k=((y.size:Int) != 0):=e
  subst e'
  exact PySem.W.truthy_bytes (by omega) ⟨H,I.tok _,q⟩
 | ref p =>
  cases rx
  have e':(∃ xs,SqL X.K H p xs∧k=!xs.isEmpty)∨(∃ xs,SqT X.K H p xs∧k=!xs.isEmpty)∨∃ kvs,H p=some (.dK kvs)∧k=!kvs.isEmpty:=e
  rcases e' with ⟨xs,hx,e'⟩ | ⟨xs,hx,e'⟩ | ⟨kvs,hx,e'⟩
  ·subst e'
   obtain ⟨its,r,pl,hz⟩:=I.list hx
   have hlen:=r.length
   exact wpAny_truthy_list pl.isList (by simp only [List.size_toArray]; omega) ⟨H,I.tok _,by rw [vA r]; exact q⟩
  ·subst e'
   obtain ⟨its,r,pl,hz⟩:=I.tuple hx
   have hlen:=r.length
   exact truthy_tuple pl (by simp only [List.size_toArray]; omega) ⟨H,I.tok _,by rw [vA r]; exact q⟩
  ·subst e'
   obtain ⟨hz,hS,vs,r,m⟩:kvs.length≤sizeLine∧(p == sysModules)=false∧∃ vs,KV kvs vs∧s.heap.DictOf (qt X.prog X.w) p vs:=I.hok p _ hx
   have hlen:kvs.length=vs.length:=Paired.length r
   exact wpAny_truthy_dict hS m (by omega) ⟨H,I.tok _,by rw [isEmpty_kv r]; exact q⟩
 | _=>exact (show False from e).elim
theorem qi (ha:PE X a ta) (he:∀ whole,isTrue a X.env whole=(do let v ← whole; standAt a.pos; holding [v] (truthy v))) :
  PT X a (fun σ H Q=>ta σ H fun x H'=>∃ k,TruV X.K x H' k∧Q k H'):=by
 intro pins s σ H Q I h
 exact isTrue_plain (thn (ha pins s σ H _ I h) fun v s1 ⟨x,H1,I1,r1,q1⟩=>tru_ok pins s1 σ H1 x v Q I1 r1 q1) (he _)
theorem op_add_str:OpR X (binaryOp .Add) (fun x y H Q=>∃ i j,x=.str i∧y=.str j∧i.length + j.length≤sizeLine∧Q (.str (i ++ j)) H):=by
 intro pins s σ H x y v u Q I rx ry h
 obtain ⟨i,j,rfl,rfl,hz,q⟩:=h
 obtain ⟨t,rfl⟩:=rx
 obtain ⟨t',rfl⟩:=ry
 exact add_str (fun t' tk=>⟨.str (i ++ j),H,I.tok _,⟨_,rfl⟩,q⟩) hz
theorem vR {x:V} {us:List Value} (r:Vals [x] us):∃ u,us=[u]∧RelV x u:=by
 cases r with
 | cons r1 r2=>cases r2; exact ⟨_,rfl,r1⟩
theorem J1 {x y:V} {us:List Value} (r:Vals [x,y] us):∃ u w',us=[u,w']∧RelV x u∧RelV y w':=by
 cases r with
 | cons r1 r2 =>
  cases r2 with
  | cons r3 r4=>cases r4; exact ⟨_,_,rfl,r1,r3⟩
theorem call_max2 (hc:X.calm=true):CallR X (.builtin "max") (fun xs H Q=>∃ i j,xs=[.int i,.int j]∧Q (.int (if j > i then j else i)) H):=by
 intro pins s σ H xs us Q I r h
 obtain ⟨i,j,rfl,q⟩:=h
 obtain ⟨u,w',rfl,⟨t,rfl⟩,⟨t',rfl⟩⟩:=J1 r
 refine max_two_ints (I.ok.hd hc) fun h' tk k=>⟨_,H,I.kept k,?_,q⟩
 by_cases hj:j > i
 ·rw [if_pos hj,if_pos hj]; exact ⟨_,rfl⟩
 ·rw [if_neg hj,if_neg hj]; exact ⟨_,rfl⟩
def LenV (K:PySem.W.Frag) (x:V) (H:Hp) (n:Nat):Prop :=
 match x with
 | .str y=>y.length≤sizeLine∧n=y.length
 | .byt y=>y.size≤sizeLine∧n=y.size
 | .ref p=>(∃ xs,SqL K H p xs∧n=xs.length)∨∃ xs,SqT K H p xs∧n=xs.length
 | _=>False
theorem call_len:CallR X (.builtin "len") (fun xs H Q=>∃ x n,xs=[x]∧LenV X.K x H n∧Q (.int n) H):=by
 intro pins s σ H xs us Q I r h
 obtain ⟨x,n,rfl,e,q⟩:=h
 obtain ⟨u,rfl,rx⟩:=vR r
 have hl:=xz
 have hs:sizeLine=16777216:=sizeLine_eq
 cases x with
 | str y =>
  obtain ⟨t,rfl⟩:=rx
  obtain ⟨hy,e'⟩:y.length≤sizeLine∧n=y.length:=e
  subst e'
  exact len_str (by omega) ⟨.int _,H,I.tok _,⟨_,rfl⟩,q⟩
 | byt y =>
  obtain ⟨t,rfl⟩:=rx
  obtain ⟨hy,e'⟩:y.size≤sizeLine∧n=y.size:=e
  subst e'
  exact PySem.W.len_bytes (by omega) ⟨.int _,H,I.tok _,⟨_,rfl⟩,q⟩
 | ref p =>
  cases rx
  have e':(∃ xs,SqL X.K H p xs∧n=xs.length)∨∃ xs,SqT X.K H p xs∧n=xs.length:=e
  rcases e' with ⟨xs,hx,e'⟩ | ⟨xs,hx,e'⟩
  ·subst e'
   obtain ⟨its,r',pl,hz⟩:=I.list hx
   have hlen:=r'.length
   exact Calls.call_len_list pl.isList (by simp only [List.size_toArray]; omega) ⟨.int xs.length,H,I.tok _,⟨_,by simp only [List.size_toArray]; rw [hlen]⟩,q⟩
  ·subst e'
   obtain ⟨its,r',pl,hz⟩:=I.tuple hx
   have hlen:=r'.length
   exact len_tuple pl (by simp only [List.size_toArray]; omega) ⟨.int xs.length,H,I.tok _,⟨_,by simp only [List.size_toArray]; rw [hlen]⟩,q⟩
 | _=>exact (show False from e).elim
end
end L2
namespace L2
open PySem PySem.Spec PyProof.Rows
structure ObjM (h:Heap) (x dx C:Addr) (mA:Str→Option Value):Prop where
 obj:h.get? x=some (PySem.W.instObj C dx)
 ns:h.Ns1 dx mA
 ne:dx≠x
theorem lookIn_ns {h:Heap} {dx:Addr} {mA:Str→Option Value} (n:h.Ns1 dx mA):∃ od,h.get? dx=some od∧∀ name,PySem.W.lookIn name od=some (mA name):=by
 obtain ⟨o,es,ep,ho,hd,hk,_,hm⟩:=n
 refine ⟨o,ho,fun name=>?_⟩
 have e:=hm name
 unfold nsFind findBy at e
 rw [← Array.find?_toList] at e
 unfold PySem.W.lookIn
 rw [hd]
 dsimp only
 split
 ·rename_i y q
  rw [q] at e
  exact congrArg some e
 ·rename_i q
  rw [q] at e
  have a:es.toList.any (·.refKey)=false:=by
   rw [List.any_eq_false]
   intro y hy
   obtain ⟨z,t,hkey⟩:=hk y (Array.mem_toList_iff.mp hy)
   simp [DictEntry.refKey,hkey]
  have a':¬ es.toList.any (·.refKey)=true:=by rw [a]; exact Bool.false_ne_true
  rw [if_neg a']
  exact congrArg some e
theorem ObjM.look {h:Heap} {x dx C:Addr} {mA:Str→Option Value} (I:ObjM h x dx C mA):∃ od,PySem.W.InstAt h x (PySem.W.instObj C dx) C (some od)∧∀ name,PySem.W.lookIn name od=some (mA name) :=
 let ⟨od,ho,hl⟩:=lookIn_ns I.ns
 ⟨od,⟨I.obj,rfl,rfl,ho⟩,hl⟩
section
variable {prog:Program} {w:World} {A:Around} {E:Value→Shared→Prop} {s:Shared} {K:PySem.W.Frag} {x dx C f:Addr} {mA:Str→Option Value} {name:Str} {v:Value}
theorem get_map {expr:Bool} {Q:Value→Shared→Prop} (X:K.In s.heap) (I:ObjM s.heap x dx C mA) (hg:PySem.W.plainGet K C name=true) (hh:PySem.W.hasDictIn K C=true)
  (ha:PySem.W.findIn K (.ref C) name=some none) (hv:mA name=some v) (hv':PySem.W.handedIn v=true) (h:Q v { s with toks:=s.toks + 1 }) :
  wpAny (model prog w) A (getAttr (.ref x) name expr) Q E s:=by
 obtain ⟨od,J,hl⟩:=I.look
 exact PySem.W.get_value X J (PySem.W.plainGet_of hg).1 (PySem.W.findObj_own hh ha rfl (by rw [hl,hv])) hv' h
theorem get_meth {pl:Sem Bool} {Q:Value × List Value→Shared→Prop} (X:K.In s.heap) (I:ObjM s.heap x dx C mA) (hg:PySem.W.plainGet K C name=true)
  (hf:PySem.W.findIn K (.ref C) name=some (some (.ref f))) (ht:PySem.W.isFn K (.ref f)=true) (hv:mA name=none) (h:Q (.ref f,[.ref x]) s) :
  wpAny (model prog w) A (getMethod (.ref x) name pl) Q E s:=by
 obtain ⟨od,J,hl⟩:=I.look
 exact PySem.W.method_fn X J (PySem.W.plainGet_of hg).1 (PySem.W.plainGet_of hg).2 hf (beq_iff_eq.mp ht) (by show (PySem.W.lookIn name od).map (·.isSome)=some false; rw [hl,hv]; rfl) h
theorem set_map {ns:List Str} {Q:Unit→Shared→Prop} (X:K.In s.heap) (I:ObjM s.heap x dx C mA)
  (hs:PySem.W.findIn K (.ref C) "__setattr__"=some (some (.builtin "object.__setattr__"))) (hp:PySem.W.plainOver K C=true) (ht:PySem.W.takerIn K C name=some none) (hh:PySem.W.hasDictIn K C=true)
  (hw:PySem.Within mA ns) (hsz:ns.length≤sizeLine)
  (h:∀ h',ObjM h' x dx C (fun y=>if y=name then some v else mA y)→Heap.SameBut dx s.heap h'→Q () { s with heap:=h',toks:=s.toks + 2 }) :
  wpAny (model prog w) A (setAttr (.ref x) name v) Q E s:=by
 obtain ⟨od,J,hl⟩:=I.look
 refine PySem.W.set_plain X J hs (PySem.W.osa_open (s:={ s with toks:=s.toks + 1 }) (r:=none) X J hp ht fun b=>?_)
 obtain ⟨cd,hc,hd'⟩:=PySem.W.any_some hh
 have hx:s.heap.get? x=some ⟨.ref C,some dx,.plain,#[]⟩:=I.obj
 refine wpAny_bind (wpAny_pure (wpAny_bind (wpAny_bind (wpAny_loadPart hx (wpAny_bind (PySem.W.Looks.here (s:={ s with toks:=s.toks + 1 }) (PySem.W.looks_clsIn X hc) ?_))))))
 rw [hd']
 refine wpAny_pure (a:=some dx) (wpAny_bind (wpAny_pure (wpAny_bind ?_)))
 refine wpAny_nsSet1 (s:={ s with toks:=s.toks + 1 }) I.ns fun h' hn2 hs2=>?_
 obtain ⟨oD,esD,epD,hoD,hdD,hcD⟩:=hn2.count (PySem.Within.cons name v hw)
 refine wpAny_bind (wpAny_lookBehind hoD (by rw [hdD]; exact pastItsLine_dict (Nat.le_trans hcD (by rw [List.length_cons]; omega))) ?_)
 exact wpAny_pure (h _ ⟨(hs2.2 _ (Ne.symm I.ne)).trans I.obj,hn2,I.ne⟩ hs2)
theorem Qq {R:Result→Shared→Prop} {vs:List Value} {kw:List (Str × Value)} (X:K.In s.heap) (hm:PySem.W.makesIn K C=true)
  (hi:PySem.W.findIn K (.ref C) "__init__"=some (some (.ref f))) (hf:PySem.W.typeIn K (.ref f)=some (.type "function"))
  (h:codeAny (model prog w) (A.under (.builtin "type.__call__" ⟨.ref C :: vs,kw⟩)) (.call (.ref f) ⟨.ref (s.heap.objs.size + 1) :: vs,kw⟩) (PySem.W.InitBack (s.heap.objs.size + 1) R)
   { s with heap:=(s.heap.push PySem.W.emptyDict).push (PySem.W.instObj C s.heap.objs.size) }) :
  codeAny (model prog w) A (.call (.ref C) ⟨vs,kw⟩) R s:=by
 obtain ⟨hh,g,d,t,os⟩:=s
 exact PySem.W.make_core (PySem.W.makes_of X hm) (PySem.W.looks_findIn X hi) (fun self=>PySem.W.bind_fn X self hf) (.inl rfl) h
end
def putF (f:Str) (v:V):List (Str × V)→List (Str × V)
 | []=>[(f,v)]
 | (g,x) :: r=>if g=f then (g,v) :: r else (g,x) :: putF f v r
theorem z6 (f g:Str) (v:V):∀ fs:List (Str × V),(putF f v fs).lookup g=if g=f then some v else fs.lookup g
 | []=>by
  show List.lookup g [(f,v)]=_
  by_cases h:g=f
  ·have hb:(g == f)=true:=beq_iff_eq.mpr h
   simp only [List.lookup,hb,if_pos h]
  ·have hb:(g == f)=false:=beq_eq_false_iff_ne.mpr h
   simp only [List.lookup,hb,if_neg h]
 | (k,x) :: r=>by
  have ih:=z6 f g v r
  rw [show putF f v ((k,x) :: r)=(if k=f then (k,v) :: r else (k,x) :: putF f v r) from rfl]
  by_cases hk:k=f
  ·rw [if_pos hk]
   by_cases h:g=k
   ·have hb:(g == k)=true:=beq_iff_eq.mpr h
    simp only [List.lookup,hb,if_pos (h.trans hk)]
   ·have hb:(g == k)=false:=beq_eq_false_iff_ne.mpr h
    simp only [List.lookup,hb,if_neg (fun e:g=f=>h (e.trans hk.symm))]
  ·rw [if_neg hk]
   by_cases h:g=k
   ·have hb:(g == k)=true:=beq_iff_eq.mpr h
    simp only [List.lookup,hb,if_neg (fun e:g=f=>hk (h.symm.trans e))]
   ·have hb:(g == k)=false:=beq_eq_false_iff_ne.mpr h
    simp only [List.lookup,hb]
    exact ih
theorem wv (f:Str) (v:V):∀ fs:List (Str × V),f∈(putF f v fs).map (·.1)∧∀ g,g∈fs.map (·.1)→g∈(putF f v fs).map (·.1)
 | []=>⟨by simp [putF],fun g h=>by simp at h⟩
 | (k,x) :: r=>by
  obtain ⟨i1,i2⟩:=wv f v r
  rw [show putF f v ((k,x) :: r)=(if k=f then (k,v) :: r else (k,x) :: putF f v r) from rfl]
  by_cases hk:k=f
  ·rw [if_pos hk]
   subst hk
   exact ⟨by simp,fun g h=>by simpa using h⟩
  ·rw [if_neg hk]
   refine ⟨?_,fun g h=>?_⟩
   ·rw [List.map_cons]
    exact List.mem_cons_of_mem _ i1
   ·rw [List.map_cons] at h ⊢
    rcases List.mem_cons.mp h with e | e
    ·exact List.mem_cons.mpr (.inl e)
    ·exact List.mem_cons_of_mem _ (i2 g e)
theorem ji (f:Str) (v:V):∀ fs:List (Str × V),(putF f v fs).length≤fs.length + 1
 | []=>by simp [putF]
 | (k,x) :: r=>by
  have ih:=ji f v r
  rw [show putF f v ((k,x) :: r)=(if k=f then (k,v) :: r else (k,x) :: putF f v r) from rfl]
  by_cases hk:k=f
  ·rw [if_pos hk,List.length_cons,List.length_cons]; omega
  ·rw [if_neg hk,List.length_cons,List.length_cons]; omega
theorem RelO.some_of {v:V} {o:Option Value} (r:RelO (some v) o):∃ u,o=some u∧RelV v u:=by
 cases o with
 | none=>exact (show False from r).elim
 | some u=>exact ⟨u,rfl,r⟩
theorem RelO.none_of {o:Option Value} (r:RelO none o):o=none:=by
 cases o with
 | none=>rfl
 | some u=>exact (show False from r).elim
theorem handed_of {v:V} {u:Value} (r:RelV v u):PySem.W.handedIn u=true:=by
 cases v with
 | non=>cases (show u=Value.none from r); rfl
 | bl b=>cases (show u=Value.bool b from r); rfl
 | int i=>obtain ⟨t,e⟩:=(show ∃ t,u=Value.int i t from r); cases e; rfl
 | str x=>obtain ⟨t,e⟩:=(show ∃ t,u=Value.str x t from r); cases e; rfl
 | byt b=>obtain ⟨t,e⟩:=(show ∃ t,u=Value.bytes b t from r); cases e; rfl
 | flt b=>obtain ⟨t,e⟩:=(show ∃ t,u=Value.float b t from r); cases e; rfl
 | ref a=>cases (show u=Value.ref a from r); rfl
 | ty n=>cases (show u=Value.type n from r); rfl
section
variable {P:Program} {w:World} {H H':Hp} {h h':Heap} {a C dx:Addr} {fs fs':List (Str × V)}
theorem wN (hok:HOk P w H h) (e:H a=some (.ins C dx fs)):∃ mA,ObjM h a dx C mA∧(∀ f,RelO (fs.lookup f) (mA f))∧PySem.Within mA (fs.map (·.1))∧fs.length≤1000∧H dx=some (.own a):=by
 obtain ⟨d,z,ne,ob,mA,n,r,q⟩:=(show ObjOk P w H h a (.ins C dx fs) from hok a _ e)
 exact ⟨mA,⟨ob,n,ne⟩,r,q,z,d⟩
end
structure Cls (K:PySem.W.Frag) (C:Addr):Prop where
 pg:PySem.W.plainGet K C Str.empty=true
 hd:PySem.W.hasDictIn K C=true
 po:PySem.W.plainOver K C=true
 sa:PySem.W.findIn K (.ref C) "__setattr__"=some (some (.builtin "object.__setattr__"))
theorem Cls.get {K:PySem.W.Frag} {C:Addr} (c:Cls K C) (f:Str):PySem.W.plainGet K C f=true:=c.pg
def NoAttr (K:PySem.W.Frag) (C:Addr) (f:Str):Prop:=PySem.W.findIn K (.ref C) f=some none
theorem NoAttr.taker {K:PySem.W.Frag} {C:Addr} {f:Str} (n:NoAttr K C f):PySem.W.takerIn K C f=some none:=by
 unfold PySem.W.takerIn
 rw [show PySem.W.findIn K (.ref C) f=some none from n]
 rfl
structure Meth (K:PySem.W.Frag) (C:Addr) (m:Str) (f:Addr):Prop where
 at_:PySem.W.findIn K (.ref C) m=some (some (.ref f))
 fn:PySem.W.isFn K (.ref f)=true
 kp:PySem.W.keepIn K (.ref f)=true
section
variable {X:Cx} {pins:List (Addr × Obj)} {σ:St} {H:Hp} {s:Shared} {a C dx:Addr} {fs:List (Str × V)} {f:Str} {v:V} {A:Around} {E:Value→Shared→Prop}
theorem vD {b:Bool} {Q:Value→Shared→Prop} (I:Inv X pins σ H s) (e:H a=some (.ins C dx fs)) (c:Cls X.K C) (n:NoAttr X.K C f) (l:fs.lookup f=some v)
  (h:∀ u s',Inv X pins σ H s'→RelV v u→Q u s'):wpAny (model X.prog X.w) A (getAttr (.ref a) f b) Q E s:=by
 obtain ⟨mA,O,r,_,_,_⟩:=wN I.hok e
 obtain ⟨u,hu,ru⟩:=RelO.some_of (v:=v) (o:=mA f) (by rw [← l]; exact r f)
 exact get_map I.kIn O (c.get f) c.hd n hu (handed_of ru) (h u _ (I.tok _) ru)
theorem vC {m:Str} {g:Addr} {pl:Sem Bool} {Q:Value × List Value→Shared→Prop} (I:Inv X pins σ H s) (e:H a=some (.ins C dx fs)) (c:Cls X.K C) (k:Meth X.K C m g) (l:fs.lookup m=none)
  (h:Q (.ref g,[.ref a]) s):wpAny (model X.prog X.w) A (getMethod (.ref a) m pl) Q E s:=by
 obtain ⟨mA,O,r,_,_,_⟩:=wN I.hok e
 have hn:mA m=none:=RelO.none_of (by rw [← l]; exact r m)
 exact get_meth I.kIn O (c.get m) k.at_ k.fn hn h
theorem w6 {y:V} {u:Value} {Q:Unit→Shared→Prop} (I:Inv X pins σ H s) (e:H a=some (.ins C dx fs)) (c:Cls X.K C) (n:NoAttr X.K C f) (hl:fs.length < 1000) (ry:RelV y u)
  (h:∀ s',Inv X pins σ (upd H a (.ins C dx (putF f y fs))) s'→Q () s'):wpAny (model X.prog X.w) A (setAttr (.ref a) f u) Q E s:=by
 obtain ⟨mA,O,r,wi,_,ho⟩:=wN I.hok e
 have hz:(fs.map (·.1)).length≤sizeLine:=by rw [List.length_map,sizeLine_eq]; omega
 refine set_map I.kIn O c.sa c.po n.taker c.hd wi hz fun h' O' sb=>h _ ?_
 have hd:∃ o,h'.get? dx=some o:=let ⟨o,_,_,e',_⟩:=O'.ns; ⟨o,e'⟩
 refine I.write (x:=a) (e:=dx) (by rw [e]; exact True.intro) (.inr ho) (fun b q hb z=>(sb.2 b hb).trans z) hd ?_
 refine ⟨by rw [upd_ne O.ne]; exact ho,?_,O.ne,O'.obj,_,O'.ns,fun g=>?_,fun g hg=>?_⟩
 ·have:=ji f y fs; omega
 ·show RelO ((putF f y fs).lookup g) (if g=f then some u else mA g)
  rw [z6]
  by_cases q:g=f
  ·rw [if_pos q,if_pos q]; exact ry
  ·rw [if_neg q,if_neg q]; exact r g
 ·by_cases q:g=f
  ·rw [q]; exact (wv f y fs).1
  ·refine (wv f y fs).2 g (wi g fun z=>hg ?_)
   show (if g=f then some u else mA g)=none
   rw [if_neg q]; exact z
theorem Inv.made (I:Inv X pins σ H s):Inv X pins σ (upd (upd H s.heap.objs.size (.own (s.heap.objs.size + 1))) (s.heap.objs.size + 1) (.ins C s.heap.objs.size []))
  { s with heap:=(s.heap.push PySem.W.emptyDict).push (PySem.W.instObj C s.heap.objs.size) }:=by
 have e1:(s.heap.push PySem.W.emptyDict).get? s.heap.objs.size=some PySem.W.emptyDict:=Heap.get?_push_size s.heap rfl
 have e2:((s.heap.push PySem.W.emptyDict).push (PySem.W.instObj C s.heap.objs.size)).get? (s.heap.objs.size + 1)=some (PySem.W.instObj C s.heap.objs.size):=by
  have:=Heap.get?_push_size (s.heap.push PySem.W.emptyDict) (o:=PySem.W.instObj C s.heap.objs.size) rfl
  rwa [Heap.size_push] at this
 have e3:(s.heap.push PySem.W.emptyDict).Ns s.heap.objs.size (fun _=>none):=⟨PySem.W.emptyDict,#[],_,e1,rfl,(fun e he=>absurd he (by simp)),fun _=>rfl⟩
 have I1:=I.laid (a:=s.heap.objs.size) (o:=.own (s.heap.objs.size + 1)) (h':=s.heap.push PySem.W.emptyDict) (t':=s.toks) (fun b u q=>Heap.get?_push_of_some _ q) (Nat.le_refl _) ⟨_,e1⟩
 refine I1.laid (a:=s.heap.objs.size + 1) (o:=.ins C s.heap.objs.size []) (t':=s.toks) (fun b u q=>Heap.get?_push_of_some _ q) (Nat.le_of_eq (Heap.size_push _ _)) ?_
 have ne:s.heap.objs.size≠s.heap.objs.size + 1:=Nat.ne_of_lt (Nat.lt_succ_self _)
 refine ⟨by rw [upd_ne ne,upd_same],Nat.zero_le _,ne,e2,fun _=>none,(Heap.Ns1.of_empty e3).at fun o q=>Heap.get?_push_of_some _ q,fun _=>True.intro,fun y hy=>absurd rfl hy⟩
theorem attr_of {prog:Program} {w:World} {env:Env} {e:Expr} {f:Str} {pos:Pos} {s:Shared} {Q:Value→Shared→Prop} (hb:attributeBase e f env (eval e env)=eval e env)
  (h:wpAny (model prog w) A (eval e env) (fun o s₁=>wpAny (model prog w) A (getAttr o f true) Q E s₁) E s):wpAny (model prog w) A (eval (.Attribute e f pos) env) Q E s :=
 Attribute_any_ h (by rw [arm_eval_Attribute,hb])
end
def tFld (K:PySem.W.Frag) (ta:TE) (f:Str):TE:=fun σ H Q=>ta σ H fun x H1=>∃ a C dx fs v,x=.ref a∧H1 a=some (.ins C dx fs)∧Cls K C∧NoAttr K C f∧fs.lookup f=some v∧Q v H1
def sFld (K:PySem.W.Frag) (ta tv:TE) (f:Str):TS:=fun D σ H=>tv σ H fun y H1=>ta σ H1 fun x H2=>∃ a C dx fs,x=.ref a∧H2 a=some (.ins C dx fs)∧Cls K C∧NoAttr K C f∧fs.length < 1000 ∧
 D.nx σ (upd H2 a (.ins C dx (putF f y fs)))
def InOp (X:Cx) (op:Operator) (rd:V→V→Hp→VK→Prop):Prop :=
 ∀ (pins:List (Addr × Obj)) (s:Shared) (σ:St) (H:Hp) (x y:V) (u v:Value) (Q:VK),Inv X pins σ H s→RelV x u→RelV y v→rd x y H Q→wpAny (model X.prog X.w) X.A (inplaceOp op u v) (EP X pins σ Q) X.xe s
def sFldAug (K:PySem.W.Frag) (ta tv:TE) (rd:V→V→Hp→VK→Prop) (f:Str):TS:=fun D σ H=>ta σ H fun x H1=>∃ a C dx fs v,x=.ref a∧H1 a=some (.ins C dx fs)∧Cls K C∧NoAttr K C f∧fs.lookup f=some v ∧
 tv σ H1 fun y H2=>rd v y H2 fun z H3=>∃ dx' fs',H3 a=some (.ins C dx' fs')∧fs'.length < 1000∧D.nx σ (upd H3 a (.ins C dx' (putF f z fs')))
section
variable {X:Cx} {o e value:Expr} {f:Str} {pos pos' tpos:Pos} {ta tv:TE}
theorem zl (he:PE X e ta) (hb:attributeBase e f X.env (eval e X.env)=eval e X.env):PE X (.Attribute e f pos) (tFld X.K ta f):=by
 intro pins s σ H Q I h
 refine attr_of hb (thn (he pins s σ H _ I h) fun u s1 ⟨x,H1,I1,rx,a,C,dx,fs,v,ex,ea,c,n,l,q⟩=>?_)
 subst ex
 obtain rfl:u=Value.ref a:=rx
 exact vD I1 ea c n l fun u' s2 I2 ru=>⟨v,H1,I2,ru,q⟩
theorem qL (ha:PE X o ta) (hv:PE X value tv) (hs:swapsWith value (some (.Attribute o f pos')) pos.line X.env=pure false):PS X (.Assign [.Attribute o f pos'] value pos) (sFld X.K ta tv f):=by
 intro pins s σ H D I h
 refine plainObj_wpAny_Assign_Attribute (thn (hv pins s σ H _ I h) fun u s1 ⟨y,H1,I1,ry,q⟩=>thn (ha pins s1 σ H1 _ I1 q) fun ov s2 ⟨x,H2,I2,rx,a,C,dx,fs,ex,ea,c,n,l,q2⟩=>?_) hs
 subst ex
 obtain rfl:ov=Value.ref a:=rx
 exact w6 I2 ea c n l ry fun s3 I3=>⟨σ,_,I3,q2⟩
theorem ps_fldaug {op:Operator} {rd:V→V→Hp→VK→Prop} (ha:PE X o ta) (hv:PE X value tv) (hop:InOp X op rd):PS X (.AugAssign (.Attribute o f tpos) op value pos) (sFldAug X.K ta tv rd f):=by
 intro pins s σ H D I h
 refine wpAny_AugAssign_AttributeAny (thn (ha pins s σ H _ I h) fun ov s1 ⟨x,H1,I1,rx,a,C,dx,fs,v,ex,ea,c,n,l,q⟩=>?_)
 subst ex
 obtain rfl:ov=Value.ref a:=rx
 refine vD I1 ea c n l fun u s2 I2 ru=>thn (hv pins s2 σ H1 _ I2 q) fun w3 s3 ⟨y,H2,I3,ry,q3⟩=>thn (hop pins s3 σ H2 v y u w3 _ I3 ru ry q3) fun w4 s4 ⟨z,H3,I4,rz,dx',fs',ea',l',q4⟩=>?_
 exact w6 I4 ea' c n l' rz fun s5 I5=>⟨σ,_,I5,q4⟩
def rAdd:V→V→Hp→VK→Prop:=fun x y H Q=>∃ i j,x=.int i∧y=.int j∧Q (.int (i + j)) H
theorem in_add:InOp X .Add rAdd:=by
 rintro pins s σ H x y u v Q I rx ry ⟨i,j,rfl,rfl,q⟩
 obtain ⟨t,rfl⟩:=(show ∃ t,u=Value.int i t from rx)
 obtain ⟨t',rfl⟩:=(show ∃ t',v=Value.int j t' from ry)
 exact PyProof.Rows.iadd_int ⟨.int (i + j),H,I.tok _,⟨_,rfl⟩,q⟩
end
section
variable {X:Cx} {pins:List (Addr × Obj)} {σ:St} {H:Hp} {s:Shared} {A:Around} {E:Value→Shared→Prop} {Q:Value→Shared→Prop} {c:Value} {b:Bool}
inductive TyOf (K:PySem.W.Frag) (H:Hp):V→Value→Prop where
 | non:TyOf K H .non (.type "NoneType")
 | bl (x:Bool):TyOf K H (.bl x) (.type "bool")
 | int (i:Int):TyOf K H (.int i) (.type "int")
 | str (x:Str):TyOf K H (.str x) (.type "str")
 | flt (x:UInt64):TyOf K H (.flt x) (.type "float")
 | lst {a:Addr} {xs:List V} (e:H a=some (.lst xs)):TyOf K H (.ref a) (.type "list")
 | frz {a:Addr} {o:Obj} {xs:List V} (e:H a=some (.frz o (.lst xs))):TyOf K H (.ref a) (.type "list")
 | tup {a:Addr} {xs:List V} (e:H a=some (.tup xs)):TyOf K H (.ref a) (.type "tuple")
 | dK {a:Addr} {kvs:List (Key × V)} (e:H a=some (.dK kvs)):TyOf K H (.ref a) (.type "dict")
 | dT {a:Addr} {kvs:List (List Key × V)} (e:H a=some (.dT kvs)):TyOf K H (.ref a) (.type "dict")
 | ins {a C dx:Addr} {fs:List (Str × V)} (e:H a=some (.ins C dx fs)) (cl:Cls K C) (ha:PySem.W.findIn K (.ref C) "__class__"=some (some (.builtin "object.__class__")))
   (hn:PySem.W.specialIn K (.builtin "object.__class__") "__get__"=some (some (.builtin "getset_descriptor.__get__"))) (htk:PySem.W.takesIn K (.builtin "object.__class__")=some true)
   (hm:PySem.W.mroIn K C (.type "object")=some true):TyOf K H (.ref a) (.ref C)
end
end L2
namespace L2
open PySem PySem.Spec PyProof.Rows
structure Room (k:Nat) (A:Around):Prop where
 hd:A.handled=none
 dp:A.depth + 3 * k + 5 < recursionLimit
 un:A.units + 16 * k + 200 < cLine
theorem Room.mono {j k:Nat} {A:Around} (r:Room k A) (h:j≤k):Room j A:=⟨r.hd,by have:=r.dp; omega,by have:=r.un; omega⟩
theorem Room.deeper {k:Nat} {A:Around} (r:Room (k + 1) A) (env:Env):Room k (A.deeper env) :=
 ⟨r.hd,by have:=r.dp; show A.depth + 1 + 3 * k + 5 < _; omega,by have:=r.un; show A.units + 3 + 16 * k + 200 < _; omega⟩
theorem Room.in1 {k:Nat} {A:Around} (r:Room (k + 1) A):Room k A.in1 :=
 ⟨r.hd,by have:=r.dp; show A.depth + 3 * k + 5 < _; omega,by have:=r.un; show A.units + 1 + 16 * k + 200 < _; omega⟩
theorem make_depth {A:Around} {C:Addr} {us:List Value} {kw:List (Str × Value)}:(A.under (.builtin "type.__call__" ⟨.ref C :: us,kw⟩)).depth=A.depth + 1:=by
 first | rfl | simp [Around.under,Code.weight,Code.isCreation,Code.isGuard,Code.isCaller,Code.frames,Code.isFrame,guardIds]
theorem make_units {A:Around} {C:Addr} {us:List Value} {kw:List (Str × Value)}:(A.under (.builtin "type.__call__" ⟨.ref C :: us,kw⟩)).units=A.units + 1:=by
 first | rfl | simp [Around.under,Code.cUnits,Code.frames,Code.isFrame]
theorem Room.make {k:Nat} {A:Around} (r:Room (k + 1) A) (C:Addr) (us:List Value) (kw:List (Str × Value)):Room k (A.under (.builtin "type.__call__" ⟨.ref C :: us,kw⟩)) :=
 ⟨r.hd,by have:=r.dp; rw [make_depth]; omega,by have:=r.un; rw [make_units]; omega⟩
theorem Room.depth {k:Nat} {A:Around} (r:Room k A):A.depth < recursionLimit:=by have:=r.dp; omega
theorem Room.units {k:Nat} {A:Around} (r:Room k A):A.units + 64 < cLine:=by have:=r.un; omega
def tNil:TA:=fun _ H Q=>Q [] H
def tCons (ta:TE) (tr:TA):TA:=fun σ H Q=>ta σ H fun x H1=>tr σ H1 fun xs H2=>Q (x :: xs) H2
section
variable {X:Cx} {e:Expr} {es:List Expr} {te:TE} {t:TA} {pos:Pos}
theorem zb:PA X [] tNil:=fun _ _ _ _ H Q I h=>Calls.spliced_nil ⟨[],H,I,.nil,h⟩
theorem za (ha:PE X e te) (hr:PA X es t) (hs:starEach (e :: es) X.env=(false,eval e X.env) :: starEach es X.env:=by rfl):PA X (e :: es) (tCons te t):=by
 intro pos pins s σ H Q I h
 rw [hs]
 show wpAny _ _ (spliced ((false,eval e X.env) :: backTo pos (starEach es X.env))) _ _ s
 refine Calls.spliced_cons (thn (ha pins s σ H _ I h) fun u s1 ⟨x,H1,I1,r1,q1⟩=>?_)
 exact thn (hr pos pins s1 σ H1 _ I1 q1) fun us s2 ⟨xs,H2,I2,r2,q2⟩=>⟨x :: xs,H2,I2,.cons r1 r2,q2⟩
def tTup (t:TA):TE:=fun σ H Q=>t σ H fun xs H1=>xs.length≤sizeLine∧∀ p,H1 p=none→Q (.ref p) (upd H1 p (.tup xs))
def tLst (t:TA):TE:=fun σ H Q=>t σ H fun xs H1=>xs.length≤sizeLine∧∀ p,H1 p=none→Q (.ref p) (upd H1 p (.lst xs))
theorem qM {x1} (h:PA X es t):PE X (.Tuple es x1 pos) (tTup t):=by
 intro pins s σ H Q I hq
 refine wpAny_Tuple_spliced (thn (h pos pins s σ H _ I hq) fun us s1 ⟨xs,H1,I1,r,z,q⟩=>⟨by rw [← r.length]; exact z,?_⟩)
 have hf:H1 s1.heap.objs.size=none:=I1.hok.fresh (Nat.le_refl _)
 refine ⟨.ref s1.heap.objs.size,upd H1 s1.heap.objs.size (.tup xs),I1.laid (t':=s1.toks) (fun b u e=>Heap.get?_push_of_some _ e) (Nat.le_refl _) ?_,rfl,q _ hf⟩
 exact ⟨z,us,r,⟨_,Heap.get?_push_size _ rfl,rfl,_,rfl⟩⟩
theorem zF (h:PA X es t):PE X (.List es pos) (tLst t):=by
 intro pins s σ H Q I hq
 refine wpAny_List_spliced (thn (h pos pins s σ H _ I hq) fun us s1 ⟨xs,H1,I1,r,z,q⟩=>⟨by rw [← r.length]; exact z,?_⟩)
 have hf:H1 s1.heap.objs.size=none:=I1.hok.fresh (Nat.le_refl _)
 refine ⟨.ref s1.heap.objs.size,upd H1 s1.heap.objs.size (.lst xs),I1.laid (t':=s1.toks) (fun b u e=>Heap.get?_push_of_some _ e) (Nat.le_refl _) ?_,rfl,q _ hf⟩
 exact ⟨z,us,0,r,Heap.get?_push_size _ rfl⟩
end
abbrev Sp:=List V→Hp→VK→XK→Prop
abbrev CXT:=List Env→Hp→Shared→XK→Value→Shared→Prop
structure Env0 (P:Program) (w:World) (K:PySem.W.Frag) (mg:Str→Option Value) (base:Heap) (A:Around) (outer:List Env) (s:Shared) (H:Hp):Prop where
 frames:A.frames=some outer
 mod:Mod K mg base
 bs:∀ b o,base.get? b=some o→s.heap.get? b=some o∧H b=none
 bsz:base.objs.size≤s.heap.objs.size
 funs:s.heap.FunFrames base outer
 frf:∀ b∈frs outer,H b=none
 hok:HOk P w H s.heap
 bare:AllBare s.gens
def CE (outer:List Env) (P:Program) (w:World) (H:Hp) (s:Shared) (Q:VK) (u:Value) (s':Shared):Prop :=
 ∃ v H',s'.os=s.os∧AllBare s'.gens∧Un (frs outer) [] H H' s.heap s'.heap∧HOk P w H' s'.heap∧RelV v u∧Q v H'
def CR (CX:CXT) (outer:List Env) (P:Program) (w:World) (H:Hp) (s:Shared) (Q:VK) (E:XK) (r:Result) (s':Shared):Prop :=
 match r with
 | .ok (.ret u)=>CE outer P w H s Q u s'
 | .ok _=>False
 | .error e=>CX outer H s E e s'
structure FnOk (P:Program) (w:World) (K:PySem.W.Frag) (mg:Str→Option Value) (base:Heap) (CX:CXT) (k:Nat) (f:Addr) (fd:FuncData) (ps:List Str) (sp:Sp):Prop where
 len:∀ vs H Q E,sp vs H Q E→vs.length=ps.length
 run:∀ (A:Around) (outer:List Env) (s:Shared) (H:Hp) (args:Args) (us:List Value) (vs:List V) (Q:VK) (E:XK),Room k A→Env0 P w K mg base A outer s H→BindsTo s fd args (ps.zip us)→Vals vs us→sp vs H Q E →
  codeAny (model P w) A (.call (.ref f) args) (CR CX outer P w H s Q E) s
theorem FnOk.mono {P:Program} {w:World} {K:PySem.W.Frag} {mg:Str→Option Value} {base:Heap} {CX:CXT} {j k:Nat} {f:Addr} {fd:FuncData} {ps:List Str} {sp:Sp} (F:FnOk P w K mg base CX j f fd ps sp) (h:j≤k) :
  FnOk P w K mg base CX k f fd ps sp:=⟨F.len,fun A outer s H args us vs Q E hr=>F.run A outer s H args us vs Q E (hr.mono h)⟩
theorem FnOk.imp {P:Program} {w:World} {K:PySem.W.Frag} {mg:Str→Option Value} {base:Heap} {CX:CXT} {k:Nat} {f:Addr} {fd:FuncData} {ps:List Str} {sp sp':Sp} (F:FnOk P w K mg base CX k f fd ps sp)
  (h:∀ vs H Q E,sp' vs H Q E→sp vs H Q E):FnOk P w K mg base CX k f fd ps sp' :=
 ⟨fun vs H Q E q=>F.len vs H Q E (h _ _ _ _ q),fun A outer s H args us vs Q E hr he hb hv hs=>F.run A outer s H args us vs Q E hr he hb hv (h _ _ _ _ hs)⟩
theorem Env0.make {P:Program} {w:World} {K:PySem.W.Frag} {mg:Str→Option Value} {base:Heap} {A:Around} {outer:List Env} {s:Shared} {H:Hp} (e:Env0 P w K mg base A outer s H) (C:Addr) (us:List Value) (kw:List (Str × Value)) :
  Env0 P w K mg base (A.under (.builtin "type.__call__" ⟨.ref C :: us,kw⟩)) outer s H:=⟨by first | exact e.frames | (simpa [Around.under,Code.envs,Code.isFrame,pushEnvs] using e.frames),e.mod,e.bs,e.bsz,e.funs,e.frf,e.hok,e.bare⟩
theorem Env0.in1 {P:Program} {w:World} {K:PySem.W.Frag} {mg:Str→Option Value} {base:Heap} {A:Around} {outer:List Env} {s:Shared} {H:Hp} (e:Env0 P w K mg base A outer s H) :
  Env0 P w K mg base A.in1 outer s H:=⟨e.frames,e.mod,e.bs,e.bsz,e.funs,e.frf,e.hok,e.bare⟩
section
variable {X:Cx} {pins:List (Addr × Obj)} {σ:St} {H:Hp} {s s':Shared}
theorem Inv.env0 (I:Inv X pins σ H s):Env0 X.prog X.w X.K X.mg X.base X.A X.stack s H :=
 ⟨I.ok.frames,I.ok.mod,I.bs,Nat.le_trans I.ok.bsz I.sz,I.stack,I.stkFree,I.hok,I.bare⟩
theorem Inv.after {Q:VK} {u:Value} (I:Inv X pins σ H s) (h:CE X.stack X.prog X.w H s Q u s'):EP X pins σ Q u s':=by
 obtain ⟨v,H',os,bare,un,hok,r,q⟩:=h
 obtain ⟨hh,g,d,t,os'⟩:=s'
 obtain rfl:os'=s.os:=os
 exact ⟨v,H',I.call (h':=hh) (g':=g) (d':=d) (t':=t) (ch:=[]) un hok bare (fun b z=>absurd z (by simp)),r,q⟩
end
def Binds (K:PySem.W.Frag) (fd:FuncData) (ps:List Str) (ds:List Value):Prop :=
 ∀ (s:Shared) (us:List Value),K.In s.heap→(us ++ ds).length=ps.length→BindsTo s fd ⟨us,[]⟩ (ps.zip (us ++ ds))
theorem Binds.all {K:PySem.W.Frag} {fd:FuncData} {ps:List Str} (h:∀ us:List Value,us.length=ps.length→bindArgs fd ⟨us,[]⟩=pure (ps.zip us)):Binds K fd ps []:=fun s us _ hl=>by
 rw [List.append_nil] at hl ⊢
 exact .of_eq (h us hl)
def QU (CX:CXT) (X:Cx) (E:XK):Prop:=∀ (pins:List (Addr × Obj)) (σ:St) (H:Hp) (s:Shared) (e:Value) (s':Shared),Inv X pins σ H s→CX X.stack H s E e s'→X.xe e s'
section
variable {X:Cx} {CX:CXT} {k:Nat} {f C:Addr} {fd:FuncData} {ps:List Str} {sp:Sp} {dvs:List V} {ds:List Value} {E:XK} {x m:Str} {p pos apos:Pos} {e o:Expr} {es:List Expr} {ta:TE} {t:TA}
theorem JE {pins:List (Addr × Obj)} {σ:St} {H:Hp} {s:Shared} {Q:VK} {us:List Value} {vs:List V} (F:FnOk X.prog X.w X.K X.mg X.base CX k f fd ps sp) (hr:Room k X.A) (hb:Binds X.K fd ps ds) (hd:Vals dvs ds) (hx:QU CX X E)
  (I:Inv X pins σ H s) (r:Vals vs us) (h:sp (vs ++ dvs) H Q E):wpAny (model X.prog X.w) X.A (call (.ref f) us) (EP X pins σ Q) X.xe s:=by
 have r2:Vals (vs ++ dvs) (us ++ ds):=r.append hd
 have hl:(us ++ ds).length=ps.length:=by rw [← r2.length]; exact F.len _ _ _ _ h
 refine wpAny_call (codeAny_mono (F.run X.A X.stack s H ⟨us,[]⟩ (us ++ ds) (vs ++ dvs) Q E hr I.env0 (hb s us I.kIn hl) r2 h) fun r s' hq=>?_)
 cases r with
 | error e=>exact hx pins σ H s e s' I hq
 | ok fl =>
  cases fl with
  | ret u=>exact I.after hq
  | next=>exact False.elim hq
  | brk=>exact False.elim hq
  | cont=>exact False.elim hq
structure Mk (K:PySem.W.Frag) (C f:Addr):Prop where
 makes:PySem.W.makesIn K C=true
 init:PySem.W.findIn K (.ref C) "__init__"=some (some (.ref f))
 fn:PySem.W.isFn K (.ref f)=true
 kp:PySem.W.keepIn K (.ref C)=true
theorem run_make {pins:List (Addr × Obj)} {σ:St} {H:Hp} {s:Shared} {Q:VK} {us:List Value} {vs:List V} (M:Mk X.K C f) (F:FnOk X.prog X.w X.K X.mg X.base CX k f fd ps sp) (hr:Room (k + 1) X.A) (hb:Binds X.K fd ps ds) (hd:Vals dvs ds)
  (hx:QU CX X E) (I:Inv X pins σ H s) (r:Vals vs us)
  (h:∀ x dx,H x=none→H dx=none→dx≠x→sp (.ref x :: (vs ++ dvs)) (upd (upd H dx (.own x)) x (.ins C dx [])) (fun v H2=>v=.non∧Q (.ref x) H2) E) :
  wpAny (model X.prog X.w) X.A (call (.ref C) us) (EP X pins σ Q) X.xe s:=by
 have hq:=h (s.heap.objs.size + 1) s.heap.objs.size (I.hok.fresh (Nat.le_succ _)) (I.hok.fresh (Nat.le_refl _)) (Nat.ne_of_lt (Nat.lt_succ_self _))
 have I2:=Inv.made (C:=C) I
 have r2:Vals (V.ref (s.heap.objs.size + 1) :: (vs ++ dvs)) (Value.ref (s.heap.objs.size + 1) :: (us ++ ds)):=.cons rfl (r.append hd)
 have hl:(Value.ref (s.heap.objs.size + 1) :: us ++ ds).length=ps.length:=by
  have e:=r2.length
  rw [F.len _ _ _ _ hq] at e
  exact e.symm
 refine wpAny_call (Qq (f:=f) I.kIn M.makes M.init (beq_iff_eq.mp M.fn) (codeAny_mono (F.run _ X.stack _ _ ⟨Value.ref (s.heap.objs.size + 1) :: us,[]⟩ (Value.ref (s.heap.objs.size + 1) :: (us ++ ds)) _ _ E (hr.make C us [])
  (I2.env0.make C us []) (hb _ (Value.ref (s.heap.objs.size + 1) :: us) I2.kIn hl) r2 hq) fun r s' hq'=>?_))
 cases r with
 | error e=>exact hx pins σ _ _ e s' I2 hq'
 | ok fl =>
  cases fl with
  | ret u =>
   obtain ⟨v,H',I3,rv,ev,q3⟩:=I2.after hq'
   subst ev
   exact ⟨rv,⟨V.ref (s.heap.objs.size + 1),H',I3,rfl,q3⟩⟩
  | next=>exact False.elim hq'
  | brk=>exact False.elim hq'
  | cont=>exact False.elim hq'
end
def PK (X:Cx) (kws:List Keyword) (t:TA):Prop :=
 ∀ (pos:Pos) (pins:List (Addr × Obj)) (s:Shared) (σ:St) (H:Hp) (Q:List V→Hp→Prop),Inv X pins σ H s→t σ H Q→wpAny (model X.prog X.w) X.A (evalAll ((backToKw pos (keywordEach kws X.env)).map (·.2))) (AP X pins σ Q) X.xe s
section
variable {X:Cx} {CX:CXT} {k:Nat} {f C:Addr} {fd:FuncData} {ps ks:List Str} {sp:Sp} {E:XK} {x m:Str} {p pos apos kpos:Pos} {e o:Expr} {es:List Expr} {kws:List Keyword} {te ta:TE} {t tk:TA} {nm:Option Str}
variable {g:List Value→List Value→List Value} {gV:List V→List V→List V}
end
structure FnScope (N P:List Str) (sc:Scope):Prop where
 kind:sc.kind=.function
 co:sc.isCoroutine=false
 gen:sc.isGenerator=false
 nd:N.Nodup
 pre:N.take P.length=P
 par:∀ x∈P,sc.names.lookup x=some .local∨sc.names.lookup x=some .cell
 nofree:∀ y∈sc.names,y.2≠.free
theorem Zq {kindOf:Str→Option NameKind} {x:Str}:∀ {binds:List (Str × Value)} {m:Str→Option Value},(∀ v,(x,v) ∉ binds)→bindL kindOf binds m x=m x
 | [],_,_=>rfl
 | (n,v) :: r,m,h=>by
  unfold bindL
  rw [Zq fun w hw=>h w (List.mem_cons_of_mem _ hw)]
  split
  ·have:x≠n:=by rintro rfl; exact h v List.mem_cons_self
   simp [this]
  ·rfl
theorem Zs {kindOf:Str→Option NameKind} {x:Str}:∀ {binds:List (Str × Value)} {m:Str→Option Value},(∀ v,(x,v) ∉ binds)→bindC kindOf binds m x=m x
 | [],_,_=>rfl
 | (n,v) :: r,m,h=>by
  unfold bindC
  rw [Zs fun w hw=>h w (List.mem_cons_of_mem _ hw)]
  split
  ·rfl
  ·have:x≠n:=by rintro rfl; exact h v List.mem_cons_self
   simp [this]
theorem Zr {kindOf:Str→Option NameKind} {x:Str} {v:Value}:∀ {P:List Str} {vs:List Value} {i:Nat} {m:Str→Option Value},P.Nodup→P[i]?=some x→vs[i]?=some v→kindOf x=some .local →
  bindL kindOf (P.zip vs) m x=some v
 | [],_,_,_,_,h,_,_=>by simp at h
 | _ :: _,[],_,_,_,_,h,_=>by simp at h
 | p :: P,w :: vs,0,m,nd,h1,h2,hk=>by
  simp at h1 h2; subst h1; subst h2
  show bindL kindOf ((p,w) :: P.zip vs) m p=_
  unfold bindL
  rw [Zq fun v hv=>(List.nodup_cons.mp nd).1 (List.of_mem_zip hv).1,if_pos hk]
  simp
 | p :: P,w :: vs,i + 1,m,nd,h1,h2,hk=>by
  show bindL kindOf ((p,w) :: P.zip vs) m x=_
  unfold bindL
  exact Zr (i:=i) (List.nodup_cons.mp nd).2 (by simpa using h1) (by simpa using h2) hk
theorem Zt {kindOf:Str→Option NameKind} {x:Str} {v:Value}:∀ {P:List Str} {vs:List Value} {i:Nat} {m:Str→Option Value},P.Nodup→P[i]?=some x→vs[i]?=some v→kindOf x≠some .local →
  bindC kindOf (P.zip vs) m x=some v
 | [],_,_,_,_,h,_,_=>by simp at h
 | _ :: _,[],_,_,_,_,h,_=>by simp at h
 | p :: P,w :: vs,0,m,nd,h1,h2,hk=>by
  simp at h1 h2; subst h1; subst h2
  show bindC kindOf ((p,w) :: P.zip vs) m p=_
  unfold bindC
  rw [Zs fun v hv=>(List.nodup_cons.mp nd).1 (List.of_mem_zip hv).1,if_neg hk]
  simp
 | p :: P,w :: vs,i + 1,m,nd,h1,h2,hk=>by
  show bindC kindOf ((p,w) :: P.zip vs) m x=_
  unfold bindC
  exact Zt (i:=i) (List.nodup_cons.mp nd).2 (by simpa using h1) (by simpa using h2) hk
def start (N:List Str) (vs:List V):St:=vs.map some ++ List.replicate (N.length - vs.length) none
def cxOf (CX:CXT) (P:Program) (w:World) (K:PySem.W.Frag) (mg:Str→Option Value) (base:Heap) (N:List Str) (qual:Str) (scope:Scope) (f:Addr) (cd:Value) (A:Around) (outer:List Env) (s:Shared) (H:Hp) (E:XK):Cx where
 prog:=P
 w:=w
 K:=K
 mg:=mg
 base:=base
 A:=A.deeper (envOfC qual scope s.heap.objs.size f cd)
 N:=N
 s₀:=s
 H₀:=H
 env:=envOfC qual scope s.heap.objs.size f cd
 outer:=outer
 stack:=envOfC qual scope s.heap.objs.size f cd :: outer
 ex:=[]
 calm:=true
 fn:=fun _=>true
 pn:=[]
 xe:=fun e s'=>wpAny (model P w) (A.deeper (envOfC qual scope s.heap.objs.size f cd)) (leaving (envOfC qual scope s.heap.objs.size f cd) e) (fun _ s''=>CX outer H s E e s'') (fun e' s''=>CX outer H s E e' s'') s'
theorem QE {sc:Scope} {n:Nat} {x:Str} (h:sc.names.lookup x=some .cell):∃ c,(cellsFrom n sc.names []).lookup x=some c:=by
 have q:=PySem.W.cellsFrom_some sc.names n [] (.inl h)
 exact Option.isSome_iff_exists.mp q
theorem inv_start {CX:CXT} {P:Program} {w:World} {K:PySem.W.Frag} {mg:Str→Option Value} {base:Heap} {N ps:List Str} {qual:Str} {scope:Scope} {f:Addr} {cd:Value} {A:Around} {outer:List Env} {s s1:Shared} {H:Hp} {E:XK} {us:List Value} {vs:List V}
  (S:FnScope N ps scope) (hd:A.handled=none) (e0:Env0 P w K mg base A outer s H) (hl:vs.length=ps.length) (r:Vals vs us)
  (x:InCallC s s.heap.objs.size (bindL (envOfC qual scope s.heap.objs.size f cd).kindOf (ps.zip us) fun _=>none) (cellsFrom (s.heap.objs.size + 1) scope.names []) (bindC (envOfC qual scope s.heap.objs.size f cd).kindOf (ps.zip us) fun _=>none) s1) :
  Inv (cxOf CX P w K mg base N qual scope f cd A outer s H E) [] (start N vs) H s1:=by
 have hpl:ps.length≤N.length:=by have:=congrArg List.length S.pre; rw [List.length_take] at this; omega
 obtain ⟨h1,tk,rfl,hk⟩:=x.done
 have noA:∀ b:Addr,b ∉ (cxOf CX P w K mg base N qual scope f cd A outer s H E).ex:=fun b z=>absurd (show b∈([]:List Addr) from z) (by simp)
 refine ⟨⟨e0.mod,S.kind,rfl,rfl,Nat.le_refl _,fun y z c h1 h2=>?_,fun y hy=>?_,fun y c _ h=>?_,fun _=>hd,Around.frames_deeper e0.frames,.inr ⟨rfl,rfl⟩,fun b z=>absurd z (noA b),e0.bs,e0.bsz,fun b _ _=>noA b,fun b z=>absurd z (noA b),e0.funs,e0.frf⟩,
  rfl,e0.bare,Un.kept hk,⟨_,x.toInCall.ns,fun i y v h1 h2 h3=>?_⟩,fun y c h=>⟨_,x.cell y c h⟩,e0.hok.fresh (Nat.le_refl _),fun y c h=>?_,fun p hp=>absurd (show p∈([]:List (Addr × Obj)) from hp) (by simp),e0.hok.kept hk,?_⟩
 ·exact name_of_addr x.apart (PySem.mem_of_lookup h1) (PySem.mem_of_lookup h2)
 ·have hy:scope.names.lookup y=some .cell∨scope.names.lookup y=some .free:=hy
  rcases hy with hy | hy
  ·exact QE hy
  ·exact absurd rfl (S.nofree _ (PySem.mem_of_lookup hy))
 ·exact Nat.le_of_lt (x.above y c (PySem.mem_of_lookup h))
 ·have hi:i < vs.length:=by
   unfold start at h2
   by_cases hi:i < vs.length
   ·exact hi
   ·rw [List.getElem?_append_right (by simpa using hi)] at h2
    rw [List.getElem?_replicate] at h2
    split at h2 <;> cases h2
  have ha:vs[i]?=some v:=by
   unfold start at h2
   rw [List.getElem?_append_left (by simpa using hi),List.getElem?_map] at h2
   cases e:vs[i]? with
   | none=>rw [e] at h2; cases h2
   | some a=>rw [e] at h2; cases h2; rfl
  obtain ⟨u,hu,rv⟩:=r.get ha
  have hp:ps[i]?=some y:=by
   rw [← S.pre,List.getElem?_take_of_lt (by omega)]; exact h1
  have ndP:ps.Nodup:=by rw [← S.pre]; exact S.nd.sublist (List.take_sublist _ _)
  refine ⟨u,rv,?_⟩
  rcases S.par y (List.mem_of_getElem? hp) with k | k
  ·exact .inl ⟨k,Zr ndP hp hu k⟩
  ·obtain ⟨c,e⟩:=QE (n:=s.heap.objs.size + 1) k
   refine .inr ⟨.inl k,c,e,?_⟩
   have q:=x.cell y c e
   rw [Zt ndP hp hu (by show scope.names.lookup y≠_; rw [k]; decide)] at q
   exact q
 ·exact e0.hok.fresh (Nat.le_of_lt (x.above y c (PySem.mem_of_lookup h)))
 ·unfold start
  show _=N.length
  rw [List.length_append,List.length_map,List.length_replicate]
  omega
theorem JS {CX:CXT} {P:Program} {w:World} {K:PySem.W.Frag} {mg:Str→Option Value} {base:Heap} {k:Nat} {f:Addr} {name qual:Str} {params:Arguments} {body:List Stmt} {scope:Scope} {dV kV doc pm cdv ct oc:Value} {an od:Option Addr}
  {osl:Array (Option Value)} {N ps:List Str} {sp:Sp} (lk:K.lookup f=some ⟨oc,od,.func (PySem.W.fnOf name qual params body scope dV kV doc pm an cdv ct),osl⟩) (hcd:PySem.W.codeIn K cdv qual=true) (S:FnScope N ps scope)
  (len:∀ vs H Q E,sp vs H Q E→vs.length=ps.length)
  (hbody:∀ (A:Around) (outer:List Env) (s:Shared) (H:Hp) (vs:List V) (Q:VK) (E:XK),Room k (A.deeper (envOfC qual scope s.heap.objs.size f cdv))→sp vs H Q E →
   ∃ t,PSs (cxOf CX P w K mg base N qual scope f cdv A outer s H E) body t∧t { nx:=fun _ H'=>Q .non H',rt:=Q } (start N vs) H) :
  FnOk P w K mg base CX (k + 1) f (PySem.W.fnOf name qual params body scope dV kV doc pm an cdv ct) ps sp:=by
 refine ⟨len,fun A outer s H args us vs Q E hr e0 hb r hsp=>?_⟩
 have hl:=len _ _ _ _ hsp
 have KX:K.In s.heap:=e0.mod.kin.keeps fun b o e=>(e0.bs b o e).1
 have lim:s.heap.NoLimit:=e0.mod.nolimit.keeps fun b o e=>(e0.bs b o e).1
 have hkind:∀ y∈ps.zip us,scope.names.lookup y.1=some .local∨(scope.names.lookup y.1=some .cell∧((cellsFrom (s.heap.objs.size + 1) scope.names []).lookup y.1).isSome=true):=fun ⟨n,v⟩ hy=>by
  rcases S.par n (List.of_mem_zip hy).1 with q | q
  ·exact .inl q
  ·exact .inr ⟨q,PySem.W.cellsFrom_some _ _ _ (.inl q)⟩
 refine codeAny_call_function hr.depth (KX _ _ lk) rfl S.co S.gen rfl (PySem.W.codeRec_of KX hcd) (hb _ _ _ _ ?_)
 refine wpAny_newFunctionEnv_cells S.kind hkind fun env he s1 x=>?_
 subst he
 refine ⟨lim.keeps x.toInCall.keep,codeAny_func ?_⟩
 obtain ⟨t,ht,hq⟩:=hbody A outer s H vs Q E (hr.deeper _) hsp
 have I:Inv (cxOf CX P w K mg base N qual scope f cdv A outer s H E) [] (start N vs) H s1:=inv_start S hr.hd e0 hl r x
 refine wpAny_mono (ht [] s1 (start N vs) H _ I hq) (fun fl s' hs=>?_) fun e s' hs=>hs
 have fin:∀ {σ':St} {H':Hp} {v:V} {u:Value},Inv (cxOf CX P w K mg base N qual scope f cdv A outer s H E) [] σ' H' s'→RelV v u→Q v H'→CE outer P w H s Q u s' :=
  fun {σ' H' v u} J rv q=>⟨v,H',J.os,J.bare,J.base,J.hok,rv,q⟩
 cases fl with
 | ret u =>
  obtain ⟨v,σ',H',J,rv,q⟩:=hs
  exact fin J rv q
 | next =>
  obtain ⟨σ',H',J,q⟩:=hs
  exact fin (v:=V.non) (u:=Value.none) J rfl q
 | brk =>
  obtain ⟨_,_,_,q⟩:=hs
  exact False.elim q
 | cont =>
  obtain ⟨_,_,_,q⟩:=hs
  exact False.elim q
end L2
namespace L2
open PySem PySem.Spec PyProof.Rows
section
variable {X:Cx} {x:Str} {p pos:Pos} {e:Expr} {es:List Expr} {t:TA} {id T:String} {r:List V→Hp→VK→Prop}
def tCB (r:List V→Hp→VK→Prop) (t:TA):TE:=fun σ H Q=>t σ H fun vs H1=>r vs H1 Q
theorem pe_callB (hc:CallR X (.builtin id) r) (hg:Gl X x) (hm:X.mg x=none) (hv:bootBuiltins x=some (.builtin id)) (ha:PA X (e :: es) t) (hn:x≠"__name__":=by decide) (hdb:(x == ("__debug__":Str))=false:=by decide)
  (he:starEach (e :: es) X.env=(false,eval e X.env) :: starEach es X.env:=by rfl) (hpl:(backTo pos (starEach es X.env)).any (·.1)=false:=by rfl):PE X (.Call (.Name x p) (e :: es) [] pos) (tCB r t):=by
 intro pins s σ H Q I h
 refine wpAny_Call_Name_kw (jp I hg hm hv ?_ hn hdb)
 exact PyProof.Rows.callWith_builtin1 (thn (ha pos pins s σ H _ I h) fun us s1 ⟨vs,H1,I1,r1,q1⟩=>hc pins s1 σ H1 vs us Q I1 r1 q1) he hpl
theorem pe_callTy (hc:CallR X (.type T) r) (hg:Gl X x) (hm:X.mg x=none) (hv:bootBuiltins x=some (.type T)) (ha:PA X (e :: es) t) (hn:x≠"__name__":=by decide) (hdb:(x == ("__debug__":Str))=false:=by decide)
  (he:starEach (e :: es) X.env=(false,eval e X.env) :: starEach es X.env:=by rfl) (hpl:(backTo pos (starEach es X.env)).any (·.1)=false:=by rfl):PE X (.Call (.Name x p) (e :: es) [] pos) (tCB r t):=by
 intro pins s σ H Q I h
 refine wpAny_Call_Name_kw (jp I hg hm hv ?_ hn hdb)
 exact PyProof.Rows.callWith_type1 (thn (ha pos pins s σ H _ I h) fun us s1 ⟨vs,H1,I1,r1,q1⟩=>hc pins s1 σ H1 vs us Q I1 r1 q1) he hpl
end
end L2
namespace HT
open PySem PyProof.Rows
section
open PySem.SeqAt
open PySem.AutoSeq1 (wpAny_loadPart')
open PySem.MeetsSeq PySem.MeetsSeq2 PySem.MeetsSeq3
end
section
variable {prog:Program} {w:World} {A:Around} {E:Value→Shared→Prop} {s:Shared}
def sIx (n d:Nat):Option Int→Nat
 | none=>d
 | some v=>if v < 0 then (v + (n:Int)).toNat else min v.toNat n
theorem sIx_none (n d:Nat):sIx n d none=d:=rfl
theorem sIx_nat (n d k:Nat):sIx n d (some (k:Int))=min k n:=by
 show (if (k:Int) < 0 then ((k:Int) + (n:Int)).toNat else min (k:Int).toNat n)=min k n
 rw [if_neg (by omega),Int.toNat_natCast]
end
end HT
namespace L2
open PySem PySem.Spec PyProof.Rows
abbrev TO:=St→Hp→(Option Int→Hp→Prop)→Prop
def PO (X:Cx) (e:Option Expr) (t:TO):Prop :=
 ∀ (pins:List (Addr × Obj)) (s:Shared) (σ:St) (H:Hp) (Q:Option Int→Hp→Prop),Inv X pins σ H s→t σ H Q →
  wpAny (model X.prog X.w) X.A (evalPart e X.env) (fun u s'=>∃ o H',Inv X pins σ H' s'∧IsPart u o∧Q o H') X.xe s
def tNoPart:TO:=fun _ H Q=>Q none H
def tPart (t:TE):TO:=fun σ H Q=>t σ H fun x H1=>∃ i,x=.int i∧Q (some i) H1
theorem intsAre_of {ns:List Int}:∀ {us:List Value},Vals (ns.map V.int) us→IntsAre us ns:=by
 induction ns with
 | nil=>intro us r; rw [List.map_nil] at r; cases r; exact .nil
 | cons n ns ih =>
  intro us r
  rw [List.map_cons] at r
  cases r with
  | cons r1 r2 =>
   obtain ⟨t,e⟩:=r1
   subst e
   exact .cons n t (ih r2)
section
variable {X:Cx} {e:Expr} {te:TE} {lo hi:Option Expr} {tl th:TO} {pos p2:Pos}
theorem xQ:PO X none tNoPart:=by
 intro pins s σ H Q I h
 rw [evalPart_none]
 exact wpAny_pure ⟨none,H,I,.none,h⟩
theorem jC (h:PE X e te):PO X (some e) (tPart te):=by
 intro pins s σ H Q I hw
 rw [evalPart_some]
 refine thn (h pins s σ H _ I hw) fun u s1 ⟨x,H1,I1,r1,q1⟩=>?_
 obtain ⟨i,rfl,q⟩:=q1
 obtain ⟨t,rfl⟩:=r1
 exact ⟨some i,H1,I1,.int i t,q⟩
def SlR (X:Cx) (r:V→Option Int→Option Int→Hp→VK→Prop):Prop :=
 ∀ (pins:List (Addr × Obj)) (s:Shared) (σ:St) (H:Hp) (x:V) (v vl vu:Value) (lo hi:Option Int) (sl:Addr) (Q:VK),Inv X pins σ H s→RelV x v→s.heap.IsSliceOf sl vl vu .none→IsPart vl lo→IsPart vu hi→r x lo hi H Q →
  ∃ T id,typeLookup (.type T) "__getitem__"=pure (some (.builtin id))∧s.TypeIs v T∧wpAny (model X.prog X.w) X.A (getItem v (.ref sl)) (EP X pins σ Q) X.xe s
theorem SlR.or {r r':V→Option Int→Option Int→Hp→VK→Prop} (h:SlR X r) (h':SlR X r'):SlR X (fun x lo hi H Q=>r x lo hi H Q∨r' x lo hi H Q):=by
 intro pins s σ H x v vl vu lo hi sl Q I rx hs pl pu q
 rcases q with q | q
 ·exact h pins s σ H x v vl vu lo hi sl Q I rx hs pl pu q
 ·exact h' pins s σ H x v vl vu lo hi sl Q I rx hs pl pu q
def tSl (r:V→Option Int→Option Int→Hp→VK→Prop) (te:TE) (tl th:TO):TE:=fun σ H Q=>te σ H fun x H1=>tl σ H1 fun l H2=>th σ H2 fun u H3=>r x l u H3 Q
theorem jt {r:V→Option Int→Option Int→Hp→VK→Prop} (hr:SlR X r) (he:PE X e te) (hl:PO X lo tl) (hu:PO X hi th):PE X (.Subscript e (.Slice lo hi none p2) pos) (tSl r te tl th):=by
 intro pins s σ H Q I h
 refine Subscript_ (thn (he pins s σ H _ I h) fun v s1 ⟨x,H1,I1,r1,q1⟩=>?_)
 refine wpAny_Slice (thn (hl pins s1 σ H1 _ I1 q1) fun vl s2 ⟨l,H2,I2,pl,q2⟩=>thn (hu pins s2 σ H2 _ I2 q2) fun vu s3 ⟨u,H3,I3,pu,q3⟩=>?_)
 rw [evalPart_none]
 refine wpAny_pure ?_
 have I4:Inv X pins σ H3 { s3 with heap:=s3.heap.push { cls:=.type "slice",data:=.fields #[vl,vu,.none] } }:=I3.kept (t':=s3.toks) fun b ob q=>Heap.get?_push_of_some _ q
 obtain ⟨T,id,hT,ht,hg⟩:=hr pins { s3 with heap:=s3.heap.push { cls:=.type "slice",data:=.fields #[vl,vu,.none] } } σ H3 x v vl vu l u s3.heap.objs.size Q I4 r1 (Heap.IsSliceOf.new ..) pl pu q3
 show wpAny (model X.prog X.w) X.A (subscriptTail e (.Slice lo hi none p2) v (.ref s3.heap.objs.size)) (EP X pins σ Q) X.xe { s3 with heap:=s3.heap.push { cls:=.type "slice",data:=.fields #[vl,vu,.none] } }
 exact tail_any (ops:=[.ref s3.heap.objs.size,v]) ht hT hg (by with_unfolding_all rfl)
def cutV (xs:List V) (lo hi:Option Int):List V:=(xs.drop (HT.sIx xs.length 0 lo)).take (HT.sIx xs.length xs.length hi - HT.sIx xs.length 0 lo)
theorem cutV_length (xs:List V) (lo hi:Option Int):(cutV xs lo hi).length≤xs.length:=by
 unfold cutV
 rw [List.length_take,List.length_drop]
 omega
end
end L2
namespace L2
open PySem PySem.Spec PyProof.Rows
def ixN (n:Nat) (i:Int):Option Nat:=if 0≤i then (if i < n then some i.toNat else none) else if -(n:Int)≤i then some (i + n).toNat else none
def atI {α:Type} (xs:List α) (i:Int):Option α:=(ixN xs.length i).bind fun j=>xs[j]?
theorem Jb {n:Nat} {i:Int} {j:Nat} (h:ixN n i=some j):seqIndex? i n=some j∧j < n∧-(n:Int)≤i∧i < n:=by
 unfold ixN at h
 by_cases h0:0≤i
 ·rw [if_pos h0] at h
  by_cases h1:i < n
  ·rw [if_pos h1] at h
   have e:i.toNat=j:=Option.some.inj h
   exact ⟨by rw [seqIndex_of h0 h1,e],by omega,by omega,h1⟩
  ·rw [if_neg h1] at h; cases h
 ·rw [if_neg h0] at h
  by_cases h1:-(n:Int)≤i
  ·rw [if_pos h1] at h
   have e:(i + n).toNat=j:=Option.some.inj h
   exact ⟨by rw [seqIndex_neg (by omega) h1,e],by omega,h1,by omega⟩
  ·rw [if_neg h1] at h; cases h
theorem wP {α:Type} {xs:List α} {i:Int} {v:α} (h:atI xs i=some v):∃ j,seqIndex? i xs.length=some j∧xs[j]?=some v∧j < xs.length∧-(xs.length:Int)≤i∧i < xs.length:=by
 unfold atI at h
 cases e:ixN xs.length i with
 | none=>rw [e] at h; cases h
 | some j =>
  rw [e] at h
  obtain ⟨h1,h2,h3,h4⟩:=Jb e
  exact ⟨j,h1,h,h2,h3,h4⟩
theorem zC {α:Type} {xs:List α} {j:Nat} {v:α} (h:xs[j]?=some v):atI xs (j:Int)=some v:=by
 have hj:j < xs.length:=(List.getElem?_eq_some_iff.mp h).1
 have e:ixN xs.length (j:Int)=some j:=by
  unfold ixN
  rw [if_pos (by omega),if_pos (by omega)]; simp
 unfold atI; rw [e]; exact h
def Jy (b:Expr):Prop:=∀ o i,subscripted b false o i=operate [o,i] (getItem o i)
def IxR (X:Cx) (r:R2):Prop :=
 ∀ (value slice:Expr) (pins:List (Addr × Obj)) (s:Shared) (σ:St) (H:Hp) (x y:V) (v u:Value) (Q:VK),Inv X pins σ H s→RelV x v→RelV y u→r x y H Q →
  subscripted slice false v u=operate [v,u] (getItem v u)→wpAny (model X.prog X.w) X.A (subscriptTail value slice v u) (EP X pins σ Q) X.xe s
def MtR (X:Cx) (id:String) (r:V→List V→Hp→VK→Prop):Prop :=
 ∀ (pins:List (Addr × Obj)) (s:Shared) (σ:St) (H:Hp) (x:V) (xs:List V) (v:Value) (us:List Value) (Q:VK),Inv X pins σ H s→RelV x v→Vals xs us→r x xs H Q →
  wpAny (model X.prog X.w) X.A (call (.builtin id) (v :: us)) (EP X pins σ Q) X.xe s
section
variable {X:Cx} {a b:Expr} {ta tb:TE} {pos:Pos}
theorem IxR.or {r r':R2} (h:IxR X r) (h':IxR X r'):IxR X (fun x y H Q=>r x y H Q∨r' x y H Q):=by
 intro value slice pins s σ H x y v u Q I rx ry q hs
 rcases q with q | q
 ·exact h value slice pins s σ H x y v u Q I rx ry q hs
 ·exact h' value slice pins s σ H x y v u Q I rx ry q hs
theorem MtR.or {id:String} {r r':V→List V→Hp→VK→Prop} (h:MtR X id r) (h':MtR X id r'):MtR X id (fun x xs H Q=>r x xs H Q∨r' x xs H Q):=by
 intro pins s σ H x xs v us Q I rx rs q
 rcases q with q | q
 ·exact h pins s σ H x xs v us Q I rx rs q
 ·exact h' pins s σ H x xs v us Q I rx rs q
theorem pe_ix {r:R2} (hr:IxR X r) (ha:PE X a ta) (hb:PE X b tb) (hs:Jy b):PE X (.Subscript a b pos) (tOp r ta tb):=by
 intro pins s σ H Q I h
 exact Subscript_ (binT ha hb I h fun v u s2 x y H2 I2 rx ry q=>hr a b pins s2 σ H2 x y v u Q I2 rx ry q (hs _ _))
def rIxL (K:PySem.W.Frag):R2:=fun x y H Q=>∃ p xs i v,x=.ref p∧y=.int i∧SqL K H p xs∧atI xs i=some v∧Q v H
def rIxT (K:PySem.W.Frag):R2:=fun x y H Q=>∃ p xs i v,x=.ref p∧y=.int i∧SqT K H p xs∧atI xs i=some v∧Q v H
def rIxS:R2:=fun x y H Q=>∃ z i c,x=.str z∧y=.int i∧z.length≤sizeLine∧atI z.cps.toList i=some c∧Q (.str ⟨#[c]⟩) H
theorem ix_list:IxR X (rIxL X.K):=by
 intro value slice pins s σ H x y v u Q I rx ry h hs
 obtain ⟨p,xs,i,z,rfl,rfl,hq,he,q⟩:=h
 cases rx
 obtain ⟨t,rfl⟩:=ry
 obtain ⟨its,r,pl,hz⟩:=I.list hq
 obtain ⟨j,h1,h2,h3,h4,h5⟩:=wP he
 obtain ⟨w,ew,rw'⟩:=r.get h2
 have hl:=r.length
 have hn:=xz
 have fin:EP X pins σ Q w s:=⟨z,H,I,rw',q⟩
 by_cases h0:0≤i
 ·have hj:i.toNat=j:=by
   rw [seqIndex_of h0 h5] at h1
   exact Option.some.inj h1
  exact item_listR pl.isList h0 (by omega) (by rw [hj]; simpa using ew) fin hs
 ·have hj:(i + (its.toArray.size:Int)).toNat=j:=by
   rw [seqIndex_neg (by omega) h4] at h1
   rw [List.size_toArray,← hl]
   exact Option.some.inj h1
  exact subscriptTail_builtinR (x:=w) pl.isList.typeIs slot_list_getitem.lookup
   (wpAny_getItem_list_neg (Q:=fun r s'=>r=w∧EP X pins σ Q r s') pl.isList (by omega) (by rw [List.size_toArray] <;> omega) (by omega) (by rw [hj]; simpa using ew) ⟨rfl,fin⟩) hs
theorem ix_tup:IxR X (rIxT X.K):=by
 intro value slice pins s σ H x y v u Q I rx ry h hs
 obtain ⟨p,xs,i,z,rfl,rfl,hq,he,q⟩:=h
 cases rx
 obtain ⟨t,rfl⟩:=ry
 obtain ⟨its,r,pl,hz⟩:=I.tuple hq
 obtain ⟨j,h1,h2,h3,h4,h5⟩:=wP he
 obtain ⟨w,ew,rw'⟩:=r.get h2
 have hl:=r.length
 have hn:=xz
 have fin:EP X pins σ Q w s:=⟨z,H,I,rw',q⟩
 exact subscriptTail_builtinR (x:=w) pl.typeIs slot_tuple_getitem.lookup
  (getItem_tuple (j:=j) (Q:=fun r s'=>r=w∧EP X pins σ Q r s') pl (by omega) (by omega) (by rw [List.size_toArray,← hl]; exact h1) (by simpa using ew) ⟨rfl,fin⟩) hs
theorem ix_str:IxR X rIxS:=by
 intro value slice pins s σ H x y v u Q I rx ry h hs
 obtain ⟨z,i,c,rfl,rfl,hz,he,q⟩:=h
 obtain ⟨t,rfl⟩:=rx
 obtain ⟨t',rfl⟩:=ry
 obtain ⟨j,h1,h2,h3,h4,h5⟩:=wP he
 have hl:z.cps.toList.length=z.length:=by simp [Str.length]
 rw [hl] at h1 h4 h5
 have hn:=xz
 exact tail_any (typeIs_str s z t) slot_str_getitem.lookup (getItem_str (c:=c) (by
  have e1:decide (i < -(2 ^ 63:Int))=false:=decide_eq_false (by omega)
  have e2:decide (i ≥ 2 ^ 63)=false:=decide_eq_false (by omega)
  rw [e1,e2,Bool.or_false]) (by rw [h1]; simpa using h2) ⟨.str ⟨#[c]⟩,H,I.tok _,⟨_,rfl⟩,q⟩) hs
def rIx (K:PySem.W.Frag):R2:=fun x y H Q=>rIxL K x y H Q∨rIxT K x y H Q∨rIxS x y H Q
theorem ix_seq:IxR X (rIx X.K):=ix_list.or (ix_tup.or ix_str)
theorem mapSeq_set (its:List Value) (n j:Nat) (u:Value):Obj.mapSeq (·.setIfInBounds j u) { cls:=.type "list",data:=.seq its.toArray n }={ cls:=.type "list",data:=.seq (its.set j u).toArray n }:=by
 simp [Obj.mapSeq]
theorem Inv.lst {pins:List (Addr × Obj)} {σ:St} {H:Hp} {s:Shared} {p:Addr} {xs:List V} (I:Inv X pins σ H s) (h:H p=some (.lst xs)) :
  ∃ (its:List Value) (n:Nat),Vals xs its∧s.heap.get? p=some { cls:=.type "list",data:=.seq its.toArray n }∧xs.length≤sizeLine:=by
 obtain ⟨z,its,n,r,e⟩:=I.hok p _ h
 exact ⟨its,n,r,e,z⟩
theorem Inv.lstUpd {pins:List (Addr × Obj)} {σ:St} {H:Hp} {s:Shared} {p:Addr} {xs ys:List V} {its its':List Value} {n n':Nat} {f:Obj→Obj} (I:Inv X pins σ H s) (h:H p=some (.lst xs))
  (ho:s.heap.get? p=some { cls:=.type "list",data:=.seq its.toArray n }) (hf:f { cls:=.type "list",data:=.seq its.toArray n }={ cls:=.type "list",data:=.seq its'.toArray n' }) (r:Vals ys its') (hz:ys.length≤sizeLine) (t:Nat) :
  Inv X pins σ (upd H p (.lst ys)) { s with heap:=s.heap.update p f,toks:=t }:=by
 have e:(s.heap.update p f).get? p=some { cls:=.type "list",data:=.seq its'.toArray n' }:=by
  rw [Heap.get?_update_self f ho (by rw [hf] <;> rfl),hf]
 refine I.write (x:=p) (e:=p) (by rw [h]; trivial) (.inl rfl) (fun b u hb q=>(Heap.get?_update_other _ _ (Ne.symm hb)).trans q) ⟨_,e⟩ ?_
 exact ⟨hz,its',n',r,e⟩
def J7:V→V→V→Hp→(Hp→Prop)→Prop:=fun o i v H Q=>∃ p xs k j,o=.ref p∧i=.int k∧H p=some (.lst xs)∧ixN xs.length k=some j∧Q (upd H p (.lst (xs.set j v)))
theorem jq:PSet X J7:=by
 intro pins s σ H o i v ov iv u Q I ro ri rv h
 obtain ⟨p,xs,k,j,rfl,rfl,hp,hj,q⟩:=h
 cases ro
 obtain ⟨t,rfl⟩:=ri
 obtain ⟨its,n,r,ho,hz⟩:=I.lst hp
 obtain ⟨h1,h2,h3,h4⟩:=Jb hj
 have hl:=r.length
 have hn:=xz
 have I':Inv X pins σ (upd H p (.lst (xs.set j v))) { s with heap:=s.heap.update p (Obj.mapSeq (·.setIfInBounds j u)) } :=
  I.lstUpd hp ho (mapSeq_set its n j u) (r.set rv j) (by rw [List.length_set]; exact hz) s.toks
 by_cases h0:0≤k
 ·have hk:k.toNat=j:=by
   rw [seqIndex_of h0 h4] at h1
   exact Option.some.inj h1
  exact PySem.W.ki_setAt ho h0 (by omega) (by rw [List.size_toArray,← hl]; exact h4) (by rw [hk]; exact ⟨_,I',q⟩)
 ·have hk:(k + (its.toArray.size:Int)).toNat=j:=by
   rw [seqIndex_neg (by omega) h3] at h1
   rw [List.size_toArray,← hl]
   exact Option.some.inj h1
  exact PySem.W.ki_setBack ho (by omega) (by rw [List.size_toArray,← hl]; exact h3) (by omega) (by rw [hk]; exact ⟨_,I',q⟩)
theorem slice_bounds (lo hi:Option Int) (n:Nat):(sliceBounds lo hi none n).1=((HT.sIx n 0 lo:Nat):Int)∧(sliceBounds lo hi none n).2.1=((HT.sIx n n hi:Nat):Int)∧(sliceBounds lo hi none n).2.2=1:=by
 refine ⟨?_,?_,rfl⟩
 ·cases lo with
  | none=>simp [sliceBounds,HT.sIx]
  | some i =>
   simp only [sliceBounds,HT.sIx,Option.getD_none,show (1:Int) > 0 by decide,if_true]
   by_cases h:i < 0
   ·simp only [h,if_true] <;> omega
   ·simp only [h,if_false] <;> omega
 ·cases hi with
  | none=>simp [sliceBounds,HT.sIx]
  | some i =>
   simp only [sliceBounds,HT.sIx,Option.getD_none,show (1:Int) > 0 by decide,if_true]
   by_cases h:i < 0
   ·simp only [h,if_true] <;> omega
   ·simp only [h,if_false] <;> omega
theorem slicePick_cut (its:List Value) (lo hi:Option Int):slicePick its.toArray lo hi none=((its.drop (HT.sIx its.length 0 lo)).take (HT.sIx its.length its.length hi - HT.sIx its.length 0 lo)).toArray:=by
 obtain ⟨h1,h2,h3⟩:=slice_bounds lo hi its.toArray.size
 unfold slicePick
 rw [h1,h2,h3]
 simp only [sliceRange_one,pick_run,List.size_toArray] <;> rfl
def rSlL (K:PySem.W.Frag):V→Option Int→Option Int→Hp→VK→Prop:=fun x lo hi H Q=>∃ a xs,x=.ref a∧SqL K H a xs∧∀ p,H p=none→Q (.ref p) (upd H p (.lst (cutV xs lo hi)))
theorem sl_list:SlR X (rSlL X.K):=by
 intro pins s σ H x v vl vu lo hi sl Q I rx hs pl pu h
 obtain ⟨a,xs,rfl,hx,q⟩:=h
 cases rx
 obtain ⟨its,r,ht,hz⟩:=I.list hx
 have hlen:=r.length
 refine ⟨"list",_,slot_list_getitem.lookup,ht.isList.typeIs,?_⟩
 refine wpAny_getItem_list_slice ht.isList hs pl pu .none (by simp) ?_ (by rw [List.size_toArray] <;> omega)
 rw [slicePick_cut,← hlen]
 refine ⟨.ref s.heap.objs.size,_,I.laid (t':=s.toks) (o:=.lst (cutV xs lo hi)) (fun b ob q=>Heap.get?_push_of_some _ q) (Nat.le_refl _) ?_,rfl,q _ (I.hok.fresh (Nat.le_refl _))⟩
 exact ⟨Nat.le_trans (cutV_length xs lo hi) hz,_,0,(r.drop (HT.sIx xs.length 0 lo)).take (HT.sIx xs.length xs.length hi - HT.sIx xs.length 0 lo),Heap.get?_push_size _ rfl⟩
def ju:V→Bool
 | .non=>true
 | .bl _=>true
 | .int _=>true
 | .str _=>true
 | _=>false
def eqV:V→V→Bool
 | .non,.non=>true
 | .bl a,.bl b=>a == b
 | .bl a,.int b=>(if a then 1 else 0) == b
 | .int a,.bl b=>a == (if b then 1 else 0)
 | .int a,.int b=>a == b
 | .str a,.str b=>a == b
 | _,_=>false
theorem vF {A:Around} {s:Shared} {y x:V} {u v:Value} (ry:RelV y u) (rx:RelV x v) (fy:ju y=true) (fx:ju x=true):SeqAt.EqAt A s u v (eqV y x):=by
 cases y with
 | non =>
  cases ry
  cases x with
  | non=>cases rx; exact SeqAt.EqAt.same _
  | bl b=>cases rx; exact SeqAt.EqAt.none_bool b
  | int b=>obtain ⟨t,rfl⟩:=rx; exact SeqAt.EqAt.none_int b t
  | str b=>obtain ⟨t,rfl⟩:=rx; exact SeqAt.EqAt.none_str b t
  | _=>exact absurd (show false=true from fx) Bool.false_ne_true
 | bl a =>
  cases ry
  cases x with
  | non=>cases rx; exact SeqAt.EqAt.bool_none a
  | bl b=>cases rx; exact SeqAt.EqAt.bool_bool a b
  | int b=>obtain ⟨t,rfl⟩:=rx; exact SeqAt.EqAt.bool_int a b t
  | str b=>obtain ⟨t,rfl⟩:=rx; exact SeqAt.EqAt.bool_str a b t
  | _=>exact absurd (show false=true from fx) Bool.false_ne_true
 | int a =>
  obtain ⟨t',rfl⟩:=ry
  cases x with
  | non=>cases rx; exact SeqAt.EqAt.int_none a t'
  | bl b=>cases rx; exact SeqAt.EqAt.int_bool a t' b
  | int b=>obtain ⟨t,rfl⟩:=rx; exact SeqAt.EqAt.int_int a t' b t
  | str b=>obtain ⟨t,rfl⟩:=rx; exact SeqAt.EqAt.int_str a t' b t
  | _=>exact absurd (show false=true from fx) Bool.false_ne_true
 | str a =>
  obtain ⟨t',rfl⟩:=ry
  cases x with
  | non=>cases rx; exact SeqAt.EqAt.str_none a t'
  | bl b=>cases rx; exact SeqAt.EqAt.str_bool a t' b
  | int b=>obtain ⟨t,rfl⟩:=rx; exact SeqAt.EqAt.str_int a t' b t
  | str b=>obtain ⟨t,rfl⟩:=rx; exact SeqAt.EqAt.str_str a t' b t
  | _=>exact absurd (show false=true from fx) Bool.false_ne_true
 | _=>exact absurd (show false=true from fy) Bool.false_ne_true
theorem CallR.or {f:Value} {r r':List V→Hp→VK→Prop} (h:CallR X f r) (h':CallR X f r'):CallR X f (fun xs H Q=>r xs H Q∨r' xs H Q):=by
 intro pins s σ H xs us Q I rs q
 rcases q with q | q
 ·exact h pins s σ H xs us Q I rs q
 ·exact h' pins s σ H xs us Q I rs q
theorem call_list_of:CallR X (.type "list") (fun xs H Q=>∃ p ys,xs=[.ref p]∧(SqL X.K H p ys∨SqT X.K H p ys)∧∀ l,H l=none→Q (.ref l) (upd H l (.lst ys))):=by
 intro pins s σ H xs us Q I r h
 obtain ⟨p,ys,rfl,hq,q⟩:=h
 obtain ⟨u,rfl,rx⟩:=vR r
 cases rx
 have fin:∀ (its:List Value),Vals ys its→ys.length≤sizeLine→∀ (h':Heap) (c':Nat),(∀ b o',s.heap.get? b=some o'→h'.get? b=some o') →
   h'.get? s.heap.objs.size=some { cls:=.type "list",dict:=none,data:=.seq its.toArray c',slots:=#[] }→EP X pins σ Q (.ref s.heap.objs.size) { s with heap:=h' }:=fun its r' hz h' c' kp e =>
  ⟨.ref s.heap.objs.size,_,I.laid (t':=s.toks) kp (Nat.le_refl _) (show ObjOk X.prog X.w _ h' _ (.lst ys) from ⟨hz,its,c',r',e⟩),rfl,q _ (I.hok.fresh (Nat.le_refl _))⟩
 rcases hq with hq | hq
 ·obtain ⟨its,r',pl,hz⟩:=I.list hq
  have hlen:=r'.length
  obtain ⟨o,ho,hc,n,hd⟩:=pl.isList
  exact call_list_seq p (.inl rfl) ho hc hd (fun h' c' kp e=>fin its r' hz h' c' kp e) (by simp only [List.size_toArray] <;> omega)
 ·obtain ⟨its,r',pl,hz⟩:=I.tuple hq
  have hlen:=r'.length
  obtain ⟨o,ho,hc,n,hd⟩:=pl
  exact call_list_seq p (.inr rfl) ho hc hd (fun h' c' kp e=>fin its r' hz h' c' kp e) (by simp only [List.size_toArray] <;> omega)
def tyV (K:PySem.W.Frag) (T:String) (x:V) (H:Hp):Prop:=match x with
 | .str _=>T="str"
 | .int _=>T="int"
 | .ref p=>(T="list"∧∃ xs,SqL K H p xs)∨(T="tuple"∧∃ o,K.lookup p=some o∧o.cls=.type "tuple"∧o.dict=none) ∨
   (T="dict"∧((∃ kvs,H p=some (.dK kvs))∨∃ kvs,H p=some (.dT kvs)))∨(T="set"∧∃ S n,H p=some (.set S n))
 | _=>False
theorem tyV_is {pins:List (Addr × Obj)} {σ:St} {H:Hp} {s:Shared} {T:String} {x:V} {v:Value} (I:Inv X pins σ H s) (r:RelV x v) (ty:tyV X.K T x H) :
  s.TypeIs v T∧∀ a,v=.ref a→∃ ob,s.heap.get? a=some ob∧ob.dict=none:=by
 cases x with
 | str z =>
  obtain ⟨t,rfl⟩:=r
  cases (show T="str" from ty)
  exact ⟨typeIs_str s z t,fun _ e=>nomatch e⟩
 | int i =>
  obtain ⟨t,rfl⟩:=r
  cases (show T="int" from ty)
  exact ⟨typeIs_int s i t,fun _ e=>nomatch e⟩
 | ref p =>
  cases r
  rcases ty with ⟨rfl,xs,hq⟩ | ⟨rfl,o,hk,hc,hd⟩ | ⟨rfl,hk⟩ | ⟨rfl,S,n,hk⟩
  ·obtain ⟨its,_,pl,_⟩:=I.list hq
   refine ⟨pl.isList.typeIs,fun a e=>?_⟩
   cases e
   obtain ⟨o,n,e,c,hd,_⟩:=pl
   exact ⟨o,e,hd⟩
  ·refine ⟨⟨o,I.kIn p o hk,hc⟩,fun a e=>?_⟩
   cases e
   exact ⟨o,I.kIn _ o hk,hd⟩
  ·have z:∃ o,s.heap.get? p=some o∧o.ExactDict:=by
    rcases hk with ⟨kvs,hk⟩ | ⟨kvs,hk⟩
    ·obtain ⟨_,_,_,_,o,_,_,e,ex,_⟩:=I.hok p _ hk
     exact ⟨o,e,ex⟩
    ·obtain ⟨_,_,_,_,o,_,_,e,ex,_⟩:=I.hok p _ hk
     exact ⟨o,e,ex⟩
   obtain ⟨o,e,ex⟩:=z
   refine ⟨⟨o,e,ex.1⟩,fun a e2=>?_⟩
   cases e2
   exact ⟨o,e,ex.2.1⟩
  ·obtain ⟨o,_,_,_,e,ex,_⟩:=I.hok p _ hk
   refine ⟨⟨o,e,ex.1⟩,fun a e2=>?_⟩
   cases e2
   exact ⟨o,e,ex.2.1⟩
 | _=>exact False.elim ty
def tBM0 (K:PySem.W.Frag) (T:String) (r:V→List V→Hp→VK→Prop) (to:TE):TE:=fun σ H Q=>to σ H fun x H1=>tyV K T x H1∧r x [] H1 Q
def tBM (K:PySem.W.Frag) (T:String) (r:V→List V→Hp→VK→Prop) (to:TE) (t:TA):TE:=fun σ H Q=>to σ H fun x H1=>tyV K T x H1∧t σ H1 fun xs H2=>r x xs H2 Q
variable {o e:Expr} {es:List Expr} {to:TE} {t:TA} {name:Str} {apos cpos:Pos} {T id:String} {r:V→List V→Hp→VK→Prop}
theorem qq (pa:PlainAttrs T) (slot:Slot T name id) (hty:typeOf (.builtin id)=pure (.type "method_descriptor")) (hm:MtR X id r) (ho:PE X o to) (ha:PA X (e :: es) t)
  (hbase:attributeBase o name X.env (eval o X.env)=eval o X.env:=by rfl)
  (hfew:((backTo cpos (starEach (e :: es) X.env)).all (fun x=>!x.1) && (backToKw cpos (keywordEach [] X.env)).all (fun x=>x.1.isSome)
   && decide ((e :: es).length + ([]:List Keyword).length + (if ([]:List Keyword).isEmpty then 0 else 1) < 30))=true:=by rfl)
  (hline:(apos.endLine == cpos.line)=true:=by rfl) (hs:starEach (e :: es) X.env=(false,eval e X.env) :: starEach es X.env:=by rfl) (hplain:(backTo cpos (starEach es X.env)).any (·.1)=false:=by rfl) :
  PE X (.Call (.Attribute o name apos) (e :: es) [] cpos) (tBM X.K T r to t):=by
 intro pins s σ H Q I h
 refine wpAny_Call_method_late hbase hfew hline rfl (thn (ho pins s σ H _ I h) fun v s1 ⟨x,H1,I1,r1,ty,q1⟩=>?_)
 obtain ⟨h1,h2⟩:=tyV_is I1 r1 ty
 refine ⟨T,id,pa,slot,hty,h1,h2,?_⟩
 have hA:=ha cpos pins s1 σ H1 _ I1 q1
 rw [hs] at hA ⊢
 refine Calls.callWith_builtin (by show (false || (backTo cpos (starEach es X.env)).any (·.1))=false; rw [hplain] <;> rfl) (Calls.evalArgs_plain ?_)
 exact thn hA fun us s2 ⟨vs,H2,I2,r2,q2⟩=>hm pins s2 σ H2 x vs v us Q I2 r1 r2 q2
end
end L2
namespace L2
open PySem PySem.Spec PyProof.Rows
def MtM (X:Cx) (id:String) (r:V→List V→Hp→VK→Prop):Prop :=
 ∀ (pins:List (Addr × Obj)) (s:Shared) (σ:St) (H:Hp) (x:V) (xs:List V) (v:Value) (us:List Value) (Q:VK),Inv X pins σ H s→RelV x v→Vals xs us→r x xs H Q →
  wpAny (model X.prog X.w) X.A (call (.builtin id) (v :: us)) (EP X pins σ Q) X.xe s
theorem Vals.one:∀ {x:V} {us:List Value},Vals [x] us→∃ u,us=[u]∧RelV x u
 | _,_,.cons r .nil=>⟨_,rfl,r⟩
theorem Vals.two:∀ {x y:V} {us:List Value},Vals [x,y] us→∃ u v,us=[u,v]∧RelV x u∧RelV y v
 | _,_,_,.cons r (.cons q .nil)=>⟨_,_,rfl,r,q⟩
theorem Vals.zero:∀ {us:List Value},Vals [] us→us=[]
 | _,.nil=>rfl
theorem Vals.dropLast {xs:List V} {us:List Value} (h:Vals xs us):Vals xs.dropLast us.dropLast:=by
 induction h with
 | nil=>exact .nil
 | cons r t ih =>
  cases t with
  | nil=>exact .nil
  | cons q t'=>exact .cons r ih
theorem Vals.eraseIdx:∀ {xs:List V} {us:List Value} (i:Nat),Vals xs us→Vals (xs.eraseIdx i) (us.eraseIdx i)
 | _,_,_,.nil=>.nil
 | _,_,0,.cons _ t=>t
 | _,_,i + 1,.cons r t=>.cons r (Vals.eraseIdx i t)
theorem Vals.reverse {xs:List V} {us:List Value} (h:Vals xs us):Vals xs.reverse us.reverse:=by
 induction h with
 | nil=>exact .nil
 | cons r t ih=>rw [List.reverse_cons,List.reverse_cons]; exact Vals.append ih (.cons r .nil)
theorem Vals.rep {xs:List V} {us:List Value} (h:Vals xs us):∀ k:Nat,Vals (List.replicate k xs).flatten (List.replicate k us).flatten
 | 0=>.nil
 | k + 1=>by
  rw [List.replicate_succ,List.replicate_succ,List.flatten_cons,List.flatten_cons]
  exact Vals.append h (Vals.rep h k)
theorem Ze {α:Type}:∀ (l:List α) (i:Nat),(l.eraseIdx i).length≤l.length
 | [],_=>Nat.le_refl _
 | _ :: _,0=>Nat.le_succ _
 | _ :: r,i + 1=>Nat.succ_le_succ (Ze r i)
theorem Zm (its:List Value):∀ (k:Nat) (acc:List Value),
  List.foldl (fun x1 x2=>x1 ++ x2) acc.toArray (List.replicate k its.toArray)=(acc ++ (List.replicate k its).flatten).toArray
 | 0,acc=>by simp
 | k + 1,acc=>by
  have e:acc.toArray ++ its.toArray=(acc ++ its).toArray:=by simp
  have e2:(acc ++ its) ++ (List.replicate k its).flatten=acc ++ (List.replicate (k + 1) its).flatten:=by
   rw [List.replicate_succ,List.flatten_cons,List.append_assoc]
  rw [← e2,← Zm its k (acc ++ its),← e,List.replicate_succ,List.foldl_cons]
section
variable {X:Cx} {pins:List (Addr × Obj)} {σ:St} {H:Hp} {s:Shared} {l b:Addr} {xs ys zs:List V}
theorem Inv.lset {its its':List Value} {n:Nat} {f:Array Value→Array Value} {t':Nat} (I:Inv X pins σ H s) (hH:H l=some (.lst xs))
  (e:s.heap.get? l=some { cls:=.type "list",data:=.seq its.toArray n }) (hf:f its.toArray=its'.toArray) (hv:Vals ys its') (hz:ys.length≤sizeLine) :
  Inv X pins σ (upd H l (.lst ys)) { s with heap:=s.heap.update l (Obj.mapSeq f),toks:=t' }:=by
 have q:=PySem.IsL.update e f
 rw [hf] at q
 refine I.write (x:=l) (e:=l) (by rw [hH]; exact trivial) (.inl rfl) (fun b' u hb hu=>(Heap.get?_update_other s.heap (Obj.mapSeq f) (Ne.symm hb)).trans hu) ⟨_,q⟩ ?_
 exact ⟨hz,its',_,hv,q⟩
theorem Inv.lnew {its:List Value} {t':Nat} (I:Inv X pins σ H s) (hv:Vals ys its) (hz:ys.length≤sizeLine) :
  Inv X pins σ (upd H s.heap.objs.size (.lst ys)) { s with heap:=s.heap.push { cls:=.type "list",data:=.seq its.toArray },toks:=t' } :=
 I.laid (fun _ _ q=>Heap.get?_push_of_some _ q) (Nat.le_refl _) ⟨hz,its,0,hv,Heap.get?_push_size _ rfl⟩
theorem Inv.fresh (I:Inv X pins σ H s):H s.heap.objs.size=none:=I.hok.fresh (Nat.le_refl _)
theorem Inv.lstM (I:Inv X pins σ H s) (hH:H l=some (.lst xs)):xs.length≤sizeLine∧∃ (its:List Value) (n:Nat),Vals xs its∧xs.length=its.length∧s.heap.get? l=some { cls:=.type "list",data:=.seq its.toArray n }:=by
 obtain ⟨z,its,n,r,e⟩:=I.hok l _ hH
 exact ⟨z,its,n,r,r.length,e⟩
theorem Qk {n:Nat} (h:n≤sizeLine):Builtin.List.listTooLong n=false:=by
 unfold Builtin.List.listTooLong
 exact decide_eq_false (by omega)
end
section
variable {X:Cx}
def rAppend:V→List V→Hp→VK→Prop:=fun x vs H Q=>∃ l xs y,x=.ref l∧vs=[y]∧H l=some (.lst xs)∧xs.length < sizeLine∧Q .non (upd H l (.lst (xs ++ [y])))
theorem zQ:MtM X "list.append" rAppend:=by
 intro pins s σ H x vs v us Q I rx rv h
 obtain ⟨l,xs,y,rfl,rfl,hH,hz,q⟩:=h
 cases rx
 obtain ⟨u,rfl,ru⟩:=rv.one
 obtain ⟨z,its,n,r,hl,e⟩:=I.lstM hH
 refine call_meets F.slot_list_append ⟨_,e,rfl⟩ F.entry_list_append (F.args_list_append_2 _ _) (PySem.list_append l its.toArray n u (by rw [List.size_toArray]; omega)) ⟨e,?_⟩
 refine ⟨.non,_,I.lset (its':=its ++ [u]) hH e (by simp) (r.append (.cons ru .nil)) ?_,rfl,q⟩
 rw [List.length_append,List.length_singleton]
 omega
def rExtend:V→List V→Hp→VK→Prop:=fun x vs H Q=>∃ l b xs zs,x=.ref l∧vs=[.ref b]∧H l=some (.lst xs)∧H b=some (.lst zs)∧xs.length + zs.length≤sizeLine∧Q .non (upd H l (.lst (xs ++ zs)))
theorem xa:MtM X "list.extend" rExtend:=by
 intro pins s σ H x vs v us Q I rx rv h
 obtain ⟨l,b,xs,zs,rfl,rfl,hH,hB,hz,q⟩:=h
 cases rx
 obtain ⟨u,rfl,ru⟩:=rv.one
 cases ru
 obtain ⟨z,its,n,r,hl,e⟩:=I.lstM hH
 obtain ⟨z2,its2,n2,r2,hl2,e2⟩:=I.lstM hB
 have hsz:its.toArray.size + its2.toArray.size≤sizeLine:=by rw [List.size_toArray,List.size_toArray]; omega
 have hlong:¬ (!its.toArray.isEmpty && Builtin.List.listTooLong (its.toArray.size + its2.toArray.size))=true:=by
  rw [Qk hsz,Bool.and_false]
  exact Bool.false_ne_true
 refine call_meets F.slot_list_extend ⟨_,e,rfl⟩ F.entry_list_extend (F.args_list_extend_2 _ _)
  (AutoSeq1.list_extend_list_list_0 l its.toArray n b its2.toArray n2 hlong (by rw [List.size_toArray]; omega) (by omega)) ⟨e,e2,?_⟩
 refine ⟨.non,_,I.lset (its':=its ++ its2) hH e (by simp) (r.append r2) ?_,rfl,q⟩
 rw [List.length_append]
 omega
def rPopAt:V→List V→Hp→VK→Prop:=fun x vs H Q=>∃ l xs i k y,x=.ref l∧vs=[.int i]∧H l=some (.lst xs)∧-(2 ^ 63)≤i∧i < 2 ^ 63∧seqIndex? i xs.length=some k∧xs[k]?=some y∧Q y (upd H l (.lst (xs.eraseIdx k)))
theorem vp:MtM X "list.pop" rPopAt:=by
 intro pins s σ H x vs v us Q I rx rv h
 obtain ⟨l,xs,i,k,y,rfl,rfl,hH,h1,h2,hk,hy,q⟩:=h
 cases rx
 obtain ⟨u,rfl,ru⟩:=rv.one
 obtain ⟨t,rfl⟩:=ru
 obtain ⟨z,its,n,r,hl,e⟩:=I.lstM hH
 obtain ⟨w,hw,rw'⟩:=r.get hy
 refine call_meets F.slot_list_pop ⟨_,e,rfl⟩ F.entry_list_pop (F.args_list_pop_2 _ _)
  (MeetsSeq.list_pop_at l its.toArray n i t k w (fitsIndex_both h1 h2) (by rw [List.size_toArray,← hl]; exact hk) (by rw [← Array.getElem?_toList]; exact hw) (by rw [List.size_toArray]; omega)) ⟨e,?_⟩
 refine ⟨y,_,I.lset (its':=its.eraseIdx k) hH e ?_ (r.eraseIdx k) ?_,rw',q⟩
 ·show its.toArray.eraseIdxIfInBounds k=(its.eraseIdx k).toArray
  rw [List.eraseIdxIfInBounds_toArray]
 ·have:=Ze xs k
  omega
def rRep:R2:=fun x y H Q=>∃ l k xs,x=.ref l∧y=.int k∧H l=some (.lst xs)∧-(2 ^ 63)≤k∧k < 2 ^ 63∧xs.length * k.toNat≤sizeLine ∧
 ∀ p,H p=none→Q (.ref p) (upd H p (.lst (List.replicate k.toNat xs).flatten))
theorem len_rep {α:Type} (xs:List α) (k:Nat):(List.replicate k xs).flatten.length=k * xs.length:=by
 induction k with
 | zero=>simp
 | succ k ih=>rw [List.replicate_succ,List.flatten_cons,List.length_append,ih,Nat.succ_mul,Nat.add_comm]
theorem QO:OpR X (binaryOp .Mult) rRep:=by
 intro pins s σ H x y v u Q I rx ry h
 obtain ⟨l,k,xs,rfl,rfl,hH,h1,h2,hz,q⟩:=h
 cases rx
 obtain ⟨t,rfl⟩:=ry
 obtain ⟨z,its,n,r,hl,e⟩:=I.lstM hH
 have hlen:its.toArray.size * k.toNat≤sizeLine:=by rw [List.size_toArray,← hl]; exact hz
 have hcap:¬ its.toArray.size * k.toNat > (2 ^ 63 - 1) / 8:=by
  have:(sizeLine:Nat)≤(2 ^ 63 - 1) / 8:=by decide
  omega
 have hfit:¬ (!Builtin.List.listFitsIndex k)=true:=by
  rw [fitsIndex_both h1 h2]
  exact Bool.false_ne_true
 have hlong:¬ Builtin.List.listTooLong (its.toArray.size * k.toNat)=true:=by
  rw [Qk hlen]
  exact Bool.false_ne_true
 have hnew:List.foldl (fun x1 x2=>x1 ++ x2) #[] (List.replicate (if its.toArray.isEmpty=true then 0 else k.toNat) its.toArray)=(List.replicate k.toNat its).flatten.toArray:=by
  have f0:∀ m:Nat,List.foldl (fun x1 x2=>x1 ++ x2) #[] (List.replicate m its.toArray)=(List.replicate m its).flatten.toArray:=fun m=>by
   have:=Zm its m []
   rw [List.nil_append] at this
   exact this
  rw [f0]
  cases its with
  | nil=>simp
  | cons a r'=>rw [if_neg (by simp)]
 refine wpAny_binaryOp_repeat_ref (T:="list") (U:="int") (by decide) ⟨_,e,rfl⟩ (fun s'=>typeIs_int s' k t) noFill_list_mul F.fills_int_mul F.slot_int_rmul repeat_list F.slot_int_index.lookup
  (call_meets F.slot_int_rmul (typeIs_int s k t) F.entry_int_rmul (F.args_int_rmul_2 _ _) (int___rmul___int_list k t l its.toArray n)
   ⟨e,rfl,⟨_,e,rfl⟩,call_meets F.slot_list_mul ⟨_,e,rfl⟩ F.entry_list_mul (F.args_list_mul_2 _ _) (AutoListH.list___mul___list_int_3 l its.toArray n k t hfit hcap hlong) ⟨e,?_⟩⟩)
 rw [hnew]
 exact ⟨.ref _,_,I.lnew (t':=s.toks) (r.rep k.toNat) (by rw [len_rep,Nat.mul_comm]; exact hz),rfl,q _ I.fresh⟩
end
section
variable {prog:Program} {w:World} {A:Around} {E:Value→Shared→Prop} {s:Shared}
end
section
variable {X:Cx}
end
end L2
namespace Att
open PySem PySem.W PySem.Calls PyProof.Rows
theorem ints_of_wellAll {P:Params} {h:Heap}:∀ (ns:List Int) (vs:List Value),WellAll P h vs (ns.map WData.int)→IntsAre vs ns:=by
 intro ns
 induction ns with
 | nil =>
  intro vs w
  rw [List.map_nil] at w
  cases w
  exact .nil
 | cons n ns ih =>
  intro vs w
  rw [List.map_cons] at w
  cases w with
  | cons a b =>
   cases a
   exact .cons _ _ (ih _ b)
theorem script_of {l:OpenLaw} {n:Nat} (hn:l.most=some n) {P:Params} {h:Heap} {args:List WData} {vals:List Value}
  (hpre:l.row.toRowW.claim.pre args=true) (hwl:WellAll P h vals args) :
  ∃ a vs ns,vals=[Value.ref a]∧args=[WData.list (ns.map WData.int)]∧h.get? a=some { cls:=.type "list",data:=.seq vs.toArray }∧IntsAre vs ns∧ns.length≤n:=by
 have hsh:WShape.hasAll [] args [.list .int]=true:=(pre_splitW hpre).1
 have hc:l.pre.holds [] { args:=args }=true:=(pre_splitW hpre).2
 obtain ⟨d,r,rfl,h1,h2⟩:=hasAllW_cons hsh
 obtain rfl:=hasAllW_nil h2
 obtain ⟨xs,rfl,h3⟩:=hasW_list h1
 obtain ⟨ns,rfl⟩:=items_int h3
 have hlen:ns.length≤n:=by
  unfold OpenLaw.pre at hc
  have h4:(WTm.not (.lt (.lit (.int (n:Int))) (.len (.arg 0)))).holds [] { args:=[.list (ns.map .int)] }=true:=by
   have h4:=(holds_andW hc).1
   rw [hn] at h4
   exact h4
  have h5:=condW_of h4 (w_not (w_lt w_lit (w_len_list (w_arg rfl))))
  rw [List.length_map] at h5
  refine Nat.le_of_not_lt fun q=>?_
  have q':(n:Int) < ((ns.length:Nat):Int):=by omega
  first
   | (rw [decide_eq_true q'] at h5; exact absurd h5 (by decide))
   | (simp at h5; omega)
 cases hwl with
 | cons w1 w2 =>
  cases w2
  cases w1 with
  | list ho hall=>exact ⟨_,_,ns,rfl,rfl,ho,ints_of_wellAll ns _ hall,hlen⟩
theorem post_true (l:OpenLaw) (args:List WData):l.row.toRowW.claim.post args (.bool true) args=true :=
 postW_of (r:=l.row.toRowW) (X:=(true == true))
  (show WShape.has [] (.bool true) .bool=true by first | rfl | decide | simp [WShape.has,WShape.arms,WShape.armsAll])
  (show (WTm.eq .res (.lit (.bool true))).value [] { args:=args,res:=some (.bool true),after:=args }=some (.bool (true == true)) from w_eq_bool (w_res rfl) w_lit) rfl
theorem attach_call {l:OpenLaw} {n:Nat} {q:Program} {loose:List Str} {XP:(Str→Option Value)→Heap→Prop} {YP:World→Heap→Prop} {d:DefRec}
  (hn:l.most=some n) (hdf:d.params.defaults=[])
  (call:∀ (w:World) (s₀ s₁:Shared) (mg mb:Str→Option Value) (fa:Addr) (o:Obj) (pm cd doc:Value) (a:Addr) (vs:List Value) (ns:List Int),
   Ground q loose [] XP w s₀ mg mb s₁.heap→YP w s₁.heap →
   s₁.heap.get? fa=some o→o.data=.func (docDef d.name d.params d.body d.scope pm cd doc)→s₁.heap.CodeRec cd d.name→mg d.name=some (.ref fa) →
   s₁.heap.get? a=some { cls:=.type "list",data:=.seq vs.toArray }→IntsAre vs ns→ns.length≤n→s₁.gens=#[] →
   codeAny (model l.prog w) callerA (.call (.ref fa) ⟨[.ref a],[]⟩) (fun r s'=>r=.ok (.ret (.bool true))∧OldK s₁.heap s'.heap∧s'.os=s₁.os∧AllBare s'.gens) s₁) :
  WalkO q loose XP YP l.row.toRowW d [] (fun f vs=>PySem.call f vs):=by
 intro w s₀ s₁ mg mb G Y fa o pm cd doc dV kV ho hd hcd hD hmg hg args vals as hpre hlay hrd hwl hlo
 obtain rfl:dV=.none:=Dflts.none hD hdf
 obtain rfl:kV=.none:=Dflts.noKw hD
 obtain ⟨a,vs,ns,rfl,rfl,hobj,hints,hlen⟩:=script_of hn hpre hwl
 refine enter_call (codeAny_mono (call w s₀ s₁ mg mb fa o pm cd doc a vs ns G Y ho (fd_plain hd) hcd hmg hobj hints hlen hg) fun r s' hq=>?_)
 obtain ⟨rfl,h2,h3,h4⟩:=hq
 exact ⟨.inl ⟨.bool true,.bool true,[],rfl,fun _=>rfl,.bool true,post_true l _,fun _=>⟨List.Pairwise.nil,fun _ hm=>(nomatch hm)⟩⟩,h2,h3,h4⟩
section
variable {prog:Program} {w:World} {A:Around} {E:Value→Shared→Prop} {s:Shared} {K:Frag}
def ledger (h:Heap) (L d:Addr):List (Addr × Obj):=(List.range h.objs.size).filterMap fun a=>if a=L∨a=d then none else (h.get? a).map fun o=>(a,o)
end
end Att
namespace L2
open PySem PySem.Spec PyProof.Rows
theorem vQ:∀ {vs:List Value} {ns:List Int},IntsAre vs ns→Vals (ns.map V.int) vs
 | _,_,.nil=>.nil
 | _,_,.cons n t h=>.cons ⟨t,rfl⟩ (vQ h)
def Only (H:Hp):Prop:=∀ b,H b=none∨∃ o xs,H b=some (.frz o (.lst xs))
theorem law_call {P:Program} {w:World} {K:PySem.W.Frag} {mg mb:Str→Option Value} {CX:CXT} {k:Nat} {fa a:Addr} {fd:FuncData} {x:Str} {sp:Sp} {s₁:Shared} {vs:List Value} {ns:List Int}
  (KX:K.In s₁.heap) (hns:s₁.heap.Ns mainGlobals mg) (hb:s₁.heap.Ns builtinsNs mb) (hbb:∀ x:Str,x≠"__name__"→mb x=bootBuiltins x) (hlim:s₁.heap.NoLimit) (hg:s₁.gens=#[])
  (ha:s₁.heap.get? a=some { cls:=.type "list",data:=.seq vs.toArray }) (hi:IntsAre vs ns) (hl:ns.length≤sizeLine) (hr:Room k callerA)
  (F:∀ base:Heap,K.In base→base.Ns mainGlobals mg→FnOk P w K mg base CX k fa fd [x] sp) (hbind:∀ (s:Shared) (u:Value),BindsTo s fd ⟨[u],[]⟩ [(x,u)])
  (hsp:∀ H:Hp,Only H→SqL K H a (ns.map V.int)→sp [.ref a] H (fun v _=>v=.bl true) fun _ _ _=>False)
  (hCX:∀ H e s',CX [] H s₁ (fun _ _ _=>False) e s'→False) :
  codeAny (model P w) callerA (.call (.ref fa) ⟨[.ref a],[]⟩) (fun r s'=>r=.ok (.ret (.bool true))∧OldK s₁.heap s'.heap∧s'.os=s₁.os∧AllBare s'.gens) s₁:=by
 have rv:=vQ hi
 have lenV:=hi.length
 have core:∀ H:Hp,Only H→SqL K H a (ns.map V.int)→HOk P w H s₁.heap→(∀ b,H b≠none→b=a)→(H a≠none→K.lookup a=none) →
   codeAny (model P w) callerA (.call (.ref fa) ⟨[.ref a],[]⟩) (fun r s'=>r=.ok (.ret (.bool true))∧OldK s₁.heap s'.heap∧s'.os=s₁.os∧AllBare s'.gens) s₁:=by
  intro H hO hS hok hA hK
  have base_of:∀ {b:Addr} {o:Obj},s₁.heap.get? b=some o→H b=none→(hidT s₁.heap H).get? b=some o:=fun e n=>hidT_get e n
  have noA:∀ {b:Addr} {o:Obj} {es:Array DictEntry} {ep:Nat},s₁.heap.get? b=some o→o.data=.dict es ep→H b=none:=fun {b o es ep} e d=>by
   cases q:H b with
   | none=>rfl
   | some u =>
    have e':b=a:=hA b (by rw [q]; simp)
    subst e'
    rw [ha] at e; cases e
    have d':Data.seq vs.toArray _=Data.dict es ep:=d
    cases d'
  have nsK:∀ {b:Addr} {m:Str→Option Value},s₁.heap.Ns b m→(hidT s₁.heap H).Ns b m:=fun {b m} ⟨o,es,ep,e,d,r⟩=>⟨o,es,ep,base_of e (noA e d),d,r⟩
  have hKb:K.In (hidT s₁.heap H):=fun b o e=>base_of (KX b o e) (by
   cases q:H b with
   | none=>rfl
   | some u =>
    have e':b=a:=hA b (by rw [q]; simp)
    subst e'
    rw [hK (by rw [q]; simp)] at e; cases e)
  have hM:Mod K mg (hidT s₁.heap H):=⟨hKb,nsK hns,⟨mb,nsK hb,hbb⟩,let ⟨mc,h1,h2⟩:=hlim; ⟨mc,nsK h1,h2⟩⟩
  have e0:Env0 P w K mg (hidT s₁.heap H) callerA [] s₁ H:=⟨rfl,hM,fun b o e=>of_hidT e,Nat.le_of_eq (hidT_size _ _),trivial,fun b hb=>absurd (show b∈([]:List Addr) from hb) (by simp),hok,.of_eq hg⟩
  refine codeAny_mono ((F _ hKb (nsK hns)).run callerA [] s₁ H ⟨[.ref a],[]⟩ [.ref a] [.ref a] _ _ hr e0 (hbind s₁ (.ref a)) (.cons rfl .nil) (hsp H hO hS)) fun r s' h=>?_
  cases r with
  | error e=>exact (hCX H e s' h).elim
  | ok fl =>
   cases fl with
   | next=>exact False.elim h
   | brk=>exact False.elim h
   | cont=>exact False.elim h
   | ret u =>
    obtain ⟨v,H',os,bare,un,hok',r',q⟩:=h
    have q':v=.bl true:=q
    subst q'
    obtain rfl:u=Value.bool true:=r'
    refine ⟨rfl,OldK.of_keep fun b o e=>?_,os,bare⟩
    cases q:H b with
    | none=>exact un.keep b o e q (by intro z; exact absurd (show b∈([]:List Addr) from z) (by simp)) (by simp)
    | some u =>
     rcases hO b with z | ⟨ob,xs,z⟩
     ·rw [q] at z; cases z
     ·have z2:=un.frzs b ob _ z
      obtain ⟨e1,_⟩:=hok b _ z
      obtain ⟨e2,_⟩:=hok' b _ z2
      rw [e] at e1; cases e1
      exact e2
 cases hk:K.lookup a with
 | some o =>
  have e:=KX a o hk
  rw [ha] at e
  cases e
  refine core (fun _=>none) (fun _=>.inl rfl) (.inr ⟨_,vs.toArray,_,hk,rfl,rfl,rfl,by rw [List.size_toArray,lenV]; exact hl,by simpa using rv⟩) (fun b u z=>by have z':(none:Option HO)=some u:=z; cases z') (fun b z=>absurd rfl z) fun z=>absurd rfl z
 | none =>
  refine core (fun b=>if b=a then some (.frz { cls:=.type "list",data:=.seq vs.toArray } (.lst (ns.map V.int))) else none) (fun b=>?_) (.inl (.inr ⟨{ cls:=.type "list",data:=.seq vs.toArray },if_pos rfl⟩)) (fun b u z=>?_) (fun b z=>?_) fun _=>hk
  ·by_cases hb:b=a
   ·exact .inr ⟨_,_,if_pos hb⟩
   ·exact .inl (if_neg hb)
  ·by_cases hb:b=a
   ·have z':=(if_pos hb).symm.trans z
    cases z'
    subst hb
    exact ⟨ha,by rw [List.length_map]; exact hl,vs,_,rv,ha⟩
   ·have z':=(if_neg hb).symm.trans z
    cases z'
  ·by_cases hb:b=a
   ·exact hb
   ·exact absurd (if_neg hb) z
end L2
namespace L2
open PySem PySem.Spec PyProof.Rows
theorem walk_of {l:PySem.W.OpenLaw} {n k:Nat} {q:Program} {loose:List Str} {XP:(Str→Option Value)→Heap→Prop} {YP:World→Heap→Prop} {d:DefRec} {K:Params→PySem.W.Frag} {CX:World→CXT} {sp:World→Sp} {x:Str}
  (hn:l.most=some n) (hn2:n≤sizeLine) (hdf:d.params.defaults=[]) (hr:Room k callerA)
  (hY:∀ (w:World) (h:Heap),YP w h→(K w.params).In h)
  (F:∀ (w:World) (mg:Str→Option Value) (fa:Addr) (h:Heap),(K w.params).In h→h.Ns mainGlobals mg→mg d.name=some (.ref fa) →
   ∃ fd:FuncData,(∀ (s:Shared) (u:Value),BindsTo s fd ⟨[u],[]⟩ [(x,u)]) ∧
    ∀ base:Heap,(K w.params).In base→base.Ns mainGlobals mg→FnOk l.prog w (K w.params) mg base (CX w) k fa fd [x] (sp w))
  (hsp:∀ (w:World) (H:Hp) (a:Addr) (ns:List Int),ns.length≤n→Only H→SqL (K w.params) H a (ns.map V.int)→sp w [.ref a] H (fun v _=>v=.bl true) fun _ _ _=>False)
  (hCX:∀ (w:World) (H:Hp) (s:Shared) (e:Value) (s':Shared),CX w [] H s (fun _ _ _=>False) e s'→False) :
  PySem.W.WalkO q loose XP YP l.row.toRowW d [] (fun f vs=>PySem.call f vs):=by
 refine Att.attach_call hn hdf fun w s₀ s₁ mg mb fa o pm cd doc a vs ns G Y ho hd hcd hmg hobj hints hlen hg=>?_
 have KX:=hY w _ Y
 obtain ⟨fd,hb,hF⟩:=F w mg fa _ KX G.T.g hmg
 exact law_call KX G.T.g G.T.b G.T.builtins G.T.nolimit hg hobj hints (Nat.le_trans hlen hn2) hr hF hb (fun H hO hS=>hsp w H a ns hlen hO hS) fun H e s'=>hCX w H s₁ e s'
end L2
namespace L2
open PySem PySem.Spec PyProof.Rows
def zI (s:Stmt) (j:Nat):Stmt:=match s with
 | .ClassDef _ _ _ body _ _ _ _ _ _ _=>body.getD j (.Pass ⟨0,0,0,0⟩)
 | _=>.Pass ⟨0,0,0,0⟩
def zY (s:Stmt):Arguments:=match s with
 | .FunctionDef _ a _ _ _ _ _ _ _ _=>a
 | _=>{ posonlyargs:=[],args:=[],vararg:=none,kwonlyargs:=[],kw_defaults:=[],kwarg:=none,defaults:=[] }
def zU (s:Stmt):List Stmt:=match s with
 | .FunctionDef _ _ b _ _ _ _ _ _ _=>b
 | _=>[]
def zf (s:Stmt):Scope:=match s with
 | .FunctionDef _ _ _ _ _ _ sc _ _ _=>sc
 | _=>{ kind:=.function,names:=[],isGenerator:=false,isCoroutine:=false }
abbrev CX0:CXT:=fun _ _ _ _ _ _=>False
structure Fun (K:PySem.W.Frag) (x qual:Str) (st:Stmt) (f:Addr) (fd:FuncData):Prop where
 ex:∃ (oc:Value) (od:Option Addr) (kV doc pm:Value) (an:Option Addr) (cdv ct:Value) (osl:Array (Option Value)),
  fd=PySem.W.fnOf x qual (zY st) (zU st) (zf st) .none kV doc pm an cdv ct∧K.lookup f=some ⟨oc,od,.func fd,osl⟩∧PySem.W.codeIn K cdv qual=true
 kp:PySem.W.keepIn K (.ref f)=true
section
variable {P:Program} {w:World} {K:PySem.W.Frag} {mg:Str→Option Value} {base:Heap}
theorem Fun.ok {x qual:Str} {st:Stmt} {f:Addr} {fd:FuncData} {N ps:List Str} {k:Nat} {sp:Sp} (F:Fun K x qual st f fd) (S:FnScope N ps (zf st)) (len:∀ vs H Q E,sp vs H Q E→vs.length=ps.length)
  (hbody:∀ (cdv:Value) (A:Around) (outer:List Env) (s:Shared) (H:Hp) (vs:List V) (Q:VK) (E:XK),Room k (A.deeper (envOfC qual (zf st) s.heap.objs.size f cdv))→sp vs H Q E →
   ∃ t,PSs (cxOf CX0 P w K mg base N qual (zf st) f cdv A outer s H E).nox (zU st) t∧t { nx:=fun _ H'=>Q .non H',rt:=Q } (start N vs) H):FnOk P w K mg base CX0 (k + 1) f fd ps sp:=by
 obtain ⟨oc,od,kV,doc,pm,an,cdv,ct,osl,rfl,lk,hcd⟩:=F.ex
 refine JS lk hcd S len fun A outer s H vs Q E hr hsp=>?_
 obtain ⟨t,h,q⟩:=hbody cdv A outer s H vs Q E hr hsp
 exact ⟨t,h.nox,q⟩
theorem Fun.binds {x qual:Str} {st:Stmt} {f:Addr} {fd:FuncData} {ps:List Str} (F:Fun K x qual st f fd)
  (h:∀ (kV doc pm:Value) (an:Option Addr) (cdv ct:Value) (us:List Value),us.length=ps.length→bindArgs (PySem.W.fnOf x qual (zY st) (zU st) (zf st) .none kV doc pm an cdv ct) ⟨us,[]⟩=pure (ps.zip us)):Binds K fd ps []:=by
 obtain ⟨oc,od,kV,doc,pm,an,cdv,ct,osl,rfl,lk,hcd⟩:=F.ex
 exact .all (h kV doc pm an cdv ct)
theorem jG {x qual:Str} {st:Stmt} {f:Addr} {oc:Value} {od an:Option Addr} {osl:Array (Option Value)} {kV doc pm cdv ct:Value} (l:K.lookup f=some ⟨oc,od,.func (PySem.W.fnOf x qual (zY st) (zU st) (zf st) .none kV doc pm an cdv ct),osl⟩)
  (c:PySem.W.codeIn K cdv qual=true) (k:PySem.W.keepIn K (.ref f)=true):Fun K x qual st f (PySem.W.fnOf x qual (zY st) (zU st) (zf st) .none kV doc pm an cdv ct):=⟨⟨oc,od,kV,doc,pm,an,cdv,ct,osl,rfl,l,c⟩,k⟩
end
theorem Je {A:Around} {k:Nat} (hr:Room k A):A.units + 1 < cLine:=Nat.lt_of_le_of_lt (Nat.add_le_add_left (by decide:1≤64) _) hr.units
theorem zm {n:Nat} (h:n≤1000):n < sizeLine:=Nat.lt_of_le_of_lt h (by decide)
section
variable {X:Cx}
theorem pv (i:Nat) {x:Str} {pos:Pos} (hN:X.N[i]?=some x:=by rfl) (hv:Vis X.env.scope x:=by first | exact Or.inl rfl | exact Or.inr (Or.inl rfl) | exact Or.inr (Or.inr rfl)) (hd:(x == ("__debug__":Str))=false:=by decide)
  (hcd:(x == ("__classdict__":Str))=false:=by decide):PE X (.Name x pos) (tVar i):=pe_var hN hv hd hcd
end
theorem ite2 {c A B:Prop} [Decidable c] (h1:c→A) (h2:¬ c→B):if c then A else B:=by
 by_cases h:c
 ·rw [if_pos h]
  exact h1 h
 ·rw [if_neg h]
  exact h2 h
def Same (H H':Hp):Prop:=∀ b o,H b=some o→H' b=some o
theorem Same.refl (H:Hp):Same H H:=fun _ _ h=>h
theorem Same.trans {H H1 H2:Hp} (a:Same H H1) (b:Same H1 H2):Same H H2:=fun c o h=>b c o (a c o h)
theorem Same.free {H H':Hp} (e:Same H H') {l:Addr} (h:H' l=Option.none):H l=Option.none:=by
 cases q:H l with
 | none=>rfl
 | some o =>
  rw [e l o q] at h
  cases h
theorem Same.seq {K:PySem.W.Frag} {H H':Hp} {a:Addr} {xs:List V} (e:Same H H') (h:SqL K H a xs):SqL K H' a xs:=by
 rcases h with (h | ⟨o,h⟩) | h
 ·exact .inl (.inl (e _ _ h))
 ·exact .inl (.inr ⟨o,e _ _ h⟩)
 ·exact .inr h
end L2
set_option maxHeartbeats 4000000
namespace L2
open PySem PySem.Spec PyProof.Rows
abbrev GK:=Value→St→Hp→Prop
structure Exc (g h:Heap) (H:Hp) (pn:List (Addr × Obj)) (a:Addr) (cls:Value):Prop where
 ex:∃ (oe:Obj) (vs:Array Value) (T:Addr) (oT:Obj) (ts:Array Value),h.get? a=some oe∧oe.cls=cls∧oe.dict=none∧oe.data=.fields vs∧vs[1]?=some (.ref T)∧T≠a ∧
  h.get? T=some oT∧oT.data=.fields ts∧ts[3]?=some .none∧g.get? T=none∧H T=none∧∀ p∈pn,p.1≠T
 ga:g.get? a=none
 Ha:H a=none
 pa:∀ p∈pn,p.1≠a
theorem ObjOk.there {P:Program} {w:World} {H:Hp} {h:Heap} {a:Addr} {o:HO} (x:ObjOk P w H h a o):∃ ob,h.get? a=some ob:=by
 cases o with
 | lst xs=>obtain ⟨_,_,_,_,e⟩:=x; exact ⟨_,e⟩
 | tup xs=>obtain ⟨_,_,_,ob,e,_⟩:=x; exact ⟨_,e⟩
 | dK kvs=>obtain ⟨_,_,_,_,o,_,_,e,_⟩:=x; exact ⟨_,e⟩
 | dT kvs=>obtain ⟨_,_,_,_,o,_,_,e,_⟩:=x; exact ⟨_,e⟩
 | set S n=>obtain ⟨o,_,_,_,e,_⟩:=x; exact ⟨_,e⟩
 | ins C dx fs=>obtain ⟨_,_,_,e,_⟩:=x; exact ⟨_,e⟩
 | own y=>obtain ⟨_,e⟩:=x; exact ⟨_,e⟩
 | xd fs=>obtain ⟨_,⟨_,_,_,e,_⟩,_⟩:=x; exact ⟨_,e⟩
 | rng lo hi=>obtain ⟨_,_,_,e⟩:=x; exact ⟨_,e⟩
 | frz ob u=>obtain ⟨e,_⟩:=x; exact ⟨_,e⟩
 | tbl ps=>exact ⟨_,(show h.get? a=some _ from x)⟩
 | met f y=>exact ⟨_,(show h.get? a=some _ from x)⟩
 | ext φ=>obtain ⟨_,⟨_,e⟩,_⟩:=x; exact ⟨_,e⟩
section
variable {M:Model} {A:Around} {E:Value→Shared→Prop} {s:Shared}
theorem Zn {base:Heap} {env:Env} {outer:List Env} {L e:Addr} {oe:Obj} {vs:Array Value} {head:Value} {hadNext:Bool} {Q:Unit→Shared→Prop}
  (hfr:A.frames=some (env :: outer)) (hl:s.heap.FunFrames base (env :: outer)) (hf:env.frame=some L) (he:s.heap.get? e=some oe) (hd:oe.data=.fields vs) (hsz:1 < vs.size)
  (h:∀ h' T,(∀ b o,b ∉ (env :: outer).filterMap (·.frame)→b≠e→s.heap.get? b=some o→h'.get? b=some o)→(∀ b o,b≠e→s.heap.get? b=some o→∃ sl,h'.get? b=some { o with slots:=sl }) →
   s.heap.get? T=none→T≠e→h'.get? e=some (oe.mapFields (·.setIfInBounds 1 (.ref T)))→(∃ oT ts,h'.get? T=some oT∧oT.data=.fields ts∧ts[3]?=some .none)→Q () { s with heap:=h' }) :
  wpAny M A (do let a ← frameOf env; let pl ← entryPlaceOf L hadNext; let b ← EntryCells.newEntry head a .none (rawInt L) .none pl; setField (.ref e) 1 b) (fun _ s'=>wpAny M A (setFlight (.ref e) none) Q E s') E s:=by
 have hene:e ∉ (env :: outer).filterMap (·.frame):=fun hm=>by
  obtain ⟨_,o,ho,hnf⟩:=hl.mem hm
  rw [he] at ho; injection ho with ho; subst ho; exact hnf vs hd
 refine wpAny_bind (wpAny_frameOf_fun hfr hl hf fun h₁ hs₁=>?_)
 refine wpAny_bind (wpAny_entryPlaceOf fun pl hpl=>?_)
 unfold EntryCells.newEntry newFields
 refine wpAny_bind (wpAny_newObj_type ?_ (hpl.sizeOk5 _ _ _ _ _))
 have he₁:h₁.get? e=some oe:=(hs₁.2.1 e hene).trans he
 have he₂:=Heap.get?_push_of_some (h:=h₁) { cls:=.type "traceback",dict:=none,data:=.fields ([head,.ref L,.none,rawInt L,.none] ++ (if pl.isEmpty then List.replicate 6 Value.none else pl)).toArray } he₁
 refine wpAny_setField he₂ hd hsz ?_
 have hTe:h₁.objs.size≠e:=Nat.ne_of_gt (Heap.lt_size he₁)
 have hd₃:=Obj.data_mapFields hd (·.setIfInBounds 1 (Value.ref h₁.objs.size))
 have he₃:=Heap.get?_update_self (Obj.mapFields (·.setIfInBounds 1 (Value.ref h₁.objs.size))) he₂ (Obj.isFreed_of_fields hd₃)
 have hT₃:=(Heap.get?_update_other (h₁.push { cls:=.type "traceback",dict:=none,data:=.fields ([head,.ref L,.none,rawInt L,.none] ++ (if pl.isEmpty then List.replicate 6 Value.none else pl)).toArray })
  (Obj.mapFields (·.setIfInBounds 1 (Value.ref h₁.objs.size))) (Ne.symm hTe)).trans (Heap.get?_push_size h₁ rfl)
 unfold setFlight
 refine wpAny_bind (wpAny_field he₃ hd₃ (x:=.ref h₁.objs.size) (by simp [hsz]) ?_)
 rw [if_pos (show (Value.ref h₁.objs.size != Value.none)=true from by simp)]
 refine wpAny_setField hT₃ rfl (by simp only [List.size_toArray,List.length_append,List.length_cons,List.length_nil] <;> omega) ?_
 have keep:∀ b o,b≠e→h₁.get? b=some o →
   (((h₁.push { cls:=.type "traceback",dict:=none,data:=.fields ([head,.ref L,.none,rawInt L,.none] ++ (if pl.isEmpty then List.replicate 6 Value.none else pl)).toArray }).update e (Obj.mapFields (·.setIfInBounds 1 (Value.ref h₁.objs.size)))).update h₁.objs.size
    (Obj.mapFields (·.setIfInBounds 3 ((none:Option Addr).elim Value.none fun f=>rawInt f)))).get? b=some o:=fun b o hbe hb=>by
  have hbT:h₁.objs.size≠b:=Nat.ne_of_gt (Heap.lt_size hb)
  rw [Heap.get?_update_other _ _ hbT,Heap.get?_update_other _ _ (Ne.symm hbe)]
  exact Heap.get?_push_of_some _ hb
 refine h _ h₁.objs.size (fun b o hb hbe q=>keep b o hbe ((hs₁.2.1 b hb).trans q)) (fun b o hbe q=>?_) (Heap.get?_none_of_le (by rw [hs₁.1]; exact Nat.le_refl _)) hTe ?_ ?_
 ·obtain ⟨sl,hs⟩:=hs₁.2.2 b o q
  exact ⟨sl,keep b _ hbe hs⟩
 ·rw [Heap.get?_update_other _ _ hTe]; exact he₃
 ·exact ⟨_,_,Heap.get?_update_self _ hT₃ (Obj.isFreed_of_fields (Obj.data_mapFields rfl _)),Obj.data_mapFields rfl _,by first | (simp; done) | (rcases hpl with rfl | ⟨_,_,_,_,_,_,_,rfl⟩ <;> simp)⟩
theorem Zf {base:Heap} {env:Env} {outer:List Env} {L e:Addr} {oe:Obj} {vs:Array Value} {ch:List Addr} {Q:Unit→Shared→Prop}
  (hfr:A.frames=some (env :: outer)) (hl:s.heap.FunFrames base (env :: outer)) (hf:env.frame=some L) (he:s.heap.get? e=some oe) (hd:oe.data=.fields vs)
  (h1:(vs[1]?=some .none∧ch=[e])∨∃ T oT ts,vs[1]?=some (.ref T)∧T≠e∧s.heap.get? T=some oT∧oT.data=.fields ts∧ts[3]?=some .none∧ch=[e,T])
  (h:∀ h' T,(∀ b o,b ∉ (env :: outer).filterMap (·.frame)→b ∉ ch→s.heap.get? b=some o→h'.get? b=some o)→(∀ b o,b ∉ ch→s.heap.get? b=some o→∃ sl,h'.get? b=some { o with slots:=sl }) →
   (∀ b∈ch,∃ o,h'.get? b=some o)→s.heap.get? T=none→T≠e→h'.get? e=some (oe.mapFields (·.setIfInBounds 1 (.ref T)))→(∃ oT ts,h'.get? T=some oT∧oT.data=.fields ts∧ts[3]?=some .none)→Q () { s with heap:=h' }) :
  wpAny M A (noteFrame (.ref e) env) (fun _ s'=>wpAny M A (setFlight (.ref e) none) Q E s') E s:=by
 rcases h1 with ⟨h1,rfl⟩ | ⟨T,oT,ts,h1,hTe,hT,hdT,h3,rfl⟩
 ·unfold noteFrame
  simp only [hf]
  refine wpAny_bind (wpAny_field he hd h1 ?_)
  rw [if_neg (by decide)]
  refine Zn hfr hl hf he hd (Array.getElem?_eq_some_iff.mp h1).1 fun h' T k1 k2 k3 k4 k5 k6=>?_
  refine h h' T (fun b o hb hc q=>k1 b o hb (fun z=>hc (by simp [z])) q) (fun b o hc q=>k2 b o (fun z=>hc (by simp [z])) q) (fun b hb=>?_) k3 k4 k5 k6
  obtain rfl:b=e:=by simpa using hb
  exact ⟨_,k5⟩
 ·unfold noteFrame
  simp only [hf]
  refine wpAny_bind (wpAny_field he hd h1 ?_)
  rw [if_pos (show (Value.ref T != Value.none)=true from by simp)]
  refine wpAny_bind (wpAny_field hT hdT h3 ?_)
  rw [if_neg (show ¬ ((Value.none == rawInt L)=true) from by simp [rawInt])]
  refine wpAny_bind (wpAny_setField hT hdT (Array.getElem?_eq_some_iff.mp h3).1 ?_)
  have other:∀ b,b≠T→(s.heap.update T (Obj.mapFields (·.setIfInBounds 3 Value.none))).get? b=s.heap.get? b:=fun b hb=>Heap.get?_update_other _ _ (Ne.symm hb)
  have noRecord:∀ b o,s.heap.get? b=some o→(∀ vs,o.data≠.fields vs)→b≠T:=fun b o hb hnf q=>by
   rw [q,hT] at hb; injection hb with hb; subst hb; exact hnf ts hdT
  have hT':=Heap.get?_update_self (Obj.mapFields (·.setIfInBounds 3 Value.none)) hT (Obj.isFreed_of_fields (Obj.data_mapFields hdT _))
  refine Zn hfr (hl.of_keeps fun b o hb hnf=>⟨o,(other b (noRecord b o hb hnf)).trans hb,rfl⟩) hf ((other e (Ne.symm hTe)).trans he) hd (Array.getElem?_eq_some_iff.mp h1).1 fun h' T' k1 k2 k3 k4 k5 k6=>?_
  have hTT:T'≠T:=fun z=>by rw [z,hT'] at k3; cases k3
  refine h h' T' (fun b o hb hc q=>k1 b o hb (fun z=>hc (by simp [z])) ((other b (fun z=>hc (by simp [z]))).trans q)) (fun b o hc q=>k2 b o (fun z=>hc (by simp [z])) ((other b (fun z=>hc (by simp [z]))).trans q)) (fun b hb=>?_) ((other T' hTT).symm.trans k3) k4 k5 k6
  rcases List.mem_cons.mp hb with rfl | hb
  ·exact ⟨_,k5⟩
  ·obtain rfl:b=T:=by simpa using hb
   obtain ⟨sl,q⟩:=k2 b _ hTe hT'
   exact ⟨_,q⟩
end
section
variable {X:Cx} {pins:List (Addr × Obj)} {σ:List (Option V)} {H:Hp} {s:Shared} {h':Heap}
theorem Inv.stepx {ch:List Addr} (I:Inv X pins σ H s)
  (hch:∀ b∈ch,X.s₀.heap.get? b=none∧H b=none∧∀ p∈X.pn ++ pins,p.1≠b) (hrec:∀ b∈ch,∃ o vs,s.heap.get? b=some o∧o.data=.fields vs)
  (keep:∀ b o,b ∉ frs X.stack→b ∉ ch→s.heap.get? b=some o→h'.get? b=some o)
  (slot:∀ b o,b ∉ ch→s.heap.get? b=some o→∃ sl,h'.get? b=some { o with slots:=sl }) (there:∀ b∈ch,∃ o,h'.get? b=some o):Inv X pins σ H { s with heap:=h' }:=by
 have neL:∀ b∈ch,b≠X.env.locals:=fun b hb z=>by
  obtain ⟨o,vs,ho,hd⟩:=hrec b hb
  obtain ⟨m,⟨o',es,ep,ho',hd',_⟩,_⟩:=I.loc
  rw [z,ho'] at ho; cases ho; rw [hd'] at hd; cases hd
 have neC:∀ b∈ch,∀ x c,X.env.cells.lookup x=some c→c≠b:=fun b hb x c e z=>by
  obtain ⟨o,vs,ho,hd⟩:=hrec b hb
  obtain ⟨v,o',ho',hd'⟩:=I.cell x c e
  rw [z,ho] at ho'; cases ho'; rw [hd] at hd'; cases hd'
 have nch:∀ b o,X.s₀.heap.get? b=some o→b ∉ ch:=fun b o e hb=>by rw [(hch b hb).1] at e; cases e
 have trk:∀ b u,H b=some u→b ∉ ch∧b ∉ frs X.stack:=fun b u e=>⟨(fun hb=>by rw [(hch b hb).2.1] at e; cases e),(fun hb=>by rw [I.stkFree b hb] at e; cases e)⟩
 have nfs:∀ b,b ∉ X.fs→b≠X.env.locals→b ∉ frs X.stack:=fun b h1 h2 z=>(List.mem_cons.mp (I.stkSub b z)).elim h2 h1
 have ltL:∀ b o,X.s₀.heap.get? b=some o→b≠X.env.locals:=fun b o e=>Nat.ne_of_lt (Nat.lt_of_lt_of_le (Heap.lt_size e) I.ok.above)
 have cellK:∀ x c,X.env.cells.lookup x=some c→∀ v,s.heap.IsCell c v→h'.IsCell c v:=fun x c e v ⟨o,ho,hd⟩=>by
  obtain ⟨sl,q⟩:=slot c o (fun z=>neC c z x c e rfl) ho
  exact ⟨_,q,hd⟩
 have hok:HOk X.prog X.w H h':=fun b u e=>(I.hok b u e).stay (fun c v hc q=>by
  have hcH:∃ u',H c=some u':=by
   rcases hc with rfl | z
   ·exact ⟨_,e⟩
   ·exact ⟨_,z⟩
  obtain ⟨u',hu⟩:=hcH
  exact keep c v (trk c u' hu).2 (trk c u' hu).1 q) (fun _ q=>q) fun _ _ q=>q
 refine ⟨I.ok,I.os,I.bare,⟨fun b o e n hb hx=>?_,fun b o e n hb hx=>?_,I.base.free,fun b o e hx=>?_,I.base.tups,I.base.frzs,I.base.tbls⟩,?_,fun x c e=>?_,I.free,I.freeC,fun p hp=>?_,hok,I.len⟩
 ·exact keep b o (nfs b hb (ltL b o e)) (nch b o e) (I.base.keep b o e n hb hx)
 ·obtain ⟨sl,e1⟩:=I.base.slot b o e n hb hx
  obtain ⟨sl',e2⟩:=slot b _ (nch b o e) e1
  exact ⟨sl',e2⟩
 ·obtain ⟨o',e1⟩:=I.base.there b o e hx
  obtain ⟨sl',e2⟩:=slot b _ (nch b o e) e1
  exact ⟨_,e2⟩
 ·obtain ⟨m,⟨o,es,ep,ho,r⟩,hl⟩:=I.loc
  obtain ⟨sl,q⟩:=slot _ o (fun z=>neL _ z rfl) ho
  refine ⟨m,⟨_,es,ep,q,r⟩,fun i x v e1 e2 e3=>?_⟩
  obtain ⟨u,r',l⟩:=hl i x v e1 e2 e3
  refine ⟨u,r',?_⟩
  rcases l with l | ⟨k,c,e,z⟩
  ·exact .inl l
  ·exact .inr ⟨k,c,e,cellK x c e _ z⟩
 ·obtain ⟨v,z⟩:=I.cell x c e
  exact ⟨v,cellK x c e v z⟩
 ·obtain ⟨e,n,ne,nf,d⟩:=I.pin p hp
  exact ⟨keep p.1 p.2 (nfs _ nf ne) (fun z=>(hch p.1 z).2.2 p hp rfl) e,n,ne,nf,d⟩
theorem Zg {a:Addr} {oe:Obj} {vs:Array Value} {E:Value→Shared→Prop} {Q:Unit→Shared→Prop} (I:Inv X pins σ H s) (hst:X.stack=X.env :: X.outer) (hfr:X.env.frame=some X.env.locals) (hex:X.ex=[])
  (he:s.heap.get? a=some oe) (hdict:oe.dict=none) (hd:oe.data=.fields vs) (ga:X.s₀.heap.get? a=none) (Ha:H a=none) (hpa:∀ p∈X.pn ++ pins,p.1≠a)
  (h1:vs[1]?=some .none∨∃ T oT ts,vs[1]?=some (.ref T)∧T≠a∧s.heap.get? T=some oT∧oT.data=.fields ts∧ts[3]?=some .none∧X.s₀.heap.get? T=none∧H T=none∧∀ p∈X.pn ++ pins,p.1≠T)
  (hQ:∀ s',Inv X pins σ H s'→Exc X.s₀.heap s'.heap H (X.pn ++ pins) a oe.cls→Q () s') :
  wpAny (model X.prog X.w) X.A (noteFrame (.ref a) X.env) (fun _ s'=>wpAny (model X.prog X.w) X.A (setFlight (.ref a) none) Q E s') E s:=by
 have hfs:=I.ok.frames
 have hFF:=I.stack
 rw [hst] at hfs hFF
 have hS:frs X.stack=(X.env :: X.outer).filterMap (·.frame):=by rw [hst]; rfl
 have fin:∀ (ch:List Addr),(∀ b∈ch,X.s₀.heap.get? b=none∧H b=none∧∀ p∈X.pn ++ pins,p.1≠b)→(∀ b∈ch,∃ o vs,s.heap.get? b=some o∧o.data=.fields vs)→a∈ch →
   ∀ h' T,(∀ b o,b ∉ (X.env :: X.outer).filterMap (·.frame)→b ∉ ch→s.heap.get? b=some o→h'.get? b=some o)→(∀ b o,b ∉ ch→s.heap.get? b=some o→∃ sl,h'.get? b=some { o with slots:=sl }) →
   (∀ b∈ch,∃ o,h'.get? b=some o)→s.heap.get? T=none→T≠a→h'.get? a=some (oe.mapFields (·.setIfInBounds 1 (.ref T)))→(∃ oT ts,h'.get? T=some oT∧oT.data=.fields ts∧ts[3]?=some .none)→Q () { s with heap:=h' }:=by
  intro ch hch hrec ha h' T k1 k2 k3 k4 k5 k6 k7
  have I':=I.stepx (h':=h') hch hrec (fun b o hb hc q=>k1 b o (by rw [← hS]; exact hb) hc q) k2 k3
  refine hQ _ I' ⟨?_,ga,Ha,hpa⟩
  obtain ⟨oT,ts,q1,q2,q3⟩:=k7
  have hsz:1 < vs.size:=by
   rcases h1 with z | ⟨_,_,_,z,_⟩ <;> exact (Array.getElem?_eq_some_iff.mp z).1
  refine ⟨_,_,T,oT,ts,k6,Obj.cls_mapFields _ _,by obtain ⟨c,d,dt,sl⟩:=oe; cases dt <;> exact hdict,Obj.data_mapFields hd _,by simp [hsz],k5,q1,q2,q3,?_,?_,fun p hp z=>?_⟩
  ·cases e:X.s₀.heap.get? T with
   | none=>rfl
   | some o =>
    obtain ⟨o',e'⟩:=I.base.there T o e (by rw [hex]; simp)
    rw [k4] at e'; cases e'
  ·cases e:H T with
   | none=>rfl
   | some u =>
    obtain ⟨o',e'⟩:=(I.hok T u e).there
    rw [k4] at e'; cases e'
  ·have:=(I.pin p hp).1
   rw [z,k4] at this; cases this
 rcases h1 with h1 | ⟨T,oT,ts,h1,hTa,hT,hdT,h3,gT,HT,pT⟩
 ·refine Zf (ch:=[a]) hfs hFF hfr he hd (.inl ⟨h1,rfl⟩) (fin [a] (fun b hb=>?_) (fun b hb=>?_) (by simp))
  ·obtain rfl:b=a:=by simpa using hb
   exact ⟨ga,Ha,hpa⟩
  ·obtain rfl:b=a:=by simpa using hb
   exact ⟨oe,vs,he,hd⟩
 ·refine Zf (ch:=[a,T]) hfs hFF hfr he hd (.inr ⟨T,oT,ts,h1,hTa,hT,hdT,h3,rfl⟩) (fin [a,T] (fun b hb=>?_) (fun b hb=>?_) (by simp))
  ·rcases List.mem_cons.mp hb with rfl | hb
   ·exact ⟨ga,Ha,hpa⟩
   ·obtain rfl:b=T:=by simpa using hb
    exact ⟨gT,HT,pT⟩
  ·rcases List.mem_cons.mp hb with rfl | hb
   ·exact ⟨oe,vs,he,hd⟩
   ·obtain rfl:b=T:=by simpa using hb
    exact ⟨oT,ts,hT,hdT⟩
end
def JG (X:Cx) (G:GK) (e:Value) (s:Shared):Prop:=∃ a cls σ H,e=Value.ref a∧Inv X [] σ H s∧Exc X.s₀.heap s.heap H X.pn a cls∧G cls σ H
def xeG (X:Cx) (G:GK) (e:Value) (s:Shared):Prop:=wpAny (model X.prog X.w) X.A (noteFrame e X.env) (fun _ s'=>wpAny (model X.prog X.w) X.A (setFlight e none) (fun _ s''=>JG X G e s'') (fun _ _=>False) s') (fun _ _=>False) s
abbrev Cx.exg (X:Cx) (G:GK):Cx:=X.wish (xeG X G)
structure Bod (X:Cx):Prop where
 st:X.stack=X.env :: X.outer
 fr:X.env.frame=some X.env.locals
 ex:X.ex=[]
theorem qC {X:Cx} {G:GK}:PassesOwn (model X.prog X.w) X.A X.env (xeG X G):=PassesOwn.looking
theorem Inv.nopins {X:Cx} {pins:List (Addr × Obj)} {σ:St} {H:Hp} {s:Shared} (I:Inv X pins σ H s):Inv X [] σ H s:=I.pins_of fun p hp=>absurd hp (by simp)
theorem Exc.less {g h:Heap} {H:Hp} {pn pn':List (Addr × Obj)} {a:Addr} {cls:Value} (x:Exc g h H pn a cls) (hp:∀ p∈pn',p∈pn):Exc g h H pn' a cls:=by
 obtain ⟨⟨oe,vs,T,oT,ts,h1,h2,h3,h4,h5,h6,h7,h8,h9,h10,h11,h12⟩,ga,Ha,pa⟩:=x
 exact ⟨⟨oe,vs,T,oT,ts,h1,h2,h3,h4,h5,h6,h7,h8,h9,h10,h11,fun p q=>h12 p (hp p q)⟩,ga,Ha,fun p q=>pa p (hp p q)⟩
def CXr (P:Program) (w:World):CXT:=fun outer H s E e s'=>∃ a cls H',e=Value.ref a∧s'.os=s.os∧AllBare s'.gens∧Un (frs outer) [] H H' s.heap s'.heap∧HOk P w H' s'.heap ∧
 Exc s.heap s'.heap H' [] a cls∧E cls none H'
section
variable {X:Cx} {pins:List (Addr × Obj)} {σ:St} {H:Hp} {s:Shared} {G:GK}
theorem wy {e:Value} {s':Shared} (B:Bod X) (I:Inv X pins σ H s) (h:CXr X.prog X.w X.stack H s (fun cls _ H'=>G cls σ H') e s'):xeG X G e s':=by
 obtain ⟨a,cls,H',rfl,os,bare,un,hok,⟨⟨oe,vs,T,oT,ts,h1,h2,h3,h4,h5,h6,h7,h8,h9,h10,h11,_⟩,ga,Ha,_⟩,hG⟩:=h
 have I':Inv X pins σ H' s':=I.call' os un hok bare (fun b z=>absurd z (by simp))
 have old:∀ b,s.heap.get? b=none→X.s₀.heap.get? b=none:=fun b hb=>by
  cases e:X.s₀.heap.get? b with
  | none=>rfl
  | some o =>
   obtain ⟨o',e'⟩:=I.base.there b o e (by rw [B.ex]; simp)
   rw [hb] at e'; cases e'
 have pin:∀ b,s.heap.get? b=none→∀ p∈X.pn ++ pins,p.1≠b:=fun b hb p hp z=>by
  have:=(I.pin p hp).1
  rw [z,hb] at this; cases this
 refine Zg I' B.st B.fr B.ex h1 h3 h4 (old a ga) Ha (pin a ga) (.inr ⟨T,oT,ts,h5,h6,h7,h8,h9,old T h10,h11,pin T h10⟩) fun s'' I2 x=>?_
 exact ⟨a,oe.cls,σ,H',rfl,I2.nopins,x.less fun p hp=>List.mem_append_left _ hp,h2 ▸ hG⟩
theorem xeG_of_new {a:Addr} {cls:Value} {args:List Value} {h':Heap} (B:Bod X) (I:Inv X pins σ H s) (hm:Heap.MadeExcOf s.heap h' a cls args) (hG:G cls σ H):xeG X G (.ref a) { s with heap:=h' }:=by
 obtain ⟨t,h1,h2,h3⟩:=hm.there
 have I':Inv X pins σ H { s with heap:=h' }:=I.kept (t':=s.toks) hm.keeps
 have ga:X.s₀.heap.get? a=none:=by
  cases e:X.s₀.heap.get? a with
  | none=>rfl
  | some o =>
   obtain ⟨o',e'⟩:=I.base.there a o e (by rw [B.ex]; simp)
   rw [hm.new] at e'; cases e'
 have Ha:H a=none:=by
  cases e:H a with
  | none=>rfl
  | some u =>
   obtain ⟨o',e'⟩:=(I.hok a u e).there
   rw [hm.new] at e'; cases e'
 refine Zg (s:={ s with heap:=h' }) I' B.st B.fr B.ex h1 rfl rfl ga Ha (fun p hp z=>?_) (.inl rfl) fun s'' I2 x=>?_
 ·have:=(I.pin p hp).1
  rw [z,hm.new] at this; cases this
 ·exact ⟨a,cls,σ,H,rfl,I2.nopins,x.less fun p hp=>List.mem_append_left _ hp,hG⟩
end
section
variable {P:Program} {w:World} {K:PySem.W.Frag} {mg:Str→Option Value} {base:Heap}
abbrev cxR (P:Program) (w:World) (K:PySem.W.Frag) (mg:Str→Option Value) (base:Heap) (N:List Str) (qual:Str) (scope:Scope) (f:Addr) (cd:Value) (A:Around) (outer:List Env) (s:Shared) (H:Hp) (E:XK):Cx :=
 cxOf (CXr P w) P w K mg base N qual scope f cd A outer s H E
theorem Fun.okx {x qual:Str} {st:Stmt} {f:Addr} {fd:FuncData} {N ps:List Str} {k:Nat} {sp:Sp} (F:Fun K x qual st f fd) (S:FnScope N ps (zf st)) (len:∀ vs H Q E,sp vs H Q E→vs.length=ps.length)
  (hbody:∀ (cdv:Value) (A:Around) (outer:List Env) (s:Shared) (H:Hp) (vs:List V) (Q:VK) (E:XK),Room k (A.deeper (envOfC qual (zf st) s.heap.objs.size f cdv))→sp vs H Q E →
   ∃ t,PSs ((cxR P w K mg base N qual (zf st) f cdv A outer s H E).exg fun cls _ H'=>E cls none H') (zU st) t∧t { nx:=fun _ H'=>Q .non H',rt:=Q } (start N vs) H):FnOk P w K mg base (CXr P w) (k + 1) f fd ps sp:=by
 obtain ⟨oc,od,kV,doc,pm,an,cdv,ct,osl,rfl,lk,hcd⟩:=F.ex
 refine JS lk hcd S len fun A outer s H vs Q E hr hsp=>?_
 obtain ⟨t,h,q⟩:=hbody cdv A outer s H vs Q E hr hsp
 refine ⟨t,fun pins s σ H' D I hw=>?_,q⟩
 refine wpAny_mono (h pins s σ H' D (I.wish _) hw) (fun _ _ z=>z.unwish) fun e s' z=>?_
 refine wpAny_bind (wpAny_mono (show wpAny _ _ _ _ _ _ from z) (fun _ s1 y1=>wpAny_mono y1 (fun _ s'' y=>?_) fun _ _ y=>y.elim) fun _ _ y=>y.elim)
 obtain ⟨a,cls,σ2,H2,rfl,J,xx,g⟩:=y
 exact ⟨a,cls,H2,rfl,J.os,J.bare,J.base,J.hok,xx.less (fun p hp=>absurd hp (by simp)),g⟩
end
end L2
namespace L2
open PySem PySem.Spec PyProof.Rows
structure Cal (P:Program) (w:World) (K:PySem.W.Frag) (mg:Str→Option Value) (base:Heap) (x:Str) (k:Nat) (ps:List Str) (dvs:List V) (sp:Sp):Prop where
 ex:∃ f fd ds,FnOk P w K mg base (CXr P w) k f fd ps sp∧mg x=some (.ref f)∧PySem.W.keepIn K (.ref f)=true∧Binds K fd ps ds∧Vals dvs ds
structure MCal (P:Program) (w:World) (K:PySem.W.Frag) (mg:Str→Option Value) (base:Heap) (C:Addr) (m:Str) (k:Nat) (ps:List Str) (dvs:List V) (sp:Sp):Prop where
 cl:Cls K C
 ex:∃ f fd ds,FnOk P w K mg base (CXr P w) k f fd ps sp∧Meth K C m f∧Binds K fd ps ds∧Vals dvs ds
structure KCal (P:Program) (w:World) (K:PySem.W.Frag) (mg:Str→Option Value) (base:Heap) (x:Str) (C:Addr) (k:Nat) (ps:List Str) (dvs:List V) (sp:Sp):Prop where
 gl:mg x=some (.ref C)
 ex:∃ f fd ds,FnOk P w K mg base (CXr P w) k f fd ps sp∧Mk K C f∧Binds K fd ps ds∧Vals dvs ds
theorem Cal.mono {P:Program} {w:World} {K:PySem.W.Frag} {mg:Str→Option Value} {base:Heap} {x:Str} {j k:Nat} {ps:List Str} {dvs:List V} {sp:Sp} (c:Cal P w K mg base x j ps dvs sp) (h:j≤k:=by decide):Cal P w K mg base x k ps dvs sp :=
 let ⟨f,fd,ds,a,b⟩:=c.ex; ⟨f,fd,ds,a.mono h,b⟩
theorem MCal.mono {P:Program} {w:World} {K:PySem.W.Frag} {mg:Str→Option Value} {base:Heap} {C:Addr} {m:Str} {j k:Nat} {ps:List Str} {dvs:List V} {sp:Sp} (c:MCal P w K mg base C m j ps dvs sp) (h:j≤k:=by decide):MCal P w K mg base C m k ps dvs sp :=
 let ⟨f,fd,ds,a,b⟩:=c.ex; ⟨c.cl,f,fd,ds,a.mono h,b⟩
theorem KCal.mono {P:Program} {w:World} {K:PySem.W.Frag} {mg:Str→Option Value} {base:Heap} {x:Str} {C:Addr} {j k:Nat} {ps:List Str} {dvs:List V} {sp:Sp} (c:KCal P w K mg base x C j ps dvs sp) (h:j≤k:=by decide):KCal P w K mg base x C k ps dvs sp :=
 let ⟨f,fd,ds,a,b⟩:=c.ex; ⟨c.gl,f,fd,ds,a.mono h,b⟩
section
variable {X:Cx} {G:GK} {k:Nat} {f C:Addr} {fd:FuncData} {ps:List Str} {sp:Sp} {dvs:List V} {ds:List Value} {x m:Str} {p pos apos:Pos} {e o:Expr} {es:List Expr} {ta:TE} {t:TA}
theorem Zz {pins:List (Addr × Obj)} {σ:St} {H:Hp} {s:Shared} {Q:VK} {us:List Value} {vs:List V} (B:Bod X) (F:FnOk X.prog X.w X.K X.mg X.base (CXr X.prog X.w) k f fd ps sp) (hr:Room k X.A) (hb:Binds X.K fd ps ds) (hd:Vals dvs ds)
  (I:Inv (X.exg G) pins σ H s) (r:Vals vs us) (h:sp (vs ++ dvs) H Q (fun cls _ H'=>G cls σ H')):wpAny (model X.prog X.w) X.A (call (.ref f) us) (EP (X.exg G) pins σ Q) (xeG X G) s:=by
 have r2:Vals (vs ++ dvs) (us ++ ds):=r.append hd
 have hl:(us ++ ds).length=ps.length:=by rw [← r2.length]; exact F.len _ _ _ _ h
 refine wpAny_call (codeAny_mono (F.run X.A X.stack s H ⟨us,[]⟩ (us ++ ds) (vs ++ dvs) Q _ hr I.unwish.env0 (hb s us I.kIn hl) r2 h) fun r s' hq=>?_)
 cases r with
 | error e=>exact wy B I.unwish hq
 | ok fl =>
  cases fl with
  | ret u=>exact I.after hq
  | next=>exact False.elim hq
  | brk=>exact False.elim hq
  | cont=>exact False.elim hq
theorem run_makex {pins:List (Addr × Obj)} {σ:St} {H:Hp} {s:Shared} {Q:VK} {us:List Value} {vs:List V} (B:Bod X) (M:Mk X.K C f) (F:FnOk X.prog X.w X.K X.mg X.base (CXr X.prog X.w) k f fd ps sp) (hr:Room (k + 1) X.A) (hb:Binds X.K fd ps ds) (hd:Vals dvs ds)
  (I:Inv (X.exg G) pins σ H s) (r:Vals vs us)
  (h:∀ x dx,H x=none→H dx=none→dx≠x→sp (.ref x :: (vs ++ dvs)) (upd (upd H dx (.own x)) x (.ins C dx [])) (fun v H2=>v=.non∧Q (.ref x) H2) (fun cls _ H'=>G cls σ H')) :
  wpAny (model X.prog X.w) X.A (call (.ref C) us) (EP (X.exg G) pins σ Q) (xeG X G) s:=by
 have hq:=h (s.heap.objs.size + 1) s.heap.objs.size (I.hok.fresh (Nat.le_succ _)) (I.hok.fresh (Nat.le_refl _)) (Nat.ne_of_lt (Nat.lt_succ_self _))
 have I2:=Inv.made (C:=C) I
 have r2:Vals (V.ref (s.heap.objs.size + 1) :: (vs ++ dvs)) (Value.ref (s.heap.objs.size + 1) :: (us ++ ds)):=.cons rfl (r.append hd)
 have hl:(Value.ref (s.heap.objs.size + 1) :: us ++ ds).length=ps.length:=by
  have e:=r2.length
  rw [F.len _ _ _ _ hq] at e
  exact e.symm
 refine wpAny_call (Qq (f:=f) I.kIn M.makes M.init (beq_iff_eq.mp M.fn) (codeAny_mono (F.run _ X.stack _ _ ⟨Value.ref (s.heap.objs.size + 1) :: us,[]⟩ (Value.ref (s.heap.objs.size + 1) :: (us ++ ds)) _ _ _ (hr.make C us [])
  (I2.unwish.env0.make C us []) (hb _ (Value.ref (s.heap.objs.size + 1) :: us) I2.kIn hl) r2 hq) fun r s' hq'=>?_))
 cases r with
 | error e=>exact wy B I2.unwish hq'
 | ok fl =>
  cases fl with
  | ret u =>
   obtain ⟨v,H',I3,rv,ev,q3⟩:=I2.after hq'
   subst ev
   exact ⟨rv,⟨V.ref (s.heap.objs.size + 1),H',I3,rfl,q3⟩⟩
  | next=>exact False.elim hq'
  | brk=>exact False.elim hq'
  | cont=>exact False.elim hq'
def tCl (X:Cx) (k:Nat) (x:Str) (G:GK) (t:TA):TE:=fun σ H Q=>∃ ps dvs sp,Cal X.prog X.w X.K X.mg X.base x k ps dvs sp∧t σ H fun vs H1=>sp (vs ++ dvs) H1 Q (fun cls _ H'=>G cls σ H')
theorem zv (B:Bod X) (hr:Room k X.A) (ha:PA (X.exg G) (e :: es) t) (hg:Gl X x:=by rfl) (hdb:(x == ("__debug__":Str))=false:=by decide)
  (he:starEach (e :: es) X.env=(false,eval e X.env) :: starEach es X.env:=by rfl) (hpl:(backTo pos (starEach es X.env)).any (·.1)=false:=by rfl) :
  PE (X.exg G) (.Call (.Name x p) (e :: es) [] pos) (tCl X k x G t):=by
 intro pins s σ H Q I h
 obtain ⟨ps,dvs,sp,⟨f,fd,ds,F,hm,hk,hb,hd⟩,h⟩:=h
 refine wpAny_Call_Name_kw (jF I hg hm ?_ hdb)
 refine PySem.W.callWith_K (h₀:=X.base) I.ok.mod.kin hk (thn (ha pos pins s σ H _ I h) fun us s1 ⟨vs,H1,I1,r,q⟩=>⟨I1.kIn,?_⟩) he hpl
 exact Zz B F hr hb hd I1 r q
def tMk (X:Cx) (k:Nat) (x:Str) (G:GK) (t:TA):TE:=fun σ H Q=>∃ C ps dvs sp,KCal X.prog X.w X.K X.mg X.base x C k ps dvs sp∧t σ H fun vs H1=>∀ y dx,H1 y=none→H1 dx=none→dx≠y →
 sp (.ref y :: (vs ++ dvs)) (upd (upd H1 dx (.own y)) y (.ins C dx [])) (fun v H2=>v=.non∧Q (.ref y) H2) (fun cls _ H'=>G cls σ H')
theorem qa (B:Bod X) (hr:Room (k + 1) X.A) (ha:PA (X.exg G) (e :: es) t) (hg:Gl X x:=by rfl) (hdb:(x == ("__debug__":Str))=false:=by decide)
  (he:starEach (e :: es) X.env=(false,eval e X.env) :: starEach es X.env:=by rfl) (hpl:(backTo pos (starEach es X.env)).any (·.1)=false:=by rfl) :
  PE (X.exg G) (.Call (.Name x p) (e :: es) [] pos) (tMk X k x G t):=by
 intro pins s σ H Q I h
 obtain ⟨C,ps,dvs,sp,⟨hm,f,fd,ds,F,M,hb,hd⟩,h⟩:=h
 refine wpAny_Call_Name_kw (jF I hg hm ?_ hdb)
 refine PySem.W.callWith_K (h₀:=X.base) I.ok.mod.kin M.kp (thn (ha pos pins s σ H _ I h) fun us s1 ⟨vs,H1,I1,r,q⟩=>⟨I1.kIn,?_⟩) he hpl
 exact run_makex B M F hr hb hd I1 r q
def tMth (X:Cx) (k:Nat) (m:Str) (G:GK) (ta:TE) (t:TA):TE:=fun σ H Q=>ta σ H fun y H1=>∃ a C dx fs ps dvs sp,y=.ref a∧H1 a=some (.ins C dx fs)∧fs.lookup m=none ∧
 MCal X.prog X.w X.K X.mg X.base C m k ps dvs sp∧t σ H1 fun vs H2=>sp (.ref a :: (vs ++ dvs)) H2 Q (fun cls _ H'=>G cls σ H')
theorem JJ {pl:Sem Bool} (B:Bod X) (hr:Room k X.A) (he:PE (X.exg G) o ta) (ha:PA (X.exg G) (e :: es) t)
  (hst:starEach (e :: es) X.env=(false,eval e X.env) :: starEach es X.env:=by rfl) (hpl:(backTo pos (starEach es X.env)).any (·.1)=false:=by rfl)
  (ht:eval (.Call (.Attribute o m apos) (e :: es) [] pos) X.env=(do
   let ov ← eval o X.env
   standAt apos.atName
   let (f,first) ← holding [ov] (getMethod ov m pl)
   callWith pos f first (backTo pos (starEach (e :: es) X.env)) (backToKw pos (keywordEach [] X.env))):=by rfl) :
  PE (X.exg G) (.Call (.Attribute o m apos) (e :: es) [] pos) (tMth X k m G ta t):=by
 intro pins s σ H Q I h
 refine PySem.W.methodCall_KW (pl:=pl) (thn (he pins s σ H _ I h) fun u s1 hz=>?_) ht
 obtain ⟨x,H1,I1,rx,a,C,dx,fs,ps,dvs,sp,ex,ea,l,⟨c,f,fd,ds,F,hm,hb,hd⟩,q⟩:=hz
 subst ex
 obtain rfl:u=Value.ref a:=rx
 refine vC I1 ea c hm l ?_
 refine PySem.W.callWith_K (first:=[.ref a]) (h₀:=X.base) I.ok.mod.kin hm.kp (thn (ha pos pins s1 σ H1 _ I1 q) fun us s2 ⟨vs,H2,I2,r,q2⟩=>⟨I2.kIn,?_⟩) hst hpl
 exact Zz (us:=.ref a :: us) (vs:=.ref a :: vs) B F hr hb hd I2 (.cons rfl r) q2
def tGl (X:Cx) (x:Str):TE:=fun _ H Q=>∃ v u,X.mg x=some u∧RelV v u∧Q v H
theorem xn (hg:Gl X x:=by rfl) (hd:(x == ("__debug__":Str))=false:=by decide):PE X (.Name x pos) (tGl X x):=fun _ _ _ H _ I h=>by
 obtain ⟨v,u,hm,r,h⟩:=h
 exact jF I hg hm ⟨v,H,I,r,h⟩ hd
def tBl (X:Cx) (x:Str) (v:V):TE:=fun _ H Q=>X.mg x=none∧Q v H
theorem Qh {n:String} (hv:bootBuiltins x=some (.type n)) (hg:Gl X x:=by rfl) (hn:x≠"__name__":=by decide) (hd:(x == ("__debug__":Str))=false:=by decide):PE X (.Name x pos) (tBl X x (.ty n)):=fun _ _ _ H _ I h=>by
 obtain ⟨hm,h⟩:=h
 exact jp I hg hm hv ⟨.ty n,H,I,rfl,h⟩ hn hd
def tBi (X:Cx) (x:Str) (r:List V→Hp→VK→Prop) (t:TA):TE:=fun σ H Q=>X.mg x=none∧t σ H fun vs H1=>r vs H1 Q
theorem zV {id:String} {r:List V→Hp→VK→Prop} (hc:CallR X (.builtin id) r) (hv:bootBuiltins x=some (.builtin id)) (ha:PA X (e :: es) t) (hg:Gl X x:=by rfl) (hn:x≠"__name__":=by decide) (hdb:(x == ("__debug__":Str))=false:=by decide)
  (he:starEach (e :: es) X.env=(false,eval e X.env) :: starEach es X.env:=by rfl) (hpl:(backTo pos (starEach es X.env)).any (·.1)=false:=by rfl):PE X (.Call (.Name x p) (e :: es) [] pos) (tBi X x r t):=fun pins s σ H Q I h =>
 pe_callB hc hg h.1 hv ha hn hdb he hpl pins s σ H Q I h.2
theorem xR {T:String} {r:List V→Hp→VK→Prop} (hc:CallR X (.type T) r) (hv:bootBuiltins x=some (.type T)) (ha:PA X (e :: es) t) (hg:Gl X x:=by rfl) (hn:x≠"__name__":=by decide) (hdb:(x == ("__debug__":Str))=false:=by decide)
  (he:starEach (e :: es) X.env=(false,eval e X.env) :: starEach es X.env:=by rfl) (hpl:(backTo pos (starEach es X.env)).any (·.1)=false:=by rfl):PE X (.Call (.Name x p) (e :: es) [] pos) (tBi X x r t):=fun pins s σ H Q I h =>
 pe_callTy hc hg h.1 hv ha hn hdb he hpl pins s σ H Q I h.2
end
end L2
namespace L2
open PySem PySem.Spec PyProof.Rows
section
variable {X:Cx} {tg:Expr} {a b c e o:Expr} {ta tb tc:TE} {pos:Pos}
def iSeq (K:PySem.W.Frag) (tl:TE):TI:=fun σ H R=>tl σ H fun x H1=>∃ a,x=.ref a∧(((∃ xs,SqL K H1 a xs)∧R (Itl K a) H1)∨((∃ xs,SqT K H1 a xs)∧R (Itt K a) H1))
theorem ql {l:Expr} {tl:TE} (hl:PE X l tl):PI X tg l (iSeq X.K tl):=by
 intro pins s σ H R I h
 refine thn (hl pins s σ H _ I h) fun v s1 ⟨x,H1,I1,r1,q1⟩=>?_
 obtain ⟨a,e,q⟩:=q1
 subst e
 cases r1
 rcases q with ⟨⟨xs,hq⟩,q⟩ | ⟨⟨xs,hq⟩,q⟩
 ·obtain ⟨its,rv,p,hz⟩:=I1.list hq
  refine wpAny_pyIter_list p.isList ?_
  refine ⟨s1.heap.objs.size,[s1.heap.objs.size],_,_,H1,rfl,I1.kept (t':=s1.toks) fun b o e=>Heap.get?_push_of_some _ e,turn_list a _,⟨_,Heap.get?_push_size _ rfl,rfl,rfl⟩,fun b hb=>?_,q⟩
  have e:b=s1.heap.objs.size:=by simpa using hb
  subst e
  exact I1.fpOk (Nat.le_refl _) (I1.hok.fresh (Nat.le_refl _))
 ·obtain ⟨its,rv,p,hz⟩:=I1.tuple hq
  refine wpAny_pyIter_tuple (show s1.heap.IsTuple a its.toArray from p) ?_
  refine ⟨s1.heap.objs.size,[s1.heap.objs.size],_,_,H1,rfl,I1.kept (t':=s1.toks) fun b o e=>Heap.get?_push_of_some _ e,turn_tuple a _,⟨_,Heap.get?_push_size _ rfl,rfl,rfl⟩,fun b hb=>?_,q⟩
  have e:b=s1.heap.objs.size:=by simpa using hb
  subst e
  exact I1.fpOk (Nat.le_refl _) (I1.hok.fresh (Nat.le_refl _))
theorem jT {ta:TA} {p pos:Pos} (ha:PA X [a] ta) (hg:Gl X "range":=by rfl) (hs:starEach [a] X.env=[(false,eval a X.env)]:=by rfl):PI X tg (.Call (.Name "range" p) [a] [] pos) (fun σ H R=>X.mg "range"=none∧iRng1 ta σ H R) :=
 fun pins s σ H R I h=>pi_range1 hg h.1 ha hs pins s σ H R I h.2
def J8 (K:PySem.W.Frag):R2:=fun x y H Q=>∃ l b xs zs,x=.ref l∧y=.ref b∧SqL K H l xs∧SqL K H b zs∧xs.length + zs.length≤sizeLine∧∀ p,H p=none→Q (.ref p) (upd H p (.lst (xs ++ zs)))
theorem op_catS:OpR X (binaryOp .Add) (J8 X.K):=by
 intro pins s σ H x y v u Q I rx ry h
 obtain ⟨l,b,xs,zs,rfl,rfl,hH,hB,hz,q⟩:=h
 cases rx
 cases ry
 obtain ⟨its,r,p,z⟩:=I.list hH
 obtain ⟨its2,r2,p2,z2⟩:=I.list hB
 have e1:=r.length
 have e2:=r2.length
 obtain ⟨⟨cls,dd,data,sl⟩,n,ho,hc,hdd,hd⟩:=p
 obtain ⟨⟨cls2,dd2,data2,sl2⟩,n2,ho2,hc2,hdd2,hd2⟩:=p2
 simp only at hc hd hc2 hd2
 subst hc hd hc2 hd2
 have ea:its.toArray ++ its2.toArray=(its ++ its2).toArray:=by simp
 refine concat_meets ⟨_,ho,rfl⟩ ⟨_,ho2,rfl⟩ noFill_list_add seq_list_add PySem.F.slot_list_add PySem.F.entry_list_add (PySem.F.args_list_add_2 _ _) (list_addW l b its.toArray its2.toArray n n2 dd dd2 sl sl2 (by simp only [List.size_toArray]; omega)) ⟨ho,ho2,?_⟩
 rw [ea]
 exact ⟨.ref _,_,I.lnew (t':=s.toks) (r.append r2) (by rw [List.length_append]; omega),rfl,q _ I.fresh⟩
def Q3 (K:PySem.W.Frag):R2:=fun x y H Q=>rI0 (fun i j=>.int (i + j)) x y H Q∨(∃ i j,x=.str i∧y=.str j∧i.length + j.length≤sizeLine∧Q (.str (i ++ j)) H)∨J8 K x y H Q
theorem z7:OpR X (binaryOp .Add) (Q3 X.K):=op_add.or (op_add_str.or op_catS)
theorem ZF:OpR X (binaryOp .Mult) (rI (fun i j=>IntMulOk i j) fun i j=>.int (i * j)):=opI fun _ _ _ _ _ _ _ hc q=>mul_int q hc
def CFd (_ j:Int):Prop:=j≠0∧j.natAbs.log2 < 9000
theorem zK:OpR X (binaryOp .FloorDiv) (rI CFd fun i j=>.int (i.fdiv j)):=opI fun _ _ _ _ _ _ _ hc q=>floordiv_int hc.1 q (.inl (PyProof.noPylong_of_log2 hc.2))
theorem Qj:OpR X (compareOp .Lt) (rI0 fun i j=>.bl (decide (i < j))):=op_lt
theorem og_gt:OpR X (compareOp .Gt) (rI0 fun i j=>.bl (decide (j < i))):=op_gt
theorem mul_okL {i j:Int} (h1:-(2 ^ 64) < i) (h2:i < 2 ^ 64):IntMulOk i j:=PySem.IntMulOk.of_left (PySem.intBits_le_64 h1 h2)
theorem mul_okR {i j:Int} (h1:-(2 ^ 64) < j) (h2:j < 2 ^ 64):IntMulOk i j:=PySem.IntMulOk.of_right (PySem.intBits_le_64 h1 h2)
theorem fd_ok {i j:Int} (h1:0 < j) (h2:j.natAbs < 2 ^ 8999):CFd i j:=⟨by omega,by
 have:=(Nat.log2_lt (n:=j.natAbs) (k:=8999) (by omega)).mpr h2
 omega⟩
theorem fdiv_pos {i j:Int} (h:0 < j):i.fdiv j=i / j:=Int.fdiv_eq_ediv_of_nonneg i (Int.le_of_lt h)
def qT:List V→List V→Bool
 | [],[]=>true
 | x :: xs,y :: ys=>eqV x y && qT xs ys
 | _,_=>false
theorem jr:∀ {xs ys:List V},xs.length≠ys.length→qT xs ys=false
 | [],[],h=>absurd rfl h
 | [],_ :: _,_=>rfl
 | _ :: _,[],_=>rfl
 | x :: xs,y :: ys,h=>by
  have:=jr (xs:=xs) (ys:=ys) (fun e=>h (by simp [e]))
  unfold qT
  rw [this,Bool.and_false]
theorem js:∀ {xs ys:List V},xs.length=ys.length→(List.range xs.length).all (fun j=>eqV (xs.getD j .non) (ys.getD j .non))=qT xs ys
 | [],[],_=>rfl
 | [],_ :: _,h=>by simp at h
 | _ :: _,[],h=>by simp at h
 | x :: xs,y :: ys,h=>by
  have ih:=js (xs:=xs) (ys:=ys) (by simpa using h)
  unfold qT
  rw [← ih,List.length_cons,List.range_succ_eq_map,List.all_cons,List.all_map]
  rfl
theorem Vals.getD:∀ {xs:List V} {us:List Value} {j:Nat} (h:j < us.length),Vals xs us→RelV (xs.getD j .non) us[j]
 | _,_,0,_,.cons r _=>r
 | _,_,j + 1,h,.cons _ t=>Vals.getD (j:=j) (by simpa using h) t
theorem qY {xs:List V} (f:xs.all ju=true) (j:Nat):ju (xs.getD j .non)=true:=by
 rw [List.getD_eq_getElem?_getD]
 cases e:xs[j]? with
 | none=>rfl
 | some x=>exact List.all_eq_true.mp f x (List.mem_of_getElem? e)
def rEqS (K:PySem.W.Frag) (neg:Bool):R2:=fun x y H Q=>∃ a b xs ys,x=.ref a∧y=.ref b∧((SqL K H a xs∧SqL K H b ys)∨(SqT K H a xs∧SqT K H b ys))∧xs.all ju=true∧ys.all ju=true∧Q (.bl (if neg then !qT xs ys else qT xs ys)) H
theorem Zb (hu:X.A.units < cLine):OpR X (compareOp .Eq) (rEqS X.K false):=by
 intro pins s σ H x y v u Q I rx ry h
 obtain ⟨a,b,xs,ys,rfl,rfl,hq,fx,fy,q⟩:=h
 cases rx
 cases ry
 have fin:EP X pins σ Q (.bool (qT xs ys)) s:=⟨.bl (qT xs ys),H,I,rfl,q⟩
 rcases hq with ⟨h1,h2⟩ | ⟨h1,h2⟩
 ·obtain ⟨its,r,p,_⟩:=I.list h1
  obtain ⟨its2,r2,p2,_⟩:=I.list h2
  have e1:=r.length
  have e2:=r2.length
  by_cases hl:xs.length=ys.length
  ·refine SeqAt.RcAt.lists (e:=fun j=>eqV (xs.getD j .non) (ys.getD j .non)) p.isList p2.isList (by simp only [List.size_toArray]; omega) hu (fun j h1 h2=>?_) _ _ _ _ ?_
   ·exact vF (Vals.getD (by simpa using h1) r) (Vals.getD (by simpa using h2) r2) (qY fx j) (qY fy j)
   ·rw [List.size_toArray,← e1,js hl]; exact fin
  ·rw [jr hl] at fin
   exact SeqAt.RcAt.lists_lengths p.isList p2.isList (by simp only [List.size_toArray]; simp; omega) hu _ _ _ _ fin
 ·obtain ⟨its,r,p,_⟩:=I.tuple h1
  obtain ⟨its2,r2,p2,_⟩:=I.tuple h2
  have e1:=r.length
  have e2:=r2.length
  refine SeqAt.RcAt.tuples (e:=fun j=>eqV (xs.getD j .non) (ys.getD j .non)) p p2 hu (fun j h1 h2=>?_) _ _ _ _ ?_
  ·exact vF (Vals.getD (by simpa using h1) r) (Vals.getD (by simpa using h2) r2) (qY fx j) (qY fy j)
  ·by_cases hl:xs.length=ys.length
   ·have em:min its.toArray.size its2.toArray.size=xs.length:=by simp only [List.size_toArray]; omega
    have es:(its.toArray.size == its2.toArray.size)=true:=by simp only [List.size_toArray]; rw [beq_iff_eq]; omega
    rw [em,es,js hl,Bool.and_true]; exact fin
   ·have es:(its.toArray.size == its2.toArray.size)=false:=by simp only [List.size_toArray]; rw [beq_eq_false_iff_ne]; omega
    rw [es,Bool.and_false]
    rw [jr hl] at fin
    exact fin
theorem op_ne_seq (hu:X.A.units < cLine):OpR X (compareOp .NotEq) (rEqS X.K true):=by
 intro pins s σ H x y v u Q I rx ry h
 obtain ⟨a,b,xs,ys,rfl,rfl,hq,fx,fy,q⟩:=h
 cases rx
 cases ry
 have fin:EP X pins σ Q (.bool (!qT xs ys)) s:=⟨.bl (!qT xs ys),H,I,rfl,q⟩
 rcases hq with ⟨h1,h2⟩ | ⟨h1,h2⟩
 ·obtain ⟨its,r,p,_⟩:=I.list h1
  obtain ⟨its2,r2,p2,_⟩:=I.list h2
  have e1:=r.length
  have e2:=r2.length
  by_cases hl:xs.length=ys.length
  ·refine SeqAt.RcNeAt.lists (e:=fun j=>eqV (xs.getD j .non) (ys.getD j .non)) p.isList p2.isList (by simp only [List.size_toArray]; omega) hu (fun j h1 h2=>?_) _ _ _ _ ?_
   ·exact vF (Vals.getD (by simpa using h1) r) (Vals.getD (by simpa using h2) r2) (qY fx j) (qY fy j)
   ·rw [List.size_toArray,← e1,js hl]; exact fin
  ·rw [jr hl] at fin
   exact SeqAt.RcNeAt.lists_lengths p.isList p2.isList (by simp only [List.size_toArray]; simp; omega) hu _ _ _ _ fin
 ·obtain ⟨its,r,p,_⟩:=I.tuple h1
  obtain ⟨its2,r2,p2,_⟩:=I.tuple h2
  have e1:=r.length
  have e2:=r2.length
  refine SeqAt.RcNeAt.tuples (e:=fun j=>eqV (xs.getD j .non) (ys.getD j .non)) p p2 hu (fun j h1 h2=>?_) _ _ _ _ ?_
  ·exact vF (Vals.getD (by simpa using h1) r) (Vals.getD (by simpa using h2) r2) (qY fx j) (qY fy j)
  ·by_cases hl:xs.length=ys.length
   ·have em:min its.toArray.size its2.toArray.size=xs.length:=by simp only [List.size_toArray]; omega
    have es:(its.toArray.size == its2.toArray.size)=true:=by simp only [List.size_toArray]; rw [beq_iff_eq]; omega
    rw [em,es,js hl,Bool.and_true]; exact fin
   ·have es:(its.toArray.size == its2.toArray.size)=false:=by simp only [List.size_toArray]; rw [beq_eq_false_iff_ne]; omega
    rw [es,Bool.and_false]
    rw [jr hl] at fin
    exact fin
inductive DE (K:PySem.W.Frag) (H:Hp):Nat→V→V→Bool→Prop
 | flat {n:Nat} {x y:V}:ju x=true→ju y=true→DE K H n x y (eqV x y)
 | same {n:Nat} {p:Addr}:DE K H n (.ref p) (.ref p) true
 | lists {n:Nat} {p q:Addr} {xs ys:List V} {e:Nat→Bool}:p≠q→SqL K H p xs→SqL K H q ys→xs.length=ys.length→(∀ j x y,xs[j]?=some x→ys[j]?=some y→DE K H n x y (e j))→DE K H (n + 1) (.ref p) (.ref q) ((List.range xs.length).all e)
 | listsL {n:Nat} {p q:Addr} {xs ys:List V}:p≠q→SqL K H p xs→SqL K H q ys→xs.length≠ys.length→DE K H (n + 1) (.ref p) (.ref q) false
 | tuples {n:Nat} {p q:Addr} {xs ys:List V} {e:Nat→Bool}:p≠q→SqT K H p xs→SqT K H q ys→(∀ j x y,xs[j]?=some x→ys[j]?=some y→DE K H n x y (e j))→DE K H (n + 1) (.ref p) (.ref q) ((List.range (min xs.length ys.length)).all e && xs.length == ys.length)
theorem Vals.at_ {xs:List V} {us:List Value} (r:Vals xs us) {j:Nat} (h:j < us.toArray.size):∃ x,xs[j]?=some x∧RelV x us.toArray[j]:=by
 have h':j < us.length:=by simpa using h
 have hl:j < xs.length:=by rw [r.length]; exact h'
 obtain ⟨u,hu,ru⟩:=r.get (List.getElem?_eq_getElem hl)
 have e:us.toArray[j]=u:=by
  have:=List.getElem?_eq_some_iff.mp hu
  obtain ⟨_,e⟩:=this
  simpa using e
 exact ⟨xs[j],List.getElem?_eq_getElem hl,e ▸ ru⟩
theorem Jq {pins:List (Addr × Obj)} {s:Shared} {σ:St} {H:Hp} {n:Nat} {x y:V} {b:Bool} (I:Inv X pins σ H s) (h:DE X.K H n x y b):∀ {u v:Value} {A:Around},RelV x u→RelV y v→A.units + n < cLine→SeqAt.EqAt A s u v b:=by
 induction h with
 | flat fx fy=>intro u v A rx ry _; exact vF rx ry fx fy
 | same=>intro u v A rx ry _; cases rx; cases ry; exact SeqAt.EqAt.same _
 | lists hne h1 h2 hl _ ih =>
  intro u v A rx ry hu
  cases rx; cases ry
  obtain ⟨its,r,p,_⟩:=I.list h1
  obtain ⟨its2,r2,p2,_⟩:=I.list h2
  have e1:=r.length
  have e2:=r2.length
  refine SeqAt.EqAt.of_refs hne ?_
  have:=SeqAt.RcAt.lists (A:=A) (s:=s) p.isList p2.isList (by simp only [List.size_toArray]; omega) (by omega) (fun j h1 h2=>by
   obtain ⟨x,hx,rx⟩:=r.at_ h1
   obtain ⟨y,hy,ry⟩:=r2.at_ h2
   exact ih j x y hx hy rx ry (by show A.units + 1 + _ < _; omega))
  rw [List.size_toArray,← e1] at this
  exact this
 | listsL hne h1 h2 hl =>
  intro u v A rx ry hu
  cases rx; cases ry
  obtain ⟨its,r,p,_⟩:=I.list h1
  obtain ⟨its2,r2,p2,_⟩:=I.list h2
  have e1:=r.length
  have e2:=r2.length
  exact SeqAt.EqAt.of_refs hne (SeqAt.RcAt.lists_lengths p.isList p2.isList (by simp only [List.size_toArray]; simp; omega) (by omega))
 | tuples hne h1 h2 _ ih =>
  intro u v A rx ry hu
  cases rx; cases ry
  obtain ⟨its,r,p,_⟩:=I.tuple h1
  obtain ⟨its2,r2,p2,_⟩:=I.tuple h2
  have e1:=r.length
  have e2:=r2.length
  refine SeqAt.EqAt.of_refs hne ?_
  have:=SeqAt.RcAt.tuples (A:=A) (s:=s) p p2 (by omega) (fun j h1 h2=>by
   obtain ⟨x,hx,rx⟩:=r.at_ h1
   obtain ⟨y,hy,ry⟩:=r2.at_ h2
   exact ih j x y hx hy rx ry (by show A.units + 1 + _ < _; omega))
  simp only [List.size_toArray,← e1,← e2] at this
  exact this
def rEqD (K:PySem.W.Frag) (neg:Bool):R2:=fun x y H Q=>∃ p q xs ys n e,x=.ref p∧y=.ref q∧n≤8∧(∀ j x y,xs[j]?=some x→ys[j]?=some y→DE K H n x y (e j)) ∧
 ((SqL K H p xs∧SqL K H q ys∧xs.length=ys.length∧Q (.bl (if neg then !((List.range xs.length).all e) else (List.range xs.length).all e)) H) ∨
   (SqT K H p xs∧SqT K H q ys∧Q (.bl (if neg then !((List.range (min xs.length ys.length)).all e && xs.length == ys.length) else ((List.range (min xs.length ys.length)).all e && xs.length == ys.length))) H))
theorem op_eq_deep (hu:X.A.units + 100 < cLine):OpR X (compareOp .Eq) (rEqD X.K false):=by
 intro pins s σ H x y v u Q I rx ry h
 obtain ⟨p,q,xs,ys,n,e,rfl,rfl,hn,hde,h⟩:=h
 cases rx
 cases ry
 rcases h with ⟨h1,h2,hl,q⟩ | ⟨h1,h2,q⟩
 ·obtain ⟨its,r,p,_⟩:=I.list h1
  obtain ⟨its2,r2,p2,_⟩:=I.list h2
  have e1:=r.length
  have e2:=r2.length
  refine SeqAt.RcAt.lists (e:=e) p.isList p2.isList (by simp only [List.size_toArray]; omega) (by omega) (fun j h1 h2=>?_) _ _ _ _ ?_
  ·obtain ⟨x,hx,rx⟩:=r.at_ h1
   obtain ⟨y,hy,ry⟩:=r2.at_ h2
   exact Jq I (hde j x y hx hy) rx ry (by show X.A.units + 1 + _ < _; omega)
  ·rw [List.size_toArray,← e1]; exact ⟨.bl _,H,I,rfl,q⟩
 ·obtain ⟨its,r,p,_⟩:=I.tuple h1
  obtain ⟨its2,r2,p2,_⟩:=I.tuple h2
  have e1:=r.length
  have e2:=r2.length
  refine SeqAt.RcAt.tuples (e:=e) p p2 (by omega) (fun j h1 h2=>?_) _ _ _ _ ?_
  ·obtain ⟨x,hx,rx⟩:=r.at_ h1
   obtain ⟨y,hy,ry⟩:=r2.at_ h2
   exact Jq I (hde j x y hx hy) rx ry (by show X.A.units + 1 + _ < _; omega)
  ·simp only [List.size_toArray,← e1,← e2]; exact ⟨.bl _,H,I,rfl,q⟩
theorem op_ne_deep (hu:X.A.units + 100 < cLine):OpR X (compareOp .NotEq) (rEqD X.K true):=by
 intro pins s σ H x y v u Q I rx ry h
 obtain ⟨p,q,xs,ys,n,e,rfl,rfl,hn,hde,h⟩:=h
 cases rx
 cases ry
 rcases h with ⟨h1,h2,hl,q⟩ | ⟨h1,h2,q⟩
 ·obtain ⟨its,r,p,_⟩:=I.list h1
  obtain ⟨its2,r2,p2,_⟩:=I.list h2
  have e1:=r.length
  have e2:=r2.length
  refine SeqAt.RcNeAt.lists (e:=e) p.isList p2.isList (by simp only [List.size_toArray]; omega) (by omega) (fun j h1 h2=>?_) _ _ _ _ ?_
  ·obtain ⟨x,hx,rx⟩:=r.at_ h1
   obtain ⟨y,hy,ry⟩:=r2.at_ h2
   exact Jq I (hde j x y hx hy) rx ry (by show X.A.units + 1 + _ < _; omega)
  ·rw [List.size_toArray,← e1]; exact ⟨.bl _,H,I,rfl,q⟩
 ·obtain ⟨its,r,p,_⟩:=I.tuple h1
  obtain ⟨its2,r2,p2,_⟩:=I.tuple h2
  have e1:=r.length
  have e2:=r2.length
  refine SeqAt.RcNeAt.tuples (e:=e) p p2 (by omega) (fun j h1 h2=>?_) _ _ _ _ ?_
  ·obtain ⟨x,hx,rx⟩:=r.at_ h1
   obtain ⟨y,hy,ry⟩:=r2.at_ h2
   exact Jq I (hde j x y hx hy) rx ry (by show X.A.units + 1 + _ < _; omega)
  ·simp only [List.size_toArray,← e1,← e2]; exact ⟨.bl _,H,I,rfl,q⟩
def rEqG (K:PySem.W.Frag):R2:=fun x y H Q=>rEq x y H Q∨rEqS K false x y H Q∨rEqD K false x y H Q
def rNeG (K:PySem.W.Frag):R2:=fun x y H Q=>rNe x y H Q∨rEqS K true x y H Q∨rEqD K true x y H Q
theorem qr (hu:X.A.units + 100 < cLine):OpR X (compareOp .Eq) (rEqG X.K):=op_eq.or ((Zb (by omega)).or (op_eq_deep hu))
theorem jW (hu:X.A.units + 100 < cLine):OpR X (compareOp .NotEq) (rNeG X.K):=op_ne.or ((op_ne_seq (by omega)).or (op_ne_deep hu))
theorem Room.units1 {k:Nat} {A:Around} (r:Room k A):A.units + 100 < cLine:=by have:=r.un; omega
def clsV:V→Option Value
 | .ty n=>some (.type n)
 | .ref a=>some (.ref a)
 | _=>none
theorem zO:bootBuiltins "len"=some (.builtin "len"):=by decide +kernel
theorem qe:bootBuiltins "isinstance"=some (.builtin "isinstance"):=by decide +kernel
theorem bo_max:bootBuiltins "max"=some (.builtin "max"):=by decide +kernel
theorem bo_sorted:bootBuiltins "sorted"=some (.builtin "sorted"):=by decide +kernel
theorem bo_int:bootBuiltins "int"=some (.type "int"):=by decide +kernel
theorem qF:bootBuiltins "list"=some (.type "list"):=by decide +kernel
theorem bo_tuple:bootBuiltins "tuple"=some (.type "tuple"):=by decide +kernel
theorem bo_bool:bootBuiltins "bool"=some (.type "bool"):=by decide +kernel
theorem wH {K:PySem.W.Frag}:PySem.W.kitOne K (.type "int") (.type "int")=some true:=by rfl
theorem xX {K:PySem.W.Frag}:PySem.W.kitOne K (.type "int") (.type "bool")=some false:=by rfl
theorem xp {K:PySem.W.Frag}:PySem.W.kitOne K (.type "bool") (.type "bool")=some true:=by rfl
theorem wG {K:PySem.W.Frag}:PySem.W.kitOne K (.type "str") (.type "str")=some true:=by rfl
theorem kit_tup_tup {K:PySem.W.Frag}:PySem.W.kitOne K (.type "tuple") (.type "tuple")=some true:=by rfl
theorem ix_any:IxR X (rIx X.K):=ix_seq
theorem zP:CallR X (.builtin "len") (fun xs H Q=>∃ x n,xs=[x]∧LenV X.K x H n∧Q (.int n) H):=call_len
end
end L2
namespace L2
open PySem PySem.Spec PyProof.Rows
abbrev bmV:List Value:=[.type "ValueError",.type "Exception",.type "BaseException",.type "object"]
structure XC (K:PySem.W.Frag) (C:Addr):Prop where
 q:PySem.W.excIn K C bmV "ValueError.__new__"=true
theorem xc_obj {K:PySem.W.Frag} {C:Addr} {h₀:Heap} (X:K.In h₀) (x:XC K C):∃ bm N nm q bs hdct sn sub ab col dd k0 k1 k2 k3 k5 mN,h₀.get? C=some (excClassObj nm q C N bs bm hdct sn sub ab col dd k0 k1 k2 k3 k5 "ValueError.__new__")∧h₀.Ns N mN∧mN "__init__"=none∧OwnTail h₀ bmV bm:=by
 have q:=x.q
 unfold PySem.W.excIn at q
 split at q
 ·rename_i dd cd sl ho
  split at q
  ·rename_i C' bm k0 k1 k2 k3 n k5 hm hs
   simp only [Bool.and_eq_true,beq_iff_eq,Bool.not_eq_true'] at q
   obtain ⟨⟨⟨⟨⟨rfl,rfl⟩,hdel⟩,ht⟩,hok⟩,hni⟩:=q
   obtain ⟨nm,bs,mro,ns,qn,hd,sn,sub,ab,col,del⟩:=cd
   dsimp only at hm hdel hok hni
   subst hm hdel
   have hsl:sl=#[k0,k1,k2,k3,some (.builtin "ValueError.__new__"),k5]:=by
    obtain ⟨l⟩:=sl
    simp only at hs
    rw [hs]
   subst hsl
   exact ⟨bm,ns,nm,qn,bs,hd,sn,sub,ab,col,dd,k0,k1,k2,k3,k5,_,X _ _ ho,.of_isNs (PySem.W.isNs_of_in X hok),PySem.W.nsMap_none_of_in X hok hni,PySem.W.tail_of_in X ht⟩
  ·cases q
 ·cases q
section
variable {X:Cx} {G:GK} {x n:Str} {np cpos pos hpos:Pos} {e₀:Expr} {es:List Expr} {t:TA}
def tRaise (X:Cx) (x:Str) (G:GK) (t:TA):TS:=fun _ σ H=>∃ C,X.mg x=some (.ref C)∧XC X.K C∧t σ H fun vs H1=>vs.length≤sizeLine∧G (.ref C) σ H1
theorem qB (B:Bod X) (hc:X.calm=true) (ha:PA (X.exg G) (e₀ :: es) t) (hg:Gl X x:=by rfl) (hdb:(x == ("__debug__":Str))=false:=by decide)
  (he:starEach (e₀ :: es) X.env=(false,eval e₀ X.env) :: starEach es X.env:=by rfl) (hpl:(backTo cpos (starEach es X.env)).any (·.1)=false:=by rfl) :
  PS (X.exg G) (.Raise (some (.Call (.Name x np) (e₀ :: es) [] cpos)) none pos) (tRaise X x G t):=by
 intro pins s σ H D I h
 obtain ⟨C,hm,xc,h⟩:=h
 obtain ⟨tl,N,nm,q,bs,hdct,sn,sub,ab,col,dd,k0,k1,k2,k3,k5,mN,hC,hN,hni,T⟩:=xc_obj I.ok.mod.kin xc
 refine wpAny_Raise_call_subT (C:=C) (nm:=nm) (q:=q) (N:=N) (bs:=bs) (bm:=tl) (hdct:=hdct) (sn:=sn) (sub:=sub) (ab:=ab) (col:=col) (dd:=dd) (k0:=k0) (k1:=k1) (k2:=k2) (k3:=k3) (k5:=k5)
  F.excBase_ValueError (mN:=mN) (T.hasType F.excBase_ValueError.hasBase) (I.ok.hd hc) (by rw [he]; show (false || (backTo cpos (starEach es X.env)).any (·.1))=false; rw [hpl]; rfl) hni (jF I hg hm ⟨rfl,?_⟩ hdb)
 have hA:=ha cpos pins s σ H _ I h
 rw [he] at hA ⊢
 refine Calls.evalArgs_plain (thn hA fun us s2 ⟨vs,H2,I2,r,hl,g⟩=>?_)
 exact ⟨rfl,by rw [← r.length]; exact hl,I2.bk _ _ hC,hN.keeps I2.bk,T.keeps I2.bk,fun h' a hm=>xeG_of_new B I2.unwish hm g⟩
end
def excO (a:Addr) (cls:Value):HO:=.ext fun h=>∃ o vs,h.get? a=some o∧o.cls=cls∧o.dict=none∧o.data=.fields vs
theorem Exc.obj {g h:Heap} {H:Hp} {pn:List (Addr × Obj)} {a:Addr} {cls:Value} (x:Exc g h H pn a cls):∃ o vs,h.get? a=some o∧o.cls=cls∧o.dict=none∧o.data=.fields vs :=
 let ⟨oe,vs,_,_,_,h1,h2,h3,h4,_⟩:=x.ex; ⟨oe,vs,h1,h2,h3,h4⟩
section
variable {X:Cx} {pins:List (Addr × Obj)} {σ:St} {H:Hp} {s:Shared}
end
abbrev Cx.suite (X:Cx) (pn:List (Addr × Obj)) (a:Addr):Cx:={ X with pn:=pn,A:=X.A.mark (some (.ref a)),calm:=false,xe:=fun _ _=>False }
abbrev Cx.pinned (X:Cx) (pn:List (Addr × Obj)):Cx:={ X with pn:=pn }
section
variable {X:Cx} {pins:List (Addr × Obj)} {σ:St} {H:Hp} {s:Shared}
end
section
variable {X:Cx} {G:GK} {x n:Str} {np pos hpos:Pos} {i:Nat} {body suite:List Stmt} {b₀:Stmt} {tb:List (Addr × Obj)→GK→TS} {th:List (Addr × Obj)→Addr→TS}
def tTryAs (X:Cx) (i:Nat) (x:Str) (tb:List (Addr × Obj)→GK→TS) (th:List (Addr × Obj)→Addr→TS):TS:=fun D σ H=>∃ Dc,X.mg x=some (.ref Dc)∧PySem.W.subIn X.K (.ref Dc) (.type "BaseException")=some true ∧
 ∀ pn,tb pn (fun cls σ' H'=>∃ C,cls=.ref C∧PySem.W.kitCls X.K (.ref C) (.ref Dc)=some true∧∀ a,H' a=none →
  th pn a { nx:=fun σ2 H2=>D.nx (σ2.set i none) H2,rt:=D.rt,bk:=fun σ2 H2=>D.bk (σ2.set i none) H2,ct:=fun σ2 H2=>D.ct (σ2.set i none) H2 } (σ'.set i (some (.ref a))) (upd H' a (excO a (.ref C)))) D σ H
end
structure FA (K:PySem.W.Frag) (mg:Str→Option Value) (x:Str) (st:Stmt) (ps:List Str):Prop where
 ex:∃ f fd,Fun K x x st f fd∧mg x=some (.ref f)∧Binds K fd ps []
theorem FA.cal {P:Program} {w:World} {K:PySem.W.Frag} {mg:Str→Option Value} {base:Heap} {x:Str} {st:Stmt} {ps:List Str} {k:Nat} {sp:Sp} (h:FA K mg x st ps) (ok:∀ {f fd},Fun K x x st f fd→FnOk P w K mg base (CXr P w) k f fd ps sp) :
  Cal P w K mg base x k ps [] sp:=let ⟨f,fd,F,m,b⟩:=h.ex; ⟨f,fd,[],ok F,m,F.kp,b,.nil⟩
theorem fa_mk {K:PySem.W.Frag} {mg:Str→Option Value} {h:Heap} {x:Str} {st:Stmt} {ps:List Str} {f:Addr} {oc:Value} {od an:Option Addr} {osl:Array (Option Value)} {kV doc pm cdv ct:Value} (X:K.In h) (G:h.Ns mainGlobals mg)
  (a:PySem.W.nsIn K mainGlobals x=some (some (.ref f))) (l:K.lookup f=some ⟨oc,od,.func (PySem.W.fnOf x x (zY st) (zU st) (zf st) .none kV doc pm an cdv ct),osl⟩)
  (c:PySem.W.codeIn K cdv x=true) (k:PySem.W.keepIn K (.ref f)=true)
  (hb:∀ (kV doc pm:Value) (an:Option Addr) (cdv ct:Value) (us:List Value),us.length=ps.length→bindArgs (PySem.W.fnOf x x (zY st) (zU st) (zf st) .none kV doc pm an cdv ct) ⟨us,[]⟩=pure (ps.zip us)):FA K mg x st ps :=
 ⟨f,_,jG l c k,PySem.W.mg_of X G a,(jG l c k).binds hb⟩
theorem cxr_false {P:Program} {w:World} {H:Hp} {s:Shared} {e:Value} {s':Shared} (h:CXr P w [] H s (fun _ _ _=>False) e s'):False:=let ⟨_,_,_,_,_,_,_,_,_,z⟩:=h; z
end L2
namespace L2
open PySem PySem.Spec PySem.Calls PyProof.Rows
structure XI (K:PySem.W.Frag) (C:Addr):Prop where
 ga:PySem.W.findIn K (.ref C) "__getattribute__"=some (some (.builtin "BaseException.__getattribute__"))
 gt:PySem.W.findIn K (.ref C) "__getattr__"=some none
 cl:PySem.W.findIn K (.ref C) "__class__"=some (some (.builtin "object.__class__"))
 hd:PySem.W.hasDictIn K C=true
 gn:PySem.W.specialIn K (.builtin "object.__class__") "__get__"=some (some (.builtin "getset_descriptor.__get__"))
 tk:PySem.W.takesIn K (.builtin "object.__class__")=some true
 mo:PySem.W.mroIn K C (.type "object")=some true
 mb:PySem.W.subIn K (.ref C) (.type "BaseException")=some true
section
variable {prog:Program} {w:World} {A:Around} {E:Value→Shared→Prop} {s:Shared} {K:PySem.W.Frag} {a C:Addr} {o:Obj} {vs:Array Value}
theorem Qy {hp:Heap} (hx:hp.get? a=some o) (hc:o.cls=.ref C) (hd:o.dict=none) (hv:o.data=.fields vs):PySem.W.InstAt hp a o C none:=by
 refine ⟨hx,hc,?_,?_⟩
 ·obtain ⟨c,d,dt,sl⟩:=o
  simp only at hv
  subst hv
  rfl
 ·rw [hd]
  trivial
theorem exc_class {Q:Option Value→Shared→Prop} (X:K.In s.heap) (f:XI K C) (hx:s.heap.get? a=some o) (hc:o.cls=.ref C) (hd:o.dict=none) (hv:o.data=.fields vs)
  (h:Q (some (.ref C)) { s with toks:=s.toks + 1 }):wpAny (model prog w) A (getAttr? (.ref a) "__class__") Q E s:=by
 have I:=Qy hx hc hd hv
 have hf:PySem.W.findObj K C none "__class__"=some (.bind (.builtin "getset_descriptor.__get__") (.builtin "object.__class__")):=by
   obtain ⟨cd,hcd,_⟩:=PySem.W.any_some f.hd
   simp [PySem.W.findObj,hcd,f.cl,f.gn,f.tk]
 obtain ⟨hh,g,d,t,os⟩:=s
 have T0:=I.type (M:=model prog w)
 have T1:=PySem.W.looks_findIn (M:=model prog w) X f.ga
 have T2:=PySem.W.looks_find (M:=model prog w) X I hf
 have T3:=PySem.W.looks_findIn (M:=model prog w) X f.gt
 have T4:=PySem.W.looks_subIn (M:=model prog w) X f.mb
 have f3:=F.attr_ValueError.ga.bind (.ref a)
 unfold getAttr? getAttrBy? getAttrBy
 refine wpAny_bind (wpAny_mkText (wpAny_bind (wpAny_attempt (wpAny_holding (wpAny_bind (T0.at (wpAny_bind (T1.at ?_))))))))
 dsimp only
 have nga:(onTheHeap (Value.ref C) && Value.builtin "BaseException.__getattribute__" == Value.builtin "object.__getattribute__")=false:=by
  have z:(Value.builtin "BaseException.__getattribute__" == Value.builtin "object.__getattribute__")=false:=by decide +kernel
  rw [z,Bool.and_false]
 rw [nga,if_neg Bool.false_ne_true]
 unfold getAttrByItsOwn
 repeat (any_goals (first | assumption | with_reducible refine T0.at ?_ | with_reducible refine T3.at ?_ | with_reducible refine T1.at ?_ | wp_step))
 refine codeAny_call_builtin F.attr_ValueError.ga.plain F.entry_bexc_ga ?_
 have hk:builtinKind "BaseException.__getattribute__"=some .slot:=by decide +kernel
 have hsp:splitId "BaseException.__getattribute__"=some ("BaseException","__getattribute__"):=by decide +kernel
 have hav:=F.args_bexc_ga (.ref a) (Value.str (Str.ofString "__class__") t)
 simp only [checkBuiltinCall,hk,hsp]
 refine wpAny_bind ?_
 unfold isInstance
 repeat (first | with_reducible refine T2.at ?_ | with_reducible refine T0.at ?_ | with_reducible refine T4.at ?_ | wp_step)
 refine PySem.W.class_get (s:=⟨hh,g,d,t + 1,os⟩) (ox:=o) (od:=none) X I f.mo ?_
 refine wpAny_pure ?_
 refine PySem.W.handed_on rfl ?_
 exact wpAny_pure h
theorem kitx_exc {vs:Array Value} (f:XI K C):PySem.W.KitX K (.ref a) (.ref C) (fun h=>∃ o vs,h.get? a=some o∧o.cls=.ref C∧o.dict=none∧o.data=.fields vs) where
 ty:=fun M h _ ⟨o,vs,e,c,d,v⟩=>(Qy e c d v).type
 it:=fun _ _ X _=>by
  obtain ⟨cd,hcd,_⟩:=PySem.W.any_some f.hd
  unfold PySem.W.clsIn at hcd
  split at hcd
  ·rename_i c' d' cd' sl' ho
   intro A' Q' E' s' k q
   unfold isType loadHead
   exact wpAny_bind (wpAny_loadPart (k _ _ (X _ _ ho)) (wpAny_pure q))
  ·cases hcd
 ne:=fun h tp dd its n sl X htp=>by
  obtain ⟨cd,hcd,_⟩:=PySem.W.any_some f.hd
  refine Bool.eq_false_iff.mpr fun q=>?_
  have e:C=tp:=Value.ref.inj (beq_iff_eq.mp q)
  subst e
  unfold PySem.W.clsIn at hcd
  split at hcd
  ·rename_i ho
   have z:=(X _ _ ho).symm.trans htp
   cases z
  ·cases hcd
 ca:=fun X ⟨o,vs,e,c,d,v⟩ k=>exc_class X f e c d v k
end
inductive TyX (K:PySem.W.Frag) (H:Hp):V→Value→Prop where
 | old {x:V} {t:Value} (h:TyOf K H x t):TyX K H x t
 | exc {a C:Addr} (h:H a=some (excO a (.ref C))) (f:XI K C):TyX K H (.ref a) (.ref C)
def Ju:List V→Option (List Value)
 | []=>some []
 | c :: r=>match clsV c,Ju r with
  | some u,some us=>some (u :: us)
  | _,_=>none
theorem Jv {c:V} {u v:Value} (h:clsV c=some u) (r:RelV c v):v=u:=by
 cases c with
 | ty n=>cases r; exact Option.some.inj h
 | ref a=>cases r; exact Option.some.inj h
 | _=>cases h
theorem QD:∀ {cs:List V} {us vs:List Value},Ju cs=some us→Vals cs vs→vs=us
 | [],_,_,h,.nil=>Option.some.inj h
 | c :: r,us,v :: vs,h,.cons rc rr=>by
  unfold Ju at h
  split at h
  ·rename_i u us' h1 h2
   cases h
   rw [Jv h1 rc,QD h2 rr]
  ·cases h
theorem kit_of {X:Cx} {pins:List (Addr × Obj)} {σ:St} {H:Hp} {s:Shared} {x:V} {u t:Value} (I:Inv X pins σ H s) (rx:RelV x u) (ty:TyX X.K H x t) :
  ∃ Hx:Heap→Prop,PySem.W.KitX X.K u t Hx∧Hx s.heap∧u≠.builtin "__main__.__loader__#opaque":=by
 cases ty with
 | @exc a C ea f =>
  cases (show u=Value.ref a from rx)
  obtain ⟨p,_⟩:=(show ObjOk X.prog X.w H s.heap a (excO a (.ref C)) from I.hok a _ ea)
  exact ⟨_,kitx_exc (vs:=#[]) f,p,fun z=>nomatch z⟩
 | old ty =>
  cases ty with
  | non=>cases (show u=Value.none from rx); exact ⟨_,PySem.W.kitx_none,True.intro,fun z=>nomatch z⟩
  | bl y=>cases (show u=Value.bool y from rx); exact ⟨_,PySem.W.kitx_bool,True.intro,fun z=>nomatch z⟩
  | int i=>obtain ⟨t,q⟩:=(show ∃ t,u=Value.int i t from rx); cases q; exact ⟨_,PySem.W.kitx_int,True.intro,fun z=>nomatch z⟩
  | str y=>obtain ⟨t,q⟩:=(show ∃ t,u=Value.str y t from rx); cases q; exact ⟨_,PySem.W.kitx_str,True.intro,fun z=>nomatch z⟩
  | flt y=>obtain ⟨t,q⟩:=(show ∃ t,u=Value.float y t from rx); cases q; exact ⟨_,PySem.W.kitx_float,True.intro,fun z=>nomatch z⟩
  | @lst a xs ea =>
   cases (show u=Value.ref a from rx)
   obtain ⟨_,_,n,_,h1⟩:=(show ObjOk X.prog X.w H s.heap a (.lst xs) from I.hok a _ ea)
   exact ⟨_,PySem.W.kitx_list,⟨_,h1,rfl⟩,fun z=>nomatch z⟩
  | @frz a ob xs ea =>
   cases (show u=Value.ref a from rx)
   obtain ⟨_,_,_,n,_,h1⟩:=(show ObjOk X.prog X.w H s.heap a (.frz ob (.lst xs)) from I.hok a _ ea)
   exact ⟨_,PySem.W.kitx_list,⟨_,h1,rfl⟩,fun z=>nomatch z⟩
  | @tup a xs ea =>
   cases (show u=Value.ref a from rx)
   obtain ⟨_,_,_,p⟩:=(show ObjOk X.prog X.w H s.heap a (.tup xs) from I.hok a _ ea)
   obtain ⟨o,h1,h2,_⟩:=p
   exact ⟨_,PySem.W.kitx_tuple,⟨o,h1,h2⟩,fun z=>nomatch z⟩
  | @dK a kvs ea =>
   cases (show u=Value.ref a from rx)
   obtain ⟨_,_,vs,_,p⟩:=(show ObjOk X.prog X.w H s.heap a (.dK kvs) from I.hok a _ ea)
   obtain ⟨o,es,ep,h1,h2,_⟩:=p
   exact ⟨_,PySem.W.kitx_dict,⟨o,h1,h2.1⟩,fun z=>nomatch z⟩
  | @dT a kvs ea =>
   cases (show u=Value.ref a from rx)
   obtain ⟨_,_,xs,_,o,es,ep,h1,h2,_⟩:=(show ObjOk X.prog X.w H s.heap a (.dT kvs) from I.hok a _ ea)
   exact ⟨_,PySem.W.kitx_dict,⟨o,h1,h2.1⟩,fun z=>nomatch z⟩
  | @ins a C dx fs ea cl ha hn htk hm =>
   cases (show u=Value.ref a from rx)
   obtain ⟨mA,O,_⟩:=wN I.hok ea
   obtain ⟨od,J,_⟩:=O.look
   exact ⟨_,PySem.W.kitx_own (cl.get _) cl.hd ha hn htk hm,J,fun z=>nomatch z⟩
def rIsi (K:PySem.W.Frag):List V→Hp→VK→Prop:=fun xs H Q=>∃ x c t b,xs=[x,c]∧TyX K H x t∧((∃ u,clsV c=some u∧PySem.W.kitOne K t u=some b)∨(∃ p cs us,c=.ref p∧H p=some (.tup cs)∧Ju cs=some us∧PySem.W.kitAny K t us=some b))∧Q (.bl b) H
theorem xE {X:Cx}:CallR X (.builtin "isinstance") (rIsi X.K):=by
 intro pins s σ H xs us Q I r h
 obtain ⟨x,c,t,b,rfl,ty,hc,q⟩:=h
 obtain ⟨v,v2,rfl,rx,rc⟩:=r.two
 obtain ⟨Hx,Z,p,nx⟩:=kit_of I rx ty
 rcases hc with ⟨u,hu,e⟩ | ⟨pt,cs,us,rfl,hp,hu,e⟩
 ·obtain rfl:=Jv hu rc
  exact PySem.W.kia_one Z I.kIn p e nx fun tk=>⟨.bl b,H,I.tok tk,rfl,q⟩
 ·cases rc
  obtain ⟨_,its,rv,o,h1,h2,n,h3⟩:=(show ObjOk X.prog X.w H s.heap pt (.tup cs) from I.hok pt _ hp)
  obtain rfl:=QD hu rv
  obtain ⟨cl,dd,dt,sl⟩:=o
  simp only at h2 h3
  subst h2 h3
  exact PySem.W.kia_tup Z I.kIn p h1 e nx fun tk=>⟨.bl b,H,I.tok tk,rfl,q⟩
structure FK (K:PySem.W.Frag) (C:Addr) (qual:Str) (st:Stmt) (ps:List Str):Prop where
 ex:∃ f fd,Fun K "__init__" qual st f fd∧Mk K C f∧Binds K fd ps []
structure FM (K:PySem.W.Frag) (C:Addr) (m qual:Str) (st:Stmt) (ps:List Str):Prop where
 ex:∃ f fd,Fun K m qual st f fd∧Meth K C m f∧Binds K fd ps []
theorem FK.cal {P:Program} {w:World} {K:PySem.W.Frag} {mg:Str→Option Value} {base:Heap} {x:Str} {C:Addr} {qual:Str} {st:Stmt} {ps:List Str} {k:Nat} {sp:Sp} (h:FK K C qual st ps) (gl:mg x=some (.ref C))
  (ok:∀ {f fd},Fun K "__init__" qual st f fd→FnOk P w K mg base (CXr P w) k f fd ps sp):KCal P w K mg base x C k ps [] sp:=let ⟨f,fd,F,m,b⟩:=h.ex; ⟨gl,f,fd,[],ok F,m,b,.nil⟩
theorem FM.cal {P:Program} {w:World} {K:PySem.W.Frag} {mg:Str→Option Value} {base:Heap} {C:Addr} {m qual:Str} {st:Stmt} {ps:List Str} {k:Nat} {sp:Sp} (h:FM K C m qual st ps) (cl:Cls K C)
  (ok:∀ {f fd},Fun K m qual st f fd→FnOk P w K mg base (CXr P w) k f fd ps sp):MCal P w K mg base C m k ps [] sp:=let ⟨f,fd,F,mm,b⟩:=h.ex; ⟨cl,f,fd,[],ok F,mm,b,.nil⟩
theorem Xc {K:PySem.W.Frag} {C:Addr} {qual:Str} {st:Stmt} {ps:List Str} {f:Addr} {oc:Value} {od an:Option Addr} {osl:Array (Option Value)} {kV doc pm cdv ct:Value} (mk:PySem.W.makesIn K C=true) (kc:PySem.W.keepIn K (.ref C)=true)
  (a:PySem.W.findIn K (.ref C) "__init__"=some (some (.ref f))) (i:PySem.W.isFn K (.ref f)=true) (l:K.lookup f=some ⟨oc,od,.func (PySem.W.fnOf "__init__" qual (zY st) (zU st) (zf st) .none kV doc pm an cdv ct),osl⟩)
  (c:PySem.W.codeIn K cdv qual=true) (k:PySem.W.keepIn K (.ref f)=true)
  (hb:∀ (kV doc pm:Value) (an:Option Addr) (cdv ct:Value) (us:List Value),us.length=ps.length→bindArgs (PySem.W.fnOf "__init__" qual (zY st) (zU st) (zf st) .none kV doc pm an cdv ct) ⟨us,[]⟩=pure (ps.zip us)):FK K C qual st ps :=
 ⟨f,_,jG l c k,⟨mk,a,i,kc⟩,(jG l c k).binds hb⟩
theorem fm_mk {K:PySem.W.Frag} {C:Addr} {m qual:Str} {st:Stmt} {ps:List Str} {f:Addr} {oc:Value} {od an:Option Addr} {osl:Array (Option Value)} {kV doc pm cdv ct:Value}
  (a:PySem.W.findIn K (.ref C) m=some (some (.ref f))) (i:PySem.W.isFn K (.ref f)=true) (l:K.lookup f=some ⟨oc,od,.func (PySem.W.fnOf m qual (zY st) (zU st) (zf st) .none kV doc pm an cdv ct),osl⟩)
  (c:PySem.W.codeIn K cdv qual=true) (k:PySem.W.keepIn K (.ref f)=true)
  (hb:∀ (kV doc pm:Value) (an:Option Addr) (cdv ct:Value) (us:List Value),us.length=ps.length→bindArgs (PySem.W.fnOf m qual (zY st) (zU st) (zf st) .none kV doc pm an cdv ct) ⟨us,[]⟩=pure (ps.zip us)):FM K C m qual st ps :=
 ⟨f,_,jG l c k,⟨a,i,k⟩,(jG l c k).binds hb⟩
structure WI (K:PySem.W.Frag) (C:Addr):Prop where
 c:PySem.W.findIn K (.ref C) "__class__"=some (some (.builtin "object.__class__"))
 m:PySem.W.mroIn K C (.type "object")=some true
 g:PySem.W.specialIn K (.builtin "object.__class__") "__get__"=some (some (.builtin "getset_descriptor.__get__"))
 t:PySem.W.takesIn K (.builtin "object.__class__")=some true
theorem WI.ty {K:PySem.W.Frag} {H:Hp} {a C dx:Addr} {fs:List (Str × V)} (f:WI K C) (cl:Cls K C) (h:H a=some (.ins C dx fs)):TyX K H (.ref a) (.ref C):=.old (.ins h cl f.c f.g f.t f.m)
end L2
namespace L2
open PySem PySem.Spec PySem.Calls PyProof.Rows
section
variable {prog:Program} {w:World} {A:Around} {E:Value→Shared→Prop} {s:Shared}
end
section
variable {X:Cx} {a e:Expr} {ta:TA} {te:TE} {pos p kp:Pos}
def tSumK (X:Cx) (ta:TA) (te:TE):TE:=fun σ H Q=>X.mg "sum"=none∧ta σ H fun vs H1=>te σ H1 fun y H2=>∃ l ns c,vs=[.ref l]∧y=.int c∧SqL X.K H2 l (ns.map V.int)∧(c=0∨ns=[])∧Q (.int (c + ns.sum)) H2
theorem wp:SlR X (rSlL X.K):=sl_list
theorem jl:CallR X (.type "list") (fun xs H Q=>∃ p ys,xs=[.ref p]∧(SqL X.K H p ys∨SqT X.K H p ys)∧∀ l,H l=none→Q (.ref l) (upd H l (.lst ys))):=call_list_of
end
end L2
namespace L2
open PySem PySem.Spec PySem.Calls PyProof.Rows
section
variable {X:Cx} {v v1 v2:Expr} {es:List Expr} {te:TE} {pos p:Pos}
def tFv (te:TE):TE:=fun σ H Q=>te σ H fun x H1=>(∃ i,x=.int i∧i.natAbs.log2 < 1920∧Q (.str (toString i)) H1)∨(∃ y,x=.str y∧y.length≤sizeLine∧Q (.str y) H1)
abbrev TJ:=Str→TE
def tJ0:TJ:=fun out _ H Q=>out.length≤sizeLine∧Q (.str out) H
def tJ1 (te:TE) (t:TJ):TJ:=fun out σ H Q=>te σ H fun x H1=>∃ y,x=.str y∧(out ++ y).length≤sizeLine∧t (out ++ y) σ H1 Q
def tCut (t u:TS):TS:=fun D σ H=>∃ M:St→Hp→Prop,t { D with nx:=M } σ H∧∀ σ' H',M σ' H'→u D σ' H'
theorem zX {st:Stmt} {rest:List Stmt} {t u:TS} (h1:PS X st t) (h2:PSs X rest u):PSs X (st :: rest) (tCut t u):=by
 intro pins s σ H D I ⟨M,ht,hu⟩
 refine wpAny_execs_cons (thn (h1 pins s σ H _ I ht) fun f s1 q=>?_)
 cases f with
 | next=>exact let ⟨σ',H',I',q⟩:=q; h2 pins s1 σ' H' D I' (hu σ' H' q)
 | _=>exact q
def J2 (t u:TS):TS:=fun D σ H=>tSeq t u D σ H
theorem zg {st:Stmt} {rest:List Stmt} {t u:TS} (h1:PS X st t) (h2:PSs X rest u):PSs X (st :: rest) (J2 t u):=show PSs X (st :: rest) (tSeq t u) from zh h1 h2
structure Nx (N:St→Hp→Prop) (u:TS) (D:Ends):Prop where
 h:∀ σ H,u D σ H→N σ H
theorem nxt {t u:TS} {D:Ends} {σ:St} {H:Hp} (k:∀ N,Nx N u D→t { D with nx:=N } σ H):J2 t u D σ H:=k (u D) ⟨fun _ _ h=>h⟩
theorem useN {N:St→Hp→Prop} {u:TS} {D:Ends} {σ:St} {H:Hp} (n:Nx N u D) (q:u D σ H):N σ H:=n.h σ H q
theorem cut {t u:TS} {D:Ends} {σ:St} {H:Hp} (M:St→Hp→Prop) (h1:t { D with nx:=M } σ H) (h2:∀ σ' H',M σ' H'→u D σ' H'):tCut t u D σ H:=⟨M,h1,h2⟩
end
end L2
namespace L2
open PySem PySem.Spec PySem.Calls PyProof.Rows
section
variable {X:Cx} {k:Nat} {x m:Str} {p pos apos:Pos} {e o:Expr} {es:List Expr} {ta:TE} {t:TA}
theorem passF:QU (CXr X.prog X.w) X (fun _ _ _=>False):=fun _ _ _ _ _ _ _ h=>let ⟨_,_,_,_,_,_,_,_,_,z⟩:=h; z.elim
def tClN (X:Cx) (k:Nat) (x:Str) (t:TA):TE:=fun σ H Q=>∃ ps dvs sp,Cal X.prog X.w X.K X.mg X.base x k ps dvs sp∧t σ H fun vs H1=>sp (vs ++ dvs) H1 Q (fun _ _ _=>False)
theorem QM (hr:Room k X.A) (ha:PA X (e :: es) t) (hg:Gl X x:=by rfl) (hdb:(x == ("__debug__":Str))=false:=by decide)
  (he:starEach (e :: es) X.env=(false,eval e X.env) :: starEach es X.env:=by rfl) (hpl:(backTo pos (starEach es X.env)).any (·.1)=false:=by rfl) :
  PE X (.Call (.Name x p) (e :: es) [] pos) (tClN X k x t):=by
 intro pins s σ H Q I h
 obtain ⟨ps,dvs,sp,⟨f,fd,ds,F,hm,hk,hb,hd⟩,h⟩:=h
 refine wpAny_Call_Name_kw (jF I hg hm ?_ hdb)
 refine PySem.W.callWith_K (h₀:=X.base) I.ok.mod.kin hk (thn (ha pos pins s σ H _ I h) fun us s1 ⟨vs,H1,I1,r,q⟩=>⟨I1.kIn,?_⟩) he hpl
 exact JE F hr hb hd passF I1 r q
def tMkN (X:Cx) (k:Nat) (x:Str) (t:TA):TE:=fun σ H Q=>∃ C ps dvs sp,KCal X.prog X.w X.K X.mg X.base x C k ps dvs sp∧t σ H fun vs H1=>∀ y dx,H1 y=none→H1 dx=none→dx≠y →
 sp (.ref y :: (vs ++ dvs)) (upd (upd H1 dx (.own y)) y (.ins C dx [])) (fun v H2=>v=.non∧Q (.ref y) H2) (fun _ _ _=>False)
theorem pe_mkN (hr:Room (k + 1) X.A) (ha:PA X (e :: es) t) (hg:Gl X x:=by rfl) (hdb:(x == ("__debug__":Str))=false:=by decide)
  (he:starEach (e :: es) X.env=(false,eval e X.env) :: starEach es X.env:=by rfl) (hpl:(backTo pos (starEach es X.env)).any (·.1)=false:=by rfl) :
  PE X (.Call (.Name x p) (e :: es) [] pos) (tMkN X k x t):=by
 intro pins s σ H Q I h
 obtain ⟨C,ps,dvs,sp,⟨hm,f,fd,ds,F,M,hb,hd⟩,h⟩:=h
 refine wpAny_Call_Name_kw (jF I hg hm ?_ hdb)
 refine PySem.W.callWith_K (h₀:=X.base) I.ok.mod.kin M.kp (thn (ha pos pins s σ H _ I h) fun us s1 ⟨vs,H1,I1,r,q⟩=>⟨I1.kIn,?_⟩) he hpl
 exact run_make M F hr hb hd passF I1 r q
def tMthN (X:Cx) (k:Nat) (m:Str) (ta:TE) (t:TA):TE:=fun σ H Q=>ta σ H fun y H1=>∃ a C dx fs ps dvs sp,y=.ref a∧H1 a=some (.ins C dx fs)∧fs.lookup m=none ∧
 MCal X.prog X.w X.K X.mg X.base C m k ps dvs sp∧t σ H1 fun vs H2=>sp (.ref a :: (vs ++ dvs)) H2 Q (fun _ _ _=>False)
theorem pe_mthN0 {pl:Sem Bool} (hr:Room k X.A) (he:PE X o ta)
  (ht:eval (.Call (.Attribute o m apos) [] [] pos) X.env=(do
   let ov ← eval o X.env
   standAt apos.atName
   let (f,first) ← holding [ov] (getMethod ov m pl)
   callWith pos f first (backTo pos (starEach [] X.env)) (backToKw pos (keywordEach [] X.env))):=by rfl) :
  PE X (.Call (.Attribute o m apos) [] [] pos) (tMthN X k m ta tNil):=by
 intro pins s σ H Q I h
 refine PySem.W.methodCall_KW (pl:=pl) (thn (he pins s σ H _ I h) fun u s1 hz=>?_) ht
 obtain ⟨x,H1,I1,rx,a,C,dx,fs,ps,dvs,sp,ex,ea,l,⟨c,f,fd,ds,F,hm,hb,hd⟩,q⟩:=hz
 subst ex
 obtain rfl:u=Value.ref a:=rx
 refine vC I1 ea c hm l ?_
 exact PySem.W.callWith_K0 (first:=[.ref a]) I1.kIn hm.kp (JE (us:=[.ref a]) (vs:=[.ref a]) F hr hb hd passF I1 (.cons rfl .nil) q)
end
def qy (cells:List (Str × Addr)):List (Str × NameKind)→List (Str × Addr)→List (Str × Addr)
 | [],cs=>cs
 | (n,k) :: r,cs=>if k=.free then qy cells r ((n,(cells.lookup n).getD 0) :: cs) else qy cells r cs
def clOk (cells:List (Str × Addr)) (ns:List (Str × NameKind)):Prop:=∀ y∈ns,y.2=.free→∃ c,cells.lookup y.1=some c
theorem xt {scope:Scope} {env:Env} (h:clOk env.cells scope.names):closureFor scope env=pure (qy env.cells scope.names []):=by
 simp only [closureFor]
 have key:∀ (ns:List (Str × NameKind)) (cs:List (Str × Addr)),clOk env.cells ns →
   (forIn ns cs fun x r=>if (x.2 == NameKind.free)=true then do let c ← cellOf env x.1; pure (ForInStep.yield ((x.1,c) :: r)) else pure (ForInStep.yield r):Sem (List (Str × Addr)))=pure (qy env.cells ns cs):=by
  intro ns
  induction ns with
  | nil=>intro cs _; rfl
  | cons y r ih =>
   intro cs hc
   obtain ⟨n,k⟩:=y
   have hr:clOk env.cells r:=fun z hz=>hc z (List.mem_cons_of_mem _ hz)
   rw [List.forIn_cons]
   by_cases hk:k=.free
   ·subst hk
    obtain ⟨c,e⟩:=hc (n,.free) List.mem_cons_self rfl
    have e':cellOf env n=pure c:=by unfold cellOf; simp only at e; rw [e]
    simp only [beq_self_eq_true,if_true,e',pure_bind]
    rw [ih _ hr]
    simp only at e
    simp [qy,e]
   ·have hb:(k == NameKind.free)=false:=by simpa using hk
    simp only [hb,Bool.false_eq_true,if_false,pure_bind]
    rw [ih _ hr]
    simp [qy,hk]
 have:=key scope.names [] h
 first
  | exact this
  | (simp only [bind_pure] at *; exact this)
theorem xD {cells:List (Str × Addr)} {x:Str} {c:Addr}:∀ {ns:List (Str × NameKind)} {cs:List (Str × Addr)},clOk cells ns→(∀ c,cs.lookup x=some c→cells.lookup x=some c)→(qy cells ns cs).lookup x=some c→cells.lookup x=some c
 | [],_,_,hs,h=>hs c h
 | (n,k) :: r,cs,hc,hs,h=>by
  have hr:clOk cells r:=fun z hz=>hc z (List.mem_cons_of_mem _ hz)
  unfold qy at h
  split at h
  ·rename_i hk
   obtain ⟨d,e⟩:=hc (n,k) List.mem_cons_self hk
   refine xD hr (fun c' hc'=>?_) h
   rw [List.lookup_cons] at hc'
   split at hc'
   ·rename_i hx
    have hx:x=n:=by simpa using hx
    subst hx
    simp only at e
    rw [e] at hc' ⊢
    exact hc'
   ·exact hs c' hc'
  ·exact xD hr hs h
theorem j4 {cells:List (Str × Addr)} {x:Str}:∀ {ns:List (Str × NameKind)} {cs:List (Str × Addr)},(∃ c,cs.lookup x=some c)→∃ c,(qy cells ns cs).lookup x=some c
 | [],_,h=>h
 | (n,k) :: r,cs,h=>by
  unfold qy
  split
  ·refine j4 ?_
   rw [List.lookup_cons]
   split
   ·exact ⟨_,rfl⟩
   ·exact h
  ·exact j4 h
theorem xC {cells:List (Str × Addr)} {x:Str}:∀ {ns:List (Str × NameKind)} {cs:List (Str × Addr)},(x,NameKind.free)∈ns→∃ c,(qy cells ns cs).lookup x=some c
 | [],_,h=>by simp at h
 | (n,k) :: r,cs,h=>by
  unfold qy
  rcases List.mem_cons.mp h with h | h
  ·cases h
   rw [if_pos rfl]
   exact j4 ⟨(cells.lookup x).getD 0,by rw [List.lookup_cons]; simp⟩
  ·split <;> exact xC h
def JF (scope osc:Scope):Scope :=
 { scope with names:=scope.names.map fun (n,k)=>if (k == .free && osc.kind == .function && osc.names.lookup n == some .cell) then (n,.cell) else (n,k) }
theorem relab_free {scope osc:Scope} {x:Str} (hcell:∀ y∈scope.names,y.2≠.cell) (h:(JF scope osc).names.lookup x=some .cell∨(JF scope osc).names.lookup x=some .free):(x,NameKind.free)∈scope.names:=by
 have key:∀ k,(k=.cell∨k=.free)→(JF scope osc).names.lookup x=some k→(x,NameKind.free)∈scope.names:=fun k hk hl=>by
  have hm:=PySem.mem_of_lookup hl
  obtain ⟨⟨n,k'⟩,hm',e⟩:=List.mem_map.mp hm
  simp only at e
  split at e
  ·rename_i hc
   simp only [Bool.and_eq_true,beq_iff_eq] at hc
   cases e
   rw [← hc.1.1]; exact hm'
  ·cases e
   rcases hk with rfl | rfl
   ·exact absurd rfl (hcell _ hm')
   ·exact hm'
 rcases h with h | h
 ·exact key _ (.inl rfl) h
 ·exact key _ (.inr rfl) h
def cxC (X:Cx) (N:List Str) (scope:Scope) (s:Shared) (H:Hp) (fp:List Addr) (pins:List (Addr × Obj)):Cx where
 prog:=X.prog
 w:=X.w
 K:=X.K
 mg:=X.mg
 base:=X.base
 A:=X.A
 N:=N
 s₀:=s
 H₀:=H
 env:=compEnvC scope (qy X.env.cells scope.names []) s.heap.objs.size X.env
 outer:=X.stack
 stack:=X.stack
 ex:=fp
 fn:=fun _=>false
 calm:=X.calm
 pn:=X.pn ++ pins
 xe:=fun _ _=>False
def stC (nv:Nat) (caps:List Nat) (σ:St):St:=List.replicate nv none ++ caps.map fun k=>(σ[k]?).getD none
structure CompOk (osc scope:Scope) (ON:List Str) (vars:List Str) (caps:List Nat):Prop where
 kind:scope.kind=.function
 cell:∀ y∈scope.names,y.2≠.cell
 loc:∀ y∈scope.names,y.2=.local→scope.names.lookup y.1=some .local
 free:∀ y∈scope.names,y.2=.free→osc.names.lookup y.1=some .cell∨osc.names.lookup y.1=some .free
 caps:∀ k∈caps,k < ON.length∧scope.names.lookup (ON.getD k Str.empty)=some .free
def Js (osc scope:Scope) (ON:List Str) (caps:List Nat):Bool :=
 scope.kind == .function && scope.names.all (fun y=>y.2 != .cell) && scope.names.all (fun y=>y.2 != .local || scope.names.lookup y.1 == some .local) &&
 scope.names.all (fun y=>y.2 != .free || (osc.names.lookup y.1 == some .cell || osc.names.lookup y.1 == some .free)) && caps.all fun k=>decide (k < ON.length) && scope.names.lookup (ON.getD k Str.empty) == some .free
theorem QC {osc scope:Scope} {ON vars:List Str} {caps:List Nat} (h:Js osc scope ON caps=true):CompOk osc scope ON vars caps:=by
 simp only [Js,Bool.and_eq_true,List.all_eq_true,beq_iff_eq,bne_iff_ne,Bool.or_eq_true,decide_eq_true_eq] at h
 obtain ⟨⟨⟨⟨h1,h2⟩,h3⟩,h4⟩,h5⟩:=h
 refine ⟨h1,h2,fun y hy e=>(h3 y hy).resolve_left (fun z=>z e),fun y hy e=>(h4 y hy).resolve_left (fun z=>z e),fun k hk=>h5 k hk⟩
theorem vb {osc:Scope} {x:Str}:∀ {ns:List (Str × NameKind)},ns.lookup x=some .free →
  (ns.map fun (n,k)=>if (k == NameKind.free && osc.kind == .function && osc.names.lookup n == some .cell) then (n,NameKind.cell) else (n,k)).lookup x=some .cell ∨
  (ns.map fun (n,k)=>if (k == NameKind.free && osc.kind == .function && osc.names.lookup n == some .cell) then (n,NameKind.cell) else (n,k)).lookup x=some .free
 | [],h=>by simp at h
 | (n,k) :: r,h=>by
  have ih:=@vb osc x r
  rw [List.map_cons]
  show List.lookup x ((if (k == NameKind.free && osc.kind == .function && osc.names.lookup n == some .cell)=true then (n,NameKind.cell) else (n,k)) :: _)=_∨List.lookup x ((if (k == NameKind.free && osc.kind == .function && osc.names.lookup n == some .cell)=true then (n,NameKind.cell) else (n,k)) :: _)=_
  cases hx:x == n with
  | true =>
   simp only [List.lookup_cons,hx] at h
   cases h
   split
   ·exact .inl (by simp [List.lookup_cons,hx])
   ·exact .inr (by simp [List.lookup_cons,hx])
  | false =>
   simp only [List.lookup_cons,hx] at h
   split <;> (simp only [List.lookup_cons,hx]; exact ih h)
section
variable {X:Cx} {pins:List (Addr × Obj)} {σ:St} {H:Hp} {s:Shared} {fp:List Addr} {N vars:List Str} {caps:List Nat} {scope osc:Scope}
theorem inv_comp (I:Inv X pins σ H s) (hosc:X.env.scope=osc) (C:CompOk osc scope X.N vars caps) (hN:N=vars ++ caps.map fun k=>X.N.getD k Str.empty)
  (hf:∀ b∈fp,FpOk X pins H b) (hfo:∀ b∈fp,∃ o,s.heap.get? b=some o)
  {h':Heap} {tk:Nat} {mm:Str→Option Value} (hns:h'.Ns s.heap.objs.size mm) (hk:∀ b o,s.heap.get? b=some o→h'.get? b=some o) :
  Inv (cxC X N scope s H fp pins) [] (stC vars.length caps σ) H { s with heap:=h',toks:=tk }:=by
 have hkf:∀ y∈scope.names,y.2=.free→X.env.kindOf y.1=some .cell∨X.env.kindOf y.1=some .free:=fun y hy e=>by
  have z:=C.free y hy e
  rw [← hosc] at z
  exact z
 have hcl:clOk X.env.cells scope.names:=fun y hy e=>I.ok.has y.1 (hkf y hy e)
 have get:∀ x c,(qy X.env.cells scope.names []).lookup x=some c→X.env.cells.lookup x=some c:=fun x c h=>xD hcl (fun c h=>by simp at h) h
 refine ⟨⟨I.ok.mod,C.kind,I.ok.glob,I.ok.blt,Nat.le_refl _,fun x y c h1 h2=>I.ok.inj x y c (get x c h1) (get y c h2),fun x hx=>xC (relab_free (osc:=X.env.scope) C.cell hx),fun _ _ h _=>Bool.noConfusion h,I.ok.hd,I.ok.frames,.inl rfl,
   fun b hb=>⟨?_,fun x c h=>(hf b hb).2.2.2.2.1 x c (get x c h)⟩,I.bs,Nat.le_trans I.ok.bsz I.sz,fun b o e hb=>?_,fun b hb z=>(List.mem_cons.mp (I.stkSub b z)).elim (hf b hb).2.1 (hf b hb).2.2.1,I.stack,I.stkFree⟩,
  rfl,I.bare,Un.kept hk,⟨_,hns,fun i x v e1 e2 e3=>?_⟩,fun x c h=>?_,I.hok.fresh (Nat.le_refl _),fun x c h=>I.freeC x c (get x c h),fun p hp=>?_,I.hok.kept hk,?_⟩
 ·obtain ⟨o,e⟩:=hfo b hb
  exact Nat.ne_of_lt (Heap.lt_size e)
 ·rcases (hf b hb).2.2.2.1 with z | z
  ·exact I.ok.noex b o e z
  ·exact absurd (Nat.lt_of_lt_of_le (Heap.lt_size (I.ok.bs b o e).1) z) (Nat.lt_irrefl _)
 ·have hi:¬ i < vars.length:=fun hi=>by
   unfold stC at e2
   rw [List.getElem?_append_left (by simpa using hi),List.getElem?_replicate] at e2
   split at e2 <;> cases e2
  have e1':(vars ++ caps.map fun k=>X.N.getD k Str.empty)[i]?=some x:=by rw [← hN]; exact e1
  unfold stC at e2
  rw [List.getElem?_append_right (by simpa using hi),List.length_replicate,List.getElem?_map] at e2
  rw [List.getElem?_append_right (by omega),List.getElem?_map] at e1'
  cases ek:caps[i - vars.length]? with
  | none=>rw [ek] at e2; cases e2
  | some k =>
   rw [ek] at e1' e2
   obtain ⟨hkl,hlk⟩:=C.caps k (List.mem_of_getElem? ek)
   have ex:X.N.getD k Str.empty=x:=by simpa using e1'
   have es:σ[k]?.getD none=some v:=by simpa using e2
   have es':σ[k]?=some (some v):=by
    cases q:σ[k]? with
    | none=>rw [q] at es; cases es
    | some z=>rw [q] at es; simp only [Option.getD_some] at es; rw [es]
   have eN:X.N[k]?=some x:=by
    rw [← ex,List.getD_eq_getElem?_getD,List.getElem?_eq_getElem hkl]; rfl
   rw [ex] at hlk
   have hm:(x,NameKind.free)∈scope.names:=PySem.mem_of_lookup hlk
   have hkx:=hkf _ hm rfl
   obtain ⟨m,_,hl⟩:=I.loc
   obtain ⟨u,r,L⟩:=hl k x v eN es' (hkx.elim (fun z=>.inr (.inl z)) fun z=>.inr (.inr z))
   refine ⟨u,r,.inr ⟨vb (osc:=X.env.scope) hlk,?_⟩⟩
   obtain ⟨c',ec⟩:=xC (cells:=X.env.cells) (cs:=[]) hm
   rcases L with ⟨z,_⟩ | ⟨_,c,ec2,o,ho,hd⟩
   ·rcases hkx with y | y <;> (simp only at y; rw [y] at z; cases z)
   ·have z:=get x c' ec
    rw [ec2] at z
    obtain rfl:c=c':=Option.some.inj z
    exact ⟨c,ec,o,hk _ _ ho,hd⟩
 ·obtain ⟨v,o,ho,hd⟩:=I.cell x c (get x c h)
  exact ⟨v,o,hk _ _ ho,hd⟩
 ·have hp':p∈X.pn ++ pins:=by simpa [cxC] using hp
  obtain ⟨e,n,ne,nf,d⟩:=I.pin p hp'
  exact ⟨hk _ _ e,n,Nat.ne_of_lt (Heap.lt_size e),fun z=>(List.mem_cons.mp (I.stkSub _ z)).elim ne nf,d⟩
 ·show (stC vars.length caps σ).length=N.length
  rw [hN]
  simp [stC]
theorem inv_uncomp {σ':St} {H':Hp} {s':Shared} (I:Inv X pins σ H s) (hf:∀ b∈fp,FpOk X pins H b) (I':Inv (cxC X N scope s H fp pins) [] σ' H' s'):Inv X pins σ H' s' :=
 I.call' (ch:=fp) I'.os I'.base I'.hok I'.bare fun b hb=>⟨(hf b hb).2.2.2.1,(hf b hb).2.1,(hf b hb).2.2.2.2.1,(hf b hb).2.2.2.2.2⟩
end
section
variable {prog:Program} {w:World} {A:Around} {R:Result→Shared→Prop} {s:Shared}
abbrev NoX:Value→Shared→Prop:=fun _ _=>False
theorem comp_loop {elt target iter:Expr} {ifs:List Expr} {scope:Scope} {pos:Pos} {it acc:Value} {env:Env} (I:Nat→Shared→Prop)
  (turn:∀ n s,I n s→wpAny (model prog w) A (pyNext it) (fun r s₁=>match r with
   | none=>R (.ok .next) s₁
   | some v=>wpAny (model prog w) A (letOwnedTupleGo target it v) (fun _ s₁'=>wpAny (model prog w) A (assign target env v) (fun _ s₂ =>
     wpAny (model prog w) A (forIn ifs true fun c r=>if r=true then do let ok ← isTrue c env (eval c env); pure (ForInStep.yield ok) else pure (ForInStep.yield r)) (fun ok s₃ =>
      if ok=true then wpAny (model prog w) A (eval elt env) (fun x s₄ =>
       wpAny (model prog w) A (call (.builtin "list.append") [acc,x]) (fun _ s₅=>∃ m,m < n∧I m s₅) NoX s₄) NoX s₃
      else ∃ m,m < n∧I m s₃) NoX s₂) NoX s₁') NoX s₁) NoX s)
  (n:Nat) (h:I n s) :
  codeAny (model prog w) A (.compLoop (.ListComp elt [⟨target,iter,ifs,0⟩] scope pos) 0 it acc env) R s:=by
 refine codeAny_loop rfl I (fun n s hI=>?_) n h
 show wpAny _ A ((compTurn (.ListComp elt [⟨target,iter,ifs,0⟩] scope pos) 0 it acc env).onRaise (fun x=>do noteFrame x env; theTreesLotGoes x)) _ _ s
 refine wpAny_noted ?_
 rw [compTurn_list]
 refine wpAny_bind (wpAny_standAt (wpAny_bind (wpAny_mono (turn n s hI) (fun r s₁ h₁=>?_) fun _ _ h'=>h'.elim)))
 cases r with
 | none=>exact wpAny_pure h₁
 | some v =>
  refine wpAny_bind (wpAny_mono h₁ (fun _ s₁' h₁'=>?_) fun _ _ h'=>h'.elim)
  refine wpAny_bind (wpAny_mono h₁' (fun _ s₂ h₂=>wpAny_bind (wpAny_mono h₂ (fun ok s₃ h₃=>?_) fun _ _ h'=>h'.elim)) fun _ _ h'=>h'.elim)
  cases ok with
  | false=>exact wpAny_pure ⟨rfl,h₃⟩
  | true =>
   exact wpAny_bind (wpAny_bind (wpAny_mono h₃ (fun x s₄ h₄=>wpAny_bind (wpAny_mono h₄ (fun _ s₅ h₅=>wpAny_pure (wpAny_pure ⟨rfl,h₅⟩)) fun _ _ h'=>h'.elim)) fun _ _ h'=>h'.elim))
end
def PIfs (X:Cx) (ifs:List Expr) (t:TT):Prop :=
 ∀ (pins:List (Addr × Obj)) (s:Shared) (σ:St) (H:Hp) (Q:Bool→Hp→Prop),Inv X pins σ H s→t σ H Q →
  wpAny (model X.prog X.w) X.A (forIn ifs true fun c r=>if r=true then do let ok ← isTrue c X.env (eval c X.env); pure (ForInStep.yield ok) else pure (ForInStep.yield r)) (TP X pins σ Q) X.xe s
def tYes:TT:=fun _ H Q=>Q true H
theorem qg {X:Cx}:PIfs X [] tYes:=fun _ _ _ H _ I h=>wpAny_tests_nil ⟨H,I,h⟩
abbrev CB (α:Type):=Shared→Hp→List Addr→List (Addr × Obj)→α
def tLc (wi:TI) (nv:Nat) (caps:List Nat) (g:CB TG) (tt:CB TT) (te:CB TE):TE:=fun σ H Q=>wi σ H fun J H1=>∀ (s3:Shared) (H3:Hp) (fp:List Addr) (pns:List (Addr × Obj)) acc,H1 acc=none →
 ∃ W:Nat→Nat→St→Hp→Prop,(∃ m,W 0 m (stC nv caps σ) (upd H1 acc (.lst [])))∧∀ i m σ' H',W i m σ' H' →
  (J.stop i H'∧Q (.ref acc) H')∨(J.go i H'∧∃ N:St→Hp→Prop,(∀ σ'' H'',N σ'' H''→∃ m',m' < m∧W (i + 1) m' σ'' H'')∧∀ x H'',J.yld i H' x H''→g s3 H3 fp pns x σ' H'' fun σ2 H2=>tt s3 H3 fp pns σ2 H2 fun b H5 =>
   if b=true then te s3 H3 fp pns σ2 H5 fun y H4=>∃ ys,H4 acc=some (.lst ys)∧ys.length < sizeLine∧N σ2 (upd H4 acc (.lst (ys ++ [y]))) else N σ2 H5)
section
variable {X:Cx} {elt target iter:Expr} {ifs:List Expr} {scope osc:Scope} {pos:Pos} {wi:TI} {g:CB TG} {tt:CB TT} {te:CB TE} {N vars:List Str} {caps:List Nat}
theorem vJ {pins:List (Addr × Obj)} {σ:St} {H2:Hp} {s2:Shared} {it:Addr} {fp:List Addr} {tn:Nat→Heap→Prop} {J:It} {Q:VK} {RR:Value→Addr→Result→Shared→Prop} {E:Value→Shared→Prop}
  (hosc:X.env.scope=osc) (C:CompOk osc scope X.N vars caps) (hN:N=vars ++ caps.map fun k=>X.N.getD k Str.empty) (hc:X.calm=true)
  (hg:∀ s H fp pins,PG (cxC X N scope s H fp pins) target (g s H fp pins)) (ht:∀ s H fp pins,PIfs (cxC X N scope s H fp pins) ifs (tt s H fp pins)) (he:∀ s H fp pins,PE (cxC X N scope s H fp pins) elt (te s H fp pins))
  (I2:Inv X pins σ H2 s2) (T:Turn X.prog X.w X.K target J fp it tn) (st2:tn 0 s2.heap) (hf:∀ b∈fp,FpOk X pins H2 b)
  (h:∀ (s3:Shared) (H3:Hp) (fp:List Addr) (pns:List (Addr × Obj)) acc,H2 acc=none→∃ W:Nat→Nat→St→Hp→Prop,(∃ m,W 0 m (stC vars.length caps σ) (upd H2 acc (.lst [])))∧∀ i m σ' H',W i m σ' H' →
   (J.stop i H'∧Q (.ref acc) H')∨(J.go i H'∧∃ N:St→Hp→Prop,(∀ σ'' H'',N σ'' H''→∃ m',m' < m∧W (i + 1) m' σ'' H'')∧∀ x H'',J.yld i H' x H''→g s3 H3 fp pns x σ' H'' fun σ2 H2=>tt s3 H3 fp pns σ2 H2 fun b H5 =>
    if b=true then te s3 H3 fp pns σ2 H5 fun y H4=>∃ ys,H4 acc=some (.lst ys)∧ys.length < sizeLine∧N σ2 (upd H4 acc (.lst (ys ++ [y]))) else N σ2 H5))
  (hRR:∀ acc C s' H' m,Inv X pins σ H' s'→Q (.ref acc) H'→s'.heap.Ns C m→H' C=none→C≠X.env.locals→X.s₀.heap.objs.size≤C→(∀ x c,X.env.cells.lookup x=some c→c≠C)→(∀ p∈X.pn ++ pins,p.1≠C)→RR (.ref acc) C (.ok .next) s') :
  wpAny (model X.prog X.w) X.A (newList []) (fun acc s₃=>wpAny (model X.prog X.w) X.A (newFunctionEnv scope X.env.globals (qy X.env.cells scope.names []) [] X.env.qual none .none (some X.env)) (fun cenv s₄ =>
   codeAny (model X.prog X.w) X.A (.compStart (.ListComp elt [⟨target,iter,ifs,0⟩] scope pos) 0 (.ref it) acc { cenv with scope:=relabel scope X.env }) (RR acc cenv.locals) s₄) E s₃) E s2:=by
 refine wpAny_newObj_type (wpAny_newFunctionEnv C.cell (by intro y hy; simp at hy) (fun h₁ hns₁ hsb₁=>?_) C.kind)
 obtain ⟨W,⟨m0,w0⟩,turn⟩:=h { s2 with heap:=s2.heap.push { cls:=.type "list",dict:=none,data:=.seq ([]:List Value).toArray } } (upd H2 s2.heap.objs.size (.lst [])) fp pins s2.heap.objs.size I2.fresh
 have I3:Inv X pins σ (upd H2 s2.heap.objs.size (.lst [])) { s2 with heap:=s2.heap.push { cls:=.type "list",dict:=none,data:=.seq ([]:List Value).toArray } }:=I2.lnew (its:=[]) (t':=s2.toks) .nil (by decide)
 dsimp only at hns₁ hsb₁ ⊢
 have hfo:∀ b∈fp,∃ o,s2.heap.get? b=some o:=fun b hb=>let ⟨o,e,_⟩:=T.obj _ _ st2 b hb; ⟨o,e⟩
 have hf3:∀ b∈fp,FpOk X pins (upd H2 s2.heap.objs.size (.lst [])) b:=fun b hb=>by
  refine ⟨?_,(hf b hb).2⟩
  obtain ⟨o,e⟩:=hfo b hb
  rw [upd_ne (Nat.ne_of_lt (Heap.lt_size e))]
  exact (hf b hb).1
 generalize hs3:({ s2 with heap:=s2.heap.push { cls:=.type "list",dict:=none,data:=.seq ([]:List Value).toArray } }:Shared)=s3 at I3 turn
 have eh:s2.heap.push { cls:=.type "list",dict:=none,data:=.seq ([]:List Value).toArray }=s3.heap:=by rw [← hs3]
 have old:∀ b o,s2.heap.get? b=some o→s3.heap.get? b=some o:=fun b o e=>by rw [← eh]; exact Heap.get?_push_of_some _ e
 rw [eh] at hns₁ hsb₁ ⊢
 have es:({ s2 with heap:=h₁,toks:=s2.toks + ([]:List (Str × Value)).length }:Shared)={ s3 with heap:=h₁,toks:=s2.toks }:=by rw [← hs3]; rfl
 rw [es]
 generalize hH3:upd H2 s2.heap.objs.size (.lst [])=H3 at *
 have hk:∀ b o,s3.heap.get? b=some o→h₁.get? b=some o:=fun b o e=>hsb₁.extBut b o (Nat.ne_of_lt (Heap.lt_size e)) (Heap.get?_push_of_some _ e)
 have I4:Inv (cxC X N scope s3 H3 fp pins) [] (stC vars.length caps σ) H3 { s3 with heap:=h₁,toks:=s2.toks }:=inv_comp I3 hosc C hN hf3 (fun b hb=>let ⟨o,e⟩:=hfo b hb; ⟨o,old b o e⟩) hns₁ hk
 have st4:tn 0 h₁:=T.keep _ _ _ st2 fun b hb o e=>hk b o (old b o e)
 have stat:∀ {H':Hp},(∀ b∈fp,H' b=none)→∀ b∈fp,FpOk (cxC X N scope s3 H3 fp pins) [] H' b:=fun hn b hb =>
  ⟨hn b hb,(I4.ok.exf b hb).1,I4.ok.exfs b hb,.inl hb,(I4.ok.exf b hb).2,fun p hp=>(hf b hb).2.2.2.2.2 p (by simpa [cxC] using hp)⟩
 have loop:∀ s4:Shared,s4={ s3 with heap:=h₁,toks:=s2.toks } →
   codeAny (model X.prog X.w) X.A (.compLoop (.ListComp elt [⟨target,iter,ifs,0⟩] scope pos) 0 (.ref it) (.ref s2.heap.objs.size) (cxC X N scope s3 H3 fp pins).env) (RR (.ref s2.heap.objs.size) s3.heap.objs.size) s4:=by
  rintro s4 rfl
  refine comp_loop (fun n s'=>∃ i σ' H',Inv (cxC X N scope s3 H3 fp pins) [] σ' H' s'∧tn i s'.heap∧(∀ b∈fp,H' b=none)∧W i n σ' H') ?_ m0 ⟨0,_,H3,I4,st4,fun b hb=>(hf3 b hb).1,w0⟩
  rintro n s5 ⟨i,σ5,H5,I5,st5,fr5,w5⟩
  rcases turn i n σ5 H5 w5 with ⟨stop,qn⟩ | ⟨go,NN,hNN,step⟩
  ·refine thn (T.done (cxC X N scope s3 H3 fp pins) rfl rfl rfl hc i [] s5 σ5 H5 NoX I5 (stat fr5) st5 stop) fun r s6 ⟨hr,I6⟩=>?_
   subst hr
   obtain ⟨m,hn,_⟩:=I6.loc
   have hlt:∀ b o,s3.heap.get? b=some o→b≠s3.heap.objs.size:=fun b o e=>Nat.ne_of_lt (Heap.lt_size e)
   obtain ⟨m3,⟨oL,_,_,hoL,_⟩,_⟩:=I3.loc
   refine hRR _ _ s6 H5 m (inv_uncomp I3 hf3 I6) qn hn I6.free (fun z=>hlt _ _ hoL z.symm) I3.sz (fun x c ec z=>?_) fun p hp z=>hlt _ _ (I3.pin p hp).1 z
   obtain ⟨v,o,ho,_⟩:=I3.cell x c ec
   exact hlt _ _ ho z
  ·refine thn (T.item (cxC X N scope s3 H3 fp pins) rfl rfl rfl hc i [] s5 σ5 H5 NoX I5 (stat fr5) st5 go) fun r s6 ⟨u,hr,h6⟩=>?_
   subst hr
   refine thn h6 fun _ s7 ⟨x,H7,I7,r7,y7,st7,fr7⟩=>?_
   have I7':=I7.pinned (stat fr7) (T.obj _ _ st7)
   have again:∀ {σ8:St} {H8:Hp} {s8:Shared},Inv (cxC X N scope s3 H3 fp pins) ([] ++ vj fp s7.heap) σ8 H8 s8→NN σ8 H8→∃ m,m < n∧∃ i σ' H',Inv (cxC X N scope s3 H3 fp pins) [] σ' H' s8∧tn i s8.heap∧(∀ b∈fp,H' b=none)∧W i m σ' H':=fun {σ8 H8 s8} I8 n8=>by
    obtain ⟨m',hm,w8⟩:=hNN σ8 H8 n8
    refine ⟨m',hm,i + 1,σ8,H8,I8.unpinned,T.keep _ _ _ st7 fun b hb o e=>(I8.pin (b,o) (List.mem_append_right _ (List.mem_append_right _ (jE hb e)))).1,fun b hb=>?_,w8⟩
    obtain ⟨o,e,d⟩:=T.obj _ _ st7 b hb
    exact (I8.pin (b,o) (List.mem_append_right _ (List.mem_append_right _ (jE hb e)))).2.1
   refine thn (hg s3 H3 fp pins _ s7 σ5 H7 x u _ I7' r7 (step x H7 y7)) fun _ s8 ⟨σ8,H8,I8,q8⟩=>?_
   refine thn (ht s3 H3 fp pins _ s8 σ8 H8 _ I8 q8) fun b s9 ⟨H9,I9,q9⟩=>?_
   cases b with
   | false=>exact again I9 q9
   | true =>
    refine thn (he s3 H3 fp pins _ s9 σ8 H9 _ I9 q9) fun v s10 ⟨y,H10,I10,r10,ys,ea,hz,q10⟩=>?_
    refine thn (zQ (X:=cxC X N scope s3 H3 fp pins) _ s10 σ8 H10 (.ref s2.heap.objs.size) [y] (.ref s2.heap.objs.size) [v] (fun _ H'=>NN σ8 H') I10 rfl (.cons r10 .nil) ⟨_,ys,y,rfl,rfl,ea,hz,q10⟩) fun _ s11 ⟨_,H11,I11,_,q11⟩=>?_
    exact again I11 q11
 exact codeAny_compStart_list (loop _ rfl) (T.self X.A 0 _ _ _ st4 (loop _ rfl))
theorem jU {ON:List Str} (hosc:X.env.scope=osc) (hON:X.N=ON) (hB:Js osc scope ON caps=true) (hN:N=vars ++ caps.map fun k=>ON.getD k Str.empty) (hc:X.calm=true) (hi:PI X target iter wi)
  (hg:∀ s H fp pins,PG (cxC X N scope s H fp pins) target (g s H fp pins)) (ht:∀ s H fp pins,PIfs (cxC X N scope s H fp pins) ifs (tt s H fp pins)) (he:∀ s H fp pins,PE (cxC X N scope s H fp pins) elt (te s H fp pins))
  (hs:∀ x,foldedSetIterable iter X.env x=pure x:=by intro _; rfl):PE X (.ListComp elt [⟨target,iter,ifs,0⟩] scope pos) (tLc wi vars.length caps g tt te):=by
 subst hON
 intro pins s σ H Q I h
 have C:CompOk osc scope X.N vars caps:=QC hB
 have hclos:closureFor scope X.env=pure (qy X.env.cells scope.names []):=xt fun y hy e=>I.ok.has y.1 (by have z:=C.free y hy e; rw [← hosc] at z; exact z)
 rw [eval_ListComp]
 refine wpAny_comprehension_free (use:=none) rfl hs hclos C.kind C.loc (thn (hi pins s σ H _ I h) fun v s1 h1=>thn h1 fun itv s2 h2=>?_)
 obtain ⟨it,fp,tn,J,H2,e,I2,T,st2,f2,hw⟩:=h2
 subst e
 refine vJ (N:=N) (RR:=fun acc Cc=>compPost (model X.prog X.w) X.A X.xe none (EP X pins σ Q) acc Cc) hosc C hN hc hg ht he I2 T st2 f2 hw fun acc Cc s' H' m I' q hn hC hL hsz hcc hpp=>?_
 refine ⟨m,hn,fun h' hs'=>⟨.ref acc,H',?_,rfl,q⟩⟩
 exact I'.turned (t':=s'.toks) (it:=Cc) (fun b o hb e=>(hs'.2 b hb).trans e) hC (fun z=>hL z) (.inr hsz) hcc hpp
theorem Qd {ON:List Str} {i:Nat} {x:Str} {pos' spos:Pos} (hNd:X.N.Nodup) (hix:X.N[i]?=some x) (hx:Loc X.env.scope x)
  (hosc:X.env.scope=osc) (hON:X.N=ON) (hB:Js osc scope ON caps=true) (hN:N=vars ++ caps.map fun k=>ON.getD k Str.empty) (hc:X.calm=true) (hi:PI X target iter wi)
  (hg:∀ s H fp pins,PG (cxC X N scope s H fp pins) target (g s H fp pins)) (ht:∀ s H fp pins,PIfs (cxC X N scope s H fp pins) ifs (tt s H fp pins)) (he:∀ s H fp pins,PE (cxC X N scope s H fp pins) elt (te s H fp pins))
  (hsw:swapsWith (.ListComp elt [⟨target,iter,ifs,0⟩] scope pos) (some (.Name x pos')) spos.line X.env=pure true:=by rfl)
  (hf:X.fn x=true∨X.env.scope.names.lookup x=some .local:=by walk_at "p")
  (hs:∀ x,foldedSetIterable iter X.env x=pure x:=by intro _; rfl):PS X (.Assign [.Name x pos'] (.ListComp elt [⟨target,iter,ifs,0⟩] scope pos) spos) (tAsg (tLc wi vars.length caps g tt te) (gName i)):=by
 subst hON
 intro pins s σ H D I h
 have C:CompOk osc scope X.N vars caps:=QC hB
 have hclos:closureFor scope X.env=pure (qy X.env.cells scope.names []):=xt fun y hy e=>I.ok.has y.1 (by have z:=C.free y hy e; rw [← hosc] at z; exact z)
 rw [exec_Assign_Name_used _ _ _ _ hsw]
 refine wpAny_bind (wpAny_standAt (wpAny_bind ?_))
 show wpAny _ X.A (do let _ ← comprehension (.ListComp elt [⟨target,iter,ifs,0⟩] scope pos) scope X.env _ (newList []) false (eval iter X.env) (some (assign (.Name x pos') X.env))) _ _ s
 refine wpAny_bind (wpAny_mono (wpAny_comprehension_free (use:=some (assign (.Name x pos') X.env)) (Q:=fun _ s'=>SP X pins D .next s') rfl hs hclos C.kind C.loc (thn (hi pins s σ H _ I h) fun v s1 h1=>thn h1 fun itv s2 h2=>?_)) (fun _ s' hq=>wpAny_pure (wpAny_pure hq)) fun _ _ e=>e)
 obtain ⟨it,fp,tn,J,H2,e,I2,T,st2,f2,hw⟩:=h2
 subst e
 refine vJ (N:=N) (Q:=fun v H1=>gName i v σ H1 D.nx) (RR:=fun acc Cc=>compPost (model X.prog X.w) X.A X.xe (some (assign (.Name x pos') X.env)) (fun _ s'=>SP X pins D .next s') acc Cc) hosc C hN hc hg ht he I2 T st2 f2 hw fun acc Cc s' H' m I' q hn hC hL hsz hcc hpp=>?_
 refine wpAny_assign_Name (vU I' hNd hix hx (v:=.ref acc) rfl (fun s3 I3 ⟨a,sb,ha⟩=>?_) hf)
 have hne:Cc≠a:=fun z=>by
  rcases ha with e | e
  ·exact hL (z.trans e)
  ·exact hcc x a e z.symm
 refine ⟨m,hn.sameBut sb hne,fun h' hs'=>⟨_,H',?_,q⟩⟩
 exact I3.turned (t':=s3.toks) (it:=Cc) (fun b o hb e=>(hs'.2 b hb).trans e) hC (fun z=>hL z) (.inr hsz) hcc hpp
end
end L2
namespace L2
open PySem PySem.Spec PySem.Calls PyProof.Rows
section
variable {X:Cx} {pins:List (Addr × Obj)} {σ:St} {H:Hp} {s:Shared} {h':Heap} {ch:List Addr}
theorem Inv.turnNew {T:Addr} {o:HO} {t':Nat} (I:Inv X pins σ H s) (hch:∀ b∈ch,FpOk X pins H b) (hT:s.heap.objs.size≤T) (keep:∀ b o,b ∉ ch→s.heap.get? b=some o→h'.get? b=some o)
  (new:ObjOk X.prog X.w (upd H T o) h' T o):Inv X pins σ (upd H T o) { s with heap:=h',toks:=t' }:=by
 have hn:H T=none:=I.hok.fresh hT
 have lt:∀ b u,s.heap.get? b=some u→b≠T:=fun b u e=>Nat.ne_of_lt (Nat.lt_of_lt_of_le (Heap.lt_size e) hT)
 have nch:∀ b u,H b=some u→b ∉ ch:=fun b u e z=>by rw [(hch b z).1] at e; cases e
 refine I.step (g':=s.gens) (d':=s.drawn) (ch:=ch) (fun b hb=>⟨(hch b hb).2.2.2.1,(hch b hb).2.1,(hch b hb).2.2.2.2.1,(hch b hb).2.2.2.2.2⟩) (fun b o _ _ hc e _=>keep b o hc e) (fun b o _ _ hc e _=>⟨o.slots,keep b o hc e⟩)
  (fun b o _ e n=>by rw [upd_ne (lt b o e)]; exact n) (fun b o hc e=>⟨o,keep b o hc e⟩) (fun b xs e=>by rw [upd_ne (ne_of_none e hn)]; exact e) (fun b o u e=>by rw [upd_ne (ne_of_none e hn)]; exact e)
  (fun b ps e=>⟨#[],by rw [upd_ne (ne_of_none e hn),e]; simp⟩) (fun m hm=>?_) (fun b u e=>?_) I.bare
 ·obtain ⟨o,es,ep,ho,r⟩:=hm
  exact ⟨o,es,ep,keep _ o (fun z=>(hch _ z).2.1 rfl) ho,r⟩
 ·by_cases hb:b=T
  ·subst hb
   rw [upd_same] at e
   cases e
   exact new
  ·rw [upd_ne hb] at e
   refine (I.hok b u e).stay (fun c v hc q=>keep c v ?_ q) (fun c q=>by rw [upd_ne (ne_of_none q hn)]; exact q) fun c xs q=>by rw [upd_ne (ne_of_none q hn)]; exact q
   rcases hc with z | z
   ·rw [z]; exact nch b u e
   ·exact nch c _ z
theorem Inv.turnL {t':Nat} (I:Inv X pins σ H s) (hch:∀ b∈ch,FpOk X pins H b) (keep:∀ b o,b ∉ ch→s.heap.get? b=some o→h'.get? b=some o):Inv X pins σ H { s with heap:=h',toks:=t' }:=by
 have nch:∀ b u,H b=some u→b ∉ ch:=fun b u e z=>by rw [(hch b z).1] at e; cases e
 refine I.step (g':=s.gens) (d':=s.drawn) (ch:=ch) (fun b hb=>⟨(hch b hb).2.2.2.1,(hch b hb).2.1,(hch b hb).2.2.2.2.1,(hch b hb).2.2.2.2.2⟩) (fun b o _ _ hc e _=>keep b o hc e) (fun b o _ _ hc e _=>⟨o.slots,keep b o hc e⟩)
  (fun _ _ _ _ n=>n) (fun b o hc e=>⟨o,keep b o hc e⟩) (fun _ _ e=>e) (fun _ _ _ e=>e) (fun b ps e=>⟨#[],by rw [e]; simp⟩) (fun m hm=>?_) (fun b u e=>?_) I.bare
 ·obtain ⟨o,es,ep,ho,r⟩:=hm
  exact ⟨o,es,ep,keep _ o (fun z=>(hch _ z).2.1 rfl) ho,r⟩
 ·refine (I.hok b u e).stay (fun c v hc q=>keep c v ?_ q) (fun _ q=>q) fun _ _ q=>q
  rcases hc with z | z
  ·rw [z]; exact nch b u e
  ·exact nch c _ z
end
def Ite (K:PySem.W.Frag) (a:Addr):It :=
 ⟨fun i H=>∃ xs x,SqL K H a xs∧xs[i]?=some x,fun i H v H'=>∃ t x,H t=none∧v=.ref t∧(∀ xs,SqL K H a xs→xs[i]?=some x)∧H'=upd H t (.tup [.int i,x]),fun i H=>∃ xs,SqL K H a xs∧xs.length≤i⟩
theorem turn_enum {P:Program} {w:World} {K:PySem.W.Frag} {elts:List Expr} {x1} {pos:Pos} (a e it:Addr) (hne:e≠it) :
  Turn P w K (.Tuple elts x1 pos) (Ite K a) [e,it] e (fun i h=>(∃ old,IsEnum h e it i old)∧h.IsListIter it a i) where
 mem:=by simp
 obj:=fun i h st b hb=>by
  obtain ⟨⟨old,he⟩,o,ho,c,d⟩:=st
  rcases List.mem_cons.mp hb with rfl | hb
  ·exact ⟨_,he,fun v z=>by cases z⟩
  ·obtain rfl:b=it:=by simpa using hb
   exact ⟨o,ho,fun v z=>by rw [d] at z; cases z⟩
 keep:=fun i h h' st k=>by
  obtain ⟨⟨old,he⟩,hi⟩:=st
  exact ⟨⟨old,k e (by simp) _ he⟩,hi.at fun o z=>k it (by simp) o z⟩
 item:=by
  intro X hP hw hK hc i pins s σ H E I hf st hg
  subst hP hw hK
  obtain ⟨⟨old,he⟩,hi⟩:=st
  obtain ⟨xs,x,hq,hx⟩:=hg
  obtain ⟨its,rv,p,hz⟩:=I.list hq
  obtain ⟨u,hu,ru⟩:=rv.get hx
  refine wpAny_pyNext_enum_item he hi p.isList (x:=u) (by simpa using hu) hne fun h' he' hi' hT hsz hk=>?_
  refine ⟨_,rfl,?_⟩
  have I1:Inv X pins σ (upd H s.heap.objs.size (.tup [.int i,x])) { s with heap:=h',toks:=s.toks + 1 }:=I.turnNew hf (Nat.le_refl _) (fun b o hb q=>hk b o (fun z=>hb (by simp [z])) (fun z=>hb (by simp [z])) q)
   ⟨by show 2≤sizeLine; decide,[.int i s.toks,u],.cons ⟨_,rfl⟩ (.cons ru .nil),⟨_,hT,rfl,_,rfl⟩⟩
  have hn:H s.heap.objs.size=none:=I.hok.fresh (Nat.le_refl _)
  have ne:∀ b∈[e,it],b≠s.heap.objs.size:=fun b hb=>by
   rcases List.mem_cons.mp hb with rfl | hb
   ·exact Nat.ne_of_lt (Heap.lt_size he)
   ·obtain rfl:b=it:=by simpa using hb
    obtain ⟨o,ho,_⟩:=hi
    exact Nat.ne_of_lt (Heap.lt_size ho)
  have fr:∀ b∈[e,it],(upd H s.heap.objs.size (.tup [.int i,x])) b=none:=fun b hb=>by rw [upd_ne (ne b hb)]; exact (hf b hb).1
  refine wpAny_letOwnedTupleGo_enum he' fun h'' he'' hs''=>?_
  refine ⟨.ref s.heap.objs.size,_,I1.turnL (t':=s.toks + 1) (ch:=[e]) (fun b hb=>?_) (fun b o hb q=>(hs''.2 b (fun z=>hb (by simp [z]))).trans q),rfl,
   ⟨s.heap.objs.size,x,hn,rfl,fun ys hy=>by rw [I.list_inj hy hq]; exact hx,rfl⟩,⟨⟨u,?_⟩,hi'.extBut hs''.extBut (Ne.symm hne)⟩,fr⟩
  ·obtain rfl:b=e:=by simpa using hb
   exact ⟨fr b (by simp),(hf b (by simp)).2⟩
  ·exact he''
 done:=by
  intro X hP hw hK hc i pins s σ H E I hf st hg
  subst hP hw hK
  obtain ⟨⟨old,he⟩,hi⟩:=st
  obtain ⟨xs,hq,hx⟩:=hg
  obtain ⟨its,rv,p,hz⟩:=I.list hq
  have hl:=rv.length
  exact wpAny_pyNext_enum_end (I.ok.hd hc) he hi p.isList (by simp; omega) fun h' eb=>⟨rfl,I.turnL (t':=s.toks) hf fun b o hb q=>eb b o (fun z=>hb (by simp [z])) q⟩
 self:=fun _ _ _ _ _ st h=>by
  obtain ⟨⟨old,he⟩,_⟩:=st
  exact wpAny_pyIter_enum he h
theorem bo_enumerate:bootBuiltins "enumerate"=some (.type "enumerate"):=by decide +kernel
theorem bo_zip:bootBuiltins "zip"=some (.type "zip"):=by decide +kernel
def iEnum (X:Cx) (ta:TA):TI:=fun σ H R=>X.mg "enumerate"=none∧ta σ H fun vs H1=>∃ a xs,vs=[.ref a]∧H1 a=some (.lst xs)∧R (Ite X.K a) H1
theorem qm {X:Cx} {a:Expr} {elts:List Expr} {x1} {tp p pos:Pos} {ta:TA} (ha:PA X [a] ta) (hg:Gl X "enumerate":=by rfl)
  (hs:starEach [a] X.env=(false,eval a X.env) :: starEach [] X.env:=by rfl) (hpl:(backTo pos (starEach [] X.env)).any (·.1)=false:=by rfl) :
  PI X (.Tuple elts x1 tp) (.Call (.Name "enumerate" p) [a] [] pos) (iEnum X ta):=by
 intro pins s σ H R I h
 refine wpAny_Call_Name_kw (jp I hg h.1 bo_enumerate ?_)
 refine PyProof.Rows.callWith_type1 (thn (ha pos pins s σ H _ I h.2) fun us s1 ⟨vs,H1,I1,r1,q1⟩=>?_) hs hpl
 obtain ⟨l,xs,rfl,hq,hR⟩:=q1
 obtain ⟨u,rfl,rx⟩:=vR r1
 cases rx
 obtain ⟨hz,its,n,rv,hl,e⟩:=I1.lstM hq
 refine call_enumerate_1 e fun h' he hi hsz hk=>wpAny_pyIter_enum he ?_
 refine ⟨s1.heap.objs.size + 1,[s1.heap.objs.size + 1,s1.heap.objs.size],_,_,H1,rfl,I1.kept (t':=s1.toks) hk,turn_enum l _ _ (Nat.succ_ne_self _),⟨⟨_,he⟩,hi⟩,fun b hb=>?_,hR⟩
 rcases List.mem_cons.mp hb with rfl | hb
 ·exact I1.fpOk (Nat.le_succ _) (I1.hok.fresh (Nat.le_succ _))
 ·obtain rfl:b=s1.heap.objs.size:=by simpa using hb
  exact I1.fpOk (Nat.le_refl _) (I1.hok.fresh (Nat.le_refl _))
def ItAt (b:Bool) (h:Heap) (it a:Addr) (i:Nat):Prop:=if b=true then h.IsListIter it a i else h.IsTupleIter it a i
def SqAt (b:Bool) (h:Heap) (a:Addr) (items:Array Value):Prop:=if b=true then h.IsList a items else h.IsTuple a items
def ww (b:Bool):String:=if b=true then "list_iterator" else "tuple_iterator"
theorem ItAt.at' {b:Bool} {h h':Heap} {it a:Addr} {i:Nat} (x:ItAt b h it a i) (hk:∀ o,h.get? it=some o→h'.get? it=some o):ItAt b h' it a i:=by
 cases b <;> exact let ⟨o,ho,r⟩:=x; ⟨o,hk o ho,r⟩
theorem ItAt.obj {b:Bool} {h:Heap} {it a:Addr} {i:Nat} (x:ItAt b h it a i):∃ o,h.get? it=some o∧∀ v,o.data≠.cell v:=by
 cases b <;> exact let ⟨o,ho,_,hd⟩:=x; ⟨o,ho,fun v z=>by rw [hd] at z; cases z⟩
theorem SqAt.at' {b:Bool} {h h':Heap} {a:Addr} {items:Array Value} (x:SqAt b h a items) (hk:∀ o,h.get? a=some o→h'.get? a=some o):SqAt b h' a items:=by
 cases b <;> exact let ⟨o,ho,r⟩:=x; ⟨o,hk o ho,r⟩
section
variable {prog:Program} {w:World} {A:Around} {E:Value→Shared→Prop} {s:Shared}
theorem nextOf_tuple_item {it t:Addr} {i:Nat} {items} {x:Value} {Q:Value→Shared→Prop} (hit:s.heap.IsTupleIter it t i) (ht:s.heap.IsTuple t items) (hx:items[i]?=some x)
  (hQ:∀ h',h'.IsTupleIter it t (i + 1)→Heap.SameBut it s.heap h'→Q x { s with heap:=h' }):wpAny (model prog w) A (Builtin.SmallTypes.nextOf (.ref it)) Q E s:=by
 obtain ⟨o,ho,hc,hd⟩:=id hit
 obtain ⟨ol,hol,_,nl,hdl⟩:=ht
 unfold Builtin.SmallTypes.nextOf
 refine wpAny_bind (wpAny_callSpecial?_slot (name:=Str.ofString "__next__") hit.typeIs F.slot_tuple_iterator_next
  (wpAny_call_entry F.slot_tuple_iterator_next hit.typeIs F.entry_tuple_iterator_next ?_ (F.args_tuple_iterator_next_1 _)))
 show wpAny _ _ (field (.ref it) 0 >>= _) _ _ s
 refine wpAny_bind (wpAny_field ho hd (x:=.ref t) rfl ?_)
 show wpAny _ _ (if (Value.ref t == Value.none)=true then _ else _) _ _ s
 rw [if_neg (show ¬ ((Value.ref t == Value.none)=true) from Bool.false_ne_true)]
 show wpAny _ _ (field (.ref it) 1 >>= _) _ _ s
 refine wpAny_bind (wpAny_field ho hd (x:=.int i 0) rfl ?_)
 show wpAny _ _ (seqItems? (.ref t) >>= _) _ _ s
 refine wpAny_bind (wpAny_seqItems hol hdl ?_)
 simp only [Int.toNat_natCast,hx]
 refine wpAny_bind (wpAny_setField ho hd (by simp) (wpAny_pure ⟨x,rfl,wpAny_pure (hQ _ ?_ (Heap.SameBut.update ..))⟩))
 exact ⟨_,Heap.get?_update_self _ ho (Obj.isFreed_of_fields (Obj.data_mapFields hd _)),(Obj.cls_mapFields ..).trans hc,by
  rw [Obj.data_mapFields hd]; simp [rawInt]⟩
theorem nextOf_tuple_end {it t:Addr} {i:Nat} {items} {Q:Value→Shared→Prop} (hh:A.handled=none) (hit:s.heap.IsTupleIter it t i) (ht:s.heap.IsTuple t items) (hx:items[i]?=none)
  (hE:∀ h' e,Heap.ExtBut it s.heap h'→(∃ o,h'.get? e=some o∧o.cls=.type "StopIteration")→E (.ref e) { s with heap:=h' }) :
  wpAny (model prog w) A (Builtin.SmallTypes.nextOf (.ref it)) Q E s:=by
 obtain ⟨o,ho,hc,hd⟩:=id hit
 obtain ⟨ol,hol,_,nl,hdl⟩:=ht
 unfold Builtin.SmallTypes.nextOf
 refine wpAny_bind (wpAny_callSpecial?_slot (name:=Str.ofString "__next__") hit.typeIs F.slot_tuple_iterator_next
  (wpAny_call_entry F.slot_tuple_iterator_next hit.typeIs F.entry_tuple_iterator_next ?_ (F.args_tuple_iterator_next_1 _)))
 show wpAny _ _ (field (.ref it) 0 >>= _) _ _ s
 refine wpAny_bind (wpAny_field ho hd (x:=.ref t) rfl ?_)
 show wpAny _ _ (if (Value.ref t == Value.none)=true then _ else _) _ _ s
 rw [if_neg (show ¬ ((Value.ref t == Value.none)=true) from Bool.false_ne_true)]
 show wpAny _ _ (field (.ref it) 1 >>= _) _ _ s
 refine wpAny_bind (wpAny_field ho hd (x:=.int i 0) rfl ?_)
 show wpAny _ _ (seqItems? (.ref t) >>= _) _ _ s
 refine wpAny_bind (wpAny_seqItems hol hdl ?_)
 simp only [Int.toNat_natCast,hx]
 refine wpAny_bind (wpAny_rule (wpAny_bind (wpAny_setField ho hd (by simp) ?_)))
 show wpAny _ _ (newExc (.type "StopIteration") [] >>= _) _ _ _
 refine wpAny_bind ?_
 simp only [newExc,newTuple]
 refine wpAny_bind (wpAny_newObj_type ?_ (by size_fits))
 refine wpAny_bind (m:=firstArgMember _ _) (wpAny_of_eq (a:=Value.none) (by first | rfl | (simp only [firstArgMember]; rfl)) ?_)
 refine wpAny_newObj_type ?_ (by size_fits)
 simp only [raiseNew]
 refine wpAny_bind (wpAny_handled ?_)
 first | rw [show A.in1.handled=none from hh] | rw [hh]
 refine wpAny_bind (wpAny_pure (wpAny_throw ?_))
 exact hE _ _ (((Heap.SameBut.update ..).extBut.push _).push _) ⟨_,Heap.get?_push_size _ rfl,rfl⟩
theorem jX {b:Bool} {it t:Addr} {i:Nat} {items} {x:Value} {Q:Value→Shared→Prop} (hit:ItAt b s.heap it t i) (ht:SqAt b s.heap t items) (hx:items[i]?=some x)
  (hQ:∀ h',ItAt b h' it t (i + 1)→Heap.SameBut it s.heap h'→Q x { s with heap:=h' }):wpAny (model prog w) A (Builtin.SmallTypes.nextOf (.ref it)) Q E s:=by
 cases b
 ·exact nextOf_tuple_item hit ht hx hQ
 ·exact wpAny_nextOf_list_item hit ht hx hQ
theorem vn {b:Bool} {it t:Addr} {i:Nat} {items} {Q:Value→Shared→Prop} (hh:A.handled=none) (hit:ItAt b s.heap it t i) (ht:SqAt b s.heap t items) (hx:items[i]?=none)
  (hE:∀ h' e,Heap.ExtBut it s.heap h'→(∃ o,h'.get? e=some o∧o.cls=.type "StopIteration")→E (.ref e) { s with heap:=h' }) :
  wpAny (model prog w) A (Builtin.SmallTypes.nextOf (.ref it)) Q E s:=by
 cases b
 ·exact nextOf_tuple_end hh hit ht hx hE
 ·exact wpAny_nextOf_list_end hh hit ht hx hE
theorem vZ {b:Bool} {t:Addr} {items} {Q:Value→Shared→Prop} (ht:SqAt b s.heap t items)
  (hQ:Q (.ref s.heap.objs.size) { s with heap:=s.heap.push { cls:=.type (ww b),data:=.fields #[.ref t,.int 0 0] } }):wpAny (model prog w) A (pyIter (.ref t)) Q E s:=by
 cases b
 ·exact wpAny_pyIter_tuple ht hQ
 ·exact wpAny_pyIter_list ht hQ
theorem zip_item {b1 b2:Bool} {z TI TO i1 i2 l1 l2:Addr} {k1 k2:Nat} {xs ys:Array Value} {x y a b:Value} {Q:Value→Shared→Prop} (D:ZipApart z TI TO i1 i2 l1 l2)
  (hz:IsZip s.heap z TI TO .none) (hTI:IsPair s.heap TI (.ref i1) (.ref i2)) (hTO:IsPair s.heap TO a b)
  (h1:ItAt b1 s.heap i1 l1 k1) (h2:ItAt b2 s.heap i2 l2 k2) (hl1:SqAt b1 s.heap l1 xs) (hl2:SqAt b2 s.heap l2 ys) (hx:xs[k1]?=some x) (hy:ys[k2]?=some y)
  (hQ:∀ h',IsZip h' z TI TO (rawInt s.heap.objs.size)→IsPair h' TO x y→ItAt b1 h' i1 l1 (k1 + 1)→ItAt b2 h' i2 l2 (k2 + 1)→IsPair h' s.heap.objs.size x y→h'.objs.size=s.heap.objs.size + 1 →
   (∀ c o,c≠z→c≠TO→c≠i1→c≠i2→s.heap.get? c=some o→h'.get? c=some o)→Q (.ref s.heap.objs.size) { s with heap:=h' }) :
  wpAny (model prog w) A (Builtin.«zip.__next__» ⟨[.ref z],[]⟩) (fun fin s'=>∃ v,fin=.done (.ret v)∧Q v s') E s:=by
 show wpAny _ _ (field (.ref z) 2 >>= _) _ _ _
 refine wpAny_bind (wpAny_field hz rfl (x:=.bool false) rfl ?_)
 show wpAny _ _ (field (.ref z) 3 >>= _) _ _ _
 refine wpAny_bind (wpAny_field hz rfl (x:=.ref TI) rfl ?_)
 refine wpAny_bind (wpAny_seqItems hTI rfl ?_)
 show wpAny _ _ (Builtin.SmallTypes.ownedTupleIsFree (.ref z) >>= _) _ _ _
 refine wpAny_bind ?_
 unfold Builtin.SmallTypes.ownedTupleIsFree
 refine wpAny_bind (wpAny_field hz rfl (x:=.none) rfl (wpAny_pure ?_))
 simp only [if_true]
 refine wpAny_bind (wpAny_rule ?_)
 refine wpAny_bind (wpAny_field hz rfl (x:=.ref TO) rfl ?_)
 refine wpAny_bind (wpAny_setField_rec hz (by simp) fun h₁ hz₁ hs₁=>?_)
 replace hz₁:IsZip h₁ z TI TO .ellipsis:=hz₁
 refine wpAny_bind ?_
 simp only [List.zipIdx_cons,List.zipIdx_nil,List.forIn_cons,List.forIn_nil]
 refine wpAny_bind (wpAny_bind (wpAny_onRaise ?_))
 show wpAny _ _ (Builtin.SmallTypes.nextOf (.ref i1) >>= _) _ _ _
 refine wpAny_bind (jX (h1.at' fun o e=>hs₁.extBut _ _ D.i1z e) (hl1.at' fun o e=>hs₁.extBut _ _ D.l1z e) hx fun h₂ h1₂ hs₂=>wpAny_pure ?_)
 have hTO₂:IsPair h₂ TO a b:=hs₂.extBut _ _ D.TOi1 (hs₁.extBut _ _ D.TOz hTO)
 refine wpAny_bind (wpAny_seqItems hTO₂ rfl ?_)
 refine wpAny_bind (wpAny_updateSeq_pair hTO₂ fun h₃ hTO₃ hs₃=>?_)
 replace hTO₃:IsPair h₃ TO x b:=hTO₃
 refine wpAny_bind (wpAny_letGo (wpAny_pure ?_))
 refine wpAny_bind (wpAny_bind (wpAny_onRaise ?_))
 show wpAny _ _ (Builtin.SmallTypes.nextOf (.ref i2) >>= _) _ _ _
 refine wpAny_bind (jX (h2.at' fun o e=>hs₃.extBut _ _ D.TOi2.symm (hs₂.extBut _ _ D.i12.symm (hs₁.extBut _ _ D.i2z e)))
  (hl2.at' fun o e=>hs₃.extBut _ _ D.l2TO (hs₂.extBut _ _ D.l2i1 (hs₁.extBut _ _ D.l2z e))) hy fun h₄ h2₄ hs₄=>wpAny_pure ?_)
 have hTO₄:IsPair h₄ TO x b:=hs₄.extBut _ _ D.TOi2 hTO₃
 refine wpAny_bind (wpAny_seqItems hTO₄ rfl ?_)
 refine wpAny_bind (wpAny_updateSeq_pair hTO₄ fun h₅ hTO₅ hs₅=>?_)
 replace hTO₅:IsPair h₅ TO x y:=hTO₅
 refine wpAny_bind (wpAny_letGo (wpAny_pure (wpAny_pure ?_)))
 refine wpAny_bind (wpAny_seqItems hTO₅ rfl ?_)
 refine wpAny_bind (wpAny_newTuple ?_)
 have hsz:h₅.objs.size=s.heap.objs.size:=by rw [hs₅.1,hs₄.1,hs₃.1,hs₂.1,hs₁.1]
 have hz₅:IsZip h₅ z TI TO .ellipsis:=hs₅.extBut _ _ D.TOz.symm (hs₄.extBut _ _ D.i2z.symm (hs₃.extBut _ _ D.TOz.symm (hs₂.extBut _ _ D.i1z.symm hz₁)))
 have hk₅:∀ c o,c≠z→c≠TO→c≠i1→c≠i2→s.heap.get? c=some o→h₅.get? c=some o:=fun c o c1 c2 c3 c4 e =>
  hs₅.extBut _ _ c2 (hs₄.extBut _ _ c4 (hs₃.extBut _ _ c2 (hs₂.extBut _ _ c3 (hs₁.extBut _ _ c1 e))))
 have h1₅:ItAt b1 h₅ i1 l1 (k1 + 1):=h1₂.at' fun o e=>hs₅.extBut _ _ D.TOi1.symm (hs₄.extBut _ _ D.i12 (hs₃.extBut _ _ D.TOi1.symm e))
 have h2₅:ItAt b2 h₅ i2 l2 (k2 + 1):=h2₄.at' fun o e=>hs₅.extBut _ _ D.TOi2.symm e
 have hzlt:z < h₅.objs.size:=Heap.lt_size hz₅
 show wpAny _ _ (Builtin.SmallTypes.ownedTupleHandOut (.ref z) (.ref h₅.objs.size) >>= _) _ _ _
 refine wpAny_bind ?_
 unfold Builtin.SmallTypes.ownedTupleHandOut
 have hz₆:IsZip (h₅.push { cls:=.type "tuple",data:=.seq #[x,y] }) z TI TO .ellipsis:=Heap.get?_push_of_some _ hz₅
 refine wpAny_bind (wpAny_setField_rec hz₆ (by simp) fun h₇ hz₇ hs₇=>?_)
 replace hz₇:IsZip h₇ z TI TO (rawInt h₅.objs.size):=hz₇
 refine wpAny_setField_rec hz₇ (by simp) fun h₈ hz₈ hs₈=>?_
 replace hz₈:IsZip h₈ z TI TO (rawInt h₅.objs.size):=hz₈
 have up:∀ c o,c≠z→h₅.get? c=some o→h₈.get? c=some o:=fun c o c1 e=>hs₈.extBut _ _ c1 (hs₇.extBut _ _ c1 (Heap.get?_push_of_some _ e))
 have hT₈:IsPair h₈ h₅.objs.size x y:=hs₈.extBut _ _ (Nat.ne_of_gt hzlt) (hs₇.extBut _ _ (Nat.ne_of_gt hzlt) (Heap.get?_push_size _ rfl))
 have hz8:h₈.objs.size=h₅.objs.size + 1:=by rw [hs₈.1,hs₇.1,Heap.size_push]
 rw [hsz] at hz₈ hT₈ hz8
 refine wpAny_pure ⟨_,rfl,?_⟩
 show Q (.ref h₅.objs.size) _
 rw [hsz]
 exact hQ h₈ hz₈ (up _ _ D.TOz hTO₅) (h1₅.at' fun o e=>up _ o D.i1z e) (h2₅.at' fun o e=>up _ o D.i2z e) hT₈ hz8 fun c o c1 c2 c3 c4 e=>up c o c1 (hk₅ c o c1 c2 c3 c4 e)
theorem zip_end {b1 b2:Bool} {z TI TO i1 i2 l1 l2:Addr} {k1 k2:Nat} {xs ys:Array Value} {a b:Value} {Q:Fin→Shared→Prop} (hh:A.handled=none) (D:ZipApart z TI TO i1 i2 l1 l2)
  (hz:IsZip s.heap z TI TO .none) (hTI:IsPair s.heap TI (.ref i1) (.ref i2)) (hTO:IsPair s.heap TO a b)
  (h1:ItAt b1 s.heap i1 l1 k1) (h2:ItAt b2 s.heap i2 l2 k2) (hl1:SqAt b1 s.heap l1 xs) (hl2:SqAt b2 s.heap l2 ys) (hend:xs[k1]?=none∨ys[k2]?=none)
  (hE:∀ h' e,(∀ c o,c≠z→c≠TO→c≠i1→c≠i2→s.heap.get? c=some o→h'.get? c=some o)→(∃ o,h'.get? e=some o∧o.cls=.type "StopIteration")→E (.ref e) { s with heap:=h' }) :
  wpAny (model prog w) A (Builtin.«zip.__next__» ⟨[.ref z],[]⟩) Q E s:=by
 show wpAny _ _ (field (.ref z) 2 >>= _) _ _ _
 refine wpAny_bind (wpAny_field hz rfl (x:=.bool false) rfl ?_)
 show wpAny _ _ (field (.ref z) 3 >>= _) _ _ _
 refine wpAny_bind (wpAny_field hz rfl (x:=.ref TI) rfl ?_)
 refine wpAny_bind (wpAny_seqItems hTI rfl ?_)
 show wpAny _ _ (Builtin.SmallTypes.ownedTupleIsFree (.ref z) >>= _) _ _ _
 refine wpAny_bind ?_
 unfold Builtin.SmallTypes.ownedTupleIsFree
 refine wpAny_bind (wpAny_field hz rfl (x:=.none) rfl (wpAny_pure ?_))
 simp only [if_true]
 refine wpAny_bind (wpAny_rule ?_)
 refine wpAny_bind (wpAny_field hz rfl (x:=.ref TO) rfl ?_)
 refine wpAny_bind (wpAny_setField_rec hz (by simp) fun h₁ hz₁ hs₁=>?_)
 replace hz₁:IsZip h₁ z TI TO .ellipsis:=hz₁
 refine wpAny_bind ?_
 simp only [List.zipIdx_cons,List.zipIdx_nil,List.forIn_cons,List.forIn_nil]
 refine wpAny_bind (wpAny_bind (wpAny_onRaise ?_))
 show wpAny _ _ (Builtin.SmallTypes.nextOf (.ref i1) >>= _) _ _ _
 cases hx:xs[k1]? with
 | none =>
  refine wpAny_bind (vn hh (h1.at' fun o e=>hs₁.extBut _ _ D.i1z e) (hl1.at' fun o e=>hs₁.extBut _ _ D.l1z e) hx fun h₂ e hs₂ he=>?_)
  obtain ⟨oe,hoe,hce⟩:=he
  have hz₂:IsZip h₂ z TI TO .ellipsis:=hs₂ _ _ D.i1z.symm hz₁
  have hez:e≠z:=fun x=>by subst x; rw [hz₂] at hoe; cases hoe; simp at hce
  refine wpAny_setField_rec hz₂ (by simp) fun h₃ _ hs₃=>hE h₃ e (fun c o c1 _ c3 _ x=>hs₃.extBut _ _ c1 (hs₂ _ _ c3 (hs₁.extBut _ _ c1 x))) ⟨oe,hs₃.extBut _ _ hez hoe,hce⟩
 | some x =>
  have hy:ys[k2]?=none:=by rcases hend with h | h; rw [hx] at h; cases h; exact h
  refine wpAny_bind (jX (h1.at' fun o e=>hs₁.extBut _ _ D.i1z e) (hl1.at' fun o e=>hs₁.extBut _ _ D.l1z e) hx fun h₂ h1₂ hs₂=>wpAny_pure ?_)
  have hTO₂:IsPair h₂ TO a b:=hs₂.extBut _ _ D.TOi1 (hs₁.extBut _ _ D.TOz hTO)
  refine wpAny_bind (wpAny_seqItems hTO₂ rfl ?_)
  refine wpAny_bind (wpAny_updateSeq_pair hTO₂ fun h₃ hTO₃ hs₃=>?_)
  refine wpAny_bind (wpAny_letGo (wpAny_pure ?_))
  refine wpAny_bind (wpAny_bind (wpAny_onRaise ?_))
  show wpAny _ _ (Builtin.SmallTypes.nextOf (.ref i2) >>= _) _ _ _
  refine wpAny_bind (vn hh (h2.at' fun o e=>hs₃.extBut _ _ D.TOi2.symm (hs₂.extBut _ _ D.i12.symm (hs₁.extBut _ _ D.i2z e)))
   (hl2.at' fun o e=>hs₃.extBut _ _ D.l2TO (hs₂.extBut _ _ D.l2i1 (hs₁.extBut _ _ D.l2z e))) hy fun h₄ e hs₄ he=>?_)
  obtain ⟨oe,hoe,hce⟩:=he
  have hz₄:IsZip h₄ z TI TO .ellipsis:=hs₄ _ _ D.i2z.symm (hs₃.extBut _ _ D.TOz.symm (hs₂.extBut _ _ D.i1z.symm hz₁))
  have hez:e≠z:=fun x=>by subst x; rw [hz₄] at hoe; cases hoe; simp at hce
  refine wpAny_setField_rec hz₄ (by simp) fun h₅ _ hs₅=>hE h₅ e (fun c o c1 c2 c3 c4 x=>hs₅.extBut _ _ c1 (hs₄ _ _ c4 (hs₃.extBut _ _ c2 (hs₂.extBut _ _ c3 (hs₁.extBut _ _ c1 x))))) ⟨oe,hs₅.extBut _ _ hez hoe,hce⟩
abbrev zH1 (h:Heap) (b1:Bool) (l1:Addr):Heap:=h.push { cls:=.type (ww b1),data:=.fields #[.ref l1,.int 0 0] }
abbrev zH2 (h:Heap) (b1 b2:Bool) (l1 l2:Addr):Heap:=(zH1 h b1 l1).push { cls:=.type (ww b2),data:=.fields #[.ref l2,.int 0 0] }
noncomputable abbrev zH3 (h:Heap) (b1 b2:Bool) (l1 l2:Addr):Heap:=(zH2 h b1 b2 l1 l2).push { cls:=.type "tuple",data:=.seq #[.ref h.objs.size,.ref (zH1 h b1 l1).objs.size] }
noncomputable abbrev zH4 (h:Heap) (b1 b2:Bool) (l1 l2:Addr):Heap:=(zH3 h b1 b2 l1 l2).push { cls:=.type "tuple",data:=.seq #[.none,.none] }
noncomputable abbrev zH5 (h:Heap) (b1 b2:Bool) (l1 l2:Addr):Heap:=(zH4 h b1 b2 l1 l2).push { cls:=.type "zip",data:=.fields #[.none,.bool false,.bool false,.ref (zH2 h b1 b2 l1 l2).objs.size,.ref (zH3 h b1 b2 l1 l2).objs.size] }
end
theorem meets_zip {b1 b2:Bool} (l1 l2:Addr) (xs ys:Array Value) :
  Meets (Builtin.«zip.__new__» ⟨[.type "zip",.ref l1,.ref l2],[]⟩) (fun _ R s=>SqAt b1 s.heap l1 xs∧SqAt b2 s.heap l2 ys ∧
   R (.ok (.ret (.ref (zH4 s.heap b1 b2 l1 l2).objs.size))) { s with heap:=zH5 s.heap b1 b2 l1 l2 }) :=
 .of_wp fun prog w A R s h=>by
  obtain ⟨hp,g,d,tk,os⟩:=s; obtain ⟨hl1,hl2,h⟩:=h
  have hsub:=sub_zip
  have hL1:SqAt b1 (Shared.heap ⟨hp,g,d,tk,os⟩) l1 xs:=hl1
  have hL2:SqAt b2 (Shared.heap ⟨hp.push { cls:=.type (ww b1),data:=.fields #[.ref l1,.int 0 0] },g,d,tk,os⟩) l2 ys:=hl2.at' fun o e=>Heap.get?_push_of_some _ e
  wp_walk using vZ hL1,vZ hL2
  exact ⟨_,rfl,h⟩
section
variable {prog:Program} {w:World} {A:Around} {E:Value→Shared→Prop} {s:Shared}
theorem ItAt.new {b:Bool} {h:Heap} {it l:Addr} (e:h.get? it=some { cls:=.type (ww b),data:=.fields #[.ref l,.int 0 0] }):ItAt b h it l 0:=by
 cases b <;> exact ⟨_,e,rfl,rfl⟩
theorem call_zip {b1 b2:Bool} {l1 l2:Addr} {xs ys:Array Value} {Q:Value→Shared→Prop} (hl1:SqAt b1 s.heap l1 xs) (hl2:SqAt b2 s.heap l2 ys)
  (h:∀ h',IsZip h' (s.heap.objs.size + 4) (s.heap.objs.size + 2) (s.heap.objs.size + 3) .none→IsPair h' (s.heap.objs.size + 2) (.ref s.heap.objs.size) (.ref (s.heap.objs.size + 1)) →
   IsPair h' (s.heap.objs.size + 3) .none .none→ItAt b1 h' s.heap.objs.size l1 0→ItAt b2 h' (s.heap.objs.size + 1) l2 0→h'.objs.size=s.heap.objs.size + 5 →
   (∀ c o,s.heap.get? c=some o→h'.get? c=some o)→Q (.ref (s.heap.objs.size + 4)) { s with heap:=h' }) :
  wpAny (model prog w) A (call (.type "zip") [.ref l1,.ref l2]) Q E s:=by
 refine callType_new F.called_zip (by decide) (F.typeCall_zip_2 _ _) (F.newCall_zip_2 _ _) (fun obj=>F.args_object_init_3 obj _ _) F.entry_zip_new
  (meets_zip (b1:=b1) (b2:=b2) l1 l2 xs ys) ⟨hl1,hl2,?_⟩
 have z1:(zH1 s.heap b1 l1).objs.size=s.heap.objs.size + 1:=Heap.size_push ..
 have z2:(zH2 s.heap b1 b2 l1 l2).objs.size=s.heap.objs.size + 2:=by rw [Heap.size_push,z1]
 have z3:(zH3 s.heap b1 b2 l1 l2).objs.size=s.heap.objs.size + 3:=by rw [Heap.size_push,z2]
 have z4:(zH4 s.heap b1 b2 l1 l2).objs.size=s.heap.objs.size + 4:=by rw [Heap.size_push,z3]
 have z5:(zH5 s.heap b1 b2 l1 l2).objs.size=s.heap.objs.size + 5:=by rw [Heap.size_push,z4]
 have g5:(zH5 s.heap b1 b2 l1 l2).get? (zH4 s.heap b1 b2 l1 l2).objs.size=some _:=Heap.get?_push_size _ rfl
 have g4:(zH5 s.heap b1 b2 l1 l2).get? (zH3 s.heap b1 b2 l1 l2).objs.size=some _:=Heap.get?_push_of_some _ (Heap.get?_push_size _ rfl)
 have g3:(zH5 s.heap b1 b2 l1 l2).get? (zH2 s.heap b1 b2 l1 l2).objs.size=some _:=Heap.get?_push_of_some _ (Heap.get?_push_of_some _ (Heap.get?_push_size _ rfl))
 have g2:(zH5 s.heap b1 b2 l1 l2).get? (zH1 s.heap b1 l1).objs.size=some _:=Heap.get?_push_of_some _ (Heap.get?_push_of_some _ (Heap.get?_push_of_some _ (Heap.get?_push_size _ rfl)))
 have g1:(zH5 s.heap b1 b2 l1 l2).get? s.heap.objs.size=some _:=Heap.get?_push_of_some _ (Heap.get?_push_of_some _ (Heap.get?_push_of_some _ (Heap.get?_push_of_some _ (Heap.get?_push_size _ rfl))))
 show _∧_
 rw [z2,z3,z4] at g5
 rw [z1,z2] at g3
 rw [z3] at g4
 rw [z1] at g2
 rw [z4]
 exact ⟨⟨_,g5,rfl⟩,h _ g5 g3 g4 (ItAt.new g1) (ItAt.new g2) z5 fun c o x =>
  Heap.get?_push_of_some _ (Heap.get?_push_of_some _ (Heap.get?_push_of_some _ (Heap.get?_push_of_some _ (Heap.get?_push_of_some _ x))))⟩
end
def SqB (b:Bool) (K:PySem.W.Frag) (H:Hp) (a:Addr) (xs:List V):Prop:=if b=true then SqL K H a xs else SqT K H a xs
theorem Inv.sqB {X:Cx} {pins:List (Addr × Obj)} {σ:St} {H:Hp} {s:Shared} {b:Bool} {a:Addr} {xs:List V} (I:Inv X pins σ H s) (h:SqB b X.K H a xs):∃ its:List Value,Vals xs its∧SqAt b s.heap a its.toArray:=by
 cases b
 ·obtain ⟨its,r,p,_⟩:=I.tuple (show SqT X.K H a xs from h)
  exact ⟨its,r,p⟩
 ·obtain ⟨its,r,p,_⟩:=I.list (show SqL X.K H a xs from h)
  exact ⟨its,r,p.isList⟩
theorem Inv.sqB_inj {X:Cx} {pins:List (Addr × Obj)} {σ:St} {H:Hp} {s:Shared} {b:Bool} {a:Addr} {xs ys:List V} (I:Inv X pins σ H s) (h1:SqB b X.K H a xs) (h2:SqB b X.K H a ys):xs=ys:=by
 cases b
 ·exact I.tuple_inj (show SqT X.K H a xs from h1) (show SqT X.K H a ys from h2)
 ·exact I.list_inj (show SqL X.K H a xs from h1) (show SqL X.K H a ys from h2)
def Itz (K:PySem.W.Frag) (b1 b2:Bool) (a1 a2:Addr):It :=
 ⟨fun i H=>∃ xs ys x y,SqB b1 K H a1 xs∧SqB b2 K H a2 ys∧xs[i]?=some x∧ys[i]?=some y,
   fun i H v H'=>∃ t x y,H t=none∧v=.ref t∧(∀ xs,SqB b1 K H a1 xs→xs[i]?=some x)∧(∀ ys,SqB b2 K H a2 ys→ys[i]?=some y)∧H'=upd H t (.tup [x,y]),
   fun i H=>∃ xs ys,SqB b1 K H a1 xs∧SqB b2 K H a2 ys∧(xs.length≤i∨ys.length≤i)⟩
theorem SqB.there {X:Cx} {pins:List (Addr × Obj)} {σ:St} {H:Hp} {s:Shared} {b:Bool} {a:Addr} {xs:List V} (I:Inv X pins σ H s) (h:SqB b X.K H a xs):∃ o,s.heap.get? a=some o∧(o.cls=.type "list"∨o.cls=.type "tuple")∧∃ its n,o.data=.seq its n:=by
 obtain ⟨its,_,p⟩:=I.sqB h
 cases b
 ·obtain ⟨o,e,c,n,d⟩:=p; exact ⟨o,e,.inr c,_,n,d⟩
 ·obtain ⟨o,e,c,n,d⟩:=p; exact ⟨o,e,.inl c,_,n,d⟩
theorem turn_zip {P:Program} {w:World} {K:PySem.W.Frag} {elts:List Expr} {x1} {pos:Pos} {b1 b2:Bool} (z TI TO i1 i2 l1 l2:Addr) (D:ZipApart z TI TO i1 i2 l1 l2) :
  Turn P w K (.Tuple elts x1 pos) (Itz K b1 b2 l1 l2) [z,TI,TO,i1,i2] z (fun i h=>IsZip h z TI TO .none∧IsPair h TI (.ref i1) (.ref i2)∧(∃ a b,IsPair h TO a b)∧ItAt b1 h i1 l1 i∧ItAt b2 h i2 l2 i) where
 mem:=by simp
 obj:=fun i h st b hb=>by
  obtain ⟨hz,hTI,⟨a,b',hTO⟩,h1,h2⟩:=st
  simp only [List.mem_cons,List.not_mem_nil,or_false] at hb
  rcases hb with rfl | rfl | rfl | rfl | rfl
  ·exact ⟨_,hz,fun v z=>by cases z⟩
  ·exact ⟨_,hTI,fun v z=>by cases z⟩
  ·exact ⟨_,hTO,fun v z=>by cases z⟩
  ·exact h1.obj
  ·exact h2.obj
 keep:=fun i h h' st k=>by
  obtain ⟨hz,hTI,⟨a,b',hTO⟩,h1,h2⟩:=st
  exact ⟨k z (by simp) _ hz,k TI (by simp) _ hTI,⟨a,b',k TO (by simp) _ hTO⟩,h1.at' fun o e=>k i1 (by simp) o e,h2.at' fun o e=>k i2 (by simp) o e⟩
 item:=by
  intro X hP hw hK hc i pins s σ H E I hf st hg
  subst hP hw hK
  obtain ⟨hz,hTI,⟨a,b',hTO⟩,h1,h2⟩:=st
  obtain ⟨xs,ys,x,y,q1,q2,hx,hy⟩:=hg
  obtain ⟨its1,r1,p1⟩:=I.sqB q1
  obtain ⟨its2,r2,p2⟩:=I.sqB q2
  obtain ⟨u1,hu1,ru1⟩:=r1.get hx
  obtain ⟨u2,hu2,ru2⟩:=r2.get hy
  have hT:s.TypeIs (.ref z) "zip":=⟨_,hz,rfl⟩
  unfold pyNext
  refine wpAny_bind (wpAny_attempt (wpAny_callSpecial?_slot (name:=Str.ofString "__next__") hT F.slot_zip_next (wpAny_call_entry F.slot_zip_next hT F.entry_zip_next
   (zip_item D hz hTI hTO h1 h2 p1 p2 (x:=u1) (y:=u2) (by simpa using hu1) (by simpa using hu2) fun h' a1 a2 a3 a4 a5 a6 hk=>wpAny_pure ?_) (F.args_zip_next_1 _))))
  refine ⟨_,rfl,?_⟩
  have I1:Inv X pins σ (upd H s.heap.objs.size (.tup [x,y])) { s with heap:=h' }:=I.turnNew (t':=s.toks) hf (Nat.le_refl _) (fun b o hb q=>hk b o (fun z=>hb (by simp [z])) (fun z=>hb (by simp [z])) (fun z=>hb (by simp [z])) (fun z=>hb (by simp [z])) q)
   ⟨by show 2≤sizeLine; decide,[u1,u2],.cons ru1 (.cons ru2 .nil),⟨_,a5,rfl,_,rfl⟩⟩
  have hn:H s.heap.objs.size=none:=I.hok.fresh (Nat.le_refl _)
  have ne:∀ b∈[z,TI,TO,i1,i2],b≠s.heap.objs.size:=fun b hb=>by
   have:∃ o,s.heap.get? b=some o:=by
    simp only [List.mem_cons,List.not_mem_nil,or_false] at hb
    rcases hb with rfl | rfl | rfl | rfl | rfl
    ·exact ⟨_,hz⟩
    ·exact ⟨_,hTI⟩
    ·exact ⟨_,hTO⟩
    ·exact let ⟨o,e,_⟩:=h1.obj; ⟨o,e⟩
    ·exact let ⟨o,e,_⟩:=h2.obj; ⟨o,e⟩
   obtain ⟨o,e⟩:=this
   exact Nat.ne_of_lt (Heap.lt_size e)
  have fr:∀ b∈[z,TI,TO,i1,i2],(upd H s.heap.objs.size (.tup [x,y])) b=none:=fun b hb=>by rw [upd_ne (ne b hb)]; exact (hf b hb).1
  have hTI':IsPair h' TI (.ref i1) (.ref i2):=hk _ _ D.TIz D.TITO D.TIi1 D.TIi2 hTI
  refine wpAny_letOwnedTupleGo_zip a1 fun h'' hz'' hs''=>?_
  refine ⟨.ref s.heap.objs.size,_,I1.turnL (t':=s.toks) (ch:=[z]) (fun b hb=>?_) (fun b o hb q=>(hs''.2 b (fun z=>hb (by simp [z]))).trans q),rfl,
   ⟨s.heap.objs.size,x,y,hn,rfl,fun zs hy=>by rw [I.sqB_inj hy q1]; exact hx,fun zs hz=>by rw [I.sqB_inj hz q2]; exact hy,rfl⟩,
   ⟨hz'',hs''.extBut _ _ D.TIz hTI',⟨_,_,hs''.extBut _ _ D.TOz a2⟩,a3.at' fun o e=>hs''.extBut _ _ D.i1z e,a4.at' fun o e=>hs''.extBut _ _ D.i2z e⟩,fr⟩
  obtain rfl:b=z:=by simpa using hb
  exact ⟨fr b (by simp),(hf b (by simp)).2⟩
 done:=by
  intro X hP hw hK hc i pins s σ H E I hf st hg
  subst hP hw hK
  obtain ⟨hz,hTI,⟨a,b',hTO⟩,h1,h2⟩:=st
  obtain ⟨xs,ys,q1,q2,hx⟩:=hg
  obtain ⟨its1,r1,p1⟩:=I.sqB q1
  obtain ⟨its2,r2,p2⟩:=I.sqB q2
  have e1:=r1.length
  have e2:=r2.length
  have hT:s.TypeIs (.ref z) "zip":=⟨_,hz,rfl⟩
  have hend:its1.toArray[i]?=none∨its2.toArray[i]?=none:=by
   rcases hx with h | h
   ·exact .inl (by simp; omega)
   ·exact .inr (by simp; omega)
  unfold pyNext
  refine wpAny_bind (wpAny_attempt (wpAny_callSpecial?_slot (name:=Str.ofString "__next__") hT F.slot_zip_next
   (wpAny_call_entry F.slot_zip_next hT F.entry_zip_next (zip_end (I.ok.hd hc) D hz hTI hTO h1 h2 p1 p2 hend fun h' e hk he=>?_) (F.args_zip_next_1 _))))
  obtain ⟨o,ho,hcl⟩:=he
  refine wpAny_bind (wpAny_isInstance (T:="StopIteration") (b:=true) ⟨o,ho,hcl⟩ isSubtype_stop ?_)
  exact wpAny_pure ⟨rfl,I.turnL (t':=s.toks) hf fun b o hb q=>hk b o (fun z=>hb (by simp [z])) (fun z=>hb (by simp [z])) (fun z=>hb (by simp [z])) (fun z=>hb (by simp [z])) q⟩
 self:=fun _ _ _ _ _ st h=>wpAny_pyIter_zip st.1 h
theorem zip_apart (n l1 l2:Nat) (h1:l1 < n) (h2:l2 < n):ZipApart (n + 4) (n + 2) (n + 3) n (n + 1) l1 l2:=by
 constructor <;> (show (_:Nat)≠_) <;> omega
def iZip (X:Cx) (ta:TA):TI:=fun σ H R=>X.mg "zip"=none∧ta σ H fun vs H1=>∃ b1 b2 l1 l2 xs ys,vs=[.ref l1,.ref l2]∧SqB b1 X.K H1 l1 xs∧SqB b2 X.K H1 l2 ys∧R (Itz X.K b1 b2 l1 l2) H1
theorem JI {X:Cx} {a b:Expr} {elts:List Expr} {x1} {tp p pos:Pos} {ta:TA} (ha:PA X [a,b] ta) (hg:Gl X "zip":=by rfl)
  (hs:starEach [a,b] X.env=(false,eval a X.env) :: starEach [b] X.env:=by rfl) (hpl:(backTo pos (starEach [b] X.env)).any (·.1)=false:=by rfl) :
  PI X (.Tuple elts x1 tp) (.Call (.Name "zip" p) [a,b] [] pos) (iZip X ta):=by
 intro pins s σ H R I h
 refine wpAny_Call_Name_kw (jp I hg h.1 bo_zip ?_)
 refine PyProof.Rows.callWith_type1 (thn (ha pos pins s σ H _ I h.2) fun us s1 ⟨vs,H1,I1,r1,q1⟩=>?_) hs hpl
 obtain ⟨b1,b2,l1,l2,xs,ys,rfl,q1,q2,hR⟩:=q1
 obtain ⟨u1,u2,rfl,rx,ry⟩:=J1 r1
 cases rx
 cases ry
 obtain ⟨its1,rv1,p1⟩:=I1.sqB q1
 obtain ⟨its2,rv2,p2⟩:=I1.sqB q2
 obtain ⟨o1,e1,_⟩:=SqB.there I1 q1
 obtain ⟨o2,e2,_⟩:=SqB.there I1 q2
 have n1:=Heap.lt_size e1
 have n2:=Heap.lt_size e2
 refine call_zip p1 p2 fun h' hz hTI hTO h1 h2 hsz hk=>wpAny_pyIter_zip hz ?_
 refine ⟨s1.heap.objs.size + 4,[s1.heap.objs.size + 4,s1.heap.objs.size + 2,s1.heap.objs.size + 3,s1.heap.objs.size,s1.heap.objs.size + 1],_,_,H1,rfl,I1.kept (t':=s1.toks) hk,
  turn_zip _ _ _ _ _ l1 l2 (zip_apart _ _ _ n1 n2),⟨hz,hTI,⟨_,_,hTO⟩,h1,h2⟩,fun b hb=>?_,hR⟩
 have ge:s1.heap.objs.size≤b:=by
  simp only [List.mem_cons,List.not_mem_nil,or_false] at hb
  rcases hb with rfl | rfl | rfl | rfl | rfl
  ·exact Nat.le_add_right _ _
  ·exact Nat.le_add_right _ _
  ·exact Nat.le_add_right _ _
  ·exact Nat.le_refl _
  ·exact Nat.le_add_right _ _
 exact I1.fpOk ge (I1.hok.fresh ge)
section
variable {K:PySem.W.Frag} {σ:St} {H:Hp}
theorem vE {a:Addr} {xs:List V} {DN:St→Hp→Prop} {B:(St→Hp→Prop)→V→St→Hp→Prop} (Pv:Nat→St→Hp→Prop) (h0:Pv 0 σ H) (hl:∀ i σ H,i≤xs.length→Pv i σ H→SqL K H a xs)
  (hs:∀ i x t σ H,xs[i]?=some x→H t=none→Pv i σ H→B (Pv (i + 1)) (.ref t) σ (upd H t (.tup [.int i,x]))) (hd:∀ σ H,Pv xs.length σ H→DN σ H) :
  ∃ W:Nat→Nat→St→Hp→Prop,(∃ m,W 0 m σ H)∧∀ i m σ H,W i m σ H →
   ((Ite K a).stop i H∧DN σ H)∨((Ite K a).go i H∧∃ N:St→Hp→Prop,(∀ σ' H',N σ' H'→∃ m',m' < m∧W (i + 1) m' σ' H')∧∀ x H',(Ite K a).yld i H x H'→B N x σ H'):=by
 refine ⟨fun i m σ H=>m=xs.length - i∧i≤xs.length∧Pv i σ H,⟨xs.length,by simp,Nat.zero_le _,h0⟩,?_⟩
 rintro i m σ H ⟨rfl,hi,p⟩
 have q:=hl i σ H hi p
 by_cases hlt:i < xs.length
 ·refine .inr ⟨⟨xs,xs[i],q,by simp [hlt]⟩,Pv (i + 1),fun σ' H' p'=>⟨xs.length - (i + 1),by omega,rfl,hlt,p'⟩,fun v H' y=>?_⟩
  obtain ⟨t,x,ht,rfl,hx,rfl⟩:=y
  exact hs i x t σ _ (hx xs q) ht p
 ·have e:i=xs.length:=by omega
  subst e
  exact .inl ⟨⟨xs,q,Nat.le_refl _⟩,hd σ H p⟩
theorem Xb {b1 b2:Bool} {a1 a2:Addr} {xs ys:List V} {DN:St→Hp→Prop} {B:(St→Hp→Prop)→V→St→Hp→Prop} (Pv:Nat→St→Hp→Prop) (h0:Pv 0 σ H) (hl:∀ i σ H,i≤min xs.length ys.length→Pv i σ H→SqB b1 K H a1 xs∧SqB b2 K H a2 ys)
  (hs:∀ i x y t σ H,xs[i]?=some x→ys[i]?=some y→H t=none→Pv i σ H→B (Pv (i + 1)) (.ref t) σ (upd H t (.tup [x,y]))) (hd:∀ σ H,Pv (min xs.length ys.length) σ H→DN σ H) :
  ∃ W:Nat→Nat→St→Hp→Prop,(∃ m,W 0 m σ H)∧∀ i m σ H,W i m σ H →
   ((Itz K b1 b2 a1 a2).stop i H∧DN σ H)∨((Itz K b1 b2 a1 a2).go i H∧∃ N:St→Hp→Prop,(∀ σ' H',N σ' H'→∃ m',m' < m∧W (i + 1) m' σ' H')∧∀ x H',(Itz K b1 b2 a1 a2).yld i H x H'→B N x σ H'):=by
 refine ⟨fun i m σ H=>m=min xs.length ys.length - i∧i≤min xs.length ys.length∧Pv i σ H,⟨min xs.length ys.length,by simp,Nat.zero_le _,h0⟩,?_⟩
 rintro i m σ H ⟨rfl,hi,p⟩
 obtain ⟨q1,q2⟩:=hl i σ H hi p
 by_cases hlt:i < min xs.length ys.length
 ·have l1:i < xs.length:=by omega
  have l2:i < ys.length:=by omega
  refine .inr ⟨⟨xs,ys,xs[i],ys[i],q1,q2,by simp [l1],by simp [l2]⟩,Pv (i + 1),fun σ' H' p'=>⟨min xs.length ys.length - (i + 1),by omega,rfl,hlt,p'⟩,fun v H' y=>?_⟩
  obtain ⟨t,x,y,ht,rfl,hx,hy,rfl⟩:=y
  exact hs i x y t σ _ (hx xs q1) (hy ys q2) ht p
 ·have e:i=min xs.length ys.length:=by omega
  subst e
  exact .inl ⟨⟨xs,ys,q1,q2,by omega⟩,hd σ H p⟩
end
section
variable {X:Cx} {N:List Str} {scope:Scope} {s:Shared} {H:Hp} {fp:List Addr} {pins:List (Addr × Obj)}
theorem cxC_K:(cxC X N scope s H fp pins).K=X.K:=rfl
theorem cxC_mg:(cxC X N scope s H fp pins).mg=X.mg:=rfl
theorem cxC_prog:(cxC X N scope s H fp pins).prog=X.prog:=rfl
theorem cxC_w:(cxC X N scope s H fp pins).w=X.w:=rfl
theorem cxC_base:(cxC X N scope s H fp pins).base=X.base:=rfl
end
end L2
namespace L2
open PySem PySem.Spec PySem.Calls PyProof.Rows
structure BCal (P:Program) (w:World) (K:PySem.W.Frag) (mg:Str→Option Value) (base:Heap) (x m:Str) (k:Nat) (ps:List Str) (dvs:List V) (sp:Sp):Prop where
 ex:∃ C f fd ds,mg x=some (.ref C)∧PySem.W.specialIn K (.ref C) "__getattribute__"=some (some (.builtin "type.__getattribute__"))∧PySem.W.readsIn K C (.type "type")=true ∧
  PySem.W.findCls K (.ref C) (.type "type") m=some (.val (.ref f))∧PySem.W.handedIn (.ref f)=true∧FnOk P w K mg base (CXr P w) k f fd ps sp∧PySem.W.keepIn K (.ref f)=true∧Binds K fd ps ds∧Vals dvs ds
theorem BCal.mono {P:Program} {w:World} {K:PySem.W.Frag} {mg:Str→Option Value} {base:Heap} {x m:Str} {j k:Nat} {ps:List Str} {dvs:List V} {sp:Sp} (c:BCal P w K mg base x m j ps dvs sp) (h:j≤k:=by decide):BCal P w K mg base x m k ps dvs sp :=
 let ⟨C,f,fd,ds,a,b,c,d,e,g,r⟩:=c.ex; ⟨C,f,fd,ds,a,b,c,d,e,g.mono h,r⟩
section
variable {X:Cx} {G:GK} {k:Nat} {x m:Str} {p pos apos:Pos} {e:Expr} {es:List Expr} {t:TA}
def tBase (X:Cx) (k:Nat) (x m:Str) (G:GK) (t:TA):TE:=fun σ H Q=>∃ ps dvs sp,BCal X.prog X.w X.K X.mg X.base x m k ps dvs sp∧t σ H fun vs H1=>sp (vs ++ dvs) H1 Q (fun cls _ H'=>G cls σ H')
theorem j8 {pl:Sem Bool} (B:Bod X) (hr:Room k X.A) (ha:PA (X.exg G) (e :: es) t) (hg:Gl X x:=by rfl) (hdb:(x == ("__debug__":Str))=false:=by decide)
  (hst:starEach (e :: es) X.env=(false,eval e X.env) :: starEach es X.env:=by rfl) (hpl:(backTo pos (starEach es X.env)).any (·.1)=false:=by rfl)
  (ht:eval (.Call (.Attribute (.Name x p) m apos) (e :: es) [] pos) X.env=(do
   let ov ← eval (.Name x p) X.env
   standAt apos.atName
   let (f,first) ← holding [ov] (getMethod ov m pl)
   callWith pos f first (backTo pos (starEach (e :: es) X.env)) (backToKw pos (keywordEach [] X.env))):=by rfl) :
  PE (X.exg G) (.Call (.Attribute (.Name x p) m apos) (e :: es) [] pos) (tBase X k x m G t):=by
 intro pins s σ H Q I h
 obtain ⟨ps,dvs,sp,⟨C,f,fd,ds,hm,hga,hrd,hfc,hhd,F,hk,hb,hd⟩,h⟩:=h
 refine PySem.W.methodCall_KW (pl:=pl) (jF I hg hm ?_ hdb) ht
 refine PySem.W.method_cls I.kIn hga (PySem.W.cls_value I.kIn hrd hfc hhd ?_)
 have I0:=I.tok (s.toks + 1)
 refine PySem.W.callWith_K (first:=[]) (h₀:=X.base) I.ok.mod.kin hk (thn (ha pos pins _ σ H _ I0 h) fun us s1 ⟨vs,H1,I1,r,q⟩=>⟨I1.kIn,?_⟩) hst hpl
 exact Zz B F hr hb hd I1 r q
end
structure FB (K:PySem.W.Frag) (mg:Str→Option Value) (x m qual:Str) (st:Stmt) (ps:List Str):Prop where
 ex:∃ C f fd,mg x=some (.ref C)∧PySem.W.specialIn K (.ref C) "__getattribute__"=some (some (.builtin "type.__getattribute__"))∧PySem.W.readsIn K C (.type "type")=true ∧
  PySem.W.findCls K (.ref C) (.type "type") m=some (.val (.ref f))∧Fun K m qual st f fd∧PySem.W.keepIn K (.ref f)=true∧Binds K fd ps []
theorem FB.cal {P:Program} {w:World} {K:PySem.W.Frag} {mg:Str→Option Value} {base:Heap} {x m qual:Str} {st:Stmt} {ps:List Str} {k:Nat} {sp:Sp} (h:FB K mg x m qual st ps)
  (ok:∀ {f fd},Fun K m qual st f fd→FnOk P w K mg base (CXr P w) k f fd ps sp):BCal P w K mg base x m k ps [] sp:=let ⟨C,f,fd,a,b,c,d,F,kp,bi⟩:=h.ex; ⟨C,f,fd,[],a,b,c,d,rfl,ok F,kp,bi,.nil⟩
theorem fb_mk {K:PySem.W.Frag} {mg:Str→Option Value} {C:Addr} {x m qual:Str} {st:Stmt} {ps:List Str} {f:Addr} {oc:Value} {od an:Option Addr} {osl:Array (Option Value)} {kV doc pm cdv ct:Value} (gl:mg x=some (.ref C))
  (ga:PySem.W.specialIn K (.ref C) "__getattribute__"=some (some (.builtin "type.__getattribute__"))) (rd:PySem.W.readsIn K C (.type "type")=true) (fc:PySem.W.findCls K (.ref C) (.type "type") m=some (.val (.ref f)))
  (l:K.lookup f=some ⟨oc,od,.func (PySem.W.fnOf m qual (zY st) (zU st) (zf st) .none kV doc pm an cdv ct),osl⟩)
  (c:PySem.W.codeIn K cdv qual=true) (k:PySem.W.keepIn K (.ref f)=true)
  (hb:∀ (kV doc pm:Value) (an:Option Addr) (cdv ct:Value) (us:List Value),us.length=ps.length→bindArgs (PySem.W.fnOf m qual (zY st) (zU st) (zf st) .none kV doc pm an cdv ct) ⟨us,[]⟩=pure (ps.zip us)):FB K mg x m qual st ps :=
 ⟨C,f,_,gl,ga,rd,fc,jG l c k,k,(jG l c k).binds hb⟩
section
variable {X:Cx} {a b:Expr} {ta:TA} {p pos lp lpos:Pos}
def rgL (lo:Int) (n:Nat):List V:=(List.range n).map fun (i:Nat)=>V.int (lo + (i:Int))
theorem vals_range {lo:Int} {n:Nat} {acc:Array Value} (h:ItemsOf (fun i v=>∃ t,v=.int (lo + i * 1) t) acc n):Vals (rgL lo n) acc.toList:=by
 have key:∀ (k:Nat) (l:List Value) (m:Nat),l.length=m→(∀ i v,l[i]?=some v→∃ t,v=Value.int (lo + ((k + i:Nat):Int)) t)→Vals ((List.range' k m).map fun (i:Nat)=>V.int (lo + (i:Int))) l:=by
  intro k l
  induction l generalizing k with
  | nil=>intro m hm _; simp at hm; subst hm; exact .nil
  | cons x r ih =>
   intro m hm hv
   obtain ⟨m,rfl⟩:∃ m',m=m' + 1:=⟨r.length,by simpa using hm.symm⟩
   rw [List.range'_succ,List.map_cons]
   refine .cons ?_ (ih (k + 1) m (by simpa using hm) fun i v e=>?_)
   ·obtain ⟨t,e⟩:=hv 0 x rfl
    exact ⟨t,by simpa using e⟩
   ·obtain ⟨t,e'⟩:=hv (i + 1) v (by simpa using e)
    exact ⟨t,by rw [e']; congr 2; omega⟩
 have:=key 0 acc.toList n (by simpa using h.1) fun i v e=>by
  obtain ⟨t,e'⟩:=h.2 i v (by simpa using e)
  exact ⟨t,by rw [e']; simp⟩
 rw [rgL,List.range_eq_range']
 exact this
def tRg1 (X:Cx) (ta:TA):TE:=fun σ H Q=>X.mg "range"=none∧ta σ H fun vs H1=>∃ j:Int,vs=[.int j]∧∀ p,H1 p=none→Q (.ref p) (upd H1 p (.rng 0 j))
def tRg2 (X:Cx) (ta:TA):TE:=fun σ H Q=>X.mg "range"=none∧ta σ H fun vs H1=>∃ i j:Int,vs=[.int i,.int j]∧∀ p,H1 p=none→Q (.ref p) (upd H1 p (.rng i j))
theorem pe_rg1 (ha:PA X [a] ta) (hg:Gl X "range":=by rfl) (hs:starEach [a] X.env=[(false,eval a X.env)]:=by rfl):PE X (.Call (.Name "range" p) [a] [] pos) (tRg1 X ta):=by
 intro pins s σ H Q I h
 refine Call_ (jp I hg h.1 boot_range (PyProof.Rows.callWith_type1 (thn (ha pos pins s σ H _ I h.2) fun us s1 ⟨vs,H1,I1,r1,q1⟩=>?_) hs rfl))
 obtain ⟨j,e,q⟩:=q1
 subst e
 cases r1 with
 | cons r rr =>
  cases rr
  obtain ⟨t,rfl⟩:=r
  exact call_range_1 ⟨.ref _,_,I1.laid (o:=.rng 0 j) (fun b o e=>Heap.get?_push_of_some _ e) (Nat.le_refl _) ⟨_,_,_,Heap.get?_push_size _ rfl⟩,rfl,q _ I1.fresh⟩
theorem rgL_length {lo:Int} {n:Nat}:(rgL lo n).length=n:=by simp [rgL]
theorem bt_listR (hc:X.calm=true):CallR X (.type "list") (fun xs H Q=>∃ p lo hi,xs=[.ref p]∧H p=some (.rng lo hi)∧(-(2 ^ 62)≤lo∧lo < 2 ^ 62∧-(2 ^ 62)≤hi∧hi < 2 ^ 62∧(hi - lo).toNat≤1000)∧∀ l,H l=none→Q (.ref l) (upd H l (.lst (rgL lo (hi - lo).toNat)))):=by
 intro pins s σ H xs us Q I r h
 obtain ⟨p,lo,hi,rfl,hq,⟨h1,h2,h3,h4,h5⟩,q⟩:=h
 obtain ⟨u,rfl,rx⟩:=vR r
 cases rx
 obtain ⟨t,u,v,e⟩:=I.hok p _ hq
 refine call_list_range (n:=(hi - lo).toNat) (I.ok.hd hc) e (small_one h1 h2 h3 h4) (by rw [rangeSize_one]; split <;> omega) (by omega) fun h' tk acc' c' hk hS hit=>?_
 exact ⟨.ref _,_,I.laid (o:=.lst (rgL lo (hi - lo).toNat)) (t':=tk) hk (Nat.le_refl _) ⟨by rw [rgL_length]; exact Nat.le_of_lt (zm h5),acc'.toList,c',vals_range hit,by simpa using hS⟩,rfl,q _ I.fresh⟩
end
end L2
namespace L2
open PySem PySem.Spec PyProof.Rows
def Itd (lo:Int) (n:Nat):It:=⟨fun i _=>i < n,fun i H x H'=>H'=H∧x=.int (lo - i),fun i _=>n≤i⟩
theorem turn_down {P:Program} {w:World} {K:PySem.W.Frag} {tg:Expr} (it:Addr) (lo:Int) (n:Nat):Turn P w K tg (Itd lo n) [it] it (fun i h=>IsRangeIter h it (lo + (i:Nat) * (-1)) ((n:Int) - (i:Nat)) (-1)) where
 mem:=by simp
 obj:=fun i h st b hb=>by
  have e:b=it:=by simpa using hb
  subst e
  exact ⟨_,st,fun v z=>by
   have z':Data.fields _=Data.cell v:=z
   cases z'⟩
 keep:=fun i h h' st k=>k it (by simp) _ st
 item:=by
  intro X hP hw hK hc i pins s σ H E I hf st hg
  subst hP hw hK
  obtain ⟨f0,f1,f2,f3,f4,f5⟩:=hf it (by simp)
  have W:=Walks.range (prog:=X.prog) (w:=X.w) (I.ok.hd hc) it lo (-1) n
  refine W.item i s _ _ hg st fun v h' tk hv st' kk=>?_
  obtain ⟨t,rfl⟩:=hv
  have I1:Inv X pins σ H { s with heap:=h',toks:=tk }:=I.turned (fun b o hb e=>kk b o (by simpa using hb) e) f0 f1 f3 f4 f5
  refine ⟨_,rfl,Jg (s:={ s with heap:=h',toks:=tk }) (n:="range_iterator") st' rfl rfl (by decide) ⟨.int (lo - i),H,I1,⟨t,?_⟩,⟨rfl,rfl⟩,st',fun b hb=>(hf b hb).1⟩⟩
  congr 1; omega
 done:=by
  intro X hP hw hK hc i pins s σ H E I hf st hg
  subst hP hw hK
  obtain ⟨f0,f1,f2,f3,f4,f5⟩:=hf it (by simp)
  exact wpAny_pyNext_range_end (I.ok.hd hc) st (by have:n≤i:=hg; omega) fun h' eb=>⟨rfl,I.turned (t':=s.toks) (fun b o hb e=>eb b o hb e) f0 f1 f3 f4 f5⟩
 self:=fun _ _ _ _ _ st h=>wpAny_pyIter_rangeiter st h
theorem jR (a b:Int):Builtin.Range.rangeSize a b (-1)=((a - b).toNat:Int):=by
 unfold Builtin.Range.rangeSize
 rw [if_neg (by decide),show (- (-1:Int))=1 from rfl,Int.ediv_one]
 split <;> omega
theorem small_down {a b:Int} (ha:-(2 ^ 62)≤a) (ha':a < 2 ^ 62) (hb:-(2 ^ 62)≤b) (hb':b < 2 ^ 62):Builtin.Range.small a b (-1)=true:=by
 unfold Builtin.Range.small
 rw [jR]
 simp only [Builtin.Range.rangeFitsLong,Bool.and_eq_true,Bool.or_eq_true,decide_eq_true_eq,beq_iff_eq,show ¬ ((-1:Int) > 0) by decide,if_false]
 omega
section
variable {X:Cx} {tg:Expr}
theorem down_it {pins:List (Addr × Obj)} {σ:St} {H:Hp} {s:Shared} {R:It→Hp→Prop} {E:Value→Shared→Prop} {lo hi:Int} {t u v:Tok} {tk:Nat} (I:Inv X pins σ H s) (h1:-(2 ^ 62)≤lo) (h2:lo < 2 ^ 62) (h3:-(2 ^ 62)≤hi) (h4:hi < 2 ^ 62)
  (q:R (Itd lo (lo - hi).toNat) H):wpAny (model X.prog X.w) X.A (pyIter (.ref s.heap.objs.size)) (PIE X pins σ tg R) E { s with heap:=s.heap.push { cls:=.type "range",data:=.fields #[.int lo t,.int hi u,.int (-1) v] },toks:=tk }:=by
 refine wpAny_pyIter_range (IsRange.new ..) (small_down h1 h2 h3 h4) ?_
 have I1:Inv X pins σ H { s with heap:=s.heap.push { cls:=.type "range",data:=.fields #[.int lo t,.int hi u,.int (-1) v] },toks:=tk }:=I.kept fun b o e=>Heap.get?_push_of_some _ e
 refine ⟨(s.heap.push { cls:=.type "range",data:=.fields #[.int lo t,.int hi u,.int (-1) v] }).objs.size,[(s.heap.push { cls:=.type "range",data:=.fields #[.int lo t,.int hi u,.int (-1) v] }).objs.size],_,_,H,rfl,
  I1.kept (t':=tk) fun b o e=>Heap.get?_push_of_some _ e,turn_down _ lo (lo - hi).toNat,?_,fun b hb=>?_,q⟩
 ·have e1:lo + ((0:Nat):Int) * (-1)=lo:=by simp
  have e2:(((lo - hi).toNat:Nat):Int) - ((0:Nat):Int)=Builtin.Range.rangeSize lo hi (-1):=by rw [jR]; omega
  show IsRangeIter _ _ (lo + ((0:Nat):Int) * (-1)) ((((lo - hi).toNat:Nat):Int) - ((0:Nat):Int)) (-1)
  rw [e1,e2]
  exact Heap.get?_push_size _ rfl
 ·have e:b=(s.heap.push { cls:=.type "range",data:=.fields #[.int lo t,.int hi u,.int (-1) v] }).objs.size:=by simpa using hb
  subst e
  exact I1.fpOk (Nat.le_refl _) (I1.hok.fresh (Nat.le_refl _))
def iRng3 (X:Cx) (ta:TA):TI:=fun σ H R=>X.mg "range"=none∧ta σ H fun vs H1=>∃ i j:Int,vs=[.int i,.int j,.int (-1)]∧(-1000≤i∧i < 1000∧-1000≤j∧j < 1000)∧R (Itd i (i - j).toNat) H1
theorem pi_rg3 {a b c:Expr} {ta:TA} {p pos:Pos} (ha:PA X [a,b,c] ta) (hg:Gl X "range":=by rfl) (hs:starEach [a,b,c] X.env=[(false,eval a X.env),(false,eval b X.env),(false,eval c X.env)]:=by rfl) (hs2:starEach [b,c] X.env=[(false,eval b X.env),(false,eval c X.env)]:=by rfl) :
  PI X tg (.Call (.Name "range" p) [a,b,c] [] pos) (iRng3 X ta):=by
 intro pins s σ H R I h
 refine Call_ (jp I hg h.1 boot_range (PyProof.Rows.callWith_type1 (thn (ha pos pins s σ H _ I h.2) fun us s1 ⟨vs,H1,I1,r1,q1⟩=>?_) (by rw [hs,hs2]) (by rw [hs2]; rfl)))
 obtain ⟨i,j,e,⟨q1,q2,q3,q4⟩,q⟩:=q1
 subst e
 cases r1 with
 | cons r rr =>
  cases rr with
  | cons r' rr =>
   cases rr with
   | cons r'' rr =>
    cases rr
    obtain ⟨t,rfl⟩:=r
    obtain ⟨t',rfl⟩:=r'
    obtain ⟨t'',rfl⟩:=r''
    exact call_range_3 (by decide) (down_it I1 (by omega) (by omega) (by omega) (by omega) q) (Or.inl (PyProof.noPylong_small (by omega)))
theorem for_D {K:PySem.W.Frag} {σ:St} {H:Hp} {lo:Int} {n:Nat} {DN:St→Hp→Prop} {B:(St→Hp→Prop)→V→St→Hp→Prop} (Pv:Nat→St→Hp→Prop) (h0:Pv 0 σ H)
  (hs:∀ i σ H,i < n→Pv i σ H→B (Pv (i + 1)) (.int (lo - i)) σ H) (hd:∀ σ H,Pv n σ H→DN σ H) :
  ∃ W:Nat→Nat→St→Hp→Prop,(∃ m,W 0 m σ H)∧∀ i m σ H,W i m σ H →
   ((Itd lo n).stop i H∧DN σ H)∨((Itd lo n).go i H∧∃ N:St→Hp→Prop,(∀ σ' H',N σ' H'→∃ m',m' < m∧W (i + 1) m' σ' H')∧∀ x H',(Itd lo n).yld i H x H'→B N x σ H'):=by
 refine ⟨fun i m σ H=>m=n - i∧i≤n∧Pv i σ H,⟨n,by simp,Nat.zero_le _,h0⟩,?_⟩
 rintro i m σ H ⟨rfl,hi,p⟩
 by_cases hlt:i < n
 ·refine .inr ⟨hlt,Pv (i + 1),fun σ' H' p'=>⟨n - (i + 1),by omega,rfl,hlt,p'⟩,fun x H' y=>?_⟩
  obtain ⟨e,y⟩:=y
  subst e y
  exact hs i σ _ hlt p
 ·have e:i=n:=by omega
  subst e
  exact .inl ⟨Nat.le_refl _,hd σ H p⟩
end
end L2
namespace L2
open PySem PySem.Spec PyProof.Rows
section
variable {X:Cx} {tg:Expr}
def Its (x:Str):It:=⟨fun i _=>i < x.cps.size,fun i H v H'=>H'=H∧∃ c,x.cps[i]?=some c∧v=.str ⟨#[c]⟩,fun i _=>i=x.cps.size⟩
def iStr (tl:TE):TI:=fun σ H R=>tl σ H fun v H1=>∃ x,v=.str x∧R (Its x) H1
end
end L2
namespace L2
open PySem PySem.Spec PySem.Calls PyProof.Rows
theorem xH:∀ {us:List Value} {ns:List Int},IntsAre us ns→Vals (ns.map V.int) us
 | _,_,.nil=>.nil
 | _,_,.cons n t h=>.cons ⟨t,rfl⟩ (xH h)
section
variable {X:Cx}
theorem bi_sorted:CallR X (.builtin "sorted") (fun xs H Q=>∃ p,∃ ns:List Int,xs=[.ref p]∧SqL X.K H p (ns.map V.int)∧ns.length < 64 ∧
  ∀ (ms:List Int) l,ms.Perm ns→ms.Pairwise (·≤·)→H l=none→Q (.ref l) (upd H l (.lst (ms.map V.int)))):=by
 intro pins s σ H xs us Q I r h
 obtain ⟨p,ns,rfl,hp,h64,q⟩:=h
 obtain ⟨u,rfl,rx⟩:=vR r
 cases rx
 obtain ⟨its,rv,hl,hz⟩:=I.list hp
 have hlen:its.length=ns.length:=by have:=rv.length; rw [List.length_map] at this; exact this.symm
 refine sorted_ints hl.isList (intsAre_of rv) (by omega) fun out ms a1 a2 a3=>?_
 obtain ⟨e,he⟩:=sortedAll_at s.heap its out
 exact ⟨.ref _,_,I.laid (a:=s.heap.objs.size + 1) (o:=.lst (ms.map V.int)) (t':=s.toks) (fun b o h=>sortedAll_old h) (Nat.le_succ _) ⟨by rw [List.length_map,a2.length_eq]; exact Nat.le_of_lt (zm (by omega)),out.toList,e,xH a1,by simpa using he⟩,rfl,q ms _ a2 a3 (I.hok.fresh (Nat.le_succ _))⟩
end
structure FunD (K:PySem.W.Frag) (x qual:Str) (st:Stmt) (f:Addr) (fd:FuncData):Prop where
 ex:∃ (oc:Value) (od:Option Addr) (dV kV doc pm:Value) (an:Option Addr) (cdv ct:Value) (osl:Array (Option Value)),
  fd=PySem.W.fnOf x qual (zY st) (zU st) (zf st) dV kV doc pm an cdv ct∧K.lookup f=some ⟨oc,od,.func fd,osl⟩∧PySem.W.codeIn K cdv qual=true
 kp:PySem.W.keepIn K (.ref f)=true
section
variable {P:Program} {w:World} {K:PySem.W.Frag} {mg:Str→Option Value} {base:Heap}
theorem FunD.okx {x qual:Str} {st:Stmt} {f:Addr} {fd:FuncData} {N ps:List Str} {k:Nat} {sp:Sp} (F:FunD K x qual st f fd) (S:FnScope N ps (zf st)) (len:∀ vs H Q E,sp vs H Q E→vs.length=ps.length)
  (hbody:∀ (cdv:Value) (A:Around) (outer:List Env) (s:Shared) (H:Hp) (vs:List V) (Q:VK) (E:XK),Room k (A.deeper (envOfC qual (zf st) s.heap.objs.size f cdv))→sp vs H Q E →
   ∃ t,PSs ((cxR P w K mg base N qual (zf st) f cdv A outer s H E).exg fun cls _ H'=>E cls none H') (zU st) t∧t { nx:=fun _ H'=>Q .non H',rt:=Q } (start N vs) H):FnOk P w K mg base (CXr P w) (k + 1) f fd ps sp:=by
 obtain ⟨oc,od,dV,kV,doc,pm,an,cdv,ct,osl,rfl,lk,hcd⟩:=F.ex
 refine JS lk hcd S len fun A outer s H vs Q E hr hsp=>?_
 obtain ⟨t,h,q⟩:=hbody cdv A outer s H vs Q E hr hsp
 refine ⟨t,fun pins s σ H' D I hw=>?_,q⟩
 refine wpAny_mono (h pins s σ H' D (I.wish _) hw) (fun _ _ z=>z.unwish) fun e s' z=>?_
 refine wpAny_bind (wpAny_mono (show wpAny _ _ _ _ _ _ from z) (fun _ s1 y1=>wpAny_mono y1 (fun _ s'' y=>?_) fun _ _ y=>y.elim) fun _ _ y=>y.elim)
 obtain ⟨a,cls,σ2,H2,rfl,J,xx,g⟩:=y
 exact ⟨a,cls,H2,rfl,J.os,J.bare,J.base,J.hok,xx.less (fun p hp=>absurd hp (by simp)),g⟩
structure FD (K:PySem.W.Frag) (mg:Str→Option Value) (x:Str) (st:Stmt) (ps:List Str) (dvs:List V):Prop where
 ex:∃ f fd ds,FunD K x x st f fd∧mg x=some (.ref f)∧Binds K fd ps []∧Binds K fd ps ds∧Vals dvs ds
theorem FD.cal {x:Str} {st:Stmt} {ps:List Str} {dvs:List V} {k:Nat} {sp:Sp} (h:FD K mg x st ps dvs) (ok:∀ {f fd},FunD K x x st f fd→FnOk P w K mg base (CXr P w) k f fd ps sp) :
  Cal P w K mg base x k ps [] sp:=let ⟨f,fd,_,F,m,b,_⟩:=h.ex; ⟨f,fd,[],ok F,m,F.kp,b,.nil⟩
end
end L2
namespace L2
open PySem PySem.Spec PySem.Calls PyProof.Rows
theorem lri_no_len:typeLookup (.type "list_reverseiterator") "__len__"=pure none:=by rw [typeLookup_type,builtinLookup_eq_fast]; kernel_rfl
theorem lri_hint:typeLookup (.type "list_reverseiterator") "__length_hint__"=pure (some (.builtin "list_reverseiterator.__length_hint__")):=by rw [typeLookup_type,builtinLookup_eq_fast]; kernel_rfl
theorem sub_lri_self:isSubtype (.type "list_reverseiterator") (.type "list_reverseiterator")=pure true:=by rw [isSubtype_type]; kernel_rfl
section
variable {prog:Program} {w:World} {A:Around} {E:Value→Shared→Prop} {s:Shared} {R:Result→Shared→Prop}
theorem hint_rev {D l:Addr} {i:Int} {Q:Bool→Shared→Prop} (hit:s.heap.IsRevIter D l i) (h:Q false s):wpAny (model prog w) A (Builtin.List.listLengthHint (.ref D)) Q E s:=by
 unfold Builtin.List.listLengthHint
 refine wpAny_bind (wpAny_specialOf hit.typeIs lri_no_len ?_)
 show wpAny _ _ (specialOf (Value.ref D) (Str.ofString "__length_hint__") >>= _) _ _ _
 refine wpAny_bind (wpAny_specialOf hit.typeIs lri_hint ?_)
 generalize hid:("list_reverseiterator.__length_hint__":String)=id0
 wp_delta
 rw [show splitId id0=some ("list_reverseiterator","__length_hint__") from by subst hid; decide +kernel]
 subst hid
 refine wpAny_bind (wpAny_isInstance (T:="list_reverseiterator") (b:=true) hit.typeIs sub_lri_self ?_)
 refine wpAny_ite_split (fun hab=>absurd hab (by decide)) (fun _=>?_)
 refine wpAny_ite_split (fun _=>?_) (fun hab=>absurd (by decide +kernel) hab)
 exact wpAny_ite_split (fun hab=>absurd hab (by decide +kernel)) (fun _=>wpAny_pure h)
theorem extend_rev {D l:Addr} {items:Array Value} (hh:A.handled=none) (hne:l≠D) (hn:items.size≤sizeLine) (S:Addr) (res:Value) (c₀:Nat) (hit:s.heap.IsRevIter D l ((items.size:Int) - 1)) (hl:s.heap.IsList l items) (hSD:S≠D) (hSl:S≠l)
  (hS:s.heap.get? S=some { cls:=.type "list",data:=.seq #[] c₀ })
  (hR:∀ h' tk acc' c',(∀ b o,b≠S→b≠D→s.heap.get? b=some o→h'.get? b=some o)→h'.get? S=some { cls:=.type "list",dict:=none,data:=.seq acc' c',slots:=#[] }→ItemsOf (fun i v=>items[items.size - 1 - i]?=some v) acc' items.size→R (.ok (.ret res)) { s with heap:=h',toks:=tk }) :
  wpAny (model prog w) A.in1 (Builtin.List.listExtendWith (.ref S) (.ref D) res)
   (fun fin s'=>match fin with | .done f=>R (.ok f) s' | .again c'=>c'.quiet=true∧codeAny (model prog w) A c' R s') (fun e s'=>R (.error e) s') s:=by
 have W:=(Walks.listRev (prog:=prog) (w:=w) (A:=A.in1) hh D l hne items).toS
 have hSf:S ∉ [D,l]:=fun hm=>by
  rcases List.mem_cons.mp hm with e | hm
  ·exact hSD e
  ·exact hSl (List.mem_singleton.mp hm)
 unfold Builtin.List.listExtendWith
 refine wpAny_bind (wpAny_typeOf hit.typeIs ?_)
 have h1:Builtin.List.listSameRef (.ref S) (.ref D)=false:=by simp [Builtin.List.listSameRef,hSD]
 have h2:(Value.type "list_reverseiterator" == Value.type "list")=false:=by decide
 have h3:(Value.type "list_reverseiterator" == Value.type "tuple")=false:=by decide
 simp only [h1,h2,h3,Bool.or_false,Bool.false_eq_true,if_false]
 refine wpAny_bind (wpAny_pyIter_revIter hit ?_)
 refine wpAny_bind (wpAny_holding (hint_rev hit ?_))
 refine wpAny_ite_split (fun hab=>absurd hab (by decide)) (fun _=>wpAny_pure ⟨plainId_quiet F.plain_extend_loop _,?_⟩)
 have hit0:s.heap.IsRevIter D l ((items.size:Int) - 1 - ((0:Nat):Int)):=by simpa using hit
 refine codeAny_extend_loopS W hn S hSf res items.size 0 _ #[] c₀ rfl (Nat.zero_le _) ⟨Nat.zero_le _,hit0,hl⟩ hS (ItemsOf.nil _) fun s' acc' c' hm hS' hacc=>?_
 rw [Moved.eq_with hm]
 refine hR s'.heap s'.toks acc' c' (fun b o hb hd e=>hm.heap b o (fun hmem=>?_) e) hS' hacc
 rcases List.mem_cons.mp hmem with e' | hmem
 ·exact hb e'
 ·exact hd (List.mem_singleton.mp hmem)
theorem list_init_rev {D l:Addr} {items:Array Value} (hh:A.handled=none) (hne:l≠D) (hn:items.size≤sizeLine) (S:Addr) (hit:s.heap.IsRevIter D l ((items.size:Int) - 1)) (hl:s.heap.IsList l items) (hSD:S≠D) (hSl:S≠l)
  (hS:s.heap.get? S=some { cls:=.type "list",data:=.seq #[] })
  (hR:∀ h' tk acc' c',(∀ b o,b≠S→b≠D→s.heap.get? b=some o→h'.get? b=some o)→h'.get? S=some { cls:=.type "list",dict:=none,data:=.seq acc' c',slots:=#[] }→ItemsOf (fun i v=>items[items.size - 1 - i]?=some v) acc' items.size→R (.ok (.ret .none)) { s with heap:=h',toks:=tk }) :
  wpAny (model prog w) A.in1 (Builtin.«list.__init__» ⟨[.ref S,.ref D],[]⟩)
   (fun fin s'=>match fin with | .done f=>R (.ok f) s' | .again c'=>c'.quiet=true∧codeAny (model prog w) A c' R s') (fun e s'=>R (.error e) s') s:=by
 show wpAny _ A.in1 (do let old ← Builtin.List.listItems (.ref S); Builtin.List.listUpdate (.ref S) (fun _=>#[]); letGo old.toList.reverse; Builtin.List.listExtendWith (.ref S) (.ref D) .none) _ _ s
 refine wpAny_bind ?_
 unfold Builtin.List.listItems
 refine wpAny_bind (wpAny_seqItems hS rfl (wpAny_pure ?_))
 show wpAny _ A.in1 (updateSeq S (fun _=>#[]) >>= fun _=>letGo (#[]:Array Value).toList.reverse >>= fun _=>Builtin.List.listExtendWith (.ref S) (.ref D) .none) _ _ s
 refine wpAny_bind (wpAny_updateSeq hS rfl ?_)
 have hS₂:=Heap.get?_update_self (Obj.mapSeq (fun _=>(#[]:Array Value))) hS rfl
 have oth:∀ b o,b≠S→s.heap.get? b=some o→(s.heap.update S (Obj.mapSeq (fun _=>(#[]:Array Value)))).get? b=some o :=
  fun b o hb e=>(Heap.get?_update_other _ _ (Ne.symm hb)).trans e
 refine wpAny_bind (wpAny_letGo ?_)
 refine extend_rev (items:=items) (l:=l) hh hne hn S .none _ (hit.at fun o e=>oth _ _ (Ne.symm hSD) e) (hl.at fun o e=>oth _ _ (Ne.symm hSl) e) hSD hSl hS₂ fun h' tk acc' c' hk hS' hacc=>?_
 exact hR h' tk acc' c' (fun b o hb hd e=>hk b o hb hd (oth b o hb e)) hS' hacc
theorem call_list_rev {D l:Addr} {items:Array Value} {Q:Value→Shared→Prop} (hh:A.handled=none) (hne:l≠D) (hn:items.size≤sizeLine) (hit:s.heap.IsRevIter D l ((items.size:Int) - 1)) (hl:s.heap.IsList l items)
  (hQ:∀ h' tk acc' c',(∀ b o,b≠D→s.heap.get? b=some o→h'.get? b=some o)→h'.get? s.heap.objs.size=some { cls:=.type "list",dict:=none,data:=.seq acc' c',slots:=#[] }→ItemsOf (fun i v=>items[items.size - 1 - i]?=some v) acc' items.size→Q (.ref s.heap.objs.size) { s with heap:=h',toks:=tk }) :
  wpAny (model prog w) A (call (.type "list") [.ref D]) Q E s:=by
 have hlD:D < s.heap.objs.size:=by obtain ⟨o,e,_⟩:=hit; exact Heap.lt_size e
 have hll:l < s.heap.objs.size:=by obtain ⟨o,e,_⟩:=hl; exact Heap.lt_size e
 refine callType_codes (Q₁:=fun obj s₁=>obj=.ref s.heap.objs.size∧s₁={ s with heap:=s.heap.push { cls:=.type "list",data:=.seq #[] } }) F.called_list (F.typeCall_list_1 _) F.entry_list_init
  (code_list_new _ ⟨rfl,rfl⟩) fun obj s₁ h₁=>?_
 obtain ⟨rfl,rfl⟩:=h₁
 have hS:(s.heap.push { cls:=.type "list",data:=.seq #[] }).get? s.heap.objs.size=some { cls:=.type "list",data:=.seq #[] }:=Heap.get?_push_size _ rfl
 refine ⟨⟨_,hS,rfl⟩,F.args_list_init_2 _ _,list_init_rev (A:=A.in1) (l:=l) hh hne hn _ (hit.at fun o e=>Heap.get?_push_of_some _ e) (hl.at fun o e=>Heap.get?_push_of_some _ e) (Nat.ne_of_gt hlD) (Nat.ne_of_gt hll) hS fun h' tk acc' c' hk hS' hacc=>?_⟩
 exact ⟨rfl,hQ h' tk acc' c' (fun b o hb e=>hk b o (Nat.ne_of_lt (Heap.lt_size e)) hb (Heap.get?_push_of_some _ e)) hS' hacc⟩
end
section
variable {X:Cx} {a:Expr} {ta:TA} {p p2 pos pos2:Pos}
theorem vals_rev {xs:List V} {its:List Value} {acc:Array Value} (r:Vals xs its) (h:ItemsOf (fun i v=>its.toArray[its.toArray.size - 1 - i]?=some v) acc its.toArray.size):Vals xs.reverse acc.toList:=by
 have e:acc.toList=its.reverse:=by
  apply List.ext_getElem?
  intro i
  have hsz:acc.toList.length=its.length:=by simpa using h.1
  by_cases hi:i < its.length
  ·have hi':i < acc.toList.length:=by omega
   rw [List.getElem?_eq_getElem hi',List.getElem?_reverse hi]
   have:=h.2 i (acc.toList[i]) (by rw [← Array.getElem?_toList,List.getElem?_eq_getElem hi'])
   simp at this
   exact this.symm
  ·rw [List.getElem?_eq_none (by omega),List.getElem?_eq_none (by simp; omega)]
 rw [e]
 exact r.reverse
def tLRev (X:Cx) (ta:TA):TE:=fun σ H Q=>X.mg "list"=none∧X.mg "reversed"=none∧ta σ H fun vs H1=>∃ l xs,vs=[.ref l]∧SqL X.K H1 l xs∧∀ q,H1 q=none→Q (.ref q) (upd H1 q (.lst xs.reverse))
theorem bo_reversed:bootBuiltins "reversed"=some (.type "reversed"):=by decide +kernel
theorem pe_lrev (hc:X.calm=true) (ha:PA X [a] ta) (hg:Gl X "list":=by rfl) (hg2:Gl X "reversed":=by rfl)
  (hs:starEach [Expr.Call (.Name "reversed" p2) [a] [] pos2] X.env=[(false,eval (Expr.Call (.Name "reversed" p2) [a] [] pos2) X.env)]:=by rfl) (hs2:starEach [a] X.env=[(false,eval a X.env)]:=by rfl) :
  PE X (.Call (.Name "list" p) [.Call (.Name "reversed" p2) [a] [] pos2] [] pos) (tLRev X ta):=by
 intro pins s σ H Q I h
 refine Call_ (jp I hg h.1 qF (PyProof.Rows.callWith_type1 ?_ hs rfl))
 rw [hs]
 refine Calls.spliced_cons (Call_ (jp I hg2 h.2.1 bo_reversed (PyProof.Rows.callWith_type1 (thn (ha pos2 pins s σ H _ I h.2.2) fun us s1 ⟨vs,H1,I1,r1,q1⟩=>?_) hs2 rfl)))
 obtain ⟨l,xs,e,hq,q⟩:=q1
 subst e
 obtain ⟨u,rfl,rx⟩:=vR r1
 cases rx
 obtain ⟨its,rv,hl,hz⟩:=I1.list hq
 have hll:l < s1.heap.objs.size:=by obtain ⟨o,e,_⟩:=hl.isList; exact Heap.lt_size e
 have hlen:=rv.length
 refine call_reversed_list hl.isList ?_
 refine Calls.spliced_nil ?_
 refine call_list_rev (l:=l) (items:=its.toArray) (I1.ok.hd hc) (Nat.ne_of_lt hll) (by rw [List.size_toArray,← hlen]; exact hz) ⟨_,Heap.get?_push_size _ rfl,rfl,rfl⟩ (hl.isList.push _) fun h' tk acc' c' hk hS hit=>?_
 refine ⟨.ref _,_,I1.laid (o:=.lst xs.reverse) (t':=tk) (fun b o e=>hk b o (Nat.ne_of_lt (Heap.lt_size e)) (Heap.get?_push_of_some _ e)) ?_ ⟨?_,acc'.toList,c',vals_rev rv hit,by simpa using hS⟩,rfl,q _ (I1.hok.fresh ?_)⟩
 ·simp only [Heap.size_push]; exact Nat.le_succ _
 ·rw [List.length_reverse]; exact hz
 ·simp only [Heap.size_push]; exact Nat.le_succ _
end
section
variable {X:Cx}
end
end L2
namespace L2
open PySem PySem.Spec PyProof.Rows
inductive D where
 | non | bl (b:Bool) | int (i:Int) | str (x:Str) | lst (xs:List D) | tup (xs:List D) | ob (C:Addr) (fs:List (Str × D))
inductive Rep (H:Hp) (p:Addr→Prop):V→D→Prop where
 | non:Rep H p .non .non
 | bl {b:Bool}:Rep H p (.bl b) (.bl b)
 | int {i:Int}:Rep H p (.int i) (.int i)
 | str {x:Str}:Rep H p (.str x) (.str x)
 | lst {l:Addr} {vs:List V} {ds:List D}:p l→H l=some (.lst vs)→vs.length=ds.length→(∀ (i:Nat) v d,vs[i]?=some v→ds[i]?=some d→Rep H p v d)→Rep H p (.ref l) (.lst ds)
 | tup {l:Addr} {vs:List V} {ds:List D}:p l→H l=some (.tup vs)→vs.length=ds.length→(∀ (i:Nat) v d,vs[i]?=some v→ds[i]?=some d→Rep H p v d)→Rep H p (.ref l) (.tup ds)
 | ob {l C dx:Addr} {fs:List (Str × V)} {ds:List (Str × D)}:p l→H l=some (.ins C dx fs)→fs.map (·.1)=ds.map (·.1)→(∀ (i:Nat) f g,fs[i]?=some f→ds[i]?=some g→Rep H p f.2 g.2)→Rep H p (.ref l) (.ob C ds)
theorem Rep.keep {H H':Hp} {p q:Addr→Prop} (s:∀ b o,p b→H b=some o→q b∧H' b=some o) {v:V} {d:D} (h:Rep H p v d):Rep H' q v d:=by
 induction h with
 | non=>exact .non
 | bl=>exact .bl
 | int=>exact .int
 | str=>exact .str
 | lst pl hl e _ ih=>exact .lst (s _ _ pl hl).1 (s _ _ pl hl).2 e ih
 | tup pl hl e _ ih=>exact .tup (s _ _ pl hl).1 (s _ _ pl hl).2 e ih
 | ob pl hl e _ ih=>exact .ob (s _ _ pl hl).1 (s _ _ pl hl).2 e ih
structure Reps (H:Hp) (p:Addr→Prop) (vs:List V) (ds:List D):Prop where
 len:vs.length=ds.length
 g:∀ (i:Nat) v d,vs[i]?=some v→ds[i]?=some d→Rep H p v d
section
variable {H H':Hp} {p q:Addr→Prop} {vs us:List V} {ds es:List D} {v:V} {d:D}
theorem Reps.keep (s:∀ b o,p b→H b=some o→q b∧H' b=some o) (h:Reps H p vs ds):Reps H' q vs ds:=⟨h.len,fun i v d a b=>(h.g i v d a b).keep s⟩
theorem Reps.nil:Reps H p [] []:=⟨rfl,fun i v d h=>by simp at h⟩
theorem Reps.cons (h:Rep H p v d) (k:Reps H p vs ds):Reps H p (v :: vs) (d :: ds):=⟨by simp [k.len],fun i u e a b=>by
 cases i with
 | zero =>
  have a:v=u:=by simpa using a
  have b:d=e:=by simpa using b
  rw [← a,← b]; exact h
 | succ i=>exact k.g i u e (by simpa using a) (by simpa using b)⟩
theorem Reps.one (h:Rep H p v d):Reps H p [v] [d]:=.cons h .nil
theorem Reps.append (h:Reps H p vs ds) (k:Reps H p us es):Reps H p (vs ++ us) (ds ++ es):=by
 refine ⟨by rw [List.length_append,List.length_append,h.len,k.len],fun i v r e1 e2=>?_⟩
 by_cases hi:i < vs.length
 ·rw [List.getElem?_append_left hi] at e1
  rw [List.getElem?_append_left (by rw [← h.len]; exact hi)] at e2
  exact h.g i v r e1 e2
 ·rw [List.getElem?_append_right (by omega)] at e1
  rw [List.getElem?_append_right (by rw [← h.len]; omega),← h.len] at e2
  exact k.g _ v r e1 e2
theorem Reps.at (h:Reps H p vs ds) {i:Nat} (e:vs[i]?=some v):∃ d,ds[i]?=some d∧Rep H p v d:=by
 have hi:=(List.getElem?_eq_some_iff.mp e).1
 have e2:ds[i]?=some (ds[i]'(by rw [← h.len]; exact hi)):=List.getElem?_eq_getElem _
 exact ⟨_,e2,h.g i v _ e e2⟩
theorem Reps.of (h:Reps H p vs ds) {i:Nat} (e:ds[i]?=some d):∃ v,vs[i]?=some v∧Rep H p v d:=by
 have hi:=(List.getElem?_eq_some_iff.mp e).1
 have e2:vs[i]?=some (vs[i]'(by rw [h.len]; exact hi)):=List.getElem?_eq_getElem _
 exact ⟨_,e2,h.g i _ d e2 e⟩
theorem Reps.take (h:Reps H p vs ds) (n:Nat):Reps H p (vs.take n) (ds.take n):=⟨by rw [List.length_take,List.length_take,h.len],fun i v d a b=>by
 rw [List.getElem?_take] at a b
 by_cases hn:i < n
 ·rw [if_pos hn] at a b; exact h.g i v d a b
 ·rw [if_neg hn] at a; cases a⟩
theorem Reps.drop (h:Reps H p vs ds) (n:Nat):Reps H p (vs.drop n) (ds.drop n):=⟨by rw [List.length_drop,List.length_drop,h.len],fun i v d a b=>by
 rw [List.getElem?_drop] at a b
 exact h.g _ v d a b⟩
theorem Reps.reverse (h:Reps H p vs ds):Reps H p vs.reverse ds.reverse:=⟨by rw [List.length_reverse,List.length_reverse,h.len],fun i v d a b=>by
 have hi:i < vs.length:=by have:=(List.getElem?_eq_some_iff.mp a).1; rw [List.length_reverse] at this; exact this
 rw [List.getElem?_reverse hi] at a
 rw [List.getElem?_reverse (by rw [← h.len]; exact hi),← h.len] at b
 exact h.g _ v d a b⟩
theorem Reps.mk' {l:Addr} (h:Reps H p vs ds) (pl:p l) (e:H l=some (.lst vs)):Rep H p (.ref l) (.lst ds):=.lst pl e h.len h.g
theorem Reps.mkT {l:Addr} (h:Reps H p vs ds) (pl:p l) (e:H l=some (.tup vs)):Rep H p (.ref l) (.tup ds):=.tup pl e h.len h.g
theorem Rep.lst' (h:Rep H p v (.lst ds)):∃ l us,v=.ref l∧p l∧H l=some (.lst us)∧Reps H p us ds:=by
 cases h with | lst a b c e=>exact ⟨_,_,rfl,a,b,c,e⟩
theorem Rep.tup' (h:Rep H p v (.tup ds)):∃ l us,v=.ref l∧p l∧H l=some (.tup us)∧Reps H p us ds:=by
 cases h with | tup a b c e=>exact ⟨_,_,rfl,a,b,c,e⟩
theorem xy {f:Str}:∀ {fs:List (Str × V)} {gs:List (Str × D)},fs.map (·.1)=gs.map (·.1)→(∀ (i:Nat) x y,fs[i]?=some x→gs[i]?=some y→Rep H p x.2 y.2) →
  (∀ d,gs.lookup f=some d→∃ u,fs.lookup f=some u∧Rep H p u d)∧(gs.lookup f=none→fs.lookup f=none)
 | [],[],_,_=>⟨fun d h=>by simp at h,fun _=>rfl⟩
 | [],_ :: _,e,_=>by simp at e
 | _ :: _,[],e,_=>by simp at e
 | (a,u) :: fs,(b,c) :: gs,e,r=>by
  have e1:a=b:=by simpa using (List.cons.inj e).1
  subst e1
  have ih:=xy (f:=f) (fs:=fs) (gs:=gs) (List.cons.inj e).2 fun i x y hx hy=>r (i + 1) x y (by simpa using hx) (by simpa using hy)
  by_cases hf:f=a
  ·have hb:(f == a)=true:=beq_iff_eq.mpr hf
   refine ⟨fun d h=>?_,fun h=>?_⟩
   ·simp only [List.lookup,hb] at h ⊢
    cases h
    exact ⟨_,rfl,r 0 (a,u) (a,c) rfl rfl⟩
   ·simp only [List.lookup,hb] at h
    cases h
  ·have hb:(f == a)=false:=beq_eq_false_iff_ne.mpr hf
   simp only [List.lookup,hb]
   exact ih
theorem Rep.ob' {C:Addr} {gs:List (Str × D)} (h:Rep H p v (.ob C gs)):∃ l dx fs,v=.ref l∧p l∧H l=some (.ins C dx fs)∧(∀ f d,gs.lookup f=some d→∃ u,fs.lookup f=some u∧Rep H p u d)∧(∀ f,gs.lookup f=none→fs.lookup f=none):=by
 cases h with | ob a b c e=>exact ⟨_,_,_,rfl,a,b,fun f=>(xy c e).1,fun f=>(xy c e).2⟩
abbrev D.ints (ns:List Int):D:=.lst (ns.map D.int)
theorem reps_ints:∀ {ns:List Int},Reps H p (ns.map V.int) (ns.map D.int)
 | []=>.nil
 | _ :: _=>.cons .int reps_ints
theorem wM:∀ {ns:List Int} {vs:List V},Reps H p vs (ns.map D.int)→vs=ns.map V.int
 | [],[],_=>rfl
 | [],_ :: _,h=>by have:=h.len; simp at this
 | _ :: _,[],h=>by have:=h.len; simp at this
 | n :: ns,v :: vs,h=>by
  have h1:=h.g 0 v (.int n) rfl rfl
  have h2:Reps H p vs (ns.map D.int):=⟨by have:=h.len; simpa using this,fun i u d a b=>h.g (i + 1) u d (by simpa using a) (by simpa using b)⟩
  cases h1
  rw [List.map_cons,wM h2]
theorem Rep.ints' {ns:List Int} (h:Rep H p v (.ints ns)):∃ l,v=.ref l∧p l∧H l=some (.lst (ns.map V.int)):=by
 obtain ⟨l,us,e,a,b,c⟩:=h.lst'
 rw [wM c] at b
 exact ⟨l,e,a,b⟩
theorem z8 {l:Addr} {ns:List Int} (pl:p l) (e:H l=some (.lst (ns.map V.int))):Rep H p (.ref l) (.ints ns):=reps_ints.mk' pl e
end
def Off (ms:List Addr):Addr→Prop:=fun b=>b ∉ ms
def Fr (ms:List Addr) (H H':Hp):Prop:=∀ b o,b ∉ ms→H b=some o→H' b=some o
section
variable {H H' H2:Hp} {ms ns:List Addr} {x:Addr} {o:HO} {v:V} {d:D} {vs:List V} {ds:List D}
theorem Fr.refl:Fr ms H H:=fun _ _ _ h=>h
theorem Fr.trans (a:Fr ms H H') (b:Fr ms H' H2):Fr ms H H2:=fun c o n h=>b c o n (a c o n h)
theorem Fr.more (a:Fr ms H H') (s:∀ b,b∈ms→b∈ns):Fr ns H H':=fun b o n h=>a b o (fun z=>n (s b z)) h
theorem Same.fr (a:Same H H'):Fr ms H H':=fun b o _ h=>a b o h
theorem qo (h:x∈ms):Fr ms H (upd H x o):=fun b u n hb=>by
 rw [upd_ne (fun z=>n (by rw [z]; exact h))]; exact hb
theorem QS (h:H x=none):Fr ms H (upd H x o):=(same_upd' h).fr where
 same_upd' {H:Hp} {x:Addr} {o:HO} (h:H x=none):Same H (upd H x o):=fun b u hb=>by rw [upd_ne (ne_of_none hb h)]; exact hb
theorem Fr.same (a:Fr ms H H') (h:∀ m∈ms,H m=none):Same H H':=fun b o hb=>a b o (fun z=>by rw [h b z] at hb; cases hb) hb
theorem Rep.fr (h:Rep H (Off ms) v d) (s:Fr ms H H'):Rep H' (Off ms) v d:=h.keep fun b o pb hb=>⟨pb,s b o pb hb⟩
theorem Reps.fr (h:Reps H (Off ms) vs ds) (s:Fr ms H H'):Reps H' (Off ms) vs ds:=h.keep fun b o pb hb=>⟨pb,s b o pb hb⟩
theorem Rep.more (h:Rep H (Off ms) v d) (s:∀ b,b∈ns→b∈ms∨H b=none):Rep H (Off ns) v d:=h.keep fun b o pb hb=>⟨fun z=>(s b z).elim pb (fun q=>by rw [q] at hb; cases hb),hb⟩
theorem Reps.more (h:Reps H (Off ms) vs ds) (s:∀ b,b∈ns→b∈ms∨H b=none):Reps H (Off ns) vs ds:=h.keep fun b o pb hb=>⟨fun z=>(s b z).elim pb (fun q=>by rw [q] at hb; cases hb),hb⟩
theorem Rep.same (h:Rep H (Off ms) v d) (s:Same H H'):Rep H' (Off ms) v d:=h.fr s.fr
theorem Reps.same (h:Reps H (Off ms) vs ds) (s:Same H H'):Reps H' (Off ms) vs ds:=h.fr s.fr
theorem Rep.ahead (h:Rep H (Off []) v d) (s:Same H H') (n:∀ m∈ms,H m=none):Rep H' (Off ms) v d:=h.keep fun b o _ hb=>⟨(fun z=>nomatch (n b z).symm.trans hb),s b o hb⟩
theorem Reps.ahead (h:Reps H (Off []) vs ds) (s:Same H H') (n:∀ m∈ms,H m=none):Reps H' (Off ms) vs ds:=h.keep fun b o _ hb=>⟨(fun z=>nomatch (n b z).symm.trans hb),s b o hb⟩
theorem Rep.all {p:Addr→Prop} (h:Rep H p v d):Rep H (Off []) v d:=h.keep fun b o _ hb=>⟨(fun z=>nomatch z),hb⟩
theorem Reps.all {p:Addr→Prop} (h:Reps H p vs ds):Reps H (Off []) vs ds:=h.keep fun b o _ hb=>⟨(fun z=>nomatch z),hb⟩
end
theorem fd_small {i j:Int} (h1:0 < j) (h2:j < 1000000):CFd i j:=fd_ok h1 (Nat.lt_of_lt_of_le (show j.natAbs < 2 ^ 20 by omega) (Nat.pow_le_pow_right (by decide) (by decide)))
theorem vh {α:Type} {xs:List α} {k:Int} (h0:0≤k) (h1:k < xs.length):seqIndex? k xs.length=some k.toNat:=by
 unfold seqIndex?
 have:¬ k < 0:=by omega
 simp [this,h0,h1]
theorem ZY {K:PySem.W.Frag} {H H':Hp} {l:Addr} {xs:List V} (s:Same H H') (h:SqL K H l xs):SqL K H' l xs:=s.seq h
def del (H:Hp) (x:Addr):Hp:=fun b=>if b=x then none else H b
section
variable {K:PySem.W.Frag} {H:Hp} {Q:VK} {p:Addr→Prop} {v:V} {d:D} {ds:List D} {f:Str}
theorem rdR_fld {C:Addr} {gs:List (Str × D)} {R:V→Prop} (h:Rep H p v (.ob C gs)) (c:Cls K C) (n:NoAttr K C f) (e:gs.lookup f=some d) (q:∀ u,Rep H p u d→R u) :
  ∃ a C dx fs u,v=.ref a∧H a=some (.ins C dx fs)∧Cls K C∧NoAttr K C f∧fs.lookup f=some u∧R u:=by
 obtain ⟨l,dx,fs,rfl,_,a,b,_⟩:=h.ob'
 obtain ⟨u,e1,r⟩:=b f d e
 exact ⟨l,C,dx,fs,u,rfl,a,c,n,e1,q u r⟩
theorem Xf {vs:List V} {i:Int} (h:Reps H p vs ds) (e:atI ds i=some d):∃ u,atI vs i=some u∧Rep H p u d:=by
 unfold atI at e ⊢
 rw [h.len]
 cases z:ixN ds.length i with
 | none=>rw [z] at e; cases e
 | some j=>rw [z] at e; exact h.of (i:=j) e
end
theorem qU {H H':Hp} {p:Addr→Prop} {v:V} {d:D} (h:Rep H p v d) (s:Same H H'):Rep H' p v d:=h.keep fun b o pb hb=>⟨pb,s b o hb⟩
end L2
namespace L2
open PySem PySem.Spec PyProof.Rows
section
variable {X:Cx}
def rGetL (K:PySem.W.Frag):R2:=fun x y H Q=>∃ p xs i v,x=.ref p∧y=.int i∧SqL K H p xs∧0≤i∧atI xs i=some v∧Q v H
theorem get_list:PGet X (rGetL X.K):=by
 intro pins s σ H x y v u Q I rx ry h
 obtain ⟨p,xs,i,z,rfl,rfl,hq,h0,he,q⟩:=h
 cases rx
 obtain ⟨t,rfl⟩:=ry
 obtain ⟨its,r,pl,hz⟩:=I.list hq
 obtain ⟨j,h1,h2,h3,h4,h5⟩:=wP he
 obtain ⟨w,ew,rw'⟩:=r.get h2
 have hl:=r.length
 have hn:=xz
 have hj:i.toNat=j:=by
  rw [seqIndex_of h0 h5] at h1
  exact Option.some.inj h1
 exact wpAny_getItem_list pl.isList h0 (by omega) (by rw [hj]; simpa using ew) ⟨z,H,I,rw',q⟩
end
inductive Hard:D→Prop where
 | non:Hard .non
 | bl {b:Bool}:Hard (.bl b)
 | int {i:Int}:Hard (.int i)
 | str {x:Str}:Hard (.str x)
 | tup {ds:List D}:(∀ (i:Nat) d,ds[i]?=some d→Hard d)→Hard (.tup ds)
theorem Rep.hard {H:Hp} {p q:Addr→Prop} {v:V} {d:D} (h:Rep H p v d) (hd:Hard d) (k:∀ b xs,p b→H b=some (.tup xs)→q b):Rep H q v d:=by
 induction h with
 | non=>exact .non
 | bl=>exact .bl
 | int=>exact .int
 | str=>exact .str
 | lst pl hl e _ ih=>cases hd
 | tup pl hl e _ ih =>
  cases hd with
  | tup hd=>exact .tup (k _ _ pl hl) hl e fun i v d a b=>ih i v d a b (hd i d b)
 | ob pl hl e _ ih=>cases hd
theorem nodup_at {as:List Addr} (nd:as.Nodup) {i j:Nat} {b:Addr} (h1:as[i]?=some b) (h2:as[j]?=some b):i=j:=by
 obtain ⟨hi,e1⟩:=List.getElem?_eq_some_iff.mp h1
 obtain ⟨hj,e2⟩:=List.getElem?_eq_some_iff.mp h2
 have P:=List.pairwise_iff_getElem.mp nd
 rcases Nat.lt_trichotomy i j with h | h | h
 ·exact absurd (e1.trans e2.symm) (P i j hi hj h)
 ·exact h
 ·exact absurd (e2.trans e1.symm) (P j i hj hi h)
structure NL (H:Hp) (p:Addr→Prop) (G:Addr) (as:List Addr) (xss:List (List D)):Prop where
 out:H G=some (.lst (as.map V.ref))
 len:as.length=xss.length
 nd:as.Nodup
 nG:G ∉ as
 g:∀ (i:Nat) b xs,as[i]?=some b→xss[i]?=some xs→∃ vs,H b=some (.lst vs)∧Reps H p vs xs
section
variable {H H':Hp} {p q:Addr→Prop} {G:Addr} {as:List Addr} {xss:List (List D)}
theorem NL.keep (h:NL H p G as xss) (s:∀ b o,(b=G∨b∈as∨p b)→H b=some o→H' b=some o) (sp:∀ b,p b→H b≠none→q b):NL H' q G as xss:=by
 refine ⟨s _ _ (.inl rfl) h.out,h.len,h.nd,h.nG,fun i b xs e1 e2=>?_⟩
 obtain ⟨vs,h1,h2⟩:=h.g i b xs e1 e2
 exact ⟨vs,s _ _ (.inr (.inl (List.mem_of_getElem? e1))) h1,h2.keep fun c o pc hc=>⟨sp c pc (by rw [hc]; intro z; cases z),s c o (.inr (.inr pc)) hc⟩⟩
theorem NL.same (h:NL H p G as xss) (s:Same H H'):NL H' p G as xss:=h.keep (fun b o _ hb=>s b o hb) fun _ hp _=>hp
theorem NL.at (h:NL H p G as xss) {i:Nat} {xs:List D} (e:xss[i]?=some xs):∃ b vs,as[i]?=some b∧H b=some (.lst vs)∧Reps H p vs xs:=by
 have hi:=(List.getElem?_eq_some_iff.mp e).1
 have e2:as[i]?=some (as[i]'(by rw [h.len]; exact hi)):=List.getElem?_eq_getElem _
 obtain ⟨vs,h1,h2⟩:=h.g i _ xs e2 e
 exact ⟨_,vs,e2,h1,h2⟩
theorem ZG {H:Hp} {p:Addr→Prop} {G:Addr} (h:H G=some (.lst [])):NL H p G [] []:=⟨h,rfl,List.nodup_nil,by simp,fun i b xs e=>by simp at e⟩
theorem NL.rep (h:NL H p G as xss):Rep H (Off []) (.ref G) (.lst (xss.map D.lst)):=by
 refine .lst (fun z=>nomatch z) h.out (by rw [List.length_map,List.length_map,h.len]) fun i v d e1 e2=>?_
 rw [List.getElem?_map,Option.map_eq_some_iff] at e1 e2
 obtain ⟨b,e1,rfl⟩:=e1
 obtain ⟨xs,e2,rfl⟩:=e2
 obtain ⟨vs,h1,h2⟩:=h.g i b xs e1 e2
 exact h2.all.mk' (fun z=>nomatch z) h1
theorem NL.put {i:Nat} {b:Addr} {vs:List V} {ys:List D} (h:NL H p G as xss) (e:as[i]?=some b) (np:¬ p b) (r:Reps H p vs ys):NL (upd H b (.lst vs)) p G as (xss.set i ys):=by
 have hb:=List.mem_of_getElem? e
 have nG:G≠b:=fun z=>h.nG (by rw [z]; exact hb)
 have rk:∀ {us:List V} {zs:List D},Reps H p us zs→Reps (upd H b (.lst vs)) p us zs:=fun r=>r.keep fun c o pc hc=>⟨pc,by rw [upd_ne (fun z=>np (by rw [← z]; exact pc))]; exact hc⟩
 refine ⟨by rw [upd_ne nG]; exact h.out,by rw [List.length_set,h.len],h.nd,h.nG,fun j c xs e1 e2=>?_⟩
 by_cases hj:j=i
 ·subst hj
  rw [e] at e1
  cases e1
  have hl:j < xss.length:=by rw [← h.len]; exact (List.getElem?_eq_some_iff.mp e).1
  rw [List.getElem?_set_self hl] at e2
  cases e2
  exact ⟨vs,upd_same,rk r⟩
 ·rw [List.getElem?_set_ne (Ne.symm hj)] at e2
  have nc:c≠b:=fun z=>by
   subst z
   exact hj (nodup_at h.nd e1 e)
  obtain ⟨us,h1,h2⟩:=h.g j c xs e1 e2
  exact ⟨us,by rw [upd_ne nc]; exact h1,rk h2⟩
theorem NL.push {b:Addr} {vs:List V} {ys:List D} (h:NL H p G as xss) (hb:H b=some (.lst vs)) (nb:b ∉ as) (nG:b≠G) (np:¬ p G) (r:Reps H p vs ys):NL (upd H G (.lst (as.map V.ref ++ [.ref b]))) p G (as ++ [b]) (xss ++ [ys]):=by
 have rk:∀ {us:List V} {zs:List D},Reps H p us zs→Reps (upd H G (.lst (as.map V.ref ++ [.ref b]))) p us zs:=fun r=>r.keep fun c o pc hc=>⟨pc,by rw [upd_ne (fun z=>np (by rw [← z]; exact pc))]; exact hc⟩
 refine ⟨by rw [upd_same,List.map_append]; rfl,by simp [h.len],?_,?_,fun j c xs e1 e2=>?_⟩
 ·rw [List.nodup_append]
  refine ⟨h.nd,by simp,?_⟩
  intro x hx y hy z
  rw [List.mem_singleton.mp hy] at z
  exact nb (by rw [← z]; exact hx)
 ·intro z
  rcases List.mem_append.mp z with z | z
  ·exact h.nG z
  ·exact nG (List.mem_singleton.mp z).symm
 ·by_cases hj:j < as.length
  ·rw [List.getElem?_append_left hj] at e1
   rw [List.getElem?_append_left (by rw [← h.len]; exact hj)] at e2
   obtain ⟨us,h1,h2⟩:=h.g j c xs e1 e2
   have nc:c≠G:=fun z=>h.nG (by rw [← z]; exact List.mem_of_getElem? e1)
   exact ⟨us,by rw [upd_ne nc]; exact h1,rk h2⟩
  ·rw [List.getElem?_append_right (by omega)] at e1
   rw [List.getElem?_append_right (by rw [← h.len]; omega),← h.len] at e2
   have hj0:j - as.length=0:=by have:=(List.getElem?_eq_some_iff.mp e1).1; simp at this; omega
   rw [hj0] at e1 e2
   have e1:b=c:=by simpa using e1
   have e2:ys=xs:=by simpa using e2
   subst e1 e2
   exact ⟨vs,by rw [upd_ne nG]; exact hb,rk r⟩
end
def TupP (H:Hp):Addr→Prop:=fun b=>∃ xs,H b=some (.tup xs)
theorem NL.tup {H H':Hp} {G:Addr} {as:List Addr} {xss:List (List D)} (h:NL H (TupP H) G as xss) (s:∀ b o,(b=G∨b∈as∨TupP H b)→H b=some o→H' b=some o):NL H' (TupP H') G as xss :=
 h.keep s fun b hb _=>by
  obtain ⟨xs,hx⟩:=hb
  exact ⟨xs,s b _ (.inr (.inr ⟨xs,hx⟩)) hx⟩
theorem NL.isl {H:Hp} {G:Addr} {as:List Addr} {p:Addr→Prop} {xss:List (List D)} (h:NL H p G as xss) {b:Addr} (hb:b∈G :: as):∃ vs,H b=some (.lst vs):=by
 rcases List.mem_cons.mp hb with rfl | hb
 ·exact ⟨_,h.out⟩
 ·obtain ⟨j,hj⟩:=List.getElem?_of_mem hb
  obtain ⟨vs,h1,_⟩:=h.g j b _ hj (List.getElem?_eq_getElem (by rw [← h.len]; exact (List.getElem?_eq_some_iff.mp hj).1))
  exact ⟨vs,h1⟩
theorem NL.copy {H:Hp} {p:Addr→Prop} {G b:Addr} {as:List Addr} {xss:List (List D)} {vs:List V} {ys:List D} (h:NL H p G as xss) (hb:H b=none) (np:¬ p G) (r:Reps H p vs ys) :
  upd H b (.lst vs) G=some (.lst (as.map V.ref))∧NL (upd (upd H b (.lst vs)) G (.lst (as.map V.ref ++ [.ref b]))) p G (as ++ [b]) (xss ++ [ys]):=by
 have s3:Same H (upd H b (.lst vs)):=fun c o hc=>by rw [upd_ne (ne_of_none hc hb)]; exact hc
 have nb:b ∉ as:=fun z=>by
  obtain ⟨us,h1⟩:=h.isl (List.mem_cons_of_mem _ z)
  rw [h1] at hb; cases hb
 have nG:b≠G:=fun z=>by rw [z,h.out] at hb; cases hb
 exact ⟨s3 _ _ h.out,(h.same s3).push upd_same nb nG np (r.keep fun c o pc hc=>⟨pc,s3 _ _ hc⟩)⟩
theorem uc {P:Program} {w:World} {K:PySem.W.Frag} {mg:Str→Option Value} {base:Heap} {x:Str} {k:Nat} {G:List V→Sp→Prop} {ps:List Str} {dvs:List V} {sp:Sp} (c:Cal P w K mg base x k ps dvs sp) (h:G dvs sp):∃ ps dvs sp,Cal P w K mg base x k ps dvs sp∧G dvs sp:=⟨ps,dvs,sp,c,h⟩
theorem un2 {K:PySem.W.Frag} {H:Hp} {t:Addr} {x y:V} {G:V→V→Prop} (h:H t=some (.tup [x,y])) (q:G x y):∃ a xs,V.ref t=.ref a∧SqT K H a xs∧xs.length=2∧∃ v r,xs=v :: r∧∃ v' r',r=v' :: r'∧r'=[]∧G v v':=⟨t,_,rfl,SqT.of h,rfl,x,_,rfl,y,_,rfl,rfl,q⟩
theorem ra {K:PySem.W.Frag} {H:Hp} {a C dx:Addr} {fs:List (Str × V)} {v:V} {f:Str} {G:V→Prop} (h:H a=some (.ins C dx fs)) (c:Cls K C) (n:NoAttr K C f) (e:fs.lookup f=some v) (q:G v):∃ a' C dx fs v,V.ref a=.ref a'∧H a'=some (.ins C dx fs)∧Cls K C∧NoAttr K C f∧fs.lookup f=some v∧G v:=⟨a,C,dx,fs,v,rfl,h,c,n,e,q⟩
end L2
namespace L2
open PySem PySem.Spec PyProof.Rows
section
variable {prog:Program} {w:World} {A:Around} {E:Value→Shared→Prop} {s:Shared}
abbrev lit (l:Addr):Obj:={ cls:=.type (ww true),data:=.fields #[.ref l,.int 0 0] }
end
section
variable {prog:Program} {w:World} {A:Around} {E:Value→Shared→Prop} {s:Shared}
end
def Itz3 (K:PySem.W.Frag) (a1 a2 a3:Addr):It :=
 ⟨fun i H=>∃ xs ys zs x y u,SqL K H a1 xs∧SqL K H a2 ys∧SqL K H a3 zs∧xs[i]?=some x∧ys[i]?=some y∧zs[i]?=some u,
   fun i H v H'=>∃ t x y u,H t=none∧v=.ref t∧(∀ xs,SqL K H a1 xs→xs[i]?=some x)∧(∀ ys,SqL K H a2 ys→ys[i]?=some y)∧(∀ zs,SqL K H a3 zs→zs[i]?=some u)∧H'=upd H t (.tup [x,y,u]),
   fun i H=>∃ xs,SqL K H a1 xs∧xs.length≤i⟩
def iZip3 (X:Cx) (ta:TA):TI:=fun σ H R=>X.mg "zip"=none∧ta σ H fun vs H1=>∃ l1 l2 l3 xs ys zs,vs=[.ref l1,.ref l2,.ref l3]∧SqL X.K H1 l1 xs∧SqL X.K H1 l2 ys∧SqL X.K H1 l3 zs∧R (Itz3 X.K l1 l2 l3) H1
end L2
namespace L2
open PySem PySem.Spec PyProof.Rows
def Itv (K:PySem.W.Frag) (a:Addr) (n:Nat):It :=
 ⟨fun i H=>∃ xs x,SqL K H a xs∧xs.length=n∧xs.reverse[i]?=some x,fun i H x H'=>H'=H∧∀ xs,SqL K H a xs→xs.reverse[i]?=some x,fun i _=>n≤i⟩
def iRev (X:Cx) (ta:TA):TI:=fun σ H R=>X.mg "reversed"=none∧ta σ H fun vs H1=>∃ l xs,vs=[.ref l]∧SqL X.K H1 l xs∧R (Itv X.K l xs.length) H1
section
variable {X:Cx} {pos pos':Pos} {x:Str}
theorem zx (i:Nat) {e:Expr} {te:TE} (hN:X.N.Nodup) (he:PE X e te) (hi:X.N[i]?=some x:=by rfl) (hx:Loc X.env.scope x:=by exact Or.inl rfl) (hs:swapsWith e (some (.Name x pos')) pos.line X.env=pure false:=by rfl)
  (hf:Or (X.fn x=true) (X.env.scope.names.lookup x=some .local):=by walk_at "p"):PS X (.Assign [.Name x pos'] e pos) (tAsg te (gName i)):=ZB hN hi hx he hs hf
theorem pg_n (i:Nat) (hN:X.N.Nodup) (hi:X.N[i]?=some x:=by rfl) (hx:Loc X.env.scope x:=by exact Or.inl rfl) (hf:Or (X.fn x=true) (X.env.scope.names.lookup x=some .local):=by walk_at "p"):PG X (.Name x pos) (gName i):=pg_name hN hi hx hf
theorem zp {a b:Expr} {ta tb:TE} (ha:PE X a ta) (hb:PE X b tb) (hs:Jy b:=by intro _ _; rfl):PE X (.Subscript a b pos) (tOp (rIx X.K) ta tb):=pe_ix ix_any ha hb hs
end
end L2
namespace L2
open PySem PySem.Spec PyProof.Rows
section
variable {X:Cx}
end
end L2
namespace L2
open PySem PySem.Spec PyProof.Rows
section
variable {X:Cx} {G:GK} {x y:Str} {np mp pos hpos gpos:Pos} {body su sv:List Stmt} {b₀ c₀:Stmt} {tb:List (Addr × Obj)→GK→TS} {th ti:List (Addr × Obj)→Addr→TS}
def tTry2 (X:Cx) (x y:Str) (tb:List (Addr × Obj)→GK→TS) (th ti:List (Addr × Obj)→Addr→TS):TS:=fun D σ H=>∃ Dc Ec,X.mg x=some (.ref Dc)∧PySem.W.subIn X.K (.ref Dc) (.type "BaseException")=some true∧X.mg y=some (.ref Ec)∧PySem.W.subIn X.K (.ref Ec) (.type "BaseException")=some true ∧
 ∀ pn,tb pn (fun cls σ' H'=>∃ C,cls=.ref C∧((PySem.W.kitCls X.K (.ref C) (.ref Dc)=some true∧∀ a,H' a=none→th pn a D σ' H')∨(PySem.W.kitCls X.K (.ref C) (.ref Dc)=some false∧PySem.W.kitCls X.K (.ref C) (.ref Ec)=some true∧∀ a,H' a=none→ti pn a D σ' H'))) D σ H
end
section
variable {X:Cx}
end
end L2
namespace L2
open PySem PySem.Spec PyProof.Rows
section
variable {X:Cx}
def rEqN (K:PySem.W.Frag):R2:=fun x y H Q=>∃ p q xs,x=.ref p∧y=.ref q∧SqL K H p xs∧SqL K H q []∧Q (.bl (decide (xs.length=0))) H
theorem og_eqN (hu:X.A.units + 100 < cLine):OpR X (compareOp .Eq) (rEqN X.K):=by
 intro pins s σ H x y v u Q I rx ry h
 obtain ⟨p,q,xs,rfl,rfl,h1,h2,k⟩:=h
 by_cases hl:xs.length=0
 ·have e:xs=[]:=List.length_eq_zero_iff.mp hl
  subst e
  exact Zb (by omega) pins s σ H _ _ _ _ Q I rx ry ⟨p,q,[],[],rfl,rfl,.inl ⟨h1,h2⟩,rfl,rfl,k⟩
 ·rw [decide_eq_false hl] at k
  cases rx
  cases ry
  obtain ⟨its,r,p,_⟩:=I.list h1
  obtain ⟨its2,r2,p2,_⟩:=I.list h2
  have e1:=r.length
  have e2:=r2.length
  exact SeqAt.RcAt.lists_lengths p.isList p2.isList (by simp only [List.size_toArray]; simp at e2 ⊢; omega) (by omega) _ _ _ _ ⟨.bl false,H,I,rfl,k⟩
end
end L2
namespace L2
open PySem PySem.Spec PyProof.Rows
section
variable {κ:Type} [DecidableEq κ]
def valV (kvs:List (κ × V)) (k:κ):Option V:=(kvs.find? fun kv=>decide (kv.1=k)).map (·.2)
def putK (kvs:List (κ × V)) (k:κ) (v:V):List (κ × V) :=
 if (kvs.any fun kv=>decide (kv.1=k))=true then kvs.map (fun kv=>if kv.1=k then (kv.1,v) else kv) else kvs ++ [(k,v)]
def Xd (kvs:List (κ × V)) (k:κ):List (κ × V):=kvs.filter fun kv=>decide (kv.1≠k)
theorem qu {p:κ × V} {r:List (κ × V)} {k:κ} (e:p.1=k):valV (p :: r) k=some p.2:=by simp [valV,List.find?_cons,e]
theorem qv {p:κ × V} {r:List (κ × V)} {k:κ} (e:¬ p.1=k):valV (p :: r) k=valV r k:=by simp [valV,List.find?_cons,e]
theorem xI (k:κ):∀ kvs:List (κ × V),(kvs.any fun kv=>decide (kv.1=k))=(valV kvs k).isSome
 | []=>rfl
 | p :: r=>by
  rw [List.any_cons]
  by_cases e:p.1=k
  ·simp only [qu e,decide_eq_true e,Bool.true_or,Option.isSome_some]
  ·rw [qv e,decide_eq_false e,Bool.false_or]; exact xI k r
theorem ZU (k j:κ) (y:V):∀ kvs:List (κ × V),valV (kvs.map fun kv=>if kv.1=k then (kv.1,y) else kv) j=(valV kvs j).map fun x=>if j=k then y else x
 | []=>rfl
 | p :: r=>by
  have ih:=ZU k j y r
  rw [List.map_cons]
  by_cases h:p.1=k
  ·rw [if_pos h]
   by_cases e:p.1=j
   ·rw [qu (p:=(p.1,y)) e,qu e,Option.map_some,if_pos (e.symm.trans h)]
   ·rw [qv (p:=(p.1,y)) e,qv e,ih]
  ·rw [if_neg h]
   by_cases e:p.1=j
   ·rw [qu (p:=p) e,qu e,Option.map_some,if_neg (fun z=>h (e.trans z))]
   ·rw [qv (p:=p) e,qv e,ih]
theorem vS (k j:κ) (y:V):∀ kvs:List (κ × V),valV kvs k=none→valV (kvs ++ [(k,y)]) j=if j=k then some y else valV kvs j
 | [],_=>by
  by_cases e:k=j
  ·rw [if_pos e.symm]; exact qu (p:=(k,y)) e
  ·rw [if_neg (fun z=>e z.symm)]; exact qv (p:=(k,y)) e
 | p :: r,hn=>by
  rw [List.cons_append]
  have hk:¬ p.1=k:=fun z=>by rw [qu z] at hn; cases hn
  rw [qv hk] at hn
  have ih:=vS k j y r hn
  by_cases e:p.1=j
  ·rw [qu e,qu e,if_neg (fun z=>hk (e.trans z))]
  ·rw [qv e,qv e,ih]
theorem ZT (kvs:List (κ × V)) (k j:κ) (y:V):valV (putK kvs k y) j=if j=k then some y else valV kvs j:=by
 unfold putK
 by_cases a:(kvs.any fun kv=>decide (kv.1=k))=true
 ·rw [if_pos a,ZU]
  rw [xI] at a
  by_cases e:j=k
  ·obtain ⟨x,hx⟩:=Option.isSome_iff_exists.mp a
   rw [if_pos e,e,hx,Option.map_some,if_pos rfl]
  ·rw [if_neg e]
   cases valV kvs j with
   | none=>rfl
   | some x=>rw [Option.map_some,if_neg e]
 ·rw [if_neg a]
  refine vS k j y kvs ?_
  rw [xI] at a
  cases q:valV kvs k with
  | none=>rfl
  | some x=>rw [q] at a; exact (a rfl).elim
theorem wF (kvs:List (κ × V)) (k:κ) (v:V):(putK kvs k v).length≤kvs.length + 1:=by
 unfold putK
 split
 ·rw [List.length_map]; omega
 ·rw [List.length_append,List.length_cons,List.length_nil]; omega
theorem RelO.isSome_eq {o:Option V} {u:Option Value} (r:RelO o u):o.isSome=u.isSome:=by
 cases o with
 | none=>cases u with
  | none=>rfl
  | some _=>exact (show False from r).elim
 | some _=>cases u with
  | none=>exact (show False from r).elim
  | some _=>rfl
theorem RelO.getD {o:Option V} {u:Option Value} {d:V} {d':Value} (r:RelO o u) (rd:RelV d d'):RelV (o.getD d) (u.getD d'):=by
 cases o with
 | none=>cases u with
  | none=>exact rd
  | some _=>exact (show False from r).elim
 | some _=>cases u with
  | none=>exact (show False from r).elim
  | some _=>exact r
theorem KV.val {kvs:List (κ × V)} {vs:List (κ × Value)} (r:KV kvs vs) (k:κ):RelO (valV kvs k) (valueAt vs k):=by
 unfold KV at r
 induction r with
 | nil=>exact True.intro
 | @cons p q ps qs h t ih =>
  obtain ⟨h1,h2⟩:=h
  by_cases e:p.1=k
  ·have e':q.1=k:=h1.symm.trans e
   have b:valueAt (q :: qs) k=some q.2:=by simp [valueAt,List.find?_cons,e']
   rw [qu e,b]; exact h2
  ·have e':¬ q.1=k:=fun z=>e (h1.trans z)
   have b:valueAt (q :: qs) k=valueAt qs k:=by simp [valueAt,List.find?_cons,e']
   rw [qv e,b]; exact ih
theorem KV.any {kvs:List (κ × V)} {vs:List (κ × Value)} (r:KV kvs vs) (k:κ):(kvs.any fun kv=>decide (kv.1=k))=vs.any fun kv=>decide (kv.1=k):=by
 unfold KV at r
 induction r with
 | nil=>rfl
 | cons h t ih=>rw [List.any_cons,List.any_cons,ih,h.1]
theorem KV.repl {kvs:List (κ × V)} {vs:List (κ × Value)} (r:KV kvs vs) (k:κ) {y:V} {u:Value} (ry:RelV y u) :
  KV (kvs.map fun kv=>if kv.1=k then (kv.1,y) else kv) (vs.map fun kv=>if kv.1=k then (kv.1,u) else kv):=by
 unfold KV at r ⊢
 induction r with
 | nil=>exact .nil
 | @cons p q ps qs h t ih =>
  rw [List.map_cons,List.map_cons]
  refine .cons ?_ ih
  obtain ⟨h1,h2⟩:=h
  by_cases e:p.1=k
  ·rw [if_pos e,if_pos (h1.symm.trans e)]; exact ⟨h1,ry⟩
  ·rw [if_neg e,if_neg (fun z=>e (h1.trans z))]; exact ⟨h1,h2⟩
theorem KV.put {kvs:List (κ × V)} {vs:List (κ × Value)} (r:KV kvs vs) (k:κ) {y:V} {u:Value} (ry:RelV y u):KV (putK kvs k y) (stored vs k u):=by
 unfold putK stored
 rw [r.any k]
 by_cases e:(vs.any fun kv=>decide (kv.1=k))=true
 ·rw [if_pos e,if_pos e]; exact r.repl k ry
 ·rw [if_neg e,if_neg e]; exact Paired.snoc r ⟨rfl,ry⟩
theorem KV.drop {kvs:List (κ × V)} {vs:List (κ × Value)} (r:KV kvs vs) (k:κ):KV (Xd kvs k) (without vs k):=by
 unfold KV at r ⊢
 unfold Xd without
 induction r with
 | nil=>exact .nil
 | @cons p q ps qs h t ih =>
  obtain ⟨h1,h2⟩:=h
  rw [List.filter_cons,List.filter_cons]
  by_cases e:p.1=k
  ·have a:¬ decide (p.1≠k)=true:=by simp [e]
   have b:¬ decide (q.1≠k)=true:=by simp [h1.symm.trans e]
   rw [if_neg a,if_neg b]; exact ih
  ·have e':¬ q.1=k:=fun z=>e (h1.trans z)
   have a:decide (p.1≠k)=true:=by simp [e]
   have b:decide (q.1≠k)=true:=by simp [e']
   rw [if_pos a,if_pos b]; exact .cons ⟨h1,h2⟩ ih
theorem KV.keys {kvs:List (κ × V)} {vs:List (κ × Value)} (r:KV kvs vs):kvs.map (·.1)=vs.map (·.1):=by
 unfold KV at r
 induction r with
 | nil=>rfl
 | cons h t ih=>rw [List.map_cons,List.map_cons,ih,h.1]
theorem KV.length {kvs:List (κ × V)} {vs:List (κ × Value)} (r:KV kvs vs):kvs.length=vs.length:=Paired.length r
end
theorem Ja {P:Program} {w:World} {k:Key} {u:Value} (r:RelV (kV k) u):(qt P w).is k u=true:=by
 cases k with
 | inl i=>obtain ⟨t,e⟩:=(show ∃ t,u=Value.int i t from r); subst e; exact mixKind_int P w i t
 | inr x=>obtain ⟨t,e⟩:=(show ∃ t,u=Value.str x t from r); subst e; exact mixKind_str P w x t
theorem Zl {P:Program} {w:World}:∀ {ks:List Key} {us:List Value},Vals (ks.map kV) us→ItemsAre (qt P w) ks us
 | [],_,r=>by rw [List.map_nil] at r; cases r; exact .nil
 | k :: ks,_,r=>by
  rw [List.map_cons] at r
  cases r with
  | cons h t=>exact .cons (Ja h) (Zl t)
abbrev KT (H:Hp):List (List Key × V)→List (List Key × Addr × Value)→Prop:=Paired fun p q=>p.1=q.1∧H q.2.1=some (.tup (p.1.map kV))∧RelV p.2 q.2.2
theorem KT.val {H:Hp} {kvs:List (List Key × V)} {xs:List (List Key × Addr × Value)} (r:KT H kvs xs) (k:List Key):RelO (valV kvs k) ((atKey xs k).map (·.2)):=by
 induction r with
 | nil=>exact True.intro
 | @cons p q ps qs h t ih =>
  obtain ⟨h1,_,h2⟩:=h
  by_cases e:p.1=k
  ·have e':q.1=k:=h1.symm.trans e
   have b:atKey (q :: qs) k=some q.2:=by simp [atKey,List.find?_cons,e']
   rw [qu e,b]; exact h2
  ·have e':¬ q.1=k:=fun z=>e (h1.trans z)
   have b:atKey (q :: qs) k=atKey qs k:=by simp [atKey,List.find?_cons,e']
   rw [qv e,b]; exact ih
theorem KT.repl {H:Hp} {kvs:List (List Key × V)} {xs:List (List Key × Addr × Value)} (r:KT H kvs xs) (k:List Key) {y:V} {u:Value} (ry:RelV y u) :
  KT H (kvs.map fun kv=>if kv.1=k then (kv.1,y) else kv) (xs.map (putAt k u)):=by
 induction r with
 | nil=>exact .nil
 | @cons p q ps qs h t ih =>
  rw [List.map_cons,List.map_cons]
  refine .cons ?_ ih
  obtain ⟨h1,h2,h3⟩:=h
  unfold putAt
  by_cases e:p.1=k
  ·rw [if_pos e,if_pos (h1.symm.trans e)]; exact ⟨h1,h2,ry⟩
  ·rw [if_neg e,if_neg (fun z=>e (h1.trans z))]; exact ⟨h1,h2,h3⟩
theorem KT.put {H:Hp} {kvs:List (List Key × V)} {xs:List (List Key × Addr × Value)} (r:KT H kvs xs) (k:List Key) {b:Addr} {y:V} {u:Value} (hb:H b=some (.tup (k.map kV))) (ry:RelV y u) :
  KT H (putK kvs k y) (storedH xs k b u):=by
 have e:(kvs.any fun kv=>decide (kv.1=k))=(atKey xs k).isSome:=by
  rw [xI,(r.val k).isSome_eq,Option.isSome_map]
 unfold putK storedH
 rw [e]
 by_cases q:(atKey xs k).isSome=true
 ·rw [if_pos q,if_pos q]; exact r.repl k ry
 ·rw [if_neg q,if_neg q]; exact Paired.snoc r ⟨rfl,hb,ry⟩
theorem KT.keeps {H H':Hp} {kvs:List (List Key × V)} {xs:List (List Key × Addr × Value)} (r:KT H kvs xs) (ht:∀ b ys,H b=some (.tup ys)→H' b=some (.tup ys)):KT H' kvs xs :=
 Paired.mapP r fun _ _ z=>⟨z.1,ht _ _ z.2.1,z.2.2⟩
section
variable {P:Program} {w:World} {H:Hp} {h:Heap} {a:Addr}
theorem J6 {u:HO} (ok:HOk P w H h) (e:Rd H a u):ObjOk P w H h a u:=e.ok ok
theorem Jm {kvs:List (Key × V)} (ok:HOk P w H h) (e:Rd H a (.dK kvs)):kvs.length≤sizeLine∧(a == sysModules)=false∧∃ vs,KV kvs vs∧h.DictOf (qt P w) a vs :=
 show ObjOk P w H h a (.dK kvs) from J6 ok e
theorem dk_of {kvs:List (Key × V)} (ok:HOk P w H h) (e:H a=some (.dK kvs)):kvs.length≤sizeLine∧(a == sysModules)=false∧∃ vs,KV kvs vs∧h.DictOf (qt P w) a vs:=Jm ok (.inl e)
theorem ZJ {ks:List Key} (ok:HOk P w H h) (e:H a=some (.tup (ks.map kV))):(tupleKind (qt P w)).is h ks a:=by
 obtain ⟨_,its,r,o,h1,h2,n,h3⟩:=(show ObjOk P w H h a (.tup (ks.map kV)) from ok a _ e)
 exact ⟨o,its.toArray,n,h1,h2,h3,by simpa using Zl r⟩
theorem Jk {kvs:List (List Key × V)} (ok:HOk P w H h) (e:Rd H a (.dT kvs)):kvs.length≤sizeLine∧(a == sysModules)=false ∧
  ∃ xs,KT H kvs xs∧h.DictOfH (tupleKind (qt P w)) a xs:=by
 obtain ⟨z,y,xs,r,o,es,ep,h1,h2,h3,h4,h5⟩:=(show ObjOk P w H h a (.dT kvs) from J6 ok e)
 refine ⟨z,y,xs,r,o,es,ep,h1,h2,h3,h4,fun x hx=>?_,h5⟩
 have all:∀ {l:List (List Key × V)} {m:List (List Key × Addr × Value)},KT H l m→∀ x∈m,(tupleKind (qt P w)).is h x.1 x.2.1:=by
  intro l m q
  induction q with
  | nil=>intro x hx; exact nomatch hx
  | @cons p q ps qs hq t ih =>
   intro x hx
   rcases List.mem_cons.mp hx with e | hx
   ·subst e
    exact ZJ ok (by rw [← hq.1]; exact hq.2.1)
   ·exact ih x hx
 exact all r x hx
theorem dt_of {kvs:List (List Key × V)} (ok:HOk P w H h) (e:H a=some (.dT kvs)):kvs.length≤sizeLine∧(a == sysModules)=false ∧
  ∃ xs,KT H kvs xs∧h.DictOfH (tupleKind (qt P w)) a xs:=Jk ok (.inl e)
end
def DGet (H:Hp) (a:Addr) (y:V) (r:Option V):Prop :=
 (∃ kvs k,Rd H a (.dK kvs)∧y=kV k∧r=valV kvs k)∨∃ kvs k b,Rd H a (.dT kvs)∧y=.ref b∧H b=some (.tup (k.map kV))∧r=valV kvs k
def DPut (H:Hp) (a:Addr) (y v:V) (H':Hp):Prop :=
 (∃ kvs k,H a=some (.dK kvs)∧y=kV k∧kvs.length < sizeLine∧H'=upd H a (.dK (putK kvs k v))) ∨
 ∃ kvs k b,H a=some (.dT kvs)∧y=.ref b∧H b=some (.tup (k.map kV))∧kvs.length < sizeLine∧H'=upd H a (.dT (putK kvs k v))
theorem DGet.k {H:Hp} {a:Addr} {kvs:List (Key × V)} {k:Key} (e:H a=some (.dK kvs)):DGet H a (kV k) (valV kvs k):=.inl ⟨kvs,k,.inl e,rfl,rfl⟩
theorem DGet.t {H:Hp} {a b:Addr} {kvs:List (List Key × V)} {k:List Key} (e:H a=some (.dT kvs)) (eb:H b=some (.tup (k.map kV))):DGet H a (.ref b) (valV kvs k):=.inr ⟨kvs,k,b,.inl e,rfl,eb,rfl⟩
theorem DPut.k {H:Hp} {a:Addr} {kvs:List (Key × V)} {k:Key} {v:V} (e:H a=some (.dK kvs)) (hl:kvs.length < sizeLine):DPut H a (kV k) v (upd H a (.dK (putK kvs k v))):=.inl ⟨kvs,k,e,rfl,hl,rfl⟩
theorem DPut.t {H:Hp} {a b:Addr} {kvs:List (List Key × V)} {k:List Key} {v:V} (e:H a=some (.dT kvs)) (eb:H b=some (.tup (k.map kV))) (hl:kvs.length < sizeLine) :
  DPut H a (.ref b) v (upd H a (.dT (putK kvs k v))):=.inr ⟨kvs,k,b,e,rfl,eb,hl,rfl⟩
section
variable {X:Cx} {pins:List (Addr × Obj)} {σ:St} {H:Hp} {s:Shared} {a:Addr} {y v:V} {u r:Value} {o:Option V} {A:Around} {E:Value→Shared→Prop}
theorem Inv.big (I:Inv X pins σ H s):sysModules < s.heap.objs.size:=by
 have h:mainGlobals < s.heap.objs.size:=(I.mod.glob.keeps I.bk).lt
 exact Nat.lt_trans (by decide) h
theorem d_getItem {Q:Value→Shared→Prop} (hu:A.units + 1 < cLine) (I:Inv X pins σ H s) (g:DGet H a y (some v)) (ry:RelV y u) (h:∀ w' s',Inv X pins σ H s'→RelV v w'→Q w' s') :
  wpAny (model X.prog X.w) A (getItem (.ref a) u) Q E s:=by
 rcases g with ⟨kvs,k,e,ey,l⟩ | ⟨kvs,k,b,e,ey,eb,l⟩
 ·subst ey
  obtain ⟨z,hd,vs,rel,dd⟩:=Jm I.hok e
  obtain ⟨w',hw,rw'⟩:=RelO.some_of (v:=v) (o:=valueAt vs k) (by rw [l]; exact rel.val k)
  exact wpAny_getItem_of (Ja ry) dd.mapOf hw (h w' _ (I.tok _) rw')
 ·subst ey
  cases (show u=Value.ref b from ry)
  obtain ⟨z,hd,xs,rel,dd⟩:=Jk I.hok e
  obtain ⟨w',hw,rw'⟩:=RelO.some_of (v:=v) (o:=(atKey xs k).map (·.2)) (by rw [l]; exact rel.val k)
  obtain ⟨p,hp,hp2⟩:=Option.map_eq_some_iff.mp hw
  refine wpAny_getItem_heap (tupleKind_room_in1 hu) (ZJ I.hok eb) dd hp ?_
  rw [hp2]
  exact h w' _ (I.tok _) rw'
theorem d_in {Q:Value→Shared→Prop} (hu:A.units + 1 < cLine) (I:Inv X pins σ H s) (g:DGet H a y o) (ry:RelV y u) (h:∀ s',Inv X pins σ H s'→Q (.bool o.isSome) s') :
  wpAny (model X.prog X.w) A (compareOp .In u (.ref a)) Q E s:=by
 rcases g with ⟨kvs,k,e,ey,l⟩ | ⟨kvs,k,b,e,ey,eb,l⟩
 ·subst ey
  obtain ⟨z,hd,vs,rel,dd⟩:=Jm I.hok e
  refine wpAny_in_of (Ja ry) hd dd.mapOf ?_
  rw [← (rel.val k).isSome_eq,← l]
  exact h _ (I.tok _)
 ·subst ey
  cases (show u=Value.ref b from ry)
  obtain ⟨z,hd,xs,rel,dd⟩:=Jk I.hok e
  refine wpAny_in_heap (tupleKind_room_in1 hu) (ZJ I.hok eb) hd dd ?_
  have q:=(rel.val k).isSome_eq
  rw [Option.isSome_map] at q
  rw [← q,← l]
  exact h _ (I.tok _)
theorem Jr {h':Heap} {t':Nat} {ob:HO} (I:Inv X pins σ H s) (mu:Mut (H a)) (hs:Heap.SameBut a s.heap h') (he:∃ q,h'.get? a=some q) (new:ObjOk X.prog X.w (upd H a ob) h' a ob) :
  Inv X pins σ (upd H a ob) { s with heap:=h',toks:=t' } :=
 I.write (x:=a) (e:=a) mu (.inl rfl) (fun b q hb z=>(hs.2 b hb).trans z) he new
theorem dk_new {P:Program} {w:World} {H':Hp} {h':Heap} {kvs:List (Key × V)} {vs:List (Key × Value)} (z:kvs.length≤sizeLine) (hd:(a == sysModules)=false) (rel:KV kvs vs) (dd:h'.DictOf (qt P w) a vs) :
  ObjOk P w H' h' a (.dK kvs):=⟨z,hd,vs,rel,dd⟩
theorem d_setItem {H':Hp} {Q:Unit→Shared→Prop} (hu:A.units + 1 < cLine) (I:Inv X pins σ H s) (g:DPut H a y v H') (ry:RelV y u) (rv:RelV v r) (h:∀ s',Inv X pins σ H' s'→Q () s') :
  wpAny (model X.prog X.w) A (setItem (.ref a) u r) Q E s:=by
 rcases g with ⟨kvs,k,e,ey,l,eH⟩ | ⟨kvs,k,b,e,ey,eb,l,eH⟩
 ·subst ey eH
  obtain ⟨z,hd,vs,rel,dd⟩:=dk_of I.hok e
  have hz:vs.length≤sizeLine:=by rw [← rel.length]; exact z
  have hl:(putK kvs k v).length≤sizeLine:=by have:=wF kvs k v; omega
  refine wpAny_setItem_pairs (hsz:=hz) (Ja ry) dd fun h' dd' hs=>h _ ?_
  have he:∃ q,h'.get? a=some q:=let ⟨q,_,_,hq,_⟩:=dd'; ⟨q,hq⟩
  exact Jr I (by rw [e]; exact True.intro) hs he (dk_new hl hd (rel.put k rv) dd')
 ·subst ey eH
  cases (show u=Value.ref b from ry)
  obtain ⟨z,hd,xs,rel,dd⟩:=dt_of I.hok e
  have hz:xs.length≤sizeLine:=by rw [← Paired.length rel]; exact z
  have hl:(putK kvs k v).length≤sizeLine:=by have:=wF kvs k v; omega
  refine wpAny_setItem_heap (hsz:=hz) (tupleKind_room_in1 hu) (ZJ I.hok eb) dd fun h' dd' hs=>h _ ?_
  obtain ⟨q,es,ep,hq,h2,h3,h4,_,h5⟩:=dd'
  refine Jr I (by rw [e]; exact True.intro) hs ⟨q,hq⟩ ⟨hl,hd,_,(rel.put k eb rv).keeps fun c ys ec=>?_,q,es,ep,hq,h2,h3,h4,h5⟩
  rw [upd_ne (xU ec e (fun z=>nomatch z))]
  exact ec
end
section
variable {X:Cx} {pins:List (Addr × Obj)} {σ:St} {H:Hp} {s:Shared} {a:Addr} {kvs:List (Key × V)} {k:Key} {u:Value} {A:Around} {E:Value→Shared→Prop}
end
def NoSl (i:Expr):Prop:=∀ ov iv,subscripted i false ov iv=operate [ov,iv] (getItem ov iv)
theorem subD_of {prog:Program} {w:World} {A:Around} {E:Value→Shared→Prop} {s:Shared} {env:Env} {value slice:Expr} {pos:Pos} {T id:String} {Q:Value→Shared→Prop}
  (hl:typeLookup (.type T) "__getitem__"=pure (some (.builtin id))) (hs:NoSl slice)
  (h:wpAny (model prog w) A (eval value env) (fun o s₁=>wpAny (model prog w) A (eval slice env) (fun i s₂=>s₂.TypeIs o T∧wpAny (model prog w) A (getItem o i) Q E s₂) E s₁) E s) :
  wpAny (model prog w) A (eval (.Subscript value slice pos) env) Q E s:=by
 refine Subscript_ (wpAny_mono h (fun o s₁ h₁=>wpAny_mono h₁ (fun i s₂ h₂=>?_) fun _ _ x=>x) fun _ _ x=>x)
 obtain ⟨hT,h₂⟩:=h₂
 unfold subscriptTail
 refine wpAny_bind ?_
 rw [getitemInPython_of_ne hT.not_modules]
 refine wpAny_bind (wpAny_specialOf hT hl ?_)
 have fin:wpAny (model prog w) A (subscripted slice false o i) (fun r s₃=>wpAny (model prog w) A (letTemporaryGo value o r >>= fun _=>pure r) Q E s₃) E s₂:=by
  rw [hs o i]
  exact wpAny_operating (wpAny_mono h₂ (fun r s₃ h₃=>wpAny_bind (wpAny_letTemporaryGo (wpAny_pure h₃))) fun _ _ x=>x)
 first
  | exact wpAny_pure (wpAny_bind fin)
  | exact wpAny_bind (wpAny_pure (wpAny_bind fin))
  | exact wpAny_bind fin
theorem dict_typeIs {X:Cx} {pins:List (Addr × Obj)} {σ:St} {H:Hp} {s:Shared} {a:Addr} {y:V} {o:Option V} (I:Inv X pins σ H s) (g:DGet H a y o):s.TypeIs (.ref a) "dict":=by
 rcases g with ⟨kvs,k,e,_,_⟩ | ⟨kvs,k,b,e,_,_,_⟩
 ·obtain ⟨_,_,vs,_,dd⟩:=Jm I.hok e
  exact dd.typeIs
 ·obtain ⟨_,_,xs,_,dd⟩:=Jk I.hok e
  exact dd.typeIs
def tDGet (td ty:TE):TE:=fun σ H Q=>td σ H fun x H1=>ty σ H1 fun y H2=>∃ a v,x=.ref a∧DGet H2 a y (some v)∧Q v H2
def tDIn (ty td:TE):TE:=fun σ H Q=>ty σ H fun y H1=>td σ H1 fun x H2=>∃ a o,x=.ref a∧DGet H2 a y o∧Q (.bl o.isSome) H2
def tDNotIn (ty td:TE):TE:=fun σ H Q=>ty σ H fun y H1=>td σ H1 fun x H2=>∃ a o,x=.ref a∧DGet H2 a y o∧Q (.bl (!o.isSome)) H2
def sDPut (td ty tv:TE):TS:=fun D σ H=>tv σ H fun v H1=>td σ H1 fun x H2=>ty σ H2 fun y H3=>∃ a H4,x=.ref a∧DPut H3 a y v H4∧D.nx σ H4
section
variable {X:Cx} {o i e value:Expr} {pos pos' tpos:Pos} {td ty tv:TE}
theorem Q4 (hu:X.A.units + 1 < cLine) (ho:PE X o td) (hi:PE X i ty) (hs:NoSl i):PE X (.Subscript o i pos) (tDGet td ty):=by
 intro pins s σ H Q I h
 refine subD_of PySem.F.slot_dict_getitem.lookup hs (thn (ho pins s σ H _ I h) fun u s1 ⟨x,H1,I1,rx,q1⟩=>thn (hi pins s1 σ H1 _ I1 q1) fun iv s2 ⟨y,H2,I2,ry,a,v,ex,g,q2⟩=>?_)
 subst ex
 obtain rfl:u=Value.ref a:=rx
 exact ⟨dict_typeIs I2 g,d_getItem hu I2 g ry fun w' s3 I3 rw'=>⟨v,H2,I3,rw',q2⟩⟩
theorem pc_din (hu:X.A.units + 1 < cLine) (hi:PE X i ty) (ho:PE X o td):PC X .In i o (tDIn ty td):=by
 intro pins s σ H Q I h
 refine thn (hi pins s σ H _ I h) fun iv s1 ⟨y,H1,I1,ry,q1⟩=>thn (ho pins s1 σ H1 _ I1 q1) fun u s2 ⟨x,H2,I2,rx,a,ov,ex,g,q2⟩=>?_
 subst ex
 obtain rfl:u=Value.ref a:=rx
 exact d_in hu I2 g ry fun s3 I3=>⟨.bl ov.isSome,H2,I3,rfl,q2⟩
theorem ps_dput (hu:X.A.units + 1 < cLine) (ho:PE X o td) (hi:PE X i ty) (hv:PE X value tv) (hs:swapsWith value (some (.Subscript o i pos')) pos.line X.env=pure false) :
  PS X (.Assign [.Subscript o i pos'] value pos) (sDPut td ty tv):=by
 intro pins s σ H D I h
 refine wpAny_Assign_Subscript (thn (hv pins s σ H _ I h) fun r s1 ⟨v,H1,I1,rv,q1⟩=>thn (ho pins s1 σ H1 _ I1 q1) fun u s2 ⟨x,H2,I2,rx,q2⟩=>thn (hi pins s2 σ H2 _ I2 q2) fun iv s3 ⟨y,H3,I3,ry,a,H4,ex,g,q3⟩=>?_) hs
 subst ex
 obtain rfl:u=Value.ref a:=rx
 exact d_setItem hu I3 g ry rv fun s4 I4=>⟨σ,H4,I4,q3⟩
end
theorem dt_empty {P:Program} {w:World} {H:Hp} (h:Heap) (hb:sysModules < h.objs.size):ObjOk P w H (h.push { cls:=.type "dict",data:=.dict #[] }) h.objs.size (.dT []) :=
 ⟨Nat.zero_le _,beq_eq_false_iff_ne.mpr (Ne.symm (Nat.ne_of_lt hb)),[],.nil,_,#[],0,Heap.get?_push_size _ rfl,⟨rfl,rfl,rfl⟩,rfl,rfl,List.nodup_nil⟩
def tDNewK:TE:=fun _ H Q=>∀ p,H p=none→Q (.ref p) (upd H p (.dK []))
def tDNewT:TE:=fun _ H Q=>∀ p,H p=none→Q (.ref p) (upd H p (.dT []))
section
variable {X:Cx} {pos:Pos}
theorem pe_dnewT:PE X (.Dict [] [] pos) tDNewT:=fun pins s σ H Q I h =>
 wpAny_Dict_empty ⟨.ref s.heap.objs.size,_,I.laid (a:=s.heap.objs.size) (o:=.dT []) (t':=s.toks) (fun _ _ q=>Heap.get?_push_of_some _ q) (Nat.le_refl _) (dt_empty s.heap I.big),rfl,h _ (I.hok.fresh (Nat.le_refl _))⟩
end
section
variable {X:Cx} {pins:List (Addr × Obj)} {σ:St} {H:Hp} {s:Shared} {a:Addr} {y d:V} {u r:Value} {o:Option V} {A:Around} {E:Value→Shared→Prop}
end
section
variable {X:Cx} {o e f:Expr} {apos cpos:Pos} {td ty tx:TE}
end
end L2
namespace L2
open PySem PySem.Spec PyProof.Rows
section
variable {κ:Type} [DecidableEq κ]
theorem Q5:∀ {l:List κ} {k:κ},l.Nodup→¬ k∈l→(l ++ [k]).Nodup
 | [],k,_,_=>by simp
 | a :: r,k,h,hk=>by
  obtain ⟨h1,h2⟩:=List.nodup_cons.mp h
  show (a :: (r ++ [k])).Nodup
  refine List.nodup_cons.mpr ⟨fun m=>?_,Q5 h2 fun m=>hk (List.mem_cons.mpr (Or.inr m))⟩
  rcases List.mem_append.mp m with q | q
  ·exact h1 q
  ·exact hk (List.mem_cons.mpr (Or.inl (List.mem_singleton.mp q).symm))
end
end L2
namespace L2
open PySem PySem.Spec PySem.Calls PyProof.Rows
section
variable {X:Cx}
end
end L2
namespace L2
open PySem PySem.Spec PyProof.Rows
section
variable {prog:Program} {w:World} {A:Around} {E:Value→Shared→Prop} {s:Shared} {it d:Addr} {i ep:Nat} {es:Array DictEntry} {od:Obj}
end
def Itdt (d:Addr) (o:Obj) (kvs:List (List Key × V)):It :=
 ⟨fun i H=>H d=some (.frz o (.dT kvs))∧i < kvs.length,fun i H x H'=>H'=H∧∃ b p,x=.ref b∧kvs[i]?=some p∧H b=some (.tup (p.1.map kV)),fun i H=>H d=some (.frz o (.dT kvs))∧kvs.length≤i⟩
def iDT (tl:TE):TI:=fun σ H R=>tl σ H fun x H1=>∃ d kvs,x=.ref d∧H1 d=some (.dT kvs)∧∀ o,R (Itdt d o kvs) (upd H1 d (.frz o (.dT kvs)))
end L2
namespace L2
section
variable {G:Prop} {A B C D E F H I:Type}
theorem iE2 {k:A→B→Prop} (a:A) (b:B) (p:k a b):∃ a b,k a b:=⟨a,b,p⟩
theorem iE3 {k:A→B→C→Prop} (a:A) (b:B) (c:C) (p:k a b c):∃ a b c,k a b c:=⟨a,b,c,p⟩
theorem iE4 {k:A→B→C→D→Prop} (a:A) (b:B) (c:C) (d:D) (p:k a b c d):∃ a b c d,k a b c d:=⟨a,b,c,d,p⟩
theorem iE5 {k:A→B→C→D→E→Prop} (a:A) (b:B) (c:C) (d:D) (e:E) (p:k a b c d e):∃ a b c d e,k a b c d e:=⟨a,b,c,d,e,p⟩
theorem iE6 {k:A→B→C→D→E→F→Prop} (a:A) (b:B) (c:C) (d:D) (e:E) (f:F) (p:k a b c d e f):∃ a b c d e f,k a b c d e f:=⟨a,b,c,d,e,f,p⟩
theorem iE7 {k:A→B→C→D→E→F→H→Prop} (a:A) (b:B) (c:C) (d:D) (e:E) (f:F) (g:H) (p:k a b c d e f g):∃ a b c d e f g,k a b c d e f g:=⟨a,b,c,d,e,f,g,p⟩
theorem iE8 {k:A→B→C→D→E→F→H→I→Prop} (a:A) (b:B) (c:C) (d:D) (e:E) (f:F) (g:H) (i:I) (p:k a b c d e f g i):∃ a b c d e f g i,k a b c d e f g i:=⟨a,b,c,d,e,f,g,i,p⟩
theorem oE1 {k:A→Prop} (h:∃ a,k a) (w:∀ a,k a→G):G:=by obtain ⟨a,p⟩:=h; exact w a p
theorem oE2 {k:A→B→Prop} (h:∃ a b,k a b) (w:∀ a b,k a b→G):G:=by obtain ⟨a,b,p⟩:=h; exact w a b p
theorem oE3 {k:A→B→C→Prop} (h:∃ a b c,k a b c) (w:∀ a b c,k a b c→G):G:=by obtain ⟨a,b,c,p⟩:=h; exact w a b c p
theorem oE4 {k:A→B→C→D→Prop} (h:∃ a b c d,k a b c d) (w:∀ a b c d,k a b c d→G):G:=by obtain ⟨a,b,c,d,p⟩:=h; exact w a b c d p
theorem oE5 {k:A→B→C→D→E→Prop} (h:∃ a b c d e,k a b c d e) (w:∀ a b c d e,k a b c d e→G):G:=by obtain ⟨a,b,c,d,e,p⟩:=h; exact w a b c d e p
theorem oE6 {k:A→B→C→D→E→F→Prop} (h:∃ a b c d e f,k a b c d e f) (w:∀ a b c d e f,k a b c d e f→G):G:=by obtain ⟨a,b,c,d,e,f,p⟩:=h; exact w a b c d e f p
theorem oE7 {k:A→B→C→D→E→F→H→Prop} (h:∃ a b c d e f g,k a b c d e f g) (w:∀ a b c d e f g,k a b c d e f g→G):G:=by obtain ⟨a,b,c,d,e,f,g,p⟩:=h; exact w a b c d e f g p
theorem oE8 {k:A→B→C→D→E→F→H→I→Prop} (h:∃ a b c d e f g i,k a b c d e f g i) (w:∀ a b c d e f g i,k a b c d e f g i→G):G:=by obtain ⟨a,b,c,d,e,f,g,i,p⟩:=h; exact w a b c d e f g i p
end
section
variable {G A B C D E F H I J:Prop}
theorem iA3 (a:A) (b:B) (c:C):A∧B∧C:=⟨a,b,c⟩
theorem iA4 (a:A) (b:B) (c:C) (d:D):A∧B∧C∧D:=⟨a,b,c,d⟩
theorem iA5 (a:A) (b:B) (c:C) (d:D) (e:E):A∧B∧C∧D∧E:=⟨a,b,c,d,e⟩
theorem iA6 (a:A) (b:B) (c:C) (d:D) (e:E) (f:F):A∧B∧C∧D∧E∧F:=⟨a,b,c,d,e,f⟩
theorem iA7 (a:A) (b:B) (c:C) (d:D) (e:E) (f:F) (g:H):A∧B∧C∧D∧E∧F∧H:=⟨a,b,c,d,e,f,g⟩
theorem iA8 (a:A) (b:B) (c:C) (d:D) (e:E) (f:F) (g:H) (i:I):A∧B∧C∧D∧E∧F∧H∧I:=⟨a,b,c,d,e,f,g,i⟩
theorem iA9 (a:A) (b:B) (c:C) (d:D) (e:E) (f:F) (g:H) (i:I) (j:J):A∧B∧C∧D∧E∧F∧H∧I∧J:=⟨a,b,c,d,e,f,g,i,j⟩
theorem oA2 (h:A∧B) (k:A→B→G):G:=by obtain ⟨a,b⟩:=h; exact k a b
theorem oA3 (h:A∧B∧C) (k:A→B→C→G):G:=by obtain ⟨a,b,c⟩:=h; exact k a b c
theorem oA4 (h:A∧B∧C∧D) (k:A→B→C→D→G):G:=by obtain ⟨a,b,c,d⟩:=h; exact k a b c d
theorem oA5 (h:A∧B∧C∧D∧E) (k:A→B→C→D→E→G):G:=by obtain ⟨a,b,c,d,e⟩:=h; exact k a b c d e
theorem oA6 (h:A∧B∧C∧D∧E∧F) (k:A→B→C→D→E→F→G):G:=by obtain ⟨a,b,c,d,e,f⟩:=h; exact k a b c d e f
theorem oA7 (h:A∧B∧C∧D∧E∧F∧H) (k:A→B→C→D→E→F→H→G):G:=by obtain ⟨a,b,c,d,e,f,g⟩:=h; exact k a b c d e f g
theorem oA8 (h:A∧B∧C∧D∧E∧F∧H∧I) (k:A→B→C→D→E→F→H→I→G):G:=by obtain ⟨a,b,c,d,e,f,g,i⟩:=h; exact k a b c d e f g i
theorem oA9 (h:A∧B∧C∧D∧E∧F∧H∧I∧J) (k:A→B→C→D→E→F→H→I→J→G):G:=by obtain ⟨a,b,c,d,e,f,g,i,j⟩:=h; exact k a b c d e f g i j
end
end L2
namespace Mine
theorem gcd_pos {a b:Int} (h:¬ (a=0∧b=0)):1≤(Int.gcd a b:Int):=by
 have:0 < Int.gcd a b:=Int.gcd_pos_iff.mpr (by omega)
 omega
end Mine
namespace Mine
structure IsLcm (ns:List Int) (l:Int):Prop where
 pos:0 < l
 dv:∀ n∈ns,n ∣ l
 least:∀ m:Int,(∀ n∈ns,n ∣ m)→l ∣ m
theorem IsLcm.nil:IsLcm [] 1:=⟨by decide,(fun _ h=>nomatch h),fun m _=>Int.one_dvd m⟩
theorem lcm_eq {a b:Int} (ha:0 < a) (hb:0 < b):a / (Int.gcd a b:Int) * b=(Nat.lcm a.natAbs b.natAbs:Int):=by
 have g:(Int.gcd a b:Int) ∣ a:=Int.gcd_dvd_left ..
 obtain ⟨k,hk⟩:=g
 have gp:0 < (Int.gcd a b:Int):=by have:=gcd_pos (a:=a) (b:=b) (by omega); omega
 have e1:a / (Int.gcd a b:Int)=k:=by
  conv=>lhs; rw [hk]
  have hk':=hk
  rw [Int.mul_comm (Int.gcd a b:Int) k]
  have e2:Int.gcd (k * (Int.gcd a b:Int)) b=Int.gcd a b:=by rw [Int.mul_comm,← hk]
  rw [e2]
  exact Int.mul_ediv_cancel _ (by omega)
 have hkn:0 < k:=by
  rcases (by omega:k≤0∨0 < k) with h | h
  ·have:=Int.mul_nonpos_of_nonneg_of_nonpos (Int.le_of_lt gp) h
   omega
  ·exact h
 have hg:Nat.gcd a.natAbs b.natAbs * Nat.lcm a.natAbs b.natAbs=a.natAbs * b.natAbs:=Nat.gcd_mul_lcm ..
 have ea:a.natAbs=Nat.gcd a.natAbs b.natAbs * k.natAbs:=by
  have:=congrArg Int.natAbs hk
  rw [Int.natAbs_mul,Int.natAbs_natCast] at this
  exact this
 have gp':0 < Nat.gcd a.natAbs b.natAbs:=by
  have:(Nat.gcd a.natAbs b.natAbs:Int)=(Int.gcd a b:Int):=rfl
  omega
 have e3:Nat.lcm a.natAbs b.natAbs=k.natAbs * b.natAbs:=by
  apply Nat.eq_of_mul_eq_mul_left gp'
  rw [hg,← Nat.mul_assoc,← ea]
 rw [e1,e3]
 rw [Int.natCast_mul]
 have h1:k=(k.natAbs:Int):=by omega
 have h2:b=(b.natAbs:Int):=by omega
 rw [← h1,← h2]
theorem xo {a b:Int} (h:a ∣ b):a.natAbs ∣ b.natAbs:=Int.natAbs_dvd_natAbs.mpr h
theorem IsLcm.step {ns:List Int} {l p:Int} (x:IsLcm ns l) (hp:0 < p):IsLcm (ns ++ [p]) (l / (Int.gcd l p:Int) * p):=by
 rw [lcm_eq x.pos hp]
 have lp:0 < l.natAbs:=by have:=x.pos; omega
 have pp:0 < p.natAbs:=by omega
 refine ⟨?_,fun n hn=>?_,fun m hm=>?_⟩
 ·have:=Nat.lcm_pos lp pp
  omega
 ·rcases List.mem_append.mp hn with h | h
  ·have h1:=x.dv n h
   refine Int.dvd_trans h1 ?_
   rw [← Int.natAbs_dvd_natAbs,Int.natAbs_natCast]
   exact Nat.dvd_lcm_left ..
  ·rw [List.mem_singleton.mp h,← Int.natAbs_dvd_natAbs,Int.natAbs_natCast]
   exact Nat.dvd_lcm_right ..
 ·have h1:=x.least m fun n hn=>hm n (List.mem_append_left _ hn)
  have h2:=hm p (List.mem_append_right _ (List.mem_singleton.mpr rfl))
  rw [← Int.natAbs_dvd_natAbs,Int.natAbs_natCast]
  exact Nat.lcm_dvd (xo h1) (xo h2)
end Mine
namespace L2
open PySem PySem.Spec PyProof.Rows
section
variable {X:Cx} {K:PySem.W.Frag} {σ:St} {H:Hp} {Q:VK} {D:Ends}
theorem rd_I {C:Int→Int→Prop} {g:Int→Int→V} {i j:Int}:rI C g (.int i) (.int j) H Q ↔ C i j∧Q (g i j) H :=
 ⟨fun ⟨_,_,e1,e2,h⟩=>by cases e1; cases e2; exact h,fun h=>⟨i,j,rfl,rfl,h⟩⟩
theorem rd_I0 {g:Int→Int→V} {i j:Int}:rI0 g (.int i) (.int j) H Q ↔ Q (g i j) H :=
 ⟨fun ⟨_,_,e1,e2,h⟩=>by cases e1; cases e2; exact h,fun h=>⟨i,j,rfl,rfl,h⟩⟩
theorem rd_ipI {f:Int→Int→Int} {i j:Int}:ipI f (.int i) (.int j) H Q ↔ Q (.int (f i j)) H:=⟨fun ⟨_,_,e1,e2,h⟩=>by cases e1; cases e2; exact h,fun h=>⟨i,j,rfl,rfl,h⟩⟩
theorem rd_U {g:Int→V} {i:Int}:rU g (.int i) H Q ↔ Q (g i) H:=⟨fun ⟨_,e,h⟩=>by cases e; exact h,fun h=>⟨i,rfl,h⟩⟩
theorem rd_addI {i j:Int}:Q3 K (.int i) (.int j) H Q ↔ Q (.int (i + j)) H:=by
 constructor
 ·rintro (h | ⟨_,_,e,_⟩ | ⟨_,_,_,_,e,_⟩)
  ·exact rd_I0.mp h
  ·cases e
  ·cases e
 ·intro h; exact .inl (rd_I0.mpr h)
theorem rd_addS {i j:Str}:Q3 K (.str i) (.str j) H Q ↔ i.length + j.length≤sizeLine∧Q (.str (i ++ j)) H:=by
 constructor
 ·rintro (⟨_,_,e,_⟩ | ⟨_,_,e1,e2,h⟩ | ⟨_,_,_,_,e,_⟩)
  ·cases e
  ·cases e1; cases e2; exact h
  ·cases e
 ·intro h; exact .inr (.inl ⟨i,j,rfl,rfl,h⟩)
theorem rd_var {i:Nat}:tVar i σ H Q ↔ ∃ v,σ[i]?=some (some v)∧Q v H:=Iff.rfl
theorem rd_varS {v:V} {P:V→Prop}:(∃ u,some (some v)=some (some u)∧P u) ↔ P v:=⟨fun ⟨_,e,h⟩=>by cases e; exact h,fun h=>⟨v,rfl,h⟩⟩
theorem rd_test {b:Bool} {P:Bool→Prop}:(∃ k,V.bl b=V.bl k∧P k) ↔ P b:=⟨fun ⟨_,e,h⟩=>by cases e; exact h,fun h=>⟨b,rfl,h⟩⟩
theorem rd_truB {b:Bool} {P:Bool→Prop}:(∃ k,TruV K (.bl b) H k∧P k) ↔ P b:=⟨fun ⟨_,e,h⟩=>by cases (show _=b from e); exact h,fun h=>⟨b,rfl,h⟩⟩
theorem rd_eqI {i j:Int}:rEqG K (.int i) (.int j) H Q ↔ Q (.bl (decide (i=j))) H:=by
 have e:decide (V.int i=V.int j)=decide (i=j):=by simp
 unfold rEqG rEq
 rw [e]
 exact ⟨fun h=>h.elim (fun h=>h.2) (fun h=>h.elim (fun ⟨_,_,_,_,z,_⟩=>nomatch z) (fun ⟨_,_,_,_,_,_,z,_⟩=>nomatch z)),fun h=>.inl ⟨rfl,h⟩⟩
theorem rd_neI {i j:Int}:rNeG K (.int i) (.int j) H Q ↔ Q (.bl (!decide (i=j))) H:=by
 have e:decide (V.int i=V.int j)=decide (i=j):=by simp
 unfold rNeG rNe
 rw [e]
 exact ⟨fun h=>h.elim (fun h=>h.2) (fun h=>h.elim (fun ⟨_,_,_,_,z,_⟩=>nomatch z) (fun ⟨_,_,_,_,_,_,z,_⟩=>nomatch z)),fun h=>.inl ⟨rfl,h⟩⟩
theorem rd_eqS {i j:Str}:rEqG K (.str i) (.str j) H Q ↔ Q (.bl (decide (i=j))) H:=by
 have e:decide (V.str i=V.str j)=decide (i=j):=by simp
 unfold rEqG rEq
 rw [e]
 exact ⟨fun h=>h.elim (fun h=>h.2) (fun h=>h.elim (fun ⟨_,_,_,_,z,_⟩=>nomatch z) (fun ⟨_,_,_,_,_,_,z,_⟩=>nomatch z)),fun h=>.inl ⟨rfl,h⟩⟩
theorem rd_eqB {i j:Bool}:rEqG K (.bl i) (.bl j) H Q ↔ Q (.bl (decide (i=j))) H:=by
 have e:decide (V.bl i=V.bl j)=decide (i=j):=by simp
 unfold rEqG rEq
 rw [e]
 exact ⟨fun h=>h.elim (fun h=>h.2) (fun h=>h.elim (fun ⟨_,_,_,_,z,_⟩=>nomatch z) (fun ⟨_,_,_,_,_,_,z,_⟩=>nomatch z)),fun h=>.inl ⟨rfl,h⟩⟩
theorem rd_fvI {i:Int} {P:Str→Prop} {R:Str→Prop}:((∃ j,V.int i=V.int j∧j.natAbs.log2 < 1920∧P (toString j))∨(∃ y,V.int i=V.str y∧y.length≤sizeLine∧R y)) ↔ i.natAbs.log2 < 1920∧P (toString i) :=
 ⟨fun h=>h.elim (fun ⟨_,e,h⟩=>by cases e; exact h) (fun ⟨_,e,_⟩=>nomatch e),fun h=>.inl ⟨i,rfl,h⟩⟩
theorem rd_strS {y:Str} {P:Str→Prop}:(∃ z,V.str y=V.str z∧P z) ↔ P y:=⟨fun ⟨_,e,h⟩=>by cases e; exact h,fun h=>⟨y,rfl,h⟩⟩
theorem rd_neT {a b:Addr} {xs:List V} (h1:SqT K H a xs) (h2:SqT K H b xs) (hf:xs.all ju=true) (hs:qT xs xs=true) (q:Q (.bl false) H):rNeG K (.ref a) (.ref b) H Q :=
 .inr (.inl ⟨a,b,xs,xs,rfl,rfl,.inr ⟨h1,h2⟩,hf,hf,by rw [hs]; exact q⟩)
theorem rd_c0:((0:Nat):Int)=0:=rfl
theorem rd_c1:((1:Nat):Int)=1:=rfl
theorem rd_c2:((2:Nat):Int)=2:=rfl
theorem rd_c3:((3:Nat):Int)=3:=rfl
theorem rd_c4:((4:Nat):Int)=4:=rfl
theorem rd_c5:((5:Nat):Int)=5:=rfl
theorem rd_c6:((6:Nat):Int)=6:=rfl
theorem rd_sz0:(0≤sizeLine)=True:=eq_true (by decide)
theorem rd_sz1:(1≤sizeLine)=True:=eq_true (by decide)
theorem rd_sz2:(2≤sizeLine)=True:=eq_true (by decide)
theorem rd_sz3:(3≤sizeLine)=True:=eq_true (by decide)
theorem rd_sz4:(4≤sizeLine)=True:=eq_true (by decide)
theorem rd_sz5:(5≤sizeLine)=True:=eq_true (by decide)
theorem rd_sz6:(6≤sizeLine)=True:=eq_true (by decide)
theorem rd_sz7:(7≤sizeLine)=True:=eq_true (by decide)
theorem j7 {p:Addr} {xs:List V} {k:Int} {j:Nat} {v:V} {R:Hp→Prop} (h:H p=some (.lst xs)) (e:ixN xs.length k=some j) (q:R (upd H p (.lst (xs.set j v)))):J7 (.ref p) (.int k) v H R:=⟨p,xs,k,j,rfl,rfl,h,e,q⟩
theorem vy {n:Nat} {k:Int} (h0:0≤k) (h1:k < n):ixN n k=some k.toNat:=by unfold ixN; rw [if_pos h0,if_pos h1]
theorem rd_sz8:(8≤sizeLine)=True:=eq_true (by decide)
theorem rd_sz9:(9≤sizeLine)=True:=eq_true (by decide)
theorem cx_K {CX:CXT} {P:Program} {w:World} {K:PySem.W.Frag} {mg:Str→Option Value} {base:Heap} {N:List Str} {qual:Str} {scope:Scope} {f:Addr} {cd:Value} {A:Around} {outer:List Env} {s:Shared} {H:Hp} {E:XK}:(cxOf CX P w K mg base N qual scope f cd A outer s H E).K=K:=rfl
theorem cx_mg {CX:CXT} {P:Program} {w:World} {K:PySem.W.Frag} {mg:Str→Option Value} {base:Heap} {N:List Str} {qual:Str} {scope:Scope} {f:Addr} {cd:Value} {A:Around} {outer:List Env} {s:Shared} {H:Hp} {E:XK}:(cxOf CX P w K mg base N qual scope f cd A outer s H E).mg=mg:=rfl
theorem cx_prog {CX:CXT} {P:Program} {w:World} {K:PySem.W.Frag} {mg:Str→Option Value} {base:Heap} {N:List Str} {qual:Str} {scope:Scope} {f:Addr} {cd:Value} {A:Around} {outer:List Env} {s:Shared} {H:Hp} {E:XK}:(cxOf CX P w K mg base N qual scope f cd A outer s H E).prog=P:=rfl
theorem cx_w {CX:CXT} {P:Program} {w:World} {K:PySem.W.Frag} {mg:Str→Option Value} {base:Heap} {N:List Str} {qual:Str} {scope:Scope} {f:Addr} {cd:Value} {A:Around} {outer:List Env} {s:Shared} {H:Hp} {E:XK}:(cxOf CX P w K mg base N qual scope f cd A outer s H E).w=w:=rfl
theorem cx_base {CX:CXT} {P:Program} {w:World} {K:PySem.W.Frag} {mg:Str→Option Value} {base:Heap} {N:List Str} {qual:Str} {scope:Scope} {f:Addr} {cd:Value} {A:Around} {outer:List Env} {s:Shared} {H:Hp} {E:XK}:(cxOf CX P w K mg base N qual scope f cd A outer s H E).base=base:=rfl
theorem rd_cpow {n:Int}:CPow 10 n ↔ 0≤n∧n≤1000000:=⟨fun h=>⟨h.1,h.2.1⟩,fun h=>⟨h.1,h.2,by decide⟩⟩
theorem rd_isiI {i:Int}:rIsi K [.int i,.ty "int"] H Q ↔ Q (.bl true) H:=by
 refine ⟨fun h=>?_,fun q=>⟨_,_,_,_,rfl,.old (.int i),.inl ⟨_,rfl,wH⟩,q⟩⟩
 obtain ⟨x,c,t,b,e,ty,k,q⟩:=h
 cases e
 rcases k with ⟨u,hu,k⟩ | ⟨_,_,_,e,_⟩
 ·cases hu; cases ty with | old ty=>cases ty; rw [wH] at k; cases k; exact q
 ·cases e
theorem rd_isiIB {i:Int}:rIsi K [.int i,.ty "bool"] H Q ↔ Q (.bl false) H:=by
 refine ⟨fun h=>?_,fun q=>⟨_,_,_,_,rfl,.old (.int i),.inl ⟨_,rfl,xX⟩,q⟩⟩
 obtain ⟨x,c,t,b,e,ty,k,q⟩:=h
 cases e
 rcases k with ⟨u,hu,k⟩ | ⟨_,_,_,e,_⟩
 ·cases hu; cases ty with | old ty=>cases ty; rw [xX] at k; cases k; exact q
 ·cases e
theorem rd_isiB {i:Bool}:rIsi K [.bl i,.ty "bool"] H Q ↔ Q (.bl true) H:=by
 refine ⟨fun h=>?_,fun q=>⟨_,_,_,_,rfl,.old (.bl i),.inl ⟨_,rfl,xp⟩,q⟩⟩
 obtain ⟨x,c,t,b,e,ty,k,q⟩:=h
 cases e
 rcases k with ⟨u,hu,k⟩ | ⟨_,_,_,e,_⟩
 ·cases hu; cases ty with | old ty=>cases ty; rw [xp] at k; cases k; exact q
 ·cases e
theorem rd_isiS {i:Str}:rIsi K [.str i,.ty "str"] H Q ↔ Q (.bl true) H:=by
 refine ⟨fun h=>?_,fun q=>⟨_,_,_,_,rfl,.old (.str i),.inl ⟨_,rfl,wG⟩,q⟩⟩
 obtain ⟨x,c,t,b,e,ty,k,q⟩:=h
 cases e
 rcases k with ⟨u,hu,k⟩ | ⟨_,_,_,e,_⟩
 ·cases hu; cases ty with | old ty=>cases ty; rw [wG] at k; cases k; exact q
 ·cases e
theorem Jc {a:Addr} {xs:List V} (h:H a=some (.tup xs)) (q:Q (.bl true) H):rIsi K [.ref a,.ty "tuple"] H Q:=⟨_,_,_,_,rfl,.old (.tup h),.inl ⟨_,rfl,kit_tup_tup⟩,q⟩
theorem Q2 {a b:Addr} {xs ys:List V} (h1:SqL K H a xs) (h2:SqL K H b ys) (hl:xs.length + ys.length≤sizeLine) (q:∀ p,H p=none→Q (.ref p) (upd H p (.lst (xs ++ ys)))):Q3 K (.ref a) (.ref b) H Q :=
 .inr (.inr ⟨a,b,xs,ys,rfl,rfl,h1,h2,hl,q⟩)
theorem xL {n:Nat} (h:n≤1000):n≤sizeLine:=Nat.le_of_lt (zm h)
theorem qP {a:Addr} {xs:List V} {DN:St→Hp→Prop} {B:(St→Hp→Prop)→V→St→Hp→Prop} (Pv:Nat→St→Hp→Prop) (h0:Pv 0 σ H) (hl:∀ i σ H,i≤xs.length→Pv i σ H→SqL K H a xs)
  (hs:∀ i x σ H,xs[i]?=some x→Pv i σ H→B (Pv (i + 1)) x σ H) (hd:∀ σ H,Pv xs.length σ H→DN σ H) :
  ∃ W:Nat→Nat→St→Hp→Prop,(∃ m,W 0 m σ H)∧∀ i m σ H,W i m σ H →
   ((Itl K a).stop i H∧DN σ H)∨((Itl K a).go i H∧∃ N:St→Hp→Prop,(∀ σ' H',N σ' H'→∃ m',m' < m∧W (i + 1) m' σ' H')∧∀ x H',(Itl K a).yld i H x H'→B N x σ H'):=by
 refine ⟨fun i m σ H=>m=xs.length - i∧i≤xs.length∧Pv i σ H,⟨xs.length,by simp,Nat.zero_le _,h0⟩,?_⟩
 rintro i m σ H ⟨rfl,hi,p⟩
 have q:=hl i σ H hi p
 by_cases hlt:i < xs.length
 ·refine .inr ⟨⟨xs,xs[i],q,by simp [hlt]⟩,Pv (i + 1),fun σ' H' p'=>⟨xs.length - (i + 1),by omega,rfl,hlt,p'⟩,fun x H' y=>?_⟩
  obtain ⟨e,y⟩:=y
  subst e
  exact hs i x σ _ (y xs q) p
 ·have e:i=xs.length:=by omega
  subst e
  exact .inl ⟨⟨xs,q,Nat.le_refl _⟩,hd σ H p⟩
theorem for_T {a:Addr} {xs:List V} {DN:St→Hp→Prop} {B:(St→Hp→Prop)→V→St→Hp→Prop} (Pv:Nat→St→Hp→Prop) (h0:Pv 0 σ H) (hl:∀ i σ H,i≤xs.length→Pv i σ H→SqT K H a xs)
  (hs:∀ i x σ H,xs[i]?=some x→Pv i σ H→B (Pv (i + 1)) x σ H) (hd:∀ σ H,Pv xs.length σ H→DN σ H) :
  ∃ W:Nat→Nat→St→Hp→Prop,(∃ m,W 0 m σ H)∧∀ i m σ H,W i m σ H →
   ((Itt K a).stop i H∧DN σ H)∨((Itt K a).go i H∧∃ N:St→Hp→Prop,(∀ σ' H',N σ' H'→∃ m',m' < m∧W (i + 1) m' σ' H')∧∀ x H',(Itt K a).yld i H x H'→B N x σ H'):=by
 refine ⟨fun i m σ H=>m=xs.length - i∧i≤xs.length∧Pv i σ H,⟨xs.length,by simp,Nat.zero_le _,h0⟩,?_⟩
 rintro i m σ H ⟨rfl,hi,p⟩
 have q:=hl i σ H hi p
 by_cases hlt:i < xs.length
 ·refine .inr ⟨⟨xs,xs[i],q,by simp [hlt]⟩,Pv (i + 1),fun σ' H' p'=>⟨xs.length - (i + 1),by omega,rfl,hlt,p'⟩,fun x H' y=>?_⟩
  obtain ⟨e,y⟩:=y
  subst e
  exact hs i x σ _ (y xs q) p
 ·have e:i=xs.length:=by omega
  subst e
  exact .inl ⟨⟨xs,q,Nat.le_refl _⟩,hd σ H p⟩
theorem wK {lo:Int} {n:Nat} {DN:St→Hp→Prop} {B:(St→Hp→Prop)→V→St→Hp→Prop} (Pv:Nat→St→Hp→Prop) (h0:Pv 0 σ H)
  (hs:∀ i σ H,i < n→Pv i σ H→B (Pv (i + 1)) (.int (lo + i)) σ H) (hd:∀ σ H,Pv n σ H→DN σ H) :
  ∃ W:Nat→Nat→St→Hp→Prop,(∃ m,W 0 m σ H)∧∀ i m σ H,W i m σ H →
   ((Itr lo n).stop i H∧DN σ H)∨((Itr lo n).go i H∧∃ N:St→Hp→Prop,(∀ σ' H',N σ' H'→∃ m',m' < m∧W (i + 1) m' σ' H')∧∀ x H',(Itr lo n).yld i H x H'→B N x σ H'):=by
 refine ⟨fun i m σ H=>m=n - i∧i≤n∧Pv i σ H,⟨n,by simp,Nat.zero_le _,h0⟩,?_⟩
 rintro i m σ H ⟨rfl,hi,p⟩
 by_cases hlt:i < n
 ·refine .inr ⟨hlt,Pv (i + 1),fun σ' H' p'=>⟨n - (i + 1),by omega,rfl,hlt,p'⟩,fun x H' y=>?_⟩
  obtain ⟨e,y⟩:=y
  subst e y
  exact hs i σ _ hlt p
 ·have e:i=n:=by omega
  subst e
  exact .inl ⟨Nat.le_refl _,hd σ H p⟩
theorem rd_l1 {i:Int} {P:Int→Prop}:(∃ j,[V.int i]=[V.int j]∧P j) ↔ P i:=⟨fun ⟨_,e,h⟩=>by cases e; exact h,fun h=>⟨i,rfl,h⟩⟩
theorem rd_part {i:Int} {P:Int→Prop}:(∃ j,V.int i=V.int j∧P j) ↔ P i:=⟨fun ⟨_,e,h⟩=>by cases e; exact h,fun h=>⟨i,rfl,h⟩⟩
theorem wq {a:Addr} {xs:List V} {lo hi:Option Int} (h:SqL K H a xs) (q:∀ p,H p=none→Q (.ref p) (upd H p (.lst (cutV xs lo hi)))):rSlL K (.ref a) lo hi H Q:=⟨a,xs,rfl,h,q⟩
theorem rd_len {v:V} {P:V→Nat→Prop}:(∃ x n,[v]=[x]∧P x n) ↔ ∃ n,P v n:=⟨fun ⟨_,n,e,h⟩=>by cases e; exact ⟨n,h⟩,fun ⟨n,h⟩=>⟨v,n,rfl,h⟩⟩
theorem upd_keep {a b:Addr} {o u:HO} (h:H b=some u) (ha:H a=none):upd H a o b=some u:=by rw [upd_ne (ne_of_none h ha)]; exact h
theorem ze {a:Addr} {o:HO} (ha:H a=none):Same H (upd H a o):=fun _ _ h=>upd_keep h ha
theorem rd_ixT {a:Addr} {xs:List V} {i:Int} {v:V} (h:H a=some (.tup xs)) (e:atI xs i=some v) (q:Q v H):rIx K (.ref a) (.int i) H Q:=.inr (.inl ⟨a,xs,i,v,rfl,rfl,SqT.of h,e,q⟩)
theorem zq {a:Addr} {xs:List V} {i:Int} {v:V} (h:SqL K H a xs) (e:atI xs i=some v) (q:Q v H):rIx K (.ref a) (.int i) H Q:=.inl ⟨a,xs,i,v,rfl,rfl,h,e,q⟩
end
end L2
set_option hygiene false
local macro_rules | `(tactic| walk_at "rd")=>`(tactic| (simp only [L2.start,L2.tDNewK,L2.tDNewT,L2.sDPut,L2.tDIn,L2.tDNotIn,L2.tDGet,L2.tB,List.map_cons,List.map_nil,List.length_cons,List.length_nil,List.cons_append,List.nil_append,L2.tSeq,L2.tAsg,L2.gName,L2.tC,L2.tOp,L2.tUn,L2.tTest,L2.tIfS,L2.tRet,L2.tRetN,L2.tNext,L2.tDrop,L2.tNot,L2.tAnd,L2.tOr,L2.tAndV,L2.tOrV,L2.tNotV,L2.tCons,L2.tNil,L2.tTup,L2.tLst,L2.tBi,L2.tBl,
 L2.rd_var,L2.rd_varS,L2.rd_I,L2.rd_I0,L2.rd_U,L2.tAug,L2.rd_ipI,L2.rd_addI,L2.rd_addS,L2.rd_test,L2.rd_truB,L2.rd_eqI,L2.rd_neI,L2.rd_eqS,L2.rd_eqB,L2.tFv,L2.tJ0,L2.tJ1,L2.rd_fvI,L2.rd_strS,L2.rd_sz0,L2.rd_sz1,L2.rd_sz2,L2.rd_sz3,L2.rd_sz4,L2.rd_sz5,L2.rd_sz6,L2.rd_sz7,L2.gSub,L2.tCont,L2.tBreak,L2.rd_sz8,L2.rd_sz9,L2.cx_K,L2.cx_mg,L2.cx_prog,L2.cx_w,L2.cx_base,L2.gTup,L2.gCons,L2.gNil,L2.tCl,L2.tGl,L2.tChain,L2.tRaise,L2.tTryAs,L2.tTry2,L2.tNever,L2.sFld,L2.tFld,L2.tMk,L2.tMth,L2.tBM,L2.tBM0,L2.tSl,L2.tNoPart,L2.tPart,L2.rd_part,L2.tSumK,L2.rd_l1,L2.rd_len,L2.tClN,L2.tMkN,L2.tMthN,L2.tBase,L2.tYes,L2.tRg1,L2.tRg2,L2.tIf,L2.cxC_K,L2.cxC_mg,L2.cxC_prog,L2.cxC_w,L2.cxC_base,eq_self,reduceCtorEq,decide_false,Option.getD_some,Option.getD_none,
 List.getElem?_cons_zero,List.getElem?_cons_succ,List.set_cons_zero,List.set_cons_succ,List.replicate,Nat.reduceSub,Nat.reduceAdd,true_and,and_true,List.append_nil,L2.rd_cpow,Int.reduceToNat,Int.reducePow,Int.reduceLT,Int.reduceLE,Int.reduceNeg,L2.fdiv_pos,L2.rd_isiI,L2.rd_isiIB,L2.rd_isiB,L2.rd_isiS,Bool.not_true,Bool.not_false,Bool.false_eq_true,reduceIte,decide_true,decide_eq_true_eq,Bool.true_eq_false,Bool.not_eq_true',decide_eq_false_iff_not,L2.rd_c0,L2.rd_c1,L2.rd_c2,L2.rd_c3,L2.rd_c4,L2.rd_c5,L2.rd_c6,Int.reduceEq,not_true_eq_false,not_false_eq_true,Int.reduceMul,Int.reduceAdd,Int.reduceSub]))
local macro_rules | `(tactic| walk_at "r")=>`(tactic| try walk_at "rd")
local macro_rules | `(tactic| walk_at "ixT")=>`(tactic| (refine L2.rd_ixT (by assumption) rfl ?_; try walk_at "rd"))
local macro_rules | `(tactic| walk_at "sd")=>`(tactic| first | assumption | exact L2.mul_okR (by decide) (by decide) | exact L2.mul_okL (by decide) (by decide) | exact L2.mul_okR (by omega) (by omega) | exact L2.mul_okL (by omega) (by omega) | exact L2.fd_ok (by decide) (by decide +kernel) | decide | omega | exact L2.fd_small (by omega) (by omega))
local macro_rules | `(tactic| walk_at "sds")=>`(tactic| repeat (refine And.intro (by walk_at "sd") ?_))
local macro_rules | `(tactic| walk_at "for")=>`(tactic| (walk_at "go"; (try simp only [L2.tFor,L2.iSeq,L2.iRng1,L2.iRng2,L2.iRng3,L2.iStr,L2.iEnum,L2.iZip,L2.iZip3,L2.iRev,L2.iDT]); try walk_at "rd"))
local macro_rules | `(tactic| walk_at "lc")=>`(tactic| (walk_at "go"; (try simp only [L2.tLc,L2.iSeq,L2.stC,L2.iRng1,L2.iRng2,L2.iRng3,L2.iStr,L2.iEnum,L2.iZip,L2.iZip3,L2.iRev,L2.iDT]); try walk_at "rd"))
local macro_rules | `(tactic| walk_at "go")=>`(tactic| repeat (first | walk_at "rd" | refine And.intro (by assumption) ?_ | refine L2.nxt fun Nq_ hNq_=>?_ | refine L2.useN (by assumption) ?_))
local macro_rules | `(tactic| walk_at "ne")=>`(tactic| first | assumption | exact Ne.symm (by assumption) | exact L2.ne_of_none (by assumption) (by assumption) | exact Ne.symm (L2.ne_of_none (by assumption) (by assumption)))
local macro_rules | `(tactic| walk_at "hp")=>`(tactic| first | assumption | exact L2.upd_same | (refine L2.upd_keep ?_ (by assumption); walk_at "hp") | (rw [L2.upd_ne (by walk_at "ne")]; walk_at "hp"))
set_option hygiene false
local macro_rules | `(tactic| walk_at "i")=>`(tactic| (intro vs H Q E h; repeat (first | (obtain ⟨rfl,_⟩:=h; rfl) | obtain ⟨_,h⟩:=h)))
local macro_rules | `(tactic| walk_at "j")=>`(tactic| intro cdv A outer s H vs Q EX hr h)
local macro_rules | `(tactic| walk_at "k")=>`(tactic| intro cdv A outer s H vs Q E hr h)
seal L2.PE L2.PT L2.PA L2.PS L2.PSs L2.PC L2.PG L2.PGs L2.PI L2.PO L2.PK
namespace K28
open PySem L2 Mine
def top (i:Nat):Stmt:=PySem.Challenge.pw_beltshares_k28_where_wares_come_from.main.body.getD i (.Pass ⟨0,0,0,0⟩)
local macro_rules | `(tactic| walk_at "sc")=>`(tactic| exact ⟨rfl,rfl,rfl,by decide +kernel,rfl,by decide +kernel,by decide +kernel⟩)
abbrev s__wall:Stmt:=top 0
abbrev s_State_init:Stmt:=zI (top 2) 0
theorem sc_State_init:FnScope ["self","turn","cells","sides","gone"] ["self","turn","cells","sides","gone"] (zf s_State_init):=by walk_at "sc"
abbrev s_kind_of:Stmt:=top 3
theorem sc_kind_of:FnScope ["work","ware","kinds"] ["work","ware"] (zf s_kind_of):=by walk_at "sc"
abbrev s_no_counts:Stmt:=top 4
theorem sc_no_counts:FnScope ["knot"] ["knot"] (zf s_no_counts):=by walk_at "sc"
abbrev s_empty_state:Stmt:=top 5
theorem sc_empty_state:FnScope ["work","cells","sides"] ["work"] (zf s_empty_state):=by walk_at "sc"
abbrev s_copied_state:Stmt:=top 6
theorem sc_copied_state:FnScope ["state"] ["state"] (zf s_copied_state):=by walk_at "sc"
abbrev s_Belt_init:Stmt:=zI (top 15) 0
theorem sc_Belt_init:FnScope ["self","room","pace"] ["self","room","pace"] (zf s_Belt_init):=by walk_at "sc"
abbrev s_check_pace:Stmt:=top 20
theorem sc_check_pace:FnScope ["pace","least"] ["pace","least"] (zf s_check_pace):=by walk_at "sc"
abbrev s_check_kind:Stmt:=top 21
theorem sc_check_kind:FnScope ["kind"] ["kind"] (zf s_check_kind):=by walk_at "sc"
abbrev s_check_ways:Stmt:=top 22
theorem sc_check_ways:FnScope ["belts"] ["belts"] (zf s_check_ways):=by walk_at "sc"
abbrev s_first_place:Stmt:=top 23
theorem sc_first_place:FnScope ["wanted","side","step","place"] ["wanted","side"] (zf s_first_place):=by walk_at "sc"
abbrev s_place_for_ware:Stmt:=top 24
theorem sc_place_for_ware:FnScope ["head","free","side"] ["head","free","side"] (zf s_place_for_ware):=by walk_at "sc"
abbrev s_Knot_init:Stmt:=zI (top 25) 0
theorem sc_Knot_init:FnScope ["self","ins","outs"] ["self","ins","outs"] (zf s_Knot_init):=by walk_at "sc"
abbrev s_Knot_choice:Stmt:=zI (top 25) 1
abbrev s_Knot_copied:Stmt:=zI (top 25) 2
abbrev s_Source_init:Stmt:=zI (top 26) 0
theorem sc_Source_init:FnScope ["self","out","pace","kinds","kind"] ["self","out","pace","kinds"] (zf s_Source_init):=by walk_at "sc"
abbrev s_Source_choice:Stmt:=zI (top 26) 1
theorem sc_Source_choice:FnScope ["self","heads","free","turn","side"] ["self","heads","free","turn","side"] (zf s_Source_choice):=by walk_at "sc"
abbrev s_Source_copied:Stmt:=zI (top 26) 2
theorem sc_Source_copied:FnScope ["self"] ["self"] (zf s_Source_copied):=by walk_at "sc"
abbrev s_Drain_init:Stmt:=zI (top 27) 0
theorem sc_Drain_init:FnScope ["self","into","pace"] ["self","into","pace"] (zf s_Drain_init):=by walk_at "sc"
abbrev s_Drain_choice:Stmt:=zI (top 27) 1
theorem sc_Drain_choice:FnScope ["self","heads","free","turn","side"] ["self","heads","free","turn","side"] (zf s_Drain_choice):=by walk_at "sc"
abbrev s_Drain_copied:Stmt:=zI (top 27) 2
theorem sc_Drain_copied:FnScope ["self"] ["self"] (zf s_Drain_copied):=by walk_at "sc"
abbrev s_Parter_init:Stmt:=zI (top 28) 0
theorem sc_Parter_init:FnScope ["self","into","outs"] ["self","into","outs"] (zf s_Parter_init):=by walk_at "sc"
abbrev s_Parter_choice:Stmt:=zI (top 28) 1
theorem sc_Parter_choice:FnScope ["self","heads","free","turn","side","place"] ["self","heads","free","turn","side"] (zf s_Parter_choice):=by walk_at "sc"
abbrev s_Parter_copied:Stmt:=zI (top 28) 2
theorem sc_Parter_copied:FnScope ["self"] ["self"] (zf s_Parter_copied):=by walk_at "sc"
abbrev s_FirstParter_init:Stmt:=zI (top 29) 0
theorem sc_FirstParter_init:FnScope ["self","into","outs"] ["self","into","outs"] (zf s_FirstParter_init):=by walk_at "sc"
abbrev s_FirstParter_choice:Stmt:=zI (top 29) 1
theorem sc_FirstParter_choice:FnScope ["self","heads","free","turn","side","place"] ["self","heads","free","turn","side"] (zf s_FirstParter_choice):=by walk_at "sc"
abbrev s_FirstParter_copied:Stmt:=zI (top 29) 2
theorem sc_FirstParter_copied:FnScope ["self"] ["self"] (zf s_FirstParter_copied):=by walk_at "sc"
abbrev s_Sieve_init:Stmt:=zI (top 30) 0
theorem sc_Sieve_init:FnScope ["self","into","outs","kind"] ["self","into","outs","kind"] (zf s_Sieve_init):=by walk_at "sc"
abbrev s_Sieve_choice:Stmt:=zI (top 30) 1
theorem sc_Sieve_choice:FnScope ["self","heads","free","turn","side","place"] ["self","heads","free","turn","side"] (zf s_Sieve_choice):=by walk_at "sc"
abbrev s_Sieve_place_for:Stmt:=zI (top 30) 2
theorem sc_Sieve_place_for:FnScope ["self","kind"] ["self","kind"] (zf s_Sieve_place_for):=by walk_at "sc"
abbrev s_Sieve_copied:Stmt:=zI (top 30) 3
theorem sc_Sieve_copied:FnScope ["self"] ["self"] (zf s_Sieve_copied):=by walk_at "sc"
abbrev s_Joiner_init:Stmt:=zI (top 31) 0
theorem sc_Joiner_init:FnScope ["self","ins","out"] ["self","ins","out"] (zf s_Joiner_init):=by walk_at "sc"
abbrev s_Joiner_choice:Stmt:=zI (top 31) 1
theorem sc_Joiner_choice:FnScope ["self","heads","free","turn","side","place"] ["self","heads","free","turn","side"] (zf s_Joiner_choice):=by walk_at "sc"
abbrev s_Joiner_copied:Stmt:=zI (top 31) 2
theorem sc_Joiner_copied:FnScope ["self"] ["self"] (zf s_Joiner_copied):=by walk_at "sc"
abbrev s_heads_of:Stmt:=top 33
theorem sc_heads_of:FnScope ["work","state","knot","ends"] ["work","state","knot"] (zf s_heads_of):=by walk_at "sc"
abbrev s_taken_ware:Stmt:=top 34
theorem sc_taken_ware:FnScope ["state","number","from_belt","ware"] ["state","number","from_belt"] (zf s_taken_ware):=by walk_at "sc"
abbrev s_belt_at:Stmt:=top 35
theorem sc_belt_at:FnScope ["belts","place"] ["belts","place"] (zf s_belt_at):=by walk_at "sc"
abbrev s_counted_place:Stmt:=top 36
theorem sc_counted_place:FnScope ["knot","chosen"] ["knot","chosen"] (zf s_counted_place):=by walk_at "sc"
abbrev s_act:Stmt:=top 37
theorem sc_act:FnScope ["work","state","number","knot","free","chosen","from_belt","to_belt","ware"] ["work","state","number"] (zf s_act):=by walk_at "sc"
abbrev s_act_all:Stmt:=top 38
theorem sc_act_all:FnScope ["work","state","moves","number","move"] ["work","state"] (zf s_act_all):=by walk_at "sc"
abbrev s_move_belt:Stmt:=top 39
theorem sc_move_belt:FnScope ["cells","place"] ["cells"] (zf s_move_belt):=by walk_at "sc"
abbrev s_pass_turn:Stmt:=top 40
theorem sc_pass_turn:FnScope ["work","state","moves","number","belt"] ["work","state"] (zf s_pass_turn):=by walk_at "sc"
abbrev s_one_turn:Stmt:=top 41
theorem sc_one_turn:FnScope ["work","state","after"] ["work","state"] (zf s_one_turn):=by walk_at "sc"
abbrev s_played:Stmt:=top 43
theorem sc_played:FnScope ["work","turns","state","turn"] ["work","turns"] (zf s_played):=by walk_at "sc"
abbrev s_cells_by_ware:Stmt:=top 45
theorem sc_cells_by_ware:FnScope ["state","found","belt","cells","place","ware"] ["state"] (zf s_cells_by_ware):=by walk_at "sc"
abbrev s_origin_of:Stmt:=top 46
theorem sc_origin_of:FnScope ["ware","lay","before"] ["ware","lay","before"] (zf s_origin_of):=by walk_at "sc"
abbrev s_origins_of:Stmt:=top 47
theorem sc_origins_of:FnScope ["before","after","lay","origins","cells"] ["before","after"] (zf s_origins_of):=by walk_at "sc"
abbrev s_check_size:Stmt:=top 51
theorem sc_check_size:FnScope ["belts","knots"] ["belts","knots"] (zf s_check_size):=by walk_at "sc"
abbrev s_check_each_once:Stmt:=top 52
theorem sc_check_each_once:FnScope ["named","size"] ["named","size"] (zf s_check_each_once):=by walk_at "sc"
abbrev s_Work_init:Stmt:=zI (top 53) 0
theorem sc_Work_init:FnScope ["self","belts","knots","fed","taken","knot"] ["self","belts","knots"] (zf s_Work_init):=by walk_at "sc"
abbrev s_Work_feeder:Stmt:=zI (top 53) 1
abbrev s_Work_taker:Stmt:=zI (top 53) 2
abbrev s_Work_drains:Stmt:=zI (top 53) 3
abbrev s_Work_sources:Stmt:=zI (top 53) 4
abbrev s_Work_beat:Stmt:=zI (top 53) 5
abbrev s_L_at:Stmt:=top 55
theorem sc_L_at:FnScope ["_law_script","_law_k"] ["_law_script","_law_k"] (zf s_L_at):=by walk_at "sc"
abbrev s_L_spread:Stmt:=top 56
theorem sc_L_spread:FnScope ["_law_cell","_law_factor"] ["_law_cell","_law_factor"] (zf s_L_spread):=by walk_at "sc"
abbrev s_L_whole:Stmt:=top 57
theorem sc_L_whole:FnScope ["_law_found"] ["_law_found"] (zf s_L_whole):=by walk_at "sc"
abbrev s_L_belt:Stmt:=top 58
theorem sc_L_belt:FnScope ["_law_belts","_law_number","_law_span","_law_room"] ["_law_belts","_law_number","_law_span"] (zf s_L_belt):=by walk_at "sc"
abbrev s_L_source:Stmt:=top 59
theorem sc_L_source:FnScope ["_law_out","_law_cell","_law_number","_law_span","_law_many","_law_kinds"] ["_law_out","_law_cell","_law_number","_law_span"] (zf s_L_source):=by walk_at "sc"
abbrev s_L_drain:Stmt:=top 60
theorem sc_L_drain:FnScope ["_law_into","_law_number","_law_span"] ["_law_into","_law_number","_law_span"] (zf s_L_drain):=by walk_at "sc"
abbrev s_L_kind:Stmt:=top 61
theorem sc_L_kind:FnScope ["_law_knots","_law_cell","_law_number","_law_known","_law_knot"] ["_law_knots","_law_cell","_law_number"] (zf s_L_kind):=by walk_at "sc"
abbrev s_L_joined:Stmt:=top 62
theorem sc_L_joined:FnScope ["_law_belts","_law_ends","_law_loops","_law_into","_law_cell","_law_span","_law_number","_law_ins","_law_k"] ["_law_belts","_law_ends","_law_loops","_law_into","_law_cell","_law_span"] (zf s_L_joined):=by walk_at "sc"
abbrev s_L_parted:Stmt:=top 63
theorem sc_L_parted:FnScope ["_law_into","_law_outs","_law_kind_here","_law_what"] ["_law_into","_law_outs","_law_kind_here","_law_what"] (zf s_L_parted):=by walk_at "sc"
abbrev s_L_grow:Stmt:=top 64
theorem sc_L_grow:FnScope ["_law_belts","_law_knots","_law_ends","_law_loops","_law_cell","_law_span","_law_number","_law_what","_law_into","_law_outs","_law_many","_law_k","_law_factor"] ["_law_belts","_law_knots","_law_ends","_law_loops","_law_cell","_law_span"] (zf s_L_grow):=by walk_at "sc"
abbrev s_L_close:Stmt:=top 65
theorem sc_L_close:FnScope ["_law_belts","_law_knots","_law_ends","_law_loops","_law_cell","_law_span","_law_k","_law_loop","_law_number","_law_into","_law_outs","_law_end"] ["_law_belts","_law_knots","_law_ends","_law_loops","_law_cell","_law_span"] (zf s_L_close):=by walk_at "sc"
abbrev s_L_work:Stmt:=top 66
theorem sc_L_work:FnScope ["_law_script","_law_first","_law_number","_law_span","_law_many","_law_ring","_law_counts","_law_kinds","_law_lanes","_law_belts","_law_knots","_law_ends","_law_loops","_law_cell","_law_cut"] ["_law_script"] (zf s_L_work):=by walk_at "sc"
abbrev s_L_origin:Stmt:=top 67
theorem sc_L_origin:FnScope ["_law_origin_here","_law_ware","_law_before","_law_serial","_law_row"] ["_law_origin_here","_law_ware","_law_before"] (zf s_L_origin):=by walk_at "sc"
abbrev s_L_origins:Stmt:=top 68
theorem sc_L_origins:FnScope ["_law_origins_here","_law_before","_law_after","_law_row","_law_cells","_law_origin_here","_law_ware"] ["_law_origins_here","_law_before","_law_after"] (zf s_L_origins):=by walk_at "sc"
abbrev s_law:Stmt:=top 69
theorem sc_law:FnScope ["_law_script","_law_work_here","_law_number","_law_before","_law_after","_law_turn","_law_kept","_law_belt_here","_law_row","_law_place","_law_origin_here"] ["_law_script"] (zf s_law):=by walk_at "sc"
local macro_rules | `(tactic| walk_at "T")=>`(tactic| (have m_list:=T.m_list; have m_len:=T.m_len; have m_max:=T.m_max; have m_range:=T.m_range; have m_isinstance:=T.m_isinstance; have m_enumerate:=T.m_enumerate; have m_sorted:=T.m_sorted; have m_int:=T.m_int; have m_bool:=T.m_bool; have m_reversed:=T.m_reversed; have m_tuple:=T.m_tuple; have m_zip:=T.m_zip))
structure Ad where
 State:Addr
 WorkError:Addr
 BadBelt:Addr
 BadKnot:Addr
 BadWork:Addr
 Belt:Addr
 Knot:Addr
 Source:Addr
 Drain:Addr
 Parter:Addr
 FirstParter:Addr
 Sieve:Addr
 Joiner:Addr
 Work:Addr
structure Txt (K:PySem.W.Frag) (mg:Str→Option Value) (a:Ad):Prop where
 h__wall:FA K mg "_wall" s__wall ["k"]
 h_kind_of:FA K mg "kind_of" s_kind_of ["work","ware"]
 h_no_counts:FA K mg "no_counts" s_no_counts ["knot"]
 h_empty_state:FA K mg "empty_state" s_empty_state ["work"]
 h_copied_state:FA K mg "copied_state" s_copied_state ["state"]
 h_check_pace:FA K mg "check_pace" s_check_pace ["pace","least"]
 h_check_kind:FA K mg "check_kind" s_check_kind ["kind"]
 h_check_ways:FA K mg "check_ways" s_check_ways ["belts"]
 h_first_place:FA K mg "first_place" s_first_place ["wanted","side"]
 h_place_for_ware:FA K mg "place_for_ware" s_place_for_ware ["head","free","side"]
 h_heads_of:FA K mg "heads_of" s_heads_of ["work","state","knot"]
 h_taken_ware:FA K mg "taken_ware" s_taken_ware ["state","number","from_belt"]
 h_belt_at:FA K mg "belt_at" s_belt_at ["belts","place"]
 h_counted_place:FA K mg "counted_place" s_counted_place ["knot","chosen"]
 h_act:FA K mg "act" s_act ["work","state","number"]
 h_act_all:FA K mg "act_all" s_act_all ["work","state"]
 h_move_belt:FA K mg "move_belt" s_move_belt ["cells"]
 h_pass_turn:FA K mg "pass_turn" s_pass_turn ["work","state"]
 h_one_turn:FA K mg "one_turn" s_one_turn ["work","state"]
 h_played:FA K mg "played" s_played ["work","turns"]
 h_cells_by_ware:FA K mg "cells_by_ware" s_cells_by_ware ["state"]
 h_origin_of:FA K mg "origin_of" s_origin_of ["ware","lay","before"]
 h_origins_of:FA K mg "origins_of" s_origins_of ["before","after"]
 h_check_size:FA K mg "check_size" s_check_size ["belts","knots"]
 h_check_each_once:FA K mg "check_each_once" s_check_each_once ["named","size"]
 h_L_at:FA K mg "_law_at" s_L_at ["_law_script","_law_k"]
 h_L_spread:FA K mg "_law_spread" s_L_spread ["_law_cell","_law_factor"]
 h_L_whole:FA K mg "_law_whole" s_L_whole ["_law_found"]
 h_L_belt:FA K mg "_law_belt" s_L_belt ["_law_belts","_law_number","_law_span"]
 h_L_source:FA K mg "_law_source" s_L_source ["_law_out","_law_cell","_law_number","_law_span"]
 h_L_drain:FA K mg "_law_drain" s_L_drain ["_law_into","_law_number","_law_span"]
 h_L_kind:FA K mg "_law_kind" s_L_kind ["_law_knots","_law_cell","_law_number"]
 h_L_joined:FA K mg "_law_joined" s_L_joined ["_law_belts","_law_ends","_law_loops","_law_into","_law_cell","_law_span"]
 h_L_parted:FA K mg "_law_parted" s_L_parted ["_law_into","_law_outs","_law_kind_here","_law_what"]
 h_L_grow:FA K mg "_law_grow" s_L_grow ["_law_belts","_law_knots","_law_ends","_law_loops","_law_cell","_law_span"]
 h_L_close:FA K mg "_law_close" s_L_close ["_law_belts","_law_knots","_law_ends","_law_loops","_law_cell","_law_span"]
 h_L_work:FA K mg "_law_work" s_L_work ["_law_script"]
 h_L_origin:FA K mg "_law_origin" s_L_origin ["_law_origin_here","_law_ware","_law_before"]
 h_L_origins:FA K mg "_law_origins" s_L_origins ["_law_origins_here","_law_before","_law_after"]
 m_list:mg "list"=none
 m_len:mg "len"=none
 m_max:mg "max"=none
 m_range:mg "range"=none
 m_isinstance:mg "isinstance"=none
 m_enumerate:mg "enumerate"=none
 m_sorted:mg "sorted"=none
 m_int:mg "int"=none
 m_bool:mg "bool"=none
 m_reversed:mg "reversed"=none
 m_tuple:mg "tuple"=none
 m_zip:mg "zip"=none
 g_State:mg "State"=some (.ref a.State)
 g_WorkError:mg "WorkError"=some (.ref a.WorkError)
 g_BadBelt:mg "BadBelt"=some (.ref a.BadBelt)
 g_BadKnot:mg "BadKnot"=some (.ref a.BadKnot)
 g_BadWork:mg "BadWork"=some (.ref a.BadWork)
 g_Belt:mg "Belt"=some (.ref a.Belt)
 g_Knot:mg "Knot"=some (.ref a.Knot)
 g_Source:mg "Source"=some (.ref a.Source)
 g_Drain:mg "Drain"=some (.ref a.Drain)
 g_Parter:mg "Parter"=some (.ref a.Parter)
 g_FirstParter:mg "FirstParter"=some (.ref a.FirstParter)
 g_Sieve:mg "Sieve"=some (.ref a.Sieve)
 g_Joiner:mg "Joiner"=some (.ref a.Joiner)
 g_Work:mg "Work"=some (.ref a.Work)
 C_State:Cls K a.State
 N_State_turn:NoAttr K a.State "turn"
 N_State_cells:NoAttr K a.State "cells"
 N_State_sides:NoAttr K a.State "sides"
 N_State_gone:NoAttr K a.State "gone"
 W_State:WI K a.State
 h_State_init:FK K a.State "State.__init__" s_State_init ["self","turn","cells","sides","gone"]
 C_Belt:Cls K a.Belt
 N_Belt_room:NoAttr K a.Belt "room"
 N_Belt_pace:NoAttr K a.Belt "pace"
 W_Belt:WI K a.Belt
 h_Belt_init:FK K a.Belt "Belt.__init__" s_Belt_init ["self","room","pace"]
 C_Knot:Cls K a.Knot
 N_Knot_ins:NoAttr K a.Knot "ins"
 N_Knot_outs:NoAttr K a.Knot "outs"
 W_Knot:WI K a.Knot
 h_Knot_init:FK K a.Knot "Knot.__init__" s_Knot_init ["self","ins","outs"]
 b_Knot_init:FB K mg "Knot" "__init__" "Knot.__init__" s_Knot_init ["self","ins","outs"]
 h_Knot_choice:FM K a.Knot "choice" "Knot.choice" s_Knot_choice ["self","heads","free","turn","side"]
 h_Knot_copied:FM K a.Knot "copied" "Knot.copied" s_Knot_copied ["self"]
 C_Source:Cls K a.Source
 N_Source_pace:NoAttr K a.Source "pace"
 N_Source_kinds:NoAttr K a.Source "kinds"
 N_Source_ins:NoAttr K a.Source "ins"
 N_Source_outs:NoAttr K a.Source "outs"
 W_Source:WI K a.Source
 h_Source_init:FK K a.Source "Source.__init__" s_Source_init ["self","out","pace","kinds"]
 h_Source_choice:FM K a.Source "choice" "Source.choice" s_Source_choice ["self","heads","free","turn","side"]
 h_Source_copied:FM K a.Source "copied" "Source.copied" s_Source_copied ["self"]
 C_Drain:Cls K a.Drain
 N_Drain_pace:NoAttr K a.Drain "pace"
 N_Drain_ins:NoAttr K a.Drain "ins"
 N_Drain_outs:NoAttr K a.Drain "outs"
 W_Drain:WI K a.Drain
 h_Drain_init:FK K a.Drain "Drain.__init__" s_Drain_init ["self","into","pace"]
 h_Drain_choice:FM K a.Drain "choice" "Drain.choice" s_Drain_choice ["self","heads","free","turn","side"]
 h_Drain_copied:FM K a.Drain "copied" "Drain.copied" s_Drain_copied ["self"]
 C_Parter:Cls K a.Parter
 N_Parter_ins:NoAttr K a.Parter "ins"
 N_Parter_outs:NoAttr K a.Parter "outs"
 W_Parter:WI K a.Parter
 h_Parter_init:FK K a.Parter "Parter.__init__" s_Parter_init ["self","into","outs"]
 h_Parter_choice:FM K a.Parter "choice" "Parter.choice" s_Parter_choice ["self","heads","free","turn","side"]
 h_Parter_copied:FM K a.Parter "copied" "Parter.copied" s_Parter_copied ["self"]
 C_FirstParter:Cls K a.FirstParter
 N_FirstParter_ins:NoAttr K a.FirstParter "ins"
 N_FirstParter_outs:NoAttr K a.FirstParter "outs"
 W_FirstParter:WI K a.FirstParter
 h_FirstParter_init:FK K a.FirstParter "FirstParter.__init__" s_FirstParter_init ["self","into","outs"]
 h_FirstParter_choice:FM K a.FirstParter "choice" "FirstParter.choice" s_FirstParter_choice ["self","heads","free","turn","side"]
 h_FirstParter_copied:FM K a.FirstParter "copied" "FirstParter.copied" s_FirstParter_copied ["self"]
 C_Sieve:Cls K a.Sieve
 N_Sieve_kind:NoAttr K a.Sieve "kind"
 N_Sieve_ins:NoAttr K a.Sieve "ins"
 N_Sieve_outs:NoAttr K a.Sieve "outs"
 W_Sieve:WI K a.Sieve
 h_Sieve_init:FK K a.Sieve "Sieve.__init__" s_Sieve_init ["self","into","outs","kind"]
 h_Sieve_choice:FM K a.Sieve "choice" "Sieve.choice" s_Sieve_choice ["self","heads","free","turn","side"]
 h_Sieve_place_for:FM K a.Sieve "place_for" "Sieve.place_for" s_Sieve_place_for ["self","kind"]
 h_Sieve_copied:FM K a.Sieve "copied" "Sieve.copied" s_Sieve_copied ["self"]
 C_Joiner:Cls K a.Joiner
 N_Joiner_ins:NoAttr K a.Joiner "ins"
 N_Joiner_outs:NoAttr K a.Joiner "outs"
 W_Joiner:WI K a.Joiner
 h_Joiner_init:FK K a.Joiner "Joiner.__init__" s_Joiner_init ["self","ins","out"]
 h_Joiner_choice:FM K a.Joiner "choice" "Joiner.choice" s_Joiner_choice ["self","heads","free","turn","side"]
 h_Joiner_copied:FM K a.Joiner "copied" "Joiner.copied" s_Joiner_copied ["self"]
 C_Work:Cls K a.Work
 N_Work_belts:NoAttr K a.Work "belts"
 N_Work_knots:NoAttr K a.Work "knots"
 W_Work:WI K a.Work
 h_Work_init:FK K a.Work "Work.__init__" s_Work_init ["self","belts","knots"]
 h_Work_feeder:FM K a.Work "feeder" "Work.feeder" s_Work_feeder ["self","belt"]
 h_Work_taker:FM K a.Work "taker" "Work.taker" s_Work_taker ["self","belt"]
 h_Work_drains:FM K a.Work "drains" "Work.drains" s_Work_drains ["self"]
 h_Work_sources:FM K a.Work "sources" "Work.sources" s_Work_sources ["self"]
 h_Work_beat:FM K a.Work "beat" "Work.beat" s_Work_beat ["self"]
 g_MOST_ROOM:∃ t,mg "MOST_ROOM"=some (.int 6 t)
 g_MOST_PACE:∃ t,mg "MOST_PACE"=some (.int 4 t)
 g_MOST_KINDS:∃ t,mg "MOST_KINDS"=some (.int 6 t)
 g_FEWEST_WAYS:∃ t,mg "FEWEST_WAYS"=some (.int 2 t)
 g_MOST_WAYS:∃ t,mg "MOST_WAYS"=some (.int 4 t)
 g_MOST_BELTS:∃ t,mg "MOST_BELTS"=some (.int 24 t)
 g_MOST_KNOTS:∃ t,mg "MOST_KNOTS"=some (.int 24 t)
 X_BadBelt:XC K a.BadBelt
 XI_BadBelt:XI K a.BadBelt
 X_BadKnot:XC K a.BadKnot
 XI_BadKnot:XI K a.BadKnot
 X_BadWork:XC K a.BadWork
 XI_BadWork:XI K a.BadWork
 k1_State_Joiner:PySem.W.kitOne K (.ref a.State) (.ref a.Joiner)=some false
 k1_Belt_Joiner:PySem.W.kitOne K (.ref a.Belt) (.ref a.Joiner)=some false
 k1_Knot_Joiner:PySem.W.kitOne K (.ref a.Knot) (.ref a.Joiner)=some false
 k1_Source_Joiner:PySem.W.kitOne K (.ref a.Source) (.ref a.Joiner)=some false
 k1_Drain_Joiner:PySem.W.kitOne K (.ref a.Drain) (.ref a.Joiner)=some false
 k1_Parter_Joiner:PySem.W.kitOne K (.ref a.Parter) (.ref a.Joiner)=some false
 k1_FirstParter_Joiner:PySem.W.kitOne K (.ref a.FirstParter) (.ref a.Joiner)=some false
 k1_Sieve_Joiner:PySem.W.kitOne K (.ref a.Sieve) (.ref a.Joiner)=some false
 k1_Joiner_Joiner:PySem.W.kitOne K (.ref a.Joiner) (.ref a.Joiner)=some true
 k1_Work_Joiner:PySem.W.kitOne K (.ref a.Work) (.ref a.Joiner)=some false
 k1_State_Source:PySem.W.kitOne K (.ref a.State) (.ref a.Source)=some false
 k1_Belt_Source:PySem.W.kitOne K (.ref a.Belt) (.ref a.Source)=some false
 k1_Knot_Source:PySem.W.kitOne K (.ref a.Knot) (.ref a.Source)=some false
 k1_Source_Source:PySem.W.kitOne K (.ref a.Source) (.ref a.Source)=some true
 k1_Drain_Source:PySem.W.kitOne K (.ref a.Drain) (.ref a.Source)=some false
 k1_Parter_Source:PySem.W.kitOne K (.ref a.Parter) (.ref a.Source)=some false
 k1_FirstParter_Source:PySem.W.kitOne K (.ref a.FirstParter) (.ref a.Source)=some false
 k1_Sieve_Source:PySem.W.kitOne K (.ref a.Sieve) (.ref a.Source)=some false
 k1_Joiner_Source:PySem.W.kitOne K (.ref a.Joiner) (.ref a.Source)=some false
 k1_Work_Source:PySem.W.kitOne K (.ref a.Work) (.ref a.Source)=some false
section
variable {P:Program} {w:World} {K:PySem.W.Frag} {mg:Str→Option Value} {base:Heap} {a:Ad} {f:Addr} {fd:FuncData}
theorem at0 {α:Type} {x:α} {xs:List α}:atI (x :: xs) 0=some x:=by
 have:=zC (xs:=x :: xs) (j:=0) rfl
 simpa using this
def iv (ns:List Int):List V:=ns.map V.int
def kf (l1 l2:Addr):List (Str × V):=putF "outs" (.ref l2) (putF "ins" (.ref l1) [])
theorem kf_ins {l1 l2:Addr}:(kf l1 l2).lookup ("ins":Str)=some (.ref l1):=by
 unfold kf; rw [z6,if_neg (by decide +kernel),z6,if_pos rfl]
theorem kf_outs {l1 l2:Addr}:(kf l1 l2).lookup ("outs":Str)=some (.ref l2):=by
 unfold kf; rw [z6,if_pos rfl]
theorem QP {l1 l2:Addr}:(kf l1 l2).length < 1000:=by
 unfold kf; have:=ji "outs" (V.ref l2) (putF "ins" (.ref l1) []); have:=ji "ins" (V.ref l1) []; simp at *; omega
theorem kf_no {l1 l2:Addr} {m:Str} (h1:m≠"ins") (h2:m≠"outs"):(kf l1 l2).lookup m=none:=by
 unfold kf; rw [z6,if_neg h2,z6,if_neg h1]; rfl
def Own (H H':Hp) (y:Addr):Prop:=∀ b o,b≠y→H b=some o→H' b=some o
theorem Same.own {H H':Hp} {y:Addr} (s:Same H H'):Own H H' y:=fun b o _ h=>s b o h
theorem Own.trans {H1 H2 H3:Hp} {y:Addr} (s:Own H1 H2 y) (t:Own H2 H3 y):Own H1 H3 y:=fun b o hb h=>t b o hb (s b o hb h)
theorem qD {H:Hp} {y:Addr} {o:HO}:Own H (upd H y o) y:=fun b u hb h=>by rw [upd_ne hb]; exact h
theorem Own.of_new {H H':Hp} {y dx:Addr} {o p:HO} (hy:H y=none) (hd:H dx=none) (s:Own (upd (upd H dx o) y p) H' y):Same H H':=fun b u h =>
 s b u (ne_of_none h hy) (by rw [upd_ne (ne_of_none h hy),upd_ne (ne_of_none h hd)]; exact h)
theorem zG {H:Hp} {p b:Addr} {o:HO} (h:upd H p o b=none):H b=none:=by
 by_cases e:b=p
 ·subst e; rw [upd_same] at h; cases h
 ·rw [upd_ne e] at h; exact h
def wX (K:PySem.W.Frag):Sp:=fun vs H Q _=>∃ (y C dx i o:Addr) (xs ys:List V),vs=[.ref y,.ref i,.ref o]∧H y=some (.ins C dx [])∧Cls K C∧NoAttr K C "ins"∧NoAttr K C "outs"∧SqL K H i xs∧SqL K H o ys∧i≠y∧o≠y ∧
 ∀ H' l1 l2,Own H H' y→H' y=some (.ins C dx (kf l1 l2))→H' l1=some (.lst xs)→H' l2=some (.lst ys)→H l1=none→H l2=none→Q .non H'
theorem QV {H H':Hp} {y l:Addr} {xs:List V} (h:SqL K H l xs) (s:Own H H' y) (hl:l≠y):SqL K H' l xs:=by
 rcases h with h | h
 ·refine .inl ?_
  rcases h with h | ⟨ob,h⟩
  ·exact .inl (s _ _ hl h)
  ·exact .inr ⟨ob,s _ _ hl h⟩
 ·exact .inr h
theorem ok_Knot_init (T:Txt K mg a) (F:Fun K "__init__" "Knot.__init__" s_Knot_init f fd):FnOk P w K mg base (CXr P w) 1 f fd ["self","ins","outs"] (wX K):=by
 refine F.okx sc_Knot_init ?_ ?_
 ·walk_at "i"
 walk_at "k"
 refine oE7 h fun y C dx i o xs ys z1_=>oA6 z1_ fun z2_ hy hC hN1 hN2 z3_=>oA5 z3_ fun hi ho hiy hoy k=>?_
 clear h
 subst z2_
 walk_at "T"
 refine ⟨_,(zh (qL (pv 0) (xR jl qF (za (pv 1) zb)) rfl)  (zd (qL (pv 0) (xR jl qF (za (pv 2) zb)) rfl))),?_⟩
 walk_at "go"
 refine iE2 i xs (iA3 rfl (.inl hi) (fun l1 h1=>?_))
 walk_at "go"
 have y1:y≠l1:=ne_of_none hy h1
 refine iE4 y C dx ([]) (iA6 rfl (upd_keep hy h1) hC hN1 (by decide) ?_)
 walk_at "go"
 have s1:Own H (upd (upd H l1 (.lst xs)) y (.ins C dx (putF "ins" (.ref l1) []))) y:=(Same.own (ze h1)).trans qD
 refine iE2 o ys (iA3 rfl (.inl (QV ho s1 hoy)) (fun l2 h2=>?_))
 walk_at "go"
 have y2:y≠l2:=ne_of_none upd_same h2
 have l12:l1≠l2:=fun z=>by
  rw [← z,upd_ne (Ne.symm y1),upd_same] at h2; cases h2
 refine iE4 y C dx _ (iA6 rfl (upd_keep upd_same h2) hC hN2 (by show 1 < 1000; decide) ?_)
 refine k _ l1 l2 (s1.trans ((Same.own (ze h2)).trans qD)) upd_same ?_ ?_ h1 ?_
 ·rw [upd_ne (Ne.symm y1),upd_ne l12,upd_ne (Ne.symm y1),upd_same]
 ·rw [upd_ne (Ne.symm y2),upd_same]
 ·rw [upd_ne (Ne.symm y2),upd_ne (Ne.symm l12)] at h2
  exact h2
theorem b_Knot_init (T:Txt K mg a):BCal P w K mg base "Knot" "__init__" 1 ["self","ins","outs"] [] (wX K):=T.b_Knot_init.cal (ok_Knot_init T)
def wz (K:PySem.W.Frag) (a:Ad):Sp:=fun vs H Q E=>∃ (l:Addr) (xs:List V),vs=[.ref l]∧SqL K H l xs∧if 2≤xs.length∧xs.length≤4 then Q .non H else E (.ref a.BadKnot) none H
theorem ok_check_ways (T:Txt K mg a) (F:Fun K "check_ways" "check_ways" s_check_ways f fd):FnOk P w K mg base (CXr P w) 1 f fd ["belts"] (wz K a):=by
 refine F.okx sc_check_ways ?_ ?_
 ·walk_at "i"
 walk_at "k"
 refine oE2 h fun l xs z1_=>oA3 z1_ fun z2_ hl k=>?_
 clear h
 subst z2_
 walk_at "T"
 refine ⟨_,(zd (zy (qk (qK qX qX xn (zV zP zO (za (pv 0) zb)) xn))  (zd (qB ⟨rfl,rfl,rfl⟩ rfl (za qG zb)))  zk)),?_⟩
 walk_at "go"
 obtain ⟨t1,g1⟩:=T.g_FEWEST_WAYS
 obtain ⟨t2,g2⟩:=T.g_MOST_WAYS
 have bad:¬ (2≤xs.length∧xs.length≤4)→∃ C,mg "BadKnot"=some (Value.ref C)∧XC K C∧E (Value.ref C) none H:=fun h=>by
  rw [if_neg h] at k
  exact ⟨a.BadKnot,iA3 T.g_BadKnot T.X_BadKnot k⟩
 refine iE2 (.int 2) _ (iA3 g1 ⟨_,rfl⟩ ?_)
 walk_at "go"
 refine ⟨_,.inl ⟨_,hl,rfl⟩,?_⟩
 walk_at "r"
 refine ite2 (fun h1=>?_) (fun h1=>bad (by omega))
 refine iE2 (.int 4) _ (iA3 g2 ⟨_,rfl⟩ ?_)
 walk_at "r"
 refine ite2 (fun h2=>bad (by omega)) (fun h2=>?_)
 rw [if_pos (by omega)] at k
 exact k
theorem jH (T:Txt K mg a):Cal P w K mg base "check_ways" 1 ["belts"] [] (wz K a):=T.h_check_ways.cal (ok_check_ways T)
def wC (a:Ad):Sp:=fun vs H Q E=>∃ p q:Int,vs=[.int p,.int q]∧if q≤p∧p≤4 then Q .non H else E (.ref a.BadKnot) none H
theorem ok_check_pace (T:Txt K mg a) (F:Fun K "check_pace" "check_pace" s_check_pace f fd):FnOk P w K mg base (CXr P w) 1 f fd ["pace","least"] (wC a):=by
 refine F.okx sc_check_pace ?_ ?_
 ·walk_at "i"
 walk_at "k"
 refine oE2 h fun p q z1_=>oA2 z1_ fun z2_ k=>?_
 clear h
 subst z2_
 walk_at "T"
 refine ⟨_,(zd (zy (qk (qK qX qX (pv 1) (pv 0) xn))  (zd (qB ⟨rfl,rfl,rfl⟩ rfl (za qG zb)))  zk)),?_⟩
 walk_at "go"
 obtain ⟨t1,g1⟩:=T.g_MOST_PACE
 have bad:¬ (q≤p∧p≤4)→∃ C,mg "BadKnot"=some (Value.ref C)∧XC K C∧E (Value.ref C) none H:=fun h=>by
  rw [if_neg h] at k
  exact ⟨a.BadKnot,iA3 T.g_BadKnot T.X_BadKnot k⟩
 refine ite2 (fun h1=>?_) (fun h1=>bad (by omega))
 refine iE2 (.int 4) _ (iA3 g1 ⟨_,rfl⟩ ?_)
 walk_at "go"
 refine ite2 (fun h2=>bad (by omega)) (fun h2=>?_)
 rw [if_pos (by omega)] at k
 walk_at "go"
 exact k
theorem wa (T:Txt K mg a):Cal P w K mg base "check_pace" 1 ["pace","least"] [] (wC a):=T.h_check_pace.cal (ok_check_pace T)
abbrev qN:Int:=1000000000000000000000000000000
def wD (a:Ad):Sp:=fun vs H Q E=>∃ n:Int,vs=[.int n]∧if 0≤n∧n < qN then Q .non H else E (.ref a.BadKnot) none H
theorem ok_check_kind (T:Txt K mg a) (F:Fun K "check_kind" "check_kind" s_check_kind f fd):FnOk P w K mg base (CXr P w) 1 f fd ["kind"] (wD a):=by
 refine F.okx sc_check_kind ?_ ?_
 ·walk_at "i"
 walk_at "k"
 obtain ⟨n,rfl,k⟩:=h
 walk_at "T"
 refine ⟨_,(zd (zy (qk (qK qX Qj zc (pv 0) (zi ZE zc zc)))  (zd (qB ⟨rfl,rfl,rfl⟩ rfl (za qG zb)))  zk)),?_⟩
 walk_at "go"
 have bad:¬ (0≤n∧n < qN)→∃ C,mg "BadKnot"=some (Value.ref C)∧XC K C∧E (Value.ref C) none H:=fun h=>by
  rw [if_neg h] at k
  exact ⟨a.BadKnot,iA3 T.g_BadKnot T.X_BadKnot k⟩
 refine ite2 (fun h1=>?_) (fun h1=>bad (by omega))
 walk_at "go"
 refine ite2 (fun h2=>bad (by unfold qN; omega)) (fun h2=>?_)
 rw [if_pos (by unfold qN; omega)] at k
 walk_at "go"
 exact k
theorem wb (T:Txt K mg a):Cal P w K mg base "check_kind" 1 ["kind"] [] (wD a):=T.h_check_kind.cal (ok_check_kind T)
def fpAt (bs:List Bool) (side:Nat):Nat→Nat→Option Nat
 | 0,_=>none
 | n + 1,k=>if bs.getD ((side + k) % bs.length) false=true then some ((side + k) % bs.length) else fpAt bs side n (k + 1)
def qQ (bs:List Bool) (side:Nat):Option Nat:=fpAt bs side bs.length 0
def optV:Option Nat→V
 | none=>.non
 | some n=>.int n
theorem Jh {bs:List Bool} {side:Nat} (h:0 < bs.length):∀ {n k p:Nat},fpAt bs side n k=some p→p < bs.length
 | 0,_,_,e=>by simp [fpAt] at e
 | n + 1,k,p,e=>by
  unfold fpAt at e
  split at e
  ·cases e; exact Nat.mod_lt _ h
  ·exact Jh h e
theorem jv {bs:List Bool} {side p:Nat} (e:qQ bs side=some p):p < bs.length:=by
 by_cases h:0 < bs.length
 ·exact Jh h e
 ·unfold qQ at e
  rw [show bs.length=0 by omega] at e
  simp [fpAt] at e
def xK (K:PySem.W.Frag):Sp:=fun vs H Q _=>∃ (l:Addr) (bs:List Bool) (side:Nat),vs=[.ref l,.int side]∧SqL K H l (bs.map V.bl)∧bs.length≤1000∧Q (optV (qQ bs side)) H
theorem ok_first_place (T:Txt K mg a) (F:Fun K "first_place" "first_place" s_first_place f fd):FnOk P w K mg base (CXr P w) 1 f fd ["wanted","side"] (xK K):=by
 refine F.okx sc_first_place ?_ ?_
 ·walk_at "i"
 walk_at "k"
 obtain ⟨l,bs,side,rfl,hl,hb,k⟩:=h
 walk_at "T"
 refine ⟨_,(zh (qd qC rfl (jT (za (zV zP zO (za (pv 0) zb)) zb)) (pg_n 2 sc_first_place.nd)  (zh (zx 3 sc_first_place.nd (zi zB (zi z7 (pv 1) (pv 2)) (zV zP zO (za (pv 0) zb))))  (zd (zy (qi (zp (pv 0) (pv 3)) (fun _=>rfl))  (zd (zj (pv 3)))  zk))))  (zd (zj zz))),?_⟩
 walk_at "for"
 walk_at "go"
 refine ⟨_,.inl ⟨_,hl,rfl⟩,by omega,by rw [List.length_map]; omega,?_⟩
 refine wK (fun i σ H'=>∃ v2 v3,σ=[some (.ref l),some (.int side),v2,v3]∧H'=H∧Q (optV (fpAt bs side (bs.length - i) i)) H) ⟨_,_,rfl,rfl,k⟩ ?_ ?_
 ·rintro i σ H' hi ⟨v2,v3,rfl,rfl,k⟩
  have hi:i < bs.length:=by simpa using hi
  walk_at "go"
  refine ⟨_,.inl ⟨_,hl,rfl⟩,?_⟩
  walk_at "r"
  rw [List.length_map]
  refine And.intro (by omega) ?_
  have e:((side:Int) + (0 + (i:Int))) % (bs.length:Int)=(((side + i) % bs.length:Nat):Int):=by push_cast; rw [Int.zero_add]
  rw [e]
  have hlt:(side + i) % bs.length < bs.length:=Nat.mod_lt _ (by omega)
  refine zq hl (zC (by rw [List.getElem?_map,List.getElem?_eq_getElem hlt]; rfl)) ?_
  walk_at "r"
  have em:bs.length - i=(bs.length - (i + 1)) + 1:=by omega
  rw [em,fpAt] at k
  have eg:bs.getD ((side + i) % bs.length) false=bs[(side + i) % bs.length]:=by simp [hlt]
  rw [eg] at k
  cases hbb:bs[(side + i) % bs.length] with
  | true =>
   rw [hbb,if_pos rfl] at k
   walk_at "r"
   exact k
  | false =>
   rw [hbb,if_neg (by decide)] at k
   walk_at "r"
   first | exact ⟨_,_,rfl,rfl,k⟩ | exact ⟨_,_,rfl,k⟩ | exact k
 ·rintro σ H' ⟨v2,v3,rfl,rfl,k⟩
  walk_at "r"
  simpa [fpAt,optV] using k
theorem xu (T:Txt K mg a):Cal P w K mg base "first_place" 1 ["wanted","side"] [] (xK K):=T.h_first_place.cal (ok_first_place T)
def wT (K:PySem.W.Frag):Sp:=fun vs H Q _=>∃ (v:V) (l:Addr) (bs:List Bool) (side:Nat),vs=[v,.ref l,.int side]∧SqL K H l (bs.map V.bl)∧bs.length≤1000∧Q (if v=.non then .non else optV (qQ bs side)) H
theorem ok_place_for_ware (T:Txt K mg a) (F:Fun K "place_for_ware" "place_for_ware" s_place_for_ware f fd):FnOk P w K mg base (CXr P w) 2 f fd ["head","free","side"] (wT K):=by
 refine F.okx sc_place_for_ware ?_ ?_
 ·walk_at "i"
 walk_at "k"
 refine oE4 h fun v l bs side z1_=>oA4 z1_ fun z2_ hl hb k=>?_
 clear h
 subst z2_
 walk_at "T"
 refine ⟨_,(zd (zj (jV (zn qw (pv 0) zz (zo _)) zz (zv ⟨rfl,rfl,rfl⟩ hr (za (pv 1) (za (pv 2) zb)))))),?_⟩
 walk_at "go"
 refine ite2 (fun h=>?_) (fun h=>?_)
 ·rw [if_pos h] at k
  walk_at "r"
  exact k
 ·rw [if_neg h] at k
  walk_at "r"
  exact iE3 _ _ _ ⟨xu T,⟨l,bs,side,rfl,hl,hb,k⟩⟩
theorem jw (T:Txt K mg a):Cal P w K mg base "place_for_ware" 2 ["head","free","side"] [] (wT K):=T.h_place_for_ware.cal (ok_place_for_ware T)
def qA (K:PySem.W.Frag) (C CB:Addr):Sp:=fun vs H Q E=>∃ (y dx o:Addr) (into:V) (ys:List V),vs=[.ref y,into,.ref o]∧H y=some (.ins C dx [])∧SqL K H o ys∧o≠y ∧
 if 2≤ys.length∧ys.length≤4 then ∀ H' l1 l2,Own H H' y→H' y=some (.ins C dx (kf l1 l2))→H' l1=some (.lst [into])→H' l2=some (.lst ys)→H l1=none→H l2=none→Q .non H' else E (.ref CB) none H
theorem ok_Parter_init (T:Txt K mg a) (F:Fun K "__init__" "Parter.__init__" s_Parter_init f fd):FnOk P w K mg base (CXr P w) 2 f fd ["self","into","outs"] (qA K a.Parter a.BadKnot):=by
 refine F.okx sc_Parter_init ?_ ?_
 ·walk_at "i"
 walk_at "k"
 refine oE5 h fun y dx o into ys z1_=>oA5 z1_ fun z2_ hy ho hoy k=>?_
 clear h
 subst z2_
 walk_at "T"
 refine ⟨_,(zh (zt (zv ⟨rfl,rfl,rfl⟩ hr (za (pv 2) zb)))  (zd (zt (j8 ⟨rfl,rfl,rfl⟩ hr (za (pv 0) (za (zF (za (pv 1) zb)) (za (pv 2) zb))))))),?_⟩
 walk_at "go"
 refine iE3 _ _ _ ⟨jH T,⟨o,ys,rfl,ho,ite2 (fun hok=>?_) (fun hok=>?_)⟩⟩
 ·rw [if_pos hok] at k
  walk_at "go"
  refine iE3 _ _ _ ⟨b_Knot_init T,fun p hp=>(iE7 y a.Parter dx p o ([into]) ys (iA6 rfl (upd_keep hy hp) T.C_Parter T.N_Parter_ins T.N_Parter_outs (iA5 (SqL.of upd_same) ((ze hp).seq ho) ((ne_of_none hy hp).symm) hoy (fun H' l1 l2 s h1 h2 h3 h4 h5=>?_))))⟩
  exact k H' l1 l2 ((Same.own (ze hp)).trans s) h1 h2 h3 (zG h4) (zG h5)
 ·rw [if_neg hok] at k
  exact k
theorem vv (T:Txt K mg a):KCal P w K mg base "Parter" a.Parter 2 ["self","into","outs"] [] (qA K a.Parter a.BadKnot):=T.h_Parter_init.cal T.g_Parter (ok_Parter_init T)
theorem ok_FirstParter_init (T:Txt K mg a) (F:Fun K "__init__" "FirstParter.__init__" s_FirstParter_init f fd):FnOk P w K mg base (CXr P w) 2 f fd ["self","into","outs"] (qA K a.FirstParter a.BadKnot):=by
 refine F.okx sc_FirstParter_init ?_ ?_
 ·walk_at "i"
 walk_at "k"
 refine oE5 h fun y dx o into ys z1_=>oA5 z1_ fun z2_ hy ho hoy k=>?_
 clear h
 subst z2_
 walk_at "T"
 refine ⟨_,(zh (zt (zv ⟨rfl,rfl,rfl⟩ hr (za (pv 2) zb)))  (zd (zt (j8 ⟨rfl,rfl,rfl⟩ hr (za (pv 0) (za (zF (za (pv 1) zb)) (za (pv 2) zb))))))),?_⟩
 walk_at "go"
 refine iE3 _ _ _ ⟨jH T,⟨o,ys,rfl,ho,ite2 (fun hok=>?_) (fun hok=>?_)⟩⟩
 ·rw [if_pos hok] at k
  walk_at "go"
  refine iE3 _ _ _ ⟨b_Knot_init T,fun p hp=>(iE7 y a.FirstParter dx p o ([into]) ys (iA6 rfl (upd_keep hy hp) T.C_FirstParter T.N_FirstParter_ins T.N_FirstParter_outs (iA5 (SqL.of upd_same) ((ze hp).seq ho) ((ne_of_none hy hp).symm) hoy (fun H' l1 l2 s h1 h2 h3 h4 h5=>?_))))⟩
  exact k H' l1 l2 ((Same.own (ze hp)).trans s) h1 h2 h3 (zG h4) (zG h5)
 ·rw [if_neg hok] at k
  exact k
theorem xq (T:Txt K mg a):KCal P w K mg base "FirstParter" a.FirstParter 2 ["self","into","outs"] [] (qA K a.FirstParter a.BadKnot):=T.h_FirstParter_init.cal T.g_FirstParter (ok_FirstParter_init T)
def vf (l1 l2:Addr) (n:Int):List (Str × V):=putF "kind" (.int n) (kf l1 l2)
theorem vf_kind {l1 l2:Addr} {n:Int}:(vf l1 l2 n).lookup ("kind":Str)=some (.int n):=by
 unfold vf; rw [z6,if_pos rfl]
theorem vf_no {l1 l2:Addr} {n:Int} {m:Str} (h1:m≠"ins") (h2:m≠"outs") (h3:m≠"kind"):(vf l1 l2 n).lookup m=none:=by
 unfold vf; rw [z6,if_neg h3]; exact kf_no h1 h2
def jM (K:PySem.W.Frag) (C CB:Addr):Sp:=fun vs H Q E=>∃ (y dx o:Addr) (into:V) (ys:List V) (n:Int),vs=[.ref y,into,.ref o,.int n]∧H y=some (.ins C dx [])∧SqL K H o ys∧o≠y ∧
 if ys.length=2∧0≤n∧n < qN then ∀ H' l1 l2,Own H H' y→H' y=some (.ins C dx (vf l1 l2 n))→H' l1=some (.lst [into])→H' l2=some (.lst ys)→H l1=none→H l2=none→Q .non H' else E (.ref CB) none H
theorem ok_Sieve_init (T:Txt K mg a) (F:Fun K "__init__" "Sieve.__init__" s_Sieve_init f fd):FnOk P w K mg base (CXr P w) 2 f fd ["self","into","outs","kind"] (jM K a.Sieve a.BadKnot):=by
 refine F.okx sc_Sieve_init ?_ ?_
 ·walk_at "i"
 walk_at "k"
 refine oE6 h fun y dx o into ys n z1_=>oA5 z1_ fun z2_ hy ho hoy k=>?_
 clear h
 subst z2_
 walk_at "T"
 refine ⟨_,(zh (zy (zn (jW hr.units1) (zV zP zO (za (pv 2) zb)) zc (zo _))  (zd (qB ⟨rfl,rfl,rfl⟩ rfl (za qG zb)))  zk)  (zh (zt (zv ⟨rfl,rfl,rfl⟩ hr (za (pv 3) zb)))  (zh (zt (j8 ⟨rfl,rfl,rfl⟩ hr (za (pv 0) (za (zF (za (pv 1) zb)) (za (pv 2) zb)))))  (zd (qL (pv 0) (pv 3) rfl))))),?_⟩
 walk_at "go"
 refine ⟨_,.inl ⟨_,ho,rfl⟩,?_⟩
 walk_at "go"
 refine ite2 (fun h1=>?_) (fun h1=>?_)
 ·rw [if_neg (by omega)] at k
  exact ⟨a.BadKnot,iA3 T.g_BadKnot T.X_BadKnot k⟩
 ·refine iE3 _ _ _ ⟨wb T,⟨n,rfl,ite2 (fun hok=>?_) (fun hok=>?_)⟩⟩
  ·rw [if_pos ⟨by omega,hok⟩] at k
   walk_at "go"
   refine iE3 _ _ _ ⟨b_Knot_init T,fun p hp=>(iE7 y a.Sieve dx p o ([into]) ys (iA6 rfl (upd_keep hy hp) T.C_Sieve T.N_Sieve_ins T.N_Sieve_outs (iA5 (SqL.of upd_same) ((ze hp).seq ho) ((ne_of_none hy hp).symm) hoy (fun H' l1 l2 s h1 h2 h3 h4 h5=>?_))))⟩
   walk_at "go"
   refine iE4 y a.Sieve dx _ (iA6 rfl h1 T.C_Sieve T.N_Sieve_kind QP ?_)
   exact k _ l1 l2 (((Same.own (ze hp)).trans s).trans qD) upd_same (by rw [upd_ne (xU h2 h1 (by intro z; cases z))]; exact h2) (by rw [upd_ne (xU h3 h1 (by intro z; cases z))]; exact h3) (zG h4) (zG h5)
  ·rw [if_neg (fun z=>hok z.2)] at k
   exact k
theorem Q9 (T:Txt K mg a):KCal P w K mg base "Sieve" a.Sieve 2 ["self","into","outs","kind"] [] (jM K a.Sieve a.BadKnot):=T.h_Sieve_init.cal T.g_Sieve (ok_Sieve_init T)
def jA (K:PySem.W.Frag) (C CB:Addr):Sp:=fun vs H Q E=>∃ (y dx o:Addr) (out:V) (ys:List V),vs=[.ref y,.ref o,out]∧H y=some (.ins C dx [])∧SqL K H o ys∧o≠y ∧
 if 2≤ys.length∧ys.length≤4 then ∀ H' l1 l2,Own H H' y→H' y=some (.ins C dx (kf l1 l2))→H' l1=some (.lst ys)→H' l2=some (.lst [out])→H l1=none→H l2=none→Q .non H' else E (.ref CB) none H
theorem ok_Joiner_init (T:Txt K mg a) (F:Fun K "__init__" "Joiner.__init__" s_Joiner_init f fd):FnOk P w K mg base (CXr P w) 2 f fd ["self","ins","out"] (jA K a.Joiner a.BadKnot):=by
 refine F.okx sc_Joiner_init ?_ ?_
 ·walk_at "i"
 walk_at "k"
 refine oE5 h fun y dx o out ys z1_=>oA5 z1_ fun z2_ hy ho hoy k=>?_
 clear h
 subst z2_
 walk_at "T"
 refine ⟨_,(zh (zt (zv ⟨rfl,rfl,rfl⟩ hr (za (pv 1) zb)))  (zd (zt (j8 ⟨rfl,rfl,rfl⟩ hr (za (pv 0) (za (pv 1) (za (zF (za (pv 2) zb)) zb))))))),?_⟩
 walk_at "go"
 refine iE3 _ _ _ ⟨jH T,⟨o,ys,rfl,ho,ite2 (fun hok=>?_) (fun hok=>?_)⟩⟩
 ·rw [if_pos hok] at k
  walk_at "go"
  refine iE3 _ _ _ ⟨b_Knot_init T,fun p hp=>(iE7 y a.Joiner dx o p ys ([out]) (iA6 rfl (upd_keep hy hp) T.C_Joiner T.N_Joiner_ins T.N_Joiner_outs (iA5 ((ze hp).seq ho) (SqL.of upd_same) hoy ((ne_of_none hy hp).symm) (fun H' l1 l2 s h1 h2 h3 h4 h5=>?_))))⟩
  exact k H' l1 l2 ((Same.own (ze hp)).trans s) h1 h2 h3 (zG h4) (zG h5)
 ·rw [if_neg hok] at k
  exact k
theorem vx (T:Txt K mg a):KCal P w K mg base "Joiner" a.Joiner 2 ["self","ins","out"] [] (jA K a.Joiner a.BadKnot):=T.h_Joiner_init.cal T.g_Joiner (ok_Joiner_init T)
def df (l1 l2:Addr) (p:Int):List (Str × V):=putF "pace" (.int p) (kf l1 l2)
theorem ZK {l1 l2:Addr} {p:Int}:(df l1 l2 p).lookup ("pace":Str)=some (.int p):=by
 unfold df; rw [z6,if_pos rfl]
theorem xO (f:Str) (v:V):∀ fs:List (Str × V),(putF f v fs).length≤fs.length + 1
 | []=>by simp [putF]
 | (g,x) :: r=>by
  unfold putF
  split
  ·simp
  ·have:=xO f v r
   simp; omega
theorem kf_len3 {l1 l2:Addr}:(kf l1 l2).length≤2:=by
 unfold kf
 have h1:=xO "outs" (V.ref l2) (putF "ins" (.ref l1) [])
 have h2:=xO "ins" (V.ref l1) []
 simp only [List.length_nil] at h2
 omega
theorem df_len {l1 l2:Addr} {p:Int}:(df l1 l2 p).length < 1000:=by
 unfold df
 have h1:=xO "pace" (V.int p) (kf l1 l2)
 have h2:=kf_len3 (l1:=l1) (l2:=l2)
 omega
def jP (C CB:Addr):Sp:=fun vs H Q E=>∃ (y dx:Addr) (into:V) (p:Int),vs=[.ref y,into,.int p]∧H y=some (.ins C dx []) ∧
 if 0≤p∧p≤4 then ∀ H' l1 l2,Own H H' y→H' y=some (.ins C dx (df l1 l2 p))→H' l1=some (.lst [into])→H' l2=some (.lst [])→H l1=none→H l2=none→Q .non H' else E (.ref CB) none H
theorem ok_Drain_init (T:Txt K mg a) (F:Fun K "__init__" "Drain.__init__" s_Drain_init f fd):FnOk P w K mg base (CXr P w) 2 f fd ["self","into","pace"] (jP a.Drain a.BadKnot):=by
 refine F.okx sc_Drain_init ?_ ?_
 ·walk_at "i"
 walk_at "k"
 refine oE4 h fun y dx into p z1_=>oA3 z1_ fun z2_ hy k=>?_
 clear h
 subst z2_
 walk_at "T"
 refine ⟨_,(zh (zt (zv ⟨rfl,rfl,rfl⟩ hr (za (pv 2) (za zc zb))))  (zh (zt (j8 ⟨rfl,rfl,rfl⟩ hr (za (pv 0) (za (zF (za (pv 1) zb)) (za (zF zb) zb)))))  (zd (qL (pv 0) (pv 2) rfl)))),?_⟩
 walk_at "go"
 refine iE3 _ _ _ ⟨wa T,⟨p,0,rfl,ite2 (fun hok=>?_) (fun hok=>?_)⟩⟩
 ·rw [if_pos hok] at k
  walk_at "go"
  refine iE3 _ _ _ ⟨b_Knot_init T,fun q1 hq1 q2 hq2=>?_⟩
  have n12:q1≠q2:=ne_of_none upd_same hq2
  have hy2:=upd_keep (o:=.lst []) (upd_keep (o:=.lst [into]) hy hq1) hq2
  refine iE7 y a.Drain dx q1 q2 ([into]) ([]) (iA6 rfl hy2 T.C_Drain T.N_Drain_ins T.N_Drain_outs (iA5 (SqL.of (upd_keep upd_same hq2)) (SqL.of upd_same) ((ne_of_none hy hq1).symm) ((ne_of_none (upd_keep hy hq1) hq2).symm) (fun H' l1 l2 s h1 h2 h3 h4 h5=>?_)))
  walk_at "go"
  refine iE4 y a.Drain dx _ (iA6 rfl h1 T.C_Drain T.N_Drain_pace QP ?_)
  exact k _ l1 l2 (((Same.own ((ze hq1).trans (ze hq2))).trans s).trans qD) upd_same (by rw [upd_ne (xU h2 h1 (by intro z; cases z))]; exact h2) (by rw [upd_ne (xU h3 h1 (by intro z; cases z))]; exact h3) (zG (zG h4)) (zG (zG h5))
 ·rw [if_neg hok] at k
  exact k
theorem xZ (T:Txt K mg a):KCal P w K mg base "Drain" a.Drain 2 ["self","into","pace"] [] (jP a.Drain a.BadKnot):=T.h_Drain_init.cal T.g_Drain (ok_Drain_init T)
def sf (l1 l2:Addr) (p:Int) (l3:Addr):List (Str × V):=putF "kinds" (.ref l3) (df l1 l2 p)
theorem sf_pace {l1 l2 l3:Addr} {p:Int}:(sf l1 l2 p l3).lookup ("pace":Str)=some (.int p):=by
 unfold sf; rw [z6,if_neg (by decide +kernel)]; exact ZK
def jg (ks:List Int):Prop:=∀ n∈ks,0≤n∧n < qN
def jz (K:PySem.W.Frag) (C CB:Addr):Sp:=fun vs H Q E=>∃ (y dx l:Addr) (out:V) (p:Int) (ks:List Int),vs=[.ref y,out,.int p,.ref l]∧H y=some (.ins C dx [])∧SqL K H l (ks.map V.int)∧l≠y ∧
 ((1≤p∧p≤4∧1≤ks.length∧ks.length≤6∧jg ks→∀ H' l1 l2 l3,Own H H' y→H' y=some (.ins C dx (sf l1 l2 p l3))→H' l1=some (.lst [])→H' l2=some (.lst [out])→H' l3=some (.lst (ks.map V.int))→H l1=none→H l2=none→H l3=none→Q .non H') ∧
   (¬ (1≤p∧p≤4∧1≤ks.length∧ks.length≤6∧jg ks)→E (.ref CB) none H))
theorem ok_Source_init (T:Txt K mg a) (F:Fun K "__init__" "Source.__init__" s_Source_init f fd):FnOk P w K mg base (CXr P w) 2 f fd ["self","out","pace","kinds"] (jz K a.Source a.BadKnot):=by
 refine F.okx sc_Source_init ?_ ?_
 ·walk_at "i"
 walk_at "k"
 refine oE6 h fun y dx l out p ks z1_=>oA6 z1_ fun z2_ hy hl hly kok kbad=>?_
 clear h
 subst z2_
 obtain ⟨t1,g1⟩:=T.g_MOST_KINDS
 walk_at "T"
 refine ⟨_,(zh (zt (zv ⟨rfl,rfl,rfl⟩ hr (za (pv 2) (za zc zb))))  (zh (zy (qk (qK qX qX zc (zV zP zO (za (pv 3) zb)) xn))  (zd (qB ⟨rfl,rfl,rfl⟩ rfl (za qG zb)))  zk)  (zh (qd qC rfl (ql (pv 3)) (pg_n 4 sc_Source_init.nd)  (zd (zt (zv ⟨rfl,rfl,rfl⟩ hr (za (pv 4) zb)))))  (zh (zt (j8 ⟨rfl,rfl,rfl⟩ hr (za (pv 0) (za (zF zb) (za (zF (za (pv 1) zb)) zb)))))  (zh (qL (pv 0) (pv 2) rfl)  (zd (qL (pv 0) (xR jl qF (za (pv 3) zb)) rfl))))))),?_⟩
 walk_at "go"
 refine iE3 _ _ _ ⟨wa T,⟨p,1,rfl,ite2 (fun hp=>?_) (fun hp=>kbad fun z=>hp ⟨z.1,z.2.1⟩)⟩⟩
 walk_at "go"
 refine ⟨_,.inl ⟨_,hl,rfl⟩,?_⟩
 rw [List.length_map]
 walk_at "go"
 have bad:¬ (1≤ks.length∧ks.length≤6)→∃ C,mg "BadKnot"=some (Value.ref C)∧XC K C∧E (Value.ref C) none H:=fun h=>⟨a.BadKnot,T.g_BadKnot,T.X_BadKnot,kbad fun z=>h ⟨z.2.2.1,z.2.2.2.1⟩⟩
 refine ite2 (fun h1=>?_) (fun h1=>bad (by omega))
 refine iE2 (.int 6) _ (iA3 g1 ⟨_,rfl⟩ ?_)
 walk_at "go"
 refine ite2 (fun h2=>bad (by omega)) (fun h2=>?_)
 walk_at "for"
 refine ⟨l,rfl,.inl ⟨⟨_,hl⟩,?_⟩⟩
 refine qP (K:=K) (a:=l) (xs:=ks.map V.int) (fun i σ H'=>∃ v4,σ=[some (.ref y),some out,some (.int p),some (.ref l),v4]∧H'=H∧jg (ks.take i)) ⟨_,iA3 rfl rfl (fun _ h=>nomatch h)⟩ (fun i σ H' _ ⟨_,_,e,_⟩=>e ▸ hl) ?_ ?_
 ·intro i x σ H' hi zz_
  refine oE1 zz_ fun v4 z1_=>oA3 z1_ fun z2_ z3_ hk=>?_
  clear zz_
  subst z2_ z3_
  rw [List.getElem?_map,Option.map_eq_some_iff] at hi
  obtain ⟨n,hn,rfl⟩:=hi
  walk_at "go"
  refine iE3 _ _ _ ⟨wb T,⟨n,rfl,ite2 (fun hok=>?_) (fun hok=>kbad fun z=>hok (z.2.2.2.2 n (List.mem_of_getElem? hn)))⟩⟩
  walk_at "go"
  have:jg (ks.take (i + 1)):=fun m hm=>by
   rw [List.take_succ,hn] at hm
   rcases List.mem_append.mp hm with z | z
   ·exact hk m z
   ·have e:m=n:=by simpa using z
    rw [e]; exact hok
  first | exact ⟨_,rfl,rfl,this⟩ | exact ⟨_,rfl,this⟩
 ·intro σ H' zz_
  refine oE1 zz_ fun v4 z1_=>oA3 z1_ fun z2_ z3_ hk=>?_
  clear zz_
  subst z2_ z3_
  rw [List.length_map,List.take_length] at hk
  have kok:=kok ⟨hp.1,hp.2,by omega,by omega,hk⟩
  walk_at "go"
  refine iE3 _ _ _ ⟨b_Knot_init T,fun q1 hq1 q2 hq2=>?_⟩
  have hy2:=upd_keep (o:=.lst [out]) (upd_keep (o:=.lst []) hy hq1) hq2
  have s12:Same H' (upd (upd H' q1 (.lst [])) q2 (.lst [out])):=(ze hq1).trans (ze hq2)
  refine iE7 y a.Source dx q1 q2 ([]) ([out]) (iA6 rfl hy2 T.C_Source T.N_Source_ins T.N_Source_outs (iA5 (SqL.of (upd_keep upd_same hq2)) (SqL.of upd_same) ((ne_of_none hy hq1).symm) ((ne_of_none (upd_keep hy hq1) hq2).symm) (fun H2 l1 l2 s h1 h2 h3 h4 h5=>?_)))
  walk_at "go"
  refine iE4 y a.Source dx _ (iA6 rfl h1 T.C_Source T.N_Source_pace QP ?_)
  walk_at "go"
  have s3:Own H' (upd H2 y (.ins a.Source dx (df l1 l2 p))) y:=((Same.own s12).trans s).trans qD
  have h2':upd H2 y (.ins a.Source dx (df l1 l2 p)) l1=some (.lst []):=by rw [upd_ne (xU h2 h1 (by intro z; cases z))]; exact h2
  have h3':upd H2 y (.ins a.Source dx (df l1 l2 p)) l2=some (.lst [out]):=by rw [upd_ne (xU h3 h1 (by intro z; cases z))]; exact h3
  refine iE2 l _ (iA3 rfl (.inl (QV hl s3 hly)) (fun l3 hl3=>?_))
  walk_at "go"
  have hy3:upd (upd H2 y (.ins a.Source dx (df l1 l2 p))) l3 (.lst (ks.map V.int)) y=some (.ins a.Source dx (df l1 l2 p)):=upd_keep upd_same hl3
  refine iE4 y a.Source dx _ (iA6 rfl hy3 T.C_Source T.N_Source_kinds df_len ?_)
  have n1:l1≠y:=xU h2 h1 (by intro z; cases z)
  have n2:l2≠y:=xU h3 h1 (by intro z; cases z)
  have n3:l3≠y:=(ne_of_none (upd_same (H:=H2)) hl3).symm
  refine kok _ l1 l2 l3 ((s3.trans (Same.own (ze hl3))).trans qD) upd_same ?_ ?_ ?_ (zG (zG h4)) (zG (zG h5)) ?_
  ·rw [upd_ne n1]; exact upd_keep h2' hl3
  ·rw [upd_ne n2]; exact upd_keep h3' hl3
  ·rw [upd_ne n3]; exact upd_same
  ·cases e:H' l3 with
   | none=>rfl
   | some o=>exact absurd (hl3.symm.trans (s3 l3 o n3 e)) (by intro z; cases z)
theorem xY (T:Txt K mg a):KCal P w K mg base "Source" a.Source 2 ["self","out","pace","kinds"] [] (jz K a.Source a.BadKnot):=T.h_Source_init.cal T.g_Source (ok_Source_init T)
def bf (rm pc:Int):List (Str × V):=putF "pace" (.int pc) (putF "room" (.int rm) [])
abbrev zA (rm pc:Int):Prop:=1≤rm∧rm≤6∧1≤pc∧pc≤4
def xw (C CB:Addr):Sp:=fun vs H Q E=>∃ (y dx:Addr) (rm pc:Int),vs=[.ref y,.int rm,.int pc]∧H y=some (.ins C dx [])∧if zA rm pc then Q .non (upd H y (.ins C dx (bf rm pc))) else E (.ref CB) none H
theorem ok_Belt_init (T:Txt K mg a) (F:Fun K "__init__" "Belt.__init__" s_Belt_init f fd):FnOk P w K mg base (CXr P w) 1 f fd ["self","room","pace"] (xw a.Belt a.BadBelt):=by
 refine F.okx sc_Belt_init ?_ ?_
 ·walk_at "i"
 walk_at "k"
 refine oE4 h fun y dx rm pc z1_=>oA3 z1_ fun z2_ hy k=>?_
 clear h
 subst z2_
 obtain ⟨t1,g1⟩:=T.g_MOST_ROOM
 obtain ⟨t2,g2⟩:=T.g_MOST_PACE
 walk_at "T"
 refine ⟨_,(zh (zy (qk (qK qX qX zc (pv 1) xn))  (zd (qB ⟨rfl,rfl,rfl⟩ rfl (za qG zb)))  zk)  (zh (zy (qk (qK qX qX zc (pv 2) xn))  (zd (qB ⟨rfl,rfl,rfl⟩ rfl (za qG zb)))  zk)  (zh (qL (pv 0) (pv 1) rfl)  (zd (qL (pv 0) (pv 2) rfl))))),?_⟩
 walk_at "go"
 have bad:¬ zA rm pc→∃ C,mg "BadBelt"=some (Value.ref C)∧XC K C∧E (Value.ref C) none H:=fun h=>by
  rw [if_neg h] at k
  exact ⟨a.BadBelt,iA3 T.g_BadBelt T.X_BadBelt k⟩
 refine ite2 (fun h1=>?_) (fun h1=>bad (by unfold zA; omega))
 refine iE2 (.int 6) _ (iA3 g1 ⟨_,rfl⟩ ?_)
 walk_at "go"
 refine ite2 (fun h2=>bad (by unfold zA; omega)) (fun h2=>?_)
 walk_at "go"
 refine ite2 (fun h3=>?_) (fun h3=>bad (by unfold zA; omega))
 refine iE2 (.int 4) _ (iA3 g2 ⟨_,rfl⟩ ?_)
 walk_at "go"
 refine ite2 (fun h4=>bad (by unfold zA; omega)) (fun h4=>?_)
 rw [if_pos (by unfold zA; omega)] at k
 walk_at "go"
 refine iE4 y a.Belt dx ([]) (iA6 rfl hy T.C_Belt T.N_Belt_room (by decide) ?_)
 walk_at "go"
 refine iE4 y a.Belt dx _ (iA6 rfl upd_same T.C_Belt T.N_Belt_pace (by show 1 < 1000; decide) ?_)
 rw [xJ]
 exact k
theorem xA (T:Txt K mg a):KCal P w K mg base "Belt" a.Belt 1 ["self","room","pace"] [] (xw a.Belt a.BadBelt):=T.h_Belt_init.cal T.g_Belt (ok_Belt_init T)
theorem z9 {H:Hp} {y dx b C:Addr} {u:HO} (hy:H y=none) (hdx:H dx=none) (h:H b=some u):upd (upd H dx (.own y)) y (.ins C dx []) b=some u:=by
 rw [upd_ne (ne_of_none h hy),upd_ne (ne_of_none h hdx)]; exact h
theorem zE {H:Hp} {y dx b:Addr} {o p:HO} (h:upd (upd H dx o) y p b=none):H b=none:=zG (zG h)
theorem zJ {H H':Hp} {b:Addr} (s:Same H H') (h:H' b=none):H b=none:=by
 cases e:H b with
 | none=>rfl
 | some o=>rw [s b o e] at h; cases h
inductive Wd | source | drain | parter | first | sieve | joiner
deriving DecidableEq
def clsA (a:Ad):Wd→Addr
 | .source=>a.Source
 | .drain=>a.Drain
 | .parter=>a.Parter
 | .first=>a.FirstParter
 | .sieve=>a.Sieve
 | .joiner=>a.Joiner
structure Row where
 wd:Wd
 ins:List Int
 outs:List Int
 pace:Int
 kinds:List Int
def Row.ok (r:Row):Prop:=match r.wd with
 | .source=>r.ins=[]∧(∃ o,r.outs=[o])∧1≤r.pace∧r.pace≤4∧1≤r.kinds.length∧r.kinds.length≤6∧jg r.kinds
 | .drain=>(∃ i,r.ins=[i])∧r.outs=[]∧0≤r.pace∧r.pace≤4
 | .parter=>(∃ i,r.ins=[i])∧2≤r.outs.length∧r.outs.length≤4
 | .first=>(∃ i,r.ins=[i])∧2≤r.outs.length∧r.outs.length≤4
 | .sieve=>(∃ i,r.ins=[i])∧r.outs.length=2∧∃ k,r.kinds=[k]∧0≤k∧k < qN
 | .joiner=>(∃ o,r.outs=[o])∧2≤r.ins.length∧r.ins.length≤4
def Qn (r:Row):List (Str × D):=match r.wd with
 | .source=>[("pace",.int r.pace),("kinds",.ints r.kinds)]
 | .drain=>[("pace",.int r.pace)]
 | .sieve=>[("kind",.int (r.kinds.headD 0))]
 | _=>[]
def vq (r:Row):List (Str × D):=("ins",.ints r.ins) :: ("outs",.ints r.outs) :: Qn r
def jJ (a:Ad) (r:Row):D:=.ob (clsA a r.wd) (vq r)
def xr (a:Ad) (b:Int × Int):D:=.ob a.Belt [("room",.int b.1),("pace",.int b.2)]
theorem qx {α:Type} {f:Str} {x:α} {r:List (Str × α)}:((f,x) :: r).lookup f=some x:=by simp [List.lookup]
theorem zH {α:Type} {f g:Str} {x:α} {r:List (Str × α)} (h:f≠g):((g,x) :: r).lookup f=r.lookup f:=by
 have hb:(f == g)=false:=beq_eq_false_iff_ne.mpr h
 simp [List.lookup,hb]
theorem knF_ins (r:Row):(vq r).lookup ("ins":Str)=some (.ints r.ins):=qx
theorem knF_outs (r:Row):(vq r).lookup ("outs":Str)=some (.ints r.outs):=(zH (by decide +kernel)).trans qx
theorem knF_pace {r:Row} (h:r.wd=.source∨r.wd=.drain):(vq r).lookup ("pace":Str)=some (.int r.pace):=by
 refine (zH (by decide +kernel)).trans ((zH (by decide +kernel)).trans ?_)
 unfold Qn
 rcases h with h | h <;> (rw [h]; exact qx)
theorem knF_kinds {r:Row} (h:r.wd=.source):(vq r).lookup ("kinds":Str)=some (.ints r.kinds):=by
 refine (zH (by decide +kernel)).trans ((zH (by decide +kernel)).trans ?_)
 unfold Qn
 rw [h]
 exact (zH (by decide +kernel)).trans qx
theorem knF_kind {r:Row} {k:Int} (h:r.wd=.sieve) (e:r.kinds=[k]):(vq r).lookup ("kind":Str)=some (.int k):=by
 refine (zH (by decide +kernel)).trans ((zH (by decide +kernel)).trans ?_)
 unfold Qn
 rw [h,e]
 exact qx
theorem JN {r:Row} {f:Str} (h1:f≠"ins") (h2:f≠"outs") (h3:f≠"pace") (h4:f≠"kinds") (h5:f≠"kind"):(vq r).lookup f=none:=by
 refine (zH h1).trans ((zH h2).trans ?_)
 unfold Qn
 split
 ·exact (zH h3).trans (zH h4)
 ·exact zH h3
 ·exact zH h5
 ·rfl
def KnP (a:Ad) (H:Hp) (p:Addr→Prop) (v:V) (r:Row):Prop:=Rep H p v (jJ a r)
theorem KnP.keep {H H':Hp} {p q:Addr→Prop} {v:V} {r:Row} (h:KnP a H p v r) (s:∀ b o,p b→H b=some o→q b∧H' b=some o):KnP a H' q v r:=Rep.keep s h
theorem KnP.inv {H:Hp} {p:Addr→Prop} {v:V} {r:Row} (h:KnP a H p v r):∃ y dx l1 l2 l3 fs,v=.ref y∧p y∧p l1∧p l2∧(r.wd=.source→p l3)∧H y=some (.ins (clsA a r.wd) dx fs)∧fs.lookup ("ins":Str)=some (.ref l1)∧fs.lookup ("outs":Str)=some (.ref l2) ∧
  fs.lookup ("copied":Str)=none∧H l1=some (.lst (iv r.ins))∧H l2=some (.lst (iv r.outs))∧(r.wd=.source→fs.lookup ("kinds":Str)=some (.ref l3)∧H l3=some (.lst (iv r.kinds)))∧((r.wd=.source∨r.wd=.drain)→fs.lookup ("pace":Str)=some (.int r.pace)):=by
 obtain ⟨y,dx,fs,rfl,py,hy,g1,g2⟩:=Rep.ob' h
 obtain ⟨u1,e1,r1⟩:=g1 _ _ (knF_ins r)
 obtain ⟨l1,rfl,p1,h1⟩:=r1.ints'
 obtain ⟨u2,e2,r2⟩:=g1 _ _ (knF_outs r)
 obtain ⟨l2,rfl,p2,h2⟩:=r2.ints'
 have e3:=g2 ("copied":Str) (JN (by decide +kernel) (by decide +kernel) (by decide +kernel) (by decide +kernel) (by decide +kernel))
 have pc:(r.wd=.source∨r.wd=.drain)→fs.lookup ("pace":Str)=some (.int r.pace):=fun z=>by
  obtain ⟨u,e,ru⟩:=g1 _ _ (knF_pace z)
  cases ru
  exact e
 by_cases hs:r.wd=.source
 ·obtain ⟨u3,e4,r3⟩:=g1 _ _ (knF_kinds hs)
  obtain ⟨l3,rfl,p3,h3⟩:=r3.ints'
  exact ⟨y,dx,l1,l2,l3,fs,rfl,py,p1,p2,fun _=>p3,hy,e1,e2,e3,h1,h2,fun _=>⟨e4,h3⟩,pc⟩
 ·exact ⟨y,dx,l1,l2,l1,fs,rfl,py,p1,p2,fun z=>absurd z hs,hy,e1,e2,e3,h1,h2,fun z=>absurd z hs,pc⟩
theorem vt {l1 l2:Addr}:kf l1 l2=([(("ins":Str),V.ref l1),(("outs":Str),V.ref l2)]:List (Str × V)):=by
 unfold kf; simp only [putF]; rw [if_neg (by decide +kernel)]
theorem JV {l1 l2:Addr} {n:Int}:df l1 l2 n=([(("ins":Str),V.ref l1),(("outs":Str),V.ref l2),(("pace":Str),V.int n)]:List (Str × V)):=by
 unfold df; rw [vt]; simp only [putF]; rw [if_neg (by decide +kernel),if_neg (by decide +kernel)]
theorem J5 {l1 l2 l3:Addr} {n:Int}:sf l1 l2 n l3=([(("ins":Str),V.ref l1),(("outs":Str),V.ref l2),(("pace":Str),V.int n),(("kinds":Str),V.ref l3)]:List (Str × V)):=by
 unfold sf; rw [JV]; simp only [putF]; rw [if_neg (by decide +kernel),if_neg (by decide +kernel),if_neg (by decide +kernel)]
theorem J0 {l1 l2:Addr} {n:Int}:vf l1 l2 n=([(("ins":Str),V.ref l1),(("outs":Str),V.ref l2),(("kind":Str),V.int n)]:List (Str × V)):=by
 unfold vf; rw [vt]; simp only [putF]; rw [if_neg (by decide +kernel),if_neg (by decide +kernel)]
theorem jB {H:Hp} {p:Addr→Prop} {l C dx:Addr} {fs:List (Str × V)} {gs:List (Str × D)} (pl:p l) (e:H l=some (.ins C dx fs)) (n:fs.map (·.1)=gs.map (·.1)) (r:Reps H p (fs.map (·.2)) (gs.map (·.2))):Rep H p (.ref l) (.ob C gs) :=
 .ob pl e n fun i f g hf hg=>r.g i f.2 g.2 (by rw [List.getElem?_map,hf]; rfl) (by rw [List.getElem?_map,hg]; rfl)
section
variable {H:Hp} {p:Addr→Prop} {z dz m1 m2 m3:Addr} {ins outs kinds:List Int} {pace:Int}
theorem Zh (q0:p z) (q1:p m1) (q2:p m2) (q3:p m3) (h0:H z=some (.ins a.Source dz (sf m1 m2 pace m3))) (h1:H m1=some (.lst (iv ins))) (h2:H m2=some (.lst (iv outs))) (h3:H m3=some (.lst (iv kinds))):KnP a H p (.ref z) ⟨.source,ins,outs,pace,kinds⟩:=by
 rw [J5] at h0
 exact jB q0 h0 rfl (.cons (z8 q1 h1) (.cons (z8 q2 h2) (.cons .int (.cons (z8 q3 h3) .nil))))
theorem Qt (q0:p z) (q1:p m1) (q2:p m2) (h0:H z=some (.ins a.Drain dz (df m1 m2 pace))) (h1:H m1=some (.lst (iv ins))) (h2:H m2=some (.lst (iv outs))):KnP a H p (.ref z) ⟨.drain,ins,outs,pace,kinds⟩:=by
 rw [JV] at h0
 exact jB q0 h0 rfl (.cons (z8 q1 h1) (.cons (z8 q2 h2) (.cons .int .nil)))
theorem Qr {k:Int} (q0:p z) (q1:p m1) (q2:p m2) (h0:H z=some (.ins a.Sieve dz (vf m1 m2 k))) (h1:H m1=some (.lst (iv ins))) (h2:H m2=some (.lst (iv outs))):KnP a H p (.ref z) ⟨.sieve,ins,outs,pace,[k]⟩:=by
 rw [J0] at h0
 exact jB q0 h0 rfl (.cons (z8 q1 h1) (.cons (z8 q2 h2) (.cons .int .nil)))
theorem Zi (q0:p z) (q1:p m1) (q2:p m2) (h0:H z=some (.ins a.Parter dz (kf m1 m2))) (h1:H m1=some (.lst (iv ins))) (h2:H m2=some (.lst (iv outs))):KnP a H p (.ref z) ⟨.parter,ins,outs,pace,kinds⟩:=by
 rw [vt] at h0
 exact jB q0 h0 rfl (.cons (z8 q1 h1) (.cons (z8 q2 h2) .nil))
theorem Qs (q0:p z) (q1:p m1) (q2:p m2) (h0:H z=some (.ins a.FirstParter dz (kf m1 m2))) (h1:H m1=some (.lst (iv ins))) (h2:H m2=some (.lst (iv outs))):KnP a H p (.ref z) ⟨.first,ins,outs,pace,kinds⟩:=by
 rw [vt] at h0
 exact jB q0 h0 rfl (.cons (z8 q1 h1) (.cons (z8 q2 h2) .nil))
theorem Zj (q0:p z) (q1:p m1) (q2:p m2) (h0:H z=some (.ins a.Joiner dz (kf m1 m2))) (h1:H m1=some (.lst (iv ins))) (h2:H m2=some (.lst (iv outs))):KnP a H p (.ref z) ⟨.joiner,ins,outs,pace,kinds⟩:=by
 rw [vt] at h0
 exact jB q0 h0 rfl (.cons (z8 q1 h1) (.cons (z8 q2 h2) .nil))
end
def BtP (a:Ad) (H:Hp) (p:Addr→Prop) (v:V) (r:Int × Int):Prop:=Rep H p v (xr a r)
theorem BtP.keep {H H':Hp} {p q:Addr→Prop} {v:V} {r:Int × Int} (h:BtP a H p v r) (s:∀ b o,p b→H b=some o→q b∧H' b=some o):BtP a H' q v r:=Rep.keep s h
theorem bf_eq {rm pc:Int}:bf rm pc=([(("room":Str),V.int rm),(("pace":Str),V.int pc)]:List (Str × V)):=by
 unfold bf; simp only [putF]; rw [if_neg (by decide +kernel)]
theorem Xe {H:Hp} {p:Addr→Prop} {y dx:Addr} {rm pc:Int} (q0:p y) (h0:H y=some (.ins a.Belt dx (bf rm pc))):BtP a H p (.ref y) (rm,pc):=by
 rw [bf_eq] at h0
 exact jB q0 h0 rfl (.cons .int (.cons .int .nil))
theorem BtP.inv {H:Hp} {p:Addr→Prop} {v:V} {r:Int × Int} (h:BtP a H p v r):∃ y dx fs,v=.ref y∧p y∧H y=some (.ins a.Belt dx fs)∧fs.lookup ("room":Str)=some (.int r.1)∧fs.lookup ("pace":Str)=some (.int r.2):=by
 obtain ⟨y,dx,fs,rfl,py,hy,g1,g2⟩:=Rep.ob' h
 obtain ⟨u1,e1,r1⟩:=g1 ("room":Str) _ qx
 obtain ⟨u2,e2,r2⟩:=g1 ("pace":Str) _ ((zH (by decide +kernel)).trans qx)
 cases r1
 cases r2
 exact ⟨y,dx,fs,rfl,py,hy,e1,e2⟩
structure Kns (a:Ad) (H:Hp) (p:Addr→Prop) (vs:List V) (rs:List Row):Prop where
 len:vs.length=rs.length
 g:∀ (i:Nat) v r,vs[i]?=some v→rs[i]?=some r→KnP a H p v r
theorem Kns.keep {H H':Hp} {p q:Addr→Prop} {vs:List V} {rs:List Row} (h:Kns a H p vs rs) (s:∀ b o,p b→H b=some o→q b∧H' b=some o):Kns a H' q vs rs:=⟨h.len,fun i v r e1 e2=>(h.g i v r e1 e2).keep s⟩
theorem Kns.nil {H:Hp} {p:Addr→Prop}:Kns a H p [] []:=⟨rfl,fun i v r h=>by simp at h⟩
theorem Kns.append {H:Hp} {p:Addr→Prop} {vs us:List V} {rs qs:List Row} (h:Kns a H p vs rs) (k:Kns a H p us qs):Kns a H p (vs ++ us) (rs ++ qs):=by
 refine ⟨by rw [List.length_append,List.length_append,h.len,k.len],fun i v r e1 e2=>?_⟩
 by_cases hi:i < vs.length
 ·rw [List.getElem?_append_left hi] at e1
  rw [List.getElem?_append_left (by rw [← h.len]; exact hi)] at e2
  exact h.g i v r e1 e2
 ·rw [List.getElem?_append_right (by omega)] at e1
  rw [List.getElem?_append_right (by rw [← h.len]; omega),← h.len] at e2
  exact k.g _ v r e1 e2
theorem Kns.one {H:Hp} {p:Addr→Prop} {v:V} {r:Row} (h:KnP a H p v r):Kns a H p [v] [r] :=
 ⟨rfl,fun i u q e1 e2=>by
  have hi:=(List.getElem?_eq_some_iff.mp e1).1
  have:i=0:=by simp at hi; omega
  subst this
  have e1:v=u:=by simpa using e1
  have e2:r=q:=by simpa using e2
  rw [← e1,← e2]; exact h⟩
theorem Kns.at {H:Hp} {p:Addr→Prop} {vs:List V} {rs:List Row} (h:Kns a H p vs rs) {i:Nat} {v:V} (e:vs[i]?=some v):∃ r,rs[i]?=some r∧KnP a H p v r:=by
 have hi:=(List.getElem?_eq_some_iff.mp e).1
 have e2:rs[i]?=some (rs[i]'(by rw [← h.len]; exact hi)):=List.getElem?_eq_getElem _
 exact ⟨_,e2,h.g i v _ e e2⟩
structure Bts (a:Ad) (H:Hp) (p:Addr→Prop) (vs:List V) (rs:List (Int × Int)):Prop where
 len:vs.length=rs.length
 g:∀ (i:Nat) v r,vs[i]?=some v→rs[i]?=some r→BtP a H p v r
theorem Bts.keep {H H':Hp} {p q:Addr→Prop} {vs:List V} {rs:List (Int × Int)} (h:Bts a H p vs rs) (s:∀ b o,p b→H b=some o→q b∧H' b=some o):Bts a H' q vs rs:=⟨h.len,fun i v r e1 e2=>(h.g i v r e1 e2).keep s⟩
theorem Bts.nil {H:Hp} {p:Addr→Prop}:Bts a H p [] []:=⟨rfl,fun i v r h=>by simp at h⟩
theorem Bts.push {H:Hp} {p:Addr→Prop} {vs:List V} {v:V} {rs:List (Int × Int)} {r:Int × Int} (h:Bts a H p vs rs) (k:BtP a H p v r):Bts a H p (vs ++ [v]) (rs ++ [r]):=by
 refine ⟨by rw [List.length_append,List.length_append,h.len]; rfl,fun i u q e1 e2=>?_⟩
 by_cases hi:i < vs.length
 ·rw [List.getElem?_append_left hi] at e1
  rw [List.getElem?_append_left (by rw [← h.len]; exact hi)] at e2
  exact h.g i u q e1 e2
 ·rw [List.getElem?_append_right (by omega)] at e1
  rw [List.getElem?_append_right (by rw [← h.len]; omega),← h.len] at e2
  have hj:=(List.getElem?_eq_some_iff.mp e1).1
  have:i - vs.length=0:=by simp at hj; omega
  rw [this] at e1 e2
  have e1:v=u:=by simpa using e1
  have e2:r=q:=by simpa using e2
  rw [← e1,← e2]; exact k
theorem Bts.at {H:Hp} {p:Addr→Prop} {vs:List V} {rs:List (Int × Int)} (h:Bts a H p vs rs) {i:Nat} {v:V} (e:vs[i]?=some v):∃ r,rs[i]?=some r∧BtP a H p v r:=by
 have hi:=(List.getElem?_eq_some_iff.mp e).1
 have e2:rs[i]?=some (rs[i]'(by rw [← h.len]; exact hi)):=List.getElem?_eq_getElem _
 exact ⟨_,e2,h.g i v _ e e2⟩
abbrev New (H:Hp):Addr→Prop:=fun b=>H b=none
def qh (a:Ad) (wd:Wd):Sp:=fun vs H Q _=>∃ (y:Addr) (r:Row) (p:Addr→Prop),vs=[.ref y]∧KnP a H p (.ref y) r∧r.wd=wd∧r.ok∧∀ v H',Same H H'→KnP a H' (New H) v r→Q v H'
theorem Kns.reps {H:Hp} {p:Addr→Prop} {vs:List V} {rs:List Row} (h:Kns a H p vs rs):Reps H p vs (rs.map (jJ a)):=⟨by rw [h.len,List.length_map],fun i v d e1 e2=>by
 rw [List.getElem?_map,Option.map_eq_some_iff] at e2
 obtain ⟨r,e2,rfl⟩:=e2
 exact h.g i v r e1 e2⟩
theorem Bts.reps {H:Hp} {p:Addr→Prop} {vs:List V} {rs:List (Int × Int)} (h:Bts a H p vs rs):Reps H p vs (rs.map (xr a)):=⟨by rw [h.len,List.length_map],fun i v d e1 e2=>by
 rw [List.getElem?_map,Option.map_eq_some_iff] at e2
 obtain ⟨r,e2,rfl⟩:=e2
 exact h.g i v r e1 e2⟩
theorem Kns.of {H:Hp} {p:Addr→Prop} {vs:List V} {rs:List Row} (h:Reps H p vs (rs.map (jJ a))):Kns a H p vs rs:=⟨by rw [h.len,List.length_map],fun i v r e1 e2=>h.g i v _ e1 (by rw [List.getElem?_map,e2]; rfl)⟩
theorem Bts.of {H:Hp} {p:Addr→Prop} {vs:List V} {rs:List (Int × Int)} (h:Reps H p vs (rs.map (xr a))):Bts a H p vs rs:=⟨by rw [h.len,List.length_map],fun i v r e1 e2=>h.g i v _ e1 (by rw [List.getElem?_map,e2]; rfl)⟩
theorem ok_Source_copied (T:Txt K mg a) (F:Fun K "copied" "Source.copied" s_Source_copied f fd):FnOk P w K mg base (CXr P w) 4 f fd ["self"] (qh a .source):=by
 refine F.okx sc_Source_copied ?_ ?_
 ·walk_at "i"
 walk_at "k"
 refine oE3 h fun y z1_ p z2_=>oA5 z2_ fun z3_ hK hw hok k=>?_
 clear h
 obtain ⟨wd,ins,outs,pace,kinds⟩:=z1_
 subst z3_
 cases hw
 have hK0:=hK
 refine oE6 hK.inv fun y' dx l1 l2 l3 fs z1_=>oA9 z1_ fun e p0 p1 p2 p3 h0 e1 e2 z2_=>oA5 z2_ fun e3 h1 h2 h3 h4=>?_
 cases e
 obtain ⟨hk,hk'⟩:=h3 rfl
 have hp:=h4 (.inl rfl)
 refine oA7 hok fun q1 z1_ q3 q4 q5 q6 q7=>?_
 clear hok
 obtain ⟨ov,q2⟩:=z1_
 simp only at q1 q2
 subst q1 q2
 walk_at "T"
 refine ⟨_,(zd (zj (qa ⟨rfl,rfl,rfl⟩ hr (za (zp (zl (pv 0) rfl) zc) (za (zl (pv 0) rfl) (za (zl (pv 0) rfl) zb)))))),?_⟩
 walk_at "go"
 refine iE4 a.Source _ _ _ ⟨(xY T).mono,iE5 y a.Source dx fs _ (iA6 rfl h0 T.C_Source T.N_Source_outs e2 (zq (SqL.of h2) at0 ?_))⟩
 refine ra h0 T.C_Source T.N_Source_pace hp ?_
 refine ra h0 T.C_Source T.N_Source_kinds hk ?_
 intro z dz hz hdz hne
 refine iE6 z dz l3 (.int ov) pace kinds (iA6 rfl upd_same (SqL.of (z9 hz hdz hk')) (ne_of_none hk' hz) (fun _ H' m1 m2 m3 s' g1 g2 g3 g4 n1 n2 n3=>⟨rfl,?_⟩) (fun hbad=>absurd (iA5 q3 q4 q5 q6 q7) hbad))
 exact k _ _ (Own.of_new hz hdz s') (Zh (p:=New H) (ins:=[]) (outs:=[ov]) hz (zE n1) (zE n2) (zE n3) g1 g2 g3 g4)
theorem m_Source_copied (T:Txt K mg a):MCal P w K mg base a.Source "copied" 4 ["self"] [] (qh a .source):=T.h_Source_copied.cal T.C_Source (ok_Source_copied T)
theorem ok_Drain_copied (T:Txt K mg a) (F:Fun K "copied" "Drain.copied" s_Drain_copied f fd):FnOk P w K mg base (CXr P w) 4 f fd ["self"] (qh a .drain):=by
 refine F.okx sc_Drain_copied ?_ ?_
 ·walk_at "i"
 walk_at "k"
 refine oE3 h fun y z1_ p z2_=>oA5 z2_ fun z3_ hK hw hok k=>?_
 clear h
 obtain ⟨wd,ins,outs,pace,kinds⟩:=z1_
 subst z3_
 cases hw
 have hK0:=hK
 refine oE6 hK.inv fun y' dx l1 l2 l3 fs z1_=>oA9 z1_ fun e p0 p1 p2 p3 h0 e1 e2 z2_=>oA5 z2_ fun e3 h1 h2 h3 h4=>?_
 cases e
 have hp:=h4 (.inr rfl)
 refine oA4 hok fun z1_ q2 q3 q4=>?_
 clear hok
 obtain ⟨iv',q1⟩:=z1_
 simp only at q1 q2
 subst q1 q2
 walk_at "T"
 refine ⟨_,(zd (zj (qa ⟨rfl,rfl,rfl⟩ hr (za (zp (zl (pv 0) rfl) zc) (za (zl (pv 0) rfl) zb))))),?_⟩
 walk_at "go"
 refine iE4 a.Drain _ _ _ ⟨(xZ T).mono,iE5 y a.Drain dx fs _ (iA6 rfl h0 T.C_Drain T.N_Drain_ins e1 (zq (SqL.of h1) at0 ?_))⟩
 refine ra h0 T.C_Drain T.N_Drain_pace hp ?_
 intro z dz hz hdz hne
 refine iE4 z dz (.int iv') pace (iA3 rfl upd_same ?_)
 rw [if_pos ⟨q3,q4⟩]
 intro H' m1 m2 s' g1 g2 g3 n1 n2
 exact ⟨rfl,k _ _ (Own.of_new hz hdz s') (Qt (p:=New H) (ins:=[iv']) (outs:=[]) hz (zE n1) (zE n2) g1 g2 g3)⟩
theorem m_Drain_copied (T:Txt K mg a):MCal P w K mg base a.Drain "copied" 4 ["self"] [] (qh a .drain):=T.h_Drain_copied.cal T.C_Drain (ok_Drain_copied T)
theorem ok_Parter_copied (T:Txt K mg a) (F:Fun K "copied" "Parter.copied" s_Parter_copied f fd):FnOk P w K mg base (CXr P w) 4 f fd ["self"] (qh a .parter):=by
 refine F.okx sc_Parter_copied ?_ ?_
 ·walk_at "i"
 walk_at "k"
 refine oE3 h fun y z1_ p z2_=>oA5 z2_ fun z3_ hK hw hok k=>?_
 clear h
 obtain ⟨wd,ins,outs,pace,kinds⟩:=z1_
 subst z3_
 cases hw
 have hK0:=hK
 refine oE6 hK.inv fun y' dx l1 l2 l3 fs z1_=>oA9 z1_ fun e p0 p1 p2 p3 h0 e1 e2 z2_=>oA5 z2_ fun e3 h1 h2 h3 h4=>?_
 cases e
 obtain ⟨⟨iv',q1⟩,q3,q4⟩:=hok
 simp only at q1 q3 q4
 subst q1
 walk_at "T"
 refine ⟨_,(zd (zj (qa ⟨rfl,rfl,rfl⟩ hr (za (zp (zl (pv 0) rfl) zc) (za (zl (pv 0) rfl) zb))))),?_⟩
 walk_at "go"
 refine iE4 a.Parter _ _ _ ⟨(vv T).mono,iE5 y a.Parter dx fs _ (iA6 rfl h0 T.C_Parter T.N_Parter_ins e1 (zq (SqL.of h1) at0 ?_))⟩
 refine ra h0 T.C_Parter T.N_Parter_outs e2 ?_
 intro z dz hz hdz hne
 refine iE5 z dz l2 (.int iv') (iv outs) (iA5 rfl upd_same (SqL.of (z9 hz hdz h2)) (ne_of_none h2 hz) ?_)
 rw [if_pos (by rw [iv,List.length_map]; exact ⟨q3,q4⟩)]
 intro H' m1 m2 s' g1 g2 g3 n1 n2
 exact ⟨rfl,k _ _ (Own.of_new hz hdz s') (Zi (p:=New H) (ins:=[iv']) (outs:=outs) hz (zE n1) (zE n2) g1 g2 g3)⟩
theorem m_Parter_copied (T:Txt K mg a):MCal P w K mg base a.Parter "copied" 4 ["self"] [] (qh a .parter):=T.h_Parter_copied.cal T.C_Parter (ok_Parter_copied T)
theorem ok_FirstParter_copied (T:Txt K mg a) (F:Fun K "copied" "FirstParter.copied" s_FirstParter_copied f fd):FnOk P w K mg base (CXr P w) 4 f fd ["self"] (qh a .first):=by
 refine F.okx sc_FirstParter_copied ?_ ?_
 ·walk_at "i"
 walk_at "k"
 refine oE3 h fun y z1_ p z2_=>oA5 z2_ fun z3_ hK hw hok k=>?_
 clear h
 obtain ⟨wd,ins,outs,pace,kinds⟩:=z1_
 subst z3_
 cases hw
 have hK0:=hK
 refine oE6 hK.inv fun y' dx l1 l2 l3 fs z1_=>oA9 z1_ fun e p0 p1 p2 p3 h0 e1 e2 z2_=>oA5 z2_ fun e3 h1 h2 h3 h4=>?_
 cases e
 obtain ⟨⟨iv',q1⟩,q3,q4⟩:=hok
 simp only at q1 q3 q4
 subst q1
 walk_at "T"
 refine ⟨_,(zd (zj (qa ⟨rfl,rfl,rfl⟩ hr (za (zp (zl (pv 0) rfl) zc) (za (zl (pv 0) rfl) zb))))),?_⟩
 walk_at "go"
 refine iE4 a.FirstParter _ _ _ ⟨(xq T).mono,iE5 y a.FirstParter dx fs _ (iA6 rfl h0 T.C_FirstParter T.N_FirstParter_ins e1 (zq (SqL.of h1) at0 ?_))⟩
 refine ra h0 T.C_FirstParter T.N_FirstParter_outs e2 ?_
 intro z dz hz hdz hne
 refine iE5 z dz l2 (.int iv') (iv outs) (iA5 rfl upd_same (SqL.of (z9 hz hdz h2)) (ne_of_none h2 hz) ?_)
 rw [if_pos (by rw [iv,List.length_map]; exact ⟨q3,q4⟩)]
 intro H' m1 m2 s' g1 g2 g3 n1 n2
 exact ⟨rfl,k _ _ (Own.of_new hz hdz s') (Qs (p:=New H) (ins:=[iv']) (outs:=outs) hz (zE n1) (zE n2) g1 g2 g3)⟩
theorem m_FirstParter_copied (T:Txt K mg a):MCal P w K mg base a.FirstParter "copied" 4 ["self"] [] (qh a .first):=T.h_FirstParter_copied.cal T.C_FirstParter (ok_FirstParter_copied T)
theorem ok_Sieve_copied (T:Txt K mg a) (F:Fun K "copied" "Sieve.copied" s_Sieve_copied f fd):FnOk P w K mg base (CXr P w) 4 f fd ["self"] (qh a .sieve):=by
 refine F.okx sc_Sieve_copied ?_ ?_
 ·walk_at "i"
 walk_at "k"
 refine oE3 h fun y z1_ p z2_=>oA5 z2_ fun z3_ hK hw hok k=>?_
 clear h
 obtain ⟨wd,ins,outs,pace,kinds⟩:=z1_
 subst z3_
 cases hw
 have hK0:=hK
 refine oE6 hK.inv fun y' dx l1 l2 l3 fs z1_=>oA9 z1_ fun e p0 p1 p2 p3 h0 e1 e2 z2_=>oA5 z2_ fun e3 h1 h2 h3 h4=>?_
 cases e
 refine oA3 hok fun z1_ q3 z2_=>oE1 z2_ fun kk z3_=>oA3 z3_ fun q4 q5 q6=>?_
 clear hok
 obtain ⟨iv',q1⟩:=z1_
 simp only at q1 q3 q4
 subst q1 q4
 walk_at "T"
 refine ⟨_,(zd (zj (qa ⟨rfl,rfl,rfl⟩ hr (za (zp (zl (pv 0) rfl) zc) (za (zl (pv 0) rfl) (za (zl (pv 0) rfl) zb)))))),?_⟩
 walk_at "go"
 refine iE4 a.Sieve _ _ _ ⟨(Q9 T).mono,iE5 y a.Sieve dx fs _ (iA6 rfl h0 T.C_Sieve T.N_Sieve_ins e1 (zq (SqL.of h1) at0 ?_))⟩
 refine ra h0 T.C_Sieve T.N_Sieve_outs e2 ?_
 refine rdR_fld hK0 T.C_Sieve T.N_Sieve_kind (knF_kind rfl rfl) fun u ru=>?_
 cases ru
 intro z dz hz hdz hne
 refine iE6 z dz l2 (.int iv') (iv outs) kk (iA5 rfl upd_same (SqL.of (z9 hz hdz h2)) (ne_of_none h2 hz) ?_)
 rw [if_pos (by rw [iv,List.length_map]; exact ⟨q3,q5,q6⟩)]
 intro H' m1 m2 s' g1 g2 g3 n1 n2
 exact ⟨rfl,k _ _ (Own.of_new hz hdz s') (Qr (p:=New H) (ins:=[iv']) (outs:=outs) hz (zE n1) (zE n2) g1 g2 g3)⟩
theorem m_Sieve_copied (T:Txt K mg a):MCal P w K mg base a.Sieve "copied" 4 ["self"] [] (qh a .sieve):=T.h_Sieve_copied.cal T.C_Sieve (ok_Sieve_copied T)
theorem ok_Joiner_copied (T:Txt K mg a) (F:Fun K "copied" "Joiner.copied" s_Joiner_copied f fd):FnOk P w K mg base (CXr P w) 4 f fd ["self"] (qh a .joiner):=by
 refine F.okx sc_Joiner_copied ?_ ?_
 ·walk_at "i"
 walk_at "k"
 refine oE3 h fun y z1_ p z2_=>oA5 z2_ fun z3_ hK hw hok k=>?_
 clear h
 obtain ⟨wd,ins,outs,pace,kinds⟩:=z1_
 subst z3_
 cases hw
 have hK0:=hK
 refine oE6 hK.inv fun y' dx l1 l2 l3 fs z1_=>oA9 z1_ fun e p0 p1 p2 p3 h0 e1 e2 z2_=>oA5 z2_ fun e3 h1 h2 h3 h4=>?_
 cases e
 obtain ⟨⟨ov,q1⟩,q3,q4⟩:=hok
 simp only at q1 q3 q4
 subst q1
 walk_at "T"
 refine ⟨_,(zd (zj (qa ⟨rfl,rfl,rfl⟩ hr (za (zl (pv 0) rfl) (za (zp (zl (pv 0) rfl) zc) zb))))),?_⟩
 walk_at "go"
 refine iE4 a.Joiner _ _ _ ⟨(vx T).mono,iE5 y a.Joiner dx fs _ (iA6 rfl h0 T.C_Joiner T.N_Joiner_ins e1 ?_)⟩
 refine ra h0 T.C_Joiner T.N_Joiner_outs e2 (zq (SqL.of h2) at0 ?_)
 intro z dz hz hdz hne
 refine iE5 z dz l1 (.int ov) (iv ins) (iA5 rfl upd_same (SqL.of (z9 hz hdz h1)) (ne_of_none h1 hz) ?_)
 rw [if_pos (by rw [iv,List.length_map]; exact ⟨q3,q4⟩)]
 intro H' m1 m2 s' g1 g2 g3 n1 n2
 exact ⟨rfl,k _ _ (Own.of_new hz hdz s') (Zj (p:=New H) (ins:=ins) (outs:=[ov]) hz (zE n1) (zE n2) g1 g2 g3)⟩
theorem m_Joiner_copied (T:Txt K mg a):MCal P w K mg base a.Joiner "copied" 4 ["self"] [] (qh a .joiner):=T.h_Joiner_copied.cal T.C_Joiner (ok_Joiner_copied T)
theorem CT (T:Txt K mg a) (wd:Wd):Cls K (clsA a wd):=by
 cases wd
 ·exact T.C_Source
 ·exact T.C_Drain
 ·exact T.C_Parter
 ·exact T.C_FirstParter
 ·exact T.C_Sieve
 ·exact T.C_Joiner
theorem NI (T:Txt K mg a) (wd:Wd):NoAttr K (clsA a wd) "ins":=by
 cases wd
 ·exact T.N_Source_ins
 ·exact T.N_Drain_ins
 ·exact T.N_Parter_ins
 ·exact T.N_FirstParter_ins
 ·exact T.N_Sieve_ins
 ·exact T.N_Joiner_ins
theorem NO (T:Txt K mg a) (wd:Wd):NoAttr K (clsA a wd) "outs":=by
 cases wd
 ·exact T.N_Source_outs
 ·exact T.N_Drain_outs
 ·exact T.N_Parter_outs
 ·exact T.N_FirstParter_outs
 ·exact T.N_Sieve_outs
 ·exact T.N_Joiner_outs
theorem WT (T:Txt K mg a) (wd:Wd):WI K (clsA a wd):=by
 cases wd
 ·exact T.W_Source
 ·exact T.W_Drain
 ·exact T.W_Parter
 ·exact T.W_FirstParter
 ·exact T.W_Sieve
 ·exact T.W_Joiner
theorem m_copied (T:Txt K mg a) (wd:Wd):MCal P w K mg base (clsA a wd) "copied" 4 ["self"] [] (qh a wd):=by
 cases wd
 ·exact m_Source_copied T
 ·exact m_Drain_copied T
 ·exact m_Parter_copied T
 ·exact m_FirstParter_copied T
 ·exact m_Sieve_copied T
 ·exact m_Joiner_copied T
theorem vY:∀ (xs ys:List Int),xs.Perm ys→xs.Pairwise (·≤·)→ys.Pairwise (·≤·)→xs=ys
 | [],ys,h,_,_=>(List.nil_perm.mp h).symm
 | x :: xs,[],h,_,_=>absurd h.length_eq (by simp)
 | x :: xs,y :: ys,h,hx,hy=>by
  have e:x=y:=by
   have h1:y∈x :: xs:=h.mem_iff.mpr (by simp)
   have h2:x∈y :: ys:=h.mem_iff.mp (by simp)
   rcases List.mem_cons.mp h1 with e | m1
   ·exact e.symm
   rcases List.mem_cons.mp h2 with e | m2
   ·exact e
   have:=(List.pairwise_cons.mp hx).1 y m1
   have:=(List.pairwise_cons.mp hy).1 x m2
   omega
  subst e
  rw [vY xs ys h.cons_inv (List.pairwise_cons.mp hx).2 (List.pairwise_cons.mp hy).2]
def rgI (n:Nat):List Int:=(List.range n).map fun (i:Nat)=>(i:Int)
theorem rgI_sorted (n:Nat):(rgI n).Pairwise (·≤·):=by
 unfold rgI
 rw [List.pairwise_map]
 exact List.pairwise_lt_range.imp fun {i j} h=>by omega
theorem rgL_rgI (n:Nat):rgL 0 n=iv (rgI n):=by
 simp [rgL,iv,rgI,List.map_map,Function.comp_def]
theorem w9:∀ ms ns:List Int,qT (iv ms) (iv ns)=decide (ms=ns)
 | [],[]=>rfl
 | [],_ :: _=>rfl
 | _ :: _,[]=>rfl
 | m :: ms,n :: ns=>by
  show (eqV (.int m) (.int n) && qT (iv ms) (iv ns))=_
  rw [w9 ms ns]
  by_cases e:m=n
  ·subst e; simp [eqV]
  ·simp [eqV,e]
theorem Ji (ns:List Int):(iv ns).all ju=true:=List.all_eq_true.mpr fun x hx=>by
 obtain ⟨n,_,rfl⟩:=List.mem_map.mp hx
 rfl
theorem rd_neI2 {H:Hp} {Q:VK} {p q:Addr} {ms ns:List Int} (h1:SqL K H p (iv ms)) (h2:SqL K H q (iv ns)) (k:Q (.bl (!decide (ms=ns))) H):rNeG K (.ref p) (.ref q) H Q :=
 .inr (.inl ⟨p,q,iv ms,iv ns,rfl,rfl,.inl ⟨h1,h2⟩,Ji ms,Ji ns,by rw [w9]; exact k⟩)
def wB (K:PySem.W.Frag) (a:Ad):Sp:=fun vs H Q E=>∃ (bl kl:Addr) (xs ys:List V),vs=[.ref bl,.ref kl]∧SqL K H bl xs∧SqL K H kl ys∧if (1≤xs.length∧xs.length≤24)∧1≤ys.length∧ys.length≤24 then Q .non H else E (.ref a.BadWork) none H
theorem ok_check_size (T:Txt K mg a) (F:Fun K "check_size" "check_size" s_check_size f fd):FnOk P w K mg base (CXr P w) 1 f fd ["belts","knots"] (wB K a):=by
 refine F.okx sc_check_size ?_ ?_
 ·walk_at "i"
 walk_at "k"
 refine oE4 h fun bl kl xs ys z1_=>oA4 z1_ fun z2_ h1 h2 k=>?_
 clear h
 subst z2_
 obtain ⟨t1,g1⟩:=T.g_MOST_BELTS
 obtain ⟨t2,g2⟩:=T.g_MOST_KNOTS
 walk_at "T"
 refine ⟨_,(zh (zy (qk (qK qX qX zc (zV zP zO (za (pv 0) zb)) xn))  (zd (qB ⟨rfl,rfl,rfl⟩ rfl (za qG zb)))  zk)  (zd (zy (qk (qK qX qX zc (zV zP zO (za (pv 1) zb)) xn))  (zd (qB ⟨rfl,rfl,rfl⟩ rfl (za qG zb)))  zk))),?_⟩
 walk_at "go"
 have bad:¬ ((1≤xs.length∧xs.length≤24)∧1≤ys.length∧ys.length≤24)→∃ C,mg "BadWork"=some (Value.ref C)∧XC K C∧E (Value.ref C) none H:=fun h=>by
  rw [if_neg h] at k
  exact ⟨a.BadWork,iA3 T.g_BadWork T.X_BadWork k⟩
 refine ⟨_,.inl ⟨_,h1,rfl⟩,?_⟩
 walk_at "go"
 refine ite2 (fun b1=>?_) (fun b1=>bad (by omega))
 refine iE2 (.int 24) _ (iA3 g1 ⟨_,rfl⟩ ?_)
 walk_at "go"
 refine ite2 (fun b2=>bad (by omega)) (fun b2=>?_)
 walk_at "go"
 refine ⟨_,.inl ⟨_,h2,rfl⟩,?_⟩
 walk_at "go"
 refine ite2 (fun b3=>?_) (fun b3=>bad (by omega))
 refine iE2 (.int 24) _ (iA3 g2 ⟨_,rfl⟩ ?_)
 walk_at "go"
 refine ite2 (fun b4=>bad (by omega)) (fun b4=>?_)
 rw [if_pos (by omega)] at k
 walk_at "go"
 exact k
theorem c_check_size (T:Txt K mg a):Cal P w K mg base "check_size" 1 ["belts","knots"] [] (wB K a):=T.h_check_size.cal (ok_check_size T)
def wY (K:PySem.W.Frag) (a:Ad):Sp:=fun vs H Q E=>∃ (l:Addr) (ns:List Int) (n:Nat),vs=[.ref l,.int n]∧SqL K H l (iv ns)∧ns.length < 64∧n≤1000∧(ns.Perm (rgI n)→∀ H',Same H H'→Q .non H')∧(¬ ns.Perm (rgI n)→∀ H',Same H H'→E (.ref a.BadWork) none H')
theorem ok_check_each_once (T:Txt K mg a) (F:Fun K "check_each_once" "check_each_once" s_check_each_once f fd):FnOk P w K mg base (CXr P w) 1 f fd ["named","size"] (wY K a):=by
 refine F.okx sc_check_each_once ?_ ?_
 ·walk_at "i"
 walk_at "k"
 refine oE3 h fun l ns n z1_=>oA6 z1_ fun z2_ hl h64 hn kok kbad=>?_
 clear h
 subst z2_
 walk_at "T"
 refine ⟨_,(zd (zy (zn (jW hr.units1) (zV bi_sorted bo_sorted (za (pv 0) zb)) (xR (bt_listR rfl) qF (za (pe_rg1 (za (pv 1) zb)) zb)) (zo _))  (zd (qB ⟨rfl,rfl,rfl⟩ rfl (za qG zb)))  zk)),?_⟩
 walk_at "go"
 refine iE2 l ns (iA4 rfl hl h64 (fun ms q1 hp hs hq1=>?_))
 walk_at "go"
 intro q2 hq2
 refine iE3 q2 0 n (iA4 rfl upd_same (iA5 (by omega) (by omega) (by omega) (by omega) (by omega)) (fun q3 hq3=>?_))
 rw [show ((n:Int) - 0).toNat=n by omega,rgL_rgI]
 walk_at "go"
 have sm:Same H (upd (upd (upd H q1 (.lst (iv ms))) q2 (.rng 0 n)) q3 (.lst (iv (rgI n)))):=(ze hq1).trans ((ze hq2).trans (ze hq3))
 refine rd_neI2 (ms:=ms) (ns:=rgI n) (SqL.of (upd_keep (upd_keep upd_same hq2) hq3)) (SqL.of upd_same) ?_
 walk_at "go"
 refine ite2 (fun b1=>?_) (fun b1=>?_)
 ·refine ⟨a.BadWork,iA3 T.g_BadWork T.X_BadWork (kbad (fun z=>b1 (vY _ _ (hp.trans z) hs (rgI_sorted n))) _ sm)⟩
 ·walk_at "go"
  refine kok ?_ _ sm
  have e:ms=rgI n:=Decidable.of_not_not b1
  rw [← e]
  exact hp.symm
theorem jk (T:Txt K mg a):Cal P w K mg base "check_each_once" 1 ["named","size"] [] (wY K a):=T.h_check_each_once.cal (ok_check_each_once T)
def qZ (rs:List Row):List Int:=rs.flatMap Row.outs
def qf (rs:List Row):List Int:=rs.flatMap Row.ins
def wf (l1 l2:Addr):List (Str × V):=putF "knots" (.ref l2) (putF "belts" (.ref l1) [])
def zL (bs:List (Int × Int)) (rs:List Row):Prop:=((1≤bs.length∧bs.length≤24)∧1≤rs.length∧rs.length≤24)∧(qZ rs).Perm (rgI bs.length)∧(qf rs).Perm (rgI bs.length)
def xv (K:PySem.W.Frag) (a:Ad):Sp:=fun vs H Q E=>∃ (y dx bl kl:Addr) (bvs kvs:List V) (bs:List (Int × Int)) (rs:List Row) (p:Addr→Prop),vs=[.ref y,.ref bl,.ref kl]∧H y=some (.ins a.Work dx [])∧bl≠y∧kl≠y∧(∀ b,p b→b≠y) ∧
 H bl=some (.lst bvs)∧H kl=some (.lst kvs)∧Bts a H p bvs bs∧Kns a H p kvs rs∧(∀ b∈bs,zA b.1 b.2)∧(∀ r∈rs,r.ok)∧(qZ rs).length < 64∧(qf rs).length < 64∧bs.length≤1000 ∧
 (zL bs rs→∀ H' l1 l2 bvs' kvs',Own H H' y→H' y=some (.ins a.Work dx (wf l1 l2))→H' l1=some (.lst bvs')→H' l2=some (.lst kvs')→Bts a H' (New H) bvs' bs→Kns a H' (New H) kvs' rs→H l1=none→H l2=none→Q .non H') ∧
 (¬ zL bs rs→∀ H',Same H H'→E (.ref a.BadWork) none H')
theorem fedOf_succ {rs:List Row} {i:Nat} {r:Row} (h:rs[i]?=some r):qZ (rs.take (i + 1))=qZ (rs.take i) ++ r.outs:=by
 unfold qZ; rw [List.take_add_one,h,List.flatMap_append]; simp
theorem takenOf_succ {rs:List Row} {i:Nat} {r:Row} (h:rs[i]?=some r):qf (rs.take (i + 1))=qf (rs.take i) ++ r.ins:=by
 unfold qf; rw [List.take_add_one,h,List.flatMap_append]; simp
theorem jc (f:Row→List Int) (rs:List Row) (i:Nat):((rs.take i).flatMap f).length≤(rs.flatMap f).length:=by
 conv=>rhs; rw [← List.take_append_drop i rs,List.flatMap_append,List.length_append]
 omega
theorem JQ (xs ys:List Int):iv xs ++ iv ys=iv (xs ++ ys):=by rw [iv,iv,iv,List.map_append]
theorem ok_Work_init (T:Txt K mg a) (F:Fun K "__init__" "Work.__init__" s_Work_init f fd):FnOk P w K mg base (CXr P w) 5 f fd ["self","belts","knots"] (xv K a):=by
 refine F.okx sc_Work_init ?_ ?_
 ·walk_at "i"
 walk_at "k"
 refine oE5 h fun y dx bl kl bvs z1_=>oE4 z1_ fun kvs bs rs p z2_=>oA9 z2_ fun z3_ hy nby nky hpy hb hk hB z4_=>oA8 z4_ fun hKs hbo hro h64 h64' hlb kok kbad=>?_
 clear h
 subst z3_
 walk_at "T"
 refine ⟨_,(zg (zt (zv ⟨rfl,rfl,rfl⟩ hr (za (pv 1) (za (pv 2) zb))))  (zg (zx 3 sc_Work_init.nd (zF zb))  (zg (zx 4 sc_Work_init.nd (zF zb))  (zg (qd qC rfl (ql (pv 2)) (pg_n 5 sc_Work_init.nd)  (zg (zt (qq PySem.F.plainAttrs_list PySem.F.slot_list_extend PySem.F.type_list_extend xa (pv 3) (za (zl (pv 5) rfl) zb)))  (zd (zt (qq PySem.F.plainAttrs_list PySem.F.slot_list_extend PySem.F.type_list_extend xa (pv 4) (za (zl (pv 5) rfl) zb))))))  (zg (zt (zv ⟨rfl,rfl,rfl⟩ hr (za (pv 3) (za (zV zP zO (za (pv 1) zb)) zb))))  (zg (zt (zv ⟨rfl,rfl,rfl⟩ hr (za (pv 4) (za (zV zP zO (za (pv 1) zb)) zb))))  (zg (qL (pv 0) (jU (vars:=["belt"]) (caps:=[]) (N:=["belt"]) (ON:=["self","belts","knots","fed","taken","knot"]) (osc:=zf s_Work_init) rfl rfl (by first | decide +kernel | kernel_rfl) rfl rfl (ql (pv 1)) (fun s H fp pins=>(pg_n 0 (show (["belt"]:List Str).Nodup from by decide +kernel))) (fun s H fp pins=>qg) (fun s H fp pins=>(pe_mkN hr (za (zl (pv 0) rfl) (za (zl (pv 0) rfl) zb))))) rfl)  (zd (qL (pv 0) (jU (vars:=["knot"]) (caps:=[]) (N:=["knot"]) (ON:=["self","belts","knots","fed","taken","knot"]) (osc:=zf s_Work_init) rfl rfl (by first | decide +kernel | kernel_rfl) rfl rfl (ql (pv 2)) (fun s H fp pins=>(pg_n 0 (show (["knot"]:List Str).Nodup from by decide +kernel))) (fun s H fp pins=>qg) (fun s H fp pins=>(pe_mthN0 hr (pv 0)))) rfl))))))))),?_⟩
 walk_at "go"
 refine uc (c_check_size T).mono (iE4 bl kl bvs kvs (iA4 rfl (SqL.of hb) (SqL.of hk) (ite2 (fun b1=>?_) (fun b1=>?_))))
 rotate_left
 ·refine kbad (fun z=>b1 ?_) H (Same.refl _)
  rw [hB.len,hKs.len]; exact z.1
 rw [hB.len,hKs.len] at b1
 walk_at "go"
 intro fl hfl
 walk_at "go"
 intro tl htl
 have nft:fl≠tl:=ne_of_none upd_same htl
 have htl0:H tl=none:=zG htl
 walk_at "for"
 walk_at "go"
 have s2:Same H (upd (upd H fl (.lst [])) tl (.lst [])):=(ze hfl).trans (ze htl)
 refine ⟨kl,rfl,.inl ⟨⟨_,SqL.of (s2 _ _ hk)⟩,?_⟩⟩
 let M1_:Nat→St→Hp→Prop:=fun i σ H'=>∃ v5,σ=[some (.ref y),some (.ref bl),some (.ref kl),some (.ref fl),some (.ref tl),v5]∧Same H H'∧H' fl=some (.lst (iv (qZ (rs.take i))))∧H' tl=some (.lst (iv (qf (rs.take i))))
 refine qP (K:=K) (a:=kl) (xs:=kvs) M1_ ⟨_,iA4 rfl s2 (upd_keep upd_same htl) upd_same⟩ (fun i σ H' _ ⟨_,_,s,_⟩=>SqL.of (s _ _ hk)) ?_ ?_
 ·intro i x σ H' hi zz_
  refine oE1 zz_ fun v5 z1_=>oA4 z1_ fun z2_ s3 e1 e2=>?_
  clear zz_
  subst z2_
  obtain ⟨r,hr',hKn0⟩:=hKs.at hi
  refine oE6 hKn0.inv fun y1 dx1 l1 l2 l3 fs z1_=>oA9 z1_ fun z2_ p0 p1 p2 p3 h0 f1 f2 z3_=>oA5 z3_ fun f3 h1 h2 h3 h4=>?_
  subst z2_
  have L1:=jc Row.outs rs i
  have L2':=jc Row.ins rs i
  have L3:=jc Row.outs rs (i + 1)
  have L4:=jc Row.ins rs (i + 1)
  have E1:=fedOf_succ hr'
  have E2:=takenOf_succ hr'
  have n1:∀ {b:Addr} {o:HO},H b=some o→b≠fl:=fun h=>ne_of_none h hfl
  have n2:∀ {b:Addr} {o:HO},H b=some o→b≠tl:=fun h=>ne_of_none h htl0
  walk_at "go"
  refine ⟨.inl ⟨rfl,_,SqL.of e1⟩,iE5 y1 (clsA a r.wd) dx1 fs _ (iA6 rfl (s3 _ _ h0) (CT T _) (NO T _) f2 ?_)⟩
  refine iE4 fl l2 _ _ (iA6 rfl rfl e1 (s3 _ _ h2) ?_ ?_)
  ·refine Nat.le_of_lt (zm ?_)
   have:=congrArg List.length E1
   rw [List.length_append] at this
   rw [iv,iv,List.length_map,List.length_map]
   unfold qZ at this h64 ⊢
   omega
  walk_at "go"
  have e2':upd H' fl (.lst (iv (qZ (rs.take i)) ++ iv r.outs)) tl=some (.lst (iv (qf (rs.take i)))):=by rw [upd_ne (Ne.symm nft)]; exact e2
  refine ⟨.inl ⟨rfl,_,SqL.of e2'⟩,iE5 y1 (clsA a r.wd) dx1 fs _ (iA6 rfl ?_ (CT T _) (NI T _) f1 ?_)⟩
  ·rw [upd_ne (n1 h0)]; exact s3 _ _ h0
  refine iE4 tl l1 _ (iv r.ins) (iA6 rfl rfl e2' ?_ ?_ ?_)
  ·rw [upd_ne (n1 h1)]; exact s3 _ _ h1
  ·refine Nat.le_of_lt (zm ?_)
   have:=congrArg List.length E2
   rw [List.length_append] at this
   rw [iv,iv,List.length_map,List.length_map]
   unfold qf at this h64' ⊢
   omega
  refine ⟨_,iA4 rfl (fun b o hb=>?_) ?_ ?_⟩
  ·rw [upd_ne (n2 hb),upd_ne (n1 hb)]; exact s3 _ _ hb
  ·rw [upd_ne nft,upd_same,E1,JQ]
  ·rw [upd_same,E2,JQ]
 ·intro σ H1 zz_
  refine oE1 zz_ fun v5 z1_=>oA4 z1_ fun z2_ s3 e1 e2=>?_
  clear zz_
  subst z2_
  rw [hKs.len,List.take_length] at e1 e2
  walk_at "go"
  refine uc (jk T).mono ⟨m_len,⟨_,⟨.inl ⟨_,SqL.of (s3 _ _ hb),rfl⟩,?_⟩⟩⟩
  rw [hB.len]
  refine iE3 fl (qZ rs) bs.length (iA6 rfl (SqL.of e1) h64 hlb (fun g1 H2 s4=>?_) (fun g1 H2 s4=>kbad (fun z=>g1 z.2.1) _ (s3.trans s4)))
  walk_at "go"
  refine uc (jk T).mono ⟨m_len,⟨_,⟨.inl ⟨_,SqL.of (s4 _ _ (s3 _ _ hb)),rfl⟩,?_⟩⟩⟩
  rw [hB.len]
  refine iE3 tl (qf rs) bs.length (iA6 rfl (SqL.of (s4 _ _ e2)) h64' hlb (fun g2 H3 s5=>?_) (fun g2 H3 s5=>kbad (fun z=>g2 z.2.2) _ (s3.trans (s4.trans s5))))
  have kok:=kok ⟨b1,g1,g2⟩
  have s6:=s3.trans (s4.trans s5)
  clear s3 s4 s5 e1 e2
  clear g1 g2
  walk_at "go"
  walk_at "lc"
  walk_at "go"
  refine ⟨bl,rfl,.inl ⟨⟨_,SqL.of (s6 _ _ hb)⟩,fun _ _ _ _ acc hacc=>?_⟩⟩
  have nacc:H acc=none:=zJ s6 hacc
  let M2_:Nat→St→Hp→Prop:=fun i σ H'=>∃ v us,σ=[v]∧Same H3 H'∧H' acc=some (.lst us)∧Bts a H' (fun b=>H3 b=none∧b≠acc) us (bs.take i)
  refine qP (K:=K) (a:=bl) (xs:=bvs) M2_ (iE2 _ ([]) (iA4 rfl (ze hacc) upd_same (by rw [List.take_zero]; exact .nil))) (fun i σ H' _ ⟨_,_,_,s,_⟩=>SqL.of (s _ _ (s6 _ _ hb))) ?_ ?_
  ·intro i x σ H' hi zz_
   refine oE2 zz_ fun v us z1_=>oA4 z1_ fun z2_ s7 e1 hU=>?_
   clear zz_
   subst z2_
   obtain ⟨⟨rm,pc⟩,hr',hBt0⟩:=hB.at hi
   refine oE3 hBt0.inv fun y1 dx1 fs z1_=>oA5 z1_ fun z2_ p0 h0 f1 f2=>?_
   subst z2_
   have hok:=hbo _ (List.mem_of_getElem? hr')
   have hil:i < bs.length:=(List.getElem?_eq_some_iff.mp hr').1
   have h0':=s7 _ _ (s6 _ _ h0)
   walk_at "go"
   refine iE4 a.Belt _ _ _ ⟨(xA T).mono,iE5 y1 a.Belt dx1 fs _ (iA6 rfl h0' T.C_Belt T.N_Belt_room f1 (iE5 y1 a.Belt dx1 fs _ (iA6 rfl h0' T.C_Belt T.N_Belt_pace f2 ?_)))⟩
   intro z dz hz hdz hne
   refine iE4 z dz rm pc (iA3 rfl upd_same ?_)
   rw [if_pos hok,xJ]
   have sN:Same H' (upd (upd H' dz (.own z)) z (.ins a.Belt dz (bf rm pc))):=fun b o h=>by rw [upd_ne (ne_of_none h hz),upd_ne (ne_of_none h hdz)]; exact h
   have hz':upd (upd H' dz (.own z)) z (.ins a.Belt dz (bf rm pc)) z=some (.ins a.Belt dz (bf rm pc)):=upd_same
   generalize upd (upd H' dz (.own z)) z (.ins a.Belt dz (bf rm pc))=H4 at sN hz' ⊢
   have hzn:z≠acc:=fun q=>by rw [q,e1] at hz; cases hz
   refine ⟨rfl,⟨_,iA3 (sN _ _ e1) (zm (by have:=hU.len; rw [List.length_take] at this; omega)) (iE2 _ (us ++ [.ref z]) (iA4 rfl (fun b o hb=>?_) upd_same ?_))⟩⟩
   ·rw [upd_ne (ne_of_none hb hacc)]; exact sN _ _ (s7 _ _ hb)
   ·rw [List.take_add_one,hr']
    refine Bts.push (hU.keep fun b o hp hb=>⟨hp,by rw [upd_ne hp.2]; exact sN _ _ hb⟩) (Xe (p:=fun b=>H3 b=none∧b≠acc) ⟨zJ s7 hz,hzn⟩ (by rw [upd_ne hzn]; exact hz'))
  ·intro σ H4 zz_
   refine oE2 zz_ fun v us z1_=>oA4 z1_ fun z2_ s7 e1 hU=>?_
   clear zz_
   subst z2_
   rw [hB.len,List.take_length] at hU
   have s8:=s6.trans s7
   have nacy:acc≠y:=(ne_of_none hy nacc).symm
   walk_at "go"
   refine iE4 y a.Work dx ([]) (iA6 rfl (s8 _ _ hy) T.C_Work T.N_Work_belts (by decide) ?_)
   have o9:Own H (upd H4 y (.ins a.Work dx (putF "belts" (.ref acc) []))) y:=(Same.own s8).trans qD
   have hy9:upd H4 y (.ins a.Work dx (putF "belts" (.ref acc) [])) y=some (.ins a.Work dx (putF "belts" (.ref acc) [])):=upd_same
   have e9:upd H4 y (.ins a.Work dx (putF "belts" (.ref acc) [])) acc=some (.lst us):=by rw [upd_ne nacy]; exact e1
   have hU9:Bts a (upd H4 y (.ins a.Work dx (putF "belts" (.ref acc) []))) (fun b=>H b=none∧b≠y) us bs:=hU.keep fun b o hp hb=>by
    have q1:H b=none:=zJ s6 hp.1
    have q2:b≠y:=(ne_of_none hy q1).symm
    exact ⟨⟨q1,q2⟩,by rw [upd_ne q2]; exact hb⟩
   generalize upd H4 y (.ins a.Work dx (putF "belts" (.ref acc) []))=H5 at o9 hy9 e9 hU9 ⊢
   walk_at "go"
   walk_at "lc"
   walk_at "go"
   refine ⟨kl,rfl,.inl ⟨⟨_,SqL.of (o9 _ _ nky hk)⟩,fun _ _ _ _ ac2 hac2=>?_⟩⟩
   let M3_:Nat→St→Hp→Prop:=fun i σ H'=>∃ v us2,σ=[v]∧Same H5 H'∧H' ac2=some (.lst us2)∧Kns a H' (fun b=>H5 b=none∧b≠ac2) us2 (rs.take i)
   refine qP (K:=K) (a:=kl) (xs:=kvs) M3_ (iE2 _ ([]) (iA4 rfl (ze hac2) upd_same (by rw [List.take_zero]; exact .nil))) (fun i σ H' _ ⟨_,_,_,s,_⟩=>SqL.of (s _ _ (o9 _ _ nky hk))) ?_ ?_
   ·intro i x σ H' hi zz_
    refine oE2 zz_ fun v us2 z1_=>oA4 z1_ fun z2_ s10 e2 hV=>?_
    clear zz_
    subst z2_
    obtain ⟨r,hr',hKn⟩:=hKs.at hi
    have hok:=hro _ (List.mem_of_getElem? hr')
    have hil:i < rs.length:=(List.getElem?_eq_some_iff.mp hr').1
    have hKn':KnP a H' p x r:=hKn.keep fun b o hp hb=>⟨hp,s10 _ _ (o9 _ _ (hpy b hp) hb)⟩
    refine oE6 hKn'.inv fun y1 dx1 l1 l2 l3 fs z1_=>oA9 z1_ fun z2_ p0 p1 p2 p3 h0 f1 f2 z3_=>oA5 z3_ fun f3 h1 h2 h3 h4=>?_
    subst z2_
    walk_at "go"
    refine iE7 y1 (clsA a r.wd) dx1 fs _ _ _ (iA5 rfl h0 f3 ((m_copied T r.wd).mono) ?_)
    refine iE3 y1 r p (iA5 rfl hKn' rfl hok (fun v' H6 s11 hN=>?_))
    refine ⟨_,iA3 (s11 _ _ e2) (zm (by have:=hV.len; rw [List.length_take] at this; omega)) (iE2 _ (us2 ++ [v']) (iA4 rfl (fun b o hb=>?_) upd_same ?_))⟩
    ·rw [upd_ne (ne_of_none hb hac2)]; exact s11 _ _ (s10 _ _ hb)
    ·rw [List.take_add_one,hr']
     refine Kns.append (hV.keep fun b o hp hb=>⟨hp,by rw [upd_ne hp.2]; exact s11 _ _ hb⟩) (Kns.one (hN.keep fun b o hp hb=>?_))
     have q2:b≠ac2:=fun z=>by rw [z] at hp; rw [New,e2] at hp; cases hp
     exact ⟨⟨zJ s10 hp,q2⟩,by rw [upd_ne q2]; exact hb⟩
   ·intro σ H6 zz_
    refine oE2 zz_ fun v us2 z1_=>oA4 z1_ fun z2_ s10 e2 hV=>?_
    clear zz_
    subst z2_
    rw [hKs.len,List.take_length] at hV
    have hy10:=s10 _ _ hy9
    walk_at "go"
    refine iE4 y a.Work dx _ (iA6 rfl hy10 T.C_Work T.N_Work_knots (by show 1 < 1000; decide) ?_)
    have n2y:ac2≠y:=fun z=>by rw [z,hy9] at hac2; cases hac2
    have ho:∀ b,H5 b=none→b≠y→H b=none:=fun b h1 h2=>by
     cases e:H b with
     | none=>rfl
     | some o=>rw [o9 b o h2 e] at h1; cases h1
    refine kok _ acc ac2 us us2 ((o9.trans (Same.own s10)).trans qD) upd_same ?_ ?_ ?_ ?_ nacc (ho _ hac2 n2y)
    ·rw [upd_ne nacy]; exact s10 _ _ e9
    ·rw [upd_ne n2y]; exact e2
    ·exact hU9.keep fun b o hp hb=>⟨hp.1,by rw [upd_ne hp.2]; exact s10 _ _ hb⟩
    ·refine hV.keep fun b o hp hb=>?_
     have q:b≠y:=fun z=>by rw [z,hy9] at hp; cases hp.1
     exact ⟨ho b hp.1 q,by rw [upd_ne q]; exact hb⟩
theorem QQ (T:Txt K mg a):KCal P w K mg base "Work" a.Work 5 ["self","belts","knots"] [] (xv K a):=T.h_Work_init.cal T.g_Work (ok_Work_init T)
def dPair (b:Int × Int):D:=.tup [.int b.1,.int b.2]
theorem ZA (n:Nat):(rgI n).length=n:=by simp [rgI]
theorem Z8 (n:Nat):rgI (n + 1)=rgI n ++ [(n:Int)]:=by simp [rgI,List.range_succ]
theorem zD (ns:List Int):(iv ns).length=ns.length:=by rw [iv,List.length_map]
theorem Qv {ns:List Int} {i:Nat} {x:V} (h:(iv ns)[i]?=some x):∃ n,ns[i]?=some n∧x=.int n:=by
 rw [iv,List.getElem?_map,Option.map_eq_some_iff] at h
 obtain ⟨n,h1,h2⟩:=h
 exact ⟨n,h1,h2.symm⟩
theorem jZ {ns:List Int} {i:Nat} {n:Int} (h:ns[i]?=some n):(iv ns)[i]?=some (.int n):=by rw [iv,List.getElem?_map,h]; rfl
theorem vz (ns:List Int) (k:Nat):(iv ns).eraseIdx k=iv (ns.eraseIdx k):=by
 induction ns generalizing k with
 | nil=>simp [iv]
 | cons n ns ih =>
  cases k with
  | zero=>simp [iv]
  | succ k=>simpa [iv] using ih k
theorem jb (ns:List Int) (n:Int):iv ns ++ [.int n]=iv (ns ++ [n]):=by simp [iv]
abbrev ms4 (L R E B:Addr):List Addr:=[L,R,E,B]
structure WInv (bs:List (Int × Int)) (rs:List Row) (es ks:List Int):Prop where
 tk:(qf rs ++ es).Perm (rgI bs.length)
 fd:(qZ rs ++ ks).Perm (rgI bs.length)
 ro:∀ r∈rs,r.ok
 bo:∀ b∈bs,zA b.1 b.2
theorem fedOf_snoc (rs:List Row) (r:Row):qZ (rs ++ [r])=qZ rs ++ r.outs:=by simp [qZ]
theorem takenOf_snoc (rs:List Row) (r:Row):qf (rs ++ [r])=qf rs ++ r.ins:=by simp [qf]
theorem ZM {us:List V} {n:Nat} (h:us.length=n + 1):∃ a vs,us=a :: vs∧vs.length=n:=by
 cases us with
 | nil=>cases h
 | cons a vs=>exact ⟨a,vs,rfl,Nat.succ.inj h⟩
theorem two_of {us:List V} (h:us.length=2):∃ a b,us=[a,b]:=by
 obtain ⟨a,_,rfl,h1⟩:=ZM h
 obtain ⟨b,_,rfl,h2⟩:=ZM h1
 exact ⟨a,b,by rw [List.length_eq_zero_iff.mp h2]⟩
theorem xP:∀ {es:List Int} {j:Nat} {y:Int},es[j]?=some y→(y :: es.eraseIdx j).Perm es
 | [],_,_,h=>by simp at h
 | e :: es,0,y,h=>by
  have h:e=y:=by simpa using h
  subst h
  simp
 | e :: es,j + 1,y,h=>by
  have ih:=xP (es:=es) (j:=j) (y:=y) (by simpa using h)
  rw [List.eraseIdx_cons_succ]
  exact (List.Perm.swap e y _).trans (ih.cons e)
theorem mem_rgI {n:Nat} {x:Int} (h:x∈rgI n):0≤x∧x < n:=by
 unfold rgI at h
 obtain ⟨i,hi,rfl⟩:=List.mem_map.mp h
 have:=List.mem_range.mp hi
 omega
theorem Jl {α:Type} {xs:List α} {i:Nat} {x:α} (h:xs[i]?=some x):xs.drop i=x :: xs.drop (i + 1):=by
 obtain ⟨hi,rfl⟩:=List.getElem?_eq_some_iff.mp h
 exact List.drop_eq_getElem_cons hi
theorem qW {H:Hp} {p:Addr→Prop} {v:V} {b:Int × Int} (h:Rep H p v (dPair b)):∃ t,v=.ref t∧H t=some (.tup [.int b.1,.int b.2]):=by
 obtain ⟨t,us,rfl,_,ht,rr⟩:=Rep.tup' h
 have g:=rr.g
 obtain ⟨x0,x1,rfl⟩:=two_of rr.len
 have a0:=g 0 x0 _ rfl rfl
 have a1:=g 1 x1 _ rfl rfl
 cases a0
 cases a1
 exact ⟨t,rfl,ht⟩
def qJ (a:Ad) (bs:List (Int × Int)) (rs:List Row):D:=.ob a.Work [("belts",.lst (bs.map (xr a))),("knots",.lst (rs.map (jJ a)))]
theorem wf_eq {l1 l2:Addr}:wf l1 l2=([(("belts":Str),V.ref l1),(("knots":Str),V.ref l2)]:List (Str × V)):=by
 unfold wf; simp only [putF]; rw [if_neg (by decide +kernel)]
theorem ZQ {a:Ad} {bs:List (Int × Int)} {rs:List Row}:([("belts",.lst (bs.map (xr a))),("knots",.lst (rs.map (jJ a)))]:List (Str × D)).lookup ("belts":Str)=some (.lst (bs.map (xr a))):=qx
theorem wk_knots {a:Ad} {bs:List (Int × Int)} {rs:List Row}:([("belts",.lst (bs.map (xr a))),("knots",.lst (rs.map (jJ a)))]:List (Str × D)).lookup ("knots":Str)=some (.lst (rs.map (jJ a))):=(zH (by decide +kernel)).trans qx
theorem wk_no {a:Ad} {bs:List (Int × Int)} {rs:List Row} {f:Str} (h1:f≠"belts") (h2:f≠"knots"):([("belts",.lst (bs.map (xr a))),("knots",.lst (rs.map (jJ a)))]:List (Str × D)).lookup f=none:=(zH h1).trans (zH h2)
theorem JL {H:Hp} {x b:Addr} {o:HO} (h:H x=some o) (hb:H b=none):b ∉ [x]:=fun z=>by rw [List.mem_singleton.mp z,h] at hb; cases hb
section
variable {H:Hp} {z dz:Addr} {Q:VK} {EX:XK}
theorem xb {rm pc:Int} (hz:H z=none) (hdz:H dz=none) (ok:zA rm pc) (k:∀ H',Same H H'→BtP a H' (New H) (.ref z) (rm,pc)→Q .non H'):xw a.Belt a.BadBelt [.ref z,.int rm,.int pc] (upd (upd H dz (.own z)) z (.ins a.Belt dz [])) Q EX:=by
 refine ⟨z,dz,rm,pc,rfl,upd_same,?_⟩
 rw [if_pos ok,xJ]
 exact k _ (fun b o h=>by rw [upd_ne (ne_of_none h hz),upd_ne (ne_of_none h hdz)]; exact h) (Xe hz upd_same)
theorem xW {y pc:Int} (hz:H z=none) (hdz:H dz=none) (h0:0≤pc) (h4:pc≤4) (k:∀ H',Same H H'→KnP a H' (New H) (.ref z) ⟨.drain,[y],[],pc,[]⟩→Q .non H'):jP a.Drain a.BadKnot [.ref z,.int y,.int pc] (upd (upd H dz (.own z)) z (.ins a.Drain dz [])) Q EX:=by
 refine ⟨z,dz,.int y,pc,rfl,upd_same,?_⟩
 rw [if_pos ⟨h0,h4⟩]
 intro H' m1 m2 s' g1 g2 g3 n1 n2
 exact k _ (Own.of_new hz hdz s') (Qt (p:=New H) (ins:=[y]) (outs:=[]) hz (zE n1) (zE n2) g1 g2 g3)
theorem wu {l:Addr} {y pc:Int} {kd:List Int} (hz:H z=none) (hdz:H dz=none) (hl:H l=some (.lst (iv kd))) (h1:1≤pc) (h4:pc≤4) (k1:1≤kd.length) (k6:kd.length≤6) (kk:jg kd) (k:∀ H',Same H H'→KnP a H' (New H) (.ref z) ⟨.source,[],[y],pc,kd⟩→Q .non H'):jz K a.Source a.BadKnot [.ref z,.int y,.int pc,.ref l] (upd (upd H dz (.own z)) z (.ins a.Source dz [])) Q EX:=by
 refine ⟨z,dz,l,.int y,pc,kd,rfl,upd_same,SqL.of (z9 hz hdz hl),ne_of_none hl hz,fun _ H' m1 m2 m3 s' g1 g2 g3 g4 n1 n2 n3=>?_,fun hbad=>absurd ⟨h1,h4,k1,k6,kk⟩ hbad⟩
 exact k _ (Own.of_new hz hdz s') (Zh (p:=New H) (ins:=[]) (outs:=[y]) hz (zE n1) (zE n2) (zE n3) g1 g2 g3 g4)
theorem Zc {l:Addr} {y:Int} {outs:List Int} (hz:H z=none) (hdz:H dz=none) (hl:H l=some (.lst (iv outs))) (h2:2≤outs.length) (h4:outs.length≤4) (k:∀ H',Same H H'→KnP a H' (New H) (.ref z) ⟨.parter,[y],outs,0,[]⟩→Q .non H'):qA K a.Parter a.BadKnot [.ref z,.int y,.ref l] (upd (upd H dz (.own z)) z (.ins a.Parter dz [])) Q EX:=by
 refine ⟨z,dz,l,.int y,iv outs,rfl,upd_same,SqL.of (z9 hz hdz hl),ne_of_none hl hz,?_⟩
 rw [if_pos (by rw [zD]; exact ⟨h2,h4⟩)]
 intro H' m1 m2 s' g1 g2 g3 n1 n2
 exact k _ (Own.of_new hz hdz s') (Zi (p:=New H) (ins:=[y]) (outs:=outs) hz (zE n1) (zE n2) g1 g2 g3)
theorem mk_first {l:Addr} {y:Int} {outs:List Int} (hz:H z=none) (hdz:H dz=none) (hl:H l=some (.lst (iv outs))) (h2:2≤outs.length) (h4:outs.length≤4) (k:∀ H',Same H H'→KnP a H' (New H) (.ref z) ⟨.first,[y],outs,0,[]⟩→Q .non H'):qA K a.FirstParter a.BadKnot [.ref z,.int y,.ref l] (upd (upd H dz (.own z)) z (.ins a.FirstParter dz [])) Q EX:=by
 refine ⟨z,dz,l,.int y,iv outs,rfl,upd_same,SqL.of (z9 hz hdz hl),ne_of_none hl hz,?_⟩
 rw [if_pos (by rw [zD]; exact ⟨h2,h4⟩)]
 intro H' m1 m2 s' g1 g2 g3 n1 n2
 exact k _ (Own.of_new hz hdz s') (Qs (p:=New H) (ins:=[y]) (outs:=outs) hz (zE n1) (zE n2) g1 g2 g3)
theorem mk_sieve {l:Addr} {y kk:Int} {outs:List Int} (hz:H z=none) (hdz:H dz=none) (hl:H l=some (.lst (iv outs))) (h2:outs.length=2) (k0:0≤kk) (k1:kk < qN) (k:∀ H',Same H H'→KnP a H' (New H) (.ref z) ⟨.sieve,[y],outs,0,[kk]⟩→Q .non H'):jM K a.Sieve a.BadKnot [.ref z,.int y,.ref l,.int kk] (upd (upd H dz (.own z)) z (.ins a.Sieve dz [])) Q EX:=by
 refine ⟨z,dz,l,.int y,iv outs,kk,rfl,upd_same,SqL.of (z9 hz hdz hl),ne_of_none hl hz,?_⟩
 rw [if_pos (by rw [zD]; exact ⟨h2,k0,k1⟩)]
 intro H' m1 m2 s' g1 g2 g3 n1 n2
 exact k _ (Own.of_new hz hdz s') (Qr (p:=New H) (ins:=[y]) (outs:=outs) hz (zE n1) (zE n2) g1 g2 g3)
theorem Zd {l:Addr} {y:Int} {ins:List Int} (hz:H z=none) (hdz:H dz=none) (hl:H l=some (.lst (iv ins))) (h2:2≤ins.length) (h4:ins.length≤4) (k:∀ H',Same H H'→KnP a H' (New H) (.ref z) ⟨.joiner,ins,[y],0,[]⟩→Q .non H'):jA K a.Joiner a.BadKnot [.ref z,.ref l,.int y] (upd (upd H dz (.own z)) z (.ins a.Joiner dz [])) Q EX:=by
 refine ⟨z,dz,l,.int y,iv ins,rfl,upd_same,SqL.of (z9 hz hdz hl),ne_of_none hl hz,?_⟩
 rw [if_pos (by rw [zD]; exact ⟨h2,h4⟩)]
 intro H' m1 m2 s' g1 g2 g3 n1 n2
 exact k _ (Own.of_new hz hdz s') (Zj (p:=New H) (ins:=ins) (outs:=[y]) hz (zE n1) (zE n2) g1 g2 g3)
end
theorem WInv.knot {bs:List (Int × Int)} {rs:List Row} {es ks es' ks':List Int} {r:Row} (h:WInv bs rs es ks) (pe:(r.ins ++ es').Perm es) (pk:(r.outs ++ ks').Perm ks) (ok:r.ok):WInv bs (rs ++ [r]) es' ks':=by
 refine ⟨?_,?_,fun x hx=>?_,h.bo⟩
 ·rw [takenOf_snoc,List.append_assoc]; exact (List.Perm.append_left _ pe).trans h.tk
 ·rw [fedOf_snoc,List.append_assoc]; exact (List.Perm.append_left _ pk).trans h.fd
 ·rcases List.mem_append.mp hx with hx | hx
  ·exact h.ro x hx
  ·rw [List.mem_singleton.mp hx]; exact ok
theorem WInv.perm {bs:List (Int × Int)} {rs:List Row} {es ks es' ks':List Int} (h:WInv bs rs es ks) (pe:es'.Perm es) (pk:ks'.Perm ks):WInv bs rs es' ks':=⟨(List.Perm.append_left _ pe).trans h.tk,(List.Perm.append_left _ pk).trans h.fd,h.ro,h.bo⟩
theorem WInv.belt {bs:List (Int × Int)} {rs:List Row} {es ks:List Int} {b:Int × Int} (h:WInv bs rs es ks) (hb:zA b.1 b.2):WInv (bs ++ [b]) rs (es ++ [(bs.length:Int)]) (ks ++ [(bs.length:Int)]):=by
 refine ⟨?_,?_,h.ro,fun x hx=>?_⟩
 ·rw [List.length_append,List.length_singleton,Z8,← List.append_assoc]
  exact List.Perm.append_right _ h.tk
 ·rw [List.length_append,List.length_singleton,Z8,← List.append_assoc]
  exact List.Perm.append_right _ h.fd
 ·rcases List.mem_append.mp hx with hx | hx
  ·exact h.bo x hx
  ·rw [List.mem_singleton.mp hx]; exact hb
structure GS (a:Ad) (ms:List Addr) (H0 H:Hp) (L R E B:Addr) (bs:List (Int × Int)) (rs:List Row) (es ks:List Int):Prop where
 f:Fr (ms4 L R E B) H0 H
 nLR:L≠R
 nLE:L≠E
 nLB:L≠B
 nRE:R≠E
 nRB:R≠B
 nEB:E≠B
 m:∀ b∈ms4 L R E B,b∈ms
 hs:∀ b∈ms,∃ xs,H b=some (.lst xs)
 hL:∃ bvs,H L=some (.lst bvs)∧Reps H (Off ms) bvs (bs.map (xr a))
 hR:∃ rvs,H R=some (.lst rvs)∧Reps H (Off ms) rvs (rs.map (jJ a))
 hE:H E=some (.lst (iv es))
 hB:H B=some (.lst (iv ks))
section
variable {ms:List Addr} {H0 H H':Hp} {L R E B:Addr} {bs bs':List (Int × Int)} {rs rs':List Row} {es ks es' ks':List Int}
theorem GS.same (w:GS a ms H0 H L R E B bs rs es ks) (s:Same H H'):GS a ms H0 H' L R E B bs rs es ks:=by
 obtain ⟨bvs,h1,r1⟩:=w.hL
 obtain ⟨rvs,h2,r2⟩:=w.hR
 exact { w with f:=w.f.trans s.fr,hs:=fun b hb=>by obtain ⟨xs,h⟩:=w.hs b hb; exact ⟨xs,s _ _ h⟩,hL:=⟨bvs,s _ _ h1,r1.same s⟩,hR:=⟨rvs,s _ _ h2,r2.same s⟩,hE:=s _ _ w.hE,hB:=s _ _ w.hB }
theorem GS.off (w:GS a ms H0 H L R E B bs rs es ks) {x:Addr} (h:H x=none):x ∉ ms:=fun z=>by
 obtain ⟨xs,hx⟩:=w.hs x z
 rw [hx] at h; cases h
theorem GS.here (w:GS a ms H0 H L R E B bs rs es ks):GS a ms H H L R E B bs rs es ks:={ w with f:=Fr.refl }
theorem GS.trans (w:GS a ms H0 H L R E B bs rs es ks) (v:GS a ms H H' L R E B bs' rs' es' ks'):GS a ms H0 H' L R E B bs' rs' es' ks':={ v with f:=w.f.trans v.f }
theorem vB {x:Addr} {xs:List V} (h:∀ b∈ms,∃ xs,H b=some (.lst xs)):∀ b∈ms,∃ ys,upd H x (.lst xs) b=some (.lst ys):=fun b hb=>by
 by_cases e:b=x
 ·subst e; exact ⟨_,upd_same⟩
 ·obtain ⟨ys,h⟩:=h b hb
  exact ⟨ys,by rw [upd_ne e]; exact h⟩
theorem GS.setE (w:GS a ms H0 H L R E B bs rs es ks) (es':List Int):GS a ms H0 (upd H E (.lst (iv es'))) L R E B bs rs es' ks:=by
 obtain ⟨bvs,h1,r1⟩:=w.hL
 obtain ⟨rvs,h2,r2⟩:=w.hR
 have f:Fr ms H (upd H E (.lst (iv es'))):=qo (w.m E (by simp))
 exact { w with f:=w.f.trans (qo (by simp)),hs:=vB w.hs,hL:=⟨bvs,by rw [upd_ne w.nLE]; exact h1,r1.fr f⟩,hR:=⟨rvs,by rw [upd_ne w.nRE]; exact h2,r2.fr f⟩,hE:=upd_same,hB:=by rw [upd_ne w.nEB.symm]; exact w.hB }
theorem GS.setB (w:GS a ms H0 H L R E B bs rs es ks) (ks':List Int):GS a ms H0 (upd H B (.lst (iv ks'))) L R E B bs rs es ks':=by
 obtain ⟨bvs,h1,r1⟩:=w.hL
 obtain ⟨rvs,h2,r2⟩:=w.hR
 have f:Fr ms H (upd H B (.lst (iv ks'))):=qo (w.m B (by simp))
 exact { w with f:=w.f.trans (qo (by simp)),hs:=vB w.hs,hL:=⟨bvs,by rw [upd_ne w.nLB]; exact h1,r1.fr f⟩,hR:=⟨rvs,by rw [upd_ne w.nRB]; exact h2,r2.fr f⟩,hE:=by rw [upd_ne w.nEB]; exact w.hE,hB:=upd_same }
theorem GS.setX (w:GS a ms H0 H L R E B bs rs es ks) {x:Addr} {xs:List V} (hx:x∈ms) (nx:x ∉ ms4 L R E B) (h0:H0 x=none):GS a ms H0 (upd H x (.lst xs)) L R E B bs rs es ks:=by
 obtain ⟨bvs,h1,r1⟩:=w.hL
 obtain ⟨rvs,h2,r2⟩:=w.hR
 have f:Fr ms H (upd H x (.lst xs)):=qo hx
 have n:∀ b∈ms4 L R E B,b≠x:=fun b hb z=>nx (by rw [← z]; exact hb)
 refine { w with f:=fun b o nb hb=>?_,hs:=vB w.hs,hL:=⟨bvs,by rw [upd_ne (n L (by simp))]; exact h1,r1.fr f⟩,hR:=⟨rvs,by rw [upd_ne (n R (by simp))]; exact h2,r2.fr f⟩,hE:=by rw [upd_ne (n E (by simp))]; exact w.hE,hB:=by rw [upd_ne (n B (by simp))]; exact w.hB }
 rw [upd_ne (fun z=>by rw [z,h0] at hb; cases hb)]
 exact w.f b o nb hb
theorem GS.ext (w:GS a ms H0 H L R E B bs rs es ks) {x:Addr} {xs:List V} (hx:H x=none):GS a (x :: ms) H0 (upd H x (.lst xs)) L R E B bs rs es ks∧x ∉ ms4 L R E B:=by
 have w1:=w.same (ze (o:=.lst xs) hx)
 have nx:=w.off hx
 obtain ⟨bvs,h1,r1⟩:=w.hL
 obtain ⟨rvs,h2,r2⟩:=w.hR
 have s:=ze (o:=.lst xs) hx
 have mo:∀ b∈x :: ms,b∈ms∨H b=none:=fun b hb=>by
  rcases List.mem_cons.mp hb with rfl | hb
  ·exact .inr hx
  ·exact .inl hb
 refine ⟨{ w1 with m:=fun b hb=>List.mem_cons_of_mem _ (w.m b hb),hs:=fun b hb=>?_,hL:=⟨bvs,s _ _ h1,(r1.more mo).same s⟩,hR:=⟨rvs,s _ _ h2,(r2.more mo).same s⟩ },fun z=>nx (w.m x z)⟩
 rcases List.mem_cons.mp hb with rfl | hb
 ·exact ⟨_,upd_same⟩
 ·exact w1.hs b hb
theorem GS.less {x:Addr} (w:GS a (x :: ms) H0 H L R E B bs rs es ks) (nx:x ∉ ms4 L R E B):GS a ms H0 H L R E B bs rs es ks:=by
 obtain ⟨bvs,h1,r1⟩:=w.hL
 obtain ⟨rvs,h2,r2⟩:=w.hR
 have mo:∀ b∈ms,b∈x :: ms∨H b=none:=fun b hb=>.inl (List.mem_cons_of_mem _ hb)
 refine { w with m:=fun b hb=>?_,hs:=fun b hb=>w.hs b (List.mem_cons_of_mem _ hb),hL:=⟨bvs,h1,r1.more mo⟩,hR:=⟨rvs,h2,r2.more mo⟩ }
 rcases List.mem_cons.mp (w.m b hb) with rfl | h
 ·exact absurd hb nx
 ·exact h
theorem GS.addL (w:GS a ms H0 H L R E B bs rs es ks) {H1:Hp} {v:V} {b:Int × Int} {bvs:List V} (e:H L=some (.lst bvs)) (s:Same H H1) (q:BtP a H1 (New H) v b):GS a ms H0 (upd H1 L (.lst (bvs ++ [v]))) L R E B (bs ++ [b]) rs es ks∧bvs.length=bs.length:=by
 have w1:=w.same s
 obtain ⟨bvs',h1,r1⟩:=w1.hL
 rw [s _ _ e] at h1
 cases h1
 obtain ⟨rvs,h2,r2⟩:=w1.hR
 have f:Fr ms H1 (upd H1 L (.lst (bvs ++ [v]))):=qo (w.m L (by simp))
 refine ⟨{ w1 with f:=w1.f.trans (qo (by simp)),hs:=vB w1.hs,hL:=⟨_,upd_same,?_⟩,hR:=⟨rvs,by rw [upd_ne w.nLR.symm]; exact h2,r2.fr f⟩,hE:=by rw [upd_ne w.nLE.symm]; exact w1.hE,hB:=by rw [upd_ne w.nLB.symm]; exact w1.hB },by rw [r1.len,List.length_map]⟩
 rw [List.map_append]
 exact (r1.fr f).append (.one (Rep.fr (q.keep fun b o hb ho=>⟨w.off hb,ho⟩) f))
theorem GS.addR (w:GS a ms H0 H L R E B bs rs es ks) {H1:Hp} {v:V} {r:Row} {rvs:List V} (e:H R=some (.lst rvs)) (s:Same H H1) (q:KnP a H1 (Off ms) v r):GS a ms H0 (upd H1 R (.lst (rvs ++ [v]))) L R E B bs (rs ++ [r]) es ks∧rvs.length=rs.length:=by
 have w1:=w.same s
 obtain ⟨bvs,h1,r1⟩:=w1.hL
 obtain ⟨rvs',h2,r2⟩:=w1.hR
 rw [s _ _ e] at h2
 cases h2
 have f:Fr ms H1 (upd H1 R (.lst (rvs ++ [v]))):=qo (w.m R (by simp))
 refine ⟨{ w1 with f:=w1.f.trans (qo (by simp)),hs:=vB w1.hs,hL:=⟨bvs,by rw [upd_ne w.nLR]; exact h1,r1.fr f⟩,hR:=⟨_,upd_same,?_⟩,hE:=by rw [upd_ne w.nRE.symm]; exact w1.hE,hB:=by rw [upd_ne w.nRB.symm]; exact w1.hB },by rw [r2.len,List.length_map]⟩
 rw [List.map_append]
 exact (r2.fr f).append (.one (Rep.fr q f))
theorem GS.newK (w:GS a ms H0 H L R E B bs rs es ks) {H1:Hp} {v:V} {r:Row} (q:KnP a H1 (New H) v r):KnP a H1 (Off ms) v r:=q.keep fun b o hb ho=>⟨w.off hb,ho⟩
end
theorem ite_or1 {A C P G:Prop} [Decidable A] (p:A∨C→P) (g:¬ A→(C→P)→G):if A then P else G:=by
 by_cases a:A
 ·rw [if_pos a]; exact p (.inl a)
 ·rw [if_neg a]; exact g a fun c=>p (.inr c)
theorem xN {α:Type} (xs:List α) (k:Nat):(xs.drop k ++ xs.take k).Perm xs:=by
 refine List.perm_append_comm.trans ?_
 rw [List.take_append_drop]
theorem QB (xs:List V) (k:Nat) (h:k≤xs.length):cutV xs (some (k:Int)) none=xs.drop k:=by
 unfold cutV
 rw [HT.sIx_nat,HT.sIx_none,Nat.min_eq_left h]
 exact List.take_of_length_le (by rw [List.length_drop]; omega)
theorem vI (xs:List V) (n:Nat):cutV xs none (some (n:Int))=xs.take n:=by
 have h:=HT.sIx_nat xs.length xs.length n
 unfold cutV
 rw [HT.sIx_none,h,Nat.sub_zero,List.drop_zero]
 by_cases e:n≤xs.length
 ·rw [Nat.min_eq_left e]
 ·rw [Nat.min_eq_right (by omega),List.take_length,List.take_of_length_le (by omega)]
theorem cut_iv (ns:List Int) (m:Nat):∃ cs:List Int,cutV (iv ns) (some 1) (some (1 + (m:Int)))=iv cs∧cs.length≤m:=by
 unfold cutV
 rw [show (1:Int) + (m:Int)=((1 + m:Nat):Int) by omega,show (some (1:Int))=some ((1:Nat):Int) from rfl,HT.sIx_nat,HT.sIx_nat,zD]
 refine ⟨(ns.drop (min 1 ns.length)).take (min (1 + m) ns.length - min 1 ns.length),by simp [iv],?_⟩
 rw [List.length_take]
 omega
theorem ZH {H:Hp} {z dz L R:Addr} {Q:VK} {EX:XK} {bvs rvs:List V} {bs:List (Int × Int)} {rs:List Row} {p q:Addr→Prop} (hz:H z=none) (hdz:H dz=none) (hL:H L=some (.lst bvs)) (hR:H R=some (.lst rvs)) (rB:Reps H p bvs (bs.map (xr a))) (rK:Reps H q rvs (rs.map (jJ a))) (wok:zL bs rs) (bo:∀ b∈bs,zA b.1 b.2) (ro:∀ r∈rs,r.ok)
  (k:∀ H',Same H H'→Rep H' (Off []) (.ref z) (qJ a bs rs)→Q .non H'):xv K a [.ref z,.ref L,.ref R] (upd (upd H dz (.own z)) z (.ins a.Work dz [])) Q EX:=by
 have lb:=wok.1.1.2
 refine ⟨z,dz,L,R,bvs,rvs,bs,rs,fun b=>b≠z,rfl,upd_same,ne_of_none hL hz,ne_of_none hR hz,fun _ h=>h,z9 hz hdz hL,z9 hz hdz hR,
  (Bts.of rB).keep fun b o _ hb=>⟨ne_of_none hb hz,z9 hz hdz hb⟩,(Kns.of rK).keep fun b o _ hb=>⟨ne_of_none hb hz,z9 hz hdz hb⟩,bo,ro,by rw [wok.2.1.length_eq,ZA]; omega,by rw [wok.2.2.length_eq,ZA]; omega,by omega,fun _ H4 m1 m2 bv kv o4 g0 g1 g2 gB gK n1 n2=>?_,fun y=>absurd wok y⟩
 refine k _ (Own.of_new hz hdz o4) ?_
 rw [wf_eq] at g0
 exact jB (fun z=>nomatch z) g0 rfl (.cons (gB.reps.all.mk' (fun z=>nomatch z) g1) (.cons (gK.reps.all.mk' (fun z=>nomatch z) g2) .nil))
theorem WInv.work {bs:List (Int × Int)} {rs rs':List Row} (h:WInv bs rs [] []) (pm:rs'.Perm rs) (b24:bs.length≤24) (r1:1≤rs.length) (r24:rs.length≤24):zL bs rs'∧(∀ r∈rs',r.ok):=by
 have tk:=h.tk
 have fd:=h.fd
 rw [List.append_nil] at tk fd
 have pl:=pm.length_eq
 have b1:1≤bs.length:=by
  obtain ⟨r,rs0,rfl⟩:=List.exists_cons_of_ne_nil (List.ne_nil_of_length_pos (by omega:0 < rs.length))
  have ok:=h.ro r (by simp)
  have lt:=tk.length_eq
  have lf:=fd.length_eq
  rw [ZA] at lt lf
  have e1:(qf (r :: rs0)).length=r.ins.length + (qf rs0).length:=by simp [qf]
  have e2:(qZ (r :: rs0)).length=r.outs.length + (qZ rs0).length:=by simp [qZ]
  have:1≤r.ins.length + r.outs.length:=by
   obtain ⟨wd,ins,outs,pc,kd⟩:=r
   cases wd
   ·obtain ⟨_,⟨o,q⟩,_⟩:=ok; simp only at q; subst q; simp
   ·obtain ⟨⟨o,q⟩,_⟩:=ok; simp only at q; subst q; simp
   ·obtain ⟨⟨o,q⟩,_⟩:=ok; simp only at q; subst q; simp
   ·obtain ⟨⟨o,q⟩,_⟩:=ok; simp only at q; subst q; simp
   ·obtain ⟨⟨o,q⟩,_⟩:=ok; simp only at q; subst q; simp
   ·obtain ⟨⟨o,q⟩,_⟩:=ok; simp only at q; subst q; simp
  omega
 refine ⟨⟨⟨⟨b1,b24⟩,by omega,by omega⟩,?_,?_⟩,fun r hr=>h.ro r (pm.mem_iff.mp hr)⟩
 ·exact (pm.flatMap_right _).trans fd
 ·exact (pm.flatMap_right _).trans tk
def x8 (ns:List Int) (k:Nat):Int:=ns.getD k 0
def QJ (K:PySem.W.Frag):Sp:=fun vs H Q _=>∃ (l:Addr) (ns:List Int) (k:Nat),vs=[.ref l,.int k]∧SqL K H l (ns.map V.int)∧Q (.int (x8 ns k)) H
theorem Qw {K:PySem.W.Frag} {vs:List V} {H:Hp} {Q:VK} {E:XK} (l:Addr) (ns:List Int) (k:Nat) (q0:vs=[.ref l,.int k]) (q1:SqL K H l (ns.map V.int)) (q2:Q (.int (x8 ns k)) H):QJ K vs H Q E:=⟨l,ns,k,q0,q1,q2⟩
theorem ok_L_at (T:Txt K mg a) (F:Fun K "_law_at" "_law_at" s_L_at f fd):FnOk P w K mg base (CXr P w) 1 f fd ["_law_script","_law_k"] (QJ K):=by
 refine F.okx sc_L_at ?_ ?_
 ·walk_at "i"
 walk_at "k"
 obtain ⟨l,ns,n,rfl,hl,k⟩:=h
 walk_at "T"
 refine ⟨_,(zh (zy (zn Qj (pv 1) (zV zP zO (za (pv 0) zb)) (zo _))  (zd (zj (zp (pv 0) (pv 1))))  zk)  (zd (zj zc))),?_⟩
 walk_at "go"
 refine ⟨_,.inl ⟨_,hl,rfl⟩,?_⟩
 walk_at "r"
 rw [List.length_map]
 refine ite2 (fun h=>?_) (fun h=>?_)
 ·have h:n < ns.length:=by omega
  refine zq hl (zC (by rw [List.getElem?_map,List.getElem?_eq_getElem h]; rfl)) ?_
  have e:ns[n]=x8 ns n:=by simp [x8,h]
  rw [e]; exact k
 ·have e:x8 ns n=0:=by
   have h:ns.length≤n:=by omega
   simp [x8,h]
  rw [e] at k
  walk_at "r"
  exact k
theorem JZ (T:Txt K mg a):Cal P w K mg base "_law_at" 1 ["_law_script","_law_k"] [] (QJ K):=T.h_L_at.cal (ok_L_at T)
def jy (c f:Int):Int:=(c % 2147483647 + 1) * f % 2147483647
theorem qH (c f:Int):0≤jy c f:=Int.emod_nonneg _ (by decide)
def ZZ:Sp:=fun vs H Q _=>∃ c f:Int,vs=[.int c,.int f]∧0≤f∧f < 2147483647∧Q (.int (jy c f)) H
theorem ok_L_spread (T:Txt K mg a) (F:Fun K "_law_spread" "_law_spread" s_L_spread f fd):FnOk P w K mg base (CXr P w) 1 f fd ["_law_cell","_law_factor"] ZZ:=by
 refine F.okx sc_L_spread ?_ ?_
 ·walk_at "i"
 walk_at "k"
 obtain ⟨c,n,rfl,h0,h1,k⟩:=h
 walk_at "T"
 refine ⟨_,(zd (zj (zi zB (zi ZF (zi z7 (zi zB (pv 0) zc) zc) (pv 1)) zc))),?_⟩
 walk_at "r"
 exact ⟨mul_okR (by omega) (by omega),k⟩
theorem qz (T:Txt K mg a):Cal P w K mg base "_law_spread" 1 ["_law_cell","_law_factor"] [] ZZ:=T.h_L_spread.cal (ok_L_spread T)
def JC (a:Ad):Sp:=fun vs H Q _=>∃ (L:Addr) (bvs:List V) (n sp:Int),vs=[.ref L,.int n,.int sp]∧0≤n∧1≤sp∧sp≤4∧H L=some (.lst bvs)∧bvs.length≤100 ∧
 ∀ rm pc z H1,zA rm pc→Same H H1→BtP a H1 (New H) (.ref z) (rm,pc)→Q (.int bvs.length) (upd H1 L (.lst (bvs ++ [.ref z])))
theorem ok_L_belt (T:Txt K mg a) (F:Fun K "_law_belt" "_law_belt" s_L_belt f fd):FnOk P w K mg base (CXr P w) 3 f fd ["_law_belts","_law_number","_law_span"] (JC a):=by
 refine F.okx sc_L_belt ?_ ?_
 ·walk_at "i"
 walk_at "j"
 obtain ⟨L,bvs,n,sp,rfl,n0,p1,p4,hL,lb,k⟩:=h
 walk_at "T"
 refine ⟨_,(zh (zx 3 sc_L_belt.nd (zi z7 zc (zi zB (pv 1) zc)))  (zX (zy (PW.pt (pw_and (zn (qr hr.units1) (zi zB (zi zK (pv 1) zc) zc) zc (zo _)) (pw_and1 (zn Qj (zV zP zO (za (pv 0) zb)) zc (zo _)))))  (zd (zx 3 sc_L_belt.nd (zi z7 (pv 3) zc)))  zk)  (zh (zt (qq PySem.F.plainAttrs_list PySem.F.slot_list_append PySem.F.type_list_append zQ (pv 0) (za (qa ⟨rfl,rfl,rfl⟩ hr (za (pv 3) (za (zi z7 zc (zi zB (zi zK (pv 1) zc) (pv 2))) zb))) zb)))  (zd (zj (zi QN (zV zP zO (za (pv 0) zb)) zc)))))),?_⟩
 walk_at "go"
 have z0:=Int.emod_nonneg n (show (3:Int)≠0 by decide)
 have z1:=Int.emod_lt_of_pos n (show (0:Int) < 3 by decide)
 refine cut (fun σ' H'=>∃ rm:Int,σ'=[some (.ref L),some (.int n),some (.int sp),some (.int rm)]∧H'=H∧1≤rm∧rm≤6) ?_ ?_
 ·walk_at "go"
  refine ⟨fd_ok (by decide) (by decide +kernel),ite2 (fun _=>⟨m_len,_,.inl ⟨_,SqL.of hL,rfl⟩,ite2 (fun _=>⟨_,iA3 rfl (by omega) (by omega)⟩) (fun _=>⟨_,iA3 rfl (by omega) (by omega)⟩)⟩) (fun _=>⟨_,iA3 rfl (by omega) (by omega)⟩)⟩
 rintro σ' H' ⟨rm,rfl,rfl,r1,r6⟩
 walk_at "go"
 have y0:=Int.emod_nonneg (n / 24) (show (sp:Int)≠0 by omega)
 have y1:=Int.emod_lt_of_pos (n / 24) (show (0:Int) < sp by omega)
 refine ⟨.inl ⟨rfl,_,SqL.of hL⟩,a.Belt,_,_,_,(xA T).mono,fd_ok (by decide) (by decide +kernel),by omega,?_⟩
 intro z dz hz hdz hne
 refine xb hz hdz ⟨r1,r6,by omega,by omega⟩ fun H1 s1 q1=>⟨rfl,?_⟩
 refine ⟨L,bvs,_,rfl,rfl,s1 _ _ hL,zm (by omega),?_⟩
 have k:=k rm _ z H1 ⟨r1,r6,by omega,by omega⟩ s1 q1
 have e:upd H1 L (.lst (bvs ++ [.ref z])) L=some (.lst (bvs ++ [.ref z])):=upd_same
 generalize upd H1 L (.lst (bvs ++ [.ref z]))=H2 at k e ⊢
 walk_at "go"
 refine ⟨_,.inl ⟨_,SqL.of e,rfl⟩,?_⟩
 rw [List.length_append,List.length_singleton,show (((bvs.length + 1:Nat):Int) - 1)=bvs.length by omega]
 exact k
theorem j5 (T:Txt K mg a):Cal P w K mg base "_law_belt" 3 ["_law_belts","_law_number","_law_span"] [] (JC a):=T.h_L_belt.cal (ok_L_belt T)
def QZ (a:Ad):Sp:=fun vs H Q _=>∃ y n sp:Int,vs=[.int y,.int n,.int sp]∧0≤n∧1≤sp∧sp≤4∧∀ v H' pc,Same H H'→0≤pc→pc≤4→KnP a H' (New H) v ⟨.drain,[y],[],pc,[]⟩→Q v H'
theorem ok_L_drain (T:Txt K mg a) (F:Fun K "_law_drain" "_law_drain" s_L_drain f fd):FnOk P w K mg base (CXr P w) 4 f fd ["_law_into","_law_number","_law_span"] (QZ a):=by
 refine F.okx sc_L_drain ?_ ?_
 ·walk_at "i"
 walk_at "j"
 obtain ⟨y,n,sp,rfl,n0,p1,p4,k⟩:=h
 walk_at "T"
 refine ⟨_,(zh (zy (zn (qr hr.units1) (zi zB (pv 1) zc) zc (zo _))  (zd (zj (qa ⟨rfl,rfl,rfl⟩ hr (za (pv 0) (za zc zb)))))  zk)  (zd (zj (qa ⟨rfl,rfl,rfl⟩ hr (za (pv 0) (za (zi z7 zc (zi zB (zi zK (pv 1) zc) (pv 2))) zb)))))),?_⟩
 walk_at "go"
 refine ite2 (fun _=>?_) (fun _=>?_)
 ·walk_at "go"
  refine ⟨a.Drain,_,_,_,(xZ T).mono,?_⟩
  intro z dz hz hdz hne
  exact xW hz hdz (by decide) (by decide) fun H1 s1 q1=>⟨rfl,k _ _ _ s1 (by decide) (by decide) q1⟩
 ·walk_at "go"
  have y0:=Int.emod_nonneg (n / 8) (show (sp:Int)≠0 by omega)
  have y1:=Int.emod_lt_of_pos (n / 8) (show (0:Int) < sp by omega)
  refine ⟨a.Drain,_,_,_,(xZ T).mono,fd_ok (by decide) (by decide +kernel),by omega,?_⟩
  intro z dz hz hdz hne
  exact xW hz hdz (by omega) (by omega) fun H1 s1 q1=>⟨rfl,k _ _ _ s1 (by omega) (by omega) q1⟩
theorem Zp (T:Txt K mg a):Cal P w K mg base "_law_drain" 4 ["_law_into","_law_number","_law_span"] [] (QZ a):=T.h_L_drain.cal (ok_L_drain T)
theorem many_at {n u:Int} (u0:1≤u) (u6:u≤6):∃ m:Int,atI [V.int 1,.int 1,.int 2,.int 2,.int 3,.int u] (n % 6)=some (.int m)∧1≤m∧m≤6:=by
 have h0:=Int.emod_nonneg n (show (6:Int)≠0 by decide)
 have h1:=Int.emod_lt_of_pos n (show (0:Int) < 6 by decide)
 generalize n % 6=j at h0 h1 ⊢
 have:j=0∨j=1∨j=2∨j=3∨j=4∨j=5:=by omega
 rcases this with rfl | rfl | rfl | rfl | rfl | rfl
 ·exact ⟨1,rfl,by decide,by decide⟩
 ·exact ⟨1,rfl,by decide,by decide⟩
 ·exact ⟨2,rfl,by decide,by decide⟩
 ·exact ⟨2,rfl,by decide,by decide⟩
 ·exact ⟨3,rfl,by decide,by decide⟩
 ·exact ⟨u,rfl,u0,u6⟩
def Z0 (a:Ad):Sp:=fun vs H Q _=>∃ y c n sp:Int,vs=[.int y,.int c,.int n,.int sp]∧0≤n∧1≤sp∧sp≤4∧∀ v H' pc kd,Same H H'→1≤pc→pc≤4→1≤kd.length→kd.length≤6→jg kd→KnP a H' (New H) v ⟨.source,[],[y],pc,kd⟩→Q v H'
theorem ok_L_source (T:Txt K mg a) (F:Fun K "_law_source" "_law_source" s_L_source f fd):FnOk P w K mg base (CXr P w) 4 f fd ["_law_out","_law_cell","_law_number","_law_span"] (Z0 a):=by
 refine F.okx sc_L_source ?_ ?_
 ·walk_at "i"
 walk_at "j"
 obtain ⟨y,c,n,sp,rfl,n0,p1,p4,k⟩:=h
 walk_at "T"
 refine ⟨_,(zg (zx 4 sc_L_source.nd (zp (zF (za zc (za zc (za zc (za zc (za zc (za (zi z7 zc (zi zB (zi zK (pv 2) zc) zc)) zb))))))) (zi zB (pv 2) zc)))  (zX (zy (zn (qr hr.units1) (zi zB (zi zK (pv 2) zc) zc) zc (zo _))  (zd (ZB (i:=1) sc_L_source.nd rfl (Or.inr rfl) (zi zB (pv 1) zc)))  zk)  (zg (Qd (i:=5) sc_L_source.nd rfl (Or.inl rfl) (vars:=["_law_k"]) (caps:=[1,2]) (N:=["_law_k","_law_cell","_law_number"]) (ON:=["_law_out","_law_cell","_law_number","_law_span","_law_many","_law_kinds"]) (osc:=zf s_L_source) rfl rfl (by first | decide +kernel | kernel_rfl) rfl rfl (jT (za (pv 4) zb)) (fun s H fp pins=>(pg_n 0 (show (["_law_k","_law_cell","_law_number"]:List Str).Nodup from by decide +kernel))) (fun s H fp pins=>qg) (fun s H fp pins=>(zi zB (zi z7 (pv 1) (zi ZF (pv 0) (zi zB (zi zK (pv 2) zc) zc))) (zi ZE zc zc))))  (zd (zj (qa ⟨rfl,rfl,rfl⟩ hr (za (pv 0) (za (zi z7 zc (zi zB (zi zK (pv 2) zc) (pv 3))) (za (pv 5) zb))))))))),?_⟩
 walk_at "go"
 have u0:=Int.emod_nonneg (n / 6) (show (6:Int)≠0 by decide)
 have u1:=Int.emod_lt_of_pos (n / 6) (show (0:Int) < 6 by decide)
 obtain ⟨m,em,m1,m6⟩:=many_at (n:=n) (u:=1 + n / 6 % 6) (by omega) (by omega)
 refine ⟨fd_ok (by decide) (by decide +kernel),fun q hq=>zq (SqL.of upd_same) em ?_⟩
 have s1:=ze (o:=.lst [V.int 1,.int 1,.int 2,.int 2,.int 3,.int (1 + n / 6 % 6)]) hq
 generalize upd H q (.lst [V.int 1,.int 1,.int 2,.int 2,.int 3,.int (1 + n / 6 % 6)])=H1 at s1 ⊢
 clear em u0 u1
 walk_at "go"
 refine cut (fun σ' H'=>∃ c:Int,σ'=[some (.int y),some (.int c),some (.int n),some (.int sp),some (.int m),none]∧H'=H1) ?_ ?_
 ·walk_at "go"
  walk_at "sds"
  walk_at "go"
  exact ite2 (fun _=>⟨_,rfl⟩) (fun _=>⟨_,rfl⟩)
 rintro σ' H2 ⟨c2,rfl,rfl⟩
 walk_at "lc"
 walk_at "go"
 refine ⟨by omega,by omega,fun _ _ _ _ acc hacc=>?_⟩
 refine wK (n:=m.toNat) (fun i σ H'=>∃ v ks,σ=[v,some (.int c2),some (.int n)]∧Same H2 H'∧ks.length=i∧jg ks∧H' acc=some (.lst (iv ks))) ⟨_,[],rfl,ze hacc,rfl,(fun _ z=>nomatch z),upd_same⟩ ?_ ?_
 ·rintro i σ H3 hi ⟨v,ks,rfl,s3,lk,hkk,ha⟩
  walk_at "go"
  have w0:=Int.emod_nonneg (n / 36) (show (3:Int)≠0 by decide)
  have w1:=Int.emod_lt_of_pos (n / 36) (show (0:Int) < 3 by decide)
  refine ⟨fd_ok (by decide) (by decide +kernel),mul_okR (by omega) (by omega),?_⟩
  walk_at "go"
  have x0:=Int.emod_nonneg (c2 + (0 + (i:Int)) * (n / 36 % 3)) (show (1000000000000000000000000000000:Int)≠0 by decide)
  have x1:=Int.emod_lt_of_pos (c2 + (0 + (i:Int)) * (n / 36 % 3)) (show (0:Int) < 1000000000000000000000000000000 by decide)
  generalize (c2 + (0 + (i:Int)) * (n / 36 % 3)) % 1000000000000000000000000000000=kk at x0 x1 ⊢
  refine ⟨_,ha,zm (by rw [zD]; omega),_,ks ++ [kk],rfl,(fun b o hb=>by rw [upd_ne (ne_of_none hb hacc)]; exact s3 b o hb),by simp [lk],?_,by rw [upd_same,jb]⟩
  intro z hz
  rcases List.mem_append.mp hz with hz | hz
  ·exact hkk z hz
  ·rw [List.mem_singleton.mp hz]; exact ⟨x0,x1⟩
 rintro σ H3 ⟨v,ks,rfl,s3,lk,hkk,ha⟩
 walk_at "go"
 have y0:=Int.emod_nonneg (n / 108) (show (sp:Int)≠0 by omega)
 have y1:=Int.emod_lt_of_pos (n / 108) (show (0:Int) < sp by omega)
 refine ⟨a.Source,_,_,_,(xY T).mono,fd_ok (by decide) (by decide +kernel),by omega,?_⟩
 intro z dz hz hdz hne
 have s13:=s1.trans s3
 refine wu hz hdz ha (by omega) (by omega) (by omega) (by omega) hkk fun H4 s4 q4=>⟨rfl,k _ _ _ _ (s13.trans s4) (by omega) (by omega) (by omega) (by omega) hkk (q4.keep fun b o hb ho=>⟨zJ s13 hb,ho⟩)⟩
theorem vL (T:Txt K mg a):Cal P w K mg base "_law_source" 4 ["_law_out","_law_cell","_law_number","_law_span"] [] (Z0 a):=T.h_L_source.cal (ok_L_source T)
theorem kitS (T:Txt K mg a) (wd:Wd):PySem.W.kitOne K (.ref (clsA a wd)) (.ref a.Source)=some (decide (wd=.source)):=by
 cases wd
 ·exact T.k1_Source_Source
 ·exact T.k1_Drain_Source
 ·exact T.k1_Parter_Source
 ·exact T.k1_FirstParter_Source
 ·exact T.k1_Sieve_Source
 ·exact T.k1_Joiner_Source
def JA (a:Ad):Sp:=fun vs H Q _=>∃ (R:Addr) (rvs:List V) (rs:List Row) (c n:Int) (p:Addr→Prop),vs=[.ref R,.int c,.int n]∧H R=some (.lst rvs)∧Reps H p rvs (rs.map (jJ a))∧(∀ r∈rs,r.ok)∧rs.length≤60∧0≤n∧∀ H' kk,Same H H'→0≤kk→kk < qN→Q (.int kk) H'
theorem ok_L_kind (T:Txt K mg a) (F:Fun K "_law_kind" "_law_kind" s_L_kind f fd):FnOk P w K mg base (CXr P w) 1 f fd ["_law_knots","_law_cell","_law_number"] (JA a):=by
 refine F.okx sc_L_kind ?_ ?_
 ·walk_at "i"
 walk_at "j"
 obtain ⟨R,rvs,rs,c,n,p,rfl,hR,rR,ro,lr,n0,k⟩:=h
 have lR:rvs.length=rs.length:=by rw [rR.len,List.length_map]
 walk_at "T"
 refine ⟨_,(zh (zx 3 sc_L_kind.nd (zF (za (zi zB (pv 1) (zi ZE zc zc)) zb)))  (zX (qd qC rfl (ql (pv 0)) (pg_n 4 sc_L_kind.nd)  (zd (zy (qi (zV xE qe (za (pv 4) (za xn zb))) (fun _=>rfl))  (zd (zt (qq PySem.F.plainAttrs_list PySem.F.slot_list_extend PySem.F.type_list_extend xa (pv 3) (za (zl (pv 4) rfl) zb))))  zk)))  (zd (zj (zp (pv 3) (zi zB (pv 2) (zV zP zO (za (pv 3) zb)))))))),?_⟩
 walk_at "go"
 have x0:=Int.emod_nonneg c (show (1000000000000000000000000000000:Int)≠0 by decide)
 have x1:=Int.emod_lt_of_pos c (show (0:Int) < 1000000000000000000000000000000 by decide)
 intro I hI
 have s1:=ze (o:=.lst [V.int (c % 1000000000000000000000000000000)]) hI
 have hI1:upd H I (.lst [V.int (c % 1000000000000000000000000000000)]) I=some (.lst (iv [c % 1000000000000000000000000000000])):=upd_same
 generalize upd H I (.lst [V.int (c % 1000000000000000000000000000000)])=H1 at s1 hI1 ⊢
 generalize c % 1000000000000000000000000000000=k0 at x0 x1 hI1
 refine cut (fun σ' H'=>∃ (v4:Option V) (ks:List Int),σ'=[some (.ref R),some (.int c),some (.int n),some (.ref I),v4]∧Same H H'∧H' I=some (.lst (iv ks))∧1≤ks.length∧ks.length≤1 + 6 * rs.length∧jg ks) ?_ ?_
 ·walk_at "for"
  walk_at "go"
  refine ⟨R,rfl,.inl ⟨⟨_,SqL.of (s1 _ _ hR)⟩,?_⟩⟩
  refine qP (K:=K) (a:=R) (xs:=rvs) (fun i σ H'=>∃ (v4:Option V) (ks:List Int),σ=[some (.ref R),some (.int c),some (.int n),some (.ref I),v4]∧Same H H'∧H' I=some (.lst (iv ks))∧1≤ks.length∧ks.length≤1 + 6 * i∧jg ks) ⟨_,[k0],rfl,s1,hI1,Nat.le_refl _,Nat.le_refl _,fun z hz=>by rw [List.mem_singleton.mp hz]; exact ⟨x0,x1⟩⟩ (fun i σ H' _ h=>by obtain ⟨_,_,_,s,_⟩:=h; exact SqL.of (s _ _ hR)) ?_ ?_
  ·rintro i x σ H2 hi ⟨v4,ks,rfl,s2,hI2,k1,k6,kk⟩
   obtain ⟨d,hd,rx⟩:=rR.at hi
   rw [List.getElem?_map,Option.map_eq_some_iff] at hd
   obtain ⟨r,hr',rfl⟩:=hd
   have hil:=(List.getElem?_eq_some_iff.mp hr').1
   have ok:=ro r (List.mem_of_getElem? hr')
   obtain ⟨y1,dx1,m1,m2,m3,fs1,rfl,_,_,_,_,g0,f1,f2,_,g1,g2,g3,_⟩:=KnP.inv rx
   walk_at "go"
   refine ⟨.ref a.Source,_,T.g_Source,rfl,_,_,_,_,rfl,(WT T r.wd).ty (CT T r.wd) (s2 _ _ g0),.inl ⟨_,rfl,kitS T r.wd⟩,?_⟩
   walk_at "go"
   refine ite2 (fun b=>?_) (fun b=>⟨_,ks,rfl,s2,hI2,k1,by omega,kk⟩)
   obtain ⟨f3,h3⟩:=g3 b
   have ok:r.kinds.length≤6∧jg r.kinds:=by
    unfold Row.ok at ok
    rw [b] at ok
    exact ⟨ok.2.2.2.2.2.1,ok.2.2.2.2.2.2⟩
   rw [b] at g0
   refine ⟨.inl ⟨rfl,_,SqL.of hI2⟩,y1,a.Source,dx1,fs1,_,rfl,s2 _ _ g0,T.C_Source,T.N_Source_kinds,f3,?_⟩
   refine ⟨I,m3,iv ks,iv r.kinds,rfl,rfl,hI2,s2 _ _ h3,?_,?_⟩
   ·rw [zD,zD]
    exact Nat.le_of_lt (zm (by omega))
   refine ⟨_,ks ++ r.kinds,rfl,(fun b o hb=>by rw [upd_ne (ne_of_none hb hI)]; exact s2 b o hb),by rw [upd_same]; simp [iv],by simp; omega,by simp; omega,fun z hz=>?_⟩
   rcases List.mem_append.mp hz with hz | hz
   ·exact kk z hz
   ·exact ok.2 z hz
  ·rintro σ H2 ⟨v4,ks,rfl,s2,hI2,k1,k6,kk⟩
   rw [lR] at k6
   exact ⟨v4,ks,rfl,s2,hI2,k1,k6,kk⟩
 rintro σ' H2 ⟨v4,ks,rfl,s2,hI2,k1,k6,kk⟩
 walk_at "go"
 refine ⟨_,.inl ⟨_,SqL.of hI2,rfl⟩,?_⟩
 rw [zD]
 refine ⟨by omega,?_⟩
 have v0:=Int.emod_nonneg n (show (ks.length:Int)≠0 by omega)
 have v1:=Int.emod_lt_of_pos n (show (0:Int) < (ks.length:Int) by omega)
 obtain ⟨j,ej⟩:∃ j:Nat,n % (ks.length:Int)=j:=⟨(n % (ks.length:Int)).toNat,by omega⟩
 rw [ej] at v1 ⊢
 obtain ⟨y,hy⟩:∃ y,ks[j]?=some y:=⟨ks[j]'(by omega),List.getElem?_eq_getElem _⟩
 refine zq (SqL.of hI2) (zC (jZ hy)) ?_
 have:=kk y (List.mem_of_getElem? hy)
 exact k _ y s2 this.1 this.2
theorem QF (T:Txt K mg a):Cal P w K mg base "_law_kind" 1 ["_law_knots","_law_cell","_law_number"] [] (JA a):=T.h_L_kind.cal (ok_L_kind T)
def wdOf (n:Int):Wd:=if n=0 then .first else if n=1 then .sieve else .parter
def Za (y kk wt:Int) (outs:List Int):Row:=⟨wdOf wt,[y],outs,0,if wt=1 then [kk] else []⟩
theorem Qi {y kk wt:Int} {outs:List Int} (h2:2≤outs.length) (h4:outs.length≤4) (h1:wt=1→outs.length=2) (k0:0≤kk) (k1:kk < qN):(Za y kk wt outs).ok:=by
 unfold Za wdOf Row.ok
 by_cases z:wt=0
 ·subst z
  exact ⟨⟨_,rfl⟩,h2,h4⟩
 ·by_cases o:wt=1
  ·subst o
   exact ⟨⟨_,rfl⟩,h1 rfl,kk,rfl,k0,k1⟩
  ·simp only [if_neg z,if_neg o]
   exact ⟨⟨_,rfl⟩,h2,h4⟩
def Z1 (a:Ad):Sp:=fun vs H Q _=>∃ (y kk wt:Int) (O:Addr) (outs:List Int),vs=[.int y,.ref O,.int kk,.int wt]∧H O=some (.lst (iv outs))∧2≤outs.length∧outs.length≤4∧(wt=1→outs.length=2)∧0≤kk∧kk < qN∧∀ v H',Same H H'→KnP a H' (New H) v (Za y kk wt outs)→Q v H'
theorem ok_L_parted (T:Txt K mg a) (F:Fun K "_law_parted" "_law_parted" s_L_parted f fd):FnOk P w K mg base (CXr P w) 4 f fd ["_law_into","_law_outs","_law_kind_here","_law_what"] (Z1 a):=by
 refine F.okx sc_L_parted ?_ ?_
 ·walk_at "i"
 walk_at "j"
 obtain ⟨y,kk,wt,O,outs,rfl,hO,o2,o4,o1,k0,k1,k⟩:=h
 walk_at "T"
 refine ⟨_,(zh (zy (zn (qr hr.units1) (pv 3) zc (zo _))  (zd (zj (qa ⟨rfl,rfl,rfl⟩ hr (za (pv 0) (za (pv 1) zb)))))  zk)  (zh (zy (zn (qr hr.units1) (pv 3) zc (zo _))  (zd (zj (qa ⟨rfl,rfl,rfl⟩ hr (za (pv 0) (za (jt wp (pv 1) xQ (jC zc)) (za (pv 2) zb))))))  zk)  (zd (zj (qa ⟨rfl,rfl,rfl⟩ hr (za (pv 0) (za (pv 1) zb))))))),?_⟩
 walk_at "go"
 refine ite2 (fun b=>?_) (fun b=>?_)
 ·subst b
  walk_at "go"
  refine ⟨a.FirstParter,_,_,_,(xq T).mono,?_⟩
  intro z dz hz hdz hne
  exact mk_first hz hdz hO o2 o4 fun H1 s1 q1=>⟨rfl,k _ _ s1 q1⟩
 walk_at "go"
 refine ite2 (fun b1=>?_) (fun b1=>?_)
 ·subst b1
  walk_at "go"
  refine ⟨a.Sieve,_,_,_,(Q9 T).mono,wq (SqL.of hO) fun q hq=>?_⟩
  have s1:=ze (o:=.lst (iv outs)) hq
  rw [show cutV (iv outs) none (some 2)=iv outs from (vI (iv outs) 2).trans (List.take_of_length_le (by rw [zD]; have:=o1 rfl; omega))]
  have hq1:upd H q (.lst (iv outs)) q=some (.lst (iv outs)):=upd_same
  generalize upd H q (.lst (iv outs))=H1 at s1 hq1 ⊢
  intro z dz hz hdz hne
  exact mk_sieve hz hdz hq1 (o1 rfl) k0 k1 fun H2 s2 q2=>⟨rfl,k _ _ (s1.trans s2) (q2.keep fun b o hb ho=>⟨zJ s1 hb,ho⟩)⟩
 walk_at "go"
 refine ⟨a.Parter,_,_,_,(vv T).mono,?_⟩
 intro z dz hz hdz hne
 refine Zc hz hdz hO o2 o4 fun H1 s1 q1=>⟨rfl,k _ _ s1 ?_⟩
 unfold Za wdOf
 rw [if_neg b,if_neg b1,if_neg b1]
 exact q1
theorem vM (T:Txt K mg a):Cal P w K mg base "_law_parted" 4 ["_law_into","_law_outs","_law_kind_here","_law_what"] [] (Z1 a):=T.h_L_parted.cal (ok_L_parted T)
theorem ne_nil {H:Hp} {Q:VK} {p q:Addr} {xs:List Int} (h1:H p=some (.lst (iv xs))) (h2:H q=some (.lst [])) (k:Q (.bl (!decide (xs=[]))) H):rNeG K (.ref p) (.ref q) H Q:=by
 refine .inr (.inl ⟨p,q,iv xs,[],rfl,rfl,.inl ⟨SqL.of h1,SqL.of h2⟩,by simp [iv,ju],rfl,?_⟩)
 cases xs with
 | nil=>exact k
 | cons x xs=>exact k
theorem JU {H:Hp} {Q:VK} {p q:Addr} {xs:List Int} (h1:H p=some (.lst (iv xs))) (h2:H q=some (.lst [])) (k:Q (.bl (decide (xs=[]))) H):rEqG K (.ref p) (.ref q) H Q:=by
 refine .inr (.inl ⟨p,q,iv xs,[],rfl,rfl,.inl ⟨SqL.of h1,SqL.of h2⟩,by simp [iv,ju],rfl,?_⟩)
 cases xs with
 | nil=>exact k
 | cons x xs=>exact k
theorem wc {xs:List Int} {y:Int}:atI (iv (xs ++ [y])) (-1)=some (.int y):=by
 rw [show iv (xs ++ [y])=iv xs ++ [V.int y] by simp [iv]]
 unfold atI ixN
 rw [if_neg (by decide),List.length_append,List.length_singleton,if_pos (by omega),show (-1 + (((iv xs).length + 1:Nat):Int)).toNat=(iv xs).length by omega]
 simp
def Z5 (a:Ad):Sp:=fun vs H Q _=>∃ (ms:List Addr) (L R En B:Addr) (bs:List (Int × Int)) (rs:List Row) (es ks:List Int) (y c sp:Int),vs=[.ref L,.ref En,.ref B,.int y,.int c,.int sp]∧GS a ms H H L R En B bs rs es ks∧WInv bs rs (y :: es) ks∧1≤sp∧sp≤4∧bs.length≤60∧es.length≤60∧ks.length≤60 ∧
 ∀ v H' bs' es' ks' r,GS a ms H H' L R En B bs' rs es' ks'→KnP a H' (Off ms) v r→WInv bs' (rs ++ [r]) es' ks'→bs'.length + ks'.length≤bs.length + ks.length + 3→es'.length + ks'.length≤es.length + ks.length + 2→Q v H'
theorem ok_L_joined (T:Txt K mg a) (F:Fun K "_law_joined" "_law_joined" s_L_joined f fd):FnOk P w K mg base (CXr P w) 4 f fd ["_law_belts","_law_ends","_law_loops","_law_into","_law_cell","_law_span"] (Z5 a):=by
 refine F.okx sc_L_joined ?_ ?_
 ·walk_at "i"
 walk_at "j"
 obtain ⟨ms,L,R,E,B,bs,rs,es,ks,y,c,sp,rfl,W,I0,p1,p4,lb,le,lk,k⟩:=h
 walk_at "T"
 refine ⟨_,(zg (zx 6 sc_L_joined.nd (zv ⟨rfl,rfl,rfl⟩ hr (za (pv 4) (za zc zb))))  (zg (zx 7 sc_L_joined.nd (zF (za (pv 3) zb)))  (zX (qd qC rfl (jT (za (zi zB (pv 6) zc) zb)) (pg_n 8 sc_L_joined.nd)  (zd (zy (zn (jW hr.units1) (pv 1) (zF zb) (zo _))  (zd (zt (qq PySem.F.plainAttrs_list PySem.F.slot_list_append PySem.F.type_list_append zQ (pv 7) (za (qq PySem.F.plainAttrs_list PySem.F.slot_list_pop PySem.F.type_list_pop vp (pv 1) (za (zi zB (zi zK (pv 6) zc) (zV zP zO (za (pv 1) zb))) zb)) zb))))  zk)))  (zX (zy (zn (qr hr.units1) (zV zP zO (za (pv 7) zb)) zc (zo _))  (zg (zt (qq PySem.F.plainAttrs_list PySem.F.slot_list_append PySem.F.type_list_append zQ (pv 2) (za (zv ⟨rfl,rfl,rfl⟩ hr (za (pv 0) (za (zv ⟨rfl,rfl,rfl⟩ hr (za (pv 4) (za zc zb))) (za (pv 5) zb)))) zb)))  (zd (zt (qq PySem.F.plainAttrs_list PySem.F.slot_list_append PySem.F.type_list_append zQ (pv 7) (za (zp (pv 2) (xm jm zc)) zb)))))  zk)  (zX (zy (zn (qr hr.units1) (zi zB (zi zK (pv 6) zc) zc) zc (zo _))  (zd (zx 7 sc_L_joined.nd (zi z7 (jt wp (pv 7) (jC zc) xQ) (jt wp (pv 7) xQ (jC zc)))))  zk)  (zg (zt (qq PySem.F.plainAttrs_list PySem.F.slot_list_append PySem.F.type_list_append zQ (pv 1) (za (zv ⟨rfl,rfl,rfl⟩ hr (za (pv 0) (za (zi zK (pv 6) zc) (za (pv 5) zb)))) zb)))  (zd (zj (qa ⟨rfl,rfl,rfl⟩ hr (za (pv 7) (za (zp (pv 1) (xm jm zc)) zb))))))))))),?_⟩
 walk_at "go"
 refine uc (qz T).mono ⟨c,_,rfl,by decide,by decide,?_⟩
 have n0:=qH c 1618033989
 generalize jy c 1618033989=nu at n0 ⊢
 walk_at "go"
 intro I hI
 obtain ⟨W1,nI⟩:=W.ext (xs:=[V.int y]) hI
 have hI1:upd H I (.lst [V.int y]) I=some (.lst (iv [y])):=upd_same
 generalize upd H I (.lst [V.int y])=H1 at W1 hI1 ⊢
 have mI:I∈I :: ms:=by simp
 have nu0:=Int.emod_nonneg nu (show (4:Int)≠0 by decide)
 have nu1:=Int.emod_lt_of_pos nu (show (0:Int) < 4 by decide)
 walk_at "go"
 refine cut (fun σ' H'=>∃ (v8:Option V) (ins es2:List Int),σ'=[some (.ref L),some (.ref E),some (.ref B),some (.int y),some (.int c),some (.int sp),some (.int nu),some (.ref I),v8]∧GS a (I :: ms) H H' L R E B bs rs es2 ks∧H' I=some (.lst (iv ins))∧(ins ++ es2).Perm (y :: es)∧1≤ins.length∧ins.length≤4) ?_ ?_
 ·walk_at "for"
  walk_at "go"
  refine ⟨by omega,by omega,?_⟩
  refine wK (n:=(nu % 4).toNat) (fun i σ' H'=>∃ (v8:Option V) (ins es2:List Int),σ'=[some (.ref L),some (.ref E),some (.ref B),some (.int y),some (.int c),some (.int sp),some (.int nu),some (.ref I),v8]∧GS a (I :: ms) H H' L R E B bs rs es2 ks∧H' I=some (.lst (iv ins))∧(ins ++ es2).Perm (y :: es)∧1≤ins.length∧ins.length≤1 + i) ⟨_,[y],es,rfl,W1,hI1,List.Perm.refl _,Nat.le_refl _,Nat.le_refl _⟩ ?_ ?_
  ·clear W1 hI1
   rintro i σ' H3 hi ⟨v8,ins,es2,rfl,W3,hI3,p3,i1,ii⟩
   have pl:=p3.length_eq
   rw [List.length_append,List.length_cons] at pl
   walk_at "go"
   intro q hq
   have sq:=ze (o:=.lst []) hq
   have W4:=W3.same sq
   have hI4:=sq _ _ hI3
   refine ne_nil W4.hE (upd_same) ?_
   generalize upd H3 q (.lst [])=H4 at W4 hI4 ⊢
   clear W3 hI3 hq sq
   walk_at "go"
   refine ite2 (fun b=>?_) (fun b=>⟨_,ins,es2,rfl,W4,hI4,p3,i1,by omega⟩)
   have el:(0:Int) < es2.length:=by
    rcases Nat.eq_zero_or_pos es2.length with z | z
    ·exact absurd (List.length_eq_zero_iff.mp z) (by simpa using b)
    ·omega
   refine ⟨.inl ⟨rfl,_,SqL.of hI4⟩,.inl ⟨rfl,_,SqL.of W4.hE⟩,fd_ok (by decide) (by decide +kernel),m_len,_,.inl ⟨_,SqL.of W4.hE,rfl⟩,?_⟩
   rw [zD]
   refine ⟨el,?_⟩
   have v0:=Int.emod_nonneg (nu / 4) (show (es2.length:Int)≠0 by omega)
   have v1:=Int.emod_lt_of_pos (nu / 4) el
   generalize nu / 4 % (es2.length:Int)=jj at v0 v1 ⊢
   obtain ⟨y2,hy⟩:∃ y,es2[jj.toNat]?=some y:=⟨es2[jj.toNat]'(by omega),List.getElem?_eq_getElem _⟩
   refine ⟨E,iv es2,jj,jj.toNat,.int y2,rfl,rfl,W4.hE,by omega,by omega,vh v0 (by rw [zD]; exact v1),jZ hy,?_⟩
   rw [vz]
   have W5:=W4.setE (es2.eraseIdx jj.toNat)
   have p5:=xP hy
   have nIE:I≠E:=fun z=>nI (by rw [z]; simp)
   have hI5:upd H4 E (.lst (iv (es2.eraseIdx jj.toNat))) I=some (.lst (iv ins)):=by rw [upd_ne nIE]; exact hI4
   generalize upd H4 E (.lst (iv (es2.eraseIdx jj.toNat)))=H5 at W5 hI5 ⊢
   generalize es2.eraseIdx jj.toNat=es3 at p5 W5 ⊢
   refine ⟨I,_,_,rfl,rfl,hI5,zm (by rw [zD]; omega),?_⟩
   rw [jb]
   refine ⟨_,ins ++ [y2],es3,rfl,W5.setX mI nI hI,upd_same,?_,by simp,by simp; omega⟩
   rw [List.append_assoc]
   exact (List.Perm.append_left _ p5).trans p3
  ·rintro σ' H3 ⟨v8,ins,es2,rfl,W3,hI3,p3,i1,ii⟩
   exact ⟨v8,ins,es2,rfl,W3,hI3,p3,i1,by omega⟩
 clear W1 hI1
 rintro σ' H2 ⟨v8,ins,es2,rfl,W2,hI2,p2,i1,i4⟩
 have I2:WInv bs rs (ins ++ es2) ks:=I0.perm p2 (List.Perm.refl _)
 have pl:=p2.length_eq
 rw [List.length_append,List.length_cons] at pl
 clear I0 p2
 walk_at "go"
 refine cut (fun σ' H'=>∃ (bs1:List (Int × Int)) (ins ks1:List Int),σ'=[some (.ref L),some (.ref E),some (.ref B),some (.int y),some (.int c),some (.int sp),some (.int nu),some (.ref I),v8]∧GS a (I :: ms) H H' L R E B bs1 rs es2 ks1∧H' I=some (.lst (iv ins))∧WInv bs1 rs (ins ++ es2) ks1∧2≤ins.length∧ins.length≤4∧bs1.length + ks1.length≤bs.length + ks.length + 2∧ks1.length≤ks.length + 1∧bs1.length≤bs.length + 1) ?_ ?_
 ·walk_at "go"
  refine ⟨_,.inl ⟨_,SqL.of hI2,rfl⟩,?_⟩
  rw [zD]
  walk_at "go"
  refine ite2 (fun b=>?_) (fun b=>⟨bs,ins,ks,W2,hI2,I2,by omega,i4,by omega,by omega,by omega⟩)
  obtain ⟨bv,hL,rL⟩:=W2.hL
  have lL:bv.length=bs.length:=by rw [rL.len,List.length_map]
  walk_at "go"
  refine ⟨.inl ⟨rfl,_,SqL.of W2.hB⟩,_,_,_,(j5 T).mono,_,_,_,(qz T).mono,c,_,rfl,by decide,by decide,?_⟩
  refine ⟨L,bv,_,sp,rfl,qH _ _,p1,p4,hL,by omega,fun rm pc z H3 bk s3 q3=>?_⟩
  obtain ⟨W3,_⟩:=W2.addL hL s3 q3
  rw [lL]
  have nIL:I≠L:=fun z=>nI (by rw [z]; simp)
  have hI3:upd H3 L (.lst (bv ++ [.ref z])) I=some (.lst (iv ins)):=by rw [upd_ne nIL]; exact s3 _ _ hI2
  generalize upd H3 L (.lst (bv ++ [.ref z]))=H4 at W3 hI3 ⊢
  have I3:=I2.belt (b:=(rm,pc)) bk
  refine ⟨B,_,_,rfl,rfl,W3.hB,zm (by rw [zD]; omega),?_⟩
  rw [jb]
  have W4:=W3.setB (ks ++ [(bs.length:Int)])
  have nIB:I≠B:=fun z=>nI (by rw [z]; simp)
  have hI4:upd H4 B (.lst (iv (ks ++ [(bs.length:Int)]))) I=some (.lst (iv ins)):=by rw [upd_ne nIB]; exact hI3
  generalize upd H4 B (.lst (iv (ks ++ [(bs.length:Int)])))=H5 at W4 hI4 ⊢
  walk_at "go"
  refine ⟨.inl ⟨rfl,_,SqL.of hI4⟩,zq (SqL.of W4.hB) wc ?_⟩
  refine ⟨I,_,_,rfl,rfl,hI4,zm (by rw [zD]; omega),?_⟩
  rw [jb]
  refine ⟨bs ++ [(rm,pc)],ins ++ [(bs.length:Int)],ks ++ [(bs.length:Int)],W4.setX mI nI hI,upd_same,I3.perm ?_ (List.Perm.refl _),by simp; omega,by simp; omega,by simp; omega,by simp,by simp⟩
  rw [List.append_assoc,List.append_assoc]
  exact List.Perm.append_left _ List.perm_append_comm
 have e2l:es2.length≤es.length:=by omega
 clear W2 hI2 I2 i1 i4
 rintro σ' H3 ⟨bs1,ins,ks1,rfl,W3,hI3,I3,i2,i4,q1,q2,q3⟩
 walk_at "go"
 refine cut (fun σ' H'=>∃ (J:Addr) (ins:List Int),σ'=[some (.ref L),some (.ref E),some (.ref B),some (.int y),some (.int c),some (.int sp),some (.int nu),some (.ref J),v8]∧GS a ms H H' L R E B bs1 rs es2 ks1∧H' J=some (.lst (iv ins))∧J ∉ ms4 L R E B∧WInv bs1 rs (ins ++ es2) ks1∧2≤ins.length∧ins.length≤4) ?_ ?_
 ·walk_at "go"
  walk_at "sds"
  walk_at "go"
  refine ite2 (fun b=>?_) (fun b=>⟨I,ins,rfl,W3.less nI,hI3,nI,I3,i2,i4⟩)
  walk_at "go"
  refine wq (SqL.of hI3) fun j1 hj1=>?_
  rw [show cutV (iv ins) (some 1) none=iv (ins.drop 1) from (QB (iv ins) 1 (by rw [zD]; omega)).trans (by simp [iv])]
  have a1:=ze (o:=.lst (iv (ins.drop 1))) hj1
  refine wq (SqL.of (a1 _ _ hI3)) fun j2 hj2=>?_
  rw [show cutV (iv ins) none (some 1)=iv (ins.take 1) from (vI (iv ins) 1).trans (by simp [iv])]
  have a2:=ze (o:=.lst (iv (ins.take 1))) hj2
  refine Q2 (SqL.of (a2 _ _ upd_same)) (SqL.of upd_same) (xL (by rw [zD,zD,List.length_drop,List.length_take]; omega)) fun j3 hj3=>?_
  have a3:=ze (o:=.lst (iv (ins.drop 1) ++ iv (ins.take 1))) hj3
  have sA:=(a1.trans a2).trans a3
  have W4:=W3.same sA
  have n3:=(W3.same (a1.trans a2)).off hj3
  refine ⟨j3,ins.drop 1 ++ ins.take 1,rfl,W4.less nI,by rw [upd_same]; simp [iv],fun z=>n3 (List.mem_cons_of_mem _ ?_),I3.perm (List.Perm.append_right _ (xN ins 1)) (List.Perm.refl _),by rw [(xN ins 1).length_eq]; exact i2,by rw [(xN ins 1).length_eq]; exact i4⟩
  exact W.m _ z
 clear W3 hI3 I3 i2 i4
 rintro σ' H4 ⟨J,ins,rfl,W4,hJ4,nJ,I4,i2,i4⟩
 obtain ⟨bv,hL,rL⟩:=W4.hL
 have lL:bv.length=bs1.length:=by rw [rL.len,List.length_map]
 walk_at "go"
 refine ⟨.inl ⟨rfl,_,SqL.of W4.hE⟩,_,_,_,(j5 T).mono,fd_ok (by decide) (by decide +kernel),?_⟩
 refine ⟨L,bv,_,sp,rfl,Int.ediv_nonneg n0 (by decide),p1,p4,hL,by omega,fun rm pc z H5 bk s5 q5=>?_⟩
 obtain ⟨W5,_⟩:=W4.addL hL s5 q5
 rw [lL]
 have nJL:J≠L:=fun z=>nJ (by rw [z]; simp)
 have hJ5:upd H5 L (.lst (bv ++ [.ref z])) J=some (.lst (iv ins)):=by rw [upd_ne nJL]; exact s5 _ _ hJ4
 generalize upd H5 L (.lst (bv ++ [.ref z]))=H6 at W5 hJ5 ⊢
 have I5:=I4.belt (b:=(rm,pc)) bk
 refine ⟨E,_,_,rfl,rfl,W5.hE,zm (by rw [zD]; omega),?_⟩
 rw [jb]
 have W6:=W5.setE (es2 ++ [(bs1.length:Int)])
 have nJE:J≠E:=fun z=>nJ (by rw [z]; simp)
 have hJ6:upd H6 E (.lst (iv (es2 ++ [(bs1.length:Int)]))) J=some (.lst (iv ins)):=by rw [upd_ne nJE]; exact hJ5
 generalize upd H6 E (.lst (iv (es2 ++ [(bs1.length:Int)])))=H7 at W6 hJ6 ⊢
 walk_at "go"
 refine ⟨a.Joiner,_,_,_,(vx T).mono,zq (SqL.of W6.hE) wc ?_⟩
 intro z dz hz hdz hne
 refine Zd hz hdz hJ6 i2 i4 fun H8 s8 q8=>⟨rfl,?_⟩
 refine k _ H8 (bs1 ++ [(rm,pc)]) (es2 ++ [(bs1.length:Int)]) ks1 ⟨.joiner,ins,[(bs1.length:Int)],0,[]⟩ (W6.same s8) (W6.newK q8) (I5.knot ?_ List.perm_append_comm ⟨⟨_,rfl⟩,i2,i4⟩) (by simp; omega) (by simp; omega)
 rw [List.append_assoc]
theorem c_L_joined (T:Txt K mg a):Cal P w K mg base "_law_joined" 4 ["_law_belts","_law_ends","_law_loops","_law_into","_law_cell","_law_span"] [] (Z5 a):=T.h_L_joined.cal (ok_L_joined T)
abbrev stG (L R E B:Addr) (c sp nu:Int) (v8 v9 v10 v11 v12:Option V):St:=[some (.ref L),some (.ref R),some (.ref E),some (.ref B),some (.int c),some (.int sp),some (.int nu),some (.int (nu % 9)),v8,v9,v10,v11,v12]
theorem fac_at {k:Nat} (h:k < 4):∃ m:Int,atI [V.int 941083987,.int 1726512289,.int 1999483721,.int 1103527591] (0 + (k:Int))=some (.int m)∧0≤m∧m < 2147483647:=by
 match k,h with
 | 0,_=>exact ⟨_,rfl,by decide,by decide⟩
 | 1,_=>exact ⟨_,rfl,by decide,by decide⟩
 | 2,_=>exact ⟨_,rfl,by decide,by decide⟩
 | 3,_=>exact ⟨_,rfl,by decide,by decide⟩
theorem more_at {n:Int}:∃ m:Int,atI [V.int 0,.int 0,.int 1,.int 2] (n % 4)=some (.int m)∧0≤m∧m≤2:=by
 have h0:=Int.emod_nonneg n (show (4:Int)≠0 by decide)
 have h1:=Int.emod_lt_of_pos n (show (0:Int) < 4 by decide)
 generalize n % 4=j at h0 h1 ⊢
 have:j=0∨j=1∨j=2∨j=3:=by omega
 rcases this with rfl | rfl | rfl | rfl <;> exact ⟨_,rfl,by decide,by decide⟩
def JB (a:Ad):Sp:=fun vs H Q _=>∃ (ms:List Addr) (L R En B:Addr) (bs:List (Int × Int)) (rs:List Row) (es ks:List Int) (c sp:Int),vs=[.ref L,.ref R,.ref En,.ref B,.int c,.int sp]∧GS a ms H H L R En B bs rs es ks∧WInv bs rs es ks∧1≤sp∧sp≤4∧bs.length≤50∧rs.length≤50∧es.length≤50∧ks.length≤50 ∧
 ∀ H' bs' rs' es' ks',GS a ms H H' L R En B bs' rs' es' ks'→WInv bs' rs' es' ks'→bs'.length + ks'.length≤bs.length + ks.length + 4→rs'.length + es'.length + ks'.length≤rs.length + es.length + ks.length + 4→(es=[]→bs'.length + ks'.length≤bs.length + ks.length + 1∧rs'.length + es'.length + ks'.length≤rs.length + es.length + ks.length + 2)→1≤rs'.length→Q .non H'
theorem ok_L_grow (T:Txt K mg a) (F:Fun K "_law_grow" "_law_grow" s_L_grow f fd):FnOk P w K mg base (CXr P w) 5 f fd ["_law_belts","_law_knots","_law_ends","_law_loops","_law_cell","_law_span"] (JB a):=by
 refine F.okx sc_L_grow ?_ ?_
 ·walk_at "i"
 walk_at "j"
 obtain ⟨ms,L,R,E,B,bs,rs,es,ks,c,sp,rfl,W,I0,p1,p4,lb,lr,le,lk,k⟩:=h
 walk_at "T"
 refine ⟨_,(zg (zx 6 sc_L_grow.nd (zv ⟨rfl,rfl,rfl⟩ hr (za (pv 4) (za zc zb))))  (zg (zx 7 sc_L_grow.nd (zi zB (pv 6) zc))  (zg (zy (PW.pt (pw_or (zn (qr hr.units1) (pv 2) (zF zb) (zo _)) (pw_or1 (zn (qr hr.units1) (pv 7) zc (zo _)))))  (zg (zt (qq PySem.F.plainAttrs_list PySem.F.slot_list_append PySem.F.type_list_append zQ (pv 2) (za (zv ⟨rfl,rfl,rfl⟩ hr (za (pv 0) (za (zi zK (pv 6) zc) (za (pv 5) zb)))) zb)))  (zg (zt (qq PySem.F.plainAttrs_list PySem.F.slot_list_append PySem.F.type_list_append zQ (pv 1) (za (zv ⟨rfl,rfl,rfl⟩ hr (za (zp (pv 2) (xm jm zc)) (za (pv 4) (za (zi zK (pv 6) zc) (za (pv 5) zb))))) zb)))  (zd (zj zz))))  zk)  (zg (zx 8 sc_L_grow.nd (qq PySem.F.plainAttrs_list PySem.F.slot_list_pop PySem.F.type_list_pop vp (pv 2) (za (zi zB (zi zK (pv 6) zc) (zV zP zO (za (pv 2) zb))) zb)))  (zX (zy (zn (qr hr.units1) (pv 7) zc (zo _))  (zd (zt (qq PySem.F.plainAttrs_list PySem.F.slot_list_append PySem.F.type_list_append zQ (pv 1) (za (zv ⟨rfl,rfl,rfl⟩ hr (za (pv 8) (za (zi zK (pv 6) zc) (za (pv 5) zb)))) zb))))  (zd (zy (zn og_gt (pv 7) zc (zo _))  (zd (zt (qq PySem.F.plainAttrs_list PySem.F.slot_list_append PySem.F.type_list_append zQ (pv 1) (za (zv ⟨rfl,rfl,rfl⟩ hr (za (pv 0) (za (pv 2) (za (pv 3) (za (pv 8) (za (pv 4) (za (pv 5) zb))))))) zb))))  (zg (zx 9 sc_L_grow.nd (zF zb))  (zg (zx 10 sc_L_grow.nd zc)  (zX (zy (zn (jW hr.units1) (pv 7) zc (zo _))  (zd (zx 10 sc_L_grow.nd (zi z7 zc (zp (zF (za zc (za zc (za zc (za zc zb))))) (zi zB (zi zK (pv 6) zc) zc)))))  zk)  (zX (qd qC rfl (jT (za (pv 10) zb)) (pg_n 11 sc_L_grow.nd)  (zg (zx 12 sc_L_grow.nd (zp (zF (za zc (za zc (za zc (za zc zb))))) (pv 11)))  (zd (zt (qq PySem.F.plainAttrs_list PySem.F.slot_list_append PySem.F.type_list_append zQ (pv 9) (za (zv ⟨rfl,rfl,rfl⟩ hr (za (pv 0) (za (zv ⟨rfl,rfl,rfl⟩ hr (za (pv 4) (za (pv 12) zb))) (za (pv 5) zb)))) zb))))))  (zg (zt (qq PySem.F.plainAttrs_list PySem.F.slot_list_extend PySem.F.type_list_extend xa (pv 2) (za (pv 9) zb)))  (zd (zt (qq PySem.F.plainAttrs_list PySem.F.slot_list_append PySem.F.type_list_append zQ (pv 1) (za (zv ⟨rfl,rfl,rfl⟩ hr (za (pv 8) (za (pv 9) (za (zv ⟨rfl,rfl,rfl⟩ hr (za (pv 1) (za (pv 4) (za (zi zK (pv 6) zc) zb)))) (za (pv 7) zb))))) zb))))))))))))  (zd (zj zz))))))),?_⟩
 walk_at "go"
 refine uc (qz T).mono ⟨c,_,rfl,by decide,by decide,?_⟩
 have n0:=qH c 1530421987
 generalize jy c 1530421987=nu at n0 ⊢
 walk_at "go"
 intro q hq
 have sq:=ze (o:=.lst []) hq
 have W1:=W.same sq
 refine JU W1.hE upd_same ?_
 generalize upd H q (.lst [])=H1 at W1 ⊢
 clear sq hq
 walk_at "go"
 refine ite_or1 (C:=nu % 9=8) (fun z=>?_) (fun a0 hp=>?_)
 ·obtain ⟨bv,hL,rL⟩:=W1.hL
  have lL:bv.length=bs.length:=by rw [rL.len,List.length_map]
  walk_at "go"
  refine ⟨.inl ⟨rfl,_,SqL.of W1.hE⟩,_,_,_,(j5 T).mono,fd_ok (by decide) (by decide +kernel),?_⟩
  refine ⟨L,bv,_,sp,rfl,Int.ediv_nonneg n0 (by decide),p1,p4,hL,by omega,fun rm pc z H3 bk s3 q3=>?_⟩
  obtain ⟨W3,_⟩:=W1.addL hL s3 q3
  rw [lL]
  generalize upd H3 L (.lst (bv ++ [.ref z]))=H4 at W3 ⊢
  have I3:=I0.belt (b:=(rm,pc)) bk
  refine ⟨E,_,_,rfl,rfl,W3.hE,zm (by rw [zD]; omega),?_⟩
  rw [jb]
  have W4:=W3.setE (es ++ [(bs.length:Int)])
  generalize upd H4 E (.lst (iv (es ++ [(bs.length:Int)])))=H5 at W4 ⊢
  obtain ⟨rv,hR,rR⟩:=W4.hR
  have lR:rv.length=rs.length:=by rw [rR.len,List.length_map]
  walk_at "go"
  refine ⟨.inl ⟨rfl,_,SqL.of hR⟩,_,_,_,(vL T).mono,zq (SqL.of W4.hE) wc ⟨fd_ok (by decide) (by decide +kernel),?_⟩⟩
  refine ⟨_,c,_,sp,rfl,Int.ediv_nonneg n0 (by decide),p1,p4,fun v H6 pc' kd s6 c1 c4 d1 d6 dk q6=>?_⟩
  obtain ⟨W6,_⟩:=W4.addR hR s6 (W4.newK q6)
  refine ⟨R,_,_,rfl,rfl,s6 _ _ hR,zm (by omega),?_⟩
  walk_at "go"
  exact k _ _ _ _ _ W6 (I3.knot (r:=⟨.source,[],[(bs.length:Int)],pc',kd⟩) (List.Perm.refl _) List.perm_append_comm ⟨rfl,⟨_,rfl⟩,c1,c4,d1,d6,dk⟩) (by simp; omega) (by simp; omega) (fun _=>⟨by simp; omega,by simp; omega⟩) (by simp)
 refine ite2 (fun z=>hp z) (fun n8=>?_)
 clear hp
 have el:(0:Int) < es.length:=by
  rcases Nat.eq_zero_or_pos es.length with z | z
  ·exact absurd (List.length_eq_zero_iff.mp z) a0
  ·omega
 have k:=fun H' bs' rs' es' ks' a b c d=>k H' bs' rs' es' ks' a b c d (fun z=>absurd z a0)
 walk_at "go"
 refine ⟨.inl ⟨rfl,_,SqL.of W1.hE⟩,fd_ok (by decide) (by decide +kernel),m_len,_,.inl ⟨_,SqL.of W1.hE,rfl⟩,?_⟩
 rw [zD]
 refine ⟨el,?_⟩
 have v0:=Int.emod_nonneg (nu / 9) (show (es.length:Int)≠0 by omega)
 have v1:=Int.emod_lt_of_pos (nu / 9) el
 generalize nu / 9 % (es.length:Int)=jj at v0 v1 ⊢
 obtain ⟨y,hy⟩:∃ y,es[jj.toNat]?=some y:=⟨es[jj.toNat]'(by omega),List.getElem?_eq_getElem _⟩
 refine ⟨E,iv es,jj,jj.toNat,.int y,rfl,rfl,W1.hE,by omega,by omega,vh v0 (by rw [zD]; exact v1),jZ hy,?_⟩
 rw [vz]
 have W2:=W1.setE (es.eraseIdx jj.toNat)
 have pp:=xP hy
 have pl:=pp.length_eq
 rw [List.length_cons] at pl
 have I2:=I0.perm pp (List.Perm.refl _)
 generalize upd H1 E (.lst (iv (es.eraseIdx jj.toNat)))=H2 at W2 ⊢
 generalize es.eraseIdx jj.toNat=es1 at pp pl W2 I2 ⊢
 clear W W1 I0 pp
 obtain ⟨rv,hR,rR⟩:=W2.hR
 have lR:rv.length=rs.length:=by rw [rR.len,List.length_map]
 walk_at "go"
 refine cut (fun σ' H'=>∃ (v9 v10 v11 v12:Option V) (bs':List (Int × Int)) (rs':List Row) (es' ks':List Int),σ'=stG L R E B c sp nu (some (.int y)) v9 v10 v11 v12∧GS a ms H H' L R E B bs' rs' es' ks'∧WInv bs' rs' es' ks'∧bs'.length + ks'.length≤bs.length + ks.length + 4∧rs'.length + es'.length + ks'.length≤rs.length + es.length + ks.length + 4∧1≤rs'.length) ?_ ?_
 ·walk_at "go"
  refine ite2 (fun w7=>?_) (fun w7=>?_)
  ·walk_at "go"
   refine ⟨.inl ⟨rfl,_,SqL.of hR⟩,_,_,_,(Zp T).mono,fd_ok (by decide) (by decide +kernel),?_⟩
   refine ⟨y,_,sp,rfl,Int.ediv_nonneg n0 (by decide),p1,p4,fun v H3 pc s3 c0 c4 q3=>?_⟩
   obtain ⟨W3,_⟩:=W2.addR hR s3 (W2.newK q3)
   refine ⟨R,_,_,rfl,rfl,s3 _ _ hR,zm (by omega),_,_,_,_,bs,_,es1,ks,rfl,W3,I2.knot (r:=⟨.drain,[y],[],pc,[]⟩) (List.Perm.refl _) (List.Perm.refl _) ⟨⟨_,rfl⟩,rfl,c0,c4⟩,by omega,by simp; omega,by simp⟩
  walk_at "go"
  refine ite2 (fun w3=>?_) (fun w3=>?_)
  ·walk_at "go"
   refine ⟨.inl ⟨rfl,_,SqL.of hR⟩,_,_,_,(c_L_joined T).mono,ms,L,R,E,B,bs,rs,es1,ks,y,c,sp,rfl,W2.here,I2,p1,p4,by omega,by omega,by omega,fun v H3 bs' es' ks' r W3 q3 I3 l1 l2=>?_⟩
   have W3:=W2.trans W3
   obtain ⟨rv3,hR3,rR3⟩:=W3.hR
   obtain ⟨W4,_⟩:=W3.addR hR3 (Same.refl _) q3
   have lR3:rv3.length=rs.length:=by rw [rR3.len,List.length_map]
   refine ⟨R,_,_,rfl,rfl,hR3,zm (by omega),_,_,_,_,bs',_,es',ks',rfl,W4,I3,by omega,by simp; omega,by simp⟩
  walk_at "go"
  intro O hO
  obtain ⟨W3,nO⟩:=W2.ext (xs:=[]) hO
  have hO3:upd H2 O (.lst []) O=some (.lst (iv [])):=upd_same
  have hO0:H O=none:=by
   cases e:H O with
   | none=>rfl
   | some u=>rw [W2.f O u nO e] at hO; cases hO
  generalize upd H2 O (.lst [])=H3 at W3 hO3 ⊢
  have mO:O∈O :: ms:=by simp
  walk_at "go"
  refine cut (fun σ' H'=>∃ (v10:Nat),σ'=stG L R E B c sp nu (some (.int y)) (some (.ref O)) (some (.int v10)) none none∧GS a (O :: ms) H H' L R E B bs rs es1 ks∧H' O=some (.lst (iv []))∧2≤v10∧v10≤4∧(nu % 9=1→v10=2)) ?_ ?_
  ·walk_at "go"
   refine ite2 (fun w1=>?_) (fun w1=>⟨2,rfl,W3,hO3,by decide,by decide,fun _=>rfl⟩)
   obtain ⟨m,em,m0,m2⟩:=more_at (n:=nu / 216)
   walk_at "go"
   intro q hq
   refine ⟨fd_ok (by decide) (by decide +kernel),zq (SqL.of upd_same) em ?_⟩
   have sq:=ze (o:=.lst [V.int 0,.int 0,.int 1,.int 2]) hq
   walk_at "go"
   refine ⟨(2 + m).toNat,?_,W3.same sq,sq _ _ hO3,by omega,by omega,fun z=>absurd z w1⟩
   rw [show (((2 + m).toNat:Nat):Int)=2 + m by omega]
  clear W3 hO3
  rintro σ' H4 ⟨mn,rfl,W4,hO4,m2,m4,m1⟩
  walk_at "go"
  refine cut (fun σ' H'=>∃ (v11 v12:Option V) (bs':List (Int × Int)) (outs:List Int),σ'=stG L R E B c sp nu (some (.int y)) (some (.ref O)) (some (.int mn)) v11 v12∧GS a (O :: ms) H H' L R E B bs' rs es1 ks∧H' O=some (.lst (iv outs))∧WInv bs' rs (y :: (es1 ++ outs)) (ks ++ outs)∧outs.length=mn∧bs'.length=bs.length + mn) ?_ ?_
  ·walk_at "for"
   walk_at "go"
   refine ⟨by omega,by omega,?_⟩
   refine wK (n:=(mn:Int).toNat) (fun i σ' H'=>∃ (v11 v12:Option V) (bs':List (Int × Int)) (outs:List Int),σ'=stG L R E B c sp nu (some (.int y)) (some (.ref O)) (some (.int mn)) v11 v12∧GS a (O :: ms) H H' L R E B bs' rs es1 ks∧H' O=some (.lst (iv outs))∧WInv bs' rs (y :: (es1 ++ outs)) (ks ++ outs)∧outs.length=i∧bs'.length=bs.length + i) ⟨_,_,bs,[],rfl,W4,hO4,by rw [List.append_nil,List.append_nil]; exact I2,rfl,rfl⟩ ?_ ?_
   ·clear W4 hO4
    rintro i σ' H5 hi ⟨v11,v12,bs',outs,rfl,W5,hO5,I5,lo,lb'⟩
    have hi4:i < 4:=by omega
    obtain ⟨fa,efa,f0,f1⟩:=fac_at hi4
    walk_at "go"
    intro q hq
    refine zq (SqL.of upd_same) efa ?_
    have sq:=ze (o:=.lst [V.int 941083987,.int 1726512289,.int 1999483721,.int 1103527591]) hq
    have W6:=W5.same sq
    have hO6:=sq _ _ hO5
    generalize upd H5 q (.lst [V.int 941083987,.int 1726512289,.int 1999483721,.int 1103527591])=H6 at W6 hO6 ⊢
    clear W5 hO5 sq hq efa
    obtain ⟨bv,hL,rL⟩:=W6.hL
    have lL:bv.length=bs'.length:=by rw [rL.len,List.length_map]
    walk_at "go"
    refine ⟨.inl ⟨rfl,_,SqL.of hO6⟩,_,_,_,(j5 T).mono,_,_,_,(qz T).mono,c,fa,rfl,f0,f1,?_⟩
    refine ⟨L,bv,_,sp,rfl,qH _ _,p1,p4,hL,by omega,fun rm pc z H7 bk s7 q7=>?_⟩
    obtain ⟨W7,_⟩:=W6.addL hL s7 q7
    rw [lL]
    have nOL:O≠L:=fun z=>nO (by rw [z]; simp)
    have hO7:upd H7 L (.lst (bv ++ [.ref z])) O=some (.lst (iv outs)):=by rw [upd_ne nOL]; exact s7 _ _ hO6
    generalize upd H7 L (.lst (bv ++ [.ref z]))=H8 at W7 hO7 ⊢
    have I7:=I5.belt (b:=(rm,pc)) bk
    refine ⟨O,_,_,rfl,rfl,hO7,zm (by rw [zD]; omega),?_⟩
    rw [jb]
    refine ⟨_,_,bs' ++ [(rm,pc)],outs ++ [(bs'.length:Int)],rfl,W7.setX mO nO hO0,upd_same,?_,by simp [lo],by simp [lb']; omega⟩
    rw [← List.append_assoc,← List.append_assoc]
    exact I7
   ·rintro σ' H5 ⟨v11,v12,bs',outs,rfl,W5,hO5,I5,lo,lb'⟩
    exact ⟨v11,v12,bs',outs,rfl,W5,hO5,I5,by omega,by omega⟩
  clear W4 hO4
  rintro σ' H5 ⟨v11,v12,bs',outs,rfl,W5,hO5,I5,lo,lb'⟩
  walk_at "go"
  refine ⟨.inl ⟨rfl,_,SqL.of W5.hE⟩,E,O,iv es1,iv outs,rfl,rfl,W5.hE,hO5,?_,?_⟩
  ·rw [zD,zD]; exact Nat.le_of_lt (zm (by omega))
  rw [show iv es1 ++ iv outs=iv (es1 ++ outs) by simp [iv]]
  have W6:=W5.setE (es1 ++ outs)
  have nOE:O≠E:=fun z=>nO (by rw [z]; simp)
  have hO6:upd H5 E (.lst (iv (es1 ++ outs))) O=some (.lst (iv outs)):=by rw [upd_ne nOE]; exact hO5
  generalize upd H5 E (.lst (iv (es1 ++ outs)))=H6 at W6 hO6 ⊢
  have W7:=W6.less nO
  obtain ⟨rv7,hR7,rR7⟩:=W7.hR
  have lR7:rv7.length=rs.length:=by rw [rR7.len,List.length_map]
  walk_at "go"
  refine ⟨.inl ⟨rfl,_,SqL.of hR7⟩,_,_,_,(vM T).mono,_,_,_,(QF T).mono,fd_ok (by decide) (by decide +kernel),?_⟩
  refine ⟨R,rv7,rs,c,_,_,rfl,hR7,rR7,I5.ro,by omega,Int.ediv_nonneg n0 (by decide),fun H8 kk s8 k0 k1=>?_⟩
  refine ⟨y,kk,nu % 9,O,outs,rfl,s8 _ _ hO6,by omega,by omega,fun z=>by rw [lo]; exact m1 z,k0,k1,fun v H9 s9 q9=>?_⟩
  have s79:=s8.trans s9
  have q9:KnP a H9 (New H6) v (Za y kk (nu % 9) outs):=q9.keep fun b o hb ho=>⟨zJ s8 hb,ho⟩
  obtain ⟨W9,_⟩:=W7.addR hR7 s79 (W7.newK q9)
  refine ⟨R,_,_,rfl,rfl,s79 _ _ hR7,zm (by omega),?_⟩
  refine ⟨_,_,_,_,bs',_,es1 ++ outs,ks,rfl,W9,I5.knot (List.Perm.refl _) List.perm_append_comm (Qi (by omega) (by omega) (fun z=>by rw [lo]; exact m1 z) k0 k1),by omega,by simp; omega,by simp⟩
 rintro σ' H3 ⟨v9,v10,v11,v12,bs',rs',es',ks',rfl,W3,I3,l1,l2,r1⟩
 walk_at "go"
 exact k _ _ _ _ _ W3 I3 l1 l2 r1
theorem QG (T:Txt K mg a):Cal P w K mg base "_law_grow" 5 ["_law_belts","_law_knots","_law_ends","_law_loops","_law_cell","_law_span"] [] (JB a):=T.h_L_grow.cal (ok_L_grow T)
abbrev stC (L R E B:Addr) (c sp:Int) (v6 v7 v8 v9 v10 v11:Option V):St:=[some (.ref L),some (.ref R),some (.ref E),some (.ref B),some (.int c),some (.int sp),v6,v7,v8,v9,v10,v11]
def Q0 (a:Ad):Sp:=fun vs H Q _=>∃ (ms:List Addr) (L R En B:Addr) (bs:List (Int × Int)) (rs:List Row) (es ks:List Int) (c sp:Int),vs=[.ref L,.ref R,.ref En,.ref B,.int c,.int sp]∧GS a ms H H L R En B bs rs es ks∧WInv bs rs es ks∧1≤sp∧sp≤4∧bs.length + ks.length≤24∧rs.length + es.length + ks.length≤24 ∧
 ∀ H' bs' rs' es',GS a ms H H' L R En B bs' rs' es' ks→WInv bs' rs' [] []→bs'.length≤bs.length + ks.length→rs'.length≤rs.length + es.length + ks.length→rs.length≤rs'.length→Q .non H'
theorem ok_L_close (T:Txt K mg a) (F:Fun K "_law_close" "_law_close" s_L_close f fd):FnOk P w K mg base (CXr P w) 5 f fd ["_law_belts","_law_knots","_law_ends","_law_loops","_law_cell","_law_span"] (Q0 a):=by
 refine F.okx sc_L_close ?_ ?_
 ·walk_at "i"
 walk_at "j"
 obtain ⟨ms,L,R,E,B,bs,rs,es,ks,c,sp,rfl,W,I0,p1,p4,lb,lr,k⟩:=h
 walk_at "T"
 refine ⟨_,(zX (qd qC rfl (qm (za (pv 3) zb)) (jD (n:=2) rfl (zZ (pg_n 6 sc_L_close.nd) (zZ (pg_n 7 sc_L_close.nd) ja)))  (zg (zx 8 sc_L_close.nd (zv ⟨rfl,rfl,rfl⟩ hr (za (zi z7 (pv 4) (zi ZF (pv 6) (pv 6))) (za zc zb))))  (zd (zy (zn (qr hr.units1) (pv 2) (zF zb) (zo _))  (zd (zt (qq PySem.F.plainAttrs_list PySem.F.slot_list_append PySem.F.type_list_append zQ (pv 1) (za (zv ⟨rfl,rfl,rfl⟩ hr (za (pv 7) (za (pv 4) (za (pv 8) (za (pv 5) zb))))) zb))))  (zg (zx 9 sc_L_close.nd (qq PySem.F.plainAttrs_list PySem.F.slot_list_pop PySem.F.type_list_pop vp (pv 2) (za (zi zB (pv 8) (zV zP zO (za (pv 2) zb))) zb)))  (zg (zt (qq PySem.F.plainAttrs_list PySem.F.slot_list_append PySem.F.type_list_append zQ (pv 2) (za (zv ⟨rfl,rfl,rfl⟩ hr (za (pv 0) (za (zi zK (pv 8) zc) (za (pv 5) zb)))) zb)))  (zg (zx 10 sc_L_close.nd (zF (za (pv 7) (za (zp (pv 2) (xm jm zc)) zb))))  (zX (zy (zn (qr hr.units1) (zi zB (zi zK (pv 8) zc) zc) zc (zo _))  (zd (zx 10 sc_L_close.nd (zF (za (zp (pv 2) (xm jm zc)) (za (pv 7) zb)))))  zk)  (zd (zt (qq PySem.F.plainAttrs_list PySem.F.slot_list_append PySem.F.type_list_append zQ (pv 1) (za (zv ⟨rfl,rfl,rfl⟩ hr (za (pv 9) (za (pv 10) (za (zv ⟨rfl,rfl,rfl⟩ hr (za (pv 1) (za (pv 4) (za (zi zK (pv 8) zc) zb)))) (za (zi zB (zi zK (pv 8) zc) zc) zb))))) zb))))))))))))  (zd (qd qC rfl (qm (za (pv 2) zb)) (jD (n:=2) rfl (zZ (pg_n 6 sc_L_close.nd) (zZ (pg_n 11 sc_L_close.nd) ja)))  (zd (zt (qq PySem.F.plainAttrs_list PySem.F.slot_list_append PySem.F.type_list_append zQ (pv 1) (za (zv ⟨rfl,rfl,rfl⟩ hr (za (pv 11) (za (zv ⟨rfl,rfl,rfl⟩ hr (za (zi z7 (pv 4) (zi ZF (pv 6) (pv 6))) (za zc zb))) (za (pv 5) zb)))) zb))))))),?_⟩
 walk_at "go"
 refine cut (fun σ' H'=>∃ (v6 v7 v8 v9 v10:Option V) (bs1:List (Int × Int)) (rs1:List Row) (es1:List Int),σ'=stC L R E B c sp v6 v7 v8 v9 v10 none∧GS a ms H H' L R E B bs1 rs1 es1 ks∧WInv bs1 rs1 es1 []∧bs1.length≤bs.length + ks.length∧rs1.length + es1.length≤rs.length + es.length + ks.length∧rs.length≤rs1.length) ?_ ?_
 ·walk_at "for"
  walk_at "go"
  refine ⟨B,_,rfl,W.hB,?_⟩
  refine vE (K:=K) (a:=B) (xs:=iv ks) (fun i σ H'=>∃ (v6 v7 v8 v9 v10:Option V) (bs1:List (Int × Int)) (rs1:List Row) (es1:List Int),σ=stC L R E B c sp v6 v7 v8 v9 v10 none∧GS a ms H H' L R E B bs1 rs1 es1 ks∧WInv bs1 rs1 es1 (ks.drop i)∧bs1.length≤bs.length + i∧rs1.length + es1.length≤rs.length + es.length + i∧rs.length≤rs1.length)
   ⟨_,_,_,_,_,bs,rs,es,rfl,W,I0,Nat.le_refl _,Nat.le_refl _,Nat.le_refl _⟩ (fun i σ H' _ h=>by obtain ⟨_,_,_,_,_,_,_,_,_,W,_⟩:=h; exact SqL.of W.hB) ?_ ?_
  ·clear W I0
   rintro i x t σ H1 hi ht ⟨v6,v7,v8,v9,v10,bs1,rs1,es1,rfl,W1,I1,l1,l2,l3⟩
   obtain ⟨yl,hyl,rfl⟩:=Qv hi
   have hil:=(List.getElem?_eq_some_iff.mp hyl).1
   rw [Jl hyl] at I1
   have s2:=ze (o:=.tup [.int i,.int yl]) ht
   have W2:=W1.same s2
   refine un2 upd_same ?_
   generalize upd H1 t (.tup [.int i,.int yl])=H2 at W2 ⊢
   clear W1 s2 ht
   walk_at "go"
   refine uc (qz T).mono ⟨mul_okR (by omega) (by omega),_,_,rfl,by decide,by decide,?_⟩
   have n0:=qH (c + (i:Int) * i) 1726512289
   generalize jy (c + (i:Int) * i) 1726512289=nu at n0 ⊢
   walk_at "go"
   intro q hq
   have W3:=W2.same (ze (o:=.lst []) hq)
   refine JU W3.hE upd_same ?_
   generalize upd H2 q (.lst [])=H3 at W3 ⊢
   clear W2 hq
   obtain ⟨rv,hR,rR⟩:=W3.hR
   have lR:rv.length=rs1.length:=by rw [rR.len,List.length_map]
   walk_at "go"
   refine ite2 (fun z=>?_) (fun z=>?_)
   ·walk_at "go"
    refine ⟨.inl ⟨rfl,_,SqL.of hR⟩,_,_,_,(vL T).mono,yl,c,nu,sp,rfl,n0,p1,p4,fun v H4 pc kd s4 c1 c4 d1 d6 dk q4=>?_⟩
    obtain ⟨W4,_⟩:=W3.addR hR s4 (W3.newK q4)
    refine ⟨R,_,_,rfl,rfl,s4 _ _ hR,zm (by omega),?_⟩
    exact ⟨_,_,_,_,_,bs1,_,es1,rfl,W4,I1.knot (r:=⟨.source,[],[yl],pc,kd⟩) (List.Perm.refl _) (List.Perm.refl _) ⟨rfl,⟨_,rfl⟩,c1,c4,d1,d6,dk⟩,by omega,by simp; omega,by simp; omega⟩
   have el:(0:Int) < es1.length:=by
    rcases Nat.eq_zero_or_pos es1.length with y | y
    ·exact absurd (List.length_eq_zero_iff.mp y) z
    ·omega
   walk_at "go"
   refine ⟨.inl ⟨rfl,_,SqL.of W3.hE⟩,m_len,_,.inl ⟨_,SqL.of W3.hE,rfl⟩,?_⟩
   rw [zD]
   refine ⟨el,?_⟩
   have v0:=Int.emod_nonneg nu (show (es1.length:Int)≠0 by omega)
   have v1:=Int.emod_lt_of_pos nu el
   generalize nu % (es1.length:Int)=jj at v0 v1 ⊢
   obtain ⟨y,hy⟩:∃ y,es1[jj.toNat]?=some y:=⟨es1[jj.toNat]'(by omega),List.getElem?_eq_getElem _⟩
   refine ⟨E,iv es1,jj,jj.toNat,.int y,rfl,rfl,W3.hE,by omega,by omega,vh v0 (by rw [zD]; exact v1),jZ hy,?_⟩
   rw [vz]
   have W4:=W3.setE (es1.eraseIdx jj.toNat)
   have pp:=xP hy
   have pl:=pp.length_eq
   rw [List.length_cons] at pl
   have I2:=I1.perm pp (List.Perm.refl _)
   generalize upd H3 E (.lst (iv (es1.eraseIdx jj.toNat)))=H4 at W4 ⊢
   generalize es1.eraseIdx jj.toNat=es2 at pp pl W4 I2 ⊢
   clear W3 I1 pp rR hR lR
   obtain ⟨bv,hL,rL⟩:=W4.hL
   have lL:bv.length=bs1.length:=by rw [rL.len,List.length_map]
   walk_at "go"
   refine ⟨.inl ⟨rfl,_,SqL.of W4.hE⟩,_,_,_,(j5 T).mono,fd_ok (by decide) (by decide +kernel),?_⟩
   refine ⟨L,bv,_,sp,rfl,Int.ediv_nonneg n0 (by decide),p1,p4,hL,by omega,fun rm pc z H5 bk s5 q5=>?_⟩
   obtain ⟨W5,_⟩:=W4.addL hL s5 q5
   rw [lL]
   generalize upd H5 L (.lst (bv ++ [.ref z]))=H6 at W5 ⊢
   have I5:=I2.belt (b:=(rm,pc)) bk
   refine ⟨E,_,_,rfl,rfl,W5.hE,zm (by rw [zD]; omega),?_⟩
   rw [jb]
   have W6:=W5.setE (es2 ++ [(bs1.length:Int)])
   generalize upd H6 E (.lst (iv (es2 ++ [(bs1.length:Int)])))=H7 at W6 ⊢
   clear W5 W4 hL rL lL
   walk_at "go"
   refine zq (SqL.of W6.hE) wc fun O hO=>?_
   have W7:=W6.same (ze (o:=.lst [V.int yl,.int (bs1.length:Int)]) hO)
   have hO7:upd H7 O (.lst [V.int yl,.int (bs1.length:Int)]) O=some (.lst (iv [yl,(bs1.length:Int)])):=upd_same
   generalize upd H7 O (.lst [V.int yl,.int (bs1.length:Int)])=H8 at W7 hO7 ⊢
   clear W6 hO
   walk_at "go"
   refine cut (fun σ' H'=>∃ (O:Addr) (outs:List Int),σ'=stC L R E B c sp (some (.int i)) (some (.int yl)) (some (.int nu)) (some (.int y)) (some (.ref O)) none∧GS a ms H H' L R E B (bs1 ++ [(rm,pc)]) rs1 (es2 ++ [(bs1.length:Int)]) ks∧H' O=some (.lst (iv outs))∧outs.Perm [yl,(bs1.length:Int)]) ?_ ?_
   ·walk_at "go"
    walk_at "sds"
    walk_at "go"
    refine ite2 (fun b=>?_) (fun b=>⟨O,_,rfl,W7,hO7,List.Perm.refl _⟩)
    walk_at "go"
    refine zq (SqL.of W7.hE) wc fun O2 hO2=>?_
    walk_at "go"
    exact ⟨O2,[(bs1.length:Int),yl],rfl,W7.same (ze hO2),upd_same,List.Perm.swap _ _ _⟩
   clear W7 hO7
   rintro σ' H9 ⟨O,outs,rfl,W8,hO8,po⟩
   have lo:outs.length=2:=po.length_eq
   obtain ⟨rv,hR,rR⟩:=W8.hR
   have lR:rv.length=rs1.length:=by rw [rR.len,List.length_map]
   walk_at "go"
   refine ⟨.inl ⟨rfl,_,SqL.of hR⟩,_,_,_,(vM T).mono,_,_,_,(QF T).mono,fd_ok (by decide) (by decide +kernel),?_⟩
   refine ⟨R,rv,rs1,c,_,_,rfl,hR,rR,I5.ro,by omega,Int.ediv_nonneg n0 (by decide),fun H10 kk s10 k0 k1=>?_⟩
   refine ⟨fd_ok (by decide) (by decide +kernel),?_⟩
   refine ⟨y,kk,nu / 48 % 3,O,outs,rfl,s10 _ _ hO8,by omega,by omega,fun z=>lo,k0,k1,fun v H11 s11 q11=>?_⟩
   have s9:=s10.trans s11
   have q11:KnP a H11 (New H9) v (Za y kk (nu / 48 % 3) outs):=q11.keep fun b o hb ho=>⟨zJ s10 hb,ho⟩
   obtain ⟨W11,_⟩:=W8.addR hR s9 (W8.newK q11)
   refine ⟨R,_,_,rfl,rfl,s9 _ _ hR,zm (by omega),?_⟩
   refine ⟨_,_,_,_,_,_,_,es2 ++ [(bs1.length:Int)],rfl,W11,I5.knot (ks':=ks.drop (i + 1)) (List.Perm.refl _) ?_ (Qi (by omega) (by omega) (fun _=>lo) k0 k1),by simp; omega,by simp; omega,by simp; omega⟩
   refine (List.Perm.append_right _ po).trans ?_
   exact List.Perm.cons _ List.perm_append_comm
  ·rintro σ H1 ⟨v6,v7,v8,v9,v10,bs1,rs1,es1,rfl,W1,I1,l1,l2,l3⟩
   rw [zD] at I1 l1 l2
   rw [List.drop_length] at I1
   exact ⟨_,_,_,_,_,bs1,rs1,es1,rfl,W1,I1,l1,l2,l3⟩
 clear W I0
 rintro σ' H1 ⟨v6,v7,v8,v9,v10,bs1,rs1,es1,rfl,W1,I1,l1,l2,l3⟩
 walk_at "for"
 walk_at "go"
 refine ⟨E,_,rfl,W1.hE,?_⟩
 refine vE (K:=K) (a:=E) (xs:=iv es1) (fun i σ H'=>∃ (v6 v11:Option V) (rs2:List Row),σ=stC L R E B c sp v6 v7 v8 v9 v10 v11∧GS a ms H H' L R E B bs1 rs2 es1 ks∧WInv bs1 rs2 (es1.drop i) []∧rs2.length + (es1.length - i)≤rs1.length + es1.length∧rs1.length≤rs2.length)
  ⟨_,_,rs1,rfl,W1,I1,by omega,Nat.le_refl _⟩ (fun i σ H' _ h=>by obtain ⟨_,_,_,_,W,_⟩:=h; exact SqL.of W.hE) ?_ ?_
 ·clear W1 I1
  rintro i x t σ H2 hi ht ⟨v6,v11,rs2,rfl,W2,I2,m1,m2⟩
  obtain ⟨y,hy,rfl⟩:=Qv hi
  have hil:=(List.getElem?_eq_some_iff.mp hy).1
  rw [Jl hy] at I2
  have s3:=ze (o:=.tup [.int i,.int y]) ht
  have W3:=W2.same s3
  refine un2 upd_same ?_
  generalize upd H2 t (.tup [.int i,.int y])=H3 at W3 ⊢
  clear W2 s3 ht
  obtain ⟨rv,hR,rR⟩:=W3.hR
  have lR:rv.length=rs2.length:=by rw [rR.len,List.length_map]
  walk_at "go"
  refine ⟨.inl ⟨rfl,_,SqL.of hR⟩,_,_,_,(Zp T).mono,_,_,_,(qz T).mono,mul_okR (by omega) (by omega),_,_,rfl,by decide,by decide,?_⟩
  refine ⟨y,_,sp,rfl,qH _ _,p1,p4,fun v H4 pc s4 c0 c4 q4=>?_⟩
  obtain ⟨W4,_⟩:=W3.addR hR s4 (W3.newK q4)
  refine ⟨R,_,_,rfl,rfl,s4 _ _ hR,zm (by omega),?_⟩
  exact ⟨_,_,_,rfl,W4,I2.knot (r:=⟨.drain,[y],[],pc,[]⟩) (List.Perm.refl _) (List.Perm.refl _) ⟨⟨_,rfl⟩,rfl,c0,c4⟩,by simp; omega,by simp; omega⟩
 ·rintro σ H2 ⟨v6,v11,rs2,rfl,W2,I2,m1,m2⟩
  rw [zD] at I2 m1
  rw [List.drop_length] at I2
  walk_at "go"
  exact k _ _ _ _ W2 I2 l1 (by omega) (by omega)
theorem c_L_close (T:Txt K mg a):Cal P w K mg base "_law_close" 5 ["_law_belts","_law_knots","_law_ends","_law_loops","_law_cell","_law_span"] [] (Q0 a):=T.h_L_close.cal (ok_L_close T)
abbrev stK (l:Addr) (c nu:Int) (v4 v5 v6 v7 v8 v9 v10 v11 v12 v13 v14:Option V):St:=[some (.ref l),some (.int c),some (.int nu),some (.int (1 + nu % 4)),v4,v5,v6,v7,v8,v9,v10,v11,v12,v13,v14]
theorem j6 {x y:Int} (x1:1≤x) (x3:x≤6) (y1:1≤y) (y4:y≤4):zL [(x,y),(2,1),(1,y)] [⟨.joiner,[0,1],[2],0,[]⟩,⟨.parter,[2],[1,0],0,[]⟩]∧(∀ b∈[(x,y),(2,1),(1,y)],zA b.1 b.2)∧∀ r∈([⟨.joiner,[0,1],[2],0,[]⟩,⟨.parter,[2],[1,0],0,[]⟩]:List Row),r.ok:=by
 refine ⟨⟨⟨⟨by simp,by simp⟩,by simp,by simp⟩,?_,?_⟩,fun b hb=>?_,fun r hr=>?_⟩
 ·show List.Perm [2,1,0] [0,1,2]
  decide
 ·show List.Perm [0,1,2] [0,1,2]
  exact List.Perm.refl _
 ·simp only [List.mem_cons,List.not_mem_nil,or_false] at hb
  rcases hb with rfl | rfl | rfl
  ·exact ⟨x1,x3,y1,y4⟩
  ·exact ⟨by decide,by decide,by decide,by decide⟩
  ·exact ⟨show (1:Int)≤1 by decide,show (1:Int)≤6 by decide,y1,y4⟩
 ·simp only [List.mem_cons,List.not_mem_nil,or_false] at hr
  rcases hr with rfl | rfl
  ·exact ⟨⟨_,rfl⟩,by simp,by simp⟩
  ·exact ⟨⟨_,rfl⟩,by simp,by simp⟩
theorem lane_ok {k1 k2:List Int} (a1:1≤k1.length) (a6:k1.length≤6) (ak:jg k1) (b1:1≤k2.length) (b6:k2.length≤6) (bk:jg k2):zL [(1,1),(1,1)] [⟨.source,[],[0],3,k1⟩,⟨.source,[],[1],4,k2⟩,⟨.drain,[0],[],1,[]⟩,⟨.drain,[1],[],1,[]⟩]∧(∀ b∈[((1:Int),(1:Int)),(1,1)],zA b.1 b.2)∧∀ r∈([⟨.source,[],[0],3,k1⟩,⟨.source,[],[1],4,k2⟩,⟨.drain,[0],[],1,[]⟩,⟨.drain,[1],[],1,[]⟩]:List Row),r.ok:=by
 refine ⟨⟨⟨⟨by simp,by simp⟩,by simp,by simp⟩,?_,?_⟩,fun b hb=>?_,fun r hr=>?_⟩
 ·show List.Perm [0,1] [0,1]
  exact List.Perm.refl _
 ·show List.Perm [0,1] [0,1]
  exact List.Perm.refl _
 ·simp only [List.mem_cons,List.not_mem_nil,or_false] at hb
  rcases hb with rfl | rfl <;> exact ⟨by decide,by decide,by decide,by decide⟩
 ·simp only [List.mem_cons,List.not_mem_nil,or_false] at hr
  rcases hr with rfl | rfl | rfl | rfl
  ·exact ⟨rfl,⟨_,rfl⟩,show (1:Int)≤3 by decide,show (3:Int)≤4 by decide,a1,a6,ak⟩
  ·exact ⟨rfl,⟨_,rfl⟩,show (1:Int)≤4 by decide,show (4:Int)≤4 by decide,b1,b6,bk⟩
  ·exact ⟨⟨_,rfl⟩,rfl,by decide,by decide⟩
  ·exact ⟨⟨_,rfl⟩,rfl,by decide,by decide⟩
def wR (K:PySem.W.Frag) (a:Ad):Sp:=fun vs H Q _=>∃ (l:Addr) (ns:List Int),vs=[.ref l]∧SqL K H l (iv ns)∧∀ v H' bs rs,Same H H'→Rep H' (Off []) v (qJ a bs rs)→zL bs rs→(∀ b∈bs,zA b.1 b.2)→(∀ r∈rs,r.ok)→Q v H'
theorem i_spWorkOf {K:PySem.W.Frag} {a:Ad} {vs:List V} {H:Hp} {Q:VK} {E:XK} (l:Addr) (ns:List Int) (q0:vs=[.ref l]) (q1:SqL K H l (iv ns)) (q2:∀ v H' bs rs,Same H H'→Rep H' (Off []) v (qJ a bs rs)→zL bs rs→(∀ b∈bs,zA b.1 b.2)→(∀ r∈rs,r.ok)→Q v H'):wR K a vs H Q E:=⟨l,ns,q0,q1,q2⟩
theorem ok_L_work (T:Txt K mg a) (F:Fun K "_law_work" "_law_work" s_L_work f fd):FnOk P w K mg base (CXr P w) 7 f fd ["_law_script"] (wR K a):=by
 refine F.okx sc_L_work ?_ ?_
 ·walk_at "i"
 walk_at "j"
 obtain ⟨l,ns,rfl,hl,k⟩:=h
 walk_at "T"
 refine ⟨_,(zg (ZB (i:=1) sc_L_work.nd rfl (Or.inr rfl) (zv ⟨rfl,rfl,rfl⟩ hr (za (pv 0) (za zc zb))))  (zg (zx 2 sc_L_work.nd (zv ⟨rfl,rfl,rfl⟩ hr (za (pv 1) (za zc zb))))  (zg (zx 3 sc_L_work.nd (zi z7 zc (zi zB (pv 2) zc)))  (zg (zx 4 sc_L_work.nd (zi z7 zc (zi zB (zi zK (pv 2) zc) zc)))  (zX (zy (zn (qr hr.units1) (zi zB (zi zK (pv 2) zc) zc) zc (zo _))  (zd (zx 4 sc_L_work.nd (zi z7 (pv 4) zc)))  zk)  (zg (zy (zn (qr hr.units1) (zi zB (zi zK (pv 2) zc) zc) zc (zo _))  (zg (zx 5 sc_L_work.nd (zF (za (qa ⟨rfl,rfl,rfl⟩ hr (za (zi z7 zc (zi zB (pv 2) zc)) (za (pv 3) zb))) (za (qa ⟨rfl,rfl,rfl⟩ hr (za zc (za zc zb))) (za (qa ⟨rfl,rfl,rfl⟩ hr (za zc (za (pv 3) zb))) zb)))))  (zd (zj (qa ⟨rfl,rfl,rfl⟩ hr (za (pv 5) (za (zF (za (qa ⟨rfl,rfl,rfl⟩ hr (za (zF (za zc (za zc zb))) (za zc zb))) (za (qa ⟨rfl,rfl,rfl⟩ hr (za zc (za (zF (za zc (za zc zb))) zb))) zb))) zb))))))  zk)  (zg (zy (zn (qr hr.units1) (zi zB (zi zK (pv 2) zc) zc) zc (zo _))  (zg (zx 6 sc_L_work.nd (zp (zF (za (qM (za zc (za zc zb))) (za (qM (za zc (za zc zb))) zb))) (zi zB (zi zK (pv 2) zc) zc)))  (zg (Qd (i:=7) sc_L_work.nd rfl (Or.inl rfl) (vars:=["_law_count"]) (caps:=[1]) (N:=["_law_count","_law_first"]) (ON:=["_law_script","_law_first","_law_number","_law_span","_law_many","_law_ring","_law_counts","_law_kinds","_law_lanes","_law_belts","_law_knots","_law_ends","_law_loops","_law_cell","_law_cut"]) (osc:=zf s_L_work) rfl rfl (by first | decide +kernel | kernel_rfl) rfl rfl (ql (pv 6)) (fun s H fp pins=>(pg_n 0 (show (["_law_count","_law_first"]:List Str).Nodup from by decide +kernel))) (fun s H fp pins=>qg) (fun s H fp pins=>(jU (vars:=["_law_k"]) (caps:=[1]) (N:=["_law_k","_law_first"]) (ON:=["_law_count","_law_first"]) (osc:=_) rfl rfl (by first | decide +kernel | kernel_rfl) rfl rfl (jT (za (pv 0) zb)) (fun s H fp pins=>(pg_n 0 (show (["_law_k","_law_first"]:List Str).Nodup from by decide +kernel))) (fun s H fp pins=>qg) (fun s H fp pins=>(zi zB (zi z7 (pv 1) (pv 0)) (zi ZE zc zc))))))  (zg (zx 8 sc_L_work.nd (zF (za (qa ⟨rfl,rfl,rfl⟩ hr (za zc (za zc (za (zp (pv 7) zc) zb)))) (za (qa ⟨rfl,rfl,rfl⟩ hr (za zc (za zc (za (zp (pv 7) zc) zb)))) (za (qa ⟨rfl,rfl,rfl⟩ hr (za zc (za zc zb))) (za (qa ⟨rfl,rfl,rfl⟩ hr (za zc (za zc zb))) zb))))))  (zd (zj (qa ⟨rfl,rfl,rfl⟩ hr (za (zF (za (qa ⟨rfl,rfl,rfl⟩ hr (za zc (za zc zb))) (za (qa ⟨rfl,rfl,rfl⟩ hr (za zc (za zc zb))) zb))) (za (pv 8) zb))))))))  zk)  (zg (zx 9 sc_L_work.nd (zF zb))  (zg (zx 10 sc_L_work.nd (zF zb))  (zg (zx 11 sc_L_work.nd (zF zb))  (zg (zx 12 sc_L_work.nd (zF zb))  (zX (qd qC rfl (ql (jt wp (pv 0) (jC zc) (jC (zi z7 zc (pv 4))))) (pg_n 13 sc_L_work.nd)  (zd (zt (zv ⟨rfl,rfl,rfl⟩ hr (za (pv 9) (za (pv 10) (za (pv 11) (za (pv 12) (za (pv 13) (za (pv 3) zb))))))))))  (zX (zy (zn (og_eqN hr.units1) (pv 10) (zF zb) (zo _))  (zd (zt (zv ⟨rfl,rfl,rfl⟩ hr (za (pv 9) (za (pv 10) (za (pv 11) (za (pv 12) (za (pv 1) (za (pv 3) zb)))))))))  zk)  (zg (zt (zv ⟨rfl,rfl,rfl⟩ hr (za (pv 9) (za (pv 10) (za (pv 11) (za (pv 12) (za (pv 1) (za (pv 3) zb))))))))  (zg (zx 14 sc_L_work.nd (zi zB (zi zK (pv 2) zc) (zV zP zO (za (pv 10) zb))))  (zg (zx 10 sc_L_work.nd (zi z7 (jt wp (pv 10) (jC (pv 14)) xQ) (jt wp (pv 10) xQ (jC (pv 14)))))  (zX (zy (zn (qr hr.units1) (zi zB (zi zK (pv 2) zc) zc) zc (zo _))  (zd (zx 10 sc_L_work.nd (pe_lrev rfl (za (pv 10) zb))))  zk)  (zd (zj (qa ⟨rfl,rfl,rfl⟩ hr (za (pv 9) (za (pv 10) zb)))))))))))))))))))))),?_⟩
 walk_at "go"
 refine uc (JZ T).mono (Qw l ns 0 rfl hl ?_)
 generalize x8 ns 0=c
 walk_at "go"
 refine uc (qz T).mono ⟨c,_,rfl,by decide,by decide,?_⟩
 have n0:=qH c 1873046521
 generalize jy c 1873046521=nu at n0 ⊢
 have s0:=Int.emod_nonneg nu (show (4:Int)≠0 by decide)
 have s1:=Int.emod_lt_of_pos nu (show (0:Int) < 4 by decide)
 have m0:=Int.emod_nonneg (nu / 4) (show (4:Int)≠0 by decide)
 have m1:=Int.emod_lt_of_pos (nu / 4) (show (0:Int) < 4 by decide)
 walk_at "go"
 walk_at "sds"
 walk_at "go"
 let M1_:St→Hp→Prop:=fun σ' H'=>∃ m:Nat,σ'=stK l c nu (some (.int m)) none none none none none none none none none none∧H'=H∧m≤6
 refine cut M1_ ?_ ?_
 ·walk_at "go"
  walk_at "sds"
  walk_at "go"
  refine ite2 (fun _=>?_) (fun _=>?_)
  ·walk_at "go"
   refine ⟨(1 + nu / 4 % 4 + 2).toNat,?_,rfl,by omega⟩
   rw [show (((1 + nu / 4 % 4 + 2).toNat:Nat):Int)=1 + nu / 4 % 4 + 2 by omega]
  ·refine ⟨(1 + nu / 4 % 4).toNat,?_,rfl,by omega⟩
   rw [show (((1 + nu / 4 % 4).toNat:Nat):Int)=1 + nu / 4 % 4 by omega]
 rintro σ' H' ⟨mn,rfl,rfl,m6⟩
 clear m0 m1
 walk_at "go"
 walk_at "sds"
 walk_at "go"
 refine ite2 (fun _=>?_) (fun _=>?_)
 ·have z0:=Int.emod_nonneg nu (show (3:Int)≠0 by decide)
  have z1:=Int.emod_lt_of_pos nu (show (0:Int) < 3 by decide)
  walk_at "go"
  refine iE4 a.Belt _ _ _ ⟨(xA T).mono,?_⟩
  intro b1 d1 hb1 hd1 _
  refine xb hb1 hd1 ⟨by omega,by omega,by omega,by omega⟩ fun H1 s1 q1=>⟨rfl,?_⟩
  refine ⟨a.Belt,_,_,_,(xA T).mono,?_⟩
  intro b2 d2 hb2 hd2 _
  refine xb hb2 hd2 ⟨by decide,by decide,by decide,by decide⟩ fun H2 s2 q2=>⟨rfl,?_⟩
  refine ⟨a.Belt,_,_,_,(xA T).mono,?_⟩
  intro b3 d3 hb3 hd3 _
  refine xb hb3 hd3 ⟨by decide,by decide,by omega,by omega⟩ fun H3 s3 q3=>⟨rfl,?_⟩
  intro L hL
  have s4:=ze (o:=.lst [V.ref b1,.ref b2,.ref b3]) hL
  have hL4:upd H3 L (.lst [V.ref b1,.ref b2,.ref b3]) L=some (.lst [V.ref b1,.ref b2,.ref b3]):=upd_same
  generalize upd H3 L (.lst [V.ref b1,.ref b2,.ref b3])=H4 at s4 hL4 ⊢
  walk_at "go"
  refine ⟨a.Work,_,_,_,(QQ T).mono,⟨a.Joiner,_,_,_,(vx T).mono,fun j hj=>?_⟩⟩
  have s5:=ze (o:=.lst [V.int 0,.int 1]) hj
  have hj5:upd H4 j (.lst [V.int 0,.int 1]) j=some (.lst (iv [0,1])):=upd_same
  generalize upd H4 j (.lst [V.int 0,.int 1])=H5 at s5 hj5 ⊢
  intro k1 e1 hk1 he1 _
  refine Zd hk1 he1 hj5 (by decide) (by decide) fun H6 s6 q6=>⟨rfl,?_⟩
  refine ⟨a.Parter,_,_,_,(vv T).mono,fun j2 hj2=>?_⟩
  have s7:=ze (o:=.lst [V.int 1,.int 0]) hj2
  have hj7:upd H6 j2 (.lst [V.int 1,.int 0]) j2=some (.lst (iv [1,0])):=upd_same
  generalize upd H6 j2 (.lst [V.int 1,.int 0])=H7 at s7 hj7 ⊢
  intro k2 e2 hk2 he2 _
  refine Zc hk2 he2 hj7 (by decide) (by decide) fun H8 s8 q8=>⟨rfl,?_⟩
  intro R hR
  have s9:=ze (o:=.lst [V.ref k1,.ref k2]) hR
  have hR9:upd H8 R (.lst [V.ref k1,.ref k2]) R=some (.lst [V.ref k1,.ref k2]):=upd_same
  generalize upd H8 R (.lst [V.ref k1,.ref k2])=H9 at s9 hR9 ⊢
  have t69:=(s7.trans s8).trans s9
  have t49:=(s5.trans s6).trans t69
  have t19:=((s2.trans s3).trans s4).trans t49
  have tr:∀ {H1 H2:Hp} {p:Addr→Prop} {v:V} {d:D},Rep H1 p v d→Same H1 H2→Rep H2 (fun _=>True) v d:=fun r s=>r.keep fun b o _ hb=>⟨trivial,s b o hb⟩
  intro z dz hz hdz _
  refine ZH (p:=fun _=>True) (q:=fun _=>True) (bs:=[(1 + nu % 3,1 + nu % 4),(2,1),(1,1 + nu % 4)]) (rs:=[⟨.joiner,[0,1],[2],0,[]⟩,⟨.parter,[2],[1,0],0,[]⟩]) hz hdz (t49 _ _ hL4) hR9 ?_ ?_ ?_ ?_ ?_ fun H10 s10 r10=>⟨rfl,k _ _ _ _ ((s1.trans t19).trans s10) r10 ?_ ?_ ?_⟩
  ·exact .cons (tr q1 t19) (.cons (tr q2 ((s3.trans s4).trans t49)) (.cons (tr q3 (s4.trans t49)) .nil))
  ·exact .cons (tr q6 t69) (.cons (tr q8 s9) .nil)
  ·exact (j6 (by omega) (by omega) (by omega) (by omega)).1
  ·exact (j6 (by omega) (by omega) (by omega) (by omega)).2.1
  ·exact (j6 (x:=1) (y:=1) (by decide) (by decide) (by decide) (by decide)).2.2
  ·exact (j6 (by omega) (by omega) (by omega) (by omega)).1
  ·exact (j6 (by omega) (by omega) (by omega) (by omega)).2.1
  ·exact (j6 (x:=1) (y:=1) (by decide) (by decide) (by decide) (by decide)).2.2
 walk_at "go"
 walk_at "sds"
 walk_at "go"
 refine ite2 (fun _=>?_) (fun _=>?_)
 ·walk_at "go"
  intro p hp p1 hp1 p2 hp2
  refine ⟨fd_ok (by decide) (by decide +kernel),?_⟩
  have sA:=((ze (o:=.tup [V.int 5,.int 4]) hp).trans (ze (o:=.tup [V.int 3,.int 5]) hp1)).trans (ze (o:=.lst [V.ref p,.ref p1]) hp2)
  have g1:=upd_keep (o:=.lst [V.ref p,.ref p1]) (upd_keep (o:=.tup [V.int 3,.int 5]) (upd_same (H:=H') (a:=p) (o:=.tup [V.int 5,.int 4])) hp1) hp2
  have g2:=upd_keep (o:=.lst [V.ref p,.ref p1]) (upd_same (H:=upd H' p (.tup [V.int 5,.int 4])) (a:=p1) (o:=.tup [V.int 3,.int 5])) hp2
  have g3:upd (upd (upd H' p (.tup [V.int 5,.int 4])) p1 (.tup [V.int 3,.int 5])) p2 (.lst [V.ref p,.ref p1]) p2=some (.lst [V.ref p,.ref p1]):=upd_same
  generalize upd (upd (upd H' p (.tup [V.int 5,.int 4])) p1 (.tup [V.int 3,.int 5])) p2 (.lst [V.ref p,.ref p1])=H1 at sA g1 g2 g3 ⊢
  obtain ⟨tc,u1,u2,etc,htc,a1,a6,b1,b6⟩:∃ (tc:Addr) (u1 u2:Int),atI [V.ref p,.ref p1] (nu / 51200 % 2)=some (.ref tc)∧H1 tc=some (.tup [.int u1,.int u2])∧1≤u1∧u1≤6∧1≤u2∧u2≤6:=by
   have h:nu / 51200 % 2=0∨nu / 51200 % 2=1:=by omega
   rcases h with h | h <;> rw [h]
   ·exact ⟨p,5,4,rfl,g1,by decide,by decide,by decide,by decide⟩
   ·exact ⟨p1,3,5,rfl,g2,by decide,by decide,by decide,by decide⟩
  refine zq (SqL.of g3) etc ?_
  clear g1 g2 g3 etc hp hp1 hp2
  walk_at "lc"
  walk_at "go"
  refine ⟨tc,rfl,.inr ⟨⟨_,SqT.of htc⟩,fun _ _ _ _ acc hacc=>?_⟩⟩
  let M2_:Nat→St→Hp→Prop:=fun i σ H'=>∃ (v:Option V) (as:List Addr),σ=[v,some (.int c)]∧Same H1 H'∧H' acc=some (.lst (as.map V.ref))∧as.length=i∧∀ (j:Nat) b,as[j]?=some b→b≠acc∧∃ kd:List Int,H' b=some (.lst (iv kd))∧1≤kd.length∧kd.length≤6∧jg kd
  refine for_T (K:=K) (a:=tc) (xs:=[.int u1,.int u2]) M2_ ⟨_,[],rfl,ze hacc,upd_same,rfl,fun j b h=>by simp at h⟩ (fun i σ H' _ ⟨_,_,_,s,_⟩=>SqT.of (s _ _ htc)) ?_ ?_
  ·rintro i x σ H2 hi ⟨v,as,rfl,s2,ha,la,hk⟩
   obtain ⟨u,rfl,ub,u6⟩:∃ u:Int,x=.int u∧1≤u∧u≤6:=by
    match i,hi with
    | 0,hi=>cases hi; exact ⟨u1,rfl,a1,a6⟩
    | 1,hi=>cases hi; exact ⟨u2,rfl,b1,b6⟩
   have la2:i < 2:=(List.getElem?_eq_some_iff.mp hi).1
   walk_at "lc"
   walk_at "go"
   refine ⟨by omega,by omega,fun _ _ _ _ ac2 hac2=>?_⟩
   let M3_:Nat→St→Hp→Prop:=fun j σ H'=>∃ v ks,σ=[v,some (.int c)]∧Same H2 H'∧ks.length=j∧jg ks∧H' ac2=some (.lst (iv ks))
   refine wK (n:=u.toNat) M3_ ⟨_,[],rfl,ze hac2,rfl,(fun _ z=>nomatch z),upd_same⟩ ?_ ?_
   ·rintro j σ H3 hj ⟨v,ks,rfl,s3,lk,hkk,ha3⟩
    walk_at "go"
    have x0:=Int.emod_nonneg (c + (0 + (j:Int))) (show (1000000000000000000000000000000:Int)≠0 by decide)
    have x1:=Int.emod_lt_of_pos (c + (0 + (j:Int))) (show (0:Int) < 1000000000000000000000000000000 by decide)
    generalize (c + (0 + (j:Int))) % 1000000000000000000000000000000=kk at x0 x1 ⊢
    refine ⟨_,ha3,zm (by rw [zD]; omega),_,ks ++ [kk],rfl,(fun b o hb=>by rw [upd_ne (ne_of_none hb hac2)]; exact s3 b o hb),by simp [lk],?_,by rw [upd_same,jb]⟩
    intro z hz
    rcases List.mem_append.mp hz with hz | hz
    ·exact hkk z hz
    ·rw [List.mem_singleton.mp hz]; exact ⟨x0,x1⟩
   rintro σ H3 ⟨v,ks,rfl,s3,lk,hkk,ha3⟩
   have nac:ac2≠acc:=(ne_of_none ha hac2).symm
   refine ⟨_,s3 _ _ ha,zm (by rw [List.length_map]; omega),_,as ++ [ac2],rfl,(fun b o hb=>by rw [upd_ne (ne_of_none hb hacc)]; exact s3 _ _ (s2 b o hb)),by rw [upd_same]; simp,by simp [la],fun j b h=>?_⟩
   by_cases hj:j < as.length
   ·rw [List.getElem?_append_left hj] at h
    obtain ⟨n1,kd,h1,h2⟩:=hk j b h
    exact ⟨n1,kd,by rw [upd_ne n1]; exact s3 _ _ h1,h2⟩
   ·rw [List.getElem?_append_right (by omega)] at h
    have:=(List.getElem?_eq_some_iff.mp h).1
    rw [show j - as.length=0 by simp at this; omega] at h
    cases h
    exact ⟨nac,ks,by rw [upd_ne nac]; exact ha3,by omega,by omega,hkk⟩
  rintro σ H2 ⟨v,as,rfl,s2,ha,la,hk⟩
  obtain ⟨q1,q2,rfl⟩:∃ q1 q2,as=[q1,q2]:=by
   match as,la with
   | [x,y],_=>exact ⟨x,y,rfl⟩
  obtain ⟨_,kd1,h1,k11,k16,kk1⟩:=hk 0 q1 rfl
  obtain ⟨_,kd2,h2,k21,k26,kk2⟩:=hk 1 q2 rfl
  have ha:H2 acc=some (.lst [V.ref q1,.ref q2]):=ha
  clear hk la htc hacc
  walk_at "go"
  refine ⟨a.Source,_,_,_,(xY T).mono,zq (SqL.of ha) at0 ?_⟩
  intro z1 d1 hz1 hd1 _
  refine wu hz1 hd1 h1 (by decide) (by decide) k11 k16 kk1 fun H3 s3 w1=>⟨rfl,?_⟩
  refine ⟨a.Source,_,_,_,(xY T).mono,zq (SqL.of (s3 _ _ ha)) (show atI _ 1=some (.ref q2) from rfl) ?_⟩
  intro z2 d2 hz2 hd2 _
  refine wu hz2 hd2 (s3 _ _ h2) (by decide) (by decide) k21 k26 kk2 fun H4 s4 w2=>⟨rfl,?_⟩
  refine ⟨a.Drain,_,_,_,(xZ T).mono,?_⟩
  intro z3 d3 hz3 hd3 _
  refine xW hz3 hd3 (by decide) (by decide) fun H5 s5 w3=>⟨rfl,?_⟩
  refine ⟨a.Drain,_,_,_,(xZ T).mono,?_⟩
  intro z4 d4 hz4 hd4 _
  refine xW hz4 hd4 (by decide) (by decide) fun H6 s6 w4=>⟨rfl,?_⟩
  intro R hR
  have s7:=ze (o:=.lst [V.ref z1,.ref z2,.ref z3,.ref z4]) hR
  have hR7:upd H6 R (.lst [V.ref z1,.ref z2,.ref z3,.ref z4]) R=some (.lst [V.ref z1,.ref z2,.ref z3,.ref z4]):=upd_same
  generalize upd H6 R (.lst [V.ref z1,.ref z2,.ref z3,.ref z4])=H7 at s7 hR7 ⊢
  walk_at "go"
  refine ⟨a.Work,_,_,_,(QQ T).mono,⟨a.Belt,_,_,_,(xA T).mono,?_⟩⟩
  intro b1 f1 hb1 hf1 _
  refine xb hb1 hf1 ⟨by decide,by decide,by decide,by decide⟩ fun H8 s8 r1=>⟨rfl,?_⟩
  refine ⟨a.Belt,_,_,_,(xA T).mono,?_⟩
  intro b2 f2 hb2 hf2 _
  refine xb hb2 hf2 ⟨by decide,by decide,by decide,by decide⟩ fun H9 s9 r2=>⟨rfl,?_⟩
  intro L hL
  have s10:=ze (o:=.lst [V.ref b1,.ref b2]) hL
  have hL10:upd H9 L (.lst [V.ref b1,.ref b2]) L=some (.lst [V.ref b1,.ref b2]):=upd_same
  generalize upd H9 L (.lst [V.ref b1,.ref b2])=H10 at s10 hL10 ⊢
  have tr:∀ {H1 H2:Hp} {p:Addr→Prop} {v:V} {d:D},Rep H1 p v d→Same H1 H2→Rep H2 (fun _=>True) v d:=fun r s=>r.keep fun b o _ hb=>⟨trivial,s b o hb⟩
  have t7:=(s8.trans s9).trans s10
  have t6:=s7.trans t7
  have t5:=s6.trans t6
  have t4:=s5.trans t5
  have t3:=s4.trans t4
  obtain ⟨o1,o2,o3⟩:=lane_ok k11 k16 kk1 k21 k26 kk2
  intro z dz hz hdz _
  refine ZH (p:=fun _=>True) (q:=fun _=>True) (bs:=[(1,1),(1,1)]) (rs:=[⟨.source,[],[0],3,kd1⟩,⟨.source,[],[1],4,kd2⟩,⟨.drain,[0],[],1,[]⟩,⟨.drain,[1],[],1,[]⟩]) hz hdz hL10 (t7 _ _ hR7) (.cons (tr r1 (s9.trans s10)) (.cons (tr r2 s10) .nil)) (.cons (tr w1 t3) (.cons (tr w2 t4) (.cons (tr w3 t5) (.cons (tr w4 t6) .nil)))) o1 o2 o3 fun H11 s11 r11=>⟨rfl,k _ _ _ _ (((sA.trans s2).trans (s3.trans t3)).trans s11) r11 o1 o2 o3⟩
 walk_at "go"
 intro L hL
 walk_at "go"
 intro R hR
 walk_at "go"
 intro E hE
 walk_at "go"
 intro B hB
 have sH:=(((ze (o:=.lst []) hL).trans (ze (o:=.lst []) hR)).trans (ze (o:=.lst []) hE)).trans (ze (o:=.lst []) hB)
 have nw:∀ m∈ms4 L R E B,H' m=none:=fun m hm=>by
  simp only [List.mem_cons,List.not_mem_nil,or_false] at hm
  rcases hm with rfl | rfl | rfl | rfl
  ·exact hL
  ·exact zG hR
  ·exact zG (zG hE)
  ·exact zG (zG (zG hB))
 have e1:=upd_keep (o:=.lst []) (upd_keep (o:=.lst []) (upd_keep (o:=.lst []) (upd_same (H:=H') (a:=L) (o:=.lst [])) hR) hE) hB
 have e2:=upd_keep (o:=.lst []) (upd_keep (o:=.lst []) (upd_same (H:=upd H' L (.lst [])) (a:=R) (o:=.lst [])) hE) hB
 have e3:=upd_keep (o:=.lst []) (upd_same (H:=upd (upd H' L (.lst [])) R (.lst [])) (a:=E) (o:=.lst [])) hB
 have e4:upd (upd (upd (upd H' L (.lst [])) R (.lst [])) E (.lst [])) B (.lst []) B=some (.lst []):=upd_same
 have W0:GS a (ms4 L R E B) (upd (upd (upd (upd H' L (.lst [])) R (.lst [])) E (.lst [])) B (.lst [])) (upd (upd (upd (upd H' L (.lst [])) R (.lst [])) E (.lst [])) B (.lst [])) L R E B [] [] [] [] :=
  ⟨Fr.refl,ne_of_none upd_same hR,ne_of_none (upd_keep upd_same hR) hE,ne_of_none (upd_keep (upd_keep upd_same hR) hE) hB,ne_of_none upd_same hE,ne_of_none (upd_keep upd_same hE) hB,ne_of_none upd_same hB,fun _ h=>h,fun m hm=>by
   simp only [List.mem_cons,List.not_mem_nil,or_false] at hm
   rcases hm with rfl | rfl | rfl | rfl
   ·exact ⟨_,e1⟩
   ·exact ⟨_,e2⟩
   ·exact ⟨_,e3⟩
   ·exact ⟨_,e4⟩,⟨[],e1,.nil⟩,⟨[],e2,.nil⟩,e3,e4⟩
 generalize upd (upd (upd (upd H' L (.lst [])) R (.lst [])) E (.lst [])) B (.lst [])=H1 at sH W0 ⊢
 clear e1 e2 e3 e4 hL hR hE hB
 walk_at "go"
 let M4_:St→Hp→Prop:=fun σ' H2=>∃ (v13:Option V) (bs:List (Int × Int)) (rs:List Row) (es ks:List Int),σ'=stK l c nu (some (.int mn)) none none none none (some (.ref L)) (some (.ref R)) (some (.ref E)) (some (.ref B)) v13 none∧GS a (ms4 L R E B) H1 H2 L R E B bs rs es ks∧WInv bs rs es ks∧(rs.length=0→bs.length + ks.length=0∧es=[])∧bs.length + ks.length≤21∧rs.length + es.length + ks.length≤22
 refine cut M4_ ?_ ?_
 ·walk_at "for"
  walk_at "go"
  refine wq (ZY sH hl) fun p hp=>?_
  obtain ⟨cs,ecs,lcs⟩:=cut_iv ns mn
  rw [ecs]
  have W1:=W0.same (ze (o:=.lst (iv cs)) hp)
  have np:=W0.off hp
  have gp:upd H1 p (.lst (iv cs)) p=some (.lst (iv cs)):=upd_same
  generalize upd H1 p (.lst (iv cs))=H2 at W1 gp ⊢
  refine ⟨p,rfl,.inl ⟨⟨_,SqL.of gp⟩,?_⟩⟩
  let M5_:Nat→St→Hp→Prop:=fun i σ' H2=>∃ (v13:Option V) (bs:List (Int × Int)) (rs:List Row) (es ks:List Int),σ'=stK l c nu (some (.int mn)) none none none none (some (.ref L)) (some (.ref R)) (some (.ref E)) (some (.ref B)) v13 none∧GS a (ms4 L R E B) H1 H2 L R E B bs rs es ks∧H2 p=some (.lst (iv cs))∧WInv bs rs es ks∧(i=0→bs.length + ks.length=0∧rs.length=0∧es=[])∧(1≤i→bs.length + ks.length + 3≤4 * i∧rs.length + es.length + ks.length + 2≤4 * i∧1≤rs.length)
  refine qP (K:=K) (a:=p) (xs:=iv cs) M5_
   ⟨_,[],[],[],[],rfl,W1,gp,⟨List.Perm.refl _,List.Perm.refl _,(fun _ z=>nomatch z),(fun _ z=>nomatch z)⟩,fun _=>⟨rfl,rfl,rfl⟩,fun z=>absurd z (by decide)⟩ (fun i σ H' _ h=>by obtain ⟨_,_,_,_,_,_,_,g,_⟩:=h; exact SqL.of g) ?_ ?_
  ·clear W1 gp
   rintro i x σ' H3 hi ⟨v13,bs,rs,es,ks,rfl,W,gp,I0,i0,i1⟩
   obtain ⟨y,hy,rfl⟩:=Qv hi
   have hil:=(List.getElem?_eq_some_iff.mp hy).1
   have z:i=0∨1≤i:=by omega
   have bb:bs.length≤21∧rs.length≤22∧es.length≤22∧ks.length≤22:=by
    rcases z with z | z
    ·obtain ⟨q1,q2,rfl⟩:=i0 z
     exact ⟨by omega,by omega,by simp,by omega⟩
    ·have:=i1 z
     omega
   walk_at "go"
   refine uc (QG T).mono ⟨_,L,R,E,B,bs,rs,es,ks,y,_,rfl,W.here,I0,by omega,by omega,by omega,by omega,by omega,by omega,fun H4 bs2 rs2 es2 ks2 W2 I2 l1 l2 l3 r1=>?_⟩
   walk_at "go"
   refine ⟨_,bs2,rs2,es2,ks2,rfl,W.trans W2,W2.f _ _ np gp,I2,(fun z=>nomatch z),fun _=>?_⟩
   rcases z with z | z
   ·obtain ⟨q1,q2,q3⟩:=i0 z
    obtain ⟨n1,n2⟩:=l3 q3
    subst q3
    simp only [List.length_nil] at n2
    omega
   ·have:=i1 z
    omega
  ·rintro σ' H3 ⟨v13,bs,rs,es,ks,rfl,W,gp,I0,i0,i1⟩
   rw [zD] at i0 i1
   have z:cs.length=0∨1≤cs.length:=by omega
   refine ⟨v13,bs,rs,es,ks,rfl,W,I0,fun r0=>?_,?_,?_⟩
   ·rcases z with z | z
    ·exact ⟨(i0 z).1,(i0 z).2.2⟩
    ·have:=i1 z; omega
   ·rcases z with z | z
    ·have:=i0 z; omega
    ·have:=i1 z; omega
   ·rcases z with z | z
    ·obtain ⟨q1,q2,rfl⟩:=i0 z
     simp only [List.length_nil]
     omega
    ·have:=i1 z; omega
 clear W0
 rintro σ' H2 ⟨v13,bs,rs,es,ks,rfl,W,I0,r0,l1,l2⟩
 walk_at "go"
 let M6_:St→Hp→Prop:=fun σ' H2=>∃ (bs:List (Int × Int)) (rs:List Row) (es ks:List Int),σ'=stK l c nu (some (.int mn)) none none none none (some (.ref L)) (some (.ref R)) (some (.ref E)) (some (.ref B)) v13 none∧GS a (ms4 L R E B) H1 H2 L R E B bs rs es ks∧WInv bs rs es ks∧1≤rs.length∧bs.length + ks.length≤24∧rs.length + es.length + ks.length≤24
 refine cut M6_ ?_ ?_
 ·walk_at "go"
  intro q hq
  have W1:=W.same (ze (o:=.lst []) hq)
  obtain ⟨rv,hR,rR⟩:=W1.hR
  have lR:rv.length=rs.length:=by rw [rR.len,List.length_map]
  refine ⟨R,q,rv,rfl,rfl,SqL.of hR,SqL.of upd_same,?_⟩
  rw [lR]
  generalize upd H2 q (.lst [])=H3 at W1 hR rR ⊢
  walk_at "go"
  refine ite2 (fun z=>?_) (fun z=>⟨bs,rs,es,ks,rfl,W1,I0,by omega,by omega,by omega⟩)
  obtain ⟨q1,rfl⟩:=r0 z
  simp only [List.length_nil] at l2
  walk_at "go"
  refine uc (QG T).mono ⟨_,L,R,E,B,bs,rs,[],ks,c,_,rfl,W1.here,I0,by omega,by omega,by omega,by omega,by simp,by omega,fun H4 bs2 rs2 es2 ks2 W2 I2 _ _ l3 r1=>?_⟩
  obtain ⟨n1,n2⟩:=l3 rfl
  simp only [List.length_nil] at n2
  exact ⟨bs2,rs2,es2,ks2,rfl,W1.trans W2,I2,r1,by omega,by omega⟩
 clear W I0 r0 l1 l2
 rintro σ' H2 ⟨bs,rs,es,ks,rfl,W,I0,r1,l1,l2⟩
 walk_at "go"
 refine uc (c_L_close T).mono ⟨_,L,R,E,B,bs,rs,es,ks,c,_,rfl,W.here,I0,by omega,by omega,l1,l2,fun H3 bs' rs' es' W2 I2 lb lr rr=>?_⟩
 have W3:=W.trans W2
 have sK:Same H' H3:=(sH.fr.trans W3.f).same nw
 obtain ⟨bv,hL,rL⟩:=W3.hL
 obtain ⟨rv,hR,rR⟩:=W3.hR
 have lR:rv.length=rs'.length:=by rw [rR.len,List.length_map]
 clear W W2 I0
 walk_at "go"
 refine ⟨fd_ok (by decide) (by decide +kernel),m_len,_,.inl ⟨_,SqL.of hR,rfl⟩,?_⟩
 rw [lR]
 refine ⟨by omega,?_⟩
 have w0:=Int.emod_nonneg (nu / 64) (show (rs'.length:Int)≠0 by omega)
 have w1:=Int.emod_lt_of_pos (nu / 64) (show (0:Int) < (rs'.length:Int) by omega)
 obtain ⟨ct,ect⟩:∃ m:Nat,nu / 64 % (rs'.length:Int)=m:=⟨(nu / 64 % (rs'.length:Int)).toNat,by omega⟩
 rw [ect] at w1 ⊢
 clear w0 ect
 walk_at "go"
 refine wq (SqL.of hR) fun q1 hq1=>?_
 rw [QB rv ct (by omega)]
 have a1:=ze (o:=.lst (rv.drop ct)) hq1
 refine wq (SqL.of (a1 _ _ hR)) fun q2 hq2=>?_
 rw [vI rv ct]
 have a2:=ze (o:=.lst (rv.take ct)) hq2
 refine Q2 (SqL.of (a2 _ _ upd_same)) (SqL.of upd_same) (xL (by rw [List.length_drop,List.length_take]; omega)) fun q3 hq3=>?_
 have a3:=ze (o:=.lst (rv.drop ct ++ rv.take ct)) hq3
 have sA:=(a1.trans a2).trans a3
 have g3:upd (upd (upd H3 q1 (.lst (rv.drop ct))) q2 (.lst (rv.take ct))) q3 (.lst (rv.drop ct ++ rv.take ct)) q3=some (.lst (rv.drop ct ++ rv.take ct)):=upd_same
 generalize upd (upd (upd H3 q1 (.lst (rv.drop ct))) q2 (.lst (rv.take ct))) q3 _=H4 at sA g3 ⊢
 clear a1 a2 a3 hq1 hq2 hq3
 have tr:∀ {H1 H2:Hp} {p:Addr→Prop} {vs:List V} {ds:List D},Reps H1 p vs ds→Same H1 H2→Reps H2 (fun _=>True) vs ds:=fun r s=>r.keep fun b o _ hb=>⟨trivial,s b o hb⟩
 have b2:=tr ((rR.drop ct).append (rR.take ct)) sA
 rw [← List.map_drop,← List.map_take,← List.map_append] at b2
 have pm:=xN rs' ct
 generalize rs'.drop ct ++ rs'.take ct=rs3 at b2 pm
 generalize rv.drop ct ++ rv.take ct=rv3 at b2 g3
 have rL4:=tr rL sA
 have hL4:=sA _ _ hL
 have sK4:=sK.trans sA
 clear sA hL rL hR rR lR
 walk_at "go"
 let M7_:St→Hp→Prop:=fun σ' H5=>∃ (R':Addr) (rv':List V) (rs2:List Row),σ'=stK l c nu (some (.int mn)) none none none none (some (.ref L)) (some (.ref R')) (some (.ref E)) (some (.ref B)) v13 (some (.int ct))∧Same H4 H5∧H5 R'=some (.lst rv')∧Reps H5 (fun _=>True) rv' (rs2.map (jJ a))∧rs2.Perm rs'
 refine cut M7_ ?_ ?_
 ·walk_at "go"
  walk_at "sds"
  walk_at "go"
  refine ite2 (fun z=>?_) (fun z=>⟨q3,rv3,rs3,rfl,Same.refl _,g3,b2,pm⟩)
  walk_at "go"
  refine ⟨q3,_,rfl,SqL.of g3,fun q hq=>?_⟩
  have b3:=tr b2.reverse (ze (o:=.lst rv3.reverse) hq)
  rw [← List.map_reverse] at b3
  walk_at "go"
  exact ⟨q,_,_,rfl,ze hq,upd_same,b3,(List.reverse_perm _).trans pm⟩
 rintro σ' H5 ⟨R',rv',rs2,rfl,s5,hR5,rR5,pm2⟩
 obtain ⟨wok,ro⟩:=I2.work pm2 (by omega) (by omega) (by omega)
 walk_at "go"
 refine iE4 a.Work _ _ _ ⟨(QQ T).mono,?_⟩
 intro z dz hz hdz _
 exact ZH hz hdz (s5 _ _ hL4) hR5 (tr rL4 s5) rR5 wok I2.bo ro fun H11 s11 r11=>⟨rfl,k _ _ _ _ ((sK4.trans s5).trans s11) r11 wok I2.bo ro⟩
theorem c_L_work (T:Txt K mg a):Cal P w K mg base "_law_work" 7 ["_law_script"] [] (wR K a):=T.h_L_work.cal (ok_L_work T)
def Told (H:Hp) (v:V) (r:Option (List V)):Prop:=match r with
 | none=>v=.non
 | some xs=>∃ p,v=.ref p∧H p=some (.tup xs)
theorem Told.same {H H':Hp} {v:V} {r:Option (List V)} (h:Told H v r) (s:Same H H'):Told H' v r:=by
 cases r with
 | none=>exact h
 | some xs=>exact let ⟨p,e,hp⟩:=h; ⟨p,e,s _ _ hp⟩
def Zx (side:V) (p:Int) (t:Int) (b:Bool):Option (List V):=if b=true∧t % p=0 then some [.non,.int 0,side] else none
def jL (K:PySem.W.Frag) (C:Addr):Sp:=fun vs H Q _=>∃ (y dx l1 l2 l3 fl:Addr) (p t:Int) (hs side:V) (b:Bool) (bs:List V),vs=[.ref y,hs,.ref fl,.int t,side]∧H y=some (.ins C dx (sf l1 l2 p l3))∧1≤p ∧
 SqL K H fl (.bl b :: bs)∧∀ v H',Same H H'→Told H' v (Zx side p t b)→Q v H'
theorem ok_Source_choice (T:Txt K mg a) (F:Fun K "choice" "Source.choice" s_Source_choice f fd):FnOk P w K mg base (CXr P w) 1 f fd ["self","heads","free","turn","side"] (jL K a.Source):=by
 refine F.okx sc_Source_choice ?_ ?_
 ·walk_at "i"
 walk_at "k"
 refine oE8 h fun y dx l1 l2 l3 fl p t z1_=>oE4 z1_ fun hs side b bs z2_=>oA5 z2_ fun z3_ hy p1 hf k=>?_
 clear h
 subst z3_
 unfold Zx at k
 walk_at "T"
 refine ⟨_,(zh (zy (PW.pt (pw_or (qk (qi (zp (pv 2) zc) (fun _=>rfl))) (pw_or1 (zn (jW hr.units1) (zi zB (pv 3) (zl (pv 0) rfl)) zc (zo _)))))  (zd (zj zz))  zk)  (zd (zj (qM (za zz (za zc (za (pv 4) zb))))))),?_⟩
 walk_at "go"
 refine zq hf at0 ?_
 walk_at "go"
 cases b with
 | false =>
  rw [if_neg (by simp)] at k
  walk_at "go"
  exact k _ _ (Same.refl _) rfl
 | true =>
  walk_at "go"
  refine ra hy T.C_Source T.N_Source_pace sf_pace ?_
  walk_at "go"
  refine ite2 (fun h=>?_) (fun h=>?_)
  ·rw [if_neg (fun z=>h z.2)] at k
   walk_at "go"
   exact k _ _ (Same.refl _) rfl
  ·rw [if_pos ⟨rfl,Decidable.of_not_not h⟩] at k
   walk_at "go"
   intro q hq
   exact k _ _ (ze hq) ⟨q,rfl,upd_same⟩
theorem m_Source_choice (T:Txt K mg a):MCal P w K mg base a.Source "choice" 1 ["self","heads","free","turn","side"] [] (jL K a.Source):=T.h_Source_choice.cal T.C_Source (ok_Source_choice T)
def QT (side:V) (p:Int) (t:Int) (hd:V):Option (List V):=if p=0∨hd=.non∨t % p≠0 then none else some [.int 0,.non,side]
def xl (K:PySem.W.Frag) (C:Addr):Sp:=fun vs H Q _=>∃ (y dx l1 l2 hl:Addr) (p t:Int) (fr side:V) (hd:V) (hs:List V),vs=[.ref y,.ref hl,fr,.int t,side]∧H y=some (.ins C dx (df l1 l2 p))∧0≤p∧p≤4 ∧
 SqL K H hl (hd :: hs)∧∀ v H',Same H H'→Told H' v (QT side p t hd)→Q v H'
theorem ok_Drain_choice (T:Txt K mg a) (F:Fun K "choice" "Drain.choice" s_Drain_choice f fd):FnOk P w K mg base (CXr P w) 1 f fd ["self","heads","free","turn","side"] (xl K a.Drain):=by
 refine F.okx sc_Drain_choice ?_ ?_
 ·walk_at "i"
 walk_at "k"
 refine oE8 h fun y dx l1 l2 hl p t fr z1_=>oE3 z1_ fun side hd hs z2_=>oA6 z2_ fun z3_ hy p0 p4 hh k=>?_
 clear h
 subst z3_
 unfold QT at k
 walk_at "T"
 refine ⟨_,(zh (zy (zn (qr hr.units1) (zl (pv 0) rfl) zc (zo _))  (zd (zj zz))  zk)  (zh (zy (PW.pt (pw_or (zn qw (zp (pv 1) zc) zz (zo _)) (pw_or1 (zn (jW hr.units1) (zi zB (pv 3) (zl (pv 0) rfl)) zc (zo _)))))  (zd (zj zz))  zk)  (zd (zj (qM (za zc (za zz (za (pv 4) zb)))))))),?_⟩
 walk_at "go"
 refine ra hy T.C_Drain T.N_Drain_pace ZK ?_
 walk_at "go"
 refine ite2 (fun h1=>?_) (fun h1=>?_)
 ·rw [if_pos (.inl h1)] at k
  walk_at "go"
  exact k _ _ (Same.refl _) rfl
 ·walk_at "go"
  refine zq hh at0 ?_
  walk_at "go"
  refine ite2 (fun h2=>?_) (fun h2=>?_)
  ·rw [if_pos (.inr (.inl h2))] at k
   walk_at "go"
   exact k _ _ (Same.refl _) rfl
  ·walk_at "go"
   refine ra hy T.C_Drain T.N_Drain_pace ZK ?_
   walk_at "go"
   refine And.intro (by omega) ?_
   refine ite2 (fun h3=>?_) (fun h3=>?_)
   ·rw [if_pos (.inr (.inr h3))] at k
    walk_at "go"
    exact k _ _ (Same.refl _) rfl
   ·rw [if_neg (fun z=>z.elim h1 fun z=>z.elim h2 h3)] at k
    walk_at "go"
    intro q hq
    exact k _ _ (ze hq) ⟨q,rfl,upd_same⟩
theorem m_Drain_choice (T:Txt K mg a):MCal P w K mg base a.Drain "choice" 1 ["self","heads","free","turn","side"] [] (xl K a.Drain):=T.h_Drain_choice.cal T.C_Drain (ok_Drain_choice T)
def J9 (n:Nat) (p:Option Nat):Option (List V):=p.map fun (p:Nat)=>[.int 0,.int p,.int ((p + 1) % n:Nat)]
def jN (K:PySem.W.Frag) (C:Addr):Sp:=fun vs H Q _=>∃ (y dx l1 l2 hl fl:Addr) (turn:V) (side:Nat) (hd:V) (hs outs:List V) (bs:List Bool),vs=[.ref y,.ref hl,.ref fl,turn,.int side]∧H y=some (.ins C dx (kf l1 l2))∧H l2=some (.lst outs) ∧
 SqL K H hl (hd :: hs)∧SqL K H fl (bs.map V.bl)∧bs.length=outs.length∧bs.length≤1000 ∧
 ∀ v H',Same H H'→Told H' v (if hd=.non then none else J9 bs.length (qQ bs side))→Q v H'
theorem ok_Parter_choice (T:Txt K mg a) (F:Fun K "choice" "Parter.choice" s_Parter_choice f fd):FnOk P w K mg base (CXr P w) 3 f fd ["self","heads","free","turn","side"] (jN K a.Parter):=by
 refine F.okx sc_Parter_choice ?_ ?_
 ·walk_at "i"
 walk_at "k"
 refine oE8 h fun y dx l1 l2 hl fl turn side z1_=>oE4 z1_ fun hd hs outs bs z2_=>oA8 z2_ fun z3_ hy h2 hh hf hbl hb k=>?_
 clear h
 subst z3_
 walk_at "T"
 refine ⟨_,(zh (zx 5 sc_Parter_choice.nd (zv ⟨rfl,rfl,rfl⟩ hr (za (zp (pv 1) zc) (za (pv 2) (za (pv 4) zb)))))  (zh (zy (zn qw (pv 5) zz (zo _))  (zd (zj zz))  zk)  (zd (zj (qM (za zc (za (pv 5) (za (zi zB (zi z7 (pv 5) zc) (zV zP zO (za (zl (pv 0) rfl) zb))) zb)))))))),?_⟩
 walk_at "go"
 refine iE3 _ _ _ ⟨jw T,zq hh at0 (iE4 hd fl bs side (iA4 rfl hf hb ?_))⟩
 by_cases hn:hd=.non
 ·rw [if_pos hn] at k ⊢
  walk_at "go"
  exact k _ _ (Same.refl _) rfl
 ·rw [if_neg hn] at k ⊢
  cases hp:qQ bs side with
  | none =>
   rw [hp] at k
   simp only [optV]
   walk_at "go"
   exact k _ _ (Same.refl _) rfl
  | some p =>
   rw [hp] at k
   simp only [optV]
   have hlt:=jv hp
   walk_at "go"
   refine ra hy T.C_Parter T.N_Parter_outs kf_outs ⟨_,.inl ⟨_,SqL.of h2,rfl⟩,?_⟩
   walk_at "go"
   rw [← hbl]
   refine And.intro (by omega) ?_
   walk_at "go"
   intro q hq
   have e:((p:Int) + 1) % (bs.length:Int)=(((p + 1) % bs.length:Nat):Int):=by push_cast; rfl
   rw [e]
   exact k _ _ (ze hq) ⟨q,rfl,upd_same⟩
theorem m_Parter_choice (T:Txt K mg a):MCal P w K mg base a.Parter "choice" 3 ["self","heads","free","turn","side"] [] (jN K a.Parter):=T.h_Parter_choice.cal T.C_Parter (ok_Parter_choice T)
def JT (side:V) (p:Option Nat):Option (List V):=p.map fun (p:Nat)=>[.int 0,.int p,side]
def xk (K:PySem.W.Frag):Sp:=fun vs H Q _=>∃ (y hl fl:Addr) (turn side:V) (hd:V) (hs:List V) (bs:List Bool),vs=[.ref y,.ref hl,.ref fl,turn,side] ∧
 SqL K H hl (hd :: hs)∧SqL K H fl (bs.map V.bl)∧bs.length≤1000∧∀ v H',Same H H'→Told H' v (if hd=.non then none else JT side (qQ bs 0))→Q v H'
theorem ok_FirstParter_choice (T:Txt K mg a) (F:Fun K "choice" "FirstParter.choice" s_FirstParter_choice f fd):FnOk P w K mg base (CXr P w) 3 f fd ["self","heads","free","turn","side"] (xk K):=by
 refine F.okx sc_FirstParter_choice ?_ ?_
 ·walk_at "i"
 walk_at "k"
 refine oE8 h fun y hl fl turn side hd hs bs z1_=>oA5 z1_ fun z2_ hh hf hb k=>?_
 clear h
 subst z2_
 walk_at "T"
 refine ⟨_,(zh (zx 5 sc_FirstParter_choice.nd (zv ⟨rfl,rfl,rfl⟩ hr (za (zp (pv 1) zc) (za (pv 2) (za zc zb)))))  (zh (zy (zn qw (pv 5) zz (zo _))  (zd (zj zz))  zk)  (zd (zj (qM (za zc (za (pv 5) (za (pv 4) zb)))))))),?_⟩
 walk_at "go"
 refine iE3 _ _ _ ⟨jw T,zq hh at0 (iE4 hd fl bs 0 (iA4 rfl hf hb ?_))⟩
 by_cases hn:hd=.non
 ·rw [if_pos hn] at k ⊢
  walk_at "go"
  exact k _ _ (Same.refl _) rfl
 ·rw [if_neg hn] at k ⊢
  cases hp:qQ bs 0 with
  | none =>
   rw [hp] at k
   simp only [optV]
   walk_at "go"
   exact k _ _ (Same.refl _) rfl
  | some p =>
   rw [hp] at k
   simp only [optV]
   walk_at "go"
   intro q hq
   exact k _ _ (ze hq) ⟨q,rfl,upd_same⟩
theorem m_FirstParter_choice (T:Txt K mg a):MCal P w K mg base a.FirstParter "choice" 3 ["self","heads","free","turn","side"] [] (xk K):=T.h_FirstParter_choice.cal T.C_FirstParter (ok_FirstParter_choice T)
def QX (C:Addr):Sp:=fun vs H Q _=>∃ (y dx l1 l2:Addr) (n j:Int),vs=[.ref y,.int j]∧H y=some (.ins C dx (vf l1 l2 n))∧Q (.int (if j=n then 0 else 1)) H
theorem ok_Sieve_place_for (T:Txt K mg a) (F:Fun K "place_for" "Sieve.place_for" s_Sieve_place_for f fd):FnOk P w K mg base (CXr P w) 1 f fd ["self","kind"] (QX a.Sieve):=by
 refine F.okx sc_Sieve_place_for ?_ ?_
 ·walk_at "i"
 walk_at "k"
 refine oE6 h fun y dx l1 l2 n j z1_=>oA3 z1_ fun z2_ hy k=>?_
 clear h
 subst z2_
 walk_at "T"
 refine ⟨_,(zd (zj (jV (zn (qr hr.units1) (pv 1) (zl (pv 0) rfl) (zo _)) zc zc))),?_⟩
 walk_at "go"
 refine ra hy T.C_Sieve T.N_Sieve_kind vf_kind ?_
 walk_at "go"
 refine ite2 (fun h=>?_) (fun h=>?_)
 ·rw [if_pos h] at k; walk_at "go"; exact k
 ·rw [if_neg h] at k; walk_at "go"; exact k
theorem m_Sieve_place (T:Txt K mg a):MCal P w K mg base a.Sieve "place_for" 1 ["self","kind"] [] (QX a.Sieve):=T.h_Sieve_place_for.cal T.C_Sieve (ok_Sieve_place_for T)
def QK (side:V) (n:Int) (bs:List Bool) (hd:V):Option (List V):=if hd=.non then none else if bs.getD (if hd=.int n then 0 else 1) false=true then some [.int 0,.int (if hd=.int n then 0 else 1),side] else none
def xj (K:PySem.W.Frag) (C:Addr):Sp:=fun vs H Q _=>∃ (y dx l1 l2 hl fl:Addr) (n:Int) (turn side:V) (hd:V) (hs:List V) (bs:List Bool),vs=[.ref y,.ref hl,.ref fl,turn,side]∧H y=some (.ins C dx (vf l1 l2 n)) ∧
 SqL K H hl (hd :: hs)∧(hd=.non∨∃ j,hd=.int j)∧SqL K H fl (bs.map V.bl)∧bs.length=2∧∀ v H',Same H H'→Told H' v (QK side n bs hd)→Q v H'
theorem ok_Sieve_choice (T:Txt K mg a) (F:Fun K "choice" "Sieve.choice" s_Sieve_choice f fd):FnOk P w K mg base (CXr P w) 2 f fd ["self","heads","free","turn","side"] (xj K a.Sieve):=by
 refine F.okx sc_Sieve_choice ?_ ?_
 ·walk_at "i"
 walk_at "k"
 refine oE8 h fun y dx l1 l2 hl fl n turn z1_=>oE4 z1_ fun side hd hs bs z2_=>oA7 z2_ fun z3_ hy hh hhd hf hb k=>?_
 clear h
 subst z3_
 walk_at "T"
 refine ⟨_,(zh (zy (zn qw (zp (pv 1) zc) zz (zo _))  (zd (zj zz))  zk)  (zh (zx 5 sc_Sieve_choice.nd (JJ ⟨rfl,rfl,rfl⟩ hr (pv 0) (za (zp (pv 1) zc) zb)))  (zh (zy (qk (qi (zp (pv 2) (pv 5)) (fun _=>rfl)))  (zd (zj zz))  zk)  (zd (zj (qM (za zc (za (pv 5) (za (pv 4) zb))))))))),?_⟩
 walk_at "go"
 refine zq hh at0 ?_
 rcases hhd with rfl | ⟨j,rfl⟩
 ·walk_at "go"
  exact k _ _ (Same.refl _) rfl
 ·walk_at "go"
  refine iE7 y a.Sieve dx _ _ _ _ (iA5 rfl hy (vf_no (by decide +kernel) (by decide +kernel) (by decide +kernel)) (m_Sieve_place T) (zq hh at0 (iE6 y dx l1 l2 n j (iA3 rfl hy ?_))))
  walk_at "go"
  obtain ⟨pp,hpp,hp2⟩:∃ pp:Nat,(if j=n then (0:Int) else 1)=pp∧pp < 2:=by split; exact ⟨0,rfl,by decide⟩; exact ⟨1,rfl,by decide⟩
  have e1:(if V.int j=V.int n then (0:Nat) else 1)=pp:=by
   by_cases h:j=n
   ·rw [if_pos h] at hpp; rw [if_pos (by rw [h])]; omega
   ·rw [if_neg h] at hpp; rw [if_neg (fun z=>h (by cases z; rfl))]; omega
  have e2:(if V.int j=V.int n then (0:Int) else 1)=pp:=by
   by_cases h:j=n
   ·rw [if_pos h] at hpp; rw [if_pos (by rw [h])]; omega
   ·rw [if_neg h] at hpp; rw [if_neg (fun z=>h (by cases z; rfl))]; omega
  rw [hpp]
  have hlt:pp < bs.length:=by omega
  refine zq hf (zC (by rw [List.getElem?_map,List.getElem?_eq_getElem hlt]; rfl)) ?_
  have eg:bs.getD pp false=bs[pp]:=by simp [hlt]
  unfold QK at k
  rw [if_neg (by intro z; cases z),e1,e2,eg] at k
  walk_at "go"
  cases hbb:bs[pp] with
  | true =>
   rw [hbb,if_pos rfl] at k
   walk_at "go"
   intro q hq
   exact k _ _ (ze hq) ⟨q,rfl,upd_same⟩
  | false =>
   rw [hbb,if_neg (by decide)] at k
   walk_at "go"
   exact k _ _ (Same.refl _) rfl
theorem m_Sieve_choice (T:Txt K mg a):MCal P w K mg base a.Sieve "choice" 2 ["self","heads","free","turn","side"] [] (xj K a.Sieve):=T.h_Sieve_choice.cal T.C_Sieve (ok_Sieve_choice T)
def Xa (n:Nat) (p:Option Nat):Option (List V):=p.map fun (p:Nat)=>[.int p,.int 0,.int ((p + 1) % n:Nat)]
def there (hs:List V):List Bool:=hs.map fun h=>!decide (h=.non)
def jO (K:PySem.W.Frag) (C:Addr):Sp:=fun vs H Q _=>∃ (y dx l1 l2 hl fl:Addr) (turn:V) (side:Nat) (hs ins:List V) (b:Bool) (bs:List V),vs=[.ref y,.ref hl,.ref fl,turn,.int side]∧H y=some (.ins C dx (kf l1 l2))∧H l1=some (.lst ins) ∧
 SqL K H hl hs∧SqL K H fl (.bl b :: bs)∧hs.length=ins.length∧hs.length≤900∧∀ v H',Same H H'→Told H' v (if b=true then Xa hs.length (qQ (there hs) side) else none)→Q v H'
theorem ok_Joiner_choice (T:Txt K mg a) (F:Fun K "choice" "Joiner.choice" s_Joiner_choice f fd):FnOk P w K mg base (CXr P w) 2 f fd ["self","heads","free","turn","side"] (jO K a.Joiner):=by
 refine F.okx sc_Joiner_choice ?_ ?_
 ·walk_at "i"
 walk_at "k"
 refine oE8 h fun y dx l1 l2 hl fl turn side z1_=>oE4 z1_ fun hs ins b bs z2_=>oA8 z2_ fun z3_ hy h1 hh hf hlen hb k=>?_
 clear h
 subst z3_
 walk_at "T"
 refine ⟨_,(zh (zy (qk (qi (zp (pv 2) zc) (fun _=>rfl)))  (zd (zj zz))  zk)  (zh (zx 5 sc_Joiner_choice.nd (zv ⟨rfl,rfl,rfl⟩ hr (za (jU (vars:=["head"]) (caps:=[]) (N:=["head"]) (ON:=["self","heads","free","turn","side","place"]) (osc:=zf s_Joiner_choice) rfl rfl (by first | decide +kernel | kernel_rfl) rfl rfl (ql (pv 1)) (fun s H fp pins=>(pg_n 0 (show (["head"]:List Str).Nodup from by decide +kernel))) (fun s H fp pins=>qg) (fun s H fp pins=>(jh j9 (pv 0) zz (zo _)))) (za (pv 4) zb))))  (zh (zy (zn qw (pv 5) zz (zo _))  (zd (zj zz))  zk)  (zd (zj (qM (za (pv 5) (za zc (za (zi zB (zi z7 (pv 5) zc) (zV zP zO (za (zl (pv 0) rfl) zb))) zb))))))))),?_⟩
 walk_at "go"
 refine zq hf at0 ?_
 walk_at "go"
 cases b with
 | false =>
  rw [if_neg (by decide)] at k
  walk_at "go"
  exact k _ _ (Same.refl _) rfl
 | true =>
  rw [if_pos rfl] at k
  walk_at "go"
  refine iE3 _ _ _ ⟨xu T,?_⟩
  walk_at "lc"
  walk_at "go"
  refine ⟨hl,rfl,.inl ⟨⟨_,hh⟩,fun _ _ _ _ acc hacc=>?_⟩⟩
  refine qP (K:=K) (a:=hl) (xs:=hs) (fun i σ H'=>∃ (v:Option V),σ=[v]∧Same H H'∧H' acc=some (.lst ((there (hs.take i)).map V.bl))) ⟨_,iA3 rfl (ze hacc) upd_same⟩ (fun i σ H' _ ⟨_,_,s,_⟩=>s.seq hh) ?_ ?_
  ·intro i x σ H' hi zz_
   refine oE1 zz_ fun v z1_=>oA3 z1_ fun z2_ s ha=>?_
   clear zz_
   subst z2_
   walk_at "go"
   refine ⟨_,iA3 ha ?_ ⟨_,iA3 rfl ?_ ?_⟩⟩
   ·simp only [there,List.length_map,List.length_take]
    exact zm (by omega)
   ·intro b o hb
    rw [upd_ne (ne_of_none hb hacc)]
    exact s b o hb
   ·rw [upd_same,List.take_succ,hi]
    simp [there]
  ·intro σ H' zz_
   refine oE1 zz_ fun v z1_=>oA3 z1_ fun z2_ s ha=>?_
   clear zz_
   subst z2_
   rw [List.take_length] at ha
   refine iE3 acc (there hs) side (iA4 rfl (SqL.of ha) (by simp [there]; omega) ?_)
   have hlt:(there hs).length=hs.length:=by simp [there]
   cases hp:qQ (there hs) side with
   | none =>
    rw [hp] at k
    simp only [optV]
    walk_at "go"
    exact k _ _ s rfl
   | some p =>
    rw [hp] at k
    simp only [optV]
    have hlt':=jv hp
    walk_at "go"
    refine ra (s _ _ hy) T.C_Joiner T.N_Joiner_ins kf_ins ⟨_,.inl ⟨_,SqL.of (s _ _ h1),rfl⟩,?_⟩
    walk_at "go"
    rw [← hlen]
    refine And.intro (by omega) ?_
    walk_at "go"
    intro q hq
    have e:((p:Int) + 1) % (hs.length:Int)=(((p + 1) % hs.length:Nat):Int):=by push_cast; rfl
    rw [e]
    exact k _ _ (s.trans (ze hq)) ⟨q,rfl,upd_same⟩
theorem m_Joiner_choice (T:Txt K mg a):MCal P w K mg base a.Joiner "choice" 2 ["self","heads","free","turn","side"] [] (jO K a.Joiner):=T.h_Joiner_choice.cal T.C_Joiner (ok_Joiner_choice T)
theorem MCal.imp {C:Addr} {m:Str} {k:Nat} {ps:List Str} {dvs:List V} {sp sp':Sp} (c:MCal P w K mg base C m k ps dvs sp) (h:∀ vs H Q E,sp' vs H Q E→sp vs H Q E):MCal P w K mg base C m k ps dvs sp' :=
 let ⟨f,fd,ds,x,y⟩:=c.ex; ⟨c.cl,f,fd,ds,x.imp h,y⟩
theorem fs_s {fs:List (Str × V)} {k:Str} {ks:List Str} (n:fs.map (·.1)=k :: ks):∃ v gs,fs=(k,v) :: gs∧gs.map (·.1)=ks:=by
 cases fs with
 | nil=>cases n
 | cons x gs =>
  obtain ⟨k',v⟩:=x
  injection n with n1 n2
  exact iE2 v gs ⟨by rw [← n1],n2⟩
theorem fs_0 {fs:List (Str × V)} (n:fs.map (·.1)=[]):fs=[]:=List.map_eq_nil_iff.mp n
theorem fs2 {H:Hp} {p:Addr→Prop} {fs:List (Str × V)} {k1 k2:Str} {d1 d2:D} (n:fs.map (·.1)=[k1,k2]) (g:∀ (i:Nat) f g,fs[i]?=some f→[(k1,d1),(k2,d2)][i]?=some g→Rep H p f.2 g.2):∃ v1 v2,fs=[(k1,v1),(k2,v2)]∧Rep H p v1 d1∧Rep H p v2 d2:=by
 obtain ⟨v1,f1,rfl,n1⟩:=fs_s n
 obtain ⟨v2,f2,rfl,n2⟩:=fs_s n1
 obtain rfl:=fs_0 n2
 exact ⟨v1,v2,rfl,g 0 _ _ rfl rfl,g 1 _ _ rfl rfl⟩
section
variable {H:Hp} {p:Addr→Prop} {y:Addr} {ins outs kinds:List Int} {pace:Int}
theorem KnP.parter (h:KnP a H p (.ref y) ⟨.parter,ins,outs,pace,kinds⟩):∃ dx l1 l2,H y=some (.ins a.Parter dx (kf l1 l2))∧H l2=some (.lst (iv outs)):=by
 cases h with | ob _ hy n g =>
  obtain ⟨v1,v2,rfl,r1,r2⟩:=fs2 n g
  obtain ⟨l1,rfl,_,_⟩:=r1.ints'
  obtain ⟨l2,rfl,_,h2⟩:=r2.ints'
  exact ⟨_,l1,l2,by rw [vt]; exact hy,h2⟩
end
theorem fs3 {H:Hp} {p:Addr→Prop} {fs:List (Str × V)} {k1 k2 k3:Str} {d1 d2 d3:D} (n:fs.map (·.1)=[k1,k2,k3]) (g:∀ (i:Nat) f g,fs[i]?=some f→[(k1,d1),(k2,d2),(k3,d3)][i]?=some g→Rep H p f.2 g.2):∃ v1 v2 v3,fs=[(k1,v1),(k2,v2),(k3,v3)]∧Rep H p v1 d1∧Rep H p v2 d2∧Rep H p v3 d3:=by
 obtain ⟨v1,f1,rfl,n1⟩:=fs_s n
 obtain ⟨v2,f2,rfl,n2⟩:=fs_s n1
 obtain ⟨v3,f3,rfl,n3⟩:=fs_s n2
 obtain rfl:=fs_0 n3
 exact ⟨v1,v2,v3,rfl,g 0 _ _ rfl rfl,g 1 _ _ rfl rfl,g 2 _ _ rfl rfl⟩
theorem fs4 {H:Hp} {p:Addr→Prop} {fs:List (Str × V)} {k1 k2 k3 k4:Str} {d1 d2 d3 d4:D} (n:fs.map (·.1)=[k1,k2,k3,k4]) (g:∀ (i:Nat) f g,fs[i]?=some f→[(k1,d1),(k2,d2),(k3,d3),(k4,d4)][i]?=some g→Rep H p f.2 g.2):∃ v1 v2 v3 v4,fs=[(k1,v1),(k2,v2),(k3,v3),(k4,v4)]∧Rep H p v1 d1∧Rep H p v2 d2∧Rep H p v3 d3∧Rep H p v4 d4:=by
 obtain ⟨v1,f1,rfl,n1⟩:=fs_s n
 obtain ⟨v2,f2,rfl,n2⟩:=fs_s n1
 obtain ⟨v3,f3,rfl,n3⟩:=fs_s n2
 obtain ⟨v4,f4,rfl,n4⟩:=fs_s n3
 obtain rfl:=fs_0 n4
 exact ⟨v1,v2,v3,v4,rfl,g 0 _ _ rfl rfl,g 1 _ _ rfl rfl,g 2 _ _ rfl rfl,g 3 _ _ rfl rfl⟩
section
variable {H:Hp} {p:Addr→Prop} {y:Addr} {ins outs kinds:List Int} {pace:Int}
theorem KnP.source (h:KnP a H p (.ref y) ⟨.source,ins,outs,pace,kinds⟩):∃ dx l1 l2 l3,H y=some (.ins a.Source dx (sf l1 l2 pace l3)):=by
 cases h with | ob _ hy n g =>
  obtain ⟨v1,v2,v3,v4,rfl,r1,r2,r3,r4⟩:=fs4 n g
  obtain ⟨l1,rfl,_,_⟩:=r1.ints'
  obtain ⟨l2,rfl,_,_⟩:=r2.ints'
  cases r3
  obtain ⟨l4,rfl,_,_⟩:=r4.ints'
  exact ⟨_,l1,l2,l4,by rw [J5]; exact hy⟩
theorem KnP.drain (h:KnP a H p (.ref y) ⟨.drain,ins,outs,pace,kinds⟩):∃ dx l1 l2,H y=some (.ins a.Drain dx (df l1 l2 pace)):=by
 cases h with | ob _ hy n g =>
  obtain ⟨v1,v2,v3,rfl,r1,r2,r3⟩:=fs3 n g
  obtain ⟨l1,rfl,_,_⟩:=r1.ints'
  obtain ⟨l2,rfl,_,_⟩:=r2.ints'
  cases r3
  exact ⟨_,l1,l2,by rw [JV]; exact hy⟩
theorem KnP.sieve {k:Int} (h:KnP a H p (.ref y) ⟨.sieve,ins,outs,pace,[k]⟩):∃ dx l1 l2,H y=some (.ins a.Sieve dx (vf l1 l2 k)):=by
 cases h with | ob _ hy n g =>
  obtain ⟨v1,v2,v3,rfl,r1,r2,r3⟩:=fs3 n g
  obtain ⟨l1,rfl,_,_⟩:=r1.ints'
  obtain ⟨l2,rfl,_,_⟩:=r2.ints'
  cases r3
  exact ⟨_,l1,l2,by rw [J0]; exact hy⟩
theorem KnP.joiner (h:KnP a H p (.ref y) ⟨.joiner,ins,outs,pace,kinds⟩):∃ dx l1 l2,H y=some (.ins a.Joiner dx (kf l1 l2))∧H l1=some (.lst (iv ins)):=by
 cases h with | ob _ hy n g =>
  obtain ⟨v1,v2,rfl,r1,r2⟩:=fs2 n g
  obtain ⟨l1,rfl,_,h1⟩:=r1.ints'
  obtain ⟨l2,rfl,_,_⟩:=r2.ints'
  exact ⟨_,l1,l2,by rw [vt]; exact hy,h1⟩
end
def hdV:Option Int→V
 | none=>.non
 | some k=>.int k
def zW (r:Row) (hs:List (Option Int)) (bs:List Bool) (t:Int) (side:Nat):Option (Option Nat × Option Nat × Nat):=match r.wd with
 | .source=>if bs.getD 0 false=true∧t % r.pace=0 then some (none,some 0,side) else none
 | .drain=>if r.pace=0∨hs.getD 0 none=none∨t % r.pace≠0 then none else some (some 0,none,side)
 | .parter=>if hs.getD 0 none=none then none else (qQ bs side).map fun p=>(some 0,some p,(p + 1) % bs.length)
 | .first=>if hs.getD 0 none=none then none else (qQ bs 0).map fun p=>(some 0,some p,side)
 | .sieve=>if hs.getD 0 none=none then none else if bs.getD (if hs.getD 0 none=some (r.kinds.headD 0) then 0 else 1) false=true then some (some 0,some (if hs.getD 0 none=some (r.kinds.headD 0) then 0 else 1),side) else none
 | .joiner=>if bs.getD 0 false=true then (qQ (hs.map Option.isSome) side).map fun p=>(some p,some 0,(p + 1) % hs.length) else none
def chV (x:Option Nat × Option Nat × Nat):List V:=[optV x.1,optV x.2.1,.int (x.2.2:Nat)]
def spChoice (K:PySem.W.Frag) (a:Ad) (wd:Wd):Sp:=fun vs H Q _=>∃ (y hl fl:Addr) (r:Row) (p:Addr→Prop) (hs:List (Option Int)) (bs:List Bool) (t:Int) (side:Nat),vs=[.ref y,.ref hl,.ref fl,.int t,.int side]∧KnP a H p (.ref y) r∧r.wd=wd∧r.ok ∧
 H hl=some (.lst (hs.map hdV))∧H fl=some (.lst (bs.map V.bl))∧hs.length=r.ins.length∧bs.length=r.outs.length∧∀ v H',Same H H'→Told H' v ((zW r hs bs t side).map chV)→Q v H'
theorem wO {x:Option Int}:(hdV x=.non)=(x=none):=by
 cases x <;> simp [hdV]
theorem there_hd (hs:List (Option Int)):there (hs.map hdV)=hs.map Option.isSome:=by
 simp only [there,List.map_map]
 congr 1
 funext x
 cases x <;> simp [hdV]
theorem m_choice (T:Txt K mg a) (wd:Wd):MCal P w K mg base (clsA a wd) "choice" 3 ["self","heads","free","turn","side"] [] (spChoice K a wd):=by
 cases wd with
 | source =>
  refine MCal.imp (m_Source_choice T).mono fun vs H Q E h=>?_
  refine oE5 h fun y hl fl z1_ p z2_=>oE4 z2_ fun hs bs t side z3_=>oA9 z3_ fun z4_ hK hw ok hh hf l1 l2 k=>?_
  clear h
  obtain ⟨wd,ins,outs,pace,kinds⟩:=z1_
  subst z4_
  simp only at hw; subst hw
  refine oE4 hK.source fun dx m1 m2 m3 hy=>?_
  refine oA4 ok fun _ z1_ p1 _=>?_
  clear ok
  obtain ⟨o,eo⟩:=z1_
  simp only at eo p1 l2
  subst eo
  match bs,l2 with
  | [b],_ =>
   refine iE8 y dx m1 m2 m3 fl pace t (iE4 _ _ b ([]) (iA5 rfl hy p1 (SqL.of hf) (fun v H' s ht=>k v H' s ?_)))
   unfold Zx at ht
   simp only [zW]
   by_cases hc:b=true∧t % pace=0
   ·rw [if_pos hc] at ht; rw [if_pos (by simpa using hc)]; exact ht
   ·rw [if_neg hc] at ht; rw [if_neg (by simpa using hc)]; exact ht
 | drain =>
  refine MCal.imp (m_Drain_choice T).mono fun vs H Q E h=>?_
  refine oE5 h fun y hl fl z1_ p z2_=>oE4 z2_ fun hs bs t side z3_=>oA9 z3_ fun z4_ hK hw ok hh hf l1 l2 k=>?_
  clear h
  obtain ⟨wd,ins,outs,pace,kinds⟩:=z1_
  subst z4_
  simp only at hw; subst hw
  refine oE3 hK.drain fun dx m1 m2 hy=>?_
  refine oA4 ok fun z1_ _ p1 p4=>?_
  clear ok
  obtain ⟨o,eo⟩:=z1_
  simp only at eo p1 p4 l1
  subst eo
  match hs,l1 with
  | [hd],_ =>
   refine iE8 y dx m1 m2 hl pace t _ (iE3 _ (hdV hd) ([]) (iA6 rfl hy p1 p4 (SqL.of hh) (fun v H' s ht=>k v H' s ?_)))
   unfold QT at ht
   simp only [wO] at ht
   simp only [zW]
   by_cases hc:pace=0∨hd=none∨t % pace≠0
   ·rw [if_pos hc] at ht; rw [if_pos (by simpa using hc)]; exact ht
   ·rw [if_neg hc] at ht; rw [if_neg (by simpa using hc)]; exact ht
 | parter =>
  refine MCal.imp (m_Parter_choice T).mono fun vs H Q E h=>?_
  refine oE5 h fun y hl fl z1_ p z2_=>oE4 z2_ fun hs bs t side z3_=>oA9 z3_ fun z4_ hK hw ok hh hf l1 l2 k=>?_
  clear h
  obtain ⟨wd,ins,outs,pace,kinds⟩:=z1_
  subst z4_
  simp only at hw; subst hw
  refine oE3 hK.parter fun dx m1 m2 z1_=>oA2 z1_ fun hy h2=>?_
  obtain ⟨⟨o,eo⟩,q1,q2⟩:=ok
  simp only at eo l1 l2 q1 q2
  subst eo
  match hs,l1 with
  | [hd],_ =>
   refine iE8 y dx m1 m2 hl fl _ side (iE4 (hdV hd) ([]) (iv outs) bs (iA8 rfl hy h2 (SqL.of hh) (SqL.of hf) (by rw [zD]; exact l2) (by omega) (fun v H' s ht=>k v H' s ?_)))
   simp only [wO] at ht
   simp only [zW]
   by_cases hc:hd=none
   ·rw [if_pos hc] at ht; rw [if_pos (by simpa using hc)]; exact ht
   ·rw [if_neg hc] at ht; rw [if_neg (by simpa using hc)]
    unfold J9 at ht
    rw [Option.map_map]
    exact ht
 | first =>
  refine MCal.imp (m_FirstParter_choice T).mono fun vs H Q E h=>?_
  refine oE5 h fun y hl fl z1_ p z2_=>oE4 z2_ fun hs bs t side z3_=>oA9 z3_ fun z4_ hK hw ok hh hf l1 l2 k=>?_
  clear h
  obtain ⟨wd,ins,outs,pace,kinds⟩:=z1_
  subst z4_
  simp only at hw; subst hw
  obtain ⟨⟨o,eo⟩,q1,q2⟩:=ok
  simp only at eo l1 l2 q1 q2
  subst eo
  match hs,l1 with
  | [hd],_ =>
   refine iE8 y hl fl _ _ (hdV hd) ([]) bs (iA5 rfl (SqL.of hh) (SqL.of hf) (by omega) (fun v H' s ht=>k v H' s ?_))
   simp only [wO] at ht
   simp only [zW]
   by_cases hc:hd=none
   ·rw [if_pos hc] at ht; rw [if_pos (by simpa using hc)]; exact ht
   ·rw [if_neg hc] at ht; rw [if_neg (by simpa using hc)]
    unfold JT at ht
    rw [Option.map_map]
    exact ht
 | sieve =>
  refine MCal.imp (m_Sieve_choice T).mono fun vs H Q E h=>?_
  refine oE5 h fun y hl fl z1_ p z2_=>oE4 z2_ fun hs bs t side z3_=>oA9 z3_ fun z4_ hK hw ok hh hf l1 l2 k=>?_
  clear h
  obtain ⟨wd,ins,outs,pace,kinds⟩:=z1_
  subst z4_
  simp only at hw; subst hw
  refine oA3 ok fun z1_ q1 z2_=>oE1 z2_ fun kk z3_=>oA2 z3_ fun q2 _=>?_
  clear ok
  obtain ⟨o,eo⟩:=z1_
  simp only at eo l1 l2 q1 q2
  subst eo q2
  refine oE3 hK.sieve fun dx m1 m2 hy=>?_
  match hs,l1 with
  | [hd],_ =>
   refine iE8 y dx m1 m2 hl fl kk _ (iE4 _ (hdV hd) ([]) bs (iA7 rfl hy (SqL.of hh) (by cases hd; exact .inl rfl; exact .inr ⟨_,rfl⟩) (SqL.of hf) (by omega) (fun v H' s ht=>k v H' s ?_)))
   unfold QK at ht
   simp only [wO] at ht
   simp only [zW]
   by_cases hc:hd=none
   ·rw [if_pos hc] at ht; rw [if_pos (by simpa using hc)]; exact ht
   ·rw [if_neg hc] at ht; rw [if_neg (by simpa using hc)]
    have e:(hdV hd=.int kk)=([hd].getD 0 none=some (List.headD [kk] 0)):=by
     cases hd with
     | none=>exact absurd rfl hc
     | some x=>simp [hdV]
    have e1:(if hdV hd=V.int kk then (0:Nat) else 1)=(if [hd].getD 0 none=some (List.headD [kk] 0) then 0 else 1):=by simp only [e]
    have e2:(if hdV hd=V.int kk then (0:Int) else 1)=((if [hd].getD 0 none=some (List.headD [kk] 0) then 0 else 1:Nat):Int):=by simp only [e]; split <;> rfl
    rw [e1,e2] at ht
    generalize (if [hd].getD 0 none=some (List.headD [kk] 0) then 0 else 1)=q at ht ⊢
    by_cases hb:bs.getD q false=true
    ·rw [if_pos hb] at ht ⊢; exact ht
    ·rw [if_neg hb] at ht ⊢; exact ht
 | joiner =>
  refine MCal.imp (m_Joiner_choice T).mono fun vs H Q E h=>?_
  refine oE5 h fun y hl fl z1_ p z2_=>oE4 z2_ fun hs bs t side z3_=>oA9 z3_ fun z4_ hK hw ok hh hf l1 l2 k=>?_
  clear h
  obtain ⟨wd,ins,outs,pace,kinds⟩:=z1_
  subst z4_
  simp only at hw; subst hw
  obtain ⟨⟨o,eo⟩,q1,q2⟩:=ok
  simp only at eo l1 l2 q1 q2
  subst eo
  refine oE3 hK.joiner fun dx m1 m2 z1_=>oA2 z1_ fun hy h1=>?_
  match bs,l2 with
  | [b],_ =>
   refine iE8 y dx m1 m2 hl fl _ side (iE4 (hs.map hdV) (iv ins) b ([]) (iA8 rfl hy h1 (SqL.of hh) (SqL.of hf) (by rw [List.length_map,zD]; exact l1) (by rw [List.length_map]; omega) (fun v H' s ht=>k v H' s ?_)))
   rw [there_hd,List.length_map] at ht
   simp only [zW]
   by_cases hc:b=true
   ·rw [if_pos hc] at ht; rw [if_pos (by simpa using hc)]
    unfold Xa at ht
    rw [Option.map_map]
    exact ht
   ·rw [if_neg hc] at ht; rw [if_neg (by simpa using hc)]; exact ht
abbrev Ware:=Option (Int × Int)
def zN:Ware→D
 | none=>.non
 | some (s,n)=>.tup [.int s,.int n]
theorem hard_ware (x:Ware):Hard (zN x):=by
 cases x with
 | none=>exact .non
 | some x =>
  refine .tup fun i d h=>?_
  have:d∈[D.int x.1,D.int x.2]:=List.mem_of_getElem? h
  simp at this
  rcases this with rfl | rfl <;> exact .int
structure PSt where
 turn:Int
 cells:List (List Ware)
 sides:List Int
 gone:List (List Int)
abbrev zu (cs:List (List Ware)):List (List D):=cs.map fun c=>c.map zN
abbrev qO (gs:List (List Int)):List (List D):=gs.map fun g=>g.map D.int
def stF (st:PSt):List (Str × D):=[("turn",.int st.turn),("cells",.lst ((zu st.cells).map D.lst)),("sides",.ints st.sides),("gone",.lst ((qO st.gone).map D.lst))]
def xB (a:Ad) (st:PSt):D:=.ob a.State (stF st)
theorem ZW (st:PSt):(stF st).lookup ("turn":Str)=some (.int st.turn):=qx
theorem vW (st:PSt):(stF st).lookup ("cells":Str)=some (.lst ((zu st.cells).map D.lst)):=(zH (by decide +kernel)).trans qx
theorem vV (st:PSt):(stF st).lookup ("sides":Str)=some (.ints st.sides):=(zH (by decide +kernel)).trans ((zH (by decide +kernel)).trans qx)
theorem ZX (st:PSt):(stF st).lookup ("gone":Str)=some (.lst ((qO st.gone).map D.lst)):=(zH (by decide +kernel)).trans ((zH (by decide +kernel)).trans ((zH (by decide +kernel)).trans qx))
def sff (t:Int) (lc ls lg:Addr):List (Str × V):=[(("turn":Str),V.int t),(("cells":Str),V.ref lc),(("sides":Str),V.ref ls),(("gone":Str),V.ref lg)]
theorem sff1 {t:Int}:putF "turn" (.int t) []=([(("turn":Str),V.int t)]:List (Str × V)):=rfl
theorem sff2 {t:Int} {lc:Addr}:putF "cells" (.ref lc) [(("turn":Str),V.int t)]=([(("turn":Str),V.int t),(("cells":Str),V.ref lc)]:List (Str × V)):=by
 simp only [putF]; rw [if_neg (by decide +kernel)]
theorem sff3 {t:Int} {lc ls:Addr}:putF "sides" (.ref ls) [(("turn":Str),V.int t),(("cells":Str),V.ref lc)]=([(("turn":Str),V.int t),(("cells":Str),V.ref lc),(("sides":Str),V.ref ls)]:List (Str × V)):=by
 simp only [putF]; rw [if_neg (by decide +kernel),if_neg (by decide +kernel)]
theorem sff4 {t:Int} {lc ls lg:Addr}:putF "gone" (.ref lg) [(("turn":Str),V.int t),(("cells":Str),V.ref lc),(("sides":Str),V.ref ls)]=sff t lc ls lg:=by
 unfold sff; simp only [putF]; rw [if_neg (by decide +kernel),if_neg (by decide +kernel),if_neg (by decide +kernel)]
structure SN where
 dx:Addr
 lc:Addr
 ls:Addr
 lg:Addr
 acs:List Addr
 ags:List Addr
def SN.all (n:SN):List Addr:=n.ls :: n.lc :: n.lg :: (n.acs ++ n.ags)
structure StO (a:Ad) (H:Hp) (y:Addr) (n:SN) (st:PSt):Prop where
 hy:H y=some (.ins a.State n.dx (sff st.turn n.lc n.ls n.lg))
 hc:NL H (TupP H) n.lc n.acs (zu st.cells)
 hs:H n.ls=some (.lst (iv st.sides))
 hg:NL H (TupP H) n.lg n.ags (qO st.gone)
 nd:n.all.Nodup
theorem StO.rep {H:Hp} {y:Addr} {n:SN} {st:PSt} (h:StO a H y n st):Rep H (Off []) (.ref y) (xB a st) :=
 jB (fun z=>nomatch z) h.hy rfl (.cons .int (.cons h.hc.rep (.cons (z8 (fun z=>nomatch z) h.hs) (.cons h.hg.rep .nil))))
theorem StO.same {H H':Hp} {y:Addr} {n:SN} {st:PSt} (h:StO a H y n st) (s:Same H H'):StO a H' y n st :=
 ⟨s _ _ h.hy,h.hc.keep (fun b o _ hb=>s b o hb) (fun b ⟨xs,hx⟩ _=>⟨xs,s _ _ hx⟩),s _ _ h.hs,h.hg.keep (fun b o _ hb=>s b o hb) (fun b ⟨xs,hx⟩ _=>⟨xs,s _ _ hx⟩),h.nd⟩
def jK (a:Ad):Sp:=fun vs H Q _=>∃ (y dx:Addr) (vc vs' vg:V) (st:PSt) (p:Addr→Prop),vs=[.ref y,.int st.turn,vc,vs',vg]∧H y=some (.ins a.State dx [])∧(∀ b,p b→b≠y) ∧
 Rep H p vc (.lst ((zu st.cells).map D.lst))∧Rep H p vs' (.ints st.sides)∧Rep H p vg (.lst ((qO st.gone).map D.lst))∧st.cells.length≤100∧st.gone.length≤100 ∧
 ∀ H' n,n.dx=dx→Own H H' y→StO a H' y n st→(∀ b∈n.all,H b=none)→Q .non H'
theorem Z9 {H:Hp} {p:Addr→Prop} {vs:List V} {ds:List D} (h:Reps H p vs ds) (hd:∀ d∈ds,Hard d):Reps H (TupP H) vs ds :=
 ⟨h.len,fun i v d e1 e2=>(h.g i v d e1 e2).hard (hd d (List.mem_of_getElem? e2)) fun b xs _ hb=>⟨xs,hb⟩⟩
theorem hard_cells (c:List Ware):∀ d∈c.map zN,Hard d:=fun d hd=>by
 obtain ⟨x,_,rfl⟩:=List.mem_map.mp hd
 exact hard_ware x
theorem hard_ints (c:List Int):∀ d∈c.map D.int,Hard d:=fun d hd=>by
 obtain ⟨x,_,rfl⟩:=List.mem_map.mp hd
 exact .int
theorem ok_State_init (T:Txt K mg a) (F:Fun K "__init__" "State.__init__" s_State_init f fd):FnOk P w K mg base (CXr P w) 1 f fd ["self","turn","cells","sides","gone"] (jK a):=by
 refine F.okx sc_State_init ?_ ?_
 ·walk_at "i"
 walk_at "j"
 refine oE7 h fun y dx vc vs' vg st p z1_=>oA9 z1_ fun z2_ hy hp rc rs rg lc lg k=>?_
 clear h
 subst z2_
 refine oE2 rc.lst' fun c0 ucs z1_=>oA4 z1_ fun z2_ pc0 hc0 rcs=>?_
 subst z2_
 refine oE1 rs.ints' fun s0 z1_=>oA3 z1_ fun z2_ ps0 hs0=>?_
 subst z2_
 have hs0:H s0=some (.lst (iv st.sides)):=hs0
 refine oE2 rg.lst' fun g0 ugs z1_=>oA4 z1_ fun z2_ pg0 hg0 rgs=>?_
 subst z2_
 have lcs:ucs.length=st.cells.length:=by rw [rcs.len,List.length_map,List.length_map]
 have lgs:ugs.length=st.gone.length:=by rw [rgs.len,List.length_map,List.length_map]
 walk_at "T"
 refine ⟨_,(zg (qL (pv 0) (pv 1) rfl)  (zg (qL (pv 0) (jU (vars:=["belt_cells"]) (caps:=[]) (N:=["belt_cells"]) (ON:=["self","turn","cells","sides","gone"]) (osc:=zf s_State_init) rfl rfl (by first | decide +kernel | kernel_rfl) rfl rfl (ql (pv 2)) (fun s H fp pins=>(pg_n 0 (show (["belt_cells"]:List Str).Nodup from by decide +kernel))) (fun s H fp pins=>qg) (fun s H fp pins=>(xR jl qF (za (pv 0) zb)))) rfl)  (zg (qL (pv 0) (xR jl qF (za (pv 3) zb)) rfl)  (zd (qL (pv 0) (jU (vars:=["counts"]) (caps:=[]) (N:=["counts"]) (ON:=["self","turn","cells","sides","gone"]) (osc:=zf s_State_init) rfl rfl (by first | decide +kernel | kernel_rfl) rfl rfl (ql (pv 4)) (fun s H fp pins=>(pg_n 0 (show (["counts"]:List Str).Nodup from by decide +kernel))) (fun s H fp pins=>qg) (fun s H fp pins=>(xR jl qF (za (pv 0) zb)))) rfl))))),?_⟩
 walk_at "go"
 refine iE4 y a.State dx ([]) (iA6 rfl hy T.C_State T.N_State_turn (by decide) ?_)
 rw [sff1]
 have o1:Own H (upd H y (.ins a.State dx [(("turn":Str),V.int st.turn)])) y:=qD
 have y1:upd H y (.ins a.State dx [(("turn":Str),V.int st.turn)]) y=some (.ins a.State dx [(("turn":Str),V.int st.turn)]):=upd_same
 generalize upd H y (.ins a.State dx [(("turn":Str),V.int st.turn)])=H1 at o1 y1 ⊢
 have kp:∀ b,TupP H b→H b≠none→b≠y:=fun b ⟨xs,hx⟩ _ z=>by rw [z,hy] at hx; cases hx
 walk_at "lc"
 walk_at "go"
 refine ⟨c0,rfl,.inl ⟨⟨_,SqL.of (o1 _ _ (hp _ pc0) hc0)⟩,fun _ _ _ _ acc hacc=>?_⟩⟩
 let M1_:Nat→St→Hp→Prop:=fun i σ H'=>∃ (v0:Option V) (as:List Addr),σ=[v0]∧Same H1 H'∧NL H' (TupP H) acc as (zu (st.cells.take i))∧∀ b∈as,H1 b=none
 refine qP (K:=K) (a:=c0) (xs:=ucs) M1_ (iE2 _ ([]) (iA4 rfl (ze hacc) (by rw [List.take_zero]; exact ZG upd_same) (by simp))) (fun i σ H' _ h=>by obtain ⟨_,_,_,s,_⟩:=h; exact SqL.of (s _ _ (o1 _ _ (hp _ pc0) hc0))) ?_ ?_
 ·intro i x σ H2 hi zz_
  refine oE2 zz_ fun v0 as z1_=>oA4 z1_ fun z2_ s2 nl fr=>?_
  clear zz_
  subst z2_
  obtain ⟨d,hd,rx⟩:=rcs.at hi
  rw [List.getElem?_map,List.getElem?_map] at hd
  obtain ⟨c,hc⟩:∃ c,st.cells[i]?=some c:=by
   cases e:st.cells[i]? with
   | none=>rw [e] at hd; cases hd
   | some c=>exact ⟨c,rfl⟩
  rw [hc] at hd
  cases hd
  refine oE2 (Rep.lst' rx) fun li vi z1_=>oA4 z1_ fun z2_ pli hli ri=>?_
  subst z2_
  have hil:=(List.getElem?_eq_some_iff.mp hc).1
  have hli2:=s2 _ _ (o1 _ _ (hp _ pli) hli)
  walk_at "go"
  refine iE2 li _ (iA3 rfl (.inl (SqL.of hli2)) (fun b hb=>?_))
  have nb:b ∉ as:=fun z=>by
   obtain ⟨j,hj⟩:=List.getElem?_of_mem z
   obtain ⟨vs,h1,_⟩:=nl.g j b _ hj (List.getElem?_eq_getElem (by rw [← nl.len]; exact (List.getElem?_eq_some_iff.mp hj).1))
   rw [h1] at hb; cases hb
  have nG:b≠acc:=fun z=>by rw [z,nl.out] at hb; cases hb
  have s3:Same H2 (upd H2 b (.lst vi)):=ze hb
  have ac3:=upd_keep (o:=.lst vi) nl.out hb
  refine ⟨_,iA3 ac3 (zm (by rw [List.length_map,nl.len,List.length_map,List.length_take]; omega)) ?_⟩
  have ri3:Reps (upd H2 b (.lst vi)) (TupP H) vi (c.map zN):=(Z9 ri (hard_cells c)).keep fun z o pz hz=>⟨pz,s3 _ _ (s2 _ _ (o1 _ _ (kp z pz (by rw [hz]; intro q; cases q)) hz))⟩
  have nl3:=(nl.same s3).push (b:=b) (vs:=vi) (ys:=c.map zN) upd_same nb nG (fun ⟨xs,hx⟩=>by
   have:=o1 _ _ (kp acc ⟨xs,hx⟩ (by rw [hx]; intro q; cases q)) hx
   rw [hacc] at this; cases this) ri3
  refine iE2 _ (as ++ [b]) (iA4 rfl ?_ ?_ ?_)
  ·exact fun z o hz=>by rw [upd_ne (ne_of_none hz hacc)]; exact s3 _ _ (s2 _ _ hz)
  ·rw [List.take_add_one,hc]
   rw [show zu (st.cells.take i ++ (some c).toList)=zu (st.cells.take i) ++ [c.map zN] by simp [zu]]
   exact nl3
  ·intro z hz
   rcases List.mem_append.mp hz with hz | hz
   ·exact fr z hz
   ·rw [List.mem_singleton.mp hz]; exact zJ s2 hb
 intro σ H2 zz_
 refine oE2 zz_ fun v0 acs z1_=>oA4 z1_ fun z2_ s2 nlc frc=>?_
 clear zz_
 subst z2_
 rw [lcs,List.take_length] at nlc
 have y2:=s2 _ _ y1
 walk_at "go"
 refine iE4 y a.State dx _ (iA6 rfl y2 T.C_State T.N_State_cells (by simp) ?_)
 rw [sff2]
 have nay:acc≠y:=fun z=>by rw [z,y1] at hacc; cases hacc
 have hx0:∀ {z:Addr},H1 z=none→z≠y∧H z=none:=fun {z} hz=>by
  have n1:z≠y:=fun q=>by rw [q,y1] at hz; cases hz
  refine ⟨n1,?_⟩
  cases e:H z with
  | none=>rfl
  | some o=>rw [o1 z o n1 e] at hz; cases hz
 have o3:Own H (upd H2 y (.ins a.State dx [(("turn":Str),V.int st.turn),(("cells":Str),V.ref acc)])) y:=(o1.trans (Same.own s2)).trans qD
 have y3:upd H2 y (.ins a.State dx [(("turn":Str),V.int st.turn),(("cells":Str),V.ref acc)]) y=some (.ins a.State dx [(("turn":Str),V.int st.turn),(("cells":Str),V.ref acc)]):=upd_same
 have nl3:NL (upd H2 y (.ins a.State dx [(("turn":Str),V.int st.turn),(("cells":Str),V.ref acc)])) (TupP H) acc acs (zu st.cells):=nlc.keep (fun z o hz ho=>by
  refine (upd_ne (fun q=>?_)).trans ho
  rcases hz with h | h | h
  ·exact nay (h.symm.trans q)
  ·exact (hx0 (frc z h)).1 q
  ·obtain ⟨xs,hx⟩:=h
   rw [q,hy] at hx; cases hx) fun _ hp _=>hp
 generalize upd H2 y (.ins a.State dx [(("turn":Str),V.int st.turn),(("cells":Str),V.ref acc)])=H3 at o3 y3 nl3 ⊢
 walk_at "go"
 refine iE2 s0 _ (iA3 rfl (.inl (SqL.of (o3 _ _ (hp _ ps0) hs0))) (fun ls hls=>?_))
 walk_at "go"
 have y4:=upd_keep (o:=.lst (iv st.sides)) y3 hls
 refine iE4 y a.State dx _ (iA6 rfl y4 T.C_State T.N_State_sides (by simp) ?_)
 rw [sff3]
 have nlsy:ls≠y:=fun z=>by rw [z,y3] at hls; cases hls
 have hls0:H ls=none:=by
  cases e:H ls with
  | none=>rfl
  | some o=>rw [o3 ls o nlsy e] at hls; cases hls
 have o5:Own H (upd (upd H3 ls (.lst (iv st.sides))) y (.ins a.State dx [(("turn":Str),V.int st.turn),(("cells":Str),V.ref acc),(("sides":Str),V.ref ls)])) y:=(o3.trans (Same.own (ze hls))).trans qD
 have y5:upd (upd H3 ls (.lst (iv st.sides))) y (.ins a.State dx [(("turn":Str),V.int st.turn),(("cells":Str),V.ref acc),(("sides":Str),V.ref ls)]) y=some (.ins a.State dx [(("turn":Str),V.int st.turn),(("cells":Str),V.ref acc),(("sides":Str),V.ref ls)]):=upd_same
 have nl5:NL (upd (upd H3 ls (.lst (iv st.sides))) y (.ins a.State dx [(("turn":Str),V.int st.turn),(("cells":Str),V.ref acc),(("sides":Str),V.ref ls)])) (TupP H) acc acs (zu st.cells):=nl3.keep (fun z o hz ho=>by
  refine (upd_ne (fun q=>?_)).trans (upd_keep ho hls)
  rcases hz with h | h | h
  ·exact nay (h.symm.trans q)
  ·exact (hx0 (frc z h)).1 q
  ·obtain ⟨xs,hx⟩:=h
   rw [q,hy] at hx; cases hx) fun _ hp _=>hp
 have ls5:upd (upd H3 ls (.lst (iv st.sides))) y (.ins a.State dx [(("turn":Str),V.int st.turn),(("cells":Str),V.ref acc),(("sides":Str),V.ref ls)]) ls=some (.lst (iv st.sides)):=by rw [upd_ne nlsy]; exact upd_same
 have nlsa:ls ∉ acc :: acs:=fun z=>by
  rcases List.mem_cons.mp z with h | h
  ·rw [h,nl3.out] at hls; cases hls
  ·obtain ⟨j,hj⟩:=List.getElem?_of_mem h
   obtain ⟨vs,h1,_⟩:=nl3.g j ls _ hj (List.getElem?_eq_getElem (by rw [← nl3.len]; exact (List.getElem?_eq_some_iff.mp hj).1))
   rw [h1] at hls; cases hls
 generalize upd (upd H3 ls (.lst (iv st.sides))) y (.ins a.State dx [(("turn":Str),V.int st.turn),(("cells":Str),V.ref acc),(("sides":Str),V.ref ls)])=H5 at o5 y5 nl5 ls5 ⊢
 clear nl3 o3 y3 hls y4
 walk_at "lc"
 walk_at "go"
 refine ⟨g0,rfl,.inl ⟨⟨_,SqL.of (o5 _ _ (hp _ pg0) hg0)⟩,fun _ _ _ _ ag hag=>?_⟩⟩
 let M2_:Nat→St→Hp→Prop:=fun i σ H'=>∃ (v0:Option V) (as:List Addr),σ=[v0]∧Same H5 H'∧NL H' (TupP H) ag as (qO (st.gone.take i))∧∀ b∈as,H5 b=none
 refine qP (K:=K) (a:=g0) (xs:=ugs) M2_ (iE2 _ ([]) (iA4 rfl (ze hag) (by rw [List.take_zero]; exact ZG upd_same) (by simp))) (fun i σ H' _ h=>by obtain ⟨_,_,_,s,_⟩:=h; exact SqL.of (s _ _ (o5 _ _ (hp _ pg0) hg0))) ?_ ?_
 ·intro i x σ H2 hi zz_
  refine oE2 zz_ fun v0 as z1_=>oA4 z1_ fun z2_ s2 nl fr=>?_
  clear zz_
  subst z2_
  obtain ⟨d,hd,rx⟩:=rgs.at hi
  rw [List.getElem?_map,List.getElem?_map] at hd
  obtain ⟨c,hc⟩:∃ c,st.gone[i]?=some c:=by
   cases e:st.gone[i]? with
   | none=>rw [e] at hd; cases hd
   | some c=>exact ⟨c,rfl⟩
  rw [hc] at hd
  cases hd
  refine oE2 (Rep.lst' rx) fun li vi z1_=>oA4 z1_ fun z2_ pli hli ri=>?_
  subst z2_
  have hil:=(List.getElem?_eq_some_iff.mp hc).1
  have hli2:=s2 _ _ (o5 _ _ (hp _ pli) hli)
  walk_at "go"
  refine iE2 li _ (iA3 rfl (.inl (SqL.of hli2)) (fun b hb=>?_))
  have nb:b ∉ as:=fun z=>by
   obtain ⟨j,hj⟩:=List.getElem?_of_mem z
   obtain ⟨vs,h1,_⟩:=nl.g j b _ hj (List.getElem?_eq_getElem (by rw [← nl.len]; exact (List.getElem?_eq_some_iff.mp hj).1))
   rw [h1] at hb; cases hb
  have nG:b≠ag:=fun z=>by rw [z,nl.out] at hb; cases hb
  have s3:Same H2 (upd H2 b (.lst vi)):=ze hb
  have ac3:=upd_keep (o:=.lst vi) nl.out hb
  refine ⟨_,iA3 ac3 (zm (by rw [List.length_map,nl.len,List.length_map,List.length_take]; omega)) ?_⟩
  have ri3:Reps (upd H2 b (.lst vi)) (TupP H) vi (c.map D.int):=(Z9 ri (hard_ints c)).keep fun z o pz hz=>⟨pz,s3 _ _ (s2 _ _ (o5 _ _ (kp z pz (by rw [hz]; intro q; cases q)) hz))⟩
  have nl3:=(nl.same s3).push (b:=b) (vs:=vi) (ys:=c.map D.int) upd_same nb nG (fun ⟨xs,hx⟩=>by
   have:=o5 _ _ (kp ag ⟨xs,hx⟩ (by rw [hx]; intro q; cases q)) hx
   rw [hag] at this; cases this) ri3
  refine iE2 _ (as ++ [b]) (iA4 rfl ?_ ?_ ?_)
  ·exact fun z o hz=>by rw [upd_ne (ne_of_none hz hag)]; exact s3 _ _ (s2 _ _ hz)
  ·rw [List.take_add_one,hc]
   rw [show qO (st.gone.take i ++ (some c).toList)=qO (st.gone.take i) ++ [c.map D.int] by simp [qO]]
   exact nl3
  ·intro z hz
   rcases List.mem_append.mp hz with hz | hz
   ·exact fr z hz
   ·rw [List.mem_singleton.mp hz]; exact zJ s2 hb
 intro σ H6 zz_
 refine oE2 zz_ fun v0' ags z1_=>oA4 z1_ fun z2_ s6 nlg frg=>?_
 clear zz_
 subst z2_
 rw [lgs,List.take_length] at nlg
 have y6:=s6 _ _ y5
 walk_at "go"
 refine iE4 y a.State dx _ (iA6 rfl y6 T.C_State T.N_State_gone (by simp) ?_)
 rw [sff4]
 have hx5:∀ {z:Addr},H5 z=none→z≠y∧H z=none:=fun {z} hz=>by
  have n1:z≠y:=fun q=>by rw [q,y5] at hz; cases hz
  refine ⟨n1,?_⟩
  cases e:H z with
  | none=>rfl
  | some o=>rw [o5 z o n1 e] at hz; cases hz
 have ngy:=(hx5 hag).1
 have o7:Own H (upd H6 y (.ins a.State dx (sff st.turn acc ls ag))) y:=(o5.trans (Same.own s6)).trans qD
 have tp:∀ b,TupP H b→H b≠none→TupP (upd H6 y (.ins a.State dx (sff st.turn acc ls ag))) b:=fun b ⟨xs,hx⟩ hn=>⟨xs,o7 _ _ (kp b ⟨xs,hx⟩ hn) hx⟩
 have inA:∀ z,z∈acc :: acs→∃ o,H5 z=some o:=fun z hz=>by
  rcases List.mem_cons.mp hz with h | h
  ·exact ⟨_,h ▸ nl5.out⟩
  ·obtain ⟨j,hj⟩:=List.getElem?_of_mem h
   obtain ⟨vs,h1,_⟩:=nl5.g j z _ hj (List.getElem?_eq_getElem (by rw [← nl5.len]; exact (List.getElem?_eq_some_iff.mp hj).1))
   exact ⟨_,h1⟩
 refine k _ ⟨dx,acc,ls,ag,acs,ags⟩ rfl o7 ⟨upd_same,?_,?_,?_,?_⟩ ?_
 ·exact (nl5.same s6).keep (fun z o hz ho=>by
   refine (upd_ne (fun q=>?_)).trans ho
   rcases hz with h | h | h
   ·exact nay (h.symm.trans q)
   ·exact (hx0 (frc z h)).1 q
   ·obtain ⟨xs,hx⟩:=h
    rw [q,hy] at hx; cases hx) fun b hb hn=>by
    obtain ⟨xs,hx⟩:=hb
    exact tp b ⟨xs,hx⟩ (by rw [hx]; intro q; cases q)
 ·show upd H6 y _ ls=_
  rw [upd_ne nlsy]; exact s6 _ _ ls5
 ·exact nlg.keep (fun z o hz ho=>by
   refine (upd_ne (fun q=>?_)).trans ho
   rcases hz with h | h | h
   ·exact ngy (h.symm.trans q)
   ·exact (hx5 (frg z h)).1 q
   ·obtain ⟨xs,hx⟩:=h
    rw [q,hy] at hx; cases hx) fun b hb hn=>by
    obtain ⟨xs,hx⟩:=hb
    exact tp b ⟨xs,hx⟩ (by rw [hx]; intro q; cases q)
 ·show (ls :: acc :: ag :: (acs ++ ags)).Nodup
  have ls5':∀ z,H5 z=none→z≠ls:=fun z hz q=>by rw [q,ls5] at hz; cases hz
  rw [List.nodup_cons,List.nodup_cons,List.nodup_cons]
  refine iA4 (fun z=>?_) (fun z=>?_) (fun z=>?_) ?_
  ·rcases List.mem_cons.mp z with h | z
   ·exact nlsa (h ▸ List.mem_cons_self ..)
   rcases List.mem_cons.mp z with h | z
   ·exact ls5' ag hag h.symm
   rcases List.mem_append.mp z with z | z
   ·exact nlsa (List.mem_cons_of_mem _ z)
   ·exact ls5' ls (frg ls z) rfl
  ·rcases List.mem_cons.mp z with h | z
   ·rw [← h,nl5.out] at hag; cases hag
   rcases List.mem_append.mp z with z | z
   ·exact nl5.nG z
   ·have:=frg acc z; rw [nl5.out] at this; cases this
  ·rcases List.mem_append.mp z with z | z
   ·obtain ⟨o,ho⟩:=inA ag (List.mem_cons_of_mem _ z); rw [hag] at ho; cases ho
   ·exact nlg.nG z
  ·rw [List.nodup_append]
   refine ⟨nl5.nd,nlg.nd,fun u hu v hv q=>?_⟩
   subst q
   obtain ⟨o,ho⟩:=inA u (List.mem_cons_of_mem _ hu)
   rw [frg u hv] at ho; cases ho
 ·intro b hb
  rcases List.mem_cons.mp hb with rfl | hb
  ·exact hls0
  rcases List.mem_cons.mp hb with rfl | hb
  ·exact (hx0 hacc).2
  rcases List.mem_cons.mp hb with rfl | hb
  ·exact (hx5 hag).2
  rcases List.mem_append.mp hb with hb | hb
  ·exact (hx0 (frc b hb)).2
  ·exact (hx5 (frg b hb)).2
theorem Q8 (T:Txt K mg a):KCal P w K mg base "State" a.State 1 ["self","turn","cells","sides","gone"] [] (jK a):=T.h_State_init.cal T.g_State (ok_State_init T)
theorem xG {H:Hp} {p:Addr→Prop} {v:V} {bs:List (Int × Int)} {rs:List Row} (h:Rep H p v (qJ a bs rs)):∃ y dx fs l1 l2 bvs kvs,v=.ref y∧H y=some (.ins a.Work dx fs)∧fs.lookup ("belts":Str)=some (.ref l1)∧fs.lookup ("knots":Str)=some (.ref l2) ∧
  H l1=some (.lst bvs)∧H l2=some (.lst kvs)∧Bts a H p bvs bs∧Kns a H p kvs rs∧∀ f:Str,f≠"belts"→f≠"knots"→fs.lookup f=none:=by
 refine oE3 (Rep.ob' h) fun y dx fs z1_=>oA5 z1_ fun z2_ py hy g1 g2=>?_
 subst z2_
 obtain ⟨u1,e1,r1⟩:=g1 _ _ ZQ
 obtain ⟨u2,e2,r2⟩:=g1 _ _ wk_knots
 refine oE2 r1.lst' fun l1 bvs z1_=>oA4 z1_ fun z2_ _ h1 b1=>?_
 subst z2_
 refine oE2 r2.lst' fun l2 kvs z1_=>oA4 z1_ fun z2_ _ h2 b2=>?_
 subst z2_
 exact iE7 y dx fs l1 l2 bvs kvs (iA9 rfl hy e1 e2 h1 h2 (.of b1) (.of b2) (fun f n1 n2=>g2 f (wk_no n1 n2)))
def ZI (ks:List Int) (n:Int):Int:=ks.getD (n % (ks.length:Int)).toNat 0
theorem kindAt_ix {ks:List Int} (n:Int) (h:0 < ks.length):atI (iv ks) (n % (ks.length:Int))=some (.int (ZI ks n)):=by
 have h0:=Int.emod_nonneg n (show (ks.length:Int)≠0 by omega)
 have h1:=Int.emod_lt_of_pos n (show (0:Int) < ks.length by omega)
 unfold ZI
 generalize n % (ks.length:Int)=m at h0 h1 ⊢
 have hlt:m.toNat < ks.length:=by omega
 have e:m=(m.toNat:Int):=by omega
 have:=zC (jZ (List.getElem?_eq_getElem hlt))
 rw [← e] at this
 rw [this]
 simp [hlt]
theorem ZS {H:Hp} {p:Addr→Prop} {v:V} {s n:Int} (h:Rep H p v (.tup [.int s,.int n])):∃ t,v=.ref t∧H t=some (.tup [.int s,.int n]):=qW (b:=(s,n)) h
theorem Q7 {H:Hp} {p:Addr→Prop} {kvs:List V} {rs:List Row} {j:Nat} {r:Row} (hK:Kns a H p kvs rs) (h:rs[j]?=some r):∃ kv,kvs[j]?=some kv∧KnP a H p kv r:=by
 have hj:=(List.getElem?_eq_some_iff.mp h).1
 have e:kvs[j]?=some (kvs[j]'(by rw [hK.len]; exact hj)):=List.getElem?_eq_getElem _
 exact ⟨_,e,hK.g j _ r e h⟩
def Z4 (a:Ad):Sp:=fun vs H Q _=>∃ (v vwr:V) (bs:List (Int × Int)) (rs:List Row) (p q:Addr→Prop) (s:Nat) (n:Int) (r:Row),vs=[v,vwr]∧Rep H p v (qJ a bs rs)∧Rep H q vwr (.tup [.int s,.int n])∧rs[s]?=some r∧r.wd=.source∧0 < r.kinds.length∧Q (.int (ZI r.kinds n)) H
theorem ok_kind_of (T:Txt K mg a) (F:Fun K "kind_of" "kind_of" s_kind_of f fd):FnOk P w K mg base (CXr P w) 1 f fd ["work","ware"] (Z4 a):=by
 refine F.okx sc_kind_of ?_ ?_
 ·walk_at "i"
 walk_at "j"
 refine oE5 h fun v vwr bs rs p z1_=>oE4 z1_ fun q sc n r z2_=>oA7 z2_ fun z3_ hv hw hr' hs hk k=>?_
 clear h
 subst z3_
 refine oE7 (xG hv) fun y dx fs l1 l2 bvs kvs z1_=>oA9 z1_ fun z2_ hy e1 e2 h1 h2 hB hK no=>?_
 subst z2_
 obtain ⟨t,rfl,ht⟩:=ZS hw
 obtain ⟨kv,hkv,hKn⟩:=Q7 hK hr'
 refine oE6 hKn.inv fun y1 dx1 m1 m2 m3 fs1 z1_=>oA9 z1_ fun z2_ _ _ _ _ g0 _ _ z3_=>oA5 z3_ fun _ _ _ g3 _=>?_
 subst z2_
 obtain ⟨g3a,g3b⟩:=g3 hs
 walk_at "T"
 refine ⟨_,(zh (zx 2 sc_kind_of.nd (zl (zp (zl (pv 0) rfl) (zp (pv 1) zc)) rfl))  (zd (zj (zp (pv 2) (zi zB (zp (pv 1) zc) (zV zP zO (za (pv 2) zb))))))),?_⟩
 walk_at "go"
 refine ra hy T.C_Work T.N_Work_knots e2 (rd_ixT ht at0 (zq (SqL.of h2) (zC hkv) ?_))
 refine iE5 y1 (clsA a r.wd) dx1 fs1 _ (iA6 rfl g0 (CT T _) (by rw [hs]; exact T.N_Source_kinds) g3a ?_)
 walk_at "go"
 refine rd_ixT ht rfl ?_
 walk_at "go"
 refine ⟨_,.inl ⟨_,SqL.of g3b,rfl⟩,?_⟩
 rw [zD]
 walk_at "go"
 exact ⟨by omega,zq (SqL.of g3b) (kindAt_ix n hk) k⟩
theorem c_kind_of (T:Txt K mg a):Cal P w K mg base "kind_of" 1 ["work","ware"] [] (Z4 a):=T.h_kind_of.cal (ok_kind_of T)
def qR (r:Row):List Int:=List.replicate (max r.ins.length r.outs.length) 0
theorem rep1 {α:Type} (n:Nat) (x:α):(List.replicate n [x]).flatten=List.replicate n x:=by
 induction n with
 | zero=>rfl
 | succ n ih=>rw [List.replicate_succ,List.flatten_cons,ih]; rfl
theorem JP (n:Nat) (x:Int):List.replicate n (V.int x)=iv (List.replicate n x):=by simp [iv]
theorem max_if (m n:Nat):(if (n:Int) > (m:Int) then (n:Int) else (m:Int))=((max m n:Nat):Int):=by
 by_cases h:(n:Int) > (m:Int)
 ·rw [if_pos h]; omega
 ·rw [if_neg h]; omega
theorem xM {r:Row} (h:r.ok):r.ins.length≤4∧r.outs.length≤4:=by
 obtain ⟨wd,ins,outs,pc,ks⟩:=r
 cases wd
 ·obtain ⟨h1,⟨o,h2⟩,_⟩:=h; simp only at h1 h2; subst h1 h2; simp
 ·obtain ⟨⟨o,h1⟩,h2,_⟩:=h; simp only at h1 h2; subst h1 h2; simp
 ·obtain ⟨⟨o,h1⟩,_,h2⟩:=h; simp only at h1 h2; subst h1; exact ⟨by simp,h2⟩
 ·obtain ⟨⟨o,h1⟩,_,h2⟩:=h; simp only at h1 h2; subst h1; exact ⟨by simp,h2⟩
 ·obtain ⟨⟨o,h1⟩,h2,_⟩:=h; simp only at h1 h2; subst h1; exact ⟨by simp,by show outs.length≤4; omega⟩
 ·obtain ⟨⟨o,h1⟩,_,h2⟩:=h; simp only at h1 h2; subst h1; exact ⟨h2,by simp⟩
def vP (a:Ad) (H H':Hp) (v:V) (st:PSt):Prop:=∃ y n,v=.ref y∧StO a H' y n st∧H y=none∧H n.dx=none∧∀ b∈n.all,H b=none
theorem Qo (T:Txt K mg a) {H:Hp} {st:PSt} {vc vs' vg:V} {Q:Addr→Hp→Prop} {E:XK} {p:Addr→Prop} (rc:Rep H p vc (.lst ((zu st.cells).map D.lst))) (rs:Rep H p vs' (.ints st.sides)) (rg:Rep H p vg (.lst ((qO st.gone).map D.lst))) (lc:st.cells.length≤100) (lg:st.gone.length≤100)
  (k:∀ y H',Same H H'→vP a H H' (.ref y) st→Q y H'):∀ (x dx:Addr),H x=none→H dx=none→dx≠x→jK a [.ref x,.int st.turn,vc,vs',vg] (upd (upd H dx (.own x)) x (.ins a.State dx [])) (fun v H2=>v=.non∧Q x H2) E:=by
 intro y dy hy hdy hne
 have kp:∀ b o,p b→H b=some o→b≠y∧upd (upd H dy (.own y)) y (.ins a.State dy []) b=some o:=fun b o _ hb=>⟨ne_of_none hb hy,z9 hy hdy hb⟩
 refine iE7 y dy vc vs' vg st (fun b=>b≠y) (iA9 rfl upd_same (fun _ h=>h) (rc.keep kp) (rs.keep kp) (rg.keep kp) lc lg (fun H' n en o so fr=>⟨rfl,?_⟩))
 exact k _ _ (Own.of_new hy hdy o) (iE2 y n (iA5 rfl so hy (by rw [en]; exact hdy) (fun b hb=>zE (fr b hb))))
def wU (a:Ad):Sp:=fun vs H Q _=>∃ (v:V) (r:Row) (p:Addr→Prop),vs=[v]∧KnP a H p v r∧r.ins.length≤100∧r.outs.length≤100∧∀ q H',Same H H'→H q=none→H' q=some (.lst (iv (qR r)))→Q (.ref q) H'
theorem ok_no_counts (T:Txt K mg a) (F:Fun K "no_counts" "no_counts" s_no_counts f fd):FnOk P w K mg base (CXr P w) 1 f fd ["knot"] (wU a):=by
 refine F.okx sc_no_counts ?_ ?_
 ·walk_at "i"
 walk_at "j"
 refine oE3 h fun v r p z1_=>oA5 z1_ fun z2_ hKn l1 l2 k=>?_
 clear h
 subst z2_
 refine oE6 hKn.inv fun y1 dx1 m1 m2 m3 fs1 z1_=>oA9 z1_ fun z2_ _ _ _ _ g0 f1 f2 z3_=>oA5 z3_ fun _ g1 g2 g3 _=>?_
 subst z2_
 walk_at "T"
 refine ⟨_,(zd (zj (zi QO (zF (za zc zb)) (zV (call_max2 rfl) bo_max (za (zV zP zO (za (zl (pv 0) rfl) zb)) (za (zV zP zO (za (zl (pv 0) rfl) zb)) zb)))))),?_⟩
 walk_at "go"
 intro q hq
 have sq:=ze (o:=.lst [V.int 0]) hq
 refine ⟨m_max,m_len,?_⟩
 refine ra (sq _ _ g0) (CT T _) (NI T _) f1 ⟨_,.inl ⟨_,SqL.of (sq _ _ g1),rfl⟩,?_⟩
 refine ⟨m_len,?_⟩
 refine ra (sq _ _ g0) (CT T _) (NO T _) f2 ⟨_,.inl ⟨_,SqL.of (sq _ _ g2),rfl⟩,?_⟩
 rw [zD,zD]
 refine iE2 _ _ ⟨rfl,?_⟩
 rw [max_if]
 refine iE3 q _ _ (iA7 rfl rfl upd_same (by omega) (by omega) ?_ (fun q2 hq2=>?_))
 ·refine xL ?_
  simp
  omega
 ·rw [rep1,Int.toNat_natCast,JP]
  exact k q2 _ (sq.trans (ze hq2)) (zJ sq hq2) upd_same
theorem c_no_counts (T:Txt K mg a):Cal P w K mg base "no_counts" 1 ["knot"] [] (wU a):=T.h_no_counts.cal (ok_no_counts T)
def qc (bs:List (Int × Int)) (rs:List Row):PSt:=⟨0,bs.map fun b=>List.replicate b.1.toNat none,List.replicate rs.length 0,rs.map qR⟩
def QY (a:Ad):Sp:=fun vs H Q _=>∃ (v:V) (bs:List (Int × Int)) (rs:List Row) (p:Addr→Prop),vs=[v]∧Rep H p v (qJ a bs rs)∧bs.length≤24∧rs.length≤24∧(∀ b∈bs,zA b.1 b.2)∧(∀ r∈rs,r.ok)∧∀ v' H',Same H H'→vP a H H' v' (qc bs rs)→Q v' H'
theorem ok_empty_state (T:Txt K mg a) (F:Fun K "empty_state" "empty_state" s_empty_state f fd):FnOk P w K mg base (CXr P w) 3 f fd ["work"] (QY a):=by
 refine F.okx sc_empty_state ?_ ?_
 ·walk_at "i"
 walk_at "j"
 refine oE4 h fun v bs rs p z1_=>oA7 z1_ fun z2_ hv lb lr bo ro k=>?_
 clear h
 subst z2_
 refine oE7 (xG hv) fun y dx fs l1 l2 bvs kvs z1_=>oA9 z1_ fun z2_ hy e1 e2 h1 h2 hB hK no=>?_
 subst z2_
 walk_at "T"
 refine ⟨_,(zg (Qd (i:=1) sc_empty_state.nd rfl (Or.inl rfl) (vars:=["belt"]) (caps:=[]) (N:=["belt"]) (ON:=["work","cells","sides"]) (osc:=zf s_empty_state) rfl rfl (by first | decide +kernel | kernel_rfl) rfl rfl (ql (zl (pv 0) rfl)) (fun s H fp pins=>(pg_n 0 (show (["belt"]:List Str).Nodup from by decide +kernel))) (fun s H fp pins=>qg) (fun s H fp pins=>(zi QO (zF (za zz zb)) (zl (pv 0) rfl))))  (zg (zx 2 sc_empty_state.nd (zi QO (zF (za zc zb)) (zV zP zO (za (zl (pv 0) rfl) zb))))  (zd (zj (qa ⟨rfl,rfl,rfl⟩ hr (za zc (za (pv 1) (za (pv 2) (za (jU (vars:=["knot"]) (caps:=[]) (N:=["knot"]) (ON:=["work","cells","sides"]) (osc:=zf s_empty_state) rfl rfl (by first | decide +kernel | kernel_rfl) rfl rfl (ql (zl (pv 0) rfl)) (fun s H fp pins=>(pg_n 0 (show (["knot"]:List Str).Nodup from by decide +kernel))) (fun s H fp pins=>qg) (fun s H fp pins=>(QM hr (za (pv 0) zb)))) zb))))))))),?_⟩
 walk_at "go"
 walk_at "lc"
 walk_at "go"
 refine ra hy T.C_Work T.N_Work_belts e1 ⟨l1,rfl,.inl ⟨⟨_,SqL.of h1⟩,fun _ _ _ _ acc hacc=>?_⟩⟩
 let M1_:Nat→St→Hp→Prop:=fun i σ H'=>∃ (v0:Option V) (us:List V),σ=[v0]∧Same H H'∧H' acc=some (.lst us)∧Reps H' (Off [acc]) us ((bs.take i).map fun b=>D.lst (List.replicate b.1.toNat .non))
 refine qP (K:=K) (a:=l1) (xs:=bvs) M1_ (iE2 _ ([]) (iA4 rfl (ze hacc) upd_same (by rw [List.take_zero]; exact .nil))) (fun i σ H' _ h=>by obtain ⟨_,_,_,s,_⟩:=h; exact SqL.of (s _ _ h1)) ?_ ?_
 ·intro i x σ H2 hi zz_
  refine oE2 zz_ fun v0 us z1_=>oA4 z1_ fun z2_ s2 ha ru=>?_
  clear zz_
  subst z2_
  obtain ⟨b,hb',hBt⟩:=hB.at hi
  refine oE3 hBt.inv fun y1 dx1 fs1 z1_=>oA5 z1_ fun z2_ _ g0 f1 f2=>?_
  subst z2_
  have hil:=(List.getElem?_eq_some_iff.mp hb').1
  have bk:=bo b (List.mem_of_getElem? hb')
  walk_at "go"
  intro q hq
  have sq:=ze (o:=.lst [V.non]) hq
  refine ra (sq _ _ (s2 _ _ g0)) T.C_Belt T.N_Belt_room f1 ?_
  have b1:=bk.1
  have b2:=bk.2.1
  refine iE3 q _ _ (iA7 rfl rfl upd_same (by omega) (by omega) (xL (by simp; omega)) (fun q2 hq2=>?_))
  rw [rep1]
  have s3:=sq.trans (ze (o:=.lst (List.replicate b.1.toNat V.non)) hq2)
  have h3:upd (upd H2 q (.lst [V.non])) q2 (.lst (List.replicate b.1.toNat V.non)) q2=some (.lst (List.replicate b.1.toNat V.non)):=upd_same
  have n2:H2 q2=none:=zJ sq hq2
  generalize upd (upd H2 q (.lst [V.non])) q2 (.lst (List.replicate b.1.toNat V.non))=H3 at s3 h3 ⊢
  have f5:Fr [acc] H3 (upd H3 acc (.lst (us ++ [.ref q2]))):=qo (by simp)
  have nq:=JL ha n2
  refine ⟨_,iA3 (s3 _ _ ha) (zm (by rw [ru.len,List.length_map,List.length_take]; omega)) (iE2 _ (us ++ [.ref q2]) (iA4 rfl (((s2.trans s3).fr.trans f5).same (by intro m hm; rw [List.mem_singleton.mp hm]; exact hacc)) upd_same ?_))⟩
  rw [List.take_add_one,hb',List.map_append]
  refine ((ru.same s3).fr f5).append (.one ?_)
  refine Reps.mk' ⟨by simp,fun j u d a1 a2=>?_⟩ nq (f5 _ _ nq h3)
  have a1:=List.mem_of_getElem? a1
  have a2:=List.mem_of_getElem? a2
  rw [(List.mem_replicate.mp a1).2,(List.mem_replicate.mp a2).2]
  exact .non
 intro σ H2 zz_
 refine oE2 zz_ fun v0 us z1_=>oA4 z1_ fun z2_ s2 ha ru=>?_
 clear zz_
 subst z2_
 rw [hB.len,List.take_length] at ru
 walk_at "go"
 intro q hq
 have sq:=ze (o:=.lst [V.int 0]) hq
 walk_at "go"
 refine ra (sq _ _ (s2 _ _ hy)) T.C_Work T.N_Work_knots e2 ⟨_,.inl ⟨_,SqL.of (sq _ _ (s2 _ _ h2)),rfl⟩,?_⟩
 rw [hK.len]
 refine iE3 q _ _ (iA7 rfl rfl upd_same (by omega) (by omega) (xL (by simp; omega)) (fun ls hls=>?_))
 rw [rep1,Int.toNat_natCast,JP]
 have s3:Same H (upd (upd H2 q (.lst [V.int 0])) ls (.lst (iv (List.replicate rs.length 0)))):=(s2.trans sq).trans (ze hls)
 have ha3:=upd_keep (o:=.lst (iv (List.replicate rs.length 0))) (sq _ _ ha) hls
 have ru3:=(ru.same sq).same (ze (o:=.lst (iv (List.replicate rs.length 0))) hls)
 have h3:upd (upd H2 q (.lst [V.int 0])) ls (.lst (iv (List.replicate rs.length 0))) ls=some (.lst (iv (List.replicate rs.length 0))):=upd_same
 generalize upd (upd H2 q (.lst [V.int 0])) ls (.lst (iv (List.replicate rs.length 0)))=H3 at s3 ha3 ru3 h3 ⊢
 walk_at "go"
 refine iE4 a.State _ _ _ ⟨(Q8 T).mono,?_⟩
 walk_at "lc"
 walk_at "go"
 refine ra (s3 _ _ hy) T.C_Work T.N_Work_knots e2 ⟨l2,rfl,.inl ⟨⟨_,SqL.of (s3 _ _ h2)⟩,fun _ _ _ _ ac2 hac2=>?_⟩⟩
 let M2_:Nat→St→Hp→Prop:=fun i σ H'=>∃ (v0:Option V) (us:List V),σ=[v0]∧Same H3 H'∧H' ac2=some (.lst us)∧Reps H' (Off [ac2]) us ((rs.take i).map fun r=>D.ints (qR r))
 refine qP (K:=K) (a:=l2) (xs:=kvs) M2_ (iE2 _ ([]) (iA4 rfl (ze hac2) upd_same (by rw [List.take_zero]; exact .nil))) (fun i σ H' _ h=>by obtain ⟨_,_,_,s,_⟩:=h; exact SqL.of (s _ _ (s3 _ _ h2))) ?_ ?_
 ·intro i x σ H4 hi zz_
  refine oE2 zz_ fun v0 us z1_=>oA4 z1_ fun z2_ s4 ha4 ru4=>?_
  clear zz_
  subst z2_
  obtain ⟨r,hr',hKn⟩:=hK.at hi
  have hil:=(List.getElem?_eq_some_iff.mp hr').1
  have rl:=xM (ro r (List.mem_of_getElem? hr'))
  walk_at "go"
  refine uc (c_no_counts T).mono (iE3 x r p (iA5 rfl (hKn.keep (fun b o pb hb=>⟨pb,s4 _ _ (s3 _ _ hb)⟩)) (by omega) (by omega) (fun q2 H5 s5 n2 h5=>?_)))
  have f5:Fr [ac2] H5 (upd H5 ac2 (.lst (us ++ [.ref q2]))):=qo (by simp)
  have nq:=JL ha4 n2
  refine ⟨_,iA3 (s5 _ _ ha4) (zm (by rw [ru4.len,List.length_map,List.length_take]; omega)) (iE2 _ (us ++ [.ref q2]) (iA4 rfl (((s4.trans s5).fr.trans f5).same (by intro m hm; rw [List.mem_singleton.mp hm]; exact hac2)) upd_same ?_))⟩
  rw [List.take_add_one,hr',List.map_append]
  exact ((ru4.same s5).fr f5).append (.one (z8 nq (f5 _ _ nq h5)))
 intro σ H4 zz_
 refine oE2 zz_ fun v0' us4 z1_=>oA4 z1_ fun z2_ s4 ha4 ru4=>?_
 clear zz_
 subst z2_
 rw [hK.len,List.take_length] at ru4
 have s34:=s3.trans s4
 refine Qo T (st:=qc bs rs) (p:=Off []) ?_ ?_ ?_ (by simp [qc]; omega) (by simp [qc]; omega) (fun v' H5 s5 so=>k _ _ (s34.trans s5) ?_)
 ·have:=(ru3.same s4).all
  rw [show (bs.map fun b=>D.lst (List.replicate b.1.toNat .non))=(zu (qc bs rs).cells).map D.lst by simp [qc,zu,zN,Function.comp_def]] at this
  exact this.mk' (fun z=>nomatch z) (s4 _ _ ha3)
 ·exact z8 (fun z=>nomatch z) (s4 _ _ h3)
 ·have:=ru4.all
  rw [show (rs.map fun r=>D.ints (qR r))=(qO (qc bs rs).gone).map D.lst by simp [qc,qO,Function.comp_def]] at this
  exact this.mk' (fun z=>nomatch z) ha4
 ·refine oE2 so fun y5 n5 z1_=>oA5 z1_ fun e5 o5 f1 f2 f3=>?_
  clear so
  exact iE2 y5 n5 (iA5 e5 o5 (zJ s34 f1) (zJ s34 f2) (fun b hb=>zJ s34 (f3 b hb)))
theorem c_empty_state (T:Txt K mg a):Cal P w K mg base "empty_state" 3 ["work"] [] (QY a):=T.h_empty_state.cal (ok_empty_state T)
theorem cnts_joiner {r:Row} (h:r.ok) (hw:r.wd=.joiner):qR r=List.replicate r.ins.length 0:=by
 obtain ⟨wd,ins,outs,pc,ks⟩:=r
 simp only at hw
 subst hw
 obtain ⟨⟨o,h1⟩,h2,_⟩:=h
 simp only at h1 h2
 subst h1
 unfold qR
 rw [Nat.max_eq_left (by simp; omega)]
theorem cnts_other {r:Row} (h:r.ok) (hw:r.wd≠.joiner):qR r=List.replicate (max 1 r.outs.length) 0:=by
 obtain ⟨wd,ins,outs,pc,ks⟩:=r
 unfold qR
 cases wd
 ·obtain ⟨h1,⟨o,h2⟩,_⟩:=h; simp only at h1 h2; subst h1 h2; rfl
 ·obtain ⟨⟨o,h1⟩,h2,_⟩:=h; simp only at h1 h2; subst h1 h2; rfl
 ·obtain ⟨⟨o,h1⟩,h2,_⟩:=h; simp only at h1 h2; subst h1; rfl
 ·obtain ⟨⟨o,h1⟩,h2,_⟩:=h; simp only at h1 h2; subst h1; rfl
 ·obtain ⟨⟨o,h1⟩,h2,_⟩:=h; simp only at h1 h2; subst h1; rfl
 ·exact absurd rfl hw
theorem x6 {r:Row} (h:r.ok):1≤(qR r).length∧(qR r).length≤4:=by
 have:=xM h
 by_cases hw:r.wd=.joiner
 ·rw [cnts_joiner h hw,List.length_replicate]
  obtain ⟨wd,ins,outs,pc,ks⟩:=r
  simp only at hw
  subst hw
  have:=h.2.1
  simp only at this
  constructor
  ·show 1≤ins.length; omega
  ·exact h.2.2
 ·rw [cnts_other h hw,List.length_replicate]
  omega
def wj (rs:List Row) (x:Ware):Prop:=∀ s n,x=some (s,n)→∃ (j:Nat) (r:Row),s=j∧rs[j]?=some r∧r.wd=.source∧0≤n
def QR (rs:List Row) (gss:List (List Int)):Prop:=gss.length=rs.length∧∀ (i:Nat) r g,rs[i]?=some r→gss[i]?=some g→g.length=(qR r).length∧∀ n∈g,0≤n
def qS (bs:List (Int × Int)) (rs:List Row) (css:List (List Ware)):Prop:=css.length=bs.length∧∀ (i:Nat) b c,bs[i]?=some b→css[i]?=some c→c.length=b.1.toNat∧∀ x∈c,wj rs x
theorem gone_set {rs:List Row} {gss:List (List Int)} (h:QR rs gss) {j:Nat} {g g':List Int} (e:gss[j]?=some g) (l:g'.length=g.length) (n:∀ x∈g',0≤x):QR rs (gss.set j g'):=by
 refine ⟨by rw [List.length_set]; exact h.1,fun i r x h1 h2=>?_⟩
 by_cases hj:i=j
 ·subst hj
  rw [List.getElem?_set_self (List.getElem?_eq_some_iff.mp e).1] at h2
  cases h2
  exact ⟨by rw [l]; exact (h.2 i r g h1 e).1,n⟩
 ·rw [List.getElem?_set_ne (Ne.symm hj)] at h2
  exact h.2 i r x h1 h2
def jQ (r:Row) (s:Int):Prop:=0≤s∧(r.wd=.parter→s < r.outs.length)∧(r.wd=.joiner→s < r.ins.length)∧(r.wd≠.parter→r.wd≠.joiner→s=0)
def Zy (rs:List Row) (sds:List Int):Prop:=sds.length=rs.length∧∀ (i:Nat) r s,rs[i]?=some r→sds[i]?=some s→jQ r s
def zw (cs:List (List Ware)) (b:Int):List Ware:=cs.getD b.toNat []
def endW (c:List Ware):Ware:=c.getLastD none
def begW (c:List Ware):Ware:=c.headD none
def Qu (rs:List Row):Ware→Option Int:=Option.map fun x=>ZI ((rs[x.1.toNat]?.map Row.kinds).getD []) x.2
def zR (rs:List Row) (cs:List (List Ware)) (r:Row):List (Option Int):=r.ins.map fun b=>Qu rs (endW (zw cs b))
def qj (cs:List (List Ware)) (r:Row):List Bool:=r.outs.map fun b=>decide (begW (zw cs b)=none)
theorem Q6 {α:Type} {xs:List α} {d:α} (h:xs≠[]):atI xs (-1)=some (xs.getLastD d):=by
 have hl:0 < xs.length:=List.length_pos_iff.mpr h
 unfold atI ixN
 rw [if_neg (by decide),if_pos (by omega)]
 have e:((-1:Int) + xs.length).toNat=xs.length - 1:=by omega
 simp only [Option.bind_some,e]
 rw [List.getElem?_eq_getElem (by omega),List.getLastD_eq_getLast?,List.getLast?_eq_getElem?,List.getElem?_eq_getElem (by omega)]
 rfl
theorem Qp {c:List Ware}:(c.map zN).getLastD .non=zN (endW c):=by
 unfold endW
 rw [List.getLastD_eq_getLast?,List.getLastD_eq_getLast?,List.getLast?_map]
 cases c.getLast? <;> rfl
structure stWf (bs:List (Int × Int)) (rs:List Row) (st:PSt):Prop where
 co:qS bs rs st.cells
 so:Zy rs st.sides
 go:QR rs st.gone
theorem jd {bs:List (Int × Int)} {rs:List Row} {cs:List (List Ware)} (h:qS bs rs cs) (bo:∀ b∈bs,zA b.1 b.2) {b:Int} (hb:b∈rgI bs.length):∃ (i:Nat),b=i∧i < cs.length∧cs[i]?=some (zw cs b)∧zw cs b≠[]∧∀ x∈zw cs b,wj rs x:=by
 obtain ⟨h0,h1⟩:=mem_rgI hb
 obtain ⟨i,rfl⟩:∃ i:Nat,b=i:=⟨b.toNat,by omega⟩
 have hi:i < cs.length:=by rw [h.1]; omega
 have e:cs[i]?=some (zw cs i):=by
  unfold zw
  rw [Int.toNat_natCast,List.getElem?_eq_getElem hi]
  simp [hi]
 have hib:i < bs.length:=by omega
 obtain ⟨q1,q2⟩:=h.2 i bs[i] _ (List.getElem?_eq_getElem hib) e
 refine ⟨i,iA5 rfl hi e ?_ q2⟩
 intro z
 rw [z] at q1
 have:=(bo _ (List.getElem_mem hib)).1
 simp at q1
 omega
theorem xf {bs:List (Int × Int)} {rs:List Row} {k:Nat} {r:Row} {b:Int} (w:zL bs rs) (h:rs[k]?=some r) (hb:b∈r.ins):b∈rgI bs.length :=
 w.2.2.mem_iff.mp (List.mem_flatMap.mpr ⟨r,List.mem_of_getElem? h,hb⟩)
theorem xT {bs:List (Int × Int)} {rs:List Row} {k:Nat} {r:Row} {b:Int} (w:zL bs rs) (h:rs[k]?=some r) (hb:b∈r.outs):b∈rgI bs.length :=
 w.2.1.mem_iff.mp (List.mem_flatMap.mpr ⟨r,List.mem_of_getElem? h,hb⟩)
theorem Jj {c:List Ware} (h:c≠[]):endW c∈c:=by
 unfold endW
 rw [List.getLastD_eq_getLast?,List.getLast?_eq_some_getLast h]
 exact List.getLast_mem h
theorem state_inv {H:Hp} {p:Addr→Prop} {v:V} {st:PSt} (h:Rep H p v (xB a st)):∃ y dx fs lc ls lg ucs ugs,v=.ref y∧H y=some (.ins a.State dx fs)∧fs.lookup ("turn":Str)=some (.int st.turn)∧fs.lookup ("cells":Str)=some (.ref lc)∧fs.lookup ("sides":Str)=some (.ref ls)∧fs.lookup ("gone":Str)=some (.ref lg) ∧
  H lc=some (.lst ucs)∧Reps H p ucs ((zu st.cells).map D.lst)∧H ls=some (.lst (iv st.sides))∧H lg=some (.lst ugs)∧Reps H p ugs ((qO st.gone).map D.lst):=by
 refine oE3 (Rep.ob' h) fun y dx fs z1_=>oA5 z1_ fun z2_ py hy g1 g2=>?_
 subst z2_
 obtain ⟨u1,e1,r1⟩:=g1 _ _ (ZW st)
 obtain ⟨u2,e2,r2⟩:=g1 _ _ (vW st)
 obtain ⟨u3,e3,r3⟩:=g1 _ _ (vV st)
 obtain ⟨u4,e4,r4⟩:=g1 _ _ (ZX st)
 cases r1
 refine oE2 r2.lst' fun lc ucs z1_=>oA4 z1_ fun z2_ _ hc rc=>?_
 subst z2_
 refine oE1 r3.ints' fun ls z1_=>oA3 z1_ fun z2_ _ hs=>?_
 subst z2_
 refine oE2 r4.lst' fun lg ugs z1_=>oA4 z1_ fun z2_ _ hg rg=>?_
 subst z2_
 exact iE8 y dx fs lc ls lg ucs ugs (iA9 rfl hy e1 e2 e3 e4 hc rc (iA3 hs hg rg))
theorem inner_at {H:Hp} {p:Addr→Prop} {us:List V} {dss:List (List D)} (h:Reps H p us (dss.map D.lst)) {i:Nat} {ds:List D} (e:dss[i]?=some ds):∃ l vs,us[i]?=some (.ref l)∧H l=some (.lst vs)∧Reps H p vs ds:=by
 obtain ⟨v,h1,h2⟩:=h.of (i:=i) (d:=.lst ds) (by rw [List.getElem?_map,e]; rfl)
 refine oE2 h2.lst' fun l vs z1_=>oA4 z1_ fun z2_ _ h3 h4=>?_
 subst z2_
 exact iE2 l vs (iA3 h1 h3 h4)
def Zw (a:Ad):Sp:=fun vs H Q _=>∃ (vw vs' vk:V) (bs:List (Int × Int)) (rs:List Row) (st:PSt) (k:Nat) (r:Row) (p q:Addr→Prop),vs=[vw,vs',vk]∧Rep H p vw (qJ a bs rs)∧Rep H q vs' (xB a st)∧KnP a H p vk r∧rs[k]?=some r∧zL bs rs∧(∀ b∈bs,zA b.1 b.2)∧(∀ r∈rs,r.ok)∧qS bs rs st.cells ∧
 ∀ l H',Same H H'→H l=none→H' l=some (.lst ((zR rs st.cells r).map hdV))→Q (.ref l) H'
theorem i_spHeads {a:Ad} {vs:List V} {H:Hp} {Q:VK} {E:XK} (vw vs' vk:V) (bs:List (Int × Int)) (rs:List Row) (st:PSt) (k:Nat) (r:Row) (p q:Addr→Prop) (q0:vs=[vw,vs',vk]) (q1:Rep H p vw (qJ a bs rs)) (q2:Rep H q vs' (xB a st)) (q3:KnP a H p vk r) (q4:rs[k]?=some r) (q5:zL bs rs) (q6:(∀ b∈bs,zA b.1 b.2)) (q7:(∀ r∈rs,r.ok)) (q8:qS bs rs st.cells) (q9:∀ l H',Same H H'→H l=none→H' l=some (.lst ((zR rs st.cells r).map hdV))→Q (.ref l) H'):Zw a vs H Q E:=⟨vw,vs',vk,bs,rs,st,k,r,p,q,q0,q1,q2,q3,q4,q5,q6,q7,q8,q9⟩
theorem ok_heads_of (T:Txt K mg a) (F:Fun K "heads_of" "heads_of" s_heads_of f fd):FnOk P w K mg base (CXr P w) 2 f fd ["work","state","knot"] (Zw a):=by
 refine F.okx sc_heads_of ?_ ?_
 ·walk_at "i"
 walk_at "j"
 refine oE8 h fun vw vs' vk bs rs st kn r z1_=>oE2 z1_ fun p q z2_=>oA6 z2_ fun z3_ hw hs hk hr' z4_=>oA5 z4_ fun wok bo ro co k=>?_
 clear h
 subst z3_
 refine oE8 (state_inv hs) fun y dx fs lc ls lg ucs ugs z1_=>oA9 z1_ fun z2_ hy e1 e2 e3 e4 hc rc z3_=>oA3 z3_ fun hsd hg rg=>?_
 subst z2_
 refine oE6 hk.inv fun y1 dx1 m1 m2 m3 fs1 z1_=>oA9 z1_ fun z2_ _ _ _ _ g0 f1 f2 z3_=>oA5 z3_ fun _ g1 g2 _ _=>?_
 subst z2_
 have rl:=xM (ro r (List.mem_of_getElem? hr'))
 walk_at "T"
 refine ⟨_,(zg (Qd (i:=3) sc_heads_of.nd rfl (Or.inl rfl) (vars:=["belt"]) (caps:=[1]) (N:=["belt","state"]) (ON:=["work","state","knot","ends"]) (osc:=zf s_heads_of) rfl rfl (by first | decide +kernel | kernel_rfl) rfl rfl (ql (zl (pv 2) rfl)) (fun s H fp pins=>(pg_n 0 (show (["belt","state"]:List Str).Nodup from by decide +kernel))) (fun s H fp pins=>qg) (fun s H fp pins=>(zp (zp (zl (pv 1) rfl) (pv 0)) (xm jm zc))))  (zd (zj (jU (vars:=["ware"]) (caps:=[0]) (N:=["ware","work"]) (ON:=["work","state","knot","ends"]) (osc:=zf s_heads_of) rfl rfl (by first | decide +kernel | kernel_rfl) rfl rfl (ql (pv 3)) (fun s H fp pins=>(pg_n 0 (show (["ware","work"]:List Str).Nodup from by decide +kernel))) (fun s H fp pins=>qg) (fun s H fp pins=>(jV (zn qw (pv 0) zz (zo _)) zz (QM hr (za (pv 1) (za (pv 0) zb))))))))),?_⟩
 walk_at "go"
 walk_at "lc"
 walk_at "go"
 refine ra g0 (CT T _) (NI T _) f1 ⟨m1,rfl,.inl ⟨⟨_,SqL.of g1⟩,fun _ _ _ _ acc hacc=>?_⟩⟩
 let M1_:Nat→St→Hp→Prop:=fun i σ H'=>∃ (v0:Option V) (us:List V),σ=[v0,some (.ref y)]∧Same H H'∧H' acc=some (.lst us)∧Reps H q us ((r.ins.take i).map fun b=>zN (endW (zw st.cells b)))
 refine qP (K:=K) (a:=m1) (xs:=iv r.ins) M1_ (iE2 _ ([]) (iA4 rfl (ze hacc) upd_same (by rw [List.take_zero]; exact .nil))) (fun i σ H' _ h=>by obtain ⟨_,_,_,s,_⟩:=h; exact SqL.of (s _ _ g1)) ?_ ?_
 ·intro i x σ H2 hi zz_
  refine oE2 zz_ fun v0 us z1_=>oA4 z1_ fun z2_ s2 ha ru=>?_
  clear zz_
  subst z2_
  obtain ⟨b,hb,rfl⟩:=Qv hi
  have hil:=(List.getElem?_eq_some_iff.mp hb).1
  refine oE1 (jd co bo (xf wok hr' (List.mem_of_getElem? hb))) fun j z1_=>oA5 z1_ fun z2_ hj ej nej _=>?_
  subst z2_
  obtain ⟨li,vi,hu,hli,ri⟩:=inner_at rc (i:=j) (ds:=(zw st.cells j).map zN) (by rw [zu,List.getElem?_map,ej]; rfl)
  obtain ⟨ve,he,re⟩:=Xf ri (Q6 (d:=.non) (by simpa using nej))
  rw [Qp] at re
  walk_at "go"
  refine ra (s2 _ _ hy) T.C_State T.N_State_cells e2 (zq (SqL.of (s2 _ _ hc)) (zC hu) ?_)
  walk_at "go"
  refine zq (SqL.of (s2 _ _ hli)) he ?_
  refine ⟨_,iA3 ha (zm (by rw [ru.len,List.length_map,List.length_take]; omega)) (iE2 _ (us ++ [ve]) (iA4 rfl (fun b o hb=>by rw [upd_ne (ne_of_none hb hacc)]; exact s2 b o hb) upd_same ?_))⟩
  rw [List.take_add_one,hb,List.map_append]
  exact ru.append (.one re)
 intro σ H2 zz_
 refine oE2 zz_ fun v0 us z1_=>oA4 z1_ fun z2_ s2 ha ru=>?_
 clear zz_
 subst z2_
 rw [zD,List.take_length] at ru
 have lu:us.length=r.ins.length:=by rw [ru.len,List.length_map]
 walk_at "go"
 walk_at "lc"
 walk_at "go"
 refine ⟨acc,rfl,.inl ⟨⟨_,SqL.of ha⟩,fun _ _ _ _ ac2 hac2=>?_⟩⟩
 let M2_:Nat→St→Hp→Prop:=fun i σ H'=>∃ (v0:Option V),σ=[v0,some vw]∧Same H2 H'∧H' ac2=some (.lst ((((zR rs st.cells r).take i).map hdV)))
 refine qP (K:=K) (a:=acc) (xs:=us) M2_ ⟨_,iA3 rfl (ze hac2) (by rw [List.take_zero]; exact upd_same)⟩ (fun i σ H' _ h=>by obtain ⟨_,_,s,_⟩:=h; exact SqL.of (s _ _ ha)) ?_ ?_
 ·intro i x σ H3 hi zz_
  refine oE1 zz_ fun v0 z1_=>oA3 z1_ fun z2_ s3 ha3=>?_
  clear zz_
  subst z2_
  obtain ⟨d,hd,rx⟩:=ru.at hi
  rw [List.getElem?_map,Option.map_eq_some_iff] at hd
  obtain ⟨b,hb,rfl⟩:=hd
  have hil:=(List.getElem?_eq_some_iff.mp hb).1
  refine oE1 (jd co bo (xf wok hr' (List.mem_of_getElem? hb))) fun j z1_=>oA5 z1_ fun z2_ hj ej nej wk=>?_
  subst z2_
  have hwk:=wk _ (Jj nej)
  have hh:(zR rs st.cells r)[i]?=some (Qu rs (endW (zw st.cells j))):=by rw [zR,List.getElem?_map,hb]; rfl
  have s23:=s2.trans s3
  have fin:∀ u:V,u=hdV (Qu rs (endW (zw st.cells j)))→∃ ys,H3 ac2=some (.lst ys)∧ys.length < sizeLine∧∃ (v0:Option V),([some x,some vw]:St)=[v0,some vw]∧Same H2 (upd H3 ac2 (.lst (ys ++ [u])))∧upd H3 ac2 (.lst (ys ++ [u])) ac2=some (.lst ((((zR rs st.cells r).take (i + 1)).map hdV))):=by
   rintro u rfl
   refine ⟨_,iA3 ha3 (zm (by rw [List.length_map,List.length_take]; omega)) ⟨_,iA3 rfl (fun b o hb=>by rw [upd_ne (ne_of_none hb hac2)]; exact s3 b o hb) ?_⟩⟩
   rw [upd_same,List.take_add_one,hh,List.map_append]
   rfl
  walk_at "go"
  cases hE:endW (zw st.cells j) with
  | none =>
   rw [hE] at rx fin
   cases rx
   rw [if_pos rfl]
   exact fin _ rfl
  | some wr =>
   obtain ⟨sr,nr⟩:=wr
   rw [hE] at rx fin hwk
   refine oE2 (hwk _ _ rfl) fun j0 r0 z1_=>oA4 z1_ fun z2_ hr0 hw0 _=>?_
   subst z2_
   have ok0:=ro r0 (List.mem_of_getElem? hr0)
   have kp:0 < r0.kinds.length:=by
    obtain ⟨wd,ins,outs,pc,ks⟩:=r0
    simp only at hw0
    subst hw0
    exact ok0.2.2.2.2.1
   obtain ⟨tw,rfl,htw⟩:=ZS rx
   rw [if_neg (by intro z; cases z)]
   refine uc (c_kind_of T).mono (iE5 vw _ bs rs p (iE4 q j0 nr r0 (iA7 rfl (qU hw s23) (qU rx s23) hr0 hw0 kp ?_)))
   exact fin _ (by simp [Qu,hr0,hdV])
 ·intro σ H3 zz_
  refine oE1 zz_ fun v0 z1_=>oA3 z1_ fun z2_ s3 ha3=>?_
  clear zz_
  subst z2_
  rw [lu,List.take_of_length_le (by simp [zR])] at ha3
  walk_at "go"
  exact k _ _ (s2.trans s3) (zJ s2 hac2) ha3
theorem c_heads_of (T:Txt K mg a):Cal P w K mg base "heads_of" 2 ["work","state","knot"] [] (Zw a):=T.h_heads_of.cal (ok_heads_of T)
def Z7 (K:PySem.W.Frag):Sp:=fun vs H Q _=>∃ (l:Addr) (ns:List Int) (o:Option Nat),vs=[.ref l,optV o]∧H l=some (.lst (iv ns))∧(∀ j,o=some j→j < ns.length)∧Q (hdV (o.bind fun j=>ns[j]?)) H
theorem ok_belt_at (T:Txt K mg a) (F:Fun K "belt_at" "belt_at" s_belt_at f fd):FnOk P w K mg base (CXr P w) 1 f fd ["belts","place"] (Z7 K):=by
 refine F.okx sc_belt_at ?_ ?_
 ·walk_at "i"
 walk_at "j"
 refine oE3 h fun l ns o z1_=>oA4 z1_ fun z2_ hl ho k=>?_
 clear h
 subst z2_
 walk_at "T"
 refine ⟨_,(zd (zj (jV (zn qw (pv 1) zz (zo _)) zz (zp (pv 0) (pv 1))))),?_⟩
 walk_at "go"
 cases o with
 | none=>exact ite2 (fun _=>k) (fun b=>absurd rfl b)
 | some j =>
  have hj:=ho j rfl
  refine ite2 (fun b=>by cases b) (fun _=>?_)
  refine zq (SqL.of hl) (zC (jZ (List.getElem?_eq_getElem hj))) ?_
  have e:hdV ((some j).bind fun j=>ns[j]?)=.int ns[j]:=by simp [hj,hdV]
  rw [e] at k
  exact k
theorem Zo (T:Txt K mg a):Cal P w K mg base "belt_at" 1 ["belts","place"] [] (Z7 K):=T.h_belt_at.cal (ok_belt_at T)
theorem kitJ (T:Txt K mg a) (wd:Wd):PySem.W.kitOne K (.ref (clsA a wd)) (.ref a.Joiner)=some (decide (wd=.joiner)):=by
 cases wd
 ·exact T.k1_Source_Joiner
 ·exact T.k1_Drain_Joiner
 ·exact T.k1_Parter_Joiner
 ·exact T.k1_FirstParter_Joiner
 ·exact T.k1_Sieve_Joiner
 ·exact T.k1_Joiner_Joiner
def cpOf (r:Row) (ch:Option Nat × Option Nat × Nat):Nat:=if r.wd=.joiner then ch.1.getD 0 else ch.2.1.getD 0
def wo (a:Ad):Sp:=fun vs H Q _=>∃ (vk:V) (t:Addr) (r:Row) (ch:Option Nat × Option Nat × Nat) (p:Addr→Prop),vs=[vk,.ref t]∧KnP a H p vk r∧H t=some (.tup (chV ch))∧(r.wd=.joiner→∃ j,ch.1=some j)∧Q (.int (cpOf r ch)) H
theorem i_spCounted {a:Ad} {vs:List V} {H:Hp} {Q:VK} {E:XK} (vk:V) (t:Addr) (r:Row) (ch:Option Nat × Option Nat × Nat) (p:Addr→Prop) (q0:vs=[vk,.ref t]) (q1:KnP a H p vk r) (q2:H t=some (.tup (chV ch))) (q3:(r.wd=.joiner→∃ j,ch.1=some j)) (q4:Q (.int (cpOf r ch)) H):wo a vs H Q E:=⟨vk,t,r,ch,p,q0,q1,q2,q3,q4⟩
theorem ok_counted_place (T:Txt K mg a) (F:Fun K "counted_place" "counted_place" s_counted_place f fd):FnOk P w K mg base (CXr P w) 1 f fd ["knot","chosen"] (wo a):=by
 refine F.okx sc_counted_place ?_ ?_
 ·walk_at "i"
 walk_at "j"
 refine oE5 h fun vk t r ch p z1_=>oA5 z1_ fun z2_ hk ht hj k=>?_
 clear h
 subst z2_
 refine oE6 hk.inv fun y1 dx1 m1 m2 m3 fs1 z1_=>oA9 z1_ fun z2_ _ _ _ _ g0 f1 f2 z3_=>oA5 z3_ fun _ g1 g2 _ _=>?_
 subst z2_
 walk_at "T"
 refine ⟨_,(zh (zy (qi (zV xE qe (za (pv 0) (za xn zb))) (fun _=>rfl))  (zd (zj (zp (pv 1) zc)))  zk)  (zd (zj (jV (zn qw (zp (pv 1) zc) zz (zo _)) zc (zp (pv 1) zc))))),?_⟩
 walk_at "go"
 refine iE2 (.ref a.Joiner) _ (iA3 T.g_Joiner rfl (iE4 _ _ _ _ (iA4 rfl ((WT T r.wd).ty (CT T r.wd) g0) (.inl ⟨_,rfl,kitJ T r.wd⟩) ?_)))
 walk_at "go"
 unfold cpOf at k
 refine ite2 (fun b=>?_) (fun b=>?_)
 ·rw [if_pos b] at k
  obtain ⟨j,ej⟩:=hj b
  walk_at "go"
  refine rd_ixT ht at0 ?_
  rw [ej] at k ⊢
  exact k
 ·rw [if_neg b] at k
  walk_at "go"
  refine rd_ixT ht (show atI (chV ch) 1=some (optV ch.2.1) from rfl) ?_
  walk_at "go"
  cases e:ch.2.1 with
  | none =>
   rw [e] at k
   exact ite2 (fun _=>k) (fun b=>absurd rfl b)
  | some j =>
   rw [e] at k
   refine ite2 (fun b=>by cases b) (fun _=>?_)
   refine rd_ixT ht (show atI (chV ch) 1=some (optV ch.2.1) from rfl) ?_
   rw [e]
   exact k
theorem c_counted_place (T:Txt K mg a):Cal P w K mg base "counted_place" 1 ["knot","chosen"] [] (wo a):=T.h_counted_place.cal (ok_counted_place T)
section
variable {H:Hp} {y:Addr} {n:SN} {st:PSt}
theorem StO.nds (h:StO a H y n st):n.ls ∉ n.lc :: n.lg :: (n.acs ++ n.ags)∧n.lc ∉ n.lg :: (n.acs ++ n.ags)∧n.lg ∉ n.acs ++ n.ags∧∀ x∈n.acs,x ∉ n.ags:=by
 have nd:=h.nd
 unfold SN.all at nd
 rw [List.nodup_cons,List.nodup_cons,List.nodup_cons,List.nodup_append] at nd
 exact ⟨nd.1,nd.2.1,nd.2.2.1,fun x hx hy=>nd.2.2.2.2.2 x hx x hy rfl⟩
theorem jx {x:Addr} {us vs:List V} (hx:H x=some (.lst us)) {b:Addr} (h:TupP H b):TupP (upd H x (.lst vs)) b:=by
 obtain ⟨xs,hb⟩:=h
 exact ⟨xs,by rw [upd_ne (fun z=>by rw [z,hx] at hb; cases hb)]; exact hb⟩
theorem StO.putC {i:Nat} {b:Addr} {c':List Ware} {vs:List V} (h:StO a H y n st) (e:n.acs[i]?=some b) (r:Reps H (TupP H) vs (c'.map zN)):StO a (upd H b (.lst vs)) y n { st with cells:=st.cells.set i c' }:=by
 have hb:=List.mem_of_getElem? e
 obtain ⟨us,hu⟩:=h.hc.isl (List.mem_cons_of_mem _ hb)
 obtain ⟨n1,n2,n3,n4⟩:=h.nds
 have k:∀ c o,c≠b→H c=some o→upd H b (.lst vs) c=some o:=fun c o nc hc=>by rw [upd_ne nc]; exact hc
 have ntb:¬ TupP H b:=fun ⟨xs,hx⟩=>by rw [hu] at hx; cases hx
 refine ⟨k _ _ (fun z=>by rw [← z,h.hy] at hu; cases hu) h.hy,?_,k _ _ (fun z=>n1 (by rw [z]; simp [hb])) h.hs,h.hg.tup fun c o hz hc=>k c o (fun z=>?_) hc,h.nd⟩
 ·have:=h.hc.put (vs:=vs) (ys:=c'.map zN) e ntb r
  rw [show zu (st.cells.set i c')=(zu st.cells).set i (c'.map zN) by simp [zu,List.map_set]]
  exact this.keep (fun _ _ _ hc=>hc) fun c hc _=>jx hu hc
 ·subst z
  rcases hz with rfl | hz | hz
  ·exact n3 (List.mem_append_left _ hb)
  ·exact n4 c hb hz
  ·exact ntb hz
theorem StO.putG {i:Nat} {b:Addr} {g':List Int} (h:StO a H y n st) (e:n.ags[i]?=some b):StO a (upd H b (.lst (iv g'))) y n { st with gone:=st.gone.set i g' }:=by
 have hb:=List.mem_of_getElem? e
 obtain ⟨us,hu⟩:=h.hg.isl (List.mem_cons_of_mem _ hb)
 obtain ⟨n1,n2,n3,n4⟩:=h.nds
 have k:∀ c o,c≠b→H c=some o→upd H b (.lst (iv g')) c=some o:=fun c o nc hc=>by rw [upd_ne nc]; exact hc
 have ntb:¬ TupP H b:=fun ⟨xs,hx⟩=>by rw [hu] at hx; cases hx
 refine ⟨k _ _ (fun z=>by rw [← z,h.hy] at hu; cases hu) h.hy,h.hc.tup fun c o hz hc=>k c o (fun z=>?_) hc,k _ _ (fun z=>n1 (by rw [z]; simp [hb])) h.hs,?_,h.nd⟩
 ·subst z
  rcases hz with rfl | hz | hz
  ·exact n2 (List.mem_cons_of_mem _ (List.mem_append_right _ hb))
  ·exact n4 c hz hb
  ·exact ntb hz
 ·have:=h.hg.put (vs:=iv g') (ys:=g'.map D.int) e ntb reps_ints
  rw [show qO (st.gone.set i g')=(qO st.gone).set i (g'.map D.int) by simp [qO,List.map_set]]
  exact this.keep (fun _ _ _ hc=>hc) fun c hc _=>jx hu hc
theorem StO.putS {s':List Int} (h:StO a H y n st):StO a (upd H n.ls (.lst (iv s'))) y n { st with sides:=s' }:=by
 obtain ⟨n1,n2,n3,n4⟩:=h.nds
 have k:∀ c o,c≠n.ls→H c=some o→upd H n.ls (.lst (iv s')) c=some o:=fun c o nc hc=>by rw [upd_ne nc]; exact hc
 have kt:∀ c,TupP H c→c≠n.ls:=fun c ⟨xs,hx⟩ z=>by rw [z,h.hs] at hx; cases hx
 refine ⟨k _ _ (fun z=>by have:=h.hy; rw [z,h.hs] at this; cases this) h.hy,h.hc.tup fun c o hz hc=>k c o (fun z=>?_) hc,upd_same,h.hg.tup fun c o hz hc=>k c o (fun z=>?_) hc,h.nd⟩
 ·rcases hz with rfl | hz | hz
  ·exact n1 (by rw [← z]; simp)
  ·exact n1 (by rw [← z]; simp [hz])
  ·exact kt c hz z
 ·rcases hz with rfl | hz | hz
  ·exact n1 (by rw [← z]; simp)
  ·exact n1 (by rw [← z]; simp [hz])
  ·exact kt c hz z
theorem StO.cell {i:Nat} {c:List Ware} (h:StO a H y n st) (e:st.cells[i]?=some c):∃ b vs,n.acs[i]?=some b∧H b=some (.lst vs)∧Reps H (TupP H) vs (c.map zN):=h.hc.at (by rw [zu,List.getElem?_map,e]; rfl)
theorem StO.goneL {i:Nat} {g:List Int} (h:StO a H y n st) (e:st.gone[i]?=some g):∃ b,n.ags[i]?=some b∧H b=some (.lst (iv g)):=by
 obtain ⟨b,vs,h1,h2,h3⟩:=h.hg.at (i:=i) (xs:=g.map D.int) (by rw [qO,List.getElem?_map,e]; rfl)
 rw [wM h3] at h2
 exact ⟨b,h1,h2⟩
theorem sff_l {t:Int} {lc ls lg:Addr}:(sff t lc ls lg).lookup ("cells":Str)=some (.ref lc)∧(sff t lc ls lg).lookup ("sides":Str)=some (.ref ls)∧(sff t lc ls lg).lookup ("gone":Str)=some (.ref lg)∧(sff t lc ls lg).lookup ("turn":Str)=some (.int t):=by
 unfold sff
 refine iA4 ((zH (by decide +kernel)).trans qx) ((zH (by decide +kernel)).trans ((zH (by decide +kernel)).trans qx)) ((zH (by decide +kernel)).trans ((zH (by decide +kernel)).trans ((zH (by decide +kernel)).trans qx))) qx
theorem we {i:Nat} {b:Addr} (e:n.acs[i]?=some b):(n.acs.map V.ref)[i]?=some (.ref b):=by rw [List.getElem?_map,e]; rfl
theorem Jx {i:Nat} {b:Addr} (e:n.ags[i]?=some b):(n.ags.map V.ref)[i]?=some (.ref b):=by rw [List.getElem?_map,e]; rfl
theorem ZO {b:Addr} {i:Nat} (e:n.acs[i]?=some b):b∈y :: n.all:=by simp [SN.all,List.mem_of_getElem? e]
theorem ags_all {b:Addr} {i:Nat} (e:n.ags[i]?=some b):b∈y :: n.all:=by simp [SN.all,List.mem_of_getElem? e]
end
def jn (c:List Ware):List Ware:=c.set (c.length - 1) none
def zM (st:PSt) (k:Nat):Option Int→Ware × PSt
 | none=>(some ((k:Int),(st.gone.getD k []).headD 0),st)
 | some b=>(endW (zw st.cells b),{ st with cells:=st.cells.set b.toNat (jn (zw st.cells b)) })
theorem Reps.set {H:Hp} {p:Addr→Prop} {vs:List V} {ds:List D} {v:V} {d:D} (h:Reps H p vs ds) (i:Nat) (r:Rep H p v d):Reps H p (vs.set i v) (ds.set i d):=by
 refine ⟨by rw [List.length_set,List.length_set,h.len],fun j u e h1 h2=>?_⟩
 by_cases hj:j=i
 ·subst hj
  have hl:j < vs.length:=by have:=(List.getElem?_eq_some_iff.mp h1).1; rw [List.length_set] at this; exact this
  rw [List.getElem?_set_self hl] at h1
  rw [List.getElem?_set_self (by rw [← h.len]; exact hl)] at h2
  cases h1
  cases h2
  exact r
 ·rw [List.getElem?_set_ne (Ne.symm hj)] at h1 h2
  exact h.g j u e h1 h2
def Zv (a:Ad):Sp:=fun vs H Q _=>∃ (y:Addr) (n:SN) (st:PSt) (k:Nat) (fb:Option Int) (g0:Int) (gs:List Int),vs=[.ref y,.int k,hdV fb]∧StO a H y n st∧st.gone[k]?=some (g0 :: gs)∧(∀ b,fb=some b→∃ i:Nat,b=i∧st.cells[i]?=some (zw st.cells b)∧zw st.cells b≠[]) ∧
 ∀ v H',Fr (y :: n.all) H H'→StO a H' y n (zM st k fb).2→Rep H' (TupP H') v (zN (zM st k fb).1)→Q v H'
theorem i_spTaken {a:Ad} {vs:List V} {H:Hp} {Q:VK} {E:XK} (y:Addr) (n:SN) (st:PSt) (k:Nat) (fb:Option Int) (g0:Int) (gs:List Int) (q0:vs=[.ref y,.int k,hdV fb]) (q1:StO a H y n st) (q2:st.gone[k]?=some (g0 :: gs)) (q3:(∀ b,fb=some b→∃ i:Nat,b=i∧st.cells[i]?=some (zw st.cells b)∧zw st.cells b≠[])) (q4:∀ v H',Fr (y :: n.all) H H'→StO a H' y n (zM st k fb).2→Rep H' (TupP H') v (zN (zM st k fb).1)→Q v H'):Zv a vs H Q E:=⟨y,n,st,k,fb,g0,gs,q0,q1,q2,q3,q4⟩
theorem ok_taken_ware (T:Txt K mg a) (F:Fun K "taken_ware" "taken_ware" s_taken_ware f fd):FnOk P w K mg base (CXr P w) 1 f fd ["state","number","from_belt"] (Zv a):=by
 refine F.okx sc_taken_ware ?_ ?_
 ·walk_at "i"
 walk_at "j"
 refine oE7 h fun y n st kn fb g0 gs z1_=>oA5 z1_ fun z2_ so hg hf k=>?_
 clear h
 subst z2_
 refine oA4 (sff_l (t:=st.turn) (lc:=n.lc) (ls:=n.ls) (lg:=n.lg)) fun lk1 lk2 lk3 lk4=>?_
 walk_at "T"
 refine ⟨_,(zh (zy (zn qw (pv 2) zz (zo _))  (zd (zj (qM (za (pv 1) (za (zp (zp (zl (pv 0) rfl) (pv 1)) zc) zb)))))  zk)  (zh (zx 3 sc_taken_ware.nd (zp (zp (zl (pv 0) rfl) (pv 2)) (xm jm zc)))  (zh (vd zz (vm (zp (zl (pv 0) rfl) (pv 2)) (xm jm zc) jq))  (zd (zj (pv 3)))))),?_⟩
 walk_at "go"
 cases fb with
 | none =>
  refine ite2 (fun _=>?_) (fun b=>absurd rfl b)
  obtain ⟨bG,hbG,hgG⟩:=so.goneL hg
  walk_at "go"
  refine ra so.hy T.C_State T.N_State_gone lk3 (zq (SqL.of so.hg.out) (zC (Jx hbG)) (zq (SqL.of hgG) at0 ?_))
  walk_at "go"
  intro t ht
  refine k _ _ (QS ht) (so.same (ze ht)) ?_
  have e:(st.gone.getD kn []).headD 0=g0:=by simp [List.getD,hg]
  show Rep _ _ _ (D.tup [.int kn,.int ((st.gone.getD kn []).headD 0)])
  rw [e]
  exact Reps.mkT (vs:=[.int kn,.int g0]) (.cons .int (.cons .int .nil)) ⟨_,upd_same⟩ upd_same
 | some b =>
  refine oE1 (hf b rfl) fun i z1_=>oA3 z1_ fun z2_ hc nc=>?_
  subst z2_
  refine oE2 (so.cell hc) fun bC vs z1_=>oA3 z1_ fun hbC hvC rvC=>?_
  have lv:vs.length=(zw st.cells i).length:=by rw [rvC.len,List.length_map]
  have lp:0 < vs.length:=by rw [lv]; exact List.length_pos_iff.mpr nc
  obtain ⟨ve,he,re⟩:=Xf rvC (Q6 (d:=.non) (by simpa using nc))
  rw [Qp] at re
  refine ite2 (fun b=>by cases b) (fun _=>?_)
  walk_at "go"
  refine ra so.hy T.C_State T.N_State_cells lk1 (zq (SqL.of so.hc.out) (zC (we hbC)) ?_)
  walk_at "go"
  refine zq (SqL.of hvC) he ?_
  walk_at "go"
  refine ra so.hy T.C_State T.N_State_cells lk1 (zq (SqL.of so.hc.out) (zC (we hbC)) ?_)
  walk_at "go"
  refine j7 (j:=vs.length - 1) hvC ?_ ?_
  ·unfold ixN
   rw [if_neg (by decide),if_pos (by omega)]
   congr 1
   omega
  have e2:(jn (zw st.cells i)).map zN=((zw st.cells i).map zN).set (vs.length - 1) .non:=by
   unfold jn
   rw [List.map_set,lv]
   rfl
  have r2:Reps H (TupP H) (vs.set (vs.length - 1) .non) ((jn (zw st.cells i)).map zN):=by rw [e2]; exact Reps.set rvC _ .non
  refine k _ _ (qo (ZO hbC)) ?_ ?_
  ·have:=so.putC hbC r2
   simpa [zM] using this
  ·refine Rep.keep (fun c o pc hc=>⟨jx hvC pc,?_⟩) re
   obtain ⟨xs,hx⟩:=pc
   rw [upd_ne (fun z=>by rw [z,hvC] at hx; cases hx)]; exact hc
theorem c_taken_ware (T:Txt K mg a):Cal P w K mg base "taken_ware" 1 ["state","number","from_belt"] [] (Zv a):=T.h_taken_ware.cal (ok_taken_ware T)
structure Move where
 k:Nat
 ware:Ware
 fr:Option Int
 to:Option Int
def dOpt:Option Int→D
 | none=>.non
 | some b=>.int b
theorem Q1 {H:Hp} {p:Addr→Prop} (o:Option Int):Rep H p (hdV o) (dOpt o):=by
 cases o
 ·exact .non
 ·exact .int
def vH (m:Move):D:=.tup [.int m.k,zN m.ware,dOpt m.fr,dOpt m.to]
def JX:Option Move→D
 | none=>.non
 | some m=>vH m
def jS (st:PSt) (x:Ware):Option Int→PSt
 | none=>st
 | some b=>{ st with cells:=st.cells.set b.toNat ((zw st.cells b).set 0 x) }
def bump (g:List Int) (j:Nat):List Int:=g.set j (g.getD j 0 + 1)
def fbOf (r:Row) (ch:Option Nat × Option Nat × Nat):Option Int:=ch.1.bind fun j=>r.ins[j]?
def tbOf (r:Row) (ch:Option Nat × Option Nat × Nat):Option Int:=ch.2.1.bind fun j=>r.outs[j]?
def movedF (r:Row) (st:PSt) (k:Nat) (ch:Option Nat × Option Nat × Nat):PSt:=jS (zM st k (fbOf r ch)).2 (zM st k (fbOf r ch)).1 (tbOf r ch)
def qI (r:Row) (st:PSt) (k:Nat) (ch:Option Nat × Option Nat × Nat):PSt × Move :=
 ({ movedF r st k ch with sides:=(movedF r st k ch).sides.set k ch.2.2,gone:=(movedF r st k ch).gone.set k (bump ((movedF r st k ch).gone.getD k []) (cpOf r ch)) },⟨k,(zM st k (fbOf r ch)).1,fbOf r ch,tbOf r ch⟩)
def actF (rs:List Row) (st:PSt) (k:Nat):PSt × Option Move:=match rs[k]? with
 | none=>(st,none)
 | some r=>match zW r (zR rs st.cells r) (qj st.cells r) st.turn (st.sides.getD k 0).toNat with
  | none=>(st,none)
  | some ch=>((qI r st k ch).1,some (qI r st k ch).2)
theorem wx {bs:List (Int × Int)} {rs:List Row} {cs:List (List Ware)} (h:qS bs rs cs) {i:Nat} {c c':List Ware} (e:cs[i]?=some c) (l:c'.length=c.length) (k:∀ x∈c',wj rs x):qS bs rs (cs.set i c'):=by
 refine ⟨by rw [List.length_set]; exact h.1,fun j b d h1 h2=>?_⟩
 by_cases hj:j=i
 ·subst hj
  rw [List.getElem?_set_self (List.getElem?_eq_some_iff.mp e).1] at h2
  cases h2
  exact ⟨by rw [l]; exact (h.2 j b c h1 e).1,k⟩
 ·rw [List.getElem?_set_ne (Ne.symm hj)] at h2
  exact h.2 j b d h1 h2
theorem wg {rs:List Row}:wj rs none:=fun _ _ z=>nomatch z
theorem jY {α:Type} {xs:List α} {i:Nat} {x y:α} (h:y∈xs.set i x):y∈xs∨y=x:=List.mem_or_eq_of_mem_set h
theorem xh {r:Row} {hs:List (Option Int)} {bs:List Bool} {t:Int} {side:Nat} {ch:Option Nat × Option Nat × Nat} (ok:r.ok) (hl:hs.length=r.ins.length) (bl:bs.length=r.outs.length) (sd:jQ r side) (h:zW r hs bs t side=some ch) :
  (∀ j,ch.1=some j→j < r.ins.length)∧(∀ j,ch.2.1=some j→j < r.outs.length)∧(r.wd=.joiner→∃ j,ch.1=some j)∧(ch.1=none→r.wd=.source)∧jQ r ch.2.2∧cpOf r ch < (qR r).length:=by
 obtain ⟨wd,ins,outs,pace,kinds⟩:=r
 have cp:=x6 ok
 unfold zW at h
 cases wd with
 | source =>
  simp only at h
  obtain ⟨h1,⟨o,h2⟩,_⟩:=ok
  simp only at h1 h2
  subst h1 h2
  split at h
  ·cases h
   exact ⟨(fun j z=>nomatch z),fun j z=>by cases z; simp,(fun z=>nomatch z),fun _=>rfl,sd,by simp [cpOf]; omega⟩
  ·cases h
 | drain =>
  simp only at h
  obtain ⟨⟨o,h1⟩,h2,_⟩:=ok
  simp only at h1 h2
  subst h1 h2
  split at h
  ·cases h
  ·cases h
   exact ⟨fun j z=>by cases z; simp,(fun j z=>nomatch z),(fun z=>nomatch z),(fun z=>nomatch z),sd,by simp [cpOf]; omega⟩
 | parter =>
  simp only at h
  obtain ⟨⟨o,h1⟩,h2,h3⟩:=ok
  simp only at h1 h2 h3 bl
  subst h1
  split at h
  ·cases h
  ·rw [Option.map_eq_some_iff] at h
   obtain ⟨q,hq,rfl⟩:=h
   have hlt:=jv hq
   refine ⟨fun j z=>by cases z; simp,fun j z=>by cases z; show q < outs.length; omega,(fun z=>nomatch z),(fun z=>nomatch z),⟨Int.natCast_nonneg _,fun _=>?_,(fun z=>nomatch z),fun z=>absurd rfl z⟩,?_⟩
   ·have:=Nat.mod_lt (q + 1) (show 0 < bs.length by omega)
    show (((q + 1) % bs.length:Nat):Int) < outs.length
    omega
   ·simp only [cpOf,Option.getD_some]
    rw [if_neg (by decide)]
    show q < (List.replicate (max 1 outs.length) 0).length
    rw [List.length_replicate]
    omega
 | first =>
  simp only at h
  obtain ⟨⟨o,h1⟩,h2,h3⟩:=ok
  simp only at h1 h2 h3 bl
  subst h1
  split at h
  ·cases h
  ·rw [Option.map_eq_some_iff] at h
   obtain ⟨q,hq,rfl⟩:=h
   have hlt:=jv hq
   refine ⟨fun j z=>by cases z; simp,fun j z=>by cases z; show q < outs.length; omega,(fun z=>nomatch z),(fun z=>nomatch z),sd,?_⟩
   simp only [cpOf,Option.getD_some]
   rw [if_neg (by decide)]
   show q < (List.replicate (max 1 outs.length) 0).length
   rw [List.length_replicate]
   omega
 | sieve =>
  simp only at h
  obtain ⟨⟨o,h1⟩,h2,_⟩:=ok
  simp only at h1 h2 bl
  subst h1
  split at h
  ·cases h
  ·generalize (if hs.getD 0 none=some (kinds.headD 0) then 0 else 1)=q at h
   have q2:q=q:=rfl
   split at h
   ·rename_i hb
    cases h
    have hlt:q < outs.length:=by
     rcases Nat.lt_or_ge q bs.length with z | z
     ·omega
     ·rw [List.getD_eq_getElem?_getD,List.getElem?_eq_none z] at hb
      cases hb
    refine ⟨fun j z=>by cases z; simp,fun j z=>by cases z; exact hlt,(fun z=>nomatch z),(fun z=>nomatch z),sd,?_⟩
    simp only [cpOf,Option.getD_some]
    rw [if_neg (by decide)]
    show q < (List.replicate (max 1 outs.length) 0).length
    rw [List.length_replicate]
    omega
   ·cases h
 | joiner =>
  simp only at h
  obtain ⟨⟨o,h1⟩,h2,h3⟩:=ok
  simp only at h1 h2 h3 hl
  subst h1
  split at h
  ·rw [Option.map_eq_some_iff] at h
   obtain ⟨q,hq,rfl⟩:=h
   have hlt:=jv hq
   rw [List.length_map] at hlt
   refine ⟨fun j z=>by cases z; show q < ins.length; omega,fun j z=>by cases z; simp,fun _=>⟨q,rfl⟩,(fun z=>nomatch z),⟨Int.natCast_nonneg _,(fun z=>nomatch z),fun _=>?_,fun _ z=>absurd rfl z⟩,?_⟩
   ·have:=Nat.mod_lt (q + 1) (show 0 < hs.length by omega)
    show (((q + 1) % hs.length:Nat):Int) < ins.length
    omega
   ·simp only [cpOf,Option.getD_some]
    rw [if_pos trivial]
    show q < (List.replicate (max ins.length 1) 0).length
    rw [List.length_replicate]
    omega
  ·cases h
theorem wQ {bs:List (Int × Int)} {rs:List Row} {st:PSt} {k:Nat} {r:Row} {fb:Option Int} (wf:stWf bs rs st) (wok:zL bs rs) (bo:∀ b∈bs,zA b.1 b.2) (ro:∀ r∈rs,r.ok) (hr:rs[k]?=some r) (hf:∀ b,fb=some b→b∈rgI bs.length) (hn:fb=none→r.wd=.source) :
  stWf bs rs (zM st k fb).2∧wj rs (zM st k fb).1:=by
 cases fb with
 | none =>
  refine ⟨wf,fun s n z=>?_⟩
  have z:((k:Int),(st.gone.getD k []).headD 0)=(s,n):=Option.some.inj z
  cases z
  refine iE2 k r (iA4 rfl hr (hn rfl) ?_)
  have hk:=(List.getElem?_eq_some_iff.mp hr).1
  have hg:st.gone[k]?=some (st.gone.getD k []):=by
   rw [List.getD_eq_getElem?_getD,List.getElem?_eq_getElem (by rw [wf.go.1]; exact hk)]
   rfl
  obtain ⟨q1,q2⟩:=wf.go.2 k r _ hr hg
  have cp:=x6 (ro r (List.mem_of_getElem? hr))
  cases e:st.gone.getD k [] with
  | nil=>rw [e] at q1; simp at q1; omega
  | cons x xs=>exact q2 x (by rw [e]; simp)
 | some b =>
  refine oE1 (jd wf.co bo (hf b rfl)) fun i z1_=>oA5 z1_ fun z2_ hi ei ne wk=>?_
  subst z2_
  refine ⟨⟨?_,wf.so,wf.go⟩,wk _ (Jj ne)⟩
  show qS bs rs (st.cells.set _ _)
  rw [Int.toNat_natCast]
  refine wx wf.co ei (by simp [jn]) fun x hx=>?_
  rcases jY hx with h | h
  ·exact wk x h
  ·rw [h]; exact wg
theorem Qg {bs:List (Int × Int)} {rs:List Row} {st:PSt} {x:Ware} {tb:Option Int} (wf:stWf bs rs st) (bo:∀ b∈bs,zA b.1 b.2) (hf:∀ b,tb=some b→b∈rgI bs.length) (hx:wj rs x):stWf bs rs (jS st x tb):=by
 cases tb with
 | none=>exact wf
 | some b =>
  refine oE1 (jd wf.co bo (hf b rfl)) fun i z1_=>oA5 z1_ fun z2_ hi ei ne wk=>?_
  subst z2_
  refine ⟨?_,wf.so,wf.go⟩
  show qS bs rs (st.cells.set _ _)
  rw [Int.toNat_natCast]
  refine wx wf.co ei (by simp) fun z hz=>?_
  rcases jY hz with h | h
  ·exact wk z h
  ·rw [h]; exact hx
theorem side_set {rs:List Row} {sds:List Int} {k:Nat} {r:Row} {s:Int} (h:Zy rs sds) (hr:rs[k]?=some r) (hs:jQ r s):Zy rs (sds.set k s):=by
 refine ⟨by rw [List.length_set]; exact h.1,fun j r2 s2 h1 h2=>?_⟩
 by_cases hj:j=k
 ·subst hj
  rw [List.getElem?_set_self (by rw [h.1]; exact (List.getElem?_eq_some_iff.mp h1).1)] at h2
  cases h2
  rw [hr] at h1
  cases h1
  exact hs
 ·rw [List.getElem?_set_ne (Ne.symm hj)] at h2
  exact h.2 j r2 s2 h1 h2
theorem qE {α:Type} {xs:List α} {k:Nat} {d:α} (h:k < xs.length):xs[k]?=some (xs.getD k d):=by
 rw [List.getD_eq_getElem?_getD,List.getElem?_eq_getElem h]; rfl
theorem Jw {g:List Int} {j:Nat} (h:∀ x∈g,0≤x):(bump g j).length=g.length∧∀ x∈bump g j,0≤x:=by
 refine ⟨by simp [bump],fun x hx=>?_⟩
 rcases jY hx with z | z
 ·exact h x z
 ·rw [z]
  have:0≤g.getD j 0:=by
   rw [List.getD_eq_getElem?_getD]
   cases e:g[j]? with
   | none=>simp
   | some v=>exact h v (List.mem_of_getElem? e)
  omega
theorem actF_wf {bs:List (Int × Int)} {rs:List Row} {st:PSt} {k:Nat} (wf:stWf bs rs st) (wok:zL bs rs) (bo:∀ b∈bs,zA b.1 b.2) (ro:∀ r∈rs,r.ok):stWf bs rs (actF rs st k).1:=by
 unfold actF
 cases hr:rs[k]? with
 | none=>exact wf
 | some r =>
  simp only
  have hk:=(List.getElem?_eq_some_iff.mp hr).1
  have ok:=ro r (List.mem_of_getElem? hr)
  have hsd:=wf.so.2 k r _ hr (qE (d:=0) (by rw [wf.so.1]; exact hk))
  have hsd':jQ r ((st.sides.getD k 0).toNat:Int):=by rw [Int.toNat_of_nonneg hsd.1]; exact hsd
  cases hc:zW r (zR rs st.cells r) (qj st.cells r) st.turn (st.sides.getD k 0).toNat with
  | none=>exact wf
  | some ch =>
   refine oA6 (xh ok (by simp [zR]) (by simp [qj]) hsd' hc) fun c1 c2 c3 c4 c5 c6=>?_
   have hfb:∀ b,fbOf r ch=some b→b∈rgI bs.length:=fun b hb=>by
    unfold fbOf at hb
    obtain ⟨j,hj1,hj2⟩:=Option.bind_eq_some_iff.mp hb
    exact xf wok hr (List.mem_of_getElem? hj2)
   have htb:∀ b,tbOf r ch=some b→b∈rgI bs.length:=fun b hb=>by
    unfold tbOf at hb
    obtain ⟨j,hj1,hj2⟩:=Option.bind_eq_some_iff.mp hb
    exact xT wok hr (List.mem_of_getElem? hj2)
   have hfn:fbOf r ch=none→r.wd=.source:=fun hb=>by
    cases e:ch.1 with
    | none=>exact c4 e
    | some j =>
     unfold fbOf at hb
     rw [e] at hb
     simp at hb
     have:=c1 j e
     omega
   obtain ⟨w1,w2⟩:=wQ wf wok bo ro hr hfb hfn
   have w3:=Qg w1 bo htb w2
   refine ⟨w3.co,side_set w3.so hr c5,?_⟩
   have hg:=qE (xs:=(movedF r st k ch).gone) (k:=k) (d:=[]) (by rw [show (movedF r st k ch).gone.length=rs.length from w3.go.1]; exact hk)
   obtain ⟨q1,q2⟩:=w3.go.2 k r _ hr hg
   exact gone_set w3.go hg (Jw q2).1 (Jw q2).2
theorem KnP.no {H:Hp} {p:Addr→Prop} {y C dx:Addr} {fs:List (Str × V)} {r:Row} {f:Str} (h:KnP a H p (.ref y) r) (hy:H y=some (.ins C dx fs)) (h1:f≠"ins") (h2:f≠"outs") (h3:f≠"pace") (h4:f≠"kinds") (h5:f≠"kind"):fs.lookup f=none:=by
 obtain ⟨y',dx',fs',e,_,hy',_,g⟩:=Rep.ob' h
 cases e
 rw [hy] at hy'
 cases hy'
 exact g f (JN h1 h2 h3 h4 h5)
theorem StO.offT {H:Hp} {y:Addr} {n:SN} {st:PSt} (h:StO a H y n st) {b:Addr} (t:TupP H b):b ∉ y :: n.all:=by
 obtain ⟨xs,hx⟩:=t
 intro hb
 have no:∀ us,H b≠some (.lst us):=fun us e=>by rw [hx] at e; cases e
 unfold SN.all at hb
 rcases List.mem_cons.mp hb with rfl | hb
 ·rw [h.hy] at hx; cases hx
 rcases List.mem_cons.mp hb with rfl | hb
 ·exact no _ h.hs
 rcases List.mem_cons.mp hb with rfl | hb
 ·exact no _ h.hc.out
 rcases List.mem_cons.mp hb with rfl | hb
 ·exact no _ h.hg.out
 rcases List.mem_append.mp hb with hb | hb
 ·obtain ⟨us,e⟩:=h.hc.isl (List.mem_cons_of_mem _ hb)
  exact no _ e
 ·obtain ⟨us,e⟩:=h.hg.isl (List.mem_cons_of_mem _ hb)
  exact no _ e
theorem StO.repT {H H':Hp} {y:Addr} {n:SN} {st:PSt} (h:StO a H y n st) (s:Fr (y :: n.all) H H') {v:V} {d:D} (r:Rep H (TupP H) v d):Rep H' (TupP H') v d :=
 Rep.keep (fun b o hp hb=>⟨by obtain ⟨xs,hx⟩:=hp; exact ⟨xs,s _ _ (h.offT ⟨xs,hx⟩) hx⟩,s _ _ (h.offT hp) hb⟩) r
theorem JO (ns:List Int) (k:Nat) (x:Int):(iv ns).set k (.int x)=iv (ns.set k x):=by simp [iv]
theorem rep_tsame {H H':Hp} {v:V} {d:D} (r:Rep H (TupP H) v d) (s:Same H H'):Rep H' (TupP H') v d:=Rep.keep (fun b o ⟨xs,hx⟩ hb=>⟨⟨xs,s _ _ hx⟩,s _ _ hb⟩) r
def JD (a:Ad):Sp:=fun vs H Q _=>∃ (vw:V) (y:Addr) (n:SN) (st:PSt) (k:Nat) (bs:List (Int × Int)) (rs:List Row),vs=[vw,.ref y,.int k]∧Rep H (Off (y :: n.all)) vw (qJ a bs rs)∧StO a H y n st∧stWf bs rs st∧zL bs rs∧(∀ b∈bs,zA b.1 b.2)∧(∀ r∈rs,r.ok)∧k < rs.length ∧
 ∀ v H',Fr (y :: n.all) H H'→StO a H' y n (actF rs st k).1→Rep H' (TupP H') v (JX (actF rs st k).2)→Q v H'
theorem i_spAct {a:Ad} {vs:List V} {H:Hp} {Q:VK} {E:XK} (vw:V) (y:Addr) (n:SN) (st:PSt) (k:Nat) (bs:List (Int × Int)) (rs:List Row) (q0:vs=[vw,.ref y,.int k]) (q1:Rep H (Off (y :: n.all)) vw (qJ a bs rs)) (q2:StO a H y n st) (q3:stWf bs rs st) (q4:zL bs rs) (q5:(∀ b∈bs,zA b.1 b.2)) (q6:(∀ r∈rs,r.ok)) (q7:k < rs.length) (q8:∀ v H',Fr (y :: n.all) H H'→StO a H' y n (actF rs st k).1→Rep H' (TupP H') v (JX (actF rs st k).2)→Q v H'):JD a vs H Q E:=⟨vw,y,n,st,k,bs,rs,q0,q1,q2,q3,q4,q5,q6,q7,q8⟩
theorem ok_act (T:Txt K mg a) (F:Fun K "act" "act" s_act f fd):FnOk P w K mg base (CXr P w) 4 f fd ["work","state","number"] (JD a):=by
 refine F.okx sc_act ?_ ?_
 ·walk_at "i"
 walk_at "j"
 refine oE7 h fun vw y n st kn bs rs z1_=>oA9 z1_ fun z2_ hw so wf wok bo ro hk k=>?_
 clear h
 subst z2_
 refine oE7 (xG hw) fun yw dw fw l1 l2 bvs kvs z1_=>oA9 z1_ fun z2_ hyw ew1 ew2 hl1 hl2 hB hK no=>?_
 subst z2_
 obtain ⟨r,hr'⟩:∃ r,rs[kn]?=some r:=⟨rs[kn],List.getElem?_eq_getElem hk⟩
 have ok:=ro r (List.mem_of_getElem? hr')
 have rl:=xM ok
 obtain ⟨kv,hkv,hKn⟩:=Q7 hK hr'
 refine oE6 hKn.inv fun y1 dx1 m1 m2 m3 fs1 z1_=>oA9 z1_ fun z2_ _ _ _ _ g0 f1 f2 z3_=>oA5 z3_ fun _ g1 g2 _ _=>?_
 subst z2_
 have fno:=hKn.no (f:="choice") g0 (by decide +kernel) (by decide +kernel) (by decide +kernel) (by decide +kernel) (by decide +kernel)
 have hsd:=wf.so.2 kn r _ hr' (qE (d:=0) (by rw [wf.so.1]; exact hk))
 obtain ⟨side,esd⟩:∃ sd:Nat,st.sides.getD kn 0=sd:=⟨(st.sides.getD kn 0).toNat,(Int.toNat_of_nonneg hsd.1).symm⟩
 have hside:st.sides[kn]?=some (side:Int):=by rw [← esd]; exact qE (by rw [wf.so.1]; exact hk)
 have hsd':jQ r (side:Int):=by rw [← esd]; exact hsd
 have esd':(st.sides.getD kn 0).toNat=side:=by rw [esd]; rfl
 refine oA4 (sff_l (t:=st.turn) (lc:=n.lc) (ls:=n.ls) (lg:=n.lg)) fun lk1 lk2 lk3 lk4=>?_
 have hAct:∀ x,zW r (zR rs st.cells r) (qj st.cells r) st.turn side=x→actF rs st kn=match x with | none=>(st,none) | some ch=>((qI r st kn ch).1,some (qI r st kn ch).2):=fun x e=>by
  unfold actF
  rw [hr']
  simp only
  rw [esd',e]
  all_goals (cases x <;> rfl)
 walk_at "T"
 refine ⟨_,(zg (zx 3 sc_act.nd (zp (zl (pv 0) rfl) (pv 2)))  (zg (Qd (i:=4) sc_act.nd rfl (Or.inl rfl) (vars:=["belt"]) (caps:=[1]) (N:=["belt","state"]) (ON:=["work","state","number","knot","free","chosen","from_belt","to_belt","ware"]) (osc:=zf s_act) rfl rfl (by first | decide +kernel | kernel_rfl) rfl rfl (ql (zl (pv 3) rfl)) (fun s H fp pins=>(pg_n 0 (show (["belt","state"]:List Str).Nodup from by decide +kernel))) (fun s H fp pins=>qg) (fun s H fp pins=>(jh qw (zp (zp (zl (pv 1) rfl) (pv 0)) zc) zz (zo _))))  (zg (zx 5 sc_act.nd (JJ ⟨rfl,rfl,rfl⟩ hr (pv 3) (za (zv ⟨rfl,rfl,rfl⟩ hr (za (pv 0) (za (pv 1) (za (pv 3) zb)))) (za (pv 4) (za (zl (pv 1) rfl) (za (zp (zl (pv 1) rfl) (pv 2)) zb))))))  (zg (zy (zn qw (pv 5) zz (zo _))  (zd (zj zz))  zk)  (zg (zx 6 sc_act.nd (zv ⟨rfl,rfl,rfl⟩ hr (za (zl (pv 3) rfl) (za (zp (pv 5) zc) zb))))  (zg (zx 7 sc_act.nd (zv ⟨rfl,rfl,rfl⟩ hr (za (zl (pv 3) rfl) (za (zp (pv 5) zc) zb))))  (zg (zx 8 sc_act.nd (zv ⟨rfl,rfl,rfl⟩ hr (za (pv 1) (za (pv 2) (za (pv 6) zb)))))  (zX (zy (zn j9 (pv 7) zz (zo _))  (zd (vd (pv 8) (vm (zp (zl (pv 1) rfl) (pv 7)) zc jq)))  zk)  (zg (vd (zp (pv 5) zc) (vm (zl (pv 1) rfl) (pv 2) jq))  (zg (ps_augS (zp (zl (pv 1) rfl) (pv 2)) (zv ⟨rfl,rfl,rfl⟩ hr (za (pv 3) (za (pv 5) zb))) get_list zc ip_add jq)  (zd (zj (qM (za (pv 2) (za (pv 8) (za (pv 6) (za (pv 7) zb))))))))))))))))),?_⟩
 walk_at "go"
 refine ra hyw T.C_Work T.N_Work_knots ew2 (zq (SqL.of hl2) (zC hkv) ?_)
 walk_at "go"
 walk_at "lc"
 walk_at "go"
 refine ra g0 (CT T _) (NO T _) f2 ⟨m2,rfl,.inl ⟨⟨_,SqL.of g2⟩,fun _ _ _ _ acc hacc=>?_⟩⟩
 refine qP (K:=K) (a:=m2) (xs:=iv r.outs) (fun i σ H'=>∃ (v0:Option V),σ=[v0,some (.ref y)]∧Same H H'∧H' acc=some (.lst (((qj st.cells r).take i).map V.bl))) ⟨_,iA3 rfl (ze hacc) (by rw [List.take_zero]; exact upd_same)⟩ (fun i σ H' _ h=>by obtain ⟨_,_,s,_⟩:=h; exact SqL.of (s _ _ g2)) ?_ ?_
 ·intro i x σ H2 hi zz_
  refine oE1 zz_ fun v0 z1_=>oA3 z1_ fun z2_ s2 ha=>?_
  clear zz_
  subst z2_
  obtain ⟨b,hb,rfl⟩:=Qv hi
  have hil:=(List.getElem?_eq_some_iff.mp hb).1
  refine oE1 (jd wf.co bo (xT wok hr' (List.mem_of_getElem? hb))) fun j z1_=>oA5 z1_ fun z2_ hj ej nej _=>?_
  subst z2_
  refine oE2 (so.cell ej) fun bC vs z1_=>oA3 z1_ fun hbC hvC rvC=>?_
  obtain ⟨c0,cs,ec⟩:∃ c0 cs,zw st.cells j=c0 :: cs:=List.exists_cons_of_ne_nil nej
  have hfr:(qj st.cells r)[i]?=some (decide (c0=none)):=by rw [qj,List.getElem?_map,hb]; simp [ec,begW]
  rw [ec] at rvC
  obtain ⟨v1,hv1,rv1⟩:=rvC.of (i:=0) (d:=zN c0) rfl
  walk_at "go"
  refine ra (s2 _ _ so.hy) T.C_State T.N_State_cells lk1 (zq (SqL.of (s2 _ _ so.hc.out)) (zC (we hbC)) (zq (SqL.of (s2 _ _ hvC)) (zC (j:=0) hv1) ?_))
  walk_at "go"
  have ev:decide (v1=V.non)=decide (c0=none):=by
   cases c0 with
   | none=>cases rv1; rfl
   | some x=>obtain ⟨t,us,rfl,_⟩:=Rep.tup' rv1; rfl
  rw [ev]
  refine ⟨_,iA3 ha (zm (by rw [List.length_map,List.length_take]; omega)) ⟨_,iA3 rfl (fun b o hb=>by rw [upd_ne (ne_of_none hb hacc)]; exact s2 b o hb) ?_⟩⟩
  rw [upd_same,List.take_add_one,hfr,List.map_append]
  rfl
 intro σ H2 zz_
 refine oE1 zz_ fun v0 z1_=>oA3 z1_ fun z2_ s2 ha=>?_
 clear zz_
 subst z2_
 rw [zD,List.take_of_length_le (by simp [qj])] at ha
 walk_at "go"
 refine iE7 y1 (clsA a r.wd) dx1 fs1 _ _ _ (iA5 rfl (s2 _ _ g0) fno ((m_choice T r.wd).mono) ?_)
 refine uc (c_heads_of T).mono (i_spHeads _ _ _ bs rs st kn r _ _ rfl (qU hw s2) ((so.same s2).rep) (qU hKn s2) hr' wok bo ro wf.co (fun hl H3 s3 nhl hhl=>?_))
 have s23:=s2.trans s3
 refine ra (s23 _ _ so.hy) T.C_State T.N_State_turn lk4 ?_
 refine ra (s23 _ _ so.hy) T.C_State T.N_State_sides lk2 (zq (SqL.of (s23 _ _ so.hs)) (zC (jZ hside)) ?_)
 refine iE5 y1 hl acc r _ (iE4 (zR rs st.cells r) (qj st.cells r) st.turn side (iA9 rfl (qU hKn s23) rfl ok hhl (s3 _ _ ha) (by simp [zR]) (by simp [qj]) (fun vc H4 s4 tc=>?_)))
 have s24:=s23.trans s4
 have so4:=so.same s24
 have hKn4:=qU hKn s24
 walk_at "go"
 cases hc:zW r (zR rs st.cells r) (qj st.cells r) st.turn side with
 | none =>
  rw [hc] at tc
  have tc:vc=.non:=tc
  subst tc
  have e:=hAct _ hc
  refine ite2 (fun _=>?_) (fun b=>absurd rfl b)
  walk_at "go"
  refine k _ _ s24.fr ?_ ?_
  ·rw [e]; exact so4
  ·rw [e]; exact .non
 | some ch =>
  rw [hc] at tc
  obtain ⟨ct,rfl,hct⟩:=tc
  have e:=hAct _ hc
  refine oA6 (xh ok (by simp [zR]) (by simp [qj]) hsd' hc) fun c1 c2 c3 c4 c5 c6=>?_
  have hfb:∀ b,fbOf r ch=some b→b∈rgI bs.length:=fun b hb=>by
   unfold fbOf at hb
   obtain ⟨j,hj1,hj2⟩:=Option.bind_eq_some_iff.mp hb
   exact xf wok hr' (List.mem_of_getElem? hj2)
  have htb:∀ b,tbOf r ch=some b→b∈rgI bs.length:=fun b hb=>by
   unfold tbOf at hb
   obtain ⟨j,hj1,hj2⟩:=Option.bind_eq_some_iff.mp hb
   exact xT wok hr' (List.mem_of_getElem? hj2)
  have hfn:fbOf r ch=none→r.wd=.source:=fun hb=>by
   cases e:ch.1 with
   | none=>exact c4 e
   | some j =>
    unfold fbOf at hb
    rw [e] at hb
    simp at hb
    have:=c1 j e
    omega
  obtain ⟨w1,w2⟩:=wQ wf wok bo ro hr' hfb hfn
  have w3:=Qg w1 bo htb w2
  have hg0:=qE (xs:=st.gone) (k:=kn) (d:=[]) (by rw [wf.go.1]; exact hk)
  obtain ⟨q1,q2⟩:=wf.go.2 kn r _ hr' hg0
  have cp:=x6 ok
  obtain ⟨g0',gs,eg⟩:∃ g0 gs,st.gone.getD kn []=g0 :: gs:=List.exists_cons_of_ne_nil fun z=>by rw [z] at q1; simp at q1; omega
  rw [eg] at hg0
  refine ite2 (fun b=>by cases b) (fun _=>?_)
  walk_at "go"
  refine uc (Zo T).mono (ra (s24 _ _ g0) (CT T _) (NI T _) f1 (rd_ixT hct at0 ?_))
  refine iE3 m1 r.ins ch.1 (iA4 rfl (s24 _ _ g1) c1 ?_)
  walk_at "go"
  refine uc (Zo T).mono (ra (s24 _ _ g0) (CT T _) (NO T _) f2 (rd_ixT hct (show atI (chV ch) 1=some (optV ch.2.1) from rfl) ?_))
  refine iE3 m2 r.outs ch.2.1 (iA4 rfl (s24 _ _ g2) c2 ?_)
  walk_at "go"
  refine uc (c_taken_ware T).mono (i_spTaken y n st kn (fbOf r ch) g0' gs rfl so4 hg0 (fun b hb=>?_) (fun v5 H5 f5 so5 rv5=>?_))
  ·refine oE1 (jd wf.co bo (hfb b hb)) fun i z1_=>oA5 z1_ fun e1 _ e2 e3 _=>?_
   exact ⟨i,iA3 e1 e2 e3⟩
  have hct5:=f5 _ _ (so4.offT ⟨_,hct⟩) hct
  have hKn5:=hKn4.fr f5
  have fr5:=(s24.fr (ms:=y :: n.all)).trans f5
  rw [show (ch.1.bind fun j=>r.ins[j]?)=fbOf r ch from rfl,show (ch.2.1.bind fun j=>r.outs[j]?)=tbOf r ch from rfl]
  walk_at "go"
  refine cut (fun σ' H'=>σ'=[some (.ref yw),some (.ref y),some (.int kn),some (.ref y1),some (.ref acc),some (.ref ct),some (hdV (fbOf r ch)),some (hdV (tbOf r ch)),some v5]∧Fr (y :: n.all) H5 H'∧StO a H' y n (movedF r st kn ch)) ?_ ?_
  ·have w4:=fun b (hb:tbOf r ch=some b)=>jd w1.co bo (htb b hb)
   unfold movedF
   generalize tbOf r ch=tb at w4 ⊢
   walk_at "go"
   cases tb with
   | none =>
    refine ite2 (fun b=>absurd rfl b) (fun _=>?_)
    walk_at "go"
    exact ⟨.refl,so5⟩
   | some b =>
    refine oE1 (w4 b rfl) fun i z1_=>oA5 z1_ fun z2_ _ e2 e3 _=>?_
    subst z2_
    refine oE2 (so5.cell e2) fun bC vs z1_=>oA3 z1_ fun hbC hvC rvC=>?_
    have lv:vs.length=(zw (zM st kn (fbOf r ch)).2.cells i).length:=by rw [rvC.len,List.length_map]
    have lp:0 < vs.length:=by rw [lv]; exact List.length_pos_iff.mpr e3
    refine ite2 (fun _=>?_) (fun b=>absurd (fun z=>by cases z) b)
    walk_at "go"
    refine ra so5.hy T.C_State T.N_State_cells sff_l.1 (zq (SqL.of so5.hc.out) (zC (we hbC)) ?_)
    walk_at "go"
    refine j7 (j:=0) hvC (vy (by decide) (by simpa using lp)) ?_
    refine ⟨qo (ZO hbC),?_⟩
    have:=so5.putC hbC (c':=(zw (zM st kn (fbOf r ch)).2.cells i).set 0 (zM st kn (fbOf r ch)).1) (by rw [List.map_set]; exact Reps.set rvC 0 rv5)
    simpa [jS] using this
  rintro σ H6 ⟨rfl,f6,so6⟩
  have hct6:=f6 _ _ (so5.offT ⟨_,hct5⟩) hct5
  have hKn6:=hKn5.fr f6
  have rv6:=so5.repT f6 rv5
  have fr6:=fr5.trans f6
  walk_at "go"
  refine rd_ixT hct6 (show atI (chV ch) 2=some (.int ch.2.2) from rfl) ?_
  walk_at "go"
  refine ra so6.hy T.C_State T.N_State_sides sff_l.2.1 (j7 so6.hs (vy (Int.natCast_nonneg _) (by rw [zD,show (movedF r st kn ch).sides.length=rs.length from w3.so.1]; exact Int.ofNat_lt.mpr hk)) ?_)
  rw [Int.toNat_natCast,JO]
  have so7:=so6.putS (s':=(movedF r st kn ch).sides.set kn ch.2.2)
  have f7:Fr (y :: n.all) H6 (upd H6 n.ls (.lst (iv ((movedF r st kn ch).sides.set kn ch.2.2)))):=qo (by simp [SN.all])
  have hct7:=f7 _ _ (so6.offT ⟨_,hct6⟩) hct6
  have hKn7:=hKn6.fr f7
  have rv7:=so6.repT f7 rv6
  have fr7:=fr6.trans f7
  generalize upd H6 n.ls (.lst (iv ((movedF r st kn ch).sides.set kn ch.2.2)))=H7 at so7 hct7 hKn7 rv7 fr7 ⊢
  have hg7:=qE (xs:=(movedF r st kn ch).gone) (k:=kn) (d:=[]) (by rw [show (movedF r st kn ch).gone.length=rs.length from w3.go.1]; exact hk)
  obtain ⟨p1,p2⟩:=w3.go.2 kn r _ hr' hg7
  obtain ⟨bG,hbG,hgG⟩:=so7.goneL hg7
  have e0:qI r st kn ch=({ movedF r st kn ch with sides:=(movedF r st kn ch).sides.set kn ch.2.2,gone:=(movedF r st kn ch).gone.set kn (bump ((movedF r st kn ch).gone.getD kn []) (cpOf r ch)) },⟨kn,(zM st kn (fbOf r ch)).1,fbOf r ch,tbOf r ch⟩):=rfl
  have so8:=so7.putG (g':=bump ((movedF r st kn ch).gone.getD kn []) (cpOf r ch)) hbG
  generalize (movedF r st kn ch).gone.getD kn []=g at *
  have hcp:cpOf r ch < g.length:=by rw [p1]; exact c6
  walk_at "go"
  unfold J3
  walk_at "go"
  refine ra so7.hy T.C_State T.N_State_gone sff_l.2.2.1 (zq (SqL.of so7.hg.out) (zC (Jx hbG)) ?_)
  walk_at "go"
  refine uc (c_counted_place T).mono (i_spCounted _ ct r ch _ rfl hKn7 hct7 c3 ?_)
  refine iE4 bG _ (cpOf r ch) _ (iA6 rfl rfl (SqL.of hgG) (Int.natCast_nonneg _) (zC (jZ (qE (d:=0) hcp))) ?_)
  walk_at "go"
  refine j7 hgG (vy (Int.natCast_nonneg _) (by rw [zD]; exact Int.ofNat_lt.mpr hcp)) ?_
  rw [Int.toNat_natCast,JO]
  have f8:Fr (y :: n.all) H7 (upd H7 bG (.lst (iv (g.set (cpOf r ch) (g.getD (cpOf r ch) 0 + 1))))):=qo (ags_all hbG)
  have rv8:=so7.repT f8 rv7
  change StO a (upd H7 bG (.lst (iv (g.set (cpOf r ch) (g.getD (cpOf r ch) 0 + 1))))) y n _ at so8
  have fr8:=fr7.trans f8
  generalize e8:upd H7 bG (.lst (iv (g.set (cpOf r ch) (g.getD (cpOf r ch) 0 + 1))))=H8 at so8 f8 rv8 fr8 ⊢
  walk_at "go"
  intro t ht
  refine k _ _ (fr8.trans (QS ht)) ?_ ?_
  ·rw [e]
   simp only
   rw [e0]
   exact so8.same (ze ht)
  ·rw [e]
   simp only
   rw [e0]
   exact Reps.mkT (vs:=[.int kn,v5,hdV (fbOf r ch),hdV (tbOf r ch)]) (.cons .int (.cons (rep_tsame rv8 (ze ht)) (.cons (Q1 _) (.cons (Q1 _) .nil)))) ⟨_,upd_same⟩ upd_same
theorem c_act (T:Txt K mg a):Cal P w K mg base "act" 4 ["work","state","number"] [] (JD a):=T.h_act.cal (ok_act T)
def zT (rs:List Row) (st:PSt):Nat→PSt × List Move
 | 0=>(st,[])
 | i + 1=>((actF rs (zT rs st i).1 i).1,(zT rs st i).2 ++ (actF rs (zT rs st i).1 i).2.toList)
theorem je {bs:List (Int × Int)} {rs:List Row} {st:PSt} (wf:stWf bs rs st) (wok:zL bs rs) (bo:∀ b∈bs,zA b.1 b.2) (ro:∀ r∈rs,r.ok):∀ i,stWf bs rs (zT rs st i).1
 | 0=>wf
 | i + 1=>actF_wf (je wf wok bo ro i) wok bo ro
theorem vO (rs:List Row) (st:PSt):∀ i,(zT rs st i).2.length≤i
 | 0=>Nat.le_refl _
 | i + 1=>by
  have:=vO rs st i
  show ((zT rs st i).2 ++ (actF rs (zT rs st i).1 i).2.toList).length≤i + 1
  rw [List.length_append]
  cases (actF rs (zT rs st i).1 i).2 with
  | none=>exact Nat.le_succ_of_le this
  | some _=>exact Nat.succ_le_succ this
section
variable {H H':Hp} {y:Addr} {n:SN} {st:PSt}
theorem StO.offN (h:StO a H y n st) {b:Addr} (e:H b=none):b ∉ y :: n.all:=by
 have no:∀ o,H b≠some o:=fun o z=>by rw [e] at z; cases z
 intro hb
 unfold SN.all at hb
 rcases List.mem_cons.mp hb with rfl | hb
 ·exact no _ h.hy
 rcases List.mem_cons.mp hb with rfl | hb
 ·exact no _ h.hs
 rcases List.mem_cons.mp hb with rfl | hb
 ·exact no _ h.hc.out
 rcases List.mem_cons.mp hb with rfl | hb
 ·exact no _ h.hg.out
 rcases List.mem_append.mp hb with hb | hb
 ·obtain ⟨us,z⟩:=h.hc.isl (List.mem_cons_of_mem _ hb)
  exact no _ z
 ·obtain ⟨us,z⟩:=h.hg.isl (List.mem_cons_of_mem _ hb)
  exact no _ z
theorem StO.out {M:Addr} {us vs:List V} (h:StO a H y n st) (e:H M=some (.lst us)) (nM:M ∉ y :: n.all):StO a (upd H M (.lst vs)) y n st:=by
 have k:∀ c o,c≠M→H c=some o→upd H M (.lst vs) c=some o:=fun c o nc hc=>by rw [upd_ne nc]; exact hc
 have kt:∀ c,TupP H c→c≠M:=fun c ⟨xs,hx⟩ z=>by rw [z,e] at hx; cases hx
 refine ⟨k _ _ (fun z=>nM (by rw [← z]; simp)) h.hy,h.hc.tup fun c o hz hc=>k c o (fun z=>?_) hc,k _ _ (fun z=>nM (by rw [← z]; simp [SN.all])) h.hs,h.hg.tup fun c o hz hc=>k c o (fun z=>?_) hc,h.nd⟩
 ·rcases hz with rfl | hz | hz
  ·exact nM (by rw [← z]; simp [SN.all])
  ·exact nM (by rw [← z]; simp [SN.all,hz])
  ·exact kt c hz z
 ·rcases hz with rfl | hz | hz
  ·exact nM (by rw [← z]; simp [SN.all])
  ·exact nM (by rw [← z]; simp [SN.all,hz])
  ·exact kt c hz z
theorem StO.repsT (h:StO a H y n st) (s:Fr (y :: n.all) H H') {vs:List V} {ds:List D} (r:Reps H (TupP H) vs ds):Reps H' (TupP H') vs ds :=
 ⟨r.len,fun i v d h1 h2=>h.repT s (r.g i v d h1 h2)⟩
theorem Qa {M:Addr} {us vs:List V} (e:H M=some (.lst us)) {v:V} {d:D} (r:Rep H (TupP H) v d):Rep (upd H M (.lst vs)) (TupP (upd H M (.lst vs))) v d :=
 Rep.keep (fun b o hp hb=>⟨jx e hp,by obtain ⟨xs,hx⟩:=hp; rw [upd_ne (fun z=>by rw [z,e] at hx; cases hx)]; exact hb⟩) r
theorem repsT_out {M:Addr} {us vs:List V} (e:H M=some (.lst us)) {ws:List V} {ds:List D} (r:Reps H (TupP H) ws ds):Reps (upd H M (.lst vs)) (TupP (upd H M (.lst vs))) ws ds :=
 ⟨r.len,fun i v d h1 h2=>Qa e (r.g i v d h1 h2)⟩
end
def wZ (a:Ad):Sp:=fun vs H Q _=>∃ (vw:V) (y:Addr) (n:SN) (st:PSt) (bs:List (Int × Int)) (rs:List Row),vs=[vw,.ref y]∧Rep H (Off (y :: n.all)) vw (qJ a bs rs)∧StO a H y n st∧stWf bs rs st∧zL bs rs∧(∀ b∈bs,zA b.1 b.2)∧(∀ r∈rs,r.ok) ∧
 ∀ l us H',Fr (y :: n.all) H H'→StO a H' y n (zT rs st rs.length).1→H l=none→l ∉ y :: n.all→H' l=some (.lst us)→Reps H' (TupP H') us ((zT rs st rs.length).2.map vH)→Q (.ref l) H'
theorem i_spActAll {a:Ad} {vs:List V} {H:Hp} {Q:VK} {E:XK} (vw:V) (y:Addr) (n:SN) (st:PSt) (bs:List (Int × Int)) (rs:List Row) (q0:vs=[vw,.ref y]) (q1:Rep H (Off (y :: n.all)) vw (qJ a bs rs)) (q2:StO a H y n st) (q3:stWf bs rs st) (q4:zL bs rs) (q5:(∀ b∈bs,zA b.1 b.2)) (q6:(∀ r∈rs,r.ok)) (q7:∀ l us H',Fr (y :: n.all) H H'→StO a H' y n (zT rs st rs.length).1→H l=none→l ∉ y :: n.all→H' l=some (.lst us)→Reps H' (TupP H') us ((zT rs st rs.length).2.map vH)→Q (.ref l) H'):wZ a vs H Q E:=⟨vw,y,n,st,bs,rs,q0,q1,q2,q3,q4,q5,q6,q7⟩
theorem ok_act_all (T:Txt K mg a) (F:Fun K "act_all" "act_all" s_act_all f fd):FnOk P w K mg base (CXr P w) 5 f fd ["work","state"] (wZ a):=by
 refine F.okx sc_act_all ?_ ?_
 ·walk_at "i"
 walk_at "j"
 refine oE6 h fun vw y n st bs rs z1_=>oA8 z1_ fun z2_ hw so wf wok bo ro k=>?_
 clear h
 subst z2_
 refine oE7 (xG hw) fun yw dw fw l1 l2 bvs kvs z1_=>oA9 z1_ fun z2_ hyw ew1 ew2 hl1 hl2 hB hK no=>?_
 subst z2_
 have lk:kvs.length=rs.length:=hK.len
 have r24:=wok.1.2.2
 walk_at "T"
 refine ⟨_,(zh (zx 2 sc_act_all.nd (zF zb))  (zX (qd qC rfl (jT (za (zV zP zO (za (zl (pv 0) rfl) zb)) zb)) (pg_n 3 sc_act_all.nd)  (zh (zx 4 sc_act_all.nd (zv ⟨rfl,rfl,rfl⟩ hr (za (pv 0) (za (pv 1) (za (pv 3) zb)))))  (zd (zy (zn j9 (pv 4) zz (zo _))  (zd (zt (qq PySem.F.plainAttrs_list PySem.F.slot_list_append PySem.F.type_list_append zQ (pv 2) (za (pv 4) zb))))  zk))))  (zd (zj (pv 2))))),?_⟩
 walk_at "go"
 intro M hM
 have nM:=so.offN hM
 have s1:=ze (o:=.lst []) hM
 have hM1:upd H M (.lst []) M=some (.lst []):=upd_same
 generalize upd H M (.lst [])=H1 at s1 hM1 ⊢
 walk_at "go"
 refine cut (fun σ' H'=>∃ (v3 v4:Option V) (us:List V),σ'=[some (.ref yw),some (.ref y),some (.ref M),v3,v4]∧Fr (y :: n.all) H H'∧StO a H' y n (zT rs st rs.length).1∧H' M=some (.lst us)∧Reps H' (TupP H') us ((zT rs st rs.length).2.map vH)) ?_ ?_
 ·walk_at "for"
  walk_at "go"
  refine ra (s1 _ _ hyw) T.C_Work T.N_Work_knots ew2 ?_
  refine ⟨_,.inl ⟨_,SqL.of (s1 _ _ hl2),rfl⟩,?_⟩
  rw [lk]
  walk_at "go"
  refine ⟨by omega,by omega,?_⟩
  refine wK (n:=(rs.length:Int).toNat) (fun i σ H'=>∃ (v3 v4:Option V) (us:List V),σ=[some (.ref yw),some (.ref y),some (.ref M),v3,v4]∧Fr (y :: n.all) H H'∧StO a H' y n (zT rs st i).1∧H' M=some (.lst us)∧Reps H' (TupP H') us ((zT rs st i).2.map vH)) (iE3 _ _ _ (iA5 rfl s1.fr (so.same s1) hM1 (.nil))) ?_ (fun σ H' h=>?_)
  ·intro i σ H2 hi zz_
   refine oE3 zz_ fun v3 v4 us z1_=>oA5 z1_ fun z2_ f2 so2 hM2 r2=>?_
   clear zz_
   subst z2_
   have hi:i < rs.length:=by simpa using hi
   have al:=vO rs st i
   have lu:us.length=(zT rs st i).2.length:=by rw [r2.len,List.length_map]
   walk_at "go"
   simp only [Int.zero_add]
   refine uc (c_act T).mono (i_spAct (.ref yw) y n _ i bs rs rfl (hw.fr f2) so2 (je wf wok bo ro i) wok bo ro hi (fun v H3 f3 so3 rv=>?_))
   have f23:=f2.trans f3
   have hM3:=f3 _ _ nM hM2
   have r3:=so2.repsT f3 r2
   have eA:zT rs st (i + 1)=((actF rs (zT rs st i).1 i).1,(zT rs st i).2 ++ (actF rs (zT rs st i).1 i).2.toList):=rfl
   walk_at "go"
   cases e:(actF rs (zT rs st i).1 i).2 with
   | none =>
    rw [e] at rv eA
    cases rv
    refine ite2 (fun b=>absurd rfl b) (fun _=>?_)
    rw [eA]
    exact iE3 _ _ _ (iA5 rfl f23 so3 hM3 (by rw [show (none:Option Move).toList=[] from rfl,List.append_nil]; exact r3))
   | some m =>
    rw [e] at rv eA
    refine ite2 (fun _=>?_) (fun b=>?_)
    ·walk_at "go"
     refine ⟨.inl ⟨rfl,_,SqL.of hM3⟩,iE3 M _ _ (iA5 rfl rfl hM3 (zm (by omega)) (iE3 _ _ _ (iA5 rfl (fun b o nb hb=>by rw [upd_ne (ne_of_none hb hM)]; exact f23 b o nb hb) ?_ upd_same ?_)))⟩
     ·rw [eA]
      exact so3.out hM3 nM
     ·rw [eA]
      show Reps _ _ _ (List.map vH ((zT rs st i).2 ++ [m]))
      rw [List.map_append]
      exact (repsT_out hM3 r3).append (Reps.one (Qa hM3 rv))
    ·exfalso
     refine b fun z=>?_
     subst z
     cases rv
  ·have e:((rs.length:Int)).toNat=rs.length:=by simp
   rw [e] at h
   exact h
 intro σ' H2 zz_
 refine oE3 zz_ fun v3 v4 us z1_=>oA5 z1_ fun z2_ f2 so2 hM2 r2=>?_
 clear zz_
 subst z2_
 walk_at "go"
 exact k _ _ _ f2 so2 hM nM hM2 r2
theorem c_act_all (T:Txt K mg a):Cal P w K mg base "act_all" 5 ["work","state"] [] (wZ a):=T.h_act_all.cal (ok_act_all T)
def jo (c:List Ware) (p:Nat):List Ware:=if c.getD (p + 1) none=none then (c.set (p + 1) (c.getD p none)).set p none else c
def mvGo (c:List Ware):Nat→List Ware
 | 0=>c
 | k + 1=>jo (mvGo c k) (c.length - 2 - k)
def JM (c:List Ware):List Ware:=mvGo c (c.length - 1)
theorem mvStep_len {c:List Ware} {p:Nat}:(jo c p).length=c.length:=by
 unfold jo
 split <;> simp
theorem xV {c:List Ware}:∀ k,(mvGo c k).length=c.length
 | 0=>rfl
 | k + 1=>by rw [mvGo,mvStep_len,xV k]
theorem mvStep_mem {c:List Ware} {p:Nat} {x:Ware} (h:x∈jo c p):x∈c∨x=none:=by
 unfold jo at h
 split at h
 ·rcases jY h with h | h
  ·rcases jY h with h | h
   ·exact .inl h
   ·rw [List.getD_eq_getElem?_getD] at h
    cases e:c[p]? with
    | none=>rw [e] at h; exact .inr h
    | some y=>rw [e] at h; exact .inl (by rw [h]; exact List.mem_of_getElem? e)
  ·exact .inr h
 ·exact .inl h
theorem Qm {c:List Ware} {x:Ware}:∀ k,x∈mvGo c k→x∈c∨x=none
 | 0=>fun h=>.inl h
 | k + 1=>fun h=>by
  rcases mvStep_mem h with h | h
  ·exact Qm k h
  ·exact .inr h
theorem upd_self {H:Hp} {b:Addr} {o:HO} (h:H b=some o):upd H b o=H:=by
 funext x
 by_cases e:x=b
 ·rw [e,upd_same,h]
 ·rw [upd_ne e]
theorem ZR {H:Hp} {p:Addr→Prop} {v:V} {x:Ware} (r:Rep H p v (zN x)):v=.non ↔ x=none:=by
 cases x with
 | none=>cases r; simp
 | some x=>obtain ⟨t,us,rfl,_⟩:=Rep.tup' r; simp
theorem atD {xs:List Ware} {p:Nat} (h:p < xs.length):xs[p]?=some (xs.getD p none):=qE h
def wV:Sp:=fun vs H Q _=>∃ (b:Addr) (us:List V) (c:List Ware),vs=[.ref b]∧H b=some (.lst us)∧Reps H (TupP H) us (c.map zN)∧c.length≤100∧∀ us',Reps H (TupP H) us' ((JM c).map zN)→Q .non (upd H b (.lst us'))
theorem ok_move_belt (T:Txt K mg a) (F:Fun K "move_belt" "move_belt" s_move_belt f fd):FnOk P w K mg base (CXr P w) 1 f fd ["cells"] wV:=by
 refine F.okx sc_move_belt ?_ ?_
 ·walk_at "i"
 walk_at "j"
 refine oE3 h fun b us c z1_=>oA5 z1_ fun z2_ hb rb lc k=>?_
 clear h
 subst z2_
 have lu:us.length=c.length:=by rw [rb.len,List.length_map]
 walk_at "T"
 refine ⟨_,(zd (qd qC rfl (pi_rg3 (za (zi QN (zV zP zO (za (pv 0) zb)) zc) (za (xm jm zc) (za (xm jm zc) zb)))) (pg_n 1 sc_move_belt.nd)  (zd (zy (zn qw (zp (pv 0) (zi z7 (pv 1) zc)) zz (zo _))  (zh (vd (zp (pv 0) (pv 1)) (vm (pv 0) (zi z7 (pv 1) zc) jq))  (zd (vd zz (vm (pv 0) (pv 1) jq))))  zk)))),?_⟩
 walk_at "go"
 walk_at "for"
 walk_at "go"
 refine ⟨_,.inl ⟨_,SqL.of hb,rfl⟩,?_⟩
 rw [lu]
 walk_at "go"
 refine iE2 _ _ (iA3 rfl (iA4 (by omega) (by omega) (by omega) (by omega)) ?_)
 rw [show ((c.length:Int) - 2 - -1).toNat=c.length - 1 by omega]
 refine for_D (K:=K) (fun i σ H'=>∃ (v1:Option V) (us':List V),σ=[some (.ref b),v1]∧H'=upd H b (.lst us')∧Reps H (TupP H) us' ((mvGo c i).map zN)) (iE2 _ us (iA3 rfl ((upd_self hb).symm) rb)) ?_ ?_
 ·intro i σ H' hi zz_
  refine oE2 zz_ fun v1 us' z1_=>oA3 z1_ fun z2_ z3_ r1=>?_
  clear zz_
  subst z2_ z3_
  have lm:=xV (c:=c) i
  have l1:us'.length=c.length:=by rw [r1.len,List.length_map,lm]
  obtain ⟨p,hp⟩:∃ p,c.length - 2 - i=p:=⟨_,rfl⟩
  have ep:(c.length:Int) - 2 - i=p:=by omega
  have hp1:p + 1 < c.length:=by omega
  rw [ep]
  have eS:mvGo c (i + 1)=jo (mvGo c i) p:=by rw [mvGo,hp]
  rw [eS]
  generalize mvGo c i=m at r1 lm ⊢
  have m0:m[p]?=some (m.getD p none):=atD (by omega)
  have m1:m[p + 1]?=some (m.getD (p + 1) none):=atD (by omega)
  obtain ⟨u0,hu0,ru0⟩:=r1.of (i:=p) (d:=zN (m.getD p none)) (by rw [List.getElem?_map,m0]; rfl)
  obtain ⟨u1,hu1,ru1⟩:=r1.of (i:=p + 1) (d:=zN (m.getD (p + 1) none)) (by rw [List.getElem?_map,m1]; rfl)
  have e1:((p:Int) + 1)=((p + 1:Nat):Int):=by omega
  walk_at "go"
  rw [e1]
  refine zq (SqL.of upd_same) (zC hu1) ?_
  walk_at "go"
  refine ite2 (fun z=>?_) (fun z=>?_)
  ·have z:=(ZR ru1).mp z
   walk_at "go"
   refine zq (SqL.of upd_same) (zC hu0) ?_
   walk_at "go"
   refine j7 upd_same (vy (by omega) (by omega)) ?_
   walk_at "go"
   refine j7 upd_same (vy (by omega) (by simp; omega)) ?_
   rw [xJ,xJ]
   refine iE2 _ _ (iA3 rfl rfl ?_)
   unfold jo
   rw [if_pos z,List.map_set,List.map_set,Int.toNat_natCast,Int.toNat_natCast]
   exact Reps.set (Reps.set r1 _ ru0) _ .non
  ·have z:m.getD (p + 1) none≠none:=fun y=>z ((ZR ru1).mpr y)
   walk_at "go"
   refine iE2 _ us' (iA3 rfl rfl ?_)
   unfold jo
   rw [if_neg z]
   exact r1
 ·intro σ H' zz_
  refine oE2 zz_ fun v1 us' z1_=>oA3 z1_ fun z2_ z3_ r1=>?_
  clear zz_
  subst z2_ z3_
  exact k _ r1
theorem c_move_belt (T:Txt K mg a):Cal P w K mg base "move_belt" 1 ["cells"] [] wV:=T.h_move_belt.cal (ok_move_belt T)
def qp (bs:List (Int × Int)) (t:Int) (cs:List (List Ware)):Nat→List (List Ware)
 | 0=>cs
 | i + 1=>if t % (bs.getD i (0,1)).2=0 then (qp bs t cs i).set i (JM ((qp bs t cs i).getD i [])) else qp bs t cs i
theorem xF {bs:List (Int × Int)} {rs:List Row} {t:Int} {cs:List (List Ware)} (h:qS bs rs cs):∀ i,qS bs rs (qp bs t cs i)
 | 0=>h
 | i + 1=>by
  have ih:=xF h i (t:=t)
  rw [qp]
  split
  ·generalize qp bs t cs i=ds at ih ⊢
   cases e:ds[i]? with
   | none=>rw [List.set_eq_of_length_le (List.getElem?_eq_none_iff.mp e)]; exact ih
   | some c =>
    have ec:ds.getD i []=c:=by rw [List.getD_eq_getElem?_getD,e]; rfl
    rw [ec]
    have hi:i < bs.length:=by rw [← ih.1]; exact (List.getElem?_eq_some_iff.mp e).1
    refine wx ih e (xV _) fun x hx=>?_
    rcases Qm _ hx with hx | hx
    ·exact (ih.2 i _ c (List.getElem?_eq_getElem hi) e).2 x hx
    ·rw [hx]; exact wg
  ·exact ih
def passF (bs:List (Int × Int)) (rs:List Row) (st:PSt):PSt × List Move:=({ (zT rs st rs.length).1 with turn:=(zT rs st rs.length).1.turn + 1,cells:=qp bs (zT rs st rs.length).1.turn (zT rs st rs.length).1.cells bs.length },(zT rs st rs.length).2)
theorem passF_wf {bs:List (Int × Int)} {rs:List Row} {st:PSt} (wf:stWf bs rs st) (wok:zL bs rs) (bo:∀ b∈bs,zA b.1 b.2) (ro:∀ r∈rs,r.ok):stWf bs rs (passF bs rs st).1:=by
 have w:=je wf wok bo ro rs.length
 exact ⟨xF w.co _,w.so,w.go⟩
theorem StO.ney {H:Hp} {y:Addr} {n:SN} {st:PSt} (h:StO a H y n st):y ∉ n.all:=fun z=>by
 have hy:=h.hy
 have c:∀ vs,H y≠some (.lst vs):=fun vs z=>by rw [hy] at z; cases z
 simp only [SN.all,List.mem_cons,List.mem_append] at z
 rcases z with z | z | z | z | z
 ·exact c _ (by rw [z]; exact h.hs)
 ·exact c _ (by rw [z]; exact h.hc.out)
 ·exact c _ (by rw [z]; exact h.hg.out)
 ·obtain ⟨vs,hv⟩:=h.hc.isl (List.mem_cons_of_mem _ z); exact c _ hv
 ·obtain ⟨vs,hv⟩:=h.hg.isl (List.mem_cons_of_mem _ z); exact c _ hv
theorem StO.putT {H:Hp} {y:Addr} {n:SN} {st:PSt} {t:Int} (h:StO a H y n st):StO a (upd H y (.ins a.State n.dx (sff t n.lc n.ls n.lg))) y n { st with turn:=t }:=by
 have ny:=h.ney
 have tn:∀ b,TupP H b→b≠y:=fun b ⟨xs,hx⟩ z=>by rw [z,h.hy] at hx; cases hx
 simp only [SN.all,List.mem_cons,List.mem_append,not_or] at ny
 obtain ⟨n1,n2,n3,n4,n5⟩:=ny
 refine ⟨upd_same,h.hc.tup fun b o c hb=>?_,?_,h.hg.tup fun b o c hb=>?_,h.nd⟩
 ·rw [upd_ne ?_]
  ·exact hb
  ·rcases c with rfl | c | c
   ·exact Ne.symm n2
   ·exact fun z=>n4 (by rw [← z]; exact c)
   ·exact tn b c
 ·rw [upd_ne (Ne.symm n1)]; exact h.hs
 ·rw [upd_ne ?_]
  ·exact hb
  ·rcases c with rfl | c | c
   ·exact Ne.symm n3
   ·exact fun z=>n5 (by rw [← z]; exact c)
   ·exact tn b c
theorem work_belts {H:Hp} {p:Addr→Prop} {v:V} {bs:List (Int × Int)} {rs:List Row} (h:Rep H p v (qJ a bs rs)):∃ y dx fs l1 bvs,v=.ref y∧p y∧H y=some (.ins a.Work dx fs)∧fs.lookup ("belts":Str)=some (.ref l1)∧p l1∧H l1=some (.lst bvs)∧Bts a H p bvs bs:=by
 refine oE3 (Rep.ob' h) fun y dx fs z1_=>oA5 z1_ fun z2_ py hy g1 g2=>?_
 subst z2_
 obtain ⟨u1,e1,r1⟩:=g1 _ _ ZQ
 refine oE2 r1.lst' fun l1 bvs z1_=>oA4 z1_ fun z2_ pl h1 b1=>?_
 subst z2_
 exact iE5 y dx fs l1 bvs (iA7 rfl py hy e1 pl h1 (.of b1))
theorem sff_t {t u:Int} {lc ls lg:Addr}:putF "turn" (.int u) (sff t lc ls lg)=sff u lc ls lg:=rfl
def Jz (a:Ad):Sp:=fun vs H Q _=>∃ (vw:V) (y:Addr) (n:SN) (st:PSt) (bs:List (Int × Int)) (rs:List Row),vs=[vw,.ref y]∧Rep H (Off (y :: n.all)) vw (qJ a bs rs)∧StO a H y n st∧stWf bs rs st∧zL bs rs∧(∀ b∈bs,zA b.1 b.2)∧(∀ r∈rs,r.ok) ∧
 ∀ l us H',Fr (y :: n.all) H H'→StO a H' y n (passF bs rs st).1→H l=none→l ∉ y :: n.all→H' l=some (.lst us)→Reps H' (TupP H') us ((passF bs rs st).2.map vH)→Q (.ref l) H'
theorem ok_pass_turn (T:Txt K mg a) (F:Fun K "pass_turn" "pass_turn" s_pass_turn f fd):FnOk P w K mg base (CXr P w) 6 f fd ["work","state"] (Jz a):=by
 refine F.okx sc_pass_turn ?_ ?_
 ·walk_at "i"
 walk_at "j"
 refine oE6 h fun vw y n st bs rs z1_=>oA8 z1_ fun z2_ hw so wf wok bo ro k=>?_
 clear h
 subst z2_
 have b24:=wok.1.1.2
 walk_at "T"
 refine ⟨_,(zg (zx 2 sc_pass_turn.nd (zv ⟨rfl,rfl,rfl⟩ hr (za (pv 0) (za (pv 1) zb))))  (zX (qd qC rfl (qm (za (zl (pv 0) rfl) zb)) (jD (n:=2) rfl (zZ (pg_n 3 sc_pass_turn.nd) (zZ (pg_n 4 sc_pass_turn.nd) ja)))  (zd (zy (zn (qr hr.units1) (zi zB (zl (pv 1) rfl) (zl (pv 4) rfl)) zc (zo _))  (zd (zt (zv ⟨rfl,rfl,rfl⟩ hr (za (zp (zl (pv 1) rfl) (pv 3)) zb))))  zk)))  (zg (ps_fldaug (pv 1) zc in_add)  (zd (zj (pv 2)))))),?_⟩
 walk_at "go"
 refine uc (c_act_all T).mono (i_spActAll vw y n st bs rs rfl hw so wf wok bo ro (fun l us H1 f1 so1 nl nl' hl rl=>?_))
 have wA:=je wf wok bo ro rs.length
 have hw1:=hw.fr f1
 refine oE5 (work_belts hw1) fun yw dw fw l1 bvs z1_=>oA7 z1_ fun z2_ _ hyw ew1 pl1 hl1 hB=>?_
 subst z2_
 have lb:bvs.length=bs.length:=hB.len
 generalize hA:zT rs st rs.length=A at so1 rl wA
 refine oA4 (sff_l (t:=A.1.turn) (lc:=n.lc) (ls:=n.ls) (lg:=n.lg)) fun lk1 lk2 lk3 lk4=>?_
 walk_at "go"
 let M1_:St→Hp→Prop:=fun σ' H'=>∃ (v3 v4:Option V),σ'=[some (.ref yw),some (.ref y),some (.ref l),v3,v4]∧Fr (y :: n.all) H1 H'∧StO a H' y n { A.1 with cells:=qp bs A.1.turn A.1.cells bs.length }
 refine cut M1_ ?_ ?_
 ·walk_at "for"
  walk_at "go"
  refine ra hyw T.C_Work T.N_Work_belts ew1 (iE2 l1 _ (iA3 rfl hl1 ?_))
  let M2_:Nat→St→Hp→Prop:=fun i σ H'=>∃ (v3 v4:Option V),σ=[some (.ref yw),some (.ref y),some (.ref l),v3,v4]∧Fr (y :: n.all) H1 H'∧StO a H' y n { A.1 with cells:=qp bs A.1.turn A.1.cells i }
  refine vE (K:=K) (a:=l1) (xs:=bvs) M2_ (iE2 _ _ (iA3 rfl Fr.refl so1)) (fun i σ H' _ h=>by obtain ⟨_,_,_,f,_⟩:=h; exact SqL.of (f _ _ pl1 hl1)) ?_ ?_
  ·intro i x t σ H2 hi ht zz_
   refine oE2 zz_ fun v3 v4 z1_=>oA3 z1_ fun z2_ f2 so2=>?_
   clear zz_
   subst z2_
   obtain ⟨b,hb',hBt⟩:=hB.at hi
   refine oE3 hBt.inv fun y1 dx1 fs1 z1_=>oA5 z1_ fun z2_ py1 g0 _ e2=>?_
   subst z2_
   have g02:=f2 _ _ py1 g0
   have hil:=(List.getElem?_eq_some_iff.mp hb').1
   have bk:=bo b (List.mem_of_getElem? hb')
   have f3:=f2.trans (QS (ms:=y :: n.all) (o:=.tup [.int i,.ref y1]) ht)
   have so3:=so2.same (ze (o:=.tup [.int i,.ref y1]) ht)
   have g03:=upd_keep (o:=.tup [.int i,.ref y1]) g02 ht
   refine un2 upd_same ?_
   generalize upd H2 t (.tup [.int i,.ref y1])=H3 at f3 so3 g03 ⊢
   have eb:bs.getD i (0,1)=b:=by rw [List.getD_eq_getElem?_getD,hb']; rfl
   have co:=xF (t:=A.1.turn) wA.co i
   have hc:=qE (xs:=qp bs A.1.turn A.1.cells i) (d:=[]) (show i < _ by rw [co.1]; exact hil)
   refine oE2 (so3.cell hc) fun bC vs z1_=>oA3 z1_ fun hbC hvC rvC=>?_
   have lc:=(co.2 i b _ hb' hc).1
   have b1:=bk.1
   have b2:=bk.2.1
   have b3:=bk.2.2.1
   walk_at "go"
   refine ra so3.hy T.C_State T.N_State_turn lk4 ?_
   refine ra g03 T.C_Belt T.N_Belt_pace e2 ?_
   walk_at "go"
   refine ite2 (fun z=>?_) (fun z=>?_)
   ·walk_at "go"
    refine uc (c_move_belt T).mono ?_
    refine ra so3.hy T.C_State T.N_State_cells lk1 (zq (SqL.of so3.hc.out) (zC (we hbC)) ?_)
    refine iE3 bC vs _ (iA5 rfl hvC rvC (by omega) (fun us' r'=>?_))
    refine iE2 _ _ (iA3 rfl (f3.trans (qo (ZO hbC))) ?_)
    have:=so3.putC hbC r'
    rw [qp,eb,if_pos z]
    exact this
   ·refine iE2 _ _ (iA3 rfl f3 ?_)
    rw [qp,eb,if_neg z]
    exact so3
  ·intro σ H2 zz_
   refine oE2 zz_ fun v3 v4 z1_=>oA3 z1_ fun z2_ f2 so2=>?_
   clear zz_
   subst z2_
   rw [lb] at so2
   exact iE2 _ _ (iA3 rfl f2 so2)
 intro σ' H2 zz_
 refine oE2 zz_ fun v3 v4 z1_=>oA3 z1_ fun z2_ f2 so2=>?_
 clear zz_
 subst z2_
 walk_at "go"
 refine ⟨_,⟨rfl,iE5 y a.State n.dx _ _ (iA6 rfl so2.hy T.C_State T.N_State_turn lk4 ?_)⟩⟩
 refine iE2 _ 1 (iA3 rfl rfl (iE2 n.dx _ (iA3 so2.hy (show 4 < 1000 by decide) ?_)))
 rw [sff_t]
 have f3:=f2.trans (qo (x:=y) (o:=.ins a.State n.dx (sff (A.1.turn + 1) n.lc n.ls n.lg)) (by simp))
 walk_at "go"
 refine k l us _ (f1.trans f3) (by rw [passF,hA]; exact so2.putT) nl nl' (f3 _ _ nl' hl) (by rw [passF,hA]; exact so1.repsT f3 rl)
theorem wL (T:Txt K mg a):Cal P w K mg base "pass_turn" 6 ["work","state"] [] (Jz a):=T.h_pass_turn.cal (ok_pass_turn T)
def Z6 (a:Ad):Sp:=fun vs H Q _=>∃ (v:V) (st:PSt) (p:Addr→Prop),vs=[v]∧Rep H p v (xB a st)∧st.cells.length≤100∧st.gone.length≤100∧∀ v' H',Same H H'→vP a H H' v' st→Q v' H'
theorem ok_copied_state (T:Txt K mg a) (F:Fun K "copied_state" "copied_state" s_copied_state f fd):FnOk P w K mg base (CXr P w) 3 f fd ["state"] (Z6 a):=by
 refine F.okx sc_copied_state ?_ ?_
 ·walk_at "i"
 walk_at "j"
 refine oE3 h fun v st p z1_=>oA5 z1_ fun z2_ hs lc lg k=>?_
 clear h
 subst z2_
 refine oE3 (Rep.ob' hs) fun y dx fs z1_=>oA5 z1_ fun z2_ py hy g1 g2=>?_
 subst z2_
 obtain ⟨u1,e1,r1⟩:=g1 _ _ (ZW st)
 obtain ⟨u2,e2,r2⟩:=g1 _ _ (vW st)
 obtain ⟨u3,e3,r3⟩:=g1 _ _ (vV st)
 obtain ⟨u4,e4,r4⟩:=g1 _ _ (ZX st)
 cases r1
 walk_at "T"
 refine ⟨_,(zd (zj (qa ⟨rfl,rfl,rfl⟩ hr (za (zl (pv 0) rfl) (za (zl (pv 0) rfl) (za (zl (pv 0) rfl) (za (zl (pv 0) rfl) zb))))))),?_⟩
 walk_at "go"
 refine iE4 a.State _ _ _ ⟨(Q8 T).mono,iE5 y a.State dx fs _ (iA6 rfl hy T.C_State T.N_State_turn e1 ?_)⟩
 refine ra hy T.C_State T.N_State_cells e2 ?_
 refine ra hy T.C_State T.N_State_sides e3 ?_
 refine ra hy T.C_State T.N_State_gone e4 ?_
 exact Qo T (st:=st) r2 r3 r4 lc lg fun y' H' s' sn=>k _ _ s' sn
theorem c_copied_state (T:Txt K mg a):Cal P w K mg base "copied_state" 3 ["state"] [] (Z6 a):=T.h_copied_state.cal (ok_copied_state T)
def wn (a:Ad):Sp:=fun vs H Q _=>∃ (vw v:V) (st:PSt) (bs:List (Int × Int)) (rs:List Row) (p:Addr→Prop),vs=[vw,v]∧Rep H (Off []) vw (qJ a bs rs)∧Rep H p v (xB a st)∧stWf bs rs st∧zL bs rs∧(∀ b∈bs,zA b.1 b.2)∧(∀ r∈rs,r.ok) ∧
 ∀ v' H',Same H H'→vP a H H' v' (passF bs rs st).1→Q v' H'
theorem i_spOneTurn {a:Ad} {vs:List V} {H:Hp} {Q:VK} {E:XK} (vw v:V) (st:PSt) (bs:List (Int × Int)) (rs:List Row) (p:Addr→Prop) (q0:vs=[vw,v]) (q1:Rep H (Off []) vw (qJ a bs rs)) (q2:Rep H p v (xB a st)) (q3:stWf bs rs st) (q4:zL bs rs) (q5:(∀ b∈bs,zA b.1 b.2)) (q6:(∀ r∈rs,r.ok)) (q7:∀ v' H',Same H H'→vP a H H' v' (passF bs rs st).1→Q v' H'):wn a vs H Q E:=⟨vw,v,st,bs,rs,p,q0,q1,q2,q3,q4,q5,q6,q7⟩
theorem ok_one_turn (T:Txt K mg a) (F:Fun K "one_turn" "one_turn" s_one_turn f fd):FnOk P w K mg base (CXr P w) 7 f fd ["work","state"] (wn a):=by
 refine F.okx sc_one_turn ?_ ?_
 ·walk_at "i"
 walk_at "j"
 refine oE6 h fun vw v st bs rs p z1_=>oA8 z1_ fun z2_ hw hv wf wok bo ro k=>?_
 clear h
 subst z2_
 have b24:=wok.1.1.2
 have r24:=wok.1.2.2
 walk_at "T"
 refine ⟨_,(zh (zx 2 sc_one_turn.nd (zv ⟨rfl,rfl,rfl⟩ hr (za (pv 1) zb)))  (zh (zt (zv ⟨rfl,rfl,rfl⟩ hr (za (pv 0) (za (pv 2) zb))))  (zd (zj (pv 2))))),?_⟩
 walk_at "go"
 refine uc (c_copied_state T).mono (iE3 v st p (iA5 rfl hv (by rw [wf.co.1]; omega) (by rw [wf.go.1]; omega) (fun v' H1 s1 sn=>?_)))
 refine oE2 sn fun y n z1_=>oA5 z1_ fun z2_ so1 ny nd nn=>?_
 clear sn
 subst z2_
 have na:∀ b∈y :: n.all,H b=none:=fun b hb=>by
  rcases List.mem_cons.mp hb with rfl | hb
  ·exact ny
  ·exact nn b hb
 have hw1:Rep H1 (Off (y :: n.all)) vw (qJ a bs rs):=qU (hw.more (ns:=y :: n.all) fun b hb=>.inr (na b hb)) s1
 walk_at "go"
 refine uc (wL T).mono (iE6 vw y n st bs rs (iA8 rfl hw1 so1 wf wok bo ro (fun l us H2 f2 so2 _ _ _ _=>?_)))
 walk_at "go"
 exact k _ _ (fun b o hb=>f2 b o (fun z=>by rw [na b z] at hb; cases hb) (s1 b o hb)) (iE2 y n (iA5 rfl so2 ny nd nn))
theorem c_one_turn (T:Txt K mg a):Cal P w K mg base "one_turn" 7 ["work","state"] [] (wn a):=T.h_one_turn.cal (ok_one_turn T)
def qV (bs:List (Int × Int)) (rs:List Row):Nat→PSt
 | 0=>qc bs rs
 | n + 1=>(passF bs rs (qV bs rs n)).1
theorem empty_wf {bs:List (Int × Int)} {rs:List Row} (ro:∀ r∈rs,r.ok):stWf bs rs (qc bs rs):=by
 refine ⟨⟨by simp [qc],fun i b c h1 h2=>?_⟩,⟨by simp [qc],fun i r s h1 h2=>?_⟩,⟨by simp [qc],fun i r g h1 h2=>?_⟩⟩
 ·simp only [qc,List.getElem?_map,h1,Option.map_some,Option.some.injEq] at h2
  subst h2
  refine ⟨by simp,fun x hx=>?_⟩
  rw [(List.mem_replicate.mp hx).2]
  exact wg
 ·have hs:=List.mem_of_getElem? h2
  have e:s=0:=(List.mem_replicate.mp hs).2
  subst e
  have ok:=ro r (List.mem_of_getElem? h1)
  obtain ⟨wd,ins,outs,pc,ks⟩:=r
  refine iA4 (by decide) (fun hw=>?_) (fun hw=>?_) (fun _ _=>rfl)
  ·simp only at hw
   subst hw
   have:=ok.2.1
   simp only at this ⊢
   omega
  ·simp only at hw
   subst hw
   have:=ok.2.1
   simp only at this ⊢
   omega
 ·simp only [qc,List.getElem?_map,h1,Option.map_some,Option.some.injEq] at h2
  subst h2
  refine ⟨rfl,fun n hn=>?_⟩
  rw [(List.mem_replicate.mp hn).2]
  decide
theorem jf {bs:List (Int × Int)} {rs:List Row} (wok:zL bs rs) (bo:∀ b∈bs,zA b.1 b.2) (ro:∀ r∈rs,r.ok):∀ n,stWf bs rs (qV bs rs n)
 | 0=>empty_wf ro
 | n + 1=>passF_wf (jf wok bo ro n) wok bo ro
def wS (a:Ad):Sp:=fun vs H Q _=>∃ (vw:V) (n:Nat) (bs:List (Int × Int)) (rs:List Row),vs=[vw,.int n]∧Rep H (Off []) vw (qJ a bs rs)∧zL bs rs∧(∀ b∈bs,zA b.1 b.2)∧(∀ r∈rs,r.ok)∧n≤1000∧∀ v' H',Same H H'→vP a H H' v' (qV bs rs n)→Q v' H'
theorem i_spPlayed {a:Ad} {vs:List V} {H:Hp} {Q:VK} {E:XK} (vw:V) (n:Nat) (bs:List (Int × Int)) (rs:List Row) (q0:vs=[vw,.int n]) (q1:Rep H (Off []) vw (qJ a bs rs)) (q2:zL bs rs) (q3:(∀ b∈bs,zA b.1 b.2)) (q4:(∀ r∈rs,r.ok)) (q5:n≤1000) (q6:∀ v' H',Same H H'→vP a H H' v' (qV bs rs n)→Q v' H'):wS a vs H Q E:=⟨vw,n,bs,rs,q0,q1,q2,q3,q4,q5,q6⟩
theorem ok_played (T:Txt K mg a) (F:Fun K "played" "played" s_played f fd):FnOk P w K mg base (CXr P w) 7 f fd ["work","turns"] (wS a):=by
 refine F.okx sc_played ?_ ?_
 ·walk_at "i"
 walk_at "j"
 refine oE4 h fun vw m bs rs z1_=>oA7 z1_ fun z2_ hw wok bo ro hm k=>?_
 clear h
 subst z2_
 have b24:=wok.1.1.2
 have r24:=wok.1.2.2
 walk_at "T"
 refine ⟨_,(zh (zx 2 sc_played.nd (zv ⟨rfl,rfl,rfl⟩ hr (za (pv 0) zb)))  (zX (qd qC rfl (jT (za (pv 1) zb)) (pg_n 3 sc_played.nd)  (zd (zt (zv ⟨rfl,rfl,rfl⟩ hr (za (pv 0) (za (pv 2) zb))))))  (zd (zj (pv 2))))),?_⟩
 walk_at "go"
 refine uc (c_empty_state T).mono (iE4 vw bs rs _ (iA7 rfl hw b24 r24 bo ro (fun v' H1 s1 sn=>?_)))
 refine oE2 sn fun y n z1_=>oA5 z1_ fun z2_ so1 ny nd nn=>?_
 clear sn
 subst z2_
 have na:∀ b∈y :: n.all,H b=none:=fun b hb=>by
  rcases List.mem_cons.mp hb with rfl | hb
  ·exact ny
  ·exact nn b hb
 have hw1:Rep H1 (Off (y :: n.all)) vw (qJ a bs rs):=qU (hw.more (ns:=y :: n.all) fun b hb=>.inr (na b hb)) s1
 walk_at "go"
 refine cut (fun σ' H'=>∃ (v3:Option V),σ'=[some vw,some (.int m),some (.ref y),v3]∧Fr (y :: n.all) H1 H'∧StO a H' y n (qV bs rs m)) ?_ ?_
 ·walk_at "for"
  walk_at "go"
  refine ⟨by omega,by omega,?_⟩
  refine wK (n:=(m:Int).toNat) (fun i σ H'=>∃ (v3:Option V),σ=[some vw,some (.int m),some (.ref y),v3]∧Fr (y :: n.all) H1 H'∧StO a H' y n (qV bs rs i)) ⟨_,iA3 rfl Fr.refl so1⟩ ?_ (fun σ H' h=>?_)
  ·intro i σ H2 hi zz_
   refine oE1 zz_ fun v3 z1_=>oA3 z1_ fun z2_ f2 so2=>?_
   clear zz_
   subst z2_
   walk_at "go"
   refine uc (wL T).mono (iE6 vw y n _ bs rs (iA8 rfl (hw1.fr f2) so2 (jf wok bo ro i) wok bo ro (fun l us H3 f3 so3 _ _ _ _=>?_)))
   exact ⟨_,iA3 rfl (f2.trans f3) so3⟩
  ·rw [show ((m:Int)).toNat=m by simp] at h
   exact h
 intro σ' H2 zz_
 refine oE1 zz_ fun v3 z1_=>oA3 z1_ fun z2_ f2 so2=>?_
 clear zz_
 subst z2_
 walk_at "go"
 exact k _ _ (fun b o hb=>f2 b o (fun z=>by rw [na b z] at hb; cases hb) (s1 b o hb)) (iE2 y n (iA5 rfl so2 ny nd nn))
theorem c_played (T:Txt K mg a):Cal P w K mg base "played" 7 ["work","turns"] [] (wS a):=T.h_played.cal (ok_played T)
theorem takenF_keep {st:PSt} {k:Nat} {fb:Option Int}:(zM st k fb).2.turn=st.turn∧(zM st k fb).2.sides=st.sides∧(zM st k fb).2.gone=st.gone:=by
 cases fb <;> exact ⟨rfl,rfl,rfl⟩
theorem placeF_keep {st:PSt} {x:Ware} {tb:Option Int}:(jS st x tb).turn=st.turn∧(jS st x tb).sides=st.sides∧(jS st x tb).gone=st.gone:=by
 cases tb <;> exact ⟨rfl,rfl,rfl⟩
theorem wE {r:Row} {st:PSt} {k:Nat} {ch:Option Nat × Option Nat × Nat}:(movedF r st k ch).turn=st.turn∧(movedF r st k ch).sides=st.sides∧(movedF r st k ch).gone=st.gone:=by
 obtain ⟨a1,a2,a3⟩:=takenF_keep (st:=st) (k:=k) (fb:=fbOf r ch)
 obtain ⟨b1,b2,b3⟩:=placeF_keep (st:=(zM st k (fbOf r ch)).2) (x:=(zM st k (fbOf r ch)).1) (tb:=tbOf r ch)
 exact ⟨b1.trans a1,b2.trans a2,b3.trans a3⟩
theorem wJ {α:Type} {xs:List α} {k j:Nat} {x d:α} (h:k≠j):(xs.set k x).getD j d=xs.getD j d:=by
 rw [List.getD_eq_getElem?_getD,List.getD_eq_getElem?_getD,List.getElem?_set_ne h]
theorem xg {bs:List Bool} {side:Nat}:∀ (n i:Nat) {p:Nat},fpAt bs side n i=some p→bs.getD p false=true
 | 0,_,_,h=>by simp [fpAt] at h
 | n + 1,i,p,h=>by
  unfold fpAt at h
  split at h
  ·rename_i hb
   cases h
   exact hb
  ·exact xg n (i + 1) h
theorem kindW_some {rs:List Row} {x:Ware} (h:Qu rs x≠none):∃ y,x=some y:=by
 cases x with
 | none=>exact absurd rfl h
 | some y=>exact ⟨y,rfl⟩
theorem choice_ware {rs:List Row} {cs:List (List Ware)} {r:Row} {bs:List Bool} {t:Int} {side:Nat} {ch:Option Nat × Option Nat × Nat} (h:zW r (zR rs cs r) bs t side=some ch) {j:Nat} (e:ch.1=some j):(zR rs cs r).getD j none≠none:=by
 unfold zW at h
 split at h
 ·split at h
  ·cases h; cases e
  ·cases h
 ·split at h
  ·cases h
  ·rename_i hb
   cases h
   cases e
   exact fun z=>hb (.inr (.inl z))
 ·split at h
  ·cases h
  ·rename_i hb
   rw [Option.map_eq_some_iff] at h
   obtain ⟨q,_,rfl⟩:=h
   cases e
   exact hb
 ·split at h
  ·cases h
  ·rename_i hb
   rw [Option.map_eq_some_iff] at h
   obtain ⟨q,_,rfl⟩:=h
   cases e
   exact hb
 ·split at h
  ·cases h
  ·rename_i hb
   generalize (if (zR rs cs r).getD 0 none=some (r.kinds.headD 0) then 0 else 1)=q at h
   have q2:q=q:=rfl
   split at h
   ·cases h
    cases e
    exact hb
   ·cases h
 ·split at h
  ·rw [Option.map_eq_some_iff] at h
   obtain ⟨q,hq,rfl⟩:=h
   cases e
   have:=xg _ _ hq
   intro z
   rw [List.getD_eq_getElem?_getD,List.getElem?_map] at this
   rw [List.getD_eq_getElem?_getD] at z
   cases e2:(zR rs cs r)[j]? with
   | none=>rw [e2] at this; cases this
   | some o =>
    rw [e2] at this z
    simp at z
    subst z
    cases this
  ·cases h
theorem act_ware {rs:List Row} {st:PSt} {k:Nat} {m:Move} (h:(actF rs st k).2=some m):∃ x,m.ware=some x:=by
 unfold actF at h
 cases hr:rs[k]? with
 | none=>rw [hr] at h; cases h
 | some r =>
  rw [hr] at h
  simp only at h
  cases hc:zW r (zR rs st.cells r) (qj st.cells r) st.turn (st.sides.getD k 0).toNat with
  | none=>rw [hc] at h; cases h
  | some ch =>
   rw [hc] at h
   cases h
   show ∃ x,(zM st k (fbOf r ch)).1=some x
   cases e:ch.1 with
   | none =>
    rw [show fbOf r ch=none by unfold fbOf; rw [e]; rfl]
    exact ⟨_,rfl⟩
   | some j =>
    cases e2:r.ins[j]? with
    | none =>
     rw [show fbOf r ch=none by unfold fbOf; rw [e]; exact e2]
     exact ⟨_,rfl⟩
    | some b =>
     rw [show fbOf r ch=some b by unfold fbOf; rw [e]; exact e2]
     have:=choice_ware hc e
     rw [List.getD_eq_getElem?_getD,zR,List.getElem?_map,e2] at this
     exact kindW_some (x:=endW (zw st.cells b)) this
theorem ZL {H:Hp} {n:Nat} {x:V} (h:ju x=true) (e:eqV x x=true):DE K H n x x true:=e ▸ .flat h h
theorem de_ware {H:Hp} {t1 t2:Addr} {x:Int × Int} (h1:H t1=some (.tup [.int x.1,.int x.2])) (h2:H t2=some (.tup [.int x.1,.int x.2])):DE K H 1 (.ref t1) (.ref t2) true:=by
 by_cases e:t1=t2
 ·rw [e]; exact .same
 ·refine DE.tuples (n:=0) (e:=fun _=>true) e (SqT.of h1) (SqT.of h2) fun j u v hu hv=>?_
  rw [hu] at hv
  cases hv
  have:u∈[V.int x.1,V.int x.2]:=List.mem_of_getElem? hu
  simp only [List.mem_cons,List.not_mem_nil,or_false] at this
  rcases this with rfl | rfl
  ·exact ZL rfl (by simp [eqV])
  ·exact ZL rfl (by simp [eqV])
theorem choice_more {rs:List Row} {cs:List (List Ware)} {r:Row} {t:Int} {side:Nat} {ch:Option Nat × Option Nat × Nat} (ok:r.ok) (h:zW r (zR rs cs r) (qj cs r) t side=some ch) :
  (r.wd=.joiner→∃ j,ch=(some j,some 0,(j + 1) % r.ins.length))∧(r.wd=.parter→∃ p,ch=(some 0,some p,(p + 1) % r.outs.length))∧(r.wd≠.joiner→r.wd≠.parter→ch.2.2=side)∧(r.wd=.source→ch.1=none)∧(r.wd≠.source→ch.1≠none)∧(r.wd=.drain→ch.2.1=none)∧(r.wd≠.drain→∃ p,ch.2.1=some p∧(qj cs r).getD p false=true):=by
 have lh:(zR rs cs r).length=r.ins.length:=by simp [zR]
 have lf:(qj cs r).length=r.outs.length:=by simp [qj]
 obtain ⟨wd,ins,outs,pace,kinds⟩:=r
 unfold zW at h
 cases wd with
 | source =>
  simp only at h
  split at h
  ·rename_i hb
   cases h
   exact ⟨(fun z=>nomatch z),(fun z=>nomatch z),(fun _ _=>rfl),(fun _=>rfl),(fun z=>absurd rfl z),(fun z=>nomatch z),fun _=>⟨0,rfl,hb.1⟩⟩
  ·cases h
 | drain =>
  simp only at h
  split at h
  ·cases h
  ·cases h
   exact ⟨(fun z=>nomatch z),(fun z=>nomatch z),(fun _ _=>rfl),(fun z=>nomatch z),(fun _ z=>nomatch z),(fun _=>rfl),fun z=>absurd rfl z⟩
 | parter =>
  simp only at h
  split at h
  ·cases h
  ·rw [Option.map_eq_some_iff] at h
   obtain ⟨q,hq,rfl⟩:=h
   exact ⟨(fun z=>nomatch z),(fun _=>⟨q,by rw [lf]⟩),(fun _ z=>absurd rfl z),(fun z=>nomatch z),(fun _ z=>nomatch z),(fun z=>nomatch z),fun _=>⟨q,rfl,xg _ _ hq⟩⟩
 | first =>
  simp only at h
  split at h
  ·cases h
  ·rw [Option.map_eq_some_iff] at h
   obtain ⟨q,hq,rfl⟩:=h
   exact ⟨(fun z=>nomatch z),(fun z=>nomatch z),(fun _ _=>rfl),(fun z=>nomatch z),(fun _ z=>nomatch z),(fun z=>nomatch z),fun _=>⟨q,rfl,xg _ _ hq⟩⟩
 | sieve =>
  simp only at h
  split at h
  ·cases h
  ·split at h
   ·split at h
    ·rename_i hb
     cases h
     exact ⟨(fun z=>nomatch z),(fun z=>nomatch z),(fun _ _=>rfl),(fun z=>nomatch z),(fun _ z=>nomatch z),(fun z=>nomatch z),fun _=>⟨_,rfl,hb⟩⟩
    ·cases h
   ·split at h
    ·rename_i hb
     cases h
     exact ⟨(fun z=>nomatch z),(fun z=>nomatch z),(fun _ _=>rfl),(fun z=>nomatch z),(fun _ z=>nomatch z),(fun z=>nomatch z),fun _=>⟨_,rfl,hb⟩⟩
    ·cases h
 | joiner =>
  simp only at h
  split at h
  ·rename_i hb
   rw [Option.map_eq_some_iff] at h
   obtain ⟨q,hq,rfl⟩:=h
   exact ⟨(fun _=>⟨q,by rw [lh]⟩),(fun z=>nomatch z),(fun z=>absurd rfl z),(fun z=>nomatch z),(fun _ z=>nomatch z),(fun z=>nomatch z),fun _=>⟨0,rfl,hb⟩⟩
  ·cases h
section
variable {H H':Hp} {C:Addr} {as:List Addr} {css:List (List Ware)}
theorem NLC.put {i:Nat} {b:Addr} {c':List Ware} {vs:List V} (h:NL H (TupP H) C as (zu css)) (e:as[i]?=some b) (r:Reps H (TupP H) vs (c'.map zN)):NL (upd H b (.lst vs)) (TupP (upd H b (.lst vs))) C as (zu (css.set i c')):=by
 obtain ⟨us,hu⟩:=h.isl (List.mem_cons_of_mem _ (List.mem_of_getElem? e))
 have ntb:¬ TupP H b:=fun ⟨xs,hx⟩=>by rw [hu] at hx; cases hx
 have:=h.put (vs:=vs) (ys:=c'.map zN) e ntb r
 rw [show zu (css.set i c')=(zu css).set i (c'.map zN) by simp [zu,List.map_set]]
 exact this.keep (fun _ _ _ hc=>hc) fun c hc _=>jx hu hc
theorem NLC.offT {xss:List (List D)} {p:Addr→Prop} (h:NL H p C as xss) {b:Addr} (t:TupP H b):b ∉ C :: as:=fun hb=>by
 obtain ⟨us,hu⟩:=h.isl hb
 obtain ⟨xs,hx⟩:=t
 rw [hu] at hx
 cases hx
theorem NLC.cell {i:Nat} {c:List Ware} (h:NL H (TupP H) C as (zu css)) (e:css[i]?=some c):∃ b vs,as[i]?=some b∧H b=some (.lst vs)∧Reps H (TupP H) vs (c.map zN):=h.at (by rw [zu,List.getElem?_map,e]; rfl)
end
theorem beg_end {c:List Ware} (h:begW c=none):begW (jn c)=none:=by
 cases c with
 | nil=>rfl
 | cons x xs =>
  cases xs with
  | nil=>rfl
  | cons y ys=>exact h
theorem taken_free {st:PSt} {k:Nat} {fb:Option Int} {b2:Int} (h:begW (zw st.cells b2)=none):begW (zw (zM st k fb).2.cells b2)=none:=by
 cases fb with
 | none=>exact h
 | some b =>
  show begW ((st.cells.set b.toNat (jn (zw st.cells b))).getD b2.toNat [])=none
  by_cases e:b.toNat=b2.toNat
  ·rw [e]
   by_cases l:b2.toNat < st.cells.length
   ·rw [List.getD_eq_getElem?_getD,List.getElem?_set_self l]
    have:zw st.cells b=zw st.cells b2:=by unfold zw; rw [e]
    rw [this]
    exact beg_end h
   ·rw [List.set_eq_of_length_le (by omega)]
    exact h
  ·rw [wJ e]
   exact h
theorem act_some {rs:List Row} {st:PSt} {k:Nat} {m:Move} (h:(actF rs st k).2=some m):∃ r ch,rs[k]?=some r∧zW r (zR rs st.cells r) (qj st.cells r) st.turn (st.sides.getD k 0).toNat=some ch∧actF rs st k=((qI r st k ch).1,some (qI r st k ch).2)∧m=(qI r st k ch).2:=by
 cases e:rs[k]? with
 | none=>unfold actF at h; rw [e] at h; cases h
 | some r =>
  cases e2:zW r (zR rs st.cells r) (qj st.cells r) st.turn (st.sides.getD k 0).toNat with
  | none=>unfold actF at h; rw [e] at h; simp only at h; rw [e2] at h; cases h
  | some ch =>
   have ea:actF rs st k=((qI r st k ch).1,some (qI r st k ch).2):=by
    unfold actF
    rw [e]
    simp only
    rw [e2]
   rw [ea] at h
   exact iE2 r ch (iA4 rfl e2 ea ((Option.some.inj h).symm))
def zr (c:List Ware):List (Int × Int):=c.reverse.filterMap id
theorem queue_set {c:List Ware} {p:Nat} {x:Ware} (h1:c[p]?=some x) (h2:c[p + 1]?=some none):zr ((c.set (p + 1) x).set p none)=zr c:=by
 obtain ⟨hp,e1⟩:=List.getElem?_eq_some_iff.mp h1
 obtain ⟨hp2,e2⟩:=List.getElem?_eq_some_iff.mp h2
 have ec:c=c.take p ++ x :: none :: c.drop (p + 2):=by
  conv=>lhs; rw [← List.take_append_drop p c]
  rw [List.drop_eq_getElem_cons hp,e1,List.drop_eq_getElem_cons hp2,e2]
 have lt:(c.take p).length=p:=by rw [List.length_take]; omega
 generalize c.take p=l at ec lt
 generalize c.drop (p + 2)=r at ec
 subst ec
 have s1:((l ++ x :: none :: r).set (p + 1) x).set p none=l ++ none :: x :: r:=by
  rw [List.set_append_right _ _ (by omega),show p + 1 - l.length=1 by omega]
  rw [List.set_append_right _ _ (by omega),show p - l.length=0 by omega]
  rfl
 rw [s1]
 unfold zr
 cases x <;> simp
theorem queue_step {c:List Ware} {p:Nat} (h:p + 1 < c.length):zr (jo c p)=zr c:=by
 unfold jo
 split
 ·rename_i e
  exact queue_set (atD (by omega)) (by rw [atD h,e])
 ·rfl
theorem Qb {c:List Ware}:∀ k,k≤c.length - 1→zr (mvGo c k)=zr c
 | 0,_=>rfl
 | k + 1,h=>by
  rw [mvGo,queue_step (by rw [xV]; omega)]
  exact Qb k (by omega)
theorem queue_move (c:List Ware):zr (JM c)=zr c:=Qb _ (Nat.le_refl _)
theorem queue_end {c:List Ware} {x:Int × Int} (h:endW c=some x):zr c=x :: zr (jn c):=by
 have hne:c≠[]:=fun z=>by rw [z] at h; cases h
 obtain ⟨l,y,rfl⟩:∃ l y,c=l ++ [y]:=⟨c.dropLast,c.getLast hne,(List.dropLast_concat_getLast hne).symm⟩
 have ey:y=some x:=by simpa [endW] using h
 subst ey
 unfold zr jn
 rw [show (l ++ [some x]).set ((l ++ [some x]).length - 1) none=l ++ [none] by
  rw [List.set_append_right _ _ (by simp),show (l ++ [some x]).length - 1 - l.length=0 by simp]
  rfl]
 simp
theorem queue_put {c:List Ware} {x:Int × Int} (hne:c≠[]) (h:begW c=none):zr (c.set 0 (some x))=zr c ++ [x]:=by
 cases c with
 | nil=>exact absurd rfl hne
 | cons y ys =>
  have ey:y=none:=h
  subst ey
  unfold zr
  simp
def jI (q:List (List (Int × Int))):Option Int→List (List (Int × Int))
 | none=>q
 | some b=>q.set b.toNat (q.getD b.toNat []).tail
def putQ (q:List (List (Int × Int))) (x:Int × Int):Option Int→List (List (Int × Int))
 | none=>q
 | some b=>q.set b.toNat (q.getD b.toNat [] ++ [x])
theorem q_at (cs:List (List Ware)) (b:Int):(cs.map zr).getD b.toNat []=zr (zw cs b):=by
 unfold zw
 rw [List.getD_eq_getElem?_getD,List.getD_eq_getElem?_getD,List.getElem?_map]
 cases cs[b.toNat]? <;> rfl
theorem taken_q {st:PSt} {k:Nat} {fb:Option Int} {x:Int × Int} (h:(zM st k fb).1=some x):(zM st k fb).2.cells.map zr=jI (st.cells.map zr) fb∧∀ b,fb=some b→(st.cells.map zr).getD b.toNat []=x :: ((st.cells.map zr).getD b.toNat []).tail:=by
 cases fb with
 | none=>exact ⟨rfl,fun b z=>nomatch z⟩
 | some b =>
  have h:endW (zw st.cells b)=some x:=h
  have e:=queue_end h
  refine ⟨?_,fun b' z=>?_⟩
  ·show (st.cells.set b.toNat (jn (zw st.cells b))).map zr=(st.cells.map zr).set b.toNat _
   rw [List.map_set,q_at,e]
   rfl
  ·cases z
   rw [q_at,e]
   rfl
theorem place_q {st:PSt} {x:Int × Int} {tb:Option Int} (h:∀ b,tb=some b→zw st.cells b≠[]∧begW (zw st.cells b)=none):(jS st (some x) tb).cells.map zr=putQ (st.cells.map zr) x tb:=by
 cases tb with
 | none=>rfl
 | some b =>
  obtain ⟨h1,h2⟩:=h b rfl
  show (st.cells.set b.toNat ((zw st.cells b).set 0 (some x))).map zr=(st.cells.map zr).set b.toNat _
  rw [List.map_set,q_at,queue_put h1 h2]
theorem ZN (bs:List (Int × Int)) (t:Int) (cs:List (List Ware)):∀ i,(qp bs t cs i).map zr=cs.map zr
 | 0=>rfl
 | i + 1=>by
  rw [qp]
  split
  ·rw [List.map_set,queue_move]
   have ih:=ZN bs t cs i
   generalize qp bs t cs i=ds at ih ⊢
   rw [← ih]
   cases e:ds[i]? with
   | none=>rw [List.set_eq_of_length_le (by rw [List.length_map]; exact List.getElem?_eq_none_iff.mp e)]
   | some c =>
    obtain ⟨hi,ec⟩:=List.getElem?_eq_some_iff.mp e
    rw [List.getD_eq_getElem?_getD,e]
    refine List.ext_getElem? fun j=>?_
    by_cases hj:i=j
    ·subst hj
     rw [List.getElem?_set_self (by rw [List.length_map]; exact hi),List.getElem?_map,e]
     rfl
    ·rw [List.getElem?_set_ne hj]
  ·exact ZN bs t cs i
def kW (x:Int × Int):List Key:=[.inl x.1,.inl x.2]
theorem kW_inj {x y:Int × Int} (h:kW x=kW y):x=y:=by
 obtain ⟨a,b⟩:=x
 obtain ⟨c,d⟩:=y
 simp only [kW,List.cons.injEq,Sum.inl.injEq,and_true] at h
 rw [h.1,h.2]
theorem big30000 {n:Nat} (h:n≤30000):n < sizeLine:=Nat.lt_of_le_of_lt h (by decide)
theorem Qx {α:Type} {xs:List (List α)} {i:Nat} {p:List α} (h:xs[i]?=some p):∃ l r,xs=l ++ p :: r∧∀ q,xs.set i q=l ++ q :: r:=by
 obtain ⟨hi,e⟩:=List.getElem?_eq_some_iff.mp h
 refine ⟨xs.take i,xs.drop (i + 1),?_,fun q=>?_⟩
 ·conv=>lhs; rw [← List.take_append_drop i xs,List.drop_eq_getElem_cons hi,e]
 ·rw [List.set_eq_take_append_cons_drop,if_pos hi]
theorem vT {q:List (List (Int × Int))} {i:Nat} {x:Int × Int} {tl:List (Int × Int)} (h:q[i]?=some (x :: tl)):q.flatten.Perm (x :: (q.set i tl).flatten):=by
 obtain ⟨l,r,e,k⟩:=Qx h
 rw [k,e,List.flatten_append,List.flatten_append,List.flatten_cons,List.flatten_cons,List.cons_append]
 exact List.perm_middle
theorem Qc {q:List (List (Int × Int))} {i:Nat} {x:Int × Int} {p:List (Int × Int)} (h:q[i]?=some p):(q.set i (p ++ [x])).flatten.Perm (x :: q.flatten):=by
 obtain ⟨l,r,e,k⟩:=Qx h
 rw [k,e,List.flatten_append,List.flatten_append,List.flatten_cons,List.flatten_cons,List.append_assoc,List.singleton_append]
 refine List.Perm.trans (List.Perm.append_left _ List.perm_middle) ?_
 exact List.perm_middle
structure WL (q:List (List (Int × Int))) (gone:List (List Int)) (giv tak:List (Int × Int)):Prop where
 nd:giv.Nodup
 pm:(tak ++ q.flatten).Perm giv
 lt:∀ y∈giv,y.2 < (gone.getD y.1.toNat []).headD 0
theorem WL.ndt {q:List (List (Int × Int))} {gone:List (List Int)} {giv tak:List (Int × Int)} (h:WL q gone giv tak):(tak ++ q.flatten).Nodup:=h.pm.nodup_iff.mpr h.nd
def addO (o:Option Int) (x:Int × Int) (l:List (Int × Int)):List (Int × Int):=match o with
 | none=>l ++ [x]
 | some _=>l
theorem bump_head (g:List Int) (j:Nat):g.headD 0≤(bump g j).headD 0:=by
 cases g with
 | nil=>exact Int.le_refl _
 | cons y ys =>
  cases j with
  | zero=>show y≤y + 1; omega
  | succ j=>exact Int.le_refl _
theorem Jf (gone:List (List Int)) (k i j:Nat):(gone.getD i []).headD 0≤((gone.set k (bump (gone.getD k []) j)).getD i []).headD 0:=by
 by_cases e:k=i
 ·subst e
  by_cases l:k < gone.length
  ·rw [List.getD_eq_getElem?_getD (l:=gone.set _ _),List.getElem?_set_self l]
   exact bump_head _ _
  ·rw [List.set_eq_of_length_le (by omega)]
   exact Int.le_refl _
 ·rw [wJ e]
  exact Int.le_refl _
theorem vG {bs:List (Int × Int)} {rs:List Row} {st:PSt} {k:Nat} {r:Row} {ch:Option Nat × Option Nat × Nat} {side:Nat} {x:Int × Int} (wf:stWf bs rs st) (wok:zL bs rs) (bo:∀ b∈bs,zA b.1 b.2) (ro:∀ r∈rs,r.ok) (hr':rs[k]?=some r) (hside:st.sides[k]?=some (side:Int)) (hc:zW r (zR rs st.cells r) (qj st.cells r) st.turn side=some ch) (ex:(zM st k (fbOf r ch)).1=some x) :
  (fbOf r ch=none→r.wd=.source∧x=((k:Int),(st.gone.getD k []).headD 0))∧(∀ b,fbOf r ch=some b→∃ (i:Nat) (tl:List (Int × Int)),b=i∧(st.cells.map zr)[i]?=some (x :: tl)∧jI (st.cells.map zr) (fbOf r ch)=(st.cells.map zr).set i tl)∧(tbOf r ch=none→r.wd=.drain) ∧
  (∀ b,tbOf r ch=some b→r.wd≠.drain∧∃ (i:Nat) (p:List (Int × Int)),b=i∧(jI (st.cells.map zr) (fbOf r ch))[i]?=some p∧(qI r st k ch).1.cells.map zr=(jI (st.cells.map zr) (fbOf r ch)).set i (p ++ [x])) ∧
  (tbOf r ch=none→(qI r st k ch).1.cells.map zr=jI (st.cells.map zr) (fbOf r ch)):=by
 have ok:=ro r (List.mem_of_getElem? hr')
 have hsd':jQ r (side:Int):=wf.so.2 k r _ hr' hside
 obtain ⟨c1,c2,c3,c4,c5,c6⟩:=xh ok (by simp [zR]) (by simp [qj]) hsd' hc
 obtain ⟨d1,d2,d3,d4,d5,d6,d7⟩:=choice_more ok hc
 have hfn:fbOf r ch=none→r.wd=.source:=fun hb=>by
  cases e:ch.1 with
  | none=>exact c4 e
  | some j =>
   unfold fbOf at hb
   rw [e] at hb
   simp at hb
   have:=c1 j e
   omega
 obtain ⟨w1,w2⟩:=wQ wf wok bo ro hr' (fb:=fbOf r ch) (fun b hb=>by
  unfold fbOf at hb
  obtain ⟨j,hj1,hj2⟩:=Option.bind_eq_some_iff.mp hb
  exact xf wok hr' (List.mem_of_getElem? hj2)) hfn
 obtain ⟨tq1,tq2⟩:=taken_q ex
 have htq:∀ b,tbOf r ch=some b→r.wd≠.drain∧∃ i:Nat,b=i∧(zM st k (fbOf r ch)).2.cells[i]?=some (zw (zM st k (fbOf r ch)).2.cells b)∧zw (zM st k (fbOf r ch)).2.cells b≠[]∧begW (zw (zM st k (fbOf r ch)).2.cells b)=none:=fun b hb=>by
  obtain ⟨j,hj1,hj2⟩:=Option.bind_eq_some_iff.mp (show ch.2.1.bind (fun j=>r.outs[j]?)=some b from hb)
  have hw:r.wd≠.drain:=fun z=>by rw [d6 z] at hj1; cases hj1
  obtain ⟨p2,ep2,fp⟩:=d7 hw
  rw [ep2] at hj1
  cases hj1
  have fb0:begW (zw st.cells b)=none:=by
   have h1:(qj st.cells r)[j]?=some (decide (begW (zw st.cells b)=none)):=by rw [qj,List.getElem?_map,hj2]; rfl
   rw [List.getD_eq_getElem?_getD,h1] at fp
   exact of_decide_eq_true fp
  obtain ⟨i2,rfl,_,ei2,nei2,_⟩:=jd w1.co bo (xT wok hr' (List.mem_of_getElem? hj2))
  exact ⟨hw,i2,rfl,ei2,nei2,taken_free fb0⟩
 have ed:(qI r st k ch).1.cells.map zr=putQ (jI (st.cells.map zr) (fbOf r ch)) x (tbOf r ch):=by
  show (jS (zM st k (fbOf r ch)).2 (zM st k (fbOf r ch)).1 (tbOf r ch)).cells.map zr=_
  rw [ex,place_q fun b hb=>(htq b hb).2.elim fun i h=>⟨h.2.2.1,h.2.2.2⟩,tq1]
 refine ⟨fun hb=>⟨hfn hb,?_⟩,fun b hb=>?_,fun hb=>?_,fun b hb=>?_,fun hb=>?_⟩
 ·rw [hb] at ex
  have ex:(some ((k:Int),(st.gone.getD k []).headD 0):Ware)=some x:=ex
  cases ex; rfl
 ·obtain ⟨j,hj1,hj2⟩:=Option.bind_eq_some_iff.mp (show ch.1.bind (fun j=>r.ins[j]?)=some b from hb)
  have hq0:=tq2 b hb
  obtain ⟨i,rfl,hi,ei,nei,_⟩:=jd wf.co bo (xf wok hr' (List.mem_of_getElem? hj2))
  rw [Int.toNat_natCast] at hq0
  refine ⟨i,((st.cells.map zr).getD i []).tail,rfl,?_,by rw [hb]; rfl⟩
  rw [← hq0]; exact qE (by rw [List.length_map]; exact hi)
 ·by_cases h:r.wd=.drain
  ·exact h
  ·obtain ⟨p2,ep2,_⟩:=d7 h
   unfold tbOf at hb
   rw [ep2] at hb
   simp at hb
   have:=c2 p2 ep2
   omega
 ·obtain ⟨hw,i2,rfl,ei2,_,_⟩:=htq b hb
  have h2:(jI (st.cells.map zr) (fbOf r ch))[i2]?=some (zr (zw (zM st k (fbOf r ch)).2.cells i2)):=by rw [← tq1,List.getElem?_map,ei2]; rfl
  refine ⟨hw,i2,_,rfl,h2,?_⟩
  rw [ed,hb]
  show (jI (st.cells.map zr) (fbOf r ch)).set (i2:Int).toNat ((jI (st.cells.map zr) (fbOf r ch)).getD (i2:Int).toNat [] ++ [x])=_
  rw [Int.toNat_natCast,show (jI (st.cells.map zr) (fbOf r ch)).getD i2 []=zr (zw (zM st k (fbOf r ch)).2.cells i2) by rw [List.getD_eq_getElem?_getD,h2]; rfl]
 ·rw [ed,hb]
  rfl
theorem WL.done {bs:List (Int × Int)} {rs:List Row} {st:PSt} {k:Nat} {r:Row} {ch:Option Nat × Option Nat × Nat} {side:Nat} {x:Int × Int} {giv tak:List (Int × Int)} (h:WL (st.cells.map zr) st.gone giv tak) (wf:stWf bs rs st) (wok:zL bs rs) (bo:∀ b∈bs,zA b.1 b.2) (ro:∀ r∈rs,r.ok) (hr':rs[k]?=some r) (hside:st.sides[k]?=some (side:Int)) (hc:zW r (zR rs st.cells r) (qj st.cells r) st.turn side=some ch) (ex:(zM st k (fbOf r ch)).1=some x) :
  (fbOf r ch=none→x ∉ giv)∧(tbOf r ch=none→x ∉ tak)∧WL ((qI r st k ch).1.cells.map zr) (qI r st k ch).1.gone (addO (fbOf r ch) x giv) (addO (tbOf r ch) x tak):=by
 obtain ⟨e1,e2,e3,e4,e5⟩:=vG wf wok bo ro hr' hside hc ex
 have ok:=ro r (List.mem_of_getElem? hr')
 have hsd':jQ r (side:Int):=wf.so.2 k r _ hr' hside
 obtain ⟨_,_,_,_,_,c6⟩:=xh ok (by simp [zR]) (by simp [qj]) hsd' hc
 have hg:(qI r st k ch).1.gone=st.gone.set k (bump (st.gone.getD k []) (cpOf r ch)):=by
  obtain ⟨_,_,mg3⟩:=wE (r:=r) (st:=st) (k:=k) (ch:=ch)
  show (movedF r st k ch).gone.set k (bump ((movedF r st k ch).gone.getD k []) (cpOf r ch))=_
  rw [mg3]
 have nx:fbOf r ch=none→x ∉ giv:=fun hb z=>by
  have:=h.lt x z
  rw [(e1 hb).2] at this
  simp only [Int.toNat_natCast] at this
  omega
 have nt:x ∉ tak:=fun z=>by
  cases hb:fbOf r ch with
  | none=>exact nx hb (h.pm.mem_iff.mp (List.mem_append_left _ z))
  | some b =>
   obtain ⟨i,tl,_,hq,_⟩:=e2 b hb
   have hx:x∈(st.cells.map zr).flatten:=List.mem_flatten.mpr ⟨_,List.mem_of_getElem? hq,by simp⟩
   exact (List.nodup_append.mp h.ndt).2.2 x z x hx rfl
 have lt':∀ y∈giv,y.2 < ((qI r st k ch).1.gone.getD y.1.toNat []).headD 0:=fun y hy=>by
  rw [hg]
  exact Int.lt_of_lt_of_le (h.lt y hy) (Jf _ _ _ _)
 have ltx:fbOf r ch=none→x.2 < ((qI r st k ch).1.gone.getD x.1.toNat []).headD 0:=fun hb=>by
  obtain ⟨hw,rfl⟩:=e1 hb
  have hk:=(List.getElem?_eq_some_iff.mp hr').1
  have hg0:=qE (xs:=st.gone) (k:=k) (d:=[]) (by rw [wf.go.1]; exact hk)
  obtain ⟨q1,_⟩:=wf.go.2 k r _ hr' hg0
  have cl:(qR r).length=1:=by
   obtain ⟨wd,ins,outs,pc,ks⟩:=r
   simp only at hw
   subst hw
   obtain ⟨h1,⟨o,h2⟩,_⟩:=ok
   simp only at h1 h2
   subst h1 h2
   rfl
  rw [cl] at c6 q1
  have cp:cpOf r ch=0:=by omega
  obtain ⟨g0,eg⟩:∃ g0,st.gone.getD k []=[g0]:=by
   match st.gone.getD k [],q1 with
   | [g0],_=>exact ⟨g0,rfl⟩
  rw [hg,cp]
  simp only [Int.toNat_natCast]
  rw [List.getD_eq_getElem?_getD (l:=st.gone.set _ _),List.getElem?_set_self (by rw [wf.go.1]; exact hk),eg]
  show g0 < g0 + 1
  omega
 refine ⟨nx,fun _=>nt,?_⟩
 have q1:(addO (fbOf r ch) x giv).Perm (tak ++ x :: (jI (st.cells.map zr) (fbOf r ch)).flatten):=by
  cases hb:fbOf r ch with
  | none =>
   refine List.Perm.trans (List.perm_append_comm.trans (List.Perm.cons _ h.pm.symm)) ?_
   exact List.perm_middle.symm
  | some b =>
   obtain ⟨i,tl,_,hq,eq⟩:=e2 b hb
   rw [hb] at eq
   rw [eq]
   exact h.pm.symm.trans (List.Perm.append_left _ (vT hq))
 refine ⟨?_,?_,?_⟩
 ·cases hb:fbOf r ch with
  | none=>exact Q5 h.nd (nx hb)
  | some b=>exact h.nd
 ·refine List.Perm.trans ?_ q1.symm
  cases hb:tbOf r ch with
  | none =>
   rw [e5 hb]
   show (tak ++ [x] ++ _).Perm _
   rw [List.append_assoc]
   exact .refl _
  | some b =>
   obtain ⟨_,i,p,_,hp,eq⟩:=e4 b hb
   rw [eq]
   exact List.Perm.append_left _ (Qc hp)
 ·intro y hy
  cases hb:fbOf r ch with
  | none =>
   rw [hb] at hy
   rcases List.mem_append.mp hy with hy | hy
   ·exact lt' y hy
   ·rw [List.mem_singleton.mp hy]; exact ltx hb
  | some b =>
   rw [hb] at hy
   exact lt' y hy
theorem WL.len {q:List (List (Int × Int))} {gone:List (List Int)} {giv tak:List (Int × Int)} (h:WL q gone giv tak):tak.length≤giv.length:=by
 rw [← h.pm.length_eq,List.length_append]
 omega
theorem empty_q (bs:List (Int × Int)) (rs:List Row):(qc bs rs).cells.map zr=bs.map fun _=>[]:=by
 show (bs.map fun b=>List.replicate b.1.toNat none).map zr=_
 rw [List.map_map]
 refine List.map_congr_left fun b _=>?_
 show (List.replicate b.1.toNat none).reverse.filterMap id=[]
 rw [List.reverse_replicate]
 generalize b.1.toNat=n
 induction n with
 | zero=>rfl
 | succ n ih=>exact ih
theorem JH (bs:List (Int × Int)) (rs:List Row) (i:Nat):(qV bs rs (i + 1)).cells.map zr=(zT rs (qV bs rs i) rs.length).1.cells.map zr:=ZN _ _ _ _
theorem at_split {α:Type} {xs:List α} {i:Nat} {x:α} (h:xs[i]?=some x):xs=xs.take i ++ x :: xs.drop (i + 1):=by
 obtain ⟨hi,e⟩:=List.getElem?_eq_some_iff.mp h
 conv=>lhs; rw [← List.take_append_drop i xs,List.drop_eq_getElem_cons hi,e]
theorem vN {bs:List (Int × Int)} {rs:List Row} {s:PSt} (wf:stWf bs rs s) (k:Nat):(actF rs s k).1=s∨∃ (r:Row) (ch:Option Nat × Option Nat × Nat) (x:Int × Int),rs[k]?=some r∧s.sides[k]?=some (((s.sides.getD k 0).toNat:Nat):Int)∧zW r (zR rs s.cells r) (qj s.cells r) s.turn (s.sides.getD k 0).toNat=some ch∧(zM s k (fbOf r ch)).1=some x∧(actF rs s k).1=(qI r s k ch).1:=by
 cases hm:(actF rs s k).2 with
 | none =>
  refine .inl ?_
  unfold actF at hm ⊢
  cases hr:rs[k]? with
  | none=>rfl
  | some r =>
   simp only [hr] at hm ⊢
   cases hc:zW r (zR rs s.cells r) (qj s.cells r) s.turn (s.sides.getD k 0).toNat with
   | none=>rfl
   | some ch=>simp only [hc] at hm; cases hm
 | some m =>
  obtain ⟨r,ch,hr,hc,eA,rfl⟩:=act_some hm
  obtain ⟨x,ex⟩:=act_ware hm
  have hk:=(List.getElem?_eq_some_iff.mp hr).1
  have hsd:=qE (xs:=s.sides) (k:=k) (d:=0) (by rw [wf.so.1]; exact hk)
  have hs0:=(wf.so.2 k r _ hr hsd).1
  exact .inr ⟨r,ch,x,hr,by rw [hsd,Int.toNat_of_nonneg hs0],hc,ex,by rw [eA]⟩
def WLe (st:PSt):Prop:=∃ giv tak,WL (st.cells.map zr) st.gone giv tak
def NWo (s0 s:PSt):Prop:=(∀ k,(s0.gone.getD k []).headD 0≤(s.gone.getD k []).headD 0)∧∀ x∈(s.cells.map zr).flatten,x∈(s0.cells.map zr).flatten∨(s0.gone.getD x.1.toNat []).headD 0≤x.2
theorem NWo.refl (s:PSt):NWo s s:=⟨fun _=>Int.le_refl _,fun _ h=>.inl h⟩
section
variable {bs:List (Int × Int)} {rs:List Row} {s s0:PSt}
theorem done_gone {r:Row} {k:Nat} {ch:Option Nat × Option Nat × Nat}:(qI r s k ch).1.gone=s.gone.set k (bump (s.gone.getD k []) (cpOf r ch)):=by
 obtain ⟨_,_,mg3⟩:=wE (r:=r) (st:=s) (k:=k) (ch:=ch)
 show (movedF r s k ch).gone.set k (bump ((movedF r s k ch).gone.getD k []) (cpOf r ch))=_
 rw [mg3]
theorem act_WLe (wf:stWf bs rs s) (wok:zL bs rs) (bo:∀ b∈bs,zA b.1 b.2) (ro:∀ r∈rs,r.ok) (h:WLe s) (k:Nat):WLe (actF rs s k).1:=by
 rcases vN wf k with e | ⟨r,ch,x,hr,hsd,hc,ex,e⟩
 ·rw [e]; exact h
 ·rw [e]
  obtain ⟨giv,tak,wl⟩:=h
  exact ⟨_,_,(wl.done wf wok bo ro hr hsd hc ex).2.2⟩
theorem act_NWo (wf:stWf bs rs s) (wok:zL bs rs) (bo:∀ b∈bs,zA b.1 b.2) (ro:∀ r∈rs,r.ok) (h:NWo s0 s) (k:Nat):NWo s0 (actF rs s k).1:=by
 rcases vN wf k with e | ⟨r,ch,x,hr,hsd,hc,ex,e⟩
 ·rw [e]; exact h
 rw [e]
 obtain ⟨e1,e2,_,e4,e5⟩:=vG wf wok bo ro hr hsd hc ex
 refine ⟨fun j=>by rw [done_gone]; exact Int.le_trans (h.1 j) (Jf _ _ _ _),fun y hy=>?_⟩
 have m1:y=x∨y∈(jI (s.cells.map zr) (fbOf r ch)).flatten:=by
  cases hb:tbOf r ch with
  | none=>rw [e5 hb] at hy; exact .inr hy
  | some b =>
   obtain ⟨_,i,p,_,hp,eq⟩:=e4 b hb
   rw [eq] at hy
   exact List.mem_cons.mp ((Qc hp).mem_iff.mp hy)
 have m2:(fbOf r ch=none∧y=x)∨y∈(s.cells.map zr).flatten:=by
  cases hb:fbOf r ch with
  | none =>
   rcases m1 with m | m
   ·exact .inl ⟨rfl,m⟩
   ·rw [hb] at m; exact .inr m
  | some b =>
   obtain ⟨i,tl,_,hq,eq⟩:=e2 b hb
   rw [eq] at m1
   exact .inr ((vT hq).mem_iff.mpr (List.mem_cons.mpr m1))
 rcases m2 with ⟨hb,rfl⟩ | m
 ·obtain ⟨_,rfl⟩:=e1 hb
  refine .inr ?_
  rw [Int.toNat_natCast]
  exact h.1 k
 ·exact h.2 y m
theorem QH (wf:stWf bs rs s) (wok:zL bs rs) (bo:∀ b∈bs,zA b.1 b.2) (ro:∀ r∈rs,r.ok) (h:WLe s):∀ m,WLe (zT rs s m).1
 | 0=>h
 | m + 1=>act_WLe (je wf wok bo ro m) wok bo ro (QH wf wok bo ro h m) m
theorem QI (wf:stWf bs rs s) (wok:zL bs rs) (bo:∀ b∈bs,zA b.1 b.2) (ro:∀ r∈rs,r.ok) (h:NWo s0 s):∀ m,NWo s0 (zT rs s m).1
 | 0=>h
 | m + 1=>act_NWo (je wf wok bo ro m) wok bo ro (QI wf wok bo ro h m) m
theorem Qe (wok:zL bs rs) (bo:∀ b∈bs,zA b.1 b.2) (ro:∀ r∈rs,r.ok):∀ n,WLe (qV bs rs n)
 | 0=>⟨[],[],.nil,by rw [show (qV bs rs 0)=qc bs rs from rfl,empty_q,List.nil_append,List.flatten_eq_nil_iff.mpr (fun l hl=>by obtain ⟨_,_,rfl⟩:=List.mem_map.mp hl; rfl)],fun _ z=>nomatch z⟩
 | n + 1=>by
  obtain ⟨giv,tak,wl⟩:=QH (jf wok bo ro n) wok bo ro (Qe wok bo ro n) rs.length
  exact ⟨giv,tak,by rw [JH]; exact wl⟩
theorem Qf (wok:zL bs rs) (bo:∀ b∈bs,zA b.1 b.2) (ro:∀ r∈rs,r.ok) (n:Nat):∀ m,NWo (qV bs rs n) (qV bs rs (n + m))
 | 0=>NWo.refl _
 | m + 1=>by
  have h:=QI (jf wok bo ro (n + m)) wok bo ro (Qf wok bo ro n m) rs.length
  exact ⟨h.1,by rw [show n + (m + 1)=n + m + 1 from rfl,JH]; exact h.2⟩
end
theorem queue_mem {c:List Ware} {x:Int × Int}:x∈zr c ↔ some x∈c:=by
 unfold zr
 rw [List.mem_filterMap]
 constructor
 ·rintro ⟨y,h1,h2⟩
  have h2:y=some x:=h2
  rw [← h2]
  exact List.mem_reverse.mp h1
 ·exact fun h=>⟨some x,List.mem_reverse.mpr h,rfl⟩
theorem flat_mem {cs:List (List Ware)} {x:Int × Int}:x∈(cs.map zr).flatten ↔ ∃ c∈cs,some x∈c:=by
 rw [List.mem_flatten]
 constructor
 ·rintro ⟨l,h1,h2⟩
  obtain ⟨c,h3,rfl⟩:=List.mem_map.mp h1
  exact ⟨c,h3,queue_mem.mp h2⟩
 ·rintro ⟨c,h1,h2⟩
  exact ⟨zr c,List.mem_map.mpr ⟨c,h1,rfl⟩,queue_mem.mpr h2⟩
theorem once_at {cs:List (List Ware)} (nd:(cs.map zr).flatten.Nodup) {b b' p p':Nat} {c c':List Ware} {x:Int × Int} (h1:cs[b]?=some c) (h2:c[p]?=some (some x)) (h3:cs[b']?=some c') (h4:c'[p']?=some (some x)):b=b'∧p=p':=by
 have q:∀ {c:List Ware} {p:Nat},c[p]?=some (some x)→x∈zr c:=fun h=>queue_mem.mpr (List.mem_of_getElem? h)
 obtain ⟨nd1,nd2⟩:=List.pairwise_flatten.mp nd
 by_cases hb:b=b'
 ·subst hb
  rw [h1] at h3
  cases h3
  refine ⟨rfl,?_⟩
  have n1:(zr c).Nodup:=nd1 _ (List.mem_map.mpr ⟨c,List.mem_of_getElem? h1,rfl⟩)
  unfold zr at n1
  rw [List.filterMap_reverse] at n1
  have n1:=(List.reverse_perm _).nodup_iff.mp n1
  have key:∀ {i j:Nat},i < j→c[i]?=some (some x)→c[j]?=some (some x)→False:=fun {i j} hij hi hj=>by
   have w2:c.filterMap id=(c.take j).filterMap id ++ x :: (c.drop (j + 1)).filterMap id:=by
    conv=>lhs; rw [at_split hj]
    simp
   rw [w2] at n1
   have m:x∈(c.take j).filterMap id:=List.mem_filterMap.mpr ⟨some x,List.mem_of_getElem? (by rw [List.getElem?_take_of_lt hij]; exact hi),rfl⟩
   exact (List.nodup_append.mp n1).2.2 x m x (by simp) rfl
  rcases Nat.lt_trichotomy p p' with h | h | h
  ·exact (key h h2 h4).elim
  ·exact h
  ·exact (key h h4 h2).elim
 ·exfalso
  rw [List.pairwise_map] at nd2
  have key:∀ {i j:Nat} {c c':List Ware},i < j→cs[i]?=some c→cs[j]?=some c'→x∈zr c→x∈zr c'→False:=fun {i j c c'} hij hi hj m1 m2=>by
   obtain ⟨li,ei⟩:=List.getElem?_eq_some_iff.mp hi
   obtain ⟨lj,ej⟩:=List.getElem?_eq_some_iff.mp hj
   have:=List.pairwise_iff_getElem.mp nd2 i j li lj hij
   rw [ei,ej] at this
   exact this x m1 x m2 rfl
  rcases Nat.lt_or_gt_of_ne hb with h | h
  ·exact key h h1 h3 (q h2) (q h4)
  ·exact key h h3 h1 (q h4) (q h2)
theorem putK_lenT (kvs:List (List Key × V)) (k:List Key) (v:V):(putK kvs k v).length≤kvs.length + 1:=by
 unfold putK
 split <;> simp
structure LayD (H:Hp) (kvs:List (List Key × V)) (seen:Int × Int→Prop) (full:List (List Ware)):Prop where
 n:∀ x,valV kvs (kW x)=none→¬ seen x
 s:∀ x v,valV kvs (kW x)=some v→∃ (t:Addr) (b p:Nat) (c:List Ware),v=.ref t∧H t=some (.tup [.int b,.int p])∧full[b]?=some c∧c[p]?=some (some x)
section
variable {H H':Hp} {kvs:List (List Key × V)} {seen seen':Int × Int→Prop} {full:List (List Ware)}
theorem LayD.same (h:LayD H kvs seen full) (s:Same H H'):LayD H' kvs seen full:=⟨h.n,fun x v e=>by
 obtain ⟨t,b,p,c,e1,e2,e3⟩:=h.s x v e
 exact ⟨t,b,p,c,e1,s _ _ e2,e3⟩⟩
theorem LayD.less (h:LayD H kvs seen full) (s:∀ x,seen' x→seen x):LayD H kvs seen' full:=⟨fun x e z=>h.n x e (s x z),h.s⟩
theorem LayD.put (h:LayD H kvs seen full) {D t:Addr} {b p:Nat} {c:List Ware} {x:Int × Int} (hD:H D=some (.dT kvs)) (ht:H t=some (.tup [.int b,.int p])) (hc:full[b]?=some c) (hx:c[p]?=some (some x)):LayD (upd H D (.dT (putK kvs (kW x) (.ref t)))) (putK kvs (kW x) (.ref t)) (fun y=>seen y∨y=x) full:=by
 have ne:∀ u xs,H u=some (.tup xs)→u≠D:=fun u xs hu z=>by rw [z,hD] at hu; cases hu
 refine ⟨fun y e z=>?_,fun y v e=>?_⟩
 ·rw [ZT] at e
  split at e
  ·cases e
  ·rename_i hn
   rcases z with z | z
   ·exact h.n y e z
   ·exact hn (by rw [z])
 ·rw [ZT] at e
  split at e
  ·rename_i hn
   cases e
   rw [kW_inj hn]
   exact ⟨t,b,p,c,rfl,by rw [upd_ne (ne t _ ht)]; exact ht,hc,hx⟩
  ·obtain ⟨t',b',p',c',e1,e2,e3⟩:=h.s y v e
   exact ⟨t',b',p',c',e1,by rw [upd_ne (ne t' _ e2)]; exact e2,e3⟩
end
def va (cs:List (List Ware)) (i j:Nat) (x:Int × Int):Prop:=x∈((cs.take i).map zr).flatten∨∃ c,cs[i]?=some c∧some x∈c.take j
theorem seen_next {cs:List (List Ware)} {i:Nat} {c:List Ware} {x:Int × Int} (h:cs[i]?=some c) (z:x∈((cs.take (i + 1)).map zr).flatten):va cs i c.length x:=by
 rw [List.take_add_one,h,List.map_append,List.flatten_append] at z
 rcases List.mem_append.mp z with z | z
 ·exact .inl z
 ·refine .inr ⟨c,h,?_⟩
  rw [List.take_length]
  have z:x∈(zr c ++ []):=z
  rw [List.append_nil] at z
  exact queue_mem.mp z
def J4 (a:Ad):Sp:=fun vs H Q _=>∃ (y:Addr) (n:SN) (st:PSt),vs=[.ref y]∧StO a H y n st∧st.cells.length≤24∧(∀ c∈st.cells,c.length≤6)∧∀ D kvs H',Same H H'→H D=none→H' D=some (.dT kvs)→LayD H' kvs (fun x=>x∈(st.cells.map zr).flatten) st.cells→Q (.ref D) H'
theorem ok_cells_by_ware (T:Txt K mg a) (F:Fun K "cells_by_ware" "cells_by_ware" s_cells_by_ware f fd):FnOk P w K mg base (CXr P w) 1 f fd ["state"] (J4 a):=by
 refine F.okx sc_cells_by_ware ?_ ?_
 ·walk_at "i"
 walk_at "j"
 obtain ⟨y,n,st,rfl,so,l24,l6,k⟩:=h
 have hc:=so.hc
 have lc:n.acs.length=st.cells.length:=by rw [hc.len,zu,List.length_map]
 walk_at "T"
 refine ⟨_,(zh (zx 1 sc_cells_by_ware.nd pe_dnewT)  (zX (qd qC rfl (qm (za (zl (pv 0) rfl) zb)) (jD (n:=2) rfl (zZ (pg_n 2 sc_cells_by_ware.nd) (zZ (pg_n 3 sc_cells_by_ware.nd) ja)))  (zd (qd qC rfl (qm (za (pv 3) zb)) (jD (n:=2) rfl (zZ (pg_n 4 sc_cells_by_ware.nd) (zZ (pg_n 5 sc_cells_by_ware.nd) ja)))  (zd (zy (zn j9 (pv 5) zz (zo _))  (zd (ps_dput (Je hr) (pv 1) (pv 5) (qM (za (pv 2) (za (pv 4) zb))) rfl))  zk)))))  (zd (zj (pv 1))))),?_⟩
 walk_at "go"
 intro D hD
 have s1:=ze (o:=.dT []) hD
 have hD1:upd H D (.dT []) D=some (.dT []):=upd_same
 generalize upd H D (.dT [])=H1 at s1 hD1 ⊢
 have ld0:LayD H1 [] (va st.cells 0 0) st.cells:=⟨fun x _ z=>by
  rcases z with z | ⟨c,_,z⟩
  ·simp at z
  ·simp at z,fun x v e=>by simp [valV] at e⟩
 have keep:∀ {H':Hp} {kvs:List (List Key × V)} {o:HO},Same H H'→Same H (upd H' D o):=fun s b u hb=>by
  rw [upd_ne (ne_of_none hb hD)]
  exact s b u hb
 refine cut (fun σ' H'=>∃ (v2 v3 v4 v5:Option V) (kvs:List (List Key × V)),σ'=[some (.ref y),some (.ref D),v2,v3,v4,v5]∧Same H H'∧H' D=some (.dT kvs)∧LayD H' kvs (fun x=>x∈(st.cells.map zr).flatten) st.cells) ?_ ?_
 ·walk_at "for"
  walk_at "go"
  refine ra (s1 _ _ so.hy) T.C_State T.N_State_cells rfl ?_
  refine ⟨n.lc,_,rfl,s1 _ _ hc.out,?_⟩
  refine vE (K:=K) (a:=n.lc) (xs:=n.acs.map V.ref) (fun i σ H'=>∃ (v2 v3 v4 v5:Option V) (kvs:List (List Key × V)),σ=[some (.ref y),some (.ref D),v2,v3,v4,v5]∧Same H H'∧H' D=some (.dT kvs)∧LayD H' kvs (fun x=>x∈((st.cells.take i).map zr).flatten) st.cells∧kvs.length≤6 * i) ⟨_,_,_,_,[],rfl,s1,hD1,ld0.less fun x z=>by simp at z,Nat.le_refl _⟩ (fun i σ H' _ h=>by obtain ⟨_,_,_,_,_,_,s,_⟩:=h; exact SqL.of (s _ _ hc.out)) ?_ ?_
  ·rintro i x t σ H2 hi ht ⟨v2,v3,v4,v5,kvs,rfl,s2,hD2,ld2,lk2⟩
   rw [List.getElem?_map,Option.map_eq_some_iff] at hi
   obtain ⟨cb,hcb,rfl⟩:=hi
   have hil:i < st.cells.length:=by rw [← lc]; exact (List.getElem?_eq_some_iff.mp hcb).1
   obtain ⟨c,ec⟩:∃ c,st.cells[i]?=some c:=⟨_,List.getElem?_eq_getElem hil⟩
   obtain ⟨vs,hvs,rvs⟩:=hc.g i cb _ hcb (show (zu st.cells)[i]?=some (c.map zN) by rw [zu,List.getElem?_map,ec]; rfl)
   have lv:vs.length=c.length:=by rw [rvs.len,List.length_map]
   have c6:=l6 c (List.mem_of_getElem? ec)
   have st2:=ze (o:=.tup [.int i,.ref cb]) ht
   refine un2 upd_same ?_
   have s3:=s2.trans st2
   have hD3:=st2 _ _ hD2
   have ld3:=ld2.same st2
   generalize upd H2 t (.tup [.int i,.ref cb])=H3 at s3 hD3 ld3 ⊢
   clear ld2 hD2 s2 st2 ht
   walk_at "for"
   walk_at "go"
   refine ⟨cb,_,rfl,s3 _ _ hvs,?_⟩
   refine vE (K:=K) (a:=cb) (xs:=vs) (fun j σ H'=>∃ (v4 v5:Option V) (kvs:List (List Key × V)),σ=[some (.ref y),some (.ref D),some (.int i),some (.ref cb),v4,v5]∧Same H H'∧H' D=some (.dT kvs)∧LayD H' kvs (va st.cells i j) st.cells∧kvs.length≤6 * i + j) ⟨_,_,kvs,rfl,s3,hD3,ld3.less fun x z=>by
    rcases z with z | ⟨_,_,z⟩
    ·exact z
    ·simp at z,lk2⟩ (fun i σ H' _ h=>by obtain ⟨_,_,_,_,s,_⟩:=h; exact SqL.of (s _ _ hvs)) ?_ ?_
   ·clear ld3 hD3 s3 lk2
    rintro j v t σ H4 hj ht ⟨v4,v5,kvs,rfl,s4,hD4,ld4,lk4⟩
    obtain ⟨d,hd,rv⟩:=rvs.at hj
    rw [List.getElem?_map,Option.map_eq_some_iff] at hd
    obtain ⟨wr,hwr,rfl⟩:=hd
    have hjl:j < c.length:=(List.getElem?_eq_some_iff.mp hwr).1
    have sn:∀ x,va st.cells i (j + 1) x→va st.cells i j x∨wr=some x:=fun x z=>by
     rcases z with z | ⟨c',e,z⟩
     ·exact .inl (.inl z)
     ·rw [ec] at e
      cases e
      rw [List.take_add_one,hwr] at z
      rcases List.mem_append.mp z with z | z
      ·exact .inl (.inr ⟨c,ec,z⟩)
      ·exact .inr (List.mem_singleton.mp z).symm
    have st4:=ze (o:=.tup [.int j,v]) ht
    refine un2 upd_same ?_
    have s5:=s4.trans st4
    have hD5:=st4 _ _ hD4
    have ld5:=ld4.same st4
    generalize upd H4 t (.tup [.int j,v])=H5 at s5 hD5 ld5 ⊢
    clear ld4 hD4 s4 st4 ht
    cases wr with
    | none =>
     have rv:Rep H (TupP H) v .non:=rv
     cases rv
     walk_at "go"
     exact ⟨_,_,kvs,rfl,s5,hD5,ld5.less fun x z=>(sn x z).elim id (fun z=>nomatch z),by omega⟩
    | some x =>
     obtain ⟨tx,rfl,htx⟩:=qW (b:=x) rv
     walk_at "go"
     intro t6 ht6
     have st6:=ze (o:=.tup [.int i,.int j]) ht6
     have s6:=s5.trans st6
     have hD6:=st6 _ _ hD5
     have ld6:=ld5.same st6
     have ht6':upd H5 t6 (.tup [.int i,.int j]) t6=some (.tup [.int i,.int j]):=upd_same
     generalize upd H5 t6 (.tup [.int i,.int j])=H6 at s6 hD6 ld6 ht6' ⊢
     refine ⟨D,_,rfl,DPut.t (k:=kW x) hD6 (s6 _ _ htx) (big30000 (by omega)),?_⟩
     have pl:=putK_lenT kvs (kW x) (.ref t6)
     refine ⟨_,_,_,rfl,keep (kvs:=kvs) s6,upd_same,(ld6.put hD6 ht6' ec hwr).less fun z hz=>(sn z hz).imp id (fun e=>by cases e; rfl),by omega⟩
   ·rintro σ H4 ⟨v4,v5,kvs,rfl,s4,hD4,ld4,lk4⟩
    rw [lv] at ld4 lk4
    exact ⟨_,_,_,_,kvs,rfl,s4,hD4,ld4.less fun x z=>seen_next ec z,by omega⟩
  ·rintro σ H2 ⟨v2,v3,v4,v5,kvs,rfl,s2,hD2,ld2,lk2⟩
   rw [List.length_map,lc,List.take_length] at ld2
   exact ⟨_,_,_,_,kvs,rfl,s2,hD2,ld2⟩
 rintro σ' H2 ⟨v2,v3,v4,v5,kvs,rfl,s2,hD2,ld2⟩
 walk_at "go"
 exact k D kvs _ s2 hD hD2 ld2
theorem c_cells_by_ware (T:Txt K mg a):Cal P w K mg base "cells_by_ware" 1 ["state"] [] (J4 a):=T.h_cells_by_ware.cal (ok_cells_by_ware T)
theorem JR {H:Hp} {p:Addr→Prop} {G:Addr} {ags:List Addr} {gss:List (List Int)} {i:Nat} {g:List Int} (h:NL H p G ags (qO gss)) (e:gss[i]?=some g):∃ b,ags[i]?=some b∧H b=some (.lst (iv g)):=by
 obtain ⟨b,vs,h1,h2,h3⟩:=h.at (i:=i) (xs:=g.map D.int) (by rw [qO,List.getElem?_map,e]; rfl)
 rw [wM h3] at h2
 exact ⟨b,h1,h2⟩
inductive Org | no | kept (b p:Nat) | new (k:Nat) (m:Int)
def orgD:Org→D
 | .no=>.non
 | .kept b p=>.tup [.str "kept",.int b,.int p]
 | .new k m=>.tup [.str "new",.int k,.int m]
def Zu (s0:PSt):Ware→Org→Prop
 | none,.no=>True
 | some x,.kept b p=>∃ c,s0.cells[b]?=some c∧c[p]?=some (some x)
 | some x,.new k m=>x.1=k∧x ∉ (s0.cells.map zr).flatten∧m=x.2 - (s0.gone.getD k []).headD 0∧∃ g0 gs,s0.gone[k]?=some (g0 :: gs)
 | _,_=>False
def Jt (s0:PSt) (wr:Ware):Prop:=∀ x,wr=some x→∃ (k:Nat) (g0:Int) (gs:List Int),x.1=k∧s0.gone[k]?=some (g0 :: gs)
def Z2 (a:Ad):Sp:=fun vs H Q _=>∃ (vw:V) (D y:Addr) (n:SN) (s0:PSt) (wr:Ware) (kvs:List (List Key × V)) (p:Addr→Prop),vs=[vw,.ref D,.ref y]∧Rep H p vw (zN wr)∧H D=some (.dT kvs)∧LayD H kvs (fun x=>x∈(s0.cells.map zr).flatten) s0.cells∧StO a H y n s0∧Jt s0 wr∧∀ v H' o,Same H H'→Rep H' (New H) v (orgD o)→Zu s0 wr o→Q v H'
theorem ok_origin_of (T:Txt K mg a) (F:Fun K "origin_of" "origin_of" s_origin_of f fd):FnOk P w K mg base (CXr P w) 1 f fd ["ware","lay","before"] (Z2 a):=by
 refine F.okx sc_origin_of ?_ ?_
 ·walk_at "i"
 walk_at "j"
 obtain ⟨vw,D,y,n,s0,wr,kvs,p,rfl,rv,hD,ld,so,ca,k⟩:=h
 walk_at "T"
 refine ⟨_,(zh (zy (zn qw (pv 0) zz (zo _))  (zd (zj zz))  zk)  (zh (zy (pt_cmp (pc_din (Je hr) (pv 0) (pv 1)) (by with_unfolding_all rfl))  (zd (zj (qM (za qG (za (zp (Q4 (Je hr) (pv 1) (pv 0) (fun _ _=>rfl)) zc) (za (zp (Q4 (Je hr) (pv 1) (pv 0) (fun _ _=>rfl)) zc) zb))))))  zk)  (zd (zj (qM (za qG (za (zp (pv 0) zc) (za (zi QN (zp (pv 0) zc) (zp (zp (zl (pv 2) rfl) (zp (pv 0) zc)) zc)) zb)))))))),?_⟩
 walk_at "go"
 cases wr with
 | none =>
  have rv:Rep H p vw .non:=rv
  cases rv
  walk_at "go"
  exact k _ _ .no (Same.refl _) .non trivial
 | some x =>
  obtain ⟨tx,rfl,htx⟩:=qW (b:=x) rv
  walk_at "go"
  refine ⟨D,_,rfl,DGet.t (k:=kW x) hD htx,?_⟩
  cases ev:valV kvs (kW x) with
  | some v =>
   obtain ⟨t,b,q,c,rfl,ht,e1,e2⟩:=ld.s x v ev
   walk_at "go"
   refine ⟨D,.ref t,rfl,by rw [← ev]; exact DGet.t (k:=kW x) hD htx,rd_ixT ht at0 ?_⟩
   refine ⟨D,.ref t,rfl,by rw [← ev]; exact DGet.t (k:=kW x) hD htx,rd_ixT ht (show atI _ 1=some (.int q) from rfl) ?_⟩
   intro t2 ht2
   exact k _ _ (.kept b q) (ze ht2) (Reps.mkT (vs:=[.str "kept",.int b,.int q]) (.cons .str (.cons .int (.cons .int .nil))) ht2 upd_same) ⟨c,e1,e2⟩
  | none =>
   obtain ⟨kk,g0,gs,ek,eg⟩:=ca x rfl
   obtain ⟨bG,hbG,hgG⟩:=JR so.hg eg
   have hmap:(n.ags.map V.ref)[kk]?=some (.ref bG):=by rw [List.getElem?_map,hbG]; rfl
   walk_at "go"
   refine rd_ixT htx at0 (rd_ixT htx (show atI _ 1=some (.int x.2) from rfl) ?_)
   refine ra so.hy T.C_State T.N_State_gone rfl ?_
   refine rd_ixT htx at0 ?_
   rw [ek]
   refine zq (SqL.of so.hg.out) (zC hmap) (zq (SqL.of hgG) at0 ?_)
   walk_at "go"
   intro t2 ht2
   refine k _ _ (.new kk (x.2 - g0)) (ze ht2) (Reps.mkT (vs:=[.str "new",.int kk,.int (x.2 - g0)]) (.cons .str (.cons .int (.cons .int .nil))) ht2 upd_same) ⟨ek,ld.n x ev,?_,g0,gs,eg⟩
   rw [List.getD_eq_getElem?_getD,eg]
   rfl
theorem c_origin_of (T:Txt K mg a):Cal P w K mg base "origin_of" 1 ["ware","lay","before"] [] (Z2 a):=T.h_origin_of.cal (ok_origin_of T)
def ZP (s0 s1:PSt) (oss:List (List Org)):Prop:=oss.length=s1.cells.length∧∀ (i:Nat) os c,oss[i]?=some os→s1.cells[i]?=some c→os.length=c.length∧∀ (j:Nat) o wr,os[j]?=some o→c[j]?=some wr→Zu s0 wr o
def JK (oss:List (List Org)):D:=.lst (oss.map fun os=>.lst (os.map orgD))
def wm (a:Ad):Sp:=fun vs H Q _=>∃ (y0 y1:Addr) (n0 n1:SN) (s0 s1:PSt),vs=[.ref y0,.ref y1]∧StO a H y0 n0 s0∧StO a H y1 n1 s1∧s0.cells.length≤24∧(∀ c∈s0.cells,c.length≤6)∧s1.cells.length≤24∧(∀ c∈s1.cells,c.length≤6∧∀ wr∈c,Jt s0 wr)∧∀ l H' oss,Same H H'→Rep H' (New H) (.ref l) (JK oss)→ZP s0 s1 oss→Q (.ref l) H'
theorem wI {a:Ad} {vs:List V} {H:Hp} {Q:VK} {E:XK} (y0 y1:Addr) (n0 n1:SN) (s0 s1:PSt) (q0:vs=[.ref y0,.ref y1]) (q1:StO a H y0 n0 s0) (q2:StO a H y1 n1 s1) (q3:s0.cells.length≤24) (q4:(∀ c∈s0.cells,c.length≤6)) (q5:s1.cells.length≤24) (q6:(∀ c∈s1.cells,c.length≤6∧∀ wr∈c,Jt s0 wr)) (q7:∀ l H' oss,Same H H'→Rep H' (New H) (.ref l) (JK oss)→ZP s0 s1 oss→Q (.ref l) H'):wm a vs H Q E:=⟨y0,y1,n0,n1,s0,s1,q0,q1,q2,q3,q4,q5,q6,q7⟩
theorem ok_origins_of (T:Txt K mg a) (F:Fun K "origins_of" "origins_of" s_origins_of f fd):FnOk P w K mg base (CXr P w) 2 f fd ["before","after"] (wm a):=by
 refine F.okx sc_origins_of ?_ ?_
 ·walk_at "i"
 walk_at "j"
 obtain ⟨y0,y1,n0,n1,s0,s1,rfl,so0,so1,l24,l6,m24,m6,k⟩:=h
 walk_at "T"
 refine ⟨_,(zh (ZB (i:=2) sc_origins_of.nd rfl (Or.inr rfl) (zv ⟨rfl,rfl,rfl⟩ hr (za (pv 0) zb)))  (zh (zx 3 sc_origins_of.nd (zF zb))  (zX (qd qC rfl (ql (zl (pv 1) rfl)) (pg_n 4 sc_origins_of.nd)  (zd (zt (qq PySem.F.plainAttrs_list PySem.F.slot_list_append PySem.F.type_list_append zQ (pv 3) (za (jU (vars:=["ware"]) (caps:=[2,0]) (N:=["ware","lay","before"]) (ON:=["before","after","lay","origins","cells"]) (osc:=zf s_origins_of) rfl rfl (by first | decide +kernel | kernel_rfl) rfl rfl (ql (pv 4)) (fun s H fp pins=>(pg_n 0 (show (["ware","lay","before"]:List Str).Nodup from by decide +kernel))) (fun s H fp pins=>qg) (fun s H fp pins=>(QM hr (za (pv 0) (za (pv 1) (za (pv 2) zb)))))) zb)))))  (zd (zj (pv 3)))))),?_⟩
 walk_at "go"
 refine uc (c_cells_by_ware T).mono ⟨y0,n0,s0,rfl,so0,l24,l6,fun D kvs H1 s1' nD hD ld=>?_⟩
 walk_at "go"
 intro l hl
 have sl:=ze (o:=.lst []) hl
 have s2:=s1'.trans sl
 have nl0:=zJ s1' hl
 have hD2:=sl _ _ hD
 have ld2:=ld.same sl
 have hl2:upd H1 l (.lst []) l=some (.lst []):=upd_same
 generalize upd H1 l (.lst [])=H2 at s2 hD2 ld2 hl2 ⊢
 have hc:=so1.hc
 have lc:n1.acs.length=s1.cells.length:=by rw [hc.len,zu,List.length_map]
 clear ld hD s1' sl
 walk_at "go"
 refine cut (fun σ' H'=>∃ (v4:Option V) (us:List V) (oss:List (List Org)),σ'=[some (.ref y0),some (.ref y1),some (.ref D),some (.ref l),v4]∧Same H H'∧H' l=some (.lst us)∧Reps H' (fun b=>H b=none∧b≠l) us (oss.map fun os=>.lst (os.map orgD))∧ZP s0 s1 oss) ?_ ?_
 ·walk_at "for"
  walk_at "go"
  refine ra (s2 _ _ so1.hy) T.C_State T.N_State_cells rfl ?_
  refine ⟨n1.lc,rfl,.inl ⟨⟨_,SqL.of (s2 _ _ hc.out)⟩,?_⟩⟩
  refine qP (K:=K) (a:=n1.lc) (xs:=n1.acs.map V.ref) (fun i σ H'=>∃ (v4:Option V) (us:List V) (oss:List (List Org)),σ=[some (.ref y0),some (.ref y1),some (.ref D),some (.ref l),v4]∧Same H H'∧H' D=some (.dT kvs)∧LayD H' kvs (fun x=>x∈(s0.cells.map zr).flatten) s0.cells∧H' l=some (.lst us)∧Reps H' (fun b=>H b=none∧b≠l) us (oss.map fun os=>.lst (os.map orgD))∧oss.length=i∧∀ (i':Nat) os c,oss[i']?=some os→s1.cells[i']?=some c→os.length=c.length∧∀ (j:Nat) o wr,os[j]?=some o→c[j]?=some wr→Zu s0 wr o)
   ⟨_,[],[],rfl,s2,hD2,ld2,hl2,.nil,rfl,fun i' os c e=>by simp at e⟩ (fun i σ H' _ h=>by obtain ⟨_,_,_,_,s,_⟩:=h; exact SqL.of (s _ _ hc.out)) ?_ ?_
  ·rintro i x σ H3 hi ⟨v4,us,oss,rfl,s3,hD3,ld3,hl3,r3,lo,ok3⟩
   rw [List.getElem?_map,Option.map_eq_some_iff] at hi
   obtain ⟨cb,hcb,rfl⟩:=hi
   have hil:i < s1.cells.length:=by rw [← lc]; exact (List.getElem?_eq_some_iff.mp hcb).1
   obtain ⟨c,ec⟩:∃ c,s1.cells[i]?=some c:=⟨_,List.getElem?_eq_getElem hil⟩
   obtain ⟨vs,hvs,rvs⟩:=hc.g i cb _ hcb (show (zu s1.cells)[i]?=some (c.map zN) by rw [zu,List.getElem?_map,ec]; rfl)
   have lv:vs.length=c.length:=by rw [rvs.len,List.length_map]
   obtain ⟨c6,cw⟩:=m6 c (List.mem_of_getElem? ec)
   have lu:us.length=i:=by rw [r3.len,List.length_map,lo]
   walk_at "go"
   refine ⟨.inl ⟨rfl,_,SqL.of hl3⟩,?_⟩
   walk_at "lc"
   walk_at "go"
   refine ⟨cb,rfl,.inl ⟨⟨_,SqL.of (s3 _ _ hvs)⟩,fun _ _ _ _ acc hacc=>?_⟩⟩
   refine qP (K:=K) (a:=cb) (xs:=vs) (fun j σ H'=>∃ (v0:Option V) (ws:List V) (os:List Org),σ=[v0,some (.ref D),some (.ref y0)]∧Same H3 H'∧H' acc=some (.lst ws)∧Reps H' (fun b=>H3 b=none∧b≠acc) ws (os.map orgD)∧os.length=j∧∀ (j':Nat) o wr,os[j']?=some o→c[j']?=some wr→Zu s0 wr o) ⟨_,[],[],rfl,ze hacc,upd_same,.nil,rfl,fun j' o wr e=>by simp at e⟩ (fun i σ H' _ h=>by obtain ⟨_,_,_,_,s,_⟩:=h; exact SqL.of (s _ _ (s3 _ _ hvs))) ?_ ?_
   ·rintro j v σ H4 hj ⟨v0,ws,os,rfl,s4,ha4,r4,lo4,ok4⟩
    obtain ⟨d,hd,rv⟩:=rvs.at hj
    rw [List.getElem?_map,Option.map_eq_some_iff] at hd
    obtain ⟨wr,hwr,rfl⟩:=hd
    have hjl:j < c.length:=(List.getElem?_eq_some_iff.mp hwr).1
    have s04:=s3.trans s4
    have lw:ws.length=j:=by rw [r4.len,List.length_map,lo4]
    walk_at "go"
    refine uc (c_origin_of T).mono ⟨v,D,y0,n0,s0,wr,kvs,_,rfl,rv.keep (fun b o hb ho=>⟨hb,s04 _ _ ho⟩),s4 _ _ hD3,ld3.same s4,so0.same s04,cw wr (List.mem_of_getElem? hwr),fun v' H5 o s5 r5 ok5=>?_⟩
    have f6:Fr [acc] H5 (upd H5 acc (.lst (ws ++ [v']))):=qo (by simp)
    refine ⟨_,s5 _ _ ha4,zm (by omega),_,ws ++ [v'],os ++ [o],rfl,((s4.trans s5).fr.trans f6).same (by intro m hm; rw [List.mem_singleton.mp hm]; exact hacc),upd_same,?_,by simp [lo4],fun j' o' wr' e1 e2=>?_⟩
    ·rw [List.map_append]
     refine (r4.keep fun b u hb ho=>⟨hb,f6 _ _ (fun z=>hb.2 (List.mem_singleton.mp z)) (s5 _ _ ho)⟩).append (.one (r5.keep fun b u hb ho=>?_))
     have hb:H4 b=none:=hb
     have nb:b≠acc:=fun z=>by rw [z,ha4] at hb; cases hb
     exact ⟨⟨zJ s4 hb,nb⟩,f6 _ _ (fun z=>nb (List.mem_singleton.mp z)) ho⟩
    ·by_cases hj':j' < os.length
     ·rw [List.getElem?_append_left hj'] at e1
      exact ok4 j' o' wr' e1 e2
     ·rw [List.getElem?_append_right (by omega)] at e1
      have hz:=(List.getElem?_eq_some_iff.mp e1).1
      have:j'=j:=by simp at hz; omega
      subst this
      rw [lo4,Nat.sub_self] at e1
      cases e1
      rw [hwr] at e2
      cases e2
      exact ok5
   ·rintro σ H4 ⟨v0,ws,os,rfl,s4,ha4,r4,lo4,ok4⟩
    rw [lv] at lo4
    have s04:=s3.trans s4
    have f6:Fr [l] H4 (upd H4 l (.lst (us ++ [.ref acc]))):=qo (by simp)
    have nacl:acc≠l:=fun z=>by rw [z,hl3] at hacc; cases hacc
    have nac0:H acc=none:=zJ s3 hacc
    refine ⟨l,_,_,rfl,rfl,s4 _ _ hl3,zm (by omega),?_⟩
    have nDl:D≠l:=fun z=>by rw [z,hl3] at hD3; cases hD3
    have ld6:LayD (upd H4 l (.lst (us ++ [.ref acc]))) kvs (fun x=>x∈(s0.cells.map zr).flatten) s0.cells:=⟨ld3.n,fun x v e=>by
     obtain ⟨t,b,p,c,e1,e2,e3⟩:=ld3.s x v e
     have nt:t≠l:=fun z=>by rw [z,hl3] at e2; cases e2
     exact ⟨t,b,p,c,e1,by rw [upd_ne nt]; exact s4 _ _ e2,e3⟩⟩
    refine ⟨_,us ++ [.ref acc],oss ++ [os],rfl,(s04.fr.trans f6).same (by intro m hm; rw [List.mem_singleton.mp hm]; exact nl0),by rw [upd_ne nDl]; exact s4 _ _ hD3,ld6,upd_same,?_,by simp [lo],fun i' os' c' e1 e2=>?_⟩
    ·rw [List.map_append]
     refine (r3.keep fun b u hb ho=>⟨hb,f6 _ _ (fun z=>hb.2 (List.mem_singleton.mp z)) (s4 _ _ ho)⟩).append (.one ?_)
     have r6:Reps (upd H4 l (.lst (us ++ [.ref acc]))) (fun b=>H b=none∧b≠l) ws (os.map orgD):=r4.keep fun b u hb ho=>by
      have nb:b≠l:=fun z=>by rw [z,hl3] at hb; cases hb.1
      exact ⟨⟨zJ s3 hb.1,nb⟩,f6 _ _ (fun z=>nb (List.mem_singleton.mp z)) ho⟩
     exact r6.mk' ⟨nac0,nacl⟩ (by rw [upd_ne nacl]; exact ha4)
    ·by_cases hi':i' < oss.length
     ·rw [List.getElem?_append_left hi'] at e1
      exact ok3 i' os' c' e1 e2
     ·rw [List.getElem?_append_right (by omega)] at e1
      have hz:=(List.getElem?_eq_some_iff.mp e1).1
      have:i'=i:=by simp at hz; omega
      subst this
      rw [lo,Nat.sub_self] at e1
      cases e1
      rw [ec] at e2
      cases e2
      exact ⟨lo4,ok4⟩
  ·rintro σ H3 ⟨v4,us,oss,rfl,s3,hD3,ld3,hl3,r3,lo,ok3⟩
   rw [List.length_map,lc] at lo
   exact ⟨_,us,oss,rfl,s3,hl3,r3,lo,ok3⟩
 rintro σ' H3 ⟨v4,us,oss,rfl,s3,hl3,r3,ok3⟩
 walk_at "go"
 exact k l _ oss s3 (Reps.mk' (r3.keep fun b u hb ho=>⟨hb.1,ho⟩) nl0 hl3) ok3
theorem x9 (T:Txt K mg a):Cal P w K mg base "origins_of" 2 ["before","after"] [] (wm a):=T.h_origins_of.cal (ok_origins_of T)
def QW:Sp:=fun vs H Q _=>∃ i:Int,vs=[.int i]∧Q (.bl true) H
theorem ok_L_whole (T:Txt K mg a) (F:Fun K "_law_whole" "_law_whole" s_L_whole f fd):FnOk P w K mg base (CXr P w) 1 f fd ["_law_found"] QW:=by
 refine F.okx sc_L_whole ?_ ?_
 ·walk_at "i"
 walk_at "k"
 obtain ⟨i,rfl,k⟩:=h
 walk_at "T"
 refine ⟨_,(zd (zj (ZC (zV xE qe (za (pv 0) (za (Qh bo_int) zb))) (QL (pe_not (zV xE qe (za (pv 0) (za (Qh bo_bool) zb)))))))),?_⟩
 walk_at "go"
 exact k
theorem xi (T:Txt K mg a):Cal P w K mg base "_law_whole" 1 ["_law_found"] [] QW:=T.h_L_whole.cal (ok_L_whole T)
theorem Jd {H:Hp} {Q:VK} {p:Addr} {xs:List V} (h:H p=some (.lst xs)) (q:Q (.bl true) H):rIsi K [.ref p,.ty "list"] H Q:=⟨_,_,_,_,rfl,.old (.lst h),.inl ⟨_,rfl,rfl⟩,q⟩
theorem nestr_q {H:Hp} {Q:VK} {x y:Str} (q:Q (.bl (!decide (x=y))) H):rNeG K (.str x) (.str y) H Q:=by
 refine .inl ⟨rfl,?_⟩
 rw [show decide (V.str x=V.str y)=decide (x=y) by simp]
 exact q
theorem ZD {H:Hp} {p:Addr→Prop} {v:V} {s:Str} {b q:Int} (h:Rep H p v (.tup [.str s,.int b,.int q])):∃ t,v=.ref t∧H t=some (.tup [.str s,.int b,.int q]):=by
 obtain ⟨t,us,rfl,_,ht,rr⟩:=Rep.tup' h
 have g:=rr.g
 obtain ⟨x0,u1,rfl,e1⟩:=ZM rr.len
 obtain ⟨x1,x2,rfl⟩:=two_of e1
 have a0:=g 0 x0 _ rfl rfl
 have a1:=g 1 x1 _ rfl rfl
 have a2:=g 2 x2 _ rfl rfl
 cases a0
 cases a1
 cases a2
 exact ⟨t,rfl,ht⟩
def vX (a:Ad):Sp:=fun vs H Q _=>∃ (vo vw:V) (y:Addr) (n:SN) (s0:PSt) (wr:Ware) (o:Org) (p q:Addr→Prop),vs=[vo,vw,.ref y]∧Rep H p vo (orgD o)∧Rep H q vw (zN wr)∧StO a H y n s0∧Zu s0 wr o∧(∀ k m,o=.new k m→0≤m)∧Q (.bl true) H
theorem ok_L_origin (T:Txt K mg a) (F:Fun K "_law_origin" "_law_origin" s_L_origin f fd):FnOk P w K mg base (CXr P w) 2 f fd ["_law_origin_here","_law_ware","_law_before"] (vX a):=by
 refine F.okx sc_L_origin ?_ ?_
 ·walk_at "i"
 walk_at "j"
 obtain ⟨vo,vw,y,n,s0,wr,o,p,q,rfl,ro,rw',so,ok,pos,k⟩:=h
 walk_at "T"
 refine ⟨_,(zh (zy (zn qw (pv 1) zz (zo _))  (zd (zj (jh qw (pv 0) zz (zo _))))  zk)  (zh (zy (PW.pt (pw_or (qk (qi (zV xE qe (za (pv 0) (za (Qh bo_tuple) zb))) (fun _=>rfl))) (pw_or (zn (jW hr.units1) (zV zP zO (za (pv 0) zb)) zc (zo _)) (pw_or (qk (qi (zv ⟨rfl,rfl,rfl⟩ hr (za (zp (pv 0) zc) zb)) (fun _=>rfl))) (pw_or1 (qk (qi (zv ⟨rfl,rfl,rfl⟩ hr (za (zp (pv 0) zc) zb)) (fun _=>rfl))))))))  (zd (zj xS))  zk)  (zh (zy (zn (qr hr.units1) (zp (pv 0) zc) qG (zo _))  (zh (zx 3 sc_L_origin.nd (zi z7 (zp (zp (zl (pv 2) rfl) (zp (pv 1) zc)) zc) (zp (pv 0) zc)))  (zd (zj (ZC (jh (qr hr.units1) (zp (pv 0) zc) (zp (pv 1) zc) (zo _)) (ZC (jh op_ge (zp (pv 0) zc) zc (zo _)) (QL (jh (qr hr.units1) (pv 3) (zp (pv 1) zc) (zo _))))))))  zk)  (zh (zy (PW.pt (pw_or (zn (jW hr.units1) (zp (pv 0) zc) qG (zo _)) (pw_or1 (qk (qK qX Qj zc (zp (pv 0) zc) (zV zP zO (za (zl (pv 2) rfl) zb)))))))  (zd (zj xS))  zk)  (zh (zx 4 sc_L_origin.nd (zp (zl (pv 2) rfl) (zp (pv 0) zc)))  (zd (zj (ZC (pe_chain qX Qj zc (zp (pv 0) zc) (zV zP zO (za (pv 4) zb))) (QL (jh (qr hr.units1) (zp (pv 4) (zp (pv 0) zc)) (pv 1) (zo _))))))))))),?_⟩
 walk_at "go"
 cases wr with
 | none =>
  have rw':Rep H q vw .non:=rw'
  cases rw'
  cases o with
  | no =>
   have ro:Rep H p vo .non:=ro
   cases ro
   walk_at "go"
   exact k
  | kept b c=>exact ok.elim
  | new b c=>exact ok.elim
 | some x =>
  obtain ⟨tx,rfl,htx⟩:=qW (b:=x) rw'
  cases o with
  | no=>exact ok.elim
  | kept b c =>
   obtain ⟨to,rfl,hto⟩:=ZD (s:="kept") (b:=(b:Int)) (q:=(c:Int)) ro
   obtain ⟨row,e1,e2⟩:=ok
   have hc:=so.hc
   have hbl:=(List.getElem?_eq_some_iff.mp e1).1
   have hcl:=(List.getElem?_eq_some_iff.mp e2).1
   obtain ⟨cb,vs,hcb,hvs,rvs⟩:=NLC.cell hc e1
   obtain ⟨v,hv,rv⟩:=rvs.of (i:=c) (d:=zN (some x)) (by rw [List.getElem?_map,e2]; rfl)
   obtain ⟨t2,rfl,ht2⟩:=qW (b:=x) rv
   have lc:n.acs.length=s0.cells.length:=by rw [hc.len,zu,List.length_map]
   have lv:vs.length=row.length:=by rw [rvs.len,List.length_map]
   have hmap:(n.acs.map V.ref)[b]?=some (.ref cb):=by rw [List.getElem?_map,hcb]; rfl
   walk_at "go"
   refine Jc hto ?_
   walk_at "go"
   refine ⟨3,.inr ⟨_,SqT.of hto,rfl⟩,?_⟩
   walk_at "go"
   refine uc (xi T).mono (rd_ixT hto (show atI _ 1=some (.int b) from rfl) ⟨_,rfl,?_⟩)
   walk_at "go"
   refine uc (xi T).mono (rd_ixT hto (show atI _ 2=some (.int c) from rfl) ⟨_,rfl,?_⟩)
   walk_at "go"
   refine rd_ixT hto at0 ?_
   walk_at "go"
   refine ite2 (fun z=>absurd z (by decide +kernel)) (fun _=>?_)
   refine rd_ixT hto at0 ?_
   walk_at "go"
   refine nestr_q ?_
   rw [decide_eq_true rfl]
   refine ⟨false,rfl,?_⟩
   rw [if_neg (by decide)]
   refine rd_ixT hto (show atI _ 1=some (.int b) from rfl) ?_
   walk_at "go"
   refine ra so.hy T.C_State T.N_State_cells rfl ⟨_,.inl ⟨_,SqL.of hc.out,rfl⟩,?_⟩
   rw [List.length_map,lc]
   refine ite2 (fun z=>absurd (Int.ofNat_lt.mpr hbl) z) (fun _=>?_)
   refine ra so.hy T.C_State T.N_State_cells rfl (rd_ixT hto (show atI _ 1=some (.int b) from rfl) (zq (SqL.of hc.out) (zC hmap) (rd_ixT hto (show atI _ 2=some (.int c) from rfl) ?_)))
   walk_at "go"
   refine ⟨_,.inl ⟨_,SqL.of hvs,rfl⟩,?_⟩
   rw [lv]
   walk_at "go"
   refine ite2 (fun _=>?_) (fun z=>absurd (Int.ofNat_lt.mpr hcl) z)
   refine rd_ixT hto (show atI _ 2=some (.int c) from rfl) (zq (SqL.of hvs) (zC hv) ?_)
   refine .inr (.inl ⟨t2,tx,_,_,rfl,rfl,.inr ⟨SqT.of ht2,SqT.of htx⟩,rfl,rfl,?_⟩)
   rw [show qT [V.int x.1,V.int x.2] [V.int x.1,V.int x.2]=true by simp [qT,eqV]]
   exact k
  | new kk m =>
   obtain ⟨to,rfl,hto⟩:=ZD (s:="new") (b:=(kk:Int)) (q:=m) ro
   obtain ⟨ek,_,em,g0,gs,eg⟩:=ok
   rw [List.getD_eq_getElem?_getD,eg] at em
   have em:m=x.2 - g0:=em
   have m0:=pos kk m rfl
   obtain ⟨bG,hbG,hgG⟩:=JR so.hg eg
   have hmap:(n.ags.map V.ref)[kk]?=some (.ref bG):=by rw [List.getElem?_map,hbG]; rfl
   walk_at "go"
   refine Jc hto ?_
   walk_at "go"
   refine ⟨3,.inr ⟨_,SqT.of hto,rfl⟩,?_⟩
   walk_at "go"
   refine uc (xi T).mono (rd_ixT hto (show atI _ 1=some (.int kk) from rfl) ⟨_,rfl,?_⟩)
   walk_at "go"
   refine uc (xi T).mono (rd_ixT hto (show atI _ 2=some (.int m) from rfl) ⟨_,rfl,?_⟩)
   walk_at "go"
   refine rd_ixT hto at0 ?_
   walk_at "go"
   refine ra so.hy T.C_State T.N_State_gone rfl (rd_ixT htx at0 ?_)
   rw [ek]
   refine zq (SqL.of so.hg.out) (zC hmap) (zq (SqL.of hgG) at0 (rd_ixT hto (show atI _ 2=some (.int m) from rfl) ?_))
   walk_at "go"
   refine rd_ixT hto (show atI _ 1=some (.int kk) from rfl) (rd_ixT htx at0 ?_)
   rw [ek]
   walk_at "go"
   refine rd_ixT hto (show atI _ 2=some (.int m) from rfl) ?_
   walk_at "go"
   refine ite2 (fun _=>rd_ixT htx (show atI _ 1=some (.int x.2) from rfl) ?_) (fun z=>absurd m0 z)
   walk_at "go"
   rw [decide_eq_true (by omega)]
   exact k
theorem c_L_origin (T:Txt K mg a):Cal P w K mg base "_law_origin" 2 ["_law_origin_here","_law_ware","_law_before"] [] (vX a):=T.h_L_origin.cal (ok_L_origin T)
theorem org_pos {s0 s1:PSt} (nw:NWo s0 s1) {x:Int × Int} (hx:x∈(s1.cells.map zr).flatten) {o:Org} (ok:Zu s0 (some x) o):∀ k m,o=.new k m→0≤m:=fun k m e=>by
 subst e
 obtain ⟨ek,nx,em,_⟩:=ok
 have:=(nw.2 x hx).resolve_left nx
 rw [ek,Int.toNat_natCast] at this
 omega
def wW (a:Ad):Sp:=fun vs H Q _=>∃ (l y0 y1:Addr) (n0 n1:SN) (s0 s1:PSt) (oss:List (List Org)) (p:Addr→Prop),vs=[.ref l,.ref y0,.ref y1]∧Rep H p (.ref l) (JK oss)∧StO a H y0 n0 s0∧StO a H y1 n1 s1∧ZP s0 s1 oss∧NWo s0 s1∧∀ H',Same H H'→Q (.bl true) H'
theorem ok_L_origins (T:Txt K mg a) (F:Fun K "_law_origins" "_law_origins" s_L_origins f fd):FnOk P w K mg base (CXr P w) 3 f fd ["_law_origins_here","_law_before","_law_after"] (wW a):=by
 refine F.okx sc_L_origins ?_ ?_
 ·walk_at "i"
 walk_at "j"
 obtain ⟨l,y0,y1,n0,n1,s0,s1,oss,p,rfl,ro,so0,so1,ok,nw,k⟩:=h
 obtain ⟨l',us,e,_,hl,rus⟩:=ro.lst'
 cases e
 have hc:=so1.hc
 have lc:n1.acs.length=s1.cells.length:=by rw [hc.len,zu,List.length_map]
 have lu:us.length=s1.cells.length:=by rw [rus.len,List.length_map,ok.1]
 walk_at "T"
 refine ⟨_,(zh (zy (PW.pt (pw_or (qk (qi (zV xE qe (za (pv 0) (za (Qh qF) zb))) (fun _=>rfl))) (pw_or1 (zn (jW hr.units1) (zV zP zO (za (pv 0) zb)) (zV zP zO (za (zl (pv 2) rfl) zb)) (zo _)))))  (zd (zj xS))  zk)  (zh (qd qC rfl (JI (za (pv 0) (za (zl (pv 2) rfl) zb))) (jD (n:=2) rfl (zZ (pg_n 3 sc_L_origins.nd) (zZ (pg_n 4 sc_L_origins.nd) ja)))  (zh (zy (PW.pt (pw_or (qk (qi (zV xE qe (za (pv 3) (za (Qh qF) zb))) (fun _=>rfl))) (pw_or1 (zn (jW hr.units1) (zV zP zO (za (pv 3) zb)) (zV zP zO (za (pv 4) zb)) (zo _)))))  (zd (zj xS))  zk)  (zd (qd qC rfl (JI (za (pv 3) (za (pv 4) zb))) (jD (n:=2) rfl (zZ (pg_n 5 sc_L_origins.nd) (zZ (pg_n 6 sc_L_origins.nd) ja)))  (zd (zy (qk (qi (zv ⟨rfl,rfl,rfl⟩ hr (za (pv 5) (za (pv 6) (za (pv 1) zb)))) (fun _=>rfl)))  (zd (zj xS))  zk))))))  (zd (zj xS)))),?_⟩
 walk_at "go"
 refine Jd hl ?_
 walk_at "go"
 refine ⟨_,.inl ⟨_,SqL.of hl,rfl⟩,?_⟩
 walk_at "go"
 refine ra so1.hy T.C_State T.N_State_cells rfl ⟨_,.inl ⟨_,SqL.of hc.out,rfl⟩,?_⟩
 rw [List.length_map,lc,lu]
 walk_at "go"
 refine ra so1.hy T.C_State T.N_State_cells rfl ⟨true,true,l,n1.lc,_,_,rfl,SqL.of hl,SqL.of hc.out,?_⟩
 refine Xb (K:=K) (xs:=us) (ys:=n1.acs.map V.ref) (fun i σ H'=>∃ (v3 v4 v5 v6:Option V),σ=[some (.ref l),some (.ref y0),some (.ref y1),v3,v4,v5,v6]∧Same H H') ⟨_,_,_,_,rfl,Same.refl _⟩ (fun i σ H' _ ⟨_,_,_,_,_,s⟩=>⟨SqL.of (s _ _ hl),SqL.of (s _ _ hc.out)⟩) ?_ ?_
 ·rintro i x z t σ H1 hi hj ht ⟨v3,v4,v5,v6,rfl,s1'⟩
  obtain ⟨d,hd,rx⟩:=rus.at hi
  rw [List.getElem?_map,Option.map_eq_some_iff] at hd hj
  obtain ⟨os,hos,rfl⟩:=hd
  obtain ⟨cb,hcb,rfl⟩:=hj
  have hil:i < s1.cells.length:=by rw [← lc]; exact (List.getElem?_eq_some_iff.mp hcb).1
  obtain ⟨c,ec⟩:∃ c,s1.cells[i]?=some c:=⟨_,List.getElem?_eq_getElem hil⟩
  obtain ⟨vs,hvs,rvs⟩:=hc.g i cb _ hcb (show (zu s1.cells)[i]?=some (c.map zN) by rw [zu,List.getElem?_map,ec]; rfl)
  have lv:vs.length=c.length:=by rw [rvs.len,List.length_map]
  obtain ⟨lo,okr⟩:=ok.2 i os c hos ec
  obtain ⟨lr,ws,rfl,_,hlr,rws⟩:=Rep.lst' rx
  have lw:ws.length=c.length:=by rw [rws.len,List.length_map,lo]
  have s2:=s1'.trans (ze (o:=.tup [.ref lr,.ref cb]) ht)
  refine un2 upd_same ?_
  generalize upd H1 t (.tup [.ref lr,.ref cb])=H2 at s2 ⊢
  walk_at "go"
  refine Jd (s2 _ _ hlr) ?_
  walk_at "go"
  refine ⟨_,.inl ⟨_,SqL.of (s2 _ _ hlr),rfl⟩,?_⟩
  walk_at "go"
  refine ⟨_,.inl ⟨_,SqL.of (s2 _ _ hvs),rfl⟩,?_⟩
  rw [lw,lv]
  walk_at "go"
  refine ⟨true,true,lr,cb,_,_,rfl,SqL.of (s2 _ _ hlr),SqL.of (s2 _ _ hvs),?_⟩
  refine Xb (K:=K) (xs:=ws) (ys:=vs) (fun j σ H'=>∃ (v5 v6:Option V),σ=[some (.ref l),some (.ref y0),some (.ref y1),some (.ref lr),some (.ref cb),v5,v6]∧Same H H') ⟨_,_,rfl,s2⟩ (fun i σ H' _ ⟨_,_,_,s⟩=>⟨SqL.of (s _ _ hlr),SqL.of (s _ _ hvs)⟩) ?_ ?_
  ·rintro j u v t2 σ H3 hj hv ht2 ⟨v5,v6,rfl,s3⟩
   obtain ⟨d,hd,ru⟩:=rws.at hj
   obtain ⟨d2,hd2,rv⟩:=rvs.at hv
   rw [List.getElem?_map,Option.map_eq_some_iff] at hd hd2
   obtain ⟨o,ho,rfl⟩:=hd
   obtain ⟨wr,hwr,rfl⟩:=hd2
   have ok':=okr j o wr ho hwr
   have s4:=s3.trans (ze (o:=.tup [u,v]) ht2)
   refine un2 upd_same ?_
   generalize upd H3 t2 (.tup [u,v])=H4 at s4 ⊢
   have pos:∀ k m,o=.new k m→0≤m:=by
    cases wr with
    | none =>
     intro k m e
     subst e
     exact ok'.elim
    | some x=>exact org_pos nw (flat_mem.mpr ⟨c,List.mem_of_getElem? ec,List.mem_of_getElem? hwr⟩) ok'
   walk_at "go"
   refine uc (c_L_origin T).mono ⟨u,v,y0,n0,s0,wr,o,_,_,rfl,ru.keep (fun b o hb ho=>⟨hb,s4 _ _ ho⟩),rv.keep (fun b o hb ho=>⟨hb,s4 _ _ ho⟩),so0.same s4,ok',pos,?_⟩
   walk_at "go"
   exact ⟨_,_,rfl,s4⟩
  ·rintro σ H3 ⟨v5,v6,rfl,s3⟩
   exact ⟨_,_,_,_,rfl,s3⟩
 ·rintro σ H1 ⟨v3,v4,v5,v6,rfl,s1'⟩
  exact k _ s1'
theorem c_L_origins (T:Txt K mg a):Cal P w K mg base "_law_origins" 3 ["_law_origins_here","_law_before","_law_after"] [] (wW a):=T.h_L_origins.cal (ok_L_origins T)
theorem Qz {H:Hp} {n:Nat} {p q:Addr} {xs ys:List V} (h1:H p=some (.lst xs)) (h2:H q=some (.lst ys)) (hl:xs.length=ys.length) (hd:∀ (j:Nat) x y,xs[j]?=some x→ys[j]?=some y→DE K H n x y true):DE K H (n + 1) (.ref p) (.ref q) true:=by
 by_cases e:p=q
 ·subst e; exact .same
 ·have:=DE.lists (n:=n) (e:=fun _=>true) e (SqL.of h1) (SqL.of h2) hl hd
  rw [List.all_eq_true.mpr (fun _ _=>rfl)] at this
  exact this
theorem de_wares {H:Hp} {p q:Addr→Prop} {vs ws:List V} {c:List Ware} (h1:Reps H p vs (c.map zN)) (h2:Reps H q ws (c.map zN)) (j:Nat) (x y:V) (e1:vs[j]?=some x) (e2:ws[j]?=some y):DE K H 1 x y true:=by
 obtain ⟨d,hd,r1⟩:=h1.at e1
 have r2:=h2.g j y d e2 hd
 rw [List.getElem?_map,Option.map_eq_some_iff] at hd
 obtain ⟨wr,_,rfl⟩:=hd
 cases wr with
 | none =>
  have r1:Rep H p x .non:=r1
  have r2:Rep H q y .non:=r2
  cases r1
  cases r2
  exact ZL rfl rfl
 | some z =>
  obtain ⟨t1,rfl,h1⟩:=qW (b:=z) r1
  obtain ⟨t2,rfl,h2⟩:=qW (b:=z) r2
  exact de_ware h1 h2
theorem QA {H:Hp} {p q:Addr→Prop} {G G':Addr} {as as':List Addr} {cs:List (List Ware)} (h1:NL H p G as (zu cs)) (h2:NL H q G' as' (zu cs)):DE K H 3 (.ref G) (.ref G') true:=by
 refine Qz h1.out h2.out (by rw [List.length_map,List.length_map,h1.len,h2.len]) fun j x y e1 e2=>?_
 rw [List.getElem?_map,Option.map_eq_some_iff] at e1 e2
 obtain ⟨b1,e1,rfl⟩:=e1
 obtain ⟨b2,e2,rfl⟩:=e2
 have hj:j < cs.length:=by have:=(List.getElem?_eq_some_iff.mp e1).1; rw [h1.len,zu,List.length_map] at this; exact this
 have ec:(zu cs)[j]?=some (cs[j].map zN):=by rw [zu,List.getElem?_map,List.getElem?_eq_getElem hj]; rfl
 obtain ⟨vs,g1,r1⟩:=h1.g j b1 _ e1 ec
 obtain ⟨ws,g2,r2⟩:=h2.g j b2 _ e2 ec
 exact Qz g1 g2 (by rw [r1.len,r2.len]) (de_wares r1 r2)
theorem JY {bs:List (Int × Int)} {rs:List Row} {s0 s1:PSt} (w0:stWf bs rs s0) (w1:stWf bs rs s1) (ro:∀ r∈rs,r.ok) (bo:∀ b∈bs,zA b.1 b.2):∀ c∈s1.cells,c.length≤6∧∀ wr∈c,Jt s0 wr:=fun c hc=>by
 obtain ⟨i,hi⟩:=List.getElem?_of_mem hc
 have hil:=(List.getElem?_eq_some_iff.mp hi).1
 obtain ⟨b,hb⟩:∃ b,bs[i]?=some b:=⟨_,List.getElem?_eq_getElem (by rw [← w1.co.1]; exact hil)⟩
 obtain ⟨l1,wk⟩:=w1.co.2 i b c hb hi
 have bk:=bo b (List.mem_of_getElem? hb)
 have b2:=bk.2.1
 refine ⟨by omega,fun wr hw x e=>?_⟩
 obtain ⟨j,r,e1,hr,_,_⟩:=wk wr hw x.1 x.2 e
 have hj:=(List.getElem?_eq_some_iff.mp hr).1
 obtain ⟨g,hg⟩:∃ g,s0.gone[j]?=some g:=⟨_,List.getElem?_eq_getElem (by rw [w0.go.1]; exact hj)⟩
 have q1:=(w0.go.2 j r g hr hg).1
 have cp:=x6 (ro r (List.mem_of_getElem? hr))
 obtain ⟨g0,gs,rfl⟩:=List.exists_cons_of_ne_nil (List.ne_nil_of_length_pos (by omega:0 < g.length))
 exact ⟨j,g0,gs,e1,hg⟩
theorem vK {cs:List (List Ware)} {i:Nat} {c:List Ware} (h:cs[i]?=some c):zu (cs.take (i + 1))=zu (cs.take i) ++ [c.map zN]:=by
 rw [List.take_add_one,h]
 simp [zu]
def Z3 (K:PySem.W.Frag):Sp:=fun vs H Q _=>∃ (l:Addr) (ns:List Int),vs=[.ref l]∧SqL K H l (ns.map V.int)∧ns.length≤63∧∀ H',Q (.bl true) H'
abbrev st28 (l:Addr) (vw:V) (nu:Int) (y:Addr) (v4 v5 v6 v7 v8 v9 v10:Option V):St:=[some (.ref l),some vw,some (.int nu),some (.ref y),v4,v5,v6,v7,v8,v9,v10]
theorem ok_law (T:Txt K mg a) (F:Fun K "law" "law" s_law f fd):FnOk P w K mg base (CXr P w) 8 f fd ["_law_script"] (Z3 K):=by
 refine F.okx sc_law ?_ ?_
 ·walk_at "i"
 walk_at "j"
 refine oE2 h fun l ns z1_=>oA4 z1_ fun z2_ hl hn k=>?_
 clear h
 subst z2_
 walk_at "T"
 refine ⟨_,(zg (zx 1 sc_law.nd (zv ⟨rfl,rfl,rfl⟩ hr (za (pv 0) zb)))  (zg (zx 2 sc_law.nd (zv ⟨rfl,rfl,rfl⟩ hr (za (zv ⟨rfl,rfl,rfl⟩ hr (za (pv 0) (za zc zb))) (za zc zb))))  (zg (zx 3 sc_law.nd (zv ⟨rfl,rfl,rfl⟩ hr (za (pv 1) (za (zi zB (pv 2) zc) zb))))  (zg (zx 4 sc_law.nd (pv 3))  (zX (qd qC rfl (jT (za (zi zB (zi zK (pv 2) zc) zc) zb)) (pg_n 5 sc_law.nd)  (zd (zx 4 sc_law.nd (zv ⟨rfl,rfl,rfl⟩ hr (za (pv 1) (za (pv 4) zb))))))  (zg (zx 6 sc_law.nd (zF (za (jU (vars:=["_law_row"]) (caps:=[]) (N:=["_law_row"]) (ON:=["_law_script","_law_work_here","_law_number","_law_before","_law_after","_law_turn","_law_kept","_law_belt_here","_law_row","_law_place","_law_origin_here"]) (osc:=zf s_law) rfl rfl (by first | decide +kernel | kernel_rfl) rfl rfl (ql (zl (pv 3) rfl)) (fun s H fp pins=>(pg_n 0 (show (["_law_row"]:List Str).Nodup from by decide +kernel))) (fun s H fp pins=>qg) (fun s H fp pins=>(xR jl qF (za (pv 0) zb)))) (za (jU (vars:=["_law_row"]) (caps:=[]) (N:=["_law_row"]) (ON:=["_law_script","_law_work_here","_law_number","_law_before","_law_after","_law_turn","_law_kept","_law_belt_here","_law_row","_law_place","_law_origin_here"]) (osc:=zf s_law) rfl rfl (by first | decide +kernel | kernel_rfl) rfl rfl (ql (zl (pv 4) rfl)) (fun s H fp pins=>(pg_n 0 (show (["_law_row"]:List Str).Nodup from by decide +kernel))) (fun s H fp pins=>qg) (fun s H fp pins=>(xR jl qF (za (pv 0) zb)))) zb))))  (zg (zy (qk (qi (zv ⟨rfl,rfl,rfl⟩ hr (za (zv ⟨rfl,rfl,rfl⟩ hr (za (pv 3) (za (pv 4) zb))) (za (pv 3) (za (pv 4) zb)))) (fun _=>rfl)))  (zd (zj xS))  zk)  (zX (qd qC rfl (qm (za (zv ⟨rfl,rfl,rfl⟩ hr (za (pv 3) (za (pv 3) zb))) zb)) (jD (n:=2) rfl (zZ (pg_n 7 sc_law.nd) (zZ (pg_n 8 sc_law.nd) ja)))  (zd (qd qC rfl (qm (za (pv 8) zb)) (jD (n:=2) rfl (zZ (pg_n 9 sc_law.nd) (zZ (pg_n 10 sc_law.nd) ja)))  (zg (zy (PW.pt (pw_and (zn j9 (zp (zp (zl (pv 3) rfl) (pv 7)) (pv 9)) zz (zo _)) (pw_and1 (zn (jW hr.units1) (pv 10) (qM (za qG (za (pv 7) (za (pv 9) zb)))) (zo _)))))  (zd (zj xS))  zk)  (zd (zy (PW.pt (pw_and (zn qw (zp (zp (zl (pv 3) rfl) (pv 7)) (pv 9)) zz (zo _)) (pw_and1 (zn j9 (pv 10) zz (zo _)))))  (zd (zj xS))  zk))))))  (zd (zj (jh (qr hr.units1) (zF (za (zl (pv 3) rfl) (za (zl (pv 4) rfl) zb))) (pv 6) (zo _)))))))))))),?_⟩
 walk_at "go"
 refine uc (c_L_work T).mono (i_spWorkOf l ns rfl hl (fun vw H1 bs rs s1 rw1 wok bo ro=>?_))
 walk_at "go"
 refine uc (qz T).mono (uc (JZ T).mono (Qw l ns 7 rfl (ZY s1 hl) ?_))
 refine ⟨_,_,rfl,by decide,by decide,?_⟩
 have u0:=qH (x8 ns 7) 1207959571
 generalize jy (x8 ns 7) 1207959571=nu at u0 ⊢
 have x0:=Int.emod_nonneg nu (show (40:Int)≠0 by decide)
 have x1:=Int.emod_lt_of_pos nu (show (0:Int) < 40 by decide)
 have z0:=Int.emod_nonneg (nu / 40) (show (30:Int)≠0 by decide)
 have z1:=Int.emod_lt_of_pos (nu / 40) (show (0:Int) < 30 by decide)
 clear s1 hl hn
 walk_at "go"
 obtain ⟨n0,en⟩:∃ m:Nat,nu % 40=m:=⟨(nu % 40).toNat,by omega⟩
 refine uc (c_played T).mono (i_spPlayed vw n0 bs rs (by rw [en]) rw1 wok bo ro (by omega) (fun v' H2 s2 sn=>?_))
 refine oE2 sn fun y nn z1_=>oA5 z1_ fun z2_ so _ _ _=>?_
 clear sn
 subst z2_
 have rw2:=rw1.same s2
 have b24:=wok.1.1.2
 clear rw1 s2
 walk_at "go"
 let M1_:St→Hp→Prop:=fun σ' H'=>∃ (v5:Option V) (y1:Addr) (n1:SN) (m:Nat),σ'=st28 l vw nu y (some (.ref y1)) v5 none none none none none∧Same H2 H'∧StO a H' y1 n1 (qV bs rs (n0 + m))
 refine cut M1_ ?_ ?_
 ·walk_at "for"
  walk_at "go"
  refine ⟨fd_ok (by decide) (by decide +kernel),by omega,by omega,?_⟩
  let M2_:Nat→St→Hp→Prop:=fun i σ H'=>∃ (v5:Option V) (y1:Addr) (n1:SN),σ=st28 l vw nu y (some (.ref y1)) v5 none none none none none∧Same H2 H'∧StO a H' y1 n1 (qV bs rs (n0 + i))
  refine wK (n:=(nu / 40 % 30).toNat) M2_ ⟨_,y,nn,rfl,Same.refl _,so⟩ ?_ ?_
  ·rintro i σ H3 hi ⟨v5,y1,n1,rfl,s3,so3⟩
   walk_at "go"
   refine uc (c_one_turn T).mono (i_spOneTurn vw (.ref y1) (qV bs rs (n0 + i)) bs rs _ rfl (rw2.same s3) so3.rep (jf wok bo ro _) wok bo ro (fun v' H4 s4 sn=>?_))
   obtain ⟨y2,n2,rfl,so4,_⟩:=sn
   exact ⟨_,y2,n2,rfl,s3.trans s4,so4⟩
  ·rintro σ H3 ⟨v5,y1,n1,rfl,s3,so3⟩
   exact ⟨_,y1,n1,_,rfl,s3,so3⟩
 rintro σ' H3 ⟨v5,y1,n1,m,rfl,s3,so1⟩
 have nw:=Qf wok bo ro n0 m
 obtain ⟨giv,tak,wl⟩:=Qe wok bo ro n0
 have nd:=(List.nodup_append.mp wl.ndt).2.1
 have wf0:=jf wok bo ro n0
 have wf1:=jf wok bo ro (n0 + m)
 have so0:=so.same s3
 generalize qV bs rs (n0 + m)=st1 at so1 nw wf1
 generalize qV bs rs n0=st0 at so0 nw nd wf0 wl so
 clear rw2 s3 so wl x0 x1 z0 z1 en
 have l0:st0.cells.length≤24:=by rw [wf0.co.1]; exact b24
 have l1:st1.cells.length≤24:=by rw [wf1.co.1]; exact b24
 have c00:=JY wf0 wf0 ro bo
 have c01:=JY wf0 wf1 ro bo
 have lc0:nn.acs.length=st0.cells.length:=by rw [so0.hc.len,zu,List.length_map]
 have lc1:n1.acs.length=st1.cells.length:=by rw [so1.hc.len,zu,List.length_map]
 walk_at "lc"
 walk_at "go"
 refine ra so0.hy T.C_State T.N_State_cells rfl ⟨nn.lc,rfl,.inl ⟨⟨_,SqL.of so0.hc.out⟩,fun _ _ _ _ K1 hK1=>?_⟩⟩
 let M3_:Nat→St→Hp→Prop:=fun i σ H'=>∃ (v0:Option V) (as:List Addr),σ=[v0]∧Same H3 H'∧NL H' (TupP H') K1 as (zu (st0.cells.take i))
 refine qP (K:=K) (a:=nn.lc) (xs:=nn.acs.map V.ref) M3_ ⟨_,[],rfl,ze hK1,ZG upd_same⟩ (fun i σ H' _ h=>by obtain ⟨_,_,_,s,_⟩:=h; exact SqL.of (s _ _ so0.hc.out)) ?_ ?_
 ·rintro i x σ H5 hi ⟨v0,as,rfl,s5,nl5⟩
  rw [List.getElem?_map,Option.map_eq_some_iff] at hi
  obtain ⟨cb,hcb,rfl⟩:=hi
  have hil:i < st0.cells.length:=by rw [← lc0]; exact (List.getElem?_eq_some_iff.mp hcb).1
  obtain ⟨c,ec⟩:∃ c,st0.cells[i]?=some c:=⟨_,List.getElem?_eq_getElem hil⟩
  obtain ⟨vs,hvs,rvs⟩:=so0.hc.g i cb _ hcb (show (zu st0.cells)[i]?=some (c.map zN) by rw [zu,List.getElem?_map,ec]; rfl)
  have la:as.length=min i st0.cells.length:=by rw [nl5.len]; simp [zu]
  have t5:=s5
  walk_at "go"
  refine ⟨cb,_,rfl,.inl (SqL.of (t5 _ _ hvs)),fun q hq=>?_⟩
  have ntK:¬ TupP H5 K1:=fun ⟨xs,hx⟩=>by rw [nl5.out] at hx; cases hx
  obtain ⟨c1,c2⟩:=nl5.copy hq ntK (rvs.keep fun b o ⟨xs,hx⟩ hb=>⟨⟨xs,t5 _ _ hx⟩,t5 _ _ hb⟩)
  refine ⟨_,c1,zm (by rw [List.length_map]; omega),_,as ++ [q],rfl,fun b o hb=>?_,?_⟩
  ·rw [upd_ne (ne_of_none hb hK1),upd_ne (ne_of_none (s5 _ _ hb) hq)]
   exact s5 _ _ hb
  ·rw [vK ec]
   exact c2.keep (fun _ _ _ h=>h) fun b hb _=>jx c1 (by
    obtain ⟨xs,hx⟩:=hb
    exact ⟨xs,upd_keep hx hq⟩)
 rintro σ H4 ⟨_,as1,rfl,s4,nk1⟩
 rw [List.length_map,lc0,List.take_length] at nk1
 walk_at "lc"
 walk_at "go"
 refine ra (s4 _ _ so1.hy) T.C_State T.N_State_cells rfl ⟨n1.lc,rfl,.inl ⟨⟨_,SqL.of (s4 _ _ so1.hc.out)⟩,fun _ _ _ _ K2 hK2=>?_⟩⟩
 let M4_:Nat→St→Hp→Prop:=fun i σ H'=>∃ (v0:Option V) (as:List Addr),σ=[v0]∧Same H4 H'∧NL H' (TupP H') K2 as (zu (st1.cells.take i))
 refine qP (K:=K) (a:=n1.lc) (xs:=n1.acs.map V.ref) M4_ ⟨_,[],rfl,ze hK2,ZG upd_same⟩ (fun i σ H' _ h=>by obtain ⟨_,_,_,s,_⟩:=h; exact SqL.of (s _ _ (s4 _ _ so1.hc.out))) ?_ ?_
 ·rintro i x σ H5 hi ⟨v0,as,rfl,s5,nl5⟩
  rw [List.getElem?_map,Option.map_eq_some_iff] at hi
  obtain ⟨cb,hcb,rfl⟩:=hi
  have hil:i < st1.cells.length:=by rw [← lc1]; exact (List.getElem?_eq_some_iff.mp hcb).1
  obtain ⟨c,ec⟩:∃ c,st1.cells[i]?=some c:=⟨_,List.getElem?_eq_getElem hil⟩
  obtain ⟨vs,hvs,rvs⟩:=so1.hc.g i cb _ hcb (show (zu st1.cells)[i]?=some (c.map zN) by rw [zu,List.getElem?_map,ec]; rfl)
  have la:as.length=min i st1.cells.length:=by rw [nl5.len]; simp [zu]
  have t5:=s4.trans s5
  walk_at "go"
  refine ⟨cb,_,rfl,.inl (SqL.of (t5 _ _ hvs)),fun q hq=>?_⟩
  have ntK:¬ TupP H5 K2:=fun ⟨xs,hx⟩=>by rw [nl5.out] at hx; cases hx
  obtain ⟨c1,c2⟩:=nl5.copy hq ntK (rvs.keep fun b o ⟨xs,hx⟩ hb=>⟨⟨xs,t5 _ _ hx⟩,t5 _ _ hb⟩)
  refine ⟨_,c1,zm (by rw [List.length_map]; omega),_,as ++ [q],rfl,fun b o hb=>?_,?_⟩
  ·rw [upd_ne (ne_of_none hb hK2),upd_ne (ne_of_none (s5 _ _ hb) hq)]
   exact s5 _ _ hb
  ·rw [vK ec]
   exact c2.keep (fun _ _ _ h=>h) fun b hb _=>jx c1 (by
    obtain ⟨xs,hx⟩:=hb
    exact ⟨xs,upd_keep hx hq⟩)
 rintro σ H6 ⟨_,as2,rfl,s6,nk2⟩
 rw [List.length_map,lc1,List.take_length] at nk2
 intro KL hKL
 have s7:=ze (o:=.lst [V.ref K1,.ref K2]) hKL
 have hK7:upd H6 KL (.lst [V.ref K1,.ref K2]) KL=some (.lst [V.ref K1,.ref K2]):=upd_same
 generalize upd H6 KL (.lst [V.ref K1,.ref K2])=H7 at s7 hK7 ⊢
 have s37:=(s4.trans s6).trans s7
 have nk1:=nk1.tup fun b o _ hb=>(s6.trans s7) b o hb
 have nk2:=nk2.tup fun b o _ hb=>s7 b o hb
 have so0:=so0.same s37
 have so1:=so1.same s37
 clear s37 s7 s6 s4 hK1 hK2 hKL
 walk_at "go"
 refine uc (c_L_origins T).mono (uc (x9 T).mono (wI y y1 nn n1 st0 st1 rfl so0 so1 l0 (fun c hc=>(c00 c hc).1) l1 c01 (fun lo H8 oss s8 ro8 ok8=>?_)))
 refine ⟨lo,y,y1,nn,n1,st0,st1,oss,_,rfl,ro8,so0.same s8,so1.same s8,ok8,nw,fun H9 s9=>?_⟩
 have s79:=s8.trans s9
 clear ok8 ro8 s8 s9
 have so9:=so0.same s79
 walk_at "go"
 let M5_:St→Hp→Prop:=fun σ' H'=>∃ (v7 v8 v9 v10:Option V),σ'=st28 l vw nu y (some (.ref y1)) v5 (some (.ref KL)) v7 v8 v9 v10∧Same H7 H'
 refine cut M5_ ?_ ?_
 ·walk_at "for"
  walk_at "go"
  refine uc (x9 T).mono (wI y y nn nn st0 st0 rfl so9 so9 l0 (fun c hc=>(c00 c hc).1) l0 c00 (fun lo2 H10 oss2 s10 ro10 ok10=>?_))
  have so10:=so9.same s10
  have s710:=s79.trans s10
  obtain ⟨lo',us,e,_,hlo,rus⟩:=ro10.lst'
  cases e
  have lu:us.length=st0.cells.length:=by rw [rus.len,List.length_map,ok10.1]
  refine ⟨lo2,_,rfl,hlo,?_⟩
  let M6_:Nat→St→Hp→Prop:=fun i σ H'=>∃ (v7 v8 v9 v10:Option V),σ=st28 l vw nu y (some (.ref y1)) v5 (some (.ref KL)) v7 v8 v9 v10∧Same H10 H'
  refine vE (K:=K) (a:=lo2) (xs:=us) M6_ ⟨_,_,_,_,rfl,Same.refl _⟩ (fun i σ H' _ h=>by obtain ⟨_,_,_,_,_,s⟩:=h; exact SqL.of (s _ _ hlo)) ?_ ?_
  ·rintro i x t σ H11 hi ht ⟨v7,v8,v9,v10,rfl,s11⟩
   obtain ⟨d,hd,rx⟩:=rus.at hi
   rw [List.getElem?_map,Option.map_eq_some_iff] at hd
   obtain ⟨os,hos,rfl⟩:=hd
   obtain ⟨lr,ws,rfl,_,hlr,rws⟩:=Rep.lst' rx
   have hil:i < st0.cells.length:=by rw [← lu]; exact (List.getElem?_eq_some_iff.mp hi).1
   obtain ⟨c,ec⟩:∃ c,st0.cells[i]?=some c:=⟨_,List.getElem?_eq_getElem hil⟩
   obtain ⟨lo3,okr⟩:=ok10.2 i os c hos ec
   obtain ⟨cb,vs,hcb,hvs,rvs⟩:=NLC.cell so10.hc ec
   have hmap:(nn.acs.map V.ref)[i]?=some (.ref cb):=by rw [List.getElem?_map,hcb]; rfl
   have s12:=s11.trans (ze (o:=.tup [.int i,.ref lr]) ht)
   refine un2 upd_same ?_
   generalize upd H11 t (.tup [.int i,.ref lr])=H12 at s12 ⊢
   clear s11 ht
   walk_at "for"
   walk_at "go"
   refine ⟨lr,_,rfl,s12 _ _ hlr,?_⟩
   let M7_:Nat→St→Hp→Prop:=fun j σ H'=>∃ (v9 v10:Option V),σ=st28 l vw nu y (some (.ref y1)) v5 (some (.ref KL)) (some (.int i)) (some (.ref lr)) v9 v10∧Same H10 H'
   refine vE (K:=K) (a:=lr) (xs:=ws) M7_ ⟨_,_,rfl,s12⟩ (fun i σ H' _ h=>by obtain ⟨_,_,_,s⟩:=h; exact SqL.of (s _ _ hlr)) ?_ ?_
   ·rintro j u t2 σ H13 hj ht2 ⟨v9,v10,rfl,s13⟩
    obtain ⟨d,hd,ru⟩:=rws.at hj
    rw [List.getElem?_map,Option.map_eq_some_iff] at hd
    obtain ⟨o,ho,rfl⟩:=hd
    have hjl:j < c.length:=by rw [← lo3]; exact (List.getElem?_eq_some_iff.mp ho).1
    obtain ⟨wr,hwr⟩:∃ wr,c[j]?=some wr:=⟨_,List.getElem?_eq_getElem hjl⟩
    obtain ⟨v,hv,rv⟩:=rvs.of (i:=j) (d:=zN wr) (by rw [List.getElem?_map,hwr]; rfl)
    have ok':=okr j o wr ho hwr
    have s14:=s13.trans (ze (o:=.tup [.int j,u]) ht2)
    refine un2 upd_same ?_
    generalize upd H13 t2 (.tup [.int j,u])=H14 at s14 ⊢
    clear s13 ht2
    have hy14:=s14 _ _ so10.hy
    have hc14:=s14 _ _ so10.hc.out
    have hv14:=s14 _ _ hvs
    cases wr with
    | none =>
     have rv:Rep H10 (TupP H10) v .non:=rv
     cases rv
     cases o with
     | kept b p=>exact ok'.elim
     | new b p=>exact ok'.elim
     | no =>
      have ru:Rep H10 (New H9) u .non:=ru
      cases ru
      walk_at "go"
      refine ra hy14 T.C_State T.N_State_cells rfl (zq (SqL.of hc14) (zC hmap) (zq (SqL.of hv14) (zC hv) ?_))
      walk_at "go"
      refine ra hy14 T.C_State T.N_State_cells rfl (zq (SqL.of hc14) (zC hmap) (zq (SqL.of hv14) (zC hv) ?_))
      walk_at "go"
      exact ⟨_,_,rfl,s14⟩
    | some x =>
     obtain ⟨tx,rfl,htx⟩:=qW (b:=x) rv
     cases o with
     | no=>exact ok'.elim
     | new b p=>exact absurd (flat_mem.mpr ⟨c,List.mem_of_getElem? ec,List.mem_of_getElem? hwr⟩) ok'.2.1
     | kept b p =>
      obtain ⟨c',e1,e2⟩:=ok'
      obtain ⟨rfl,rfl⟩:=once_at nd ec hwr e1 e2
      obtain ⟨to,rfl,hto⟩:=ZD (s:="kept") (b:=(i:Int)) (q:=(j:Int)) ru
      walk_at "go"
      refine ra hy14 T.C_State T.N_State_cells rfl (zq (SqL.of hc14) (zC hmap) (zq (SqL.of hv14) (zC hv) ?_))
      walk_at "go"
      intro t3 ht3
      have s15:=s14.trans (ze (o:=.tup [V.str "kept",.int i,.int j]) ht3)
      refine rd_neT (xs:=[V.str "kept",.int i,.int j]) (SqT.of (s15 _ _ hto)) (SqT.of upd_same) rfl (by simp [qT,eqV]) ?_
      generalize upd H14 t3 (.tup [V.str "kept",.int i,.int j])=H15 at s15 ⊢
      refine ⟨false,rfl,?_⟩
      rw [if_neg (by decide)]
      walk_at "go"
      refine ra (s15 _ _ so10.hy) T.C_State T.N_State_cells rfl (zq (SqL.of (s15 _ _ so10.hc.out)) (zC hmap) (zq (SqL.of (s15 _ _ hvs)) (zC hv) ?_))
      walk_at "go"
      exact ⟨_,_,rfl,s15⟩
   ·rintro σ H13 ⟨v9,v10,rfl,s13⟩
    exact ⟨_,_,_,_,rfl,s13⟩
  ·rintro σ H11 ⟨v7,v8,v9,v10,rfl,s11⟩
   exact ⟨_,_,_,_,rfl,s710.trans s11⟩
 rintro σ' H10 ⟨v7,v8,v9,v10,rfl,s10⟩
 walk_at "go"
 refine ra (s10 _ _ so0.hy) T.C_State T.N_State_cells rfl (ra (s10 _ _ so1.hy) T.C_State T.N_State_cells rfl (fun p hp=>?_))
 have s11:=s10.trans (ze (o:=.lst [V.ref nn.lc,.ref n1.lc]) hp)
 have hp11:upd H10 p (.lst [V.ref nn.lc,.ref n1.lc]) p=some (.lst [V.ref nn.lc,.ref n1.lc]):=upd_same
 generalize upd H10 p (.lst [V.ref nn.lc,.ref n1.lc])=H11 at s11 hp11 ⊢
 have a0:=(so0.same s11).hc
 have a1:=(so1.same s11).hc
 refine .inr (.inr ⟨p,KL,_,_,3,fun _=>true,rfl,rfl,by decide,fun j x z e1 e2=>?_,.inl ⟨SqL.of hp11,SqL.of (s11 _ _ hK7),rfl,?_⟩⟩)
 ·match j,e1,e2 with
  | 0,e1,e2 =>
   cases e1
   cases e2
   exact QA a0 (nk1.tup fun b o _ hb=>s11 b o hb)
  | 1,e1,e2 =>
   cases e1
   cases e2
   exact QA a1 (nk2.tup fun b o _ hb=>s11 b o hb)
 ·rw [List.all_eq_true.mpr (fun _ _=>rfl)]
  exact k _
theorem top_ok (T:Txt K mg a) (F:Fun K "law" "law" s_law f fd):FnOk P w K mg base (CXr P w) 8 f fd ["_law_script"] (Z3 K):=ok_law T F
end
theorem ex_s {α:Type} {n:Nat} {P:List α→Prop} (us:List α) (hl:us.length=n + 1) (h:∀ a vs,vs.length=n→P (a :: vs)):P us:=by
 cases us with
 | nil=>cases hl
 | cons a vs=>exact h a vs (Nat.succ.inj hl)
theorem ey0 {α:Type} {P:List α→Prop} (us:List α) (hl:us.length=0) (h:P []):P us:=by
 cases us with
 | nil=>exact h
 | cons=>cases hl
theorem ey1 {α:Type} {P:List α→Prop} (us:List α) (hl:us.length=1) (h:∀ a0,P [a0]):P us:=ex_s us hl fun a0 _ l=>ey0 (P:=fun z=>P (a0 :: z)) _ l (h a0)
theorem ex1 {fn:FuncData} {ps:List Str} (us:List Value) (hl:us.length=1) (h:∀ a0,bindArgs fn ⟨[a0],[]⟩=pure (ps.zip [a0])):bindArgs fn ⟨us,[]⟩=pure (ps.zip us):=ey1 (P:=fun z=>bindArgs fn ⟨z,[]⟩=pure (ps.zip z)) us hl h
theorem ey2 {α:Type} {P:List α→Prop} (us:List α) (hl:us.length=2) (h:∀ a0 a1,P [a0,a1]):P us:=ex_s us hl fun a0 _ l=>ey1 (P:=fun z=>P (a0 :: z)) _ l fun a1=>h a0 a1
theorem ex2 {fn:FuncData} {ps:List Str} (us:List Value) (hl:us.length=2) (h:∀ a0 a1,bindArgs fn ⟨[a0,a1],[]⟩=pure (ps.zip [a0,a1])):bindArgs fn ⟨us,[]⟩=pure (ps.zip us):=ey2 (P:=fun z=>bindArgs fn ⟨z,[]⟩=pure (ps.zip z)) us hl h
theorem ey3 {α:Type} {P:List α→Prop} (us:List α) (hl:us.length=3) (h:∀ a0 a1 a2,P [a0,a1,a2]):P us:=ex_s us hl fun a0 _ l=>ey2 (P:=fun z=>P (a0 :: z)) _ l fun a1 a2=>h a0 a1 a2
theorem ex3 {fn:FuncData} {ps:List Str} (us:List Value) (hl:us.length=3) (h:∀ a0 a1 a2,bindArgs fn ⟨[a0,a1,a2],[]⟩=pure (ps.zip [a0,a1,a2])):bindArgs fn ⟨us,[]⟩=pure (ps.zip us):=ey3 (P:=fun z=>bindArgs fn ⟨z,[]⟩=pure (ps.zip z)) us hl h
theorem ey4 {α:Type} {P:List α→Prop} (us:List α) (hl:us.length=4) (h:∀ a0 a1 a2 a3,P [a0,a1,a2,a3]):P us:=ex_s us hl fun a0 _ l=>ey3 (P:=fun z=>P (a0 :: z)) _ l fun a1 a2 a3=>h a0 a1 a2 a3
theorem ex4 {fn:FuncData} {ps:List Str} (us:List Value) (hl:us.length=4) (h:∀ a0 a1 a2 a3,bindArgs fn ⟨[a0,a1,a2,a3],[]⟩=pure (ps.zip [a0,a1,a2,a3])):bindArgs fn ⟨us,[]⟩=pure (ps.zip us):=ey4 (P:=fun z=>bindArgs fn ⟨z,[]⟩=pure (ps.zip z)) us hl h
theorem ey5 {α:Type} {P:List α→Prop} (us:List α) (hl:us.length=5) (h:∀ a0 a1 a2 a3 a4,P [a0,a1,a2,a3,a4]):P us:=ex_s us hl fun a0 _ l=>ey4 (P:=fun z=>P (a0 :: z)) _ l fun a1 a2 a3 a4=>h a0 a1 a2 a3 a4
theorem ex5 {fn:FuncData} {ps:List Str} (us:List Value) (hl:us.length=5) (h:∀ a0 a1 a2 a3 a4,bindArgs fn ⟨[a0,a1,a2,a3,a4],[]⟩=pure (ps.zip [a0,a1,a2,a3,a4])):bindArgs fn ⟨us,[]⟩=pure (ps.zip us):=ey5 (P:=fun z=>bindArgs fn ⟨z,[]⟩=pure (ps.zip z)) us hl h
theorem ey6 {α:Type} {P:List α→Prop} (us:List α) (hl:us.length=6) (h:∀ a0 a1 a2 a3 a4 a5,P [a0,a1,a2,a3,a4,a5]):P us:=ex_s us hl fun a0 _ l=>ey5 (P:=fun z=>P (a0 :: z)) _ l fun a1 a2 a3 a4 a5=>h a0 a1 a2 a3 a4 a5
theorem ex6 {fn:FuncData} {ps:List Str} (us:List Value) (hl:us.length=6) (h:∀ a0 a1 a2 a3 a4 a5,bindArgs fn ⟨[a0,a1,a2,a3,a4,a5],[]⟩=pure (ps.zip [a0,a1,a2,a3,a4,a5])):bindArgs fn ⟨us,[]⟩=pure (ps.zip us):=ey6 (P:=fun z=>bindArgs fn ⟨z,[]⟩=pure (ps.zip z)) us hl h
abbrev FHy (K:PySem.W.Frag) (x:Str) (st:Stmt):Prop:=∃ (f:Addr) (oc:Value) (od an:Option Addr) (osl:Array (Option Value)) (kV doc pm cdv ct:Value),PySem.W.nsIn K mainGlobals x=some (some (.ref f))∧K.lookup f=some ⟨oc,od,.func (PySem.W.fnOf x x (zY st) (zU st) (zf st) .none kV doc pm an cdv ct),osl⟩∧PySem.W.codeIn K cdv x=true∧PySem.W.keepIn K (.ref f)=true
theorem fhy {K:PySem.W.Frag} {x:Str} {st:Stmt} {f:Addr} {oc:Value} {od an:Option Addr} {osl:Array (Option Value)} {kV doc pm cdv ct:Value} (a:PySem.W.nsIn K mainGlobals x=some (some (.ref f))) (l:K.lookup f=some ⟨oc,od,.func (PySem.W.fnOf x x (zY st) (zU st) (zf st) .none kV doc pm an cdv ct),osl⟩) (c:PySem.W.codeIn K cdv x=true) (k:PySem.W.keepIn K (.ref f)=true):FHy K x st:=⟨_,_,_,_,_,_,_,_,_,_,a,l,c,k⟩
theorem fa_y {K:PySem.W.Frag} {mg:Str→Option Value} {h:Heap} {x:Str} {st:Stmt} {ps:List Str} (X:K.In h) (G:h.Ns mainGlobals mg) (y:FHy K x st) (hb:∀ (kV doc pm:Value) (an:Option Addr) (cdv ct:Value) (us:List Value),us.length=ps.length→bindArgs (PySem.W.fnOf x x (zY st) (zU st) (zf st) .none kV doc pm an cdv ct) ⟨us,[]⟩=pure (ps.zip us)):FA K mg x st ps:=by
 obtain ⟨_,_,_,_,_,_,_,_,_,_,a,l,c,k⟩:=y
 exact fa_mk X G a l c k hb
abbrev CHy (K:PySem.W.Frag) (C:Addr):Prop:=PySem.W.plainGet K C Str.empty=true∧PySem.W.hasDictIn K C=true∧PySem.W.plainOver K C=true∧PySem.W.findIn K (.ref C) "__setattr__"=some (some (.builtin "object.__setattr__"))∧PySem.W.makesIn K C=true∧PySem.W.keepIn K (.ref C)=true∧PySem.W.findIn K (.ref C) "__class__"=some (some (.builtin "object.__class__"))∧PySem.W.mroIn K C (.type "object")=some true
theorem CHy.c {K:PySem.W.Frag} {C:Addr} (h:CHy K C):Cls K C:=⟨h.1,h.2.1,h.2.2.1,h.2.2.2.1⟩
theorem CHy.w {K:PySem.W.Frag} {C:Addr} (h:CHy K C) (g:PySem.W.specialIn K (.builtin "object.__class__") "__get__"=some (some (.builtin "getset_descriptor.__get__"))) (t:PySem.W.takesIn K (.builtin "object.__class__")=some true):WI K C:=⟨h.2.2.2.2.2.2.1,h.2.2.2.2.2.2.2,g,t⟩
abbrev MHy (K:PySem.W.Frag) (C:Addr) (m q:Str) (st:Stmt):Prop:=∃ (f:Addr) (oc:Value) (od an:Option Addr) (osl:Array (Option Value)) (kV doc pm cdv ct:Value),PySem.W.findIn K (.ref C) m=some (some (.ref f))∧PySem.W.isFn K (.ref f)=true∧K.lookup f=some ⟨oc,od,.func (PySem.W.fnOf m q (zY st) (zU st) (zf st) .none kV doc pm an cdv ct),osl⟩∧PySem.W.codeIn K cdv q=true∧PySem.W.keepIn K (.ref f)=true
theorem mhy {K:PySem.W.Frag} {C:Addr} {m q:Str} {st:Stmt} {f:Addr} {oc:Value} {od an:Option Addr} {osl:Array (Option Value)} {kV doc pm cdv ct:Value} (a:PySem.W.findIn K (.ref C) m=some (some (.ref f))) (i:PySem.W.isFn K (.ref f)=true) (l:K.lookup f=some ⟨oc,od,.func (PySem.W.fnOf m q (zY st) (zU st) (zf st) .none kV doc pm an cdv ct),osl⟩) (c:PySem.W.codeIn K cdv q=true) (k:PySem.W.keepIn K (.ref f)=true):MHy K C m q st:=⟨_,_,_,_,_,_,_,_,_,_,a,i,l,c,k⟩
theorem fm_y {K:PySem.W.Frag} {C:Addr} {m q:Str} {st:Stmt} {ps:List Str} (y:MHy K C m q st) (hb:∀ (kV doc pm:Value) (an:Option Addr) (cdv ct:Value) (us:List Value),us.length=ps.length→bindArgs (PySem.W.fnOf m q (zY st) (zU st) (zf st) .none kV doc pm an cdv ct) ⟨us,[]⟩=pure (ps.zip us)):FM K C m q st ps:=by
 obtain ⟨_,_,_,_,_,_,_,_,_,_,a,i,l,c,k⟩:=y
 exact fm_mk a i l c k hb
theorem fk_y {K:PySem.W.Frag} {C:Addr} {q:Str} {st:Stmt} {ps:List Str} (z:CHy K C) (y:MHy K C "__init__" q st) (hb:∀ (kV doc pm:Value) (an:Option Addr) (cdv ct:Value) (us:List Value),us.length=ps.length→bindArgs (PySem.W.fnOf "__init__" q (zY st) (zU st) (zf st) .none kV doc pm an cdv ct) ⟨us,[]⟩=pure (ps.zip us)):FK K C q st ps:=by
 obtain ⟨_,_,_,_,_,_,_,_,_,_,a,i,l,c,k⟩:=y
 exact Xc z.2.2.2.2.1 z.2.2.2.2.2.1 a i l c k hb
theorem all_mk {l:PySem.W.OpenLaw} {w:World} {K:PySem.W.Frag} {h:Heap} {mg:Str→Option Value} {fa fL x_State x_WorkError x_BadBelt x_BadKnot x_BadWork x_Belt x_Knot x_Source x_Drain x_Parter x_FirstParter x_Sieve x_Joiner x_Work fKnot_init:Addr} (X:K.In h) (G:h.Ns mainGlobals mg) (hfa:mg "law"=some (.ref fa))
  {odL anL odKnot_init anKnot_init:Option Addr} {slL slKnot_init:Array (Option Value)} {ocL kVL dcL pmL cdL ctL ocKnot_init kVKnot_init dcKnot_init pmKnot_init cdKnot_init ctKnot_init:Value}
  {t_MOST_ROOM t_MOST_PACE t_MOST_KINDS t_FEWEST_WAYS t_MOST_WAYS t_MOST_BELTS t_MOST_KNOTS:Tok}
  (h0:FHy K "_wall" s__wall)
  (h1:FHy K "kind_of" s_kind_of)
  (h2:FHy K "no_counts" s_no_counts)
  (h3:FHy K "empty_state" s_empty_state)
  (h4:FHy K "copied_state" s_copied_state)
  (h5:FHy K "check_pace" s_check_pace)
  (h6:FHy K "check_kind" s_check_kind)
  (h7:FHy K "check_ways" s_check_ways)
  (h8:FHy K "first_place" s_first_place)
  (h9:FHy K "place_for_ware" s_place_for_ware)
  (h10:FHy K "heads_of" s_heads_of)
  (h11:FHy K "taken_ware" s_taken_ware)
  (h12:FHy K "belt_at" s_belt_at)
  (h13:FHy K "counted_place" s_counted_place)
  (h14:FHy K "act" s_act)
  (h15:FHy K "act_all" s_act_all)
  (h16:FHy K "move_belt" s_move_belt)
  (h17:FHy K "pass_turn" s_pass_turn)
  (h18:FHy K "one_turn" s_one_turn)
  (h19:FHy K "played" s_played)
  (h20:FHy K "cells_by_ware" s_cells_by_ware)
  (h21:FHy K "origin_of" s_origin_of)
  (h22:FHy K "origins_of" s_origins_of)
  (h23:FHy K "check_size" s_check_size)
  (h24:FHy K "check_each_once" s_check_each_once)
  (h25:FHy K "_law_at" s_L_at)
  (h26:FHy K "_law_spread" s_L_spread)
  (h27:FHy K "_law_whole" s_L_whole)
  (h28:FHy K "_law_belt" s_L_belt)
  (h29:FHy K "_law_source" s_L_source)
  (h30:FHy K "_law_drain" s_L_drain)
  (h31:FHy K "_law_kind" s_L_kind)
  (h32:FHy K "_law_joined" s_L_joined)
  (h33:FHy K "_law_parted" s_L_parted)
  (h34:FHy K "_law_grow" s_L_grow)
  (h35:FHy K "_law_close" s_L_close)
  (h36:FHy K "_law_work" s_L_work)
  (h37:FHy K "_law_origin" s_L_origin)
  (h38:FHy K "_law_origins" s_L_origins)
  (aL:PySem.W.nsIn K mainGlobals "law"=some (some (.ref fL))) (lL:K.lookup fL=some ⟨ocL,odL,.func (PySem.W.fnOf "law" "law" (zY s_law) (zU s_law) (zf s_law) .none kVL dcL pmL anL cdL ctL),slL⟩) (cL:PySem.W.codeIn K cdL "law"=true) (kL:PySem.W.keepIn K (.ref fL)=true)
  (z_list:PySem.W.nsIn K mainGlobals "list"=some none)
  (z_len:PySem.W.nsIn K mainGlobals "len"=some none)
  (z_max:PySem.W.nsIn K mainGlobals "max"=some none)
  (z_range:PySem.W.nsIn K mainGlobals "range"=some none)
  (z_isinstance:PySem.W.nsIn K mainGlobals "isinstance"=some none)
  (z_enumerate:PySem.W.nsIn K mainGlobals "enumerate"=some none)
  (z_sorted:PySem.W.nsIn K mainGlobals "sorted"=some none)
  (z_int:PySem.W.nsIn K mainGlobals "int"=some none)
  (z_bool:PySem.W.nsIn K mainGlobals "bool"=some none)
  (z_reversed:PySem.W.nsIn K mainGlobals "reversed"=some none)
  (z_tuple:PySem.W.nsIn K mainGlobals "tuple"=some none)
  (z_zip:PySem.W.nsIn K mainGlobals "zip"=some none)
  (ag_State:PySem.W.nsIn K mainGlobals "State"=some (some (.ref x_State)))
  (ag_WorkError:PySem.W.nsIn K mainGlobals "WorkError"=some (some (.ref x_WorkError)))
  (ag_BadBelt:PySem.W.nsIn K mainGlobals "BadBelt"=some (some (.ref x_BadBelt)))
  (ag_BadKnot:PySem.W.nsIn K mainGlobals "BadKnot"=some (some (.ref x_BadKnot)))
  (ag_BadWork:PySem.W.nsIn K mainGlobals "BadWork"=some (some (.ref x_BadWork)))
  (ag_Belt:PySem.W.nsIn K mainGlobals "Belt"=some (some (.ref x_Belt)))
  (ag_Knot:PySem.W.nsIn K mainGlobals "Knot"=some (some (.ref x_Knot)))
  (ag_Source:PySem.W.nsIn K mainGlobals "Source"=some (some (.ref x_Source)))
  (ag_Drain:PySem.W.nsIn K mainGlobals "Drain"=some (some (.ref x_Drain)))
  (ag_Parter:PySem.W.nsIn K mainGlobals "Parter"=some (some (.ref x_Parter)))
  (ag_FirstParter:PySem.W.nsIn K mainGlobals "FirstParter"=some (some (.ref x_FirstParter)))
  (ag_Sieve:PySem.W.nsIn K mainGlobals "Sieve"=some (some (.ref x_Sieve)))
  (ag_Joiner:PySem.W.nsIn K mainGlobals "Joiner"=some (some (.ref x_Joiner)))
  (ag_Work:PySem.W.nsIn K mainGlobals "Work"=some (some (.ref x_Work)))
  (hc_State:CHy K x_State)
  (nf_turn_State:NoAttr K x_State "turn")
  (nf_cells_State:NoAttr K x_State "cells")
  (nf_sides_State:NoAttr K x_State "sides")
  (nf_gone_State:NoAttr K x_State "gone")
  (h_State_init:MHy K x_State "__init__" "State.__init__" s_State_init)
  (hc_Belt:CHy K x_Belt)
  (nf_room_Belt:NoAttr K x_Belt "room")
  (nf_pace_Belt:NoAttr K x_Belt "pace")
  (h_Belt_init:MHy K x_Belt "__init__" "Belt.__init__" s_Belt_init)
  (hc_Knot:CHy K x_Knot)
  (nf_ins_Knot:NoAttr K x_Knot "ins")
  (nf_outs_Knot:NoAttr K x_Knot "outs")
  (aKnot_init:PySem.W.findIn K (.ref x_Knot) "__init__"=some (some (.ref fKnot_init))) (iKnot_init:PySem.W.isFn K (.ref fKnot_init)=true) (lKnot_init:K.lookup fKnot_init=some ⟨ocKnot_init,odKnot_init,.func (PySem.W.fnOf "__init__" "Knot.__init__" (zY s_Knot_init) (zU s_Knot_init) (zf s_Knot_init) .none kVKnot_init dcKnot_init pmKnot_init anKnot_init cdKnot_init ctKnot_init),slKnot_init⟩) (cKnot_init:PySem.W.codeIn K cdKnot_init "Knot.__init__"=true) (kKnot_init:PySem.W.keepIn K (.ref fKnot_init)=true)
  (bga_Knot_init:PySem.W.specialIn K (.ref x_Knot) "__getattribute__"=some (some (.builtin "type.__getattribute__")))
  (brd_Knot_init:PySem.W.readsIn K x_Knot (.type "type")=true)
  (bfc_Knot_init:PySem.W.findCls K (.ref x_Knot) (.type "type") "__init__"=some (.val (.ref fKnot_init)))
  (h_Knot_choice:MHy K x_Knot "choice" "Knot.choice" s_Knot_choice)
  (h_Knot_copied:MHy K x_Knot "copied" "Knot.copied" s_Knot_copied)
  (hc_Source:CHy K x_Source)
  (nf_pace_Source:NoAttr K x_Source "pace")
  (nf_kinds_Source:NoAttr K x_Source "kinds")
  (nf_ins_Source:NoAttr K x_Source "ins")
  (nf_outs_Source:NoAttr K x_Source "outs")
  (h_Source_init:MHy K x_Source "__init__" "Source.__init__" s_Source_init)
  (h_Source_choice:MHy K x_Source "choice" "Source.choice" s_Source_choice)
  (h_Source_copied:MHy K x_Source "copied" "Source.copied" s_Source_copied)
  (hc_Drain:CHy K x_Drain)
  (nf_pace_Drain:NoAttr K x_Drain "pace")
  (nf_ins_Drain:NoAttr K x_Drain "ins")
  (nf_outs_Drain:NoAttr K x_Drain "outs")
  (h_Drain_init:MHy K x_Drain "__init__" "Drain.__init__" s_Drain_init)
  (h_Drain_choice:MHy K x_Drain "choice" "Drain.choice" s_Drain_choice)
  (h_Drain_copied:MHy K x_Drain "copied" "Drain.copied" s_Drain_copied)
  (hc_Parter:CHy K x_Parter)
  (nf_ins_Parter:NoAttr K x_Parter "ins")
  (nf_outs_Parter:NoAttr K x_Parter "outs")
  (h_Parter_init:MHy K x_Parter "__init__" "Parter.__init__" s_Parter_init)
  (h_Parter_choice:MHy K x_Parter "choice" "Parter.choice" s_Parter_choice)
  (h_Parter_copied:MHy K x_Parter "copied" "Parter.copied" s_Parter_copied)
  (hc_FirstParter:CHy K x_FirstParter)
  (nf_ins_FirstParter:NoAttr K x_FirstParter "ins")
  (nf_outs_FirstParter:NoAttr K x_FirstParter "outs")
  (h_FirstParter_init:MHy K x_FirstParter "__init__" "FirstParter.__init__" s_FirstParter_init)
  (h_FirstParter_choice:MHy K x_FirstParter "choice" "FirstParter.choice" s_FirstParter_choice)
  (h_FirstParter_copied:MHy K x_FirstParter "copied" "FirstParter.copied" s_FirstParter_copied)
  (hc_Sieve:CHy K x_Sieve)
  (nf_kind_Sieve:NoAttr K x_Sieve "kind")
  (nf_ins_Sieve:NoAttr K x_Sieve "ins")
  (nf_outs_Sieve:NoAttr K x_Sieve "outs")
  (h_Sieve_init:MHy K x_Sieve "__init__" "Sieve.__init__" s_Sieve_init)
  (h_Sieve_choice:MHy K x_Sieve "choice" "Sieve.choice" s_Sieve_choice)
  (h_Sieve_place_for:MHy K x_Sieve "place_for" "Sieve.place_for" s_Sieve_place_for)
  (h_Sieve_copied:MHy K x_Sieve "copied" "Sieve.copied" s_Sieve_copied)
  (hc_Joiner:CHy K x_Joiner)
  (nf_ins_Joiner:NoAttr K x_Joiner "ins")
  (nf_outs_Joiner:NoAttr K x_Joiner "outs")
  (h_Joiner_init:MHy K x_Joiner "__init__" "Joiner.__init__" s_Joiner_init)
  (h_Joiner_choice:MHy K x_Joiner "choice" "Joiner.choice" s_Joiner_choice)
  (h_Joiner_copied:MHy K x_Joiner "copied" "Joiner.copied" s_Joiner_copied)
  (hc_Work:CHy K x_Work)
  (nf_belts_Work:NoAttr K x_Work "belts")
  (nf_knots_Work:NoAttr K x_Work "knots")
  (h_Work_init:MHy K x_Work "__init__" "Work.__init__" s_Work_init)
  (h_Work_feeder:MHy K x_Work "feeder" "Work.feeder" s_Work_feeder)
  (h_Work_taker:MHy K x_Work "taker" "Work.taker" s_Work_taker)
  (h_Work_drains:MHy K x_Work "drains" "Work.drains" s_Work_drains)
  (h_Work_sources:MHy K x_Work "sources" "Work.sources" s_Work_sources)
  (h_Work_beat:MHy K x_Work "beat" "Work.beat" s_Work_beat)
  (wgn:PySem.W.specialIn K (.builtin "object.__class__") "__get__"=some (some (.builtin "getset_descriptor.__get__"))) (wtk:PySem.W.takesIn K (.builtin "object.__class__")=some true)
  (ac_MOST_ROOM:PySem.W.nsIn K mainGlobals "MOST_ROOM"=some (some (.int 6 t_MOST_ROOM)))
  (ac_MOST_PACE:PySem.W.nsIn K mainGlobals "MOST_PACE"=some (some (.int 4 t_MOST_PACE)))
  (ac_MOST_KINDS:PySem.W.nsIn K mainGlobals "MOST_KINDS"=some (some (.int 6 t_MOST_KINDS)))
  (ac_FEWEST_WAYS:PySem.W.nsIn K mainGlobals "FEWEST_WAYS"=some (some (.int 2 t_FEWEST_WAYS)))
  (ac_MOST_WAYS:PySem.W.nsIn K mainGlobals "MOST_WAYS"=some (some (.int 4 t_MOST_WAYS)))
  (ac_MOST_BELTS:PySem.W.nsIn K mainGlobals "MOST_BELTS"=some (some (.int 24 t_MOST_BELTS)))
  (ac_MOST_KNOTS:PySem.W.nsIn K mainGlobals "MOST_KNOTS"=some (some (.int 24 t_MOST_KNOTS)))
  (xq_BadBelt:PySem.W.excIn K x_BadBelt bmV "ValueError.__new__"=true)
  (xga_BadBelt:PySem.W.findIn K (.ref x_BadBelt) "__getattribute__"=some (some (.builtin "BaseException.__getattribute__")))
  (xgt_BadBelt:PySem.W.findIn K (.ref x_BadBelt) "__getattr__"=some none)
  (xcl_BadBelt:PySem.W.findIn K (.ref x_BadBelt) "__class__"=some (some (.builtin "object.__class__")))
  (xhd_BadBelt:PySem.W.hasDictIn K x_BadBelt=true)
  (xmo_BadBelt:PySem.W.mroIn K x_BadBelt (.type "object")=some true)
  (xmb_BadBelt:PySem.W.subIn K (.ref x_BadBelt) (.type "BaseException")=some true)
  (xq_BadKnot:PySem.W.excIn K x_BadKnot bmV "ValueError.__new__"=true)
  (xga_BadKnot:PySem.W.findIn K (.ref x_BadKnot) "__getattribute__"=some (some (.builtin "BaseException.__getattribute__")))
  (xgt_BadKnot:PySem.W.findIn K (.ref x_BadKnot) "__getattr__"=some none)
  (xcl_BadKnot:PySem.W.findIn K (.ref x_BadKnot) "__class__"=some (some (.builtin "object.__class__")))
  (xhd_BadKnot:PySem.W.hasDictIn K x_BadKnot=true)
  (xmo_BadKnot:PySem.W.mroIn K x_BadKnot (.type "object")=some true)
  (xmb_BadKnot:PySem.W.subIn K (.ref x_BadKnot) (.type "BaseException")=some true)
  (xq_BadWork:PySem.W.excIn K x_BadWork bmV "ValueError.__new__"=true)
  (xga_BadWork:PySem.W.findIn K (.ref x_BadWork) "__getattribute__"=some (some (.builtin "BaseException.__getattribute__")))
  (xgt_BadWork:PySem.W.findIn K (.ref x_BadWork) "__getattr__"=some none)
  (xcl_BadWork:PySem.W.findIn K (.ref x_BadWork) "__class__"=some (some (.builtin "object.__class__")))
  (xhd_BadWork:PySem.W.hasDictIn K x_BadWork=true)
  (xmo_BadWork:PySem.W.mroIn K x_BadWork (.type "object")=some true)
  (xmb_BadWork:PySem.W.subIn K (.ref x_BadWork) (.type "BaseException")=some true)
  (xgn:PySem.W.specialIn K (.builtin "object.__class__") "__get__"=some (some (.builtin "getset_descriptor.__get__")))
  (xtk:PySem.W.takesIn K (.builtin "object.__class__")=some true)
  (k1_State_Joiner:PySem.W.kitOne K (.ref x_State) (.ref x_Joiner)=some false)
  (k1_Belt_Joiner:PySem.W.kitOne K (.ref x_Belt) (.ref x_Joiner)=some false)
  (k1_Knot_Joiner:PySem.W.kitOne K (.ref x_Knot) (.ref x_Joiner)=some false)
  (k1_Source_Joiner:PySem.W.kitOne K (.ref x_Source) (.ref x_Joiner)=some false)
  (k1_Drain_Joiner:PySem.W.kitOne K (.ref x_Drain) (.ref x_Joiner)=some false)
  (k1_Parter_Joiner:PySem.W.kitOne K (.ref x_Parter) (.ref x_Joiner)=some false)
  (k1_FirstParter_Joiner:PySem.W.kitOne K (.ref x_FirstParter) (.ref x_Joiner)=some false)
  (k1_Sieve_Joiner:PySem.W.kitOne K (.ref x_Sieve) (.ref x_Joiner)=some false)
  (k1_Joiner_Joiner:PySem.W.kitOne K (.ref x_Joiner) (.ref x_Joiner)=some true)
  (k1_Work_Joiner:PySem.W.kitOne K (.ref x_Work) (.ref x_Joiner)=some false)
  (k1_State_Source:PySem.W.kitOne K (.ref x_State) (.ref x_Source)=some false)
  (k1_Belt_Source:PySem.W.kitOne K (.ref x_Belt) (.ref x_Source)=some false)
  (k1_Knot_Source:PySem.W.kitOne K (.ref x_Knot) (.ref x_Source)=some false)
  (k1_Source_Source:PySem.W.kitOne K (.ref x_Source) (.ref x_Source)=some true)
  (k1_Drain_Source:PySem.W.kitOne K (.ref x_Drain) (.ref x_Source)=some false)
  (k1_Parter_Source:PySem.W.kitOne K (.ref x_Parter) (.ref x_Source)=some false)
  (k1_FirstParter_Source:PySem.W.kitOne K (.ref x_FirstParter) (.ref x_Source)=some false)
  (k1_Sieve_Source:PySem.W.kitOne K (.ref x_Sieve) (.ref x_Source)=some false)
  (k1_Joiner_Source:PySem.W.kitOne K (.ref x_Joiner) (.ref x_Source)=some false)
  (k1_Work_Source:PySem.W.kitOne K (.ref x_Work) (.ref x_Source)=some false)
  : ∃ fd:FuncData,(∀ (s:Shared) (v:Value),BindsTo s fd ⟨[v],[]⟩ [("_law_script",v)])∧∀ base:Heap,K.In base→base.Ns mainGlobals mg→FnOk l.prog w K mg base (CXr l.prog w) 8 fa fd ["_law_script"] (Z3 K):=by
 have e:=hfa.symm.trans (PySem.W.mg_of X G aL)
 cases e
 have T:Txt K mg ⟨x_State,x_WorkError,x_BadBelt,x_BadKnot,x_BadWork,x_Belt,x_Knot,x_Source,x_Drain,x_Parter,x_FirstParter,x_Sieve,x_Joiner,x_Work⟩:={
  h__wall:=fa_y X G h0 fun _ _ _ _ _ _ us hl=>ex1 us hl fun _=>rfl
  h_kind_of:=fa_y X G h1 fun _ _ _ _ _ _ us hl=>ex2 us hl fun _ _=>rfl
  h_no_counts:=fa_y X G h2 fun _ _ _ _ _ _ us hl=>ex1 us hl fun _=>rfl
  h_empty_state:=fa_y X G h3 fun _ _ _ _ _ _ us hl=>ex1 us hl fun _=>rfl
  h_copied_state:=fa_y X G h4 fun _ _ _ _ _ _ us hl=>ex1 us hl fun _=>rfl
  h_check_pace:=fa_y X G h5 fun _ _ _ _ _ _ us hl=>ex2 us hl fun _ _=>rfl
  h_check_kind:=fa_y X G h6 fun _ _ _ _ _ _ us hl=>ex1 us hl fun _=>rfl
  h_check_ways:=fa_y X G h7 fun _ _ _ _ _ _ us hl=>ex1 us hl fun _=>rfl
  h_first_place:=fa_y X G h8 fun _ _ _ _ _ _ us hl=>ex2 us hl fun _ _=>rfl
  h_place_for_ware:=fa_y X G h9 fun _ _ _ _ _ _ us hl=>ex3 us hl fun _ _ _=>rfl
  h_heads_of:=fa_y X G h10 fun _ _ _ _ _ _ us hl=>ex3 us hl fun _ _ _=>rfl
  h_taken_ware:=fa_y X G h11 fun _ _ _ _ _ _ us hl=>ex3 us hl fun _ _ _=>rfl
  h_belt_at:=fa_y X G h12 fun _ _ _ _ _ _ us hl=>ex2 us hl fun _ _=>rfl
  h_counted_place:=fa_y X G h13 fun _ _ _ _ _ _ us hl=>ex2 us hl fun _ _=>rfl
  h_act:=fa_y X G h14 fun _ _ _ _ _ _ us hl=>ex3 us hl fun _ _ _=>rfl
  h_act_all:=fa_y X G h15 fun _ _ _ _ _ _ us hl=>ex2 us hl fun _ _=>rfl
  h_move_belt:=fa_y X G h16 fun _ _ _ _ _ _ us hl=>ex1 us hl fun _=>rfl
  h_pass_turn:=fa_y X G h17 fun _ _ _ _ _ _ us hl=>ex2 us hl fun _ _=>rfl
  h_one_turn:=fa_y X G h18 fun _ _ _ _ _ _ us hl=>ex2 us hl fun _ _=>rfl
  h_played:=fa_y X G h19 fun _ _ _ _ _ _ us hl=>ex2 us hl fun _ _=>rfl
  h_cells_by_ware:=fa_y X G h20 fun _ _ _ _ _ _ us hl=>ex1 us hl fun _=>rfl
  h_origin_of:=fa_y X G h21 fun _ _ _ _ _ _ us hl=>ex3 us hl fun _ _ _=>rfl
  h_origins_of:=fa_y X G h22 fun _ _ _ _ _ _ us hl=>ex2 us hl fun _ _=>rfl
  h_check_size:=fa_y X G h23 fun _ _ _ _ _ _ us hl=>ex2 us hl fun _ _=>rfl
  h_check_each_once:=fa_y X G h24 fun _ _ _ _ _ _ us hl=>ex2 us hl fun _ _=>rfl
  h_L_at:=fa_y X G h25 fun _ _ _ _ _ _ us hl=>ex2 us hl fun _ _=>rfl
  h_L_spread:=fa_y X G h26 fun _ _ _ _ _ _ us hl=>ex2 us hl fun _ _=>rfl
  h_L_whole:=fa_y X G h27 fun _ _ _ _ _ _ us hl=>ex1 us hl fun _=>rfl
  h_L_belt:=fa_y X G h28 fun _ _ _ _ _ _ us hl=>ex3 us hl fun _ _ _=>rfl
  h_L_source:=fa_y X G h29 fun _ _ _ _ _ _ us hl=>ex4 us hl fun _ _ _ _=>rfl
  h_L_drain:=fa_y X G h30 fun _ _ _ _ _ _ us hl=>ex3 us hl fun _ _ _=>rfl
  h_L_kind:=fa_y X G h31 fun _ _ _ _ _ _ us hl=>ex3 us hl fun _ _ _=>rfl
  h_L_joined:=fa_y X G h32 fun _ _ _ _ _ _ us hl=>ex6 us hl fun _ _ _ _ _ _=>rfl
  h_L_parted:=fa_y X G h33 fun _ _ _ _ _ _ us hl=>ex4 us hl fun _ _ _ _=>rfl
  h_L_grow:=fa_y X G h34 fun _ _ _ _ _ _ us hl=>ex6 us hl fun _ _ _ _ _ _=>rfl
  h_L_close:=fa_y X G h35 fun _ _ _ _ _ _ us hl=>ex6 us hl fun _ _ _ _ _ _=>rfl
  h_L_work:=fa_y X G h36 fun _ _ _ _ _ _ us hl=>ex1 us hl fun _=>rfl
  h_L_origin:=fa_y X G h37 fun _ _ _ _ _ _ us hl=>ex3 us hl fun _ _ _=>rfl
  h_L_origins:=fa_y X G h38 fun _ _ _ _ _ _ us hl=>ex3 us hl fun _ _ _=>rfl
  m_list:=PySem.W.mg_none_of X G z_list
  m_len:=PySem.W.mg_none_of X G z_len
  m_max:=PySem.W.mg_none_of X G z_max
  m_range:=PySem.W.mg_none_of X G z_range
  m_isinstance:=PySem.W.mg_none_of X G z_isinstance
  m_enumerate:=PySem.W.mg_none_of X G z_enumerate
  m_sorted:=PySem.W.mg_none_of X G z_sorted
  m_int:=PySem.W.mg_none_of X G z_int
  m_bool:=PySem.W.mg_none_of X G z_bool
  m_reversed:=PySem.W.mg_none_of X G z_reversed
  m_tuple:=PySem.W.mg_none_of X G z_tuple
  m_zip:=PySem.W.mg_none_of X G z_zip
  g_State:=PySem.W.mg_of X G ag_State
  g_WorkError:=PySem.W.mg_of X G ag_WorkError
  g_BadBelt:=PySem.W.mg_of X G ag_BadBelt
  g_BadKnot:=PySem.W.mg_of X G ag_BadKnot
  g_BadWork:=PySem.W.mg_of X G ag_BadWork
  g_Belt:=PySem.W.mg_of X G ag_Belt
  g_Knot:=PySem.W.mg_of X G ag_Knot
  g_Source:=PySem.W.mg_of X G ag_Source
  g_Drain:=PySem.W.mg_of X G ag_Drain
  g_Parter:=PySem.W.mg_of X G ag_Parter
  g_FirstParter:=PySem.W.mg_of X G ag_FirstParter
  g_Sieve:=PySem.W.mg_of X G ag_Sieve
  g_Joiner:=PySem.W.mg_of X G ag_Joiner
  g_Work:=PySem.W.mg_of X G ag_Work
  C_State:=hc_State.c
  N_State_turn:=nf_turn_State
  N_State_cells:=nf_cells_State
  N_State_sides:=nf_sides_State
  N_State_gone:=nf_gone_State
  W_State:=hc_State.w wgn wtk
  h_State_init:=fk_y hc_State h_State_init fun _ _ _ _ _ _ us hl=>ex5 us hl fun _ _ _ _ _=>rfl
  C_Belt:=hc_Belt.c
  N_Belt_room:=nf_room_Belt
  N_Belt_pace:=nf_pace_Belt
  W_Belt:=hc_Belt.w wgn wtk
  h_Belt_init:=fk_y hc_Belt h_Belt_init fun _ _ _ _ _ _ us hl=>ex3 us hl fun _ _ _=>rfl
  C_Knot:=hc_Knot.c
  N_Knot_ins:=nf_ins_Knot
  N_Knot_outs:=nf_outs_Knot
  W_Knot:=hc_Knot.w wgn wtk
  h_Knot_init:=Xc (st:=s_Knot_init) (ps:=["self","ins","outs"]) hc_Knot.2.2.2.2.1 hc_Knot.2.2.2.2.2.1 aKnot_init iKnot_init lKnot_init cKnot_init kKnot_init fun _ _ _ _ _ _ us hl=>ex3 us hl fun _ _ _=>rfl
  b_Knot_init:=fb_mk (st:=s_Knot_init) (ps:=["self","ins","outs"]) (PySem.W.mg_of X G ag_Knot) bga_Knot_init brd_Knot_init bfc_Knot_init lKnot_init cKnot_init kKnot_init fun _ _ _ _ _ _ us hl=>ex3 us hl fun _ _ _=>rfl
  h_Knot_choice:=fm_y h_Knot_choice fun _ _ _ _ _ _ us hl=>ex5 us hl fun _ _ _ _ _=>rfl
  h_Knot_copied:=fm_y h_Knot_copied fun _ _ _ _ _ _ us hl=>ex1 us hl fun _=>rfl
  C_Source:=hc_Source.c
  N_Source_pace:=nf_pace_Source
  N_Source_kinds:=nf_kinds_Source
  N_Source_ins:=nf_ins_Source
  N_Source_outs:=nf_outs_Source
  W_Source:=hc_Source.w wgn wtk
  h_Source_init:=fk_y hc_Source h_Source_init fun _ _ _ _ _ _ us hl=>ex4 us hl fun _ _ _ _=>rfl
  h_Source_choice:=fm_y h_Source_choice fun _ _ _ _ _ _ us hl=>ex5 us hl fun _ _ _ _ _=>rfl
  h_Source_copied:=fm_y h_Source_copied fun _ _ _ _ _ _ us hl=>ex1 us hl fun _=>rfl
  C_Drain:=hc_Drain.c
  N_Drain_pace:=nf_pace_Drain
  N_Drain_ins:=nf_ins_Drain
  N_Drain_outs:=nf_outs_Drain
  W_Drain:=hc_Drain.w wgn wtk
  h_Drain_init:=fk_y hc_Drain h_Drain_init fun _ _ _ _ _ _ us hl=>ex3 us hl fun _ _ _=>rfl
  h_Drain_choice:=fm_y h_Drain_choice fun _ _ _ _ _ _ us hl=>ex5 us hl fun _ _ _ _ _=>rfl
  h_Drain_copied:=fm_y h_Drain_copied fun _ _ _ _ _ _ us hl=>ex1 us hl fun _=>rfl
  C_Parter:=hc_Parter.c
  N_Parter_ins:=nf_ins_Parter
  N_Parter_outs:=nf_outs_Parter
  W_Parter:=hc_Parter.w wgn wtk
  h_Parter_init:=fk_y hc_Parter h_Parter_init fun _ _ _ _ _ _ us hl=>ex3 us hl fun _ _ _=>rfl
  h_Parter_choice:=fm_y h_Parter_choice fun _ _ _ _ _ _ us hl=>ex5 us hl fun _ _ _ _ _=>rfl
  h_Parter_copied:=fm_y h_Parter_copied fun _ _ _ _ _ _ us hl=>ex1 us hl fun _=>rfl
  C_FirstParter:=hc_FirstParter.c
  N_FirstParter_ins:=nf_ins_FirstParter
  N_FirstParter_outs:=nf_outs_FirstParter
  W_FirstParter:=hc_FirstParter.w wgn wtk
  h_FirstParter_init:=fk_y hc_FirstParter h_FirstParter_init fun _ _ _ _ _ _ us hl=>ex3 us hl fun _ _ _=>rfl
  h_FirstParter_choice:=fm_y h_FirstParter_choice fun _ _ _ _ _ _ us hl=>ex5 us hl fun _ _ _ _ _=>rfl
  h_FirstParter_copied:=fm_y h_FirstParter_copied fun _ _ _ _ _ _ us hl=>ex1 us hl fun _=>rfl
  C_Sieve:=hc_Sieve.c
  N_Sieve_kind:=nf_kind_Sieve
  N_Sieve_ins:=nf_ins_Sieve
  N_Sieve_outs:=nf_outs_Sieve
  W_Sieve:=hc_Sieve.w wgn wtk
  h_Sieve_init:=fk_y hc_Sieve h_Sieve_init fun _ _ _ _ _ _ us hl=>ex4 us hl fun _ _ _ _=>rfl
  h_Sieve_choice:=fm_y h_Sieve_choice fun _ _ _ _ _ _ us hl=>ex5 us hl fun _ _ _ _ _=>rfl
  h_Sieve_place_for:=fm_y h_Sieve_place_for fun _ _ _ _ _ _ us hl=>ex2 us hl fun _ _=>rfl
  h_Sieve_copied:=fm_y h_Sieve_copied fun _ _ _ _ _ _ us hl=>ex1 us hl fun _=>rfl
  C_Joiner:=hc_Joiner.c
  N_Joiner_ins:=nf_ins_Joiner
  N_Joiner_outs:=nf_outs_Joiner
  W_Joiner:=hc_Joiner.w wgn wtk
  h_Joiner_init:=fk_y hc_Joiner h_Joiner_init fun _ _ _ _ _ _ us hl=>ex3 us hl fun _ _ _=>rfl
  h_Joiner_choice:=fm_y h_Joiner_choice fun _ _ _ _ _ _ us hl=>ex5 us hl fun _ _ _ _ _=>rfl
  h_Joiner_copied:=fm_y h_Joiner_copied fun _ _ _ _ _ _ us hl=>ex1 us hl fun _=>rfl
  C_Work:=hc_Work.c
  N_Work_belts:=nf_belts_Work
  N_Work_knots:=nf_knots_Work
  W_Work:=hc_Work.w wgn wtk
  h_Work_init:=fk_y hc_Work h_Work_init fun _ _ _ _ _ _ us hl=>ex3 us hl fun _ _ _=>rfl
  h_Work_feeder:=fm_y h_Work_feeder fun _ _ _ _ _ _ us hl=>ex2 us hl fun _ _=>rfl
  h_Work_taker:=fm_y h_Work_taker fun _ _ _ _ _ _ us hl=>ex2 us hl fun _ _=>rfl
  h_Work_drains:=fm_y h_Work_drains fun _ _ _ _ _ _ us hl=>ex1 us hl fun _=>rfl
  h_Work_sources:=fm_y h_Work_sources fun _ _ _ _ _ _ us hl=>ex1 us hl fun _=>rfl
  h_Work_beat:=fm_y h_Work_beat fun _ _ _ _ _ _ us hl=>ex1 us hl fun _=>rfl
  g_MOST_ROOM:=⟨_,PySem.W.mg_of X G ac_MOST_ROOM⟩
  g_MOST_PACE:=⟨_,PySem.W.mg_of X G ac_MOST_PACE⟩
  g_MOST_KINDS:=⟨_,PySem.W.mg_of X G ac_MOST_KINDS⟩
  g_FEWEST_WAYS:=⟨_,PySem.W.mg_of X G ac_FEWEST_WAYS⟩
  g_MOST_WAYS:=⟨_,PySem.W.mg_of X G ac_MOST_WAYS⟩
  g_MOST_BELTS:=⟨_,PySem.W.mg_of X G ac_MOST_BELTS⟩
  g_MOST_KNOTS:=⟨_,PySem.W.mg_of X G ac_MOST_KNOTS⟩
  X_BadBelt:=⟨xq_BadBelt⟩
  XI_BadBelt:=⟨xga_BadBelt,xgt_BadBelt,xcl_BadBelt,xhd_BadBelt,xgn,xtk,xmo_BadBelt,xmb_BadBelt⟩
  X_BadKnot:=⟨xq_BadKnot⟩
  XI_BadKnot:=⟨xga_BadKnot,xgt_BadKnot,xcl_BadKnot,xhd_BadKnot,xgn,xtk,xmo_BadKnot,xmb_BadKnot⟩
  X_BadWork:=⟨xq_BadWork⟩
  XI_BadWork:=⟨xga_BadWork,xgt_BadWork,xcl_BadWork,xhd_BadWork,xgn,xtk,xmo_BadWork,xmb_BadWork⟩
  k1_State_Joiner:=k1_State_Joiner
  k1_Belt_Joiner:=k1_Belt_Joiner
  k1_Knot_Joiner:=k1_Knot_Joiner
  k1_Source_Joiner:=k1_Source_Joiner
  k1_Drain_Joiner:=k1_Drain_Joiner
  k1_Parter_Joiner:=k1_Parter_Joiner
  k1_FirstParter_Joiner:=k1_FirstParter_Joiner
  k1_Sieve_Joiner:=k1_Sieve_Joiner
  k1_Joiner_Joiner:=k1_Joiner_Joiner
  k1_Work_Joiner:=k1_Work_Joiner
  k1_State_Source:=k1_State_Source
  k1_Belt_Source:=k1_Belt_Source
  k1_Knot_Source:=k1_Knot_Source
  k1_Source_Source:=k1_Source_Source
  k1_Drain_Source:=k1_Drain_Source
  k1_Parter_Source:=k1_Parter_Source
  k1_FirstParter_Source:=k1_FirstParter_Source
  k1_Sieve_Source:=k1_Sieve_Source
  k1_Joiner_Source:=k1_Joiner_Source
  k1_Work_Source:=k1_Work_Source
 }
 exact ⟨_,fun s v=>.of_eq rfl,fun base _ _=>top_ok T (jG (st:=s_law) lL cL kL)⟩
theorem walk {l:PySem.W.OpenLaw} {q:Program} {loose:List Str} {XP:(Str→Option Value)→Heap→Prop} {YP:World→Heap→Prop} {d:DefRec} {K:Params→PySem.W.Frag} (hn:l.most=some 63) (hdf:d.params.defaults=[])
  (hY:∀ (w:World) (h:Heap),YP w h→(K w.params).In h)
  (F:∀ (w:World) (mg:Str→Option Value) (fa:Addr) (h:Heap),(K w.params).In h→h.Ns mainGlobals mg→mg d.name=some (.ref fa) →
   ∃ fd:FuncData,(∀ (s:Shared) (u:Value),BindsTo s fd ⟨[u],[]⟩ [("_law_script",u)])∧∀ base:Heap,(K w.params).In base→base.Ns mainGlobals mg→FnOk l.prog w (K w.params) mg base (CXr l.prog w) 8 fa fd ["_law_script"] (Z3 (K w.params))) :
  PySem.W.WalkO q loose XP YP l.row.toRowW d [] (fun f vs=>PySem.call f vs) :=
 L2.walk_of (n:=63) (k:=8) (x:="_law_script") (CX:=fun w=>CXr l.prog w) (sp:=fun w=>Z3 (K w.params)) hn (by decide) hdf ⟨rfl,by decide,by decide⟩ hY F (fun _ _ a ns hl _ hS=>⟨a,ns,rfl,hS,hl,fun _=>rfl⟩) fun _ _ _ _ _ z=>cxr_false z
end K28
set_option Elab.async false
namespace PySem.W.Fast
noncomputable def tw14190468791816038359:=()
noncomputable def tw538768015072675765:=()
noncomputable def tw3231091958725898617:=()
noncomputable def tw11385213157052625452:=()
noncomputable def tw17435741250743871320:=()
noncomputable def tw5381427165891768130:=()
noncomputable def tw16435435504783071325:=()
noncomputable def tw8470401979181535312:=()
noncomputable def tw14871943887118777046:=()
noncomputable def tw9551796069657620020:=()
noncomputable def tw15793358423744102282:=()
noncomputable def tw13001862108660093622:=()
noncomputable def tw738820202251408252:=()
noncomputable def tw16163457650049650413:=()
noncomputable def tw2302106705336800839:=()
noncomputable def tw15427342117456936603:=()
noncomputable def tw10642355142780504445:=()
noncomputable def tw1257847666065470101:=()
noncomputable def tw12622611316926592928:=()
noncomputable def tw727784102218301381:=()
noncomputable def tw7046811430081481505:=()
noncomputable def tw11758454957598810885:=()
noncomputable def tw5247854646578019186:=()
noncomputable def tw16697653496819780806:=()
noncomputable def tw15980928362885210466:=()
noncomputable def tw1279854344833362437:=()
noncomputable def tw2776537959282009533:=()
noncomputable def tw9732978984622597402:=()
noncomputable def tw2640148572514426902:=()
noncomputable def tw16710476157612583527:=()
noncomputable def tw424923577143734495:=()
noncomputable def tw15128592513722932681:=()
noncomputable def tw7306878253310730384:=()
noncomputable def tw4347170319909500903:=()
noncomputable def tw6056170894794020441:=()
noncomputable def tw18023293127030441766:=()
noncomputable def tw18265531986119301569:=()
noncomputable def tw13452507203053317979:=()
noncomputable def tw10870035414569198609:=()
noncomputable def tw2762235013191157685:=()
noncomputable def tw16748278358308578166:=()
noncomputable def tw11537834144510568382:=()
noncomputable def tw11747182094211010053:=()
noncomputable def tw5572849905208260405:=()
noncomputable def tw6731049936397318086:=()
noncomputable def tw18190235293034696569:=()
noncomputable def tw14223340009942156187:=()
noncomputable def tw13838707885598266920:=()
noncomputable def tw5182261386511134852:=()
noncomputable def tw493397143365763097:=()
noncomputable def tw15878799385735863966:=()
noncomputable def tw4652990518987785925:=()
noncomputable def tw13089405569451470145:=()
noncomputable def tw1042128839615370981:=()
noncomputable def tw6578721832071833286:=()
noncomputable def tw7409348187600897009:=()
noncomputable def tw14014012597618929473:=()
noncomputable def tw9895326924808245033:=()
noncomputable def tw8084414280455995118:=()
noncomputable def tw17913391025299805787:=()
noncomputable def tw16756297567696173412:=()
noncomputable def tw16122166081548317411:=()
noncomputable def tw13859789923970165796:=()
noncomputable def tw17574924271671917960:=()
noncomputable def tw7578671563033043147:=()
noncomputable def tw5414539966617859737:=()
noncomputable def tw8480768009199128905:=()
noncomputable def tw2187053524809076413:=()
noncomputable def tw14726039062463594452:=()
noncomputable def tw551916392500693866:=()
noncomputable def tw2853015292677650725:=()
noncomputable def tw14964963037980252571:=()
noncomputable def tw16324145048014939730:=()
noncomputable def tw3035539627900065413:=()
noncomputable def tw4685877981831580505:=()
noncomputable def tw4783244500442033319:=()
noncomputable def tw5351663875496891974:=()
noncomputable def tw15671743987757372263:=()
noncomputable def tw12363852075998827460:=()
noncomputable def tw9892977852328301128:=()
noncomputable def tw11847091101539121109:=()
noncomputable def tw15781272555553644037:=()
noncomputable def tw6757268489382244120:=()
noncomputable def tw2423830096869666322:=()
noncomputable def tw15489783886663104622:=()
noncomputable def tw14853229995187150508:=()
noncomputable def tw5615618563928729456:=()
noncomputable def tw9251362399045276194:=()
noncomputable def tw17841868687094484850:=()
noncomputable def tw18090933107730730581:=()
noncomputable def tw2672407429185278969:=()
noncomputable def tw12631104590576317023:=()
noncomputable def tw467029986758394709:=()
noncomputable def tw7881241188253593771:=()
noncomputable def tw9840495718963838026:=()
noncomputable def tw9230662970665719558:=()
noncomputable def tw14295421876868420575:=()
noncomputable def tw12204881550760781895:=()
noncomputable def tw503046774493657665:=()
noncomputable def tw14651747542518119442:=()
noncomputable def tw3212145972252880139:=()
noncomputable def tw18441102822774525676:=()
noncomputable def tw9231870068768752850:=()
noncomputable def tw18402797434732521896:=()
noncomputable def tw11817567518208772508:=()
noncomputable def tw15877002995819403617:=()
noncomputable def tw9724836842274912703:=()
noncomputable def tw6536091982197451664:=()
noncomputable def tw15372328652060229129:=()
noncomputable def tw15800544294164829745:=()
noncomputable def tw9305999138927555438:=()
noncomputable def tw16493664672942851878:=()
noncomputable def tw3354802195411096388:=()
noncomputable def tw15017592018215884268:=()
noncomputable def tw17061224050925635879:=()
noncomputable def tw7350630668870552452:=()
noncomputable def tw7590783987946525498:=()
noncomputable def tw5601886286595258599:=()
noncomputable def tw14720654273128045122:=()
noncomputable def tw9971685680515736412:=()
noncomputable def tw5675354610233348244:=()
noncomputable def tw7806404892984698580:=()
noncomputable def tw11120285325936314781:=()
noncomputable def tw13324397300255230143:=()
noncomputable def tw4503903011823572846:=()
noncomputable def tw11924813624945038573:=()
noncomputable def tw16893476431341776461:=()
noncomputable def tw15025437258199874879:=()
noncomputable def tw7423777810071030525:=()
noncomputable def tw17749017990813531075:=()
noncomputable def tw2915267697193059405:=()
noncomputable def tw12148757496642256700:=()
noncomputable def tw3150879876295183839:=()
noncomputable def tw47654818912536786:=()
noncomputable def tw2221938705601075516:=()
noncomputable def tw14260647833020460746:=()
noncomputable def tw6596027140762288665:=()
noncomputable def tw16969952927282617885:=()
noncomputable def tw8606680939456350692:=()
noncomputable def tw337929877196822467:=()
noncomputable def tw18244646567356333088:=()
noncomputable def tw742546334634366462:=()
noncomputable def tw17823157516093300477:=()
noncomputable def tw15827022739106108890:=()
noncomputable def tw757909425668707952:=()
noncomputable def tw13251747878210227222:=()
noncomputable def tw6329397046438836764:=()
noncomputable def tw1221728818854816070:=()
noncomputable def tw17008168265488740520:=()
noncomputable def tw14517408497233119436:=()
noncomputable def tw7898193684490612123:=()
noncomputable def tw11983103791615333284:=()
noncomputable def tw7250140903646492260:=()
noncomputable def tw980108819076765406:=()
noncomputable def tw17097499925526651403:=()
noncomputable def tw7808057757560040554:=()
noncomputable def tw12152612267104564911:=()
noncomputable def tw1929008936934385856:=()
noncomputable def tw17289206335969182093:=()
noncomputable def tw8901368282267928634:=()
noncomputable def tw1534207307799602512:=()
noncomputable def tw6210319219232024177:=()
noncomputable def tw2173399693830075187:=()
noncomputable def tw4257332626821339955:=()
noncomputable def tw10380791699116371365:=()
noncomputable def tw13578937835470955049:=()
noncomputable def tw12000620400164099516:=()
noncomputable def tw7385968319259011035:=()
noncomputable def tw7512354291626045490:=()
noncomputable def tw262165636933356617:=()
noncomputable def tw12602720492546159165:=()
noncomputable def tw17743250195635195746:=()
noncomputable def tw14869298297517738488:=()
noncomputable def tw5048241606764556505:=()
noncomputable def tw4678179571219360424:=()
noncomputable def tw16565159396064747279:=()
noncomputable def tw14999715700635618894:=()
noncomputable def tw14445409735854317597:=()
noncomputable def tw377765401333712780:=()
noncomputable def tw10514072127476749553:=()
noncomputable def tw12880616309612096876:=()
noncomputable def tw7232091004252580143:=()
noncomputable def tw12982261120943501269:=()
noncomputable def tw15069945129758784182:=()
noncomputable def tw12390905790862791082:=()
noncomputable def tw15035904084349024626:=()
noncomputable def tw9224372826065654601:=()
noncomputable def tw820218968764505828:=()
noncomputable def tw9752312981258098832:=()
noncomputable def tw14190086990479607760:=()
noncomputable def tw11311482571932942069:=()
noncomputable def tw6840118154748200977:=()
noncomputable def tw3122888908757900647:=()
noncomputable def tw1186472239751286:=()
noncomputable def tw7925298532933550495:=()
noncomputable def tw13853188528488959553:=()
noncomputable def tw17415682171673026906:=()
noncomputable def tw9726848410711948876:=()
noncomputable def tw10925655269734530860:=()
noncomputable def tw2167863138873990520:=()
noncomputable def tw5323209169870240890:=()
noncomputable def tw9123296930386873294:=()
noncomputable def tw2215503781458847780:=()
noncomputable def tw16274186135483488839:=()
noncomputable def tw14048540145662325753:=()
noncomputable def tw6361602923730919778:=()
noncomputable def tw18322057862009434424:=()
noncomputable def tw11211305570655931673:=()
noncomputable def tw16960145733364066222:=()
noncomputable def tw13342250461128621857:=()
noncomputable def tw2165296938735470577:=()
noncomputable def tw155489100756308179:=()
noncomputable def tw6744399526279326122:=()
noncomputable def tw10817799967792273049:=()
noncomputable def tw2393217954117265220:=()
noncomputable def tw13886072456068024589:=()
noncomputable def tw18230292805727601053:=()
noncomputable def tw10270825724299691465:=()
noncomputable def tw5343101309947543701:=()
noncomputable def tw15941449820550143110:=()
noncomputable def tw12115311827465776850:=()
noncomputable def tw14141636234605127385:=()
noncomputable def tw16802823417443579173:=()
noncomputable def tw16460873557780728233:=()
noncomputable def tw8025759991022382617:=()
noncomputable def tw7407862780997415283:=()
noncomputable def tw756452260937686059:=()
noncomputable def tw5713482958922254779:=()
noncomputable def tw17180858877532929653:=()
noncomputable def tw1776940779385666504:=()
noncomputable def tw17994281560897909033:=()
noncomputable def tw8484021005076888106:=()
noncomputable def tw14249307158456694236:=()
noncomputable def tw10773532412839796414:=()
noncomputable def tw1597415366451966655:=()
noncomputable def tw1887776226711813062:=()
noncomputable def tw11600334097555298470:=()
noncomputable def tw8387413880494051812:=()
noncomputable def tw2289529961736603578:=()
noncomputable def tw12373884965428262677:=()
noncomputable def tw4100574709896215631:=()
noncomputable def tw17446176040730136723:=()
noncomputable def tw130551855926498951:=()
noncomputable def tw7377970621645174908:=()
noncomputable def tw12317990858170972361:=()
noncomputable def tw2688974032031590801:=()
noncomputable def tw2165562223887166924:=()
noncomputable def tw803197168053621757:=()
noncomputable def tw14045294596170833103:=()
noncomputable def tw12889160076269651027:=()
noncomputable def tw14171009730251678362:=()
noncomputable def tw5823400694933413175:=()
noncomputable def tw16353366896192933100:=()
noncomputable def tw9234861950391643798:=()
noncomputable def tw13744350350668132146:=()
noncomputable def tw3474255137531772977:=()
noncomputable def tw5396724695303885206:=()
noncomputable def tw7460929389195299428:=()
noncomputable def tw18015023146575292197:=()
noncomputable def tw12188331638629548337:=()
noncomputable def tw7972329292462922730:=()
noncomputable def tw10050994089837268693:=()
noncomputable def tw9254122869626965890:=()
noncomputable def tw10065068148366066001:=()
noncomputable def tw3038535345587902079:=()
noncomputable def tw5844287327422042164:=()
noncomputable def tw8239568119629461879:=()
noncomputable def tw12913644366932053316:=()
noncomputable def tw6409620536996970597:=()
noncomputable def tw13235550313027397482:=()
noncomputable def tw4592489399041652796:=()
noncomputable def tw18321943601600620030:=()
noncomputable def tw8808102014438200645:=()
noncomputable def tw14368671249116332132:=()
noncomputable def tw13716142977918991686:=()
noncomputable def tw2572426729511208601:=()
noncomputable def tw17443275197316726609:=()
noncomputable def tw11051851502906040875:=()
noncomputable def tw17662583342704042884:=()
noncomputable def tw17323952877818968275:=()
noncomputable def tw12969217064298843925:=()
noncomputable def tw11145438597891585368:=()
noncomputable def tw1528666920397658275:=()
noncomputable def tw12671153635171296837:=()
noncomputable def tw13754388998324097170:=()
noncomputable def tw10814926840137948845:=()
noncomputable def tw3390156620245482921:=()
noncomputable def tw15468409107938200199:=()
noncomputable def tw8303893707477157205:=()
noncomputable def tw18357779938777343347:=()
noncomputable def tw12985743139685314625:=()
noncomputable def tw6177847296770317108:=()
noncomputable def tw10939817678371060629:=()
noncomputable def tw5890656687105235673:=()
noncomputable def tw15784993944400712899:=()
noncomputable def tw16885471238971914064:=()
noncomputable def tw43465192990873027:=()
noncomputable def tw7223228324065546077:=()
noncomputable def tw18148602261478907782:=()
noncomputable def tw3342226550913640507:=()
noncomputable def tw16147556651150330186:=()
noncomputable def tw5546867873886960873:=()
noncomputable def tw4201490050523321279:=()
noncomputable def tw11556106564811960147:=()
noncomputable def tw6768512315326534458:=()
noncomputable def tw16594159765558001063:=()
noncomputable def tw14266320634521300507:=()
noncomputable def tw12543480289774839801:=()
noncomputable def tw403651445575609211:=()
noncomputable def tw17753430216586894416:=()
noncomputable def tw7316118765773562415:=()
noncomputable def tw16940964827771892778:=()
noncomputable def tw15627960861372212016:=()
noncomputable def tw3581915548547484641:=()
noncomputable def tw9469909159504953036:=()
noncomputable def tw9275461721453835476:=()
noncomputable def tw5521833673702466805:=()
noncomputable def tw949458036731582013:=()
noncomputable def tw11909279022670454050:=()
noncomputable def tw5849034235710742283:=()
noncomputable def tw16380122668585910173:=()
noncomputable def tw4518060570024575573:=()
noncomputable def tw2513626824956671401:=()
noncomputable def tw5428917767498470729:=()
noncomputable def tw13157753659030659533:=()
noncomputable def tw11301587679284428963:=()
noncomputable def tw954141032376840786:=()
noncomputable def tw7213805393095130082:=()
noncomputable def tw3815999067656157445:=()
noncomputable def tw11668786117500395610:=()
noncomputable def tw10499017774599031262:=()
noncomputable def tw17919988328154698768:=()
noncomputable def tw14172909878450034036:=()
noncomputable def tw16241012017228481171:=()
noncomputable def tw9361063374115902875:=()
noncomputable def tw15325256456010986779:=()
noncomputable def tw9139921618503858792:=()
noncomputable def tw14505166544808236077:=()
noncomputable def tw12175182122026106414:=()
noncomputable def tw7831988614800060405:=()
noncomputable def tw17520947924457348276:=()
noncomputable def tw12440988079592397243:=()
noncomputable def tw1354673932880822762:=()
noncomputable def tw10602595083055125613:=()
noncomputable def tw8550235492681763767:=()
noncomputable def tw5354370107703385867:=()
noncomputable def tw7857820052374309698:=()
noncomputable def tw14565450979022424966:=()
noncomputable def tw1632640668295585292:=()
noncomputable def tw9925783616999738726:=()
noncomputable def tw15902184602359638303:=()
noncomputable def tw12656066543399740822:=()
noncomputable def tw469370429043746219:=()
noncomputable def tw13391862515806507541:=()
noncomputable def tw8349768233872673648:=()
noncomputable def tw16174290200967782851:=()
noncomputable def tw14957546365020207295:=()
noncomputable def tw3273219991634058043:=()
noncomputable def tw12984658730524879179:=()
noncomputable def tw12560473934842533576:=()
noncomputable def tw15941917696788121370:=()
noncomputable def tw17939930736792043214:=()
noncomputable def tw1200443200333799596:=()
noncomputable def tw14642135813040870844:=()
noncomputable def tw7317404007624228503:=()
noncomputable def tw5243904920096490809:=()
noncomputable def tw1276217231401602855:=()
noncomputable def tw1074375955746071856:=()
noncomputable def tw9844298726001293127:=()
noncomputable def tw7439159219303577031:=()
noncomputable def tw3736572965285852636:=()
noncomputable def tw11476800349000358356:=()
noncomputable def tw17404952564091328643:=()
noncomputable def tw14288941542655936643:=()
noncomputable def tw13149727204726356892:=()
noncomputable def tw12852270976860533422:=()
noncomputable def tw14906693591869593316:=()
noncomputable def tw13034565869182345449:=()
noncomputable def tw16451124834252459805:=()
noncomputable def tw16106933782957992960:=()
noncomputable def tw98568239380400144:=()
noncomputable def tw9954020746414215648:=()
noncomputable def tw14848796512691964927:=()
noncomputable def tw16102620740975722010:=()
noncomputable def tw493138175427539995:=()
noncomputable def tw1669760672896663989:=()
noncomputable def tw10647267302400095484:=()
noncomputable def tw8725596603075845201:=()
noncomputable def tw15712902001522751158:=()
noncomputable def tw17896566511206392137:=()
noncomputable def tw11577011780550379943:=()
noncomputable def tw631985270074276920:=()
noncomputable def tw1014684461306259931:=()
end PySem.W.Fast
open PySem PySem.W PyProof.Rows
set_option maxRecDepth 100000 in
set_option maxHeartbeats 0 in
theorem PySem.Challenge.cw_beltshares_k28_where_wares_come_from_holds : PySem.Challenge.rw_beltshares_k28_where_wares_come_from.Holds := by
 w_on; o_law; k_head; (case hw=>w_witness2)
 k_fill
 refine K28.walk (l:=PySem.Challenge.rw_beltshares_k28_where_wares_come_from) rfl rfl (fun w h Y=>PySem.W.kIn_of Y) ?F
 case F =>
  intro w mg fa h KX G hmg
  refine' K28.all_mk KX G hmg ?h0 ?h1 ?h2 ?h3 ?h4 ?h5 ?h6 ?h7 ?h8 ?h9 ?h10 ?h11 ?h12 ?h13 ?h14 ?h15 ?h16 ?h17 ?h18 ?h19 ?h20 ?h21 ?h22 ?h23 ?h24 ?h25 ?h26 ?h27 ?h28 ?h29 ?h30 ?h31 ?h32 ?h33 ?h34 ?h35 ?h36 ?h37 ?h38 ?aL ?lL ?cL ?kL ?z_list ?z_len ?z_max ?z_range ?z_isinstance ?z_enumerate ?z_sorted ?z_int ?z_bool ?z_reversed ?z_tuple ?z_zip ?ag_State ?ag_WorkError ?ag_BadBelt ?ag_BadKnot ?ag_BadWork ?ag_Belt ?ag_Knot ?ag_Source ?ag_Drain ?ag_Parter ?ag_FirstParter ?ag_Sieve ?ag_Joiner ?ag_Work ?hc_State ?nf_turn_State ?nf_cells_State ?nf_sides_State ?nf_gone_State ?h_State_init ?hc_Belt ?nf_room_Belt ?nf_pace_Belt ?h_Belt_init ?hc_Knot ?nf_ins_Knot ?nf_outs_Knot ?aKnot_init ?iKnot_init ?lKnot_init ?cKnot_init ?kKnot_init ?bga_Knot_init ?brd_Knot_init ?bfc_Knot_init ?h_Knot_choice ?h_Knot_copied ?hc_Source ?nf_pace_Source ?nf_kinds_Source ?nf_ins_Source ?nf_outs_Source ?h_Source_init ?h_Source_choice ?h_Source_copied ?hc_Drain ?nf_pace_Drain ?nf_ins_Drain ?nf_outs_Drain ?h_Drain_init ?h_Drain_choice ?h_Drain_copied ?hc_Parter ?nf_ins_Parter ?nf_outs_Parter ?h_Parter_init ?h_Parter_choice ?h_Parter_copied ?hc_FirstParter ?nf_ins_FirstParter ?nf_outs_FirstParter ?h_FirstParter_init ?h_FirstParter_choice ?h_FirstParter_copied ?hc_Sieve ?nf_kind_Sieve ?nf_ins_Sieve ?nf_outs_Sieve ?h_Sieve_init ?h_Sieve_choice ?h_Sieve_place_for ?h_Sieve_copied ?hc_Joiner ?nf_ins_Joiner ?nf_outs_Joiner ?h_Joiner_init ?h_Joiner_choice ?h_Joiner_copied ?hc_Work ?nf_belts_Work ?nf_knots_Work ?h_Work_init ?h_Work_feeder ?h_Work_taker ?h_Work_drains ?h_Work_sources ?h_Work_beat ?wgn ?wtk ?ac_MOST_ROOM ?ac_MOST_PACE ?ac_MOST_KINDS ?ac_FEWEST_WAYS ?ac_MOST_WAYS ?ac_MOST_BELTS ?ac_MOST_KNOTS ?xq_BadBelt ?xga_BadBelt ?xgt_BadBelt ?xcl_BadBelt ?xhd_BadBelt ?xmo_BadBelt ?xmb_BadBelt ?xq_BadKnot ?xga_BadKnot ?xgt_BadKnot ?xcl_BadKnot ?xhd_BadKnot ?xmo_BadKnot ?xmb_BadKnot ?xq_BadWork ?xga_BadWork ?xgt_BadWork ?xcl_BadWork ?xhd_BadWork ?xmo_BadWork ?xmb_BadWork ?xgn ?xtk ?k1_State_Joiner ?k1_Belt_Joiner ?k1_Knot_Joiner ?k1_Source_Joiner ?k1_Drain_Joiner ?k1_Parter_Joiner ?k1_FirstParter_Joiner ?k1_Sieve_Joiner ?k1_Joiner_Joiner ?k1_Work_Joiner ?k1_State_Source ?k1_Belt_Source ?k1_Knot_Source ?k1_Source_Source ?k1_Drain_Source ?k1_Parter_Source ?k1_FirstParter_Source ?k1_Sieve_Source ?k1_Joiner_Source ?k1_Work_Source
  (case h0|h1|h2|h3|h4|h5|h6|h7|h8|h9|h10|h11|h12|h13|h14|h15|h16|h17|h18|h19|h20|h21|h22|h23|h24|h25|h26|h27|h28|h29|h30|h31|h32|h33|h34|h35|h36|h37|h38=>(refine' K28.fhy ?a ?l ?c ?k; (case a=>k_is); (case l=>k_is); (case c=>k_is); (case k=>k_is)))
  (case aL|lL|cL|kL|z_list|z_len|z_max|z_range|z_isinstance|z_enumerate|z_sorted|z_int|z_bool|z_reversed|z_tuple|z_zip|ag_State|ag_WorkError|ag_BadBelt|ag_BadKnot|ag_BadWork|ag_Belt|ag_Knot|ag_Source|ag_Drain|ag_Parter|ag_FirstParter|ag_Sieve|ag_Joiner|ag_Work=>k_is)
  (case hc_State=>(refine ⟨?_,?_,?_,?_,?_,?_,?_,?_⟩ <;> k_is))
  (case nf_turn_State|nf_cells_State|nf_sides_State|nf_gone_State=>(show PySem.W.findIn _ _ _=_; k_is))
  (case h_State_init=>(refine' K28.mhy ?a ?i ?l ?c ?k; (case a=>k_is); (case i=>k_is); (case l=>k_is); (case c=>k_is); (case k=>k_is)))
  (case hc_Belt=>(refine ⟨?_,?_,?_,?_,?_,?_,?_,?_⟩ <;> k_is))
  (case nf_room_Belt|nf_pace_Belt=>(show PySem.W.findIn _ _ _=_; k_is))
  (case h_Belt_init=>(refine' K28.mhy ?a ?i ?l ?c ?k; (case a=>k_is); (case i=>k_is); (case l=>k_is); (case c=>k_is); (case k=>k_is)))
  (case hc_Knot=>(refine ⟨?_,?_,?_,?_,?_,?_,?_,?_⟩ <;> k_is))
  (case nf_ins_Knot|nf_outs_Knot=>(show PySem.W.findIn _ _ _=_; k_is))
  (case aKnot_init|iKnot_init|lKnot_init|cKnot_init|kKnot_init|bga_Knot_init|brd_Knot_init|bfc_Knot_init=>k_is)
  (case h_Knot_choice|h_Knot_copied=>(refine' K28.mhy ?a ?i ?l ?c ?k; (case a=>k_is); (case i=>k_is); (case l=>k_is); (case c=>k_is); (case k=>k_is)))
  (case hc_Source=>(refine ⟨?_,?_,?_,?_,?_,?_,?_,?_⟩ <;> k_is))
  (case nf_pace_Source|nf_kinds_Source|nf_ins_Source|nf_outs_Source=>(show PySem.W.findIn _ _ _=_; k_is))
  (case h_Source_init|h_Source_choice|h_Source_copied=>(refine' K28.mhy ?a ?i ?l ?c ?k; (case a=>k_is); (case i=>k_is); (case l=>k_is); (case c=>k_is); (case k=>k_is)))
  (case hc_Drain=>(refine ⟨?_,?_,?_,?_,?_,?_,?_,?_⟩ <;> k_is))
  (case nf_pace_Drain|nf_ins_Drain|nf_outs_Drain=>(show PySem.W.findIn _ _ _=_; k_is))
  (case h_Drain_init|h_Drain_choice|h_Drain_copied=>(refine' K28.mhy ?a ?i ?l ?c ?k; (case a=>k_is); (case i=>k_is); (case l=>k_is); (case c=>k_is); (case k=>k_is)))
  (case hc_Parter=>(refine ⟨?_,?_,?_,?_,?_,?_,?_,?_⟩ <;> k_is))
  (case nf_ins_Parter|nf_outs_Parter=>(show PySem.W.findIn _ _ _=_; k_is))
  (case h_Parter_init|h_Parter_choice|h_Parter_copied=>(refine' K28.mhy ?a ?i ?l ?c ?k; (case a=>k_is); (case i=>k_is); (case l=>k_is); (case c=>k_is); (case k=>k_is)))
  (case hc_FirstParter=>(refine ⟨?_,?_,?_,?_,?_,?_,?_,?_⟩ <;> k_is))
  (case nf_ins_FirstParter|nf_outs_FirstParter=>(show PySem.W.findIn _ _ _=_; k_is))
  (case h_FirstParter_init|h_FirstParter_choice|h_FirstParter_copied=>(refine' K28.mhy ?a ?i ?l ?c ?k; (case a=>k_is); (case i=>k_is); (case l=>k_is); (case c=>k_is); (case k=>k_is)))
  (case hc_Sieve=>(refine ⟨?_,?_,?_,?_,?_,?_,?_,?_⟩ <;> k_is))
  (case nf_kind_Sieve|nf_ins_Sieve|nf_outs_Sieve=>(show PySem.W.findIn _ _ _=_; k_is))
  (case h_Sieve_init|h_Sieve_choice|h_Sieve_place_for|h_Sieve_copied=>(refine' K28.mhy ?a ?i ?l ?c ?k; (case a=>k_is); (case i=>k_is); (case l=>k_is); (case c=>k_is); (case k=>k_is)))
  (case hc_Joiner=>(refine ⟨?_,?_,?_,?_,?_,?_,?_,?_⟩ <;> k_is))
  (case nf_ins_Joiner|nf_outs_Joiner=>(show PySem.W.findIn _ _ _=_; k_is))
  (case h_Joiner_init|h_Joiner_choice|h_Joiner_copied=>(refine' K28.mhy ?a ?i ?l ?c ?k; (case a=>k_is); (case i=>k_is); (case l=>k_is); (case c=>k_is); (case k=>k_is)))
  (case hc_Work=>(refine ⟨?_,?_,?_,?_,?_,?_,?_,?_⟩ <;> k_is))
  (case nf_belts_Work|nf_knots_Work=>(show PySem.W.findIn _ _ _=_; k_is))
  (case h_Work_init|h_Work_feeder|h_Work_taker|h_Work_drains|h_Work_sources|h_Work_beat=>(refine' K28.mhy ?a ?i ?l ?c ?k; (case a=>k_is); (case i=>k_is); (case l=>k_is); (case c=>k_is); (case k=>k_is)))
  (case wgn|wtk|ac_MOST_ROOM|ac_MOST_PACE|ac_MOST_KINDS|ac_FEWEST_WAYS|ac_MOST_WAYS|ac_MOST_BELTS|ac_MOST_KNOTS=>k_is)
  (case xq_BadBelt=>k_exc)
  (case xga_BadBelt|xgt_BadBelt|xcl_BadBelt|xhd_BadBelt|xmo_BadBelt|xmb_BadBelt=>k_is)
  (case xq_BadKnot=>k_exc)
  (case xga_BadKnot|xgt_BadKnot|xcl_BadKnot|xhd_BadKnot|xmo_BadKnot|xmb_BadKnot=>k_is)
  (case xq_BadWork=>k_exc)
  (case xga_BadWork|xgt_BadWork|xcl_BadWork|xhd_BadWork|xmo_BadWork|xmb_BadWork|xgn|xtk=>k_is)
  (case k1_State_Joiner|k1_Belt_Joiner|k1_Knot_Joiner|k1_Source_Joiner|k1_Drain_Joiner|k1_Parter_Joiner|k1_FirstParter_Joiner|k1_Sieve_Joiner|k1_Joiner_Joiner|k1_Work_Joiner|k1_State_Source|k1_Belt_Source|k1_Knot_Source|k1_Source_Source|k1_Drain_Source|k1_Parter_Source|k1_FirstParter_Source|k1_Sieve_Source|k1_Joiner_Source|k1_Work_Source=>kit_is)
