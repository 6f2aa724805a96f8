import PyProof.Rows.All
import Wide.All
import OpenK.AllK
import Wide.FinOn
import Lean
import PyProof.EqAt
import PyProof.EqKinds
import PyProof.TupleCall
import PyProof.NeKinds
import PyProof.SumWalkG
import PyProof.Rows.CallKwBuiltin
import PyProof.Rows.FStr
import PyProof.ListRange
import PyProof.ZipIter
import PyProof.CompFree
import KE.KIntText
import PyProof.StrWalks
import PyProof.Rows.StrMul
import PyProof.ConsumeWalk
import Wide.Txt
import PySem.Challenge.RW_beltshares_k40_still_from
open PySem.W (methodObj plainGet_of plainOver any_some emptyDict looks_findIn mroIn callWith_K methodCall_KW excIn mg_of readsIn findCls binds_K mg_none_of)
set_option Elab.async false
set_option linter.all false
set_option maxRecDepth 100000
set_option compiler.extract_closed false
set_option bootstrap.genMatcherCode false
set_option hygiene false
local macro_rules | `(tactic| walk_at "p")=>`(tactic| first|exact Or.inl rfl|exact Or.inr rfl|assumption)
local macro_rules | `(tactic| walk_at "q")=>`(tactic| first|exact L2.nobehind _ (by decide) (by decide)|rfl)
set_option hygiene true
open List (getElem?_append_right getD_eq_getElem?_getD exists_cons_of_ne_nil getElem?_append_left ne_nil_of_length_pos getLastD_eq_getLast? getElem?_eq_getElem set_eq_of_length_le getElem?_set_self take_of_length_le mem_append_right length_replicate length_singleton getElem?_eq_none perm_append_comm getElem?_zipWith mem_cons_of_mem mem_append_left getElem?_set_ne mem_of_getElem? getElem?_of_mem filterMap_cons replicate_succ flatMap_append mem_cons_self length_append size_toArray getElem?_map flatten_cons append_assoc nodup_append take_add_one length_cons length_take length_drop lookup_cons not_mem_nil getElem_mem any_eq_true cons_append take_length length_map append_nil of_mem_zip length_set length_nil forIn_cons map_append find?_cons range_succ nodup_cons mem_append take_succ take_zero map_cons mem_cons any_cons map_map map_set)
namespace L2
open PySem PySem.Spec PyProof.Rows
abbrev Key:=Sum Int Str
def zf0:Key->Value->Bool
 | .inl k,v=>Value.isInt k v
 | .inr x,v=>Value.isStrOf x v
def zhK (w:World):Key->Int
 | .inl k=>hashInt k
 | .inr x=>hashStr w x
theorem qj:∀ {k:Key} {v:Value},zf0 k v=true->(∃ i t,k=Sum.inl i/\v=Value.int i t)\/(∃ x t,k=Sum.inr x/\v=Value.str x t)
 | .inl i,v,h=>by
  obtain ⟨t,e⟩:=Value.isInt_shape (k:=i) (v:=v) h;exact .inl ⟨i,t,rfl,e⟩
 | .inr x,v,h=>by
  obtain ⟨t,e⟩:=Value.isStrOf_shape (x:=x) (v:=v) h;exact .inr ⟨x,t,rfl,e⟩
theorem zgE (a b:Int):decide ((Sum.inl a:Key)=Sum.inl b)=(a == b):=by
 by_cases e:a=b
 ·subst e;simp
 ·have h:¬ (Sum.inl a:Key)=Sum.inl b:=λ q=>e (Sum.inl.inj q);rw [decide_eq_false h];exact (beq_eq_false_iff_ne.mpr e).symm
theorem zgB (a b:Str):decide ((Sum.inr a:Key)=Sum.inr b)=decide (a=b):=by
 by_cases e:a=b
 ·subst e;simp
 ·have h:¬ (Sum.inr a:Key)=Sum.inr b:=λ q=>e (Sum.inr.inj q);rw [decide_eq_false h,decide_eq_false e]
theorem zgD (a:Int) (b:Str):decide ((Sum.inl a:Key)=Sum.inr b)=false:=decide_eq_false (λ q=>nomatch q)
theorem zgC (a:Str) (b:Int):decide ((Sum.inr a:Key)=Sum.inl b)=false:=decide_eq_false (λ q=>nomatch q)
def Vg (prog:Program) (w:World):PySem.KeyKind prog w Key where
 is:=zf0
 hash:=zhK w
 inj:=λ v a b ha hb=>by
  rcases qj ha with ⟨i,t,rfl,rfl⟩|⟨x,t,rfl,rfl⟩
  ·rcases qj hb with ⟨j,u,rfl,e⟩|⟨y,u,rfl,e⟩
   ·injection e with e1 _;rw [e1]
   ·exact nomatch e
  ·rcases qj hb with ⟨j,u,rfl,e⟩|⟨y,u,rfl,e⟩
   ·exact nomatch e
   ·injection e with e1 _;rw [e1]
 byValue:=λ k v h=>by
  rcases qj h with ⟨i,t,rfl,rfl⟩|⟨x,t,rfl,rfl⟩ <;> rfl
 pyHash:=λ hv h=>by
  rcases qj hv with ⟨i,t,rfl,rfl⟩|⟨x,t,rfl,rfl⟩
  ·exact wpAny_pyHash_int h
  ·exact wpAny_pyHash_str h
 eqBool:=λ hu hv h=>by
  rcases qj hu with ⟨i,t,rfl,rfl⟩|⟨x,t,rfl,rfl⟩
  ·rcases qj hv with ⟨j,u,rfl,rfl⟩|⟨y,u,rfl,rfl⟩
   ·rw [zgE] at h;exact wpAny_eqBool_int h
   ·rw [zgD] at h;exact SeqAt.EqAt.int_str i t y u _ _ _ _ h
  ·rcases qj hv with ⟨j,u,rfl,rfl⟩|⟨y,u,rfl,rfl⟩
   ·rw [zgC] at h;exact SeqAt.EqAt.str_int x t j u _ _ _ _ h
   ·rw [zgB] at h;exact wpAny_eqBool_str h
 «strs»:=λ k x t v h=>by
  rcases qj h with ⟨i,u,rfl,e⟩|⟨y,u,rfl,e⟩
  ·exact nomatch e
  ·injection e with e1 _
   subst e1;cases v <;> rfl
end L2
namespace L2
open PySem PySem.Spec PyProof.Rows
inductive V where
 | non|bl (b:Bool)|int (i:Int)|str (x:Str)|byt (b:Array UInt8)|flt (b:UInt64)|ref (a:Addr)|ty (n:String)
 deriving DecidableEq
def RelV:V->Value->Prop
 | .non,u=>u=Value.none
 | .bl b,u=>u=Value.bool b
 | .int i,u=>∃ t,u=Value.int i t
 | .str x,u=>∃ t,u=Value.str x t
 | .byt b,u=>∃ t,u=Value.bytes b t
 | .flt b,u=>∃ t,u=Value.float b t
 | .ref a,u=>u=Value.ref a
 | .ty n,u=>u=Value.type n
abbrev Vals:List V->List Value->Prop:=Paired RelV
theorem Vals.length {xs:List V} {us:List Value} (r:Vals xs us):xs.length=us.length:=Paired.length r
theorem Vals.get:∀ {xs:List V} {us:List Value} {i:Nat} {x:V},Vals xs us->xs[i]?=some x->∃ u,us[i]?=some u/\RelV x u
 | _,_,_,_,.nil,e=>by simp at e
 | _,_,0,_,.cons r _,e=>by simp at e;subst e;exact ⟨_,rfl,r⟩
 | _,_,i + 1,x,.cons _ t,e=>by
  obtain ⟨u,h1,h2⟩:=Vals.get (i:=i) (x:=x) t (by simpa using e);exact ⟨u,by simpa using h1,h2⟩
theorem Vals.set {x:V} {u:Value} (r:RelV x u):∀ {xs:List V} {us:List Value} (i:Nat),Vals xs us->Vals (xs.set i x) (us.set i u)
 | _,_,_,.nil=>.nil
 | _,_,0,.cons _ t=>.cons r t
 | _,_,i + 1,.cons q t=>.cons q (Vals.set r i t)
theorem Vals.append:∀ {xs ys:List V} {us ws:List Value},Vals xs us->Vals ys ws->Vals (xs ++ ys) (us ++ ws)
 | _,_,_,_,.nil,s=>s
 | _,_,_,_,.cons r t,s=>.cons r (Vals.append t s)
theorem Vals.take:∀ {xs:List V} {us:List Value} (n:Nat),Vals xs us->Vals (xs.take n) (us.take n)
 | _,_,0,_=>.nil
 | _,_,_ + 1,.nil=>.nil
 | _,_,n + 1,.cons r t=>.cons r (Vals.take n t)
theorem Vals.drop:∀ {xs:List V} {us:List Value} (n:Nat),Vals xs us->Vals (xs.drop n) (us.drop n)
 | _,_,0,r=>r
 | _,_,_ + 1,.nil=>.nil
 | _,_,n + 1,.cons _ t=>Vals.drop n t
theorem Vals.none_of:∀ {xs:List V} {us:List Value} {i:Nat},Vals xs us->xs[i]?=none->us[i]?=none:=λ {xs us i} r e=>by
 have h1:=r.length;have h2:xs.length<=i:=List.getElem?_eq_none_iff.mp e;exact List.getElem?_eq_none_iff.mpr (by omega)
def RelO:Option V->Option Value->Prop
 | some v,some u=>RelV v u
 | none,none=>True
 | _,_=>False
def KV {κ:Type}:List (κ × V)->List (κ × Value)->Prop:=Paired λ (p:κ × V) (q:κ × Value)=>p.1=q.1/\RelV p.2 q.2
def kV:Key->V
 | .inl i=>.int i
 | .inr x=>.str x
inductive HO where
 | lst (xs:List V)
 | tup (xs:List V)
 | dK (kvs:List (Key × V))|dT (kvs:List (List Key × V))
 | set (S:Int->Bool) (n:Nat)
 | ins (C dx:Addr) (fs:List (Str × V))
 | own (x:Addr)
 | xd (fs:List (Str × V))
 | met (f x:Addr)
 | rng (lo hi:Int)
 | frz (o:Obj) (u:HO)
 | tbl (ps:Array Value)
 | ext (φ:Heap->Prop)
abbrev Hp:=Addr->Option HO
def upd (H:Hp) (a:Addr) (o:HO):Hp:=λ b=>if b=a then some o else H b
theorem upd_same {H:Hp} {a:Addr} {o:HO}:upd H a o a=some o:=by unfold upd;rw [if_pos rfl]
theorem upd_ne {H:Hp} {a b:Addr} {o:HO} (h:b≠a):upd H a o b=H b:=by unfold upd;rw [if_neg h]
theorem Zk {H:Hp} {a:Addr} {o u:HO}:upd (upd H a o) a u=upd H a u:=by
 funext b;unfold upd;split <;> rfl
theorem QC {H:Hp} {a b:Addr} {o u:HO} (h:H a=some o) (h':H b=some u) (d:o≠u):a≠b:=by
 intro e;subst e;rw [h] at h';exact d (Option.some.inj h')
theorem ne_of_none {H:Hp} {a b:Addr} {o:HO} (h:H a=some o) (h':H b=none):a≠b:=by
 intro e;subst e;rw [h] at h';cases h'
section
variable (P:Program) (w:World)
def ObjOk (H:Hp) (h:Heap) (a:Addr):HO->Prop
 | .lst xs=>xs.length<=sizeLine/\∃ (its:List Value) (n:Nat),Vals xs its/\h.get? a=some { cls:=.type "list",data:=.seq its.toArray n }
 | .tup xs=>xs.length<=sizeLine/\∃ its:List Value,Vals xs its/\IsTup h a its.toArray
 | .dK kvs=>kvs.length<=sizeLine/\(a == sysModules)=false/\∃ vs,KV kvs vs/\h.DictOf (Vg P w) a vs
 | .dT kvs=>kvs.length<=sizeLine/\(a == sysModules)=false/\∃ xs:List (List Key × Addr × Value),
   Paired (λ (p:List Key × V) (q:List Key × Addr × Value)=>p.1=q.1/\H q.2.1=some (.tup (p.1.map kV))/\RelV p.2 q.2.2) kvs xs /\
   ∃ o es ep,h.get? a=some o/\o.ExactDict/\o.data=.dict es ep/\es.toList=xs.map (entryOfKey (tupleKind (Vg P w)))/\(xs.map (·.1)).Nodup
 | .set S n=>h.SetOf (intKind P w) a S n
 | .ins C dx fs=>H dx=some (.own a)/\fs.length<=1000/\dx≠a/\h.get? a=some (PySem.W.instObj C dx) /\
   ∃ mA,h.Ns1 dx mA/\(∀ f,RelO (fs.lookup f) (mA f))/\PySem.Within mA (fs.map (·.1))
 | .own _=>∃ o,h.get? a=some o
 | .xd fs=>∃ mA,h.Ns1 a mA/\∀ f,RelO (fs.lookup f) (mA f)
 | .rng lo hi=>∃ t u v,h.get? a=some { cls:=.type "range",data:=.fields #[.int lo t,.int hi u,.int 1 v] }
 | .frz o u=>h.get? a=some o/\ObjOk H h a u
 | .tbl ps=>h.get? a=some { cls:=.none,data:=.fields ps }
 | .met f x=>h.get? a=some (methodObj (.ref f) (.ref x))
 | .ext φ=>φ h/\(∃ o,h.get? a=some o)/\∀ h1 h2:Heap,φ h1->(∀ o,h1.get? a=some o->h2.get? a=some o)->φ h2
def HOk (H:Hp) (h:Heap):Prop:=∀ a o,H a=some o->ObjOk P w H h a o
end
section
variable {P:Program} {w:World} {H H':Hp} {h h':Heap} {a:Addr} {o:HO}
theorem ObjOk.lt (x:ObjOk P w H h a o):a < h.objs.size:=by
 cases o with
 | lst xs=>obtain ⟨_,_,_,_,e⟩:=x;exact Heap.lt_size e
 | tup xs=>obtain ⟨_,_,_,p⟩:=x;exact p.lt
 | dK kvs=>obtain ⟨_,_,_,_,o,_,_,e,_⟩:=x;exact Heap.lt_size e
 | dT kvs=>obtain ⟨_,_,_,_,o,_,_,e,_⟩:=x;exact Heap.lt_size e
 | set S n=>obtain ⟨o,_,_,_,e,_⟩:=x;exact Heap.lt_size e
 | ins C dx fs=>obtain ⟨_,_,_,e,_⟩:=x;exact Heap.lt_size e
 | own y=>obtain ⟨_,e⟩:=x;exact Heap.lt_size e
 | xd fs=>obtain ⟨_,⟨_,_,_,e,_⟩,_⟩:=x;exact Heap.lt_size e
 | rng lo hi=>obtain ⟨_,_,_,e⟩:=x;exact Heap.lt_size e
 | frz ob u=>obtain ⟨e,_⟩:=x;exact Heap.lt_size e
 | tbl ps=>exact Heap.lt_size (show h.get? a=some _ from x)
 | met f y=>exact Heap.lt_size (show h.get? a=some _ from x)
 | ext φ=>obtain ⟨_,⟨_,e⟩,_⟩:=x;exact Heap.lt_size e
theorem Paired.mapP {α β:Type} {F G:α->β->Prop}:∀ {l₁:List α} {l₂:List β},Paired F l₁ l₂->(∀ a b,F a b->G a b)->Paired G l₁ l₂
 | _,_,.nil,_=>.nil
 | _,_,.cons r t,f=>.cons (f _ _ r) (Paired.mapP t f)
theorem ObjOk.stay (x:ObjOk P w H h a o) (k:∀ b u,(b=a\/H b=some (.own a))->h.get? b=some u->h'.get? b=some u)
  (ho:∀ b,H b=some (.own a)->H' b=some (.own a)) (ht:∀ b xs,H b=some (.tup xs)->H' b=some (.tup xs)):ObjOk P w H' h' a o:=by
 induction o with
 | lst xs=>obtain ⟨z,its,n,r,e⟩:=x;exact ⟨z,its,n,r,k _ _ (.inl rfl) e⟩
 | tup xs=>obtain ⟨z,its,r,ob,e,c⟩:=x;exact ⟨z,its,r,ob,k _ _ (.inl rfl) e,c⟩
 | dK kvs=>obtain ⟨z,y,vs,r,ob,es,ep,e,c⟩:=x;exact ⟨z,y,vs,r,ob,es,ep,k _ _ (.inl rfl) e,c⟩
 | dT kvs =>
  obtain ⟨z,y,xs,r,ob,es,ep,e,c⟩:=x;exact ⟨z,y,xs,Paired.mapP r λ p q z=>⟨z.1,ht _ _ z.2.1,z.2.2⟩,ob,es,ep,k _ _ (.inl rfl) e,c⟩
 | set S n=>obtain ⟨ob,es,ep,t,e,c⟩:=x;exact ⟨ob,es,ep,t,k _ _ (.inl rfl) e,c⟩
 | ins C dx fs =>
  obtain ⟨d,z,ne,e,mA,⟨od,es,ep,e2,c⟩,r⟩:=x;exact ⟨ho _ d,z,ne,k _ _ (.inl rfl) e,mA,⟨od,es,ep,k _ _ (.inr d) e2,c⟩,r⟩
 | own y=>obtain ⟨ob,e⟩:=x;exact ⟨ob,k _ _ (.inl rfl) e⟩
 | xd fs=>obtain ⟨mA,⟨od,es,ep,e,c⟩,r⟩:=x;exact ⟨mA,⟨od,es,ep,k _ _ (.inl rfl) e,c⟩,r⟩
 | rng lo hi=>obtain ⟨t,u,v,e⟩:=x;exact ⟨t,u,v,k _ _ (.inl rfl) e⟩
 | frz ob u ih=>obtain ⟨e,q⟩:=x;exact ⟨k _ _ (.inl rfl) e,ih q⟩
 | tbl ps =>
  have e:h.get? a=some { cls:=.none,data:=.fields ps }:=x;show h'.get? a=some { cls:=.none,data:=.fields ps }
  exact k a _ (.inl rfl) e
 | met f y =>
  have e:h.get? a=some (methodObj (.ref f) (.ref y)):=x;show h'.get? a=some (methodObj (.ref f) (.ref y))
  exact k a _ (.inl rfl) e
 | ext φ=>obtain ⟨p,⟨o,e⟩,st⟩:=x;exact ⟨st _ _ p λ o q=>k _ _ (.inl rfl) q,⟨o,k _ _ (.inl rfl) e⟩,st⟩
theorem HOk.lt (x:HOk P w H h) (e:H a=some o):a < h.objs.size:=(x a o e).lt
theorem HOk.fresh (x:HOk P w H h) (e:h.objs.size<=a):H a=none:=by
 cases q:H a with
 | none=>rfl
 | some u=>exact absurd (Nat.lt_of_lt_of_le (x.lt q) e) (Nat.lt_irrefl _)
theorem HOk.kept (x:HOk P w H h) (k:∀ b u,h.get? b=some u->h'.get? b=some u):HOk P w H h':=λ a o e =>
 (x a o e).stay (λ b u _ q=>k b u q) (λ _ q=>q) λ _ _ q=>q
theorem HOk.laid (x:HOk P w H h) (k:∀ b u,h.get? b=some u->h'.get? b=some u) (hp:h.objs.size<=a) (new:ObjOk P w (upd H a o) h' a o):HOk P w (upd H a o) h':=λ b u e=>by
 have hn:=x.fresh hp;by_cases hb:b=a
 ·subst hb;rw [upd_same] at e;cases e;exact new
 ·rw [upd_ne hb] at e;exact (x b u e).stay (λ c v _ q=>k c v q) (λ c q=>by rw [upd_ne (ne_of_none q hn)];exact q) λ c xs q=>by rw [upd_ne (ne_of_none q hn)];exact q
end
def Rd (H:Hp) (a:Addr) (u:HO):Prop:=H a=some u\/∃ o,H a=some (.frz o u)
theorem Rd.of {H:Hp} {a:Addr} {u:HO} (h:H a=some u):Rd H a u:=.inl h
theorem Rd.ok {P:Program} {w:World} {H:Hp} {h:Heap} {a:Addr} {u:HO} (r:Rd H a u) (x:HOk P w H h):ObjOk P w H h a u:=by
 rcases r with r|⟨o,r⟩
 ·exact x a u r
 ·obtain ⟨_,q⟩:=x a _ r;exact q
def Mut:Option HO->Prop
 | some (.lst _)=>True
 | some (.dK _)=>True
 | some (.dT _)=>True
 | some (.set _ _)=>True
 | some (.ins _ _ _)=>True
 | some (.ext _)=>True
 | _=>False
section
variable {P:Program} {w:World} {H:Hp} {h h':Heap} {x e:Addr} {o':HO}
theorem HOk.write (ok:HOk P w H h) (mu:Mut (H x)) (he:e=x\/H e=some (.own x)) (k:∀ b u,b≠e->h.get? b=some u->h'.get? b=some u) (heo:∃ u,h'.get? e=some u)
  (new:ObjOk P w (upd H x o') h' x o'):HOk P w (upd H x o') h':=λ b u q=>by
 have nown:∀ c y,H c=some (.own y)->c≠x:=λ c y r z=>by subst z;rw [r] at mu;exact mu
 have ntup:∀ c xs,H c=some (.tup xs)->c≠x:=λ c xs r z=>by subst z;rw [r] at mu;exact mu
 by_cases hb:b=x
 ·subst hb;rw [upd_same] at q;cases q;exact new
 ·rw [upd_ne hb] at q;by_cases hbe:b=e
  ·have q':H b=some (.own x):=by
    rcases he with z|z
    ·exact absurd (hbe.trans z) hb
    ·rw [hbe];exact z
   rw [q] at q';cases q';obtain ⟨v,hv⟩:=heo;exact ⟨v,by rw [hbe];exact hv⟩
  ·refine (ok b u q).stay (λ c v hc r=>k c v ?_ r) (λ c r=>by rw [upd_ne (nown c b r)];exact r) λ c xs r=>by rw [upd_ne (ntup c xs r)];exact r
   rcases hc with rfl|hc
   ·exact hbe
   ·rintro rfl;rcases he with z|z
    ·exact nown c b hc z
    ·rw [hc] at z;cases z;exact hb rfl
end
structure Un (fs ex:List Addr) (H H':Hp) (h h':Heap):Prop where
 keep:∀ b o,h.get? b=some o->H b=none->b ∉ fs->b ∉ ex->h'.get? b=some o
 slot:∀ b o,h.get? b=some o->H b=none->b∈fs->b ∉ ex->∃ sl,h'.get? b=some { o with slots:=sl }
 free:∀ b o,h.get? b=some o->H b=none->b ∉ ex->H' b=none
 there:∀ b o,h.get? b=some o->b ∉ ex->∃ o',h'.get? b=some o'
 tups:∀ b xs,H b=some (.tup xs)->H' b=some (.tup xs)
 frzs:∀ b o u,H b=some (.frz o u)->H' b=some (.frz o u)
 tbls:∀ b ps,H b=some (.tbl ps)->∃ more,H' b=some (.tbl (ps ++ more))
section
variable {fs fs' ex ex':List Addr} {H H1 H2:Hp} {h h1 h2 h':Heap} {a x e:Addr} {o:HO}
theorem Un.any (u:Un fs ex H H1 h h1) {b:Addr} {ob:Obj} (q:h.get? b=some ob) (n:H b=none) (hx:b ∉ ex):∃ sl,h1.get? b=some { ob with slots:=sl }:=by
 by_cases hb:b∈fs
 ·exact u.slot b ob q n hb hx
 ·exact ⟨ob.slots,u.keep b ob q n hb hx⟩
theorem Un.trans (a:Un fs ex H H1 h h1) (b:Un fs ex H1 H2 h1 h2):Un fs ex H H2 h h2 where
 keep:=λ c ob q n hc hx=>b.keep c ob (a.keep c ob q n hc hx) (a.free c ob q n hx) hc hx
 slot:=λ c ob q n hc hx=>by
  obtain ⟨sl,e1⟩:=a.slot c ob q n hc hx;obtain ⟨sl',e2⟩:=b.slot c _ e1 (a.free c ob q n hx) hc hx;exact ⟨sl',e2⟩
 free:=λ c ob q n hx=>by
  obtain ⟨o',e1⟩:=a.there c ob q hx;exact b.free c o' e1 (a.free c ob q n hx) hx
 there:=λ c ob q hx=>by
  obtain ⟨o',e1⟩:=a.there c ob q hx;exact b.there c o' e1 hx
 tups:=λ c xs q=>b.tups c xs (a.tups c xs q)
 frzs:=λ c ob xs q=>b.frzs c ob xs (a.frzs c ob xs q)
 tbls:=λ c ps q=>by
  obtain ⟨m1,e1⟩:=a.tbls c ps q;obtain ⟨m2,e2⟩:=b.tbls c _ e1;exact ⟨m1 ++ m2,by rw [e2,Array.append_assoc]⟩
theorem Un.kept (k:∀ b u,h.get? b=some u->h'.get? b=some u):Un fs ex H H h h' :=
 ⟨λ b ob q _ _ _=>k b ob q,λ b ob q _ _ _=>⟨ob.slots,k b ob q⟩,λ _ _ _ n _=>n,λ b ob q _=>⟨ob,k b ob q⟩,λ _ _ q=>q,λ _ _ _ q=>q,λ _ ps q=>⟨#[],by rw [q];simp⟩⟩
theorem Un.refl:Un fs ex H H h h:=Un.kept λ _ _ q=>q
theorem Un.laid (k:∀ b u,h.get? b=some u->h'.get? b=some u) (hp:h.objs.size<=a) (hn:H a=none):Un fs ex H (upd H a o) h h' where
 keep:=λ b u q _ _ _=>k b u q
 slot:=λ b u q _ _ _=>⟨u.slots,k b u q⟩
 free:=λ b u q n _=>by rw [upd_ne (Nat.ne_of_lt (Nat.lt_of_lt_of_le (Heap.lt_size q) hp))];exact n
 there:=λ b u q _=>⟨u,k b u q⟩
 tups:=λ b xs q=>by rw [upd_ne (ne_of_none q hn)];exact q
 frzs:=λ b u xs q=>by rw [upd_ne (ne_of_none q hn)];exact q
 tbls:=λ b ps q=>⟨#[],by rw [upd_ne (ne_of_none q hn),q];simp⟩
theorem Un.write (mu:Mut (H x)) (he:e=x\/H e=some (.own x)) (k:∀ b u,b≠e->h.get? b=some u->h'.get? b=some u) (heo:∃ u,h'.get? e=some u):Un fs ex H (upd H x o) h h':=by
 have hx:∀ b,H b=none->b≠x:=λ b n z=>by subst z;rw [n] at mu;exact mu
 have hb:∀ b,H b=none->b≠e:=λ b n z=>by
  subst z;rcases he with r|r
  ·exact hx b n r
  ·rw [n] at r;cases r
 have hm:∀ b u,H b=some u->¬ Mut (some u)->b≠x:=λ b u q nm z=>by subst z;rw [q] at mu;exact nm mu
 refine ⟨λ b u q n _ _=>k b u (hb b n) q,λ b u q n _ _=>⟨u.slots,k b u (hb b n) q⟩,λ b u q n _=>by rw [upd_ne (hx b n)];exact n,λ b u q _=>?_,
  λ b xs q=>by rw [upd_ne (hm b _ q λ z=>z)];exact q,λ b u xs q=>by rw [upd_ne (hm b _ q λ z=>z)];exact q,λ b ps q=>⟨#[],by rw [upd_ne (hm b _ q λ z=>z),q];simp⟩⟩
 by_cases hbe:b=e
 ·subst hbe;exact heo
 ·exact ⟨u,k b u hbe q⟩
theorem Un.mono (u:Un fs ex H H1 h h1) (hs:∀ b∈fs,b∈fs') (hx:∀ b∈ex,b∈ex'):Un fs' ex' H H1 h h1 :=
 ⟨λ b ob q n hb he=>u.keep b ob q n (λ z=>hb (hs b z)) λ z=>he (hx b z),λ _ _ q n _ he=>u.any q n λ z=>he (hx _ z),λ b ob q n he=>u.free b ob q n λ z=>he (hx b z),λ b ob q he=>u.there b ob q λ z=>he (hx b z),u.tups,u.frzs,u.tbls⟩
end
def trk (h:Heap) (H:Hp):List Addr:=(List.range h.objs.size).filter λ a=>(H a).isSome
def Vk (h:Heap) (H:Hp):Heap:=PySem.W.hideAll h (trk h H)
theorem zdb (h:Heap) (H:Hp):(Vk h H).objs.size=h.objs.size:=PySem.W.hideAll_size _ _
theorem zex {h:Heap} {H:Hp} {b:Addr} {o:Obj} (e:h.get? b=some o) (n:H b=none):(Vk h H).get? b=some o :=
 PySem.W.hideAll_get _ e λ hm=>by
  have q:(H b).isSome=true:=(List.mem_filter.mp hm).2;rw [n] at q;simp at q
theorem zfp {h:Heap} {H:Hp} {b:Addr} {o:Obj} (e:(Vk h H).get? b=some o):h.get? b=some o/\H b=none:=by
 have e':h.get? b=some o:=PySem.W.of_hideAll (trk h H) e;refine ⟨e',?_⟩;cases q:H b with
 | none=>rfl
 | some x =>
  have hm:b∈trk h H:=List.mem_filter.mpr ⟨List.mem_range.mpr (Heap.lt_size e'),by simp [q]⟩;have z:(Vk h H).get? b=none:=PySem.W.hideAll_none (trk h H) hm;rw [z] at e;cases e
def zfM (g h:Heap) (L:Addr):List (Addr × Obj):=(List.range h.objs.size).filterMap λ a=>if a=L\/(g.get? a).isSome=true then none else (h.get? a).map λ o=>(a,o)
def rest (g h:Heap) (L d:Addr):List (Addr × Obj):=(zfM g h L).filter λ p=>decide (p.1≠d)
end L2
namespace L2
open PySem PySem.Spec PyProof.Rows
structure Mod (K:PySem.W.Frag) (mg:Str->Option Value) (base:Heap):Prop where
 kin:K.In base
 glob:base.Ns mainGlobals mg
 blt:∃ mb,base.Ns builtinsNs mb/\∀ x:Str,x≠"__name__"->mb x=bootBuiltins x
 nolimit:base.NoLimit
structure Cx where
 prog:Program
 w:World
 K:PySem.W.Frag
 mg:Str->Option Value
 base:Heap
 A:Around
 N:List Str
 s₀:Shared
 H₀:Hp
 env:Env
 outer:List Env
 stack:List Env
 ex:List Addr
 fn:Str->Bool
 calm:Bool
 pn:List (Addr × Obj)
 xe:Value->Shared->Prop
def frs (l:List Env):List Addr:=l.filterMap (·.frame)
abbrev Cx.fs (X:Cx):List Addr:=frs X.outer
def Vis (sc:Scope) (x:Str):Prop:=sc.names.lookup x=some .local\/sc.names.lookup x=some .cell\/sc.names.lookup x=some .free
def Loc (sc:Scope) (x:Str):Prop:=sc.names.lookup x=some .local\/sc.names.lookup x=some .cell
def zhN (env:Env) (h:Heap) (m:Str->Option Value) (x:Str) (u:Value):Prop :=
 (env.kindOf x=some .local/\m x=some u)\/((env.kindOf x=some .cell\/env.kindOf x=some .free)/\∃ c,env.cells.lookup x=some c/\h.IsCell c (some u))
structure Cx.Ok (X:Cx):Prop where
 mod:Mod X.K X.mg X.base
 kind:X.env.scope.kind=.function
 glob:X.env.globals=mainGlobals
 blt:X.env.builtins=builtinsNs
 above:X.s₀.heap.objs.size<=X.env.locals
 inj:∀ x y c,X.env.cells.lookup x=some c->X.env.cells.lookup y=some c->x=y
 has:∀ x,(X.env.kindOf x=some .cell\/X.env.kindOf x=some .free)->∃ c,X.env.cells.lookup x=some c
 cab:∀ x c,X.fn x=true->X.env.cells.lookup x=some c->X.s₀.heap.objs.size<=c
 hd:X.calm=true->X.A.handled=none
 frames:X.A.frames=some X.stack
 stk:X.stack=X.outer\/(X.stack=X.env :: X.outer/\X.env.frame=some X.env.locals)
 exf:∀ b∈X.ex,b≠X.env.locals/\∀ x c,X.env.cells.lookup x=some c->c≠b
 bs:∀ b o,X.base.get? b=some o->X.s₀.heap.get? b=some o/\X.H₀ b=none
 bsz:X.base.objs.size<=X.s₀.heap.objs.size
 noex:∀ b o,X.base.get? b=some o->b ∉ X.ex
 exfs:∀ b∈X.ex,b ∉ X.fs
 funs:X.s₀.heap.FunFrames X.base X.outer
 frf:∀ b∈X.fs,X.H₀ b=none
structure Inv (X:Cx) (pins:List (Addr × Obj)) (σ:List (Option V)) (H:Hp) (s:Shared):Prop where
 ok:X.Ok
 os:s.os=X.s₀.os
 bare:AllBare s.gens
 base:Un X.fs X.ex X.H₀ H X.s₀.heap s.heap
 loc:∃ m,s.heap.Ns X.env.locals m/\∀ (i:Nat) (x:Str) (v:V),X.N[i]?=some x->σ[i]?=some (some v)->Vis X.env.scope x->∃ u,RelV v u/\zhN X.env s.heap m x u
 cell:∀ x c,X.env.cells.lookup x=some c->∃ v,s.heap.IsCell c v
 free:H X.env.locals=none
 freeC:∀ x c,X.env.cells.lookup x=some c->H c=none
 pin:∀ p∈X.pn ++ pins,s.heap.get? p.1=some p.2/\H p.1=none/\p.1≠X.env.locals/\p.1 ∉ X.fs/\∀ v,p.2.data≠.cell v
 hok:HOk X.prog X.w H s.heap
 len:σ.length=X.N.length
section
variable {X:Cx} {pins:List (Addr × Obj)} {σ:List (Option V)} {H H':Hp} {s:Shared} {h':Heap}
theorem Cx.Ok.nofr (ok:X.Ok) {b:Addr} {o:Obj} (e:X.base.get? b=some o):b ∉ X.fs:=λ hb=>by
 have:=(ok.funs.mem hb).1;rw [e] at this;cases this
theorem Inv.bs (I:Inv X pins σ H s):∀ b o,X.base.get? b=some o->s.heap.get? b=some o/\H b=none:=λ b o e =>
 ⟨I.base.keep b o (I.ok.bs b o e).1 (I.ok.bs b o e).2 (I.ok.nofr e) (I.ok.noex b o e),I.base.free b o (I.ok.bs b o e).1 (I.ok.bs b o e).2 (I.ok.noex b o e)⟩
theorem Inv.bk (I:Inv X pins σ H s):∀ b o,X.base.get? b=some o->s.heap.get? b=some o:=λ b o e=>(I.bs b o e).1
theorem Inv.mod (I:Inv X pins σ H s):Mod X.K X.mg X.base:=I.ok.mod
theorem Inv.kIn (I:Inv X pins σ H s):X.K.In s.heap:=I.ok.mod.kin.keeps I.bk
theorem Inv.nolimit (I:Inv X pins σ H s):s.heap.NoLimit:=I.ok.mod.nolimit.keeps I.bk
theorem Inv.fr (I:Inv X pins σ H s):∃ m,Fr X.base X.env.locals s.heap m :=
 let ⟨m,hn,_⟩:=I.loc
 ⟨m,hn,I.bk,Nat.le_trans I.ok.bsz I.ok.above⟩
theorem Inv.lt (I:Inv X pins σ H s):X.env.locals < s.heap.objs.size:=by
 obtain ⟨_,hn,_⟩:=I.loc;exact hn.lt
theorem Inv.sz (I:Inv X pins σ H s):X.s₀.heap.objs.size<=s.heap.objs.size:=Nat.le_trans I.ok.above (Nat.le_of_lt I.lt)
theorem Inv.nofs (I:Inv X pins σ H s) {a:Addr} (h:s.heap.objs.size<=a):a ∉ X.fs:=λ hb=>by
 obtain ⟨_,o,ho,_⟩:=I.ok.funs.mem hb;exact absurd (Nat.lt_of_lt_of_le (Heap.lt_size ho) (Nat.le_trans I.sz h)) (Nat.lt_irrefl _)
theorem Inv.cne (I:Inv X pins σ H s):∀ x c,X.env.cells.lookup x=some c->c≠X.env.locals:=λ x c e z=>by
 obtain ⟨v,o,ho,hd⟩:=I.cell x c e;obtain ⟨m,⟨o',es,ep,ho',hd',_⟩,_⟩:=I.loc;rw [z,ho'] at ho;cases ho;rw [hd'] at hd;cases hd
theorem Inv.funs (I:Inv X pins σ H s):s.heap.FunFrames X.base X.outer:=by
 have all:∀ (l:List Env),(∀ b∈frs l,b∈X.fs)->X.s₀.heap.FunFrames X.base l->s.heap.FunFrames X.base l:=by
  intro l
  induction l with
  | nil=>intro _ _;trivial
  | cons env r ih =>
   intro hs hl;obtain ⟨hk,⟨L,o,hf,hn,ho,hd⟩,hr⟩:=hl;have hL:L∈X.fs:=hs L (by unfold frs;rw [filterMap_cons,hf];exact mem_cons_self);obtain ⟨sl,e⟩:=I.base.slot L o ho (I.ok.frf L hL) hL λ z=>I.ok.exfs L z hL;exact ⟨hk,⟨L,_,hf,hn,e,hd⟩,ih (λ b hb=>hs b (by unfold frs;rw [filterMap_cons,hf];exact mem_cons_of_mem _ hb)) hr⟩
 exact all X.outer (λ _ hb=>hb) I.ok.funs
theorem Inv.stack (I:Inv X pins σ H s):s.heap.FunFrames X.base X.stack:=by
 rcases I.ok.stk with e|⟨e,hf⟩
 ·rw [e];exact I.funs
 ·rw [e];obtain ⟨m,hn,_⟩:=I.loc;refine .cons (by rw [I.ok.kind];decide) hf hn ?_ I.funs;exact Heap.get?_none_of_le (Nat.le_trans I.ok.bsz I.ok.above)
theorem Inv.stkSub (I:Inv X pins σ H s):∀ b∈frs X.stack,b∈X.env.locals :: X.fs:=λ b hb=>by
 rcases I.ok.stk with e|⟨e,hf⟩
 ·rw [e] at hb;exact mem_cons_of_mem _ hb
 ·rw [e] at hb;unfold frs at hb;rw [filterMap_cons,hf] at hb;exact hb
theorem Inv.stkFree (I:Inv X pins σ H s):∀ b∈frs X.stack,H b=none:=λ b hb=>by
 rcases List.mem_cons.mp (I.stkSub b hb) with e|hb
 ·rw [e];exact I.free
 ·obtain ⟨_,o,ho,_⟩:=I.ok.funs.mem hb;exact I.base.free b o ho (I.ok.frf b hb) λ z=>I.ok.exfs b z hb
theorem Inv.step {g':Array GenState} {t':Nat} {d':Drawn} {ch:List Addr} (I:Inv X pins σ H s)
  (hch:∀ b∈ch,(b∈X.ex\/X.s₀.heap.objs.size<=b)/\b≠X.env.locals/\(∀ x c,X.env.cells.lookup x=some c->c≠b)/\∀ p∈X.pn ++ pins,p.1≠b)
  (keep:∀ b o,b≠X.env.locals->b ∉ X.fs->b ∉ ch->s.heap.get? b=some o->H b=none->h'.get? b=some o)
  (slot:∀ b o,b≠X.env.locals->b∈X.fs->b ∉ ch->s.heap.get? b=some o->H b=none->∃ sl,h'.get? b=some { o with slots:=sl }) (free:∀ b o,b ∉ ch->s.heap.get? b=some o->H b=none->H' b=none)
  (there:∀ b o,b ∉ ch->s.heap.get? b=some o->∃ o',h'.get? b=some o')
  (tups:∀ b xs,H b=some (.tup xs)->H' b=some (.tup xs)) (frzs:∀ b o u,H b=some (.frz o u)->H' b=some (.frz o u)) (tbls:∀ b ps,H b=some (.tbl ps)->∃ more,H' b=some (.tbl (ps ++ more)))
  (ns:∀ m,s.heap.Ns X.env.locals m->h'.Ns X.env.locals m) (hok:HOk X.prog X.w H' h') (hg:AllBare g') :
  Inv X pins σ H' { s with heap:=h',gens:=g',drawn:=d',toks:=t' }:=by
 have neL:∀ b o,X.s₀.heap.get? b=some o->b≠X.env.locals:=λ b o e=>Nat.ne_of_lt (Nat.lt_of_lt_of_le (Heap.lt_size e) I.ok.above);have neC:∀ b o,X.s₀.heap.get? b=some o->b ∉ X.ex->b ∉ ch:=λ b o e hx hb=>by
  rcases (hch b hb).1 with z|z
  ·exact hx z
  ·exact absurd (Nat.lt_of_lt_of_le (Heap.lt_size e) z) (Nat.lt_irrefl _)
 have cellK:∀ x c,X.env.cells.lookup x=some c->∀ v,s.heap.IsCell c v->h'.IsCell c v:=λ x c e v ⟨o,ho,hd⟩=>by
  have nch:c ∉ ch:=λ z=>(hch c z).2.2.1 x c e rfl;by_cases hc:c∈X.fs
  ·obtain ⟨sl,q⟩:=slot c o (I.cne x c e) hc nch ho (I.freeC x c e);exact ⟨_,q,hd⟩
  ·exact ⟨o,keep c o (I.cne x c e) hc nch ho (I.freeC x c e),hd⟩
 refine ⟨I.ok,I.os,hg,⟨λ b o e n hb hx=>?_,λ b o e n hb hx=>?_,λ b o e n hx=>?_,λ b o e hx=>?_,λ b xs e=>tups b xs (I.base.tups b xs e),λ b o xs e=>frzs b o xs (I.base.frzs b o xs e),λ b ps e=>?_⟩,?_,λ x c e=>?_,?_,λ x c e=>?_,λ p hp=>?_,hok,I.len⟩
 ·exact keep b o (neL b o e) hb (neC b o e hx) (I.base.keep b o e n hb hx) (I.base.free b o e n hx)
 ·obtain ⟨sl,e1⟩:=I.base.slot b o e n hb hx;obtain ⟨sl',e2⟩:=slot b _ (neL b o e) hb (neC b o e hx) e1 (I.base.free b o e n hx);exact ⟨sl',e2⟩
 ·obtain ⟨o',e1⟩:=I.base.there b o e hx;exact free b o' (neC b o e hx) e1 (I.base.free b o e n hx)
 ·obtain ⟨o',e1⟩:=I.base.there b o e hx;exact there b o' (neC b o e hx) e1
 ·obtain ⟨m1,e1⟩:=I.base.tbls b ps e;obtain ⟨m2,e2⟩:=tbls b _ e1;exact ⟨m1 ++ m2,by rw [e2,Array.append_assoc]⟩
 ·obtain ⟨m,hn,hl⟩:=I.loc;refine ⟨m,ns m hn,λ i x v e1 e2 e3=>?_⟩;obtain ⟨u,r,l⟩:=hl i x v e1 e2 e3;refine ⟨u,r,?_⟩;rcases l with l|⟨k,c,e,z⟩
  ·exact .inl l
  ·exact .inr ⟨k,c,e,cellK x c e _ z⟩
 ·obtain ⟨v,z⟩:=I.cell x c e;exact ⟨v,cellK x c e v z⟩
 ·obtain ⟨m,⟨o,_,_,ho,_⟩,_⟩:=I.loc;exact free _ o (λ z=>(hch _ z).2.1 rfl) ho I.free
 ·obtain ⟨v,o,ho,hd⟩:=I.cell x c e;exact free c o (λ z=>(hch c z).2.2.1 x c e rfl) ho (I.freeC x c e)
 ·obtain ⟨e,n,ne,nf,d⟩:=I.pin p hp;have nch:p.1 ∉ ch:=λ z=>(hch p.1 z).2.2.2 p hp rfl;exact ⟨keep p.1 p.2 ne nf nch e n,free p.1 p.2 nch e n,ne,nf,d⟩
theorem Inv.un {t':Nat} (I:Inv X pins σ H s) (u:Un X.fs [] H H' s.heap h') (hok:HOk X.prog X.w H' h'):Inv X pins σ H' { s with heap:=h',toks:=t' }:=by
 obtain ⟨m,⟨o,es,ep,ho,r⟩,_⟩:=id I.loc;obtain ⟨sl,hL⟩:=u.any ho I.free (by simp);exact I.step (g':=s.gens) (d':=s.drawn) (ch:=[]) (λ _ z=>nomatch z) (λ b o _ hb _ e n=>u.keep b o e n hb (by simp)) (λ b o _ hb _ e n=>u.slot b o e n hb (by simp)) (λ b o _ e n=>u.free b o e n (by simp)) (λ b o _ e=>u.there b o e (by simp)) u.tups u.frzs u.tbls (λ m' hm=>by
  obtain ⟨o',es',ep',ho',r'⟩:=hm;rw [ho] at ho';cases ho';exact ⟨_,es',ep',hL,r'⟩) hok I.bare
theorem Inv.call {g':Array GenState} {t':Nat} {d':Drawn} {ch:List Addr} (I:Inv X pins σ H s) (u:Un (frs X.stack) ch H H' s.heap h') (hok:HOk X.prog X.w H' h') (hg:AllBare g')
  (hch:∀ b∈ch,(b∈X.ex\/X.s₀.heap.objs.size<=b)/\b≠X.env.locals/\(∀ x c,X.env.cells.lookup x=some c->c≠b)/\∀ p∈X.pn ++ pins,p.1≠b) :
  Inv X pins σ H' { s with heap:=h',gens:=g',drawn:=d',toks:=t' }:=by
 obtain ⟨m,⟨o,es,ep,ho,r⟩,_⟩:=id I.loc;obtain ⟨sl,hL⟩:=u.any ho I.free λ z=>(hch _ z).2.1 rfl;exact I.step (ch:=ch) hch (λ b o hL hb hc e n=>u.keep b o e n (λ z=>(List.mem_cons.mp (I.stkSub b z)).elim hL hb) hc) (λ b o _ _ hc e n=>u.any e n hc) (λ b o hc e n=>u.free b o e n hc) (λ b o hc e=>u.there b o e hc) u.tups u.frzs u.tbls (λ m' hm=>by
  obtain ⟨o',es',ep',ho',r'⟩:=hm;rw [ho] at ho';cases ho';exact ⟨_,es',ep',hL,r'⟩) hok hg
theorem Inv.turned {t':Nat} {it:Addr} (I:Inv X pins σ H s) (k:∀ b o,b≠it->s.heap.get? b=some o->h'.get? b=some o) (hn:H it=none) (hL:it≠X.env.locals)
  (h1:it∈X.ex\/X.s₀.heap.objs.size<=it) (h2:∀ x c,X.env.cells.lookup x=some c->c≠it) (h3:∀ p∈X.pn ++ pins,p.1≠it):Inv X pins σ H { s with heap:=h',toks:=t' }:=by
 have nit:∀ b u,H b=some u->b≠it:=λ b u e z=>by rw [z,hn] at e;cases e
 refine I.step (g':=s.gens) (d':=s.drawn) (ch:=[it]) (λ b hb=>?_) (λ b o _ _ hc e _=>k b o (λ z=>hc (by simp [z])) e) (λ b o _ _ hc e _=>⟨o.slots,k b o (λ z=>hc (by simp [z])) e⟩) (λ _ _ _ _ n=>n)
  (λ b o hc e=>⟨o,k b o (λ z=>hc (by simp [z])) e⟩) (λ _ _ e=>e) (λ _ _ _ e=>e) (λ b ps e=>⟨#[],by rw [e];simp⟩) (λ m hm=>?_) (λ b u e=>?_) I.bare
 ·have e:b=it:=by simpa using hb
  subst e;exact ⟨h1,hL,h2,h3⟩
 ·obtain ⟨o,es,ep,ho,r⟩:=hm;exact ⟨o,es,ep,k _ o (Ne.symm hL) ho,r⟩
 ·refine (I.hok b u e).stay (λ c v hc q=>k c v ?_ q) (λ _ q=>q) λ _ _ q=>q;rcases hc with z|z
  ·rw [z];exact nit b u e
  ·exact nit c _ z
theorem Inv.tok (I:Inv X pins σ H s) (t:Nat):Inv X pins σ H { s with toks:=t }:=I.un (h':=s.heap) (t':=t) Un.refl I.hok
theorem Inv.kept {t':Nat} (I:Inv X pins σ H s) (k:∀ b u,s.heap.get? b=some u->h'.get? b=some u):Inv X pins σ H { s with heap:=h',toks:=t' }:=I.un (Un.kept k) (I.hok.kept k)
theorem Inv.laid {a:Addr} {o:HO} {t':Nat} (I:Inv X pins σ H s) (k:∀ b u,s.heap.get? b=some u->h'.get? b=some u) (hp:s.heap.objs.size<=a) (new:ObjOk X.prog X.w (upd H a o) h' a o) :
  Inv X pins σ (upd H a o) { s with heap:=h',toks:=t' }:=I.un (Un.laid k hp (I.hok.fresh hp)) (I.hok.laid k hp new)
theorem Inv.write {x e:Addr} {o:HO} {t':Nat} (I:Inv X pins σ H s) (mu:Mut (H x)) (he:e=x\/H e=some (.own x)) (k:∀ b u,b≠e->s.heap.get? b=some u->h'.get? b=some u) (heo:∃ u,h'.get? e=some u)
  (new:ObjOk X.prog X.w (upd H x o) h' x o):Inv X pins σ (upd H x o) { s with heap:=h',toks:=t' }:=I.un (Un.write mu he k heo) (I.hok.write mu he k heo new)
theorem Inv.pins_of {pins':List (Addr × Obj)} (I:Inv X pins σ H s) (h:∀ p∈pins',s.heap.get? p.1=some p.2/\H p.1=none/\p.1≠X.env.locals/\p.1 ∉ X.fs/\∀ v,p.2.data≠.cell v):Inv X pins' σ H s :=
 ⟨I.ok,I.os,I.bare,I.base,I.loc,I.cell,I.free,I.freeC,λ p hp=>(List.mem_append.mp hp).elim (λ z=>I.pin p (mem_append_left _ z)) (h p),I.hok,I.len⟩
theorem JW {N:List Str} (hN:N.Nodup) {i j:Nat} {x:Str} (a:N[i]?=some x) (b:N[j]?=some x):i=j:=by
 obtain ⟨h1,e1⟩:=List.getElem?_eq_some_iff.mp a;obtain ⟨h2,e2⟩:=List.getElem?_eq_some_iff.mp b;exact (List.getElem_inj hN).mp (e1.trans e2.symm)
theorem X0 {M:Model} {A:Around} {E:Value->Shared->Prop} {i:Nat} {x:Str} {v:V} {u:Value} {Q:Unit->Shared->Prop} (I:Inv X pins σ H s) (hN:X.N.Nodup) (hi:X.N[i]?=some x) (hx:Loc X.env.scope x) (r:RelV v u)
  (h:∀ s',Inv X pins (σ.set i (some v)) H s'->(∃ a,Heap.SameBut a s.heap s'.heap/\(a=X.env.locals\/X.env.cells.lookup x=some a))->Q () s') (hf:X.fn x=true\/X.env.scope.names.lookup x=some .local:=by walk_at "p"):wpAny M A (storeName X.env x u) Q E s:=by
 obtain ⟨m,hn,hl⟩:=id I.loc;have hcls:(X.env.scope.kind == .class || (X.env.scope.kind == .module && X.env.locals != X.env.globals))=false:=by rw [I.ok.kind];rfl
 have hiσ:i < σ.length:=by rw [I.len];exact (List.getElem?_eq_some_iff.mp hi).1
 have cne:=I.cne;have tracked:∀ {a:Addr} {h':Heap},(∃ o,s.heap.get? a=some o/\H a=none)->Heap.SameBut a s.heap h'->HOk X.prog X.w H h':=λ {a h'} ha hs b ob e=>by
  obtain ⟨_,_,hfree⟩:=ha;refine (I.hok b ob e).stay (λ c w' hc q=>(hs.2 c ?_).trans q) (λ _ q=>q) λ _ _ q=>q;rintro rfl;rcases hc with rfl|hc
  ·rw [hfree] at e;cases e
  ·rw [hfree] at hc;cases hc
 rcases hx with hk|hk
 ·refine wpAny_storeName_local hk hn (λ h' hn' hs=>?_) hcls;obtain ⟨oL,_,_,hoL,_⟩:=id hn;refine h _ ⟨I.ok,I.os,I.bare,⟨λ b o e n hb hx=>?_,λ b o e n hb hx=>?_,I.base.free,λ b o e hx=>?_,I.base.tups,I.base.frzs,I.base.tbls⟩,⟨_,hn',λ j y v' e1 e2 e3=>?_⟩,λ y c e=>?_,I.free,I.freeC,λ p hp=>?_,tracked ⟨oL,hoL,I.free⟩ hs,by simpa using I.len⟩ ⟨_,hs,.inl rfl⟩
  ·exact (hs.2 b (Nat.ne_of_lt (Nat.lt_of_lt_of_le (Heap.lt_size e) I.ok.above))).trans (I.base.keep b o e n hb hx)
  ·obtain ⟨sl,e1⟩:=I.base.slot b o e n hb hx;exact ⟨sl,(hs.2 b (Nat.ne_of_lt (Nat.lt_of_lt_of_le (Heap.lt_size e) I.ok.above))).trans e1⟩
  ·obtain ⟨o',e1⟩:=I.base.there b o e hx;exact ⟨o',(hs.2 b (Nat.ne_of_lt (Nat.lt_of_lt_of_le (Heap.lt_size e) I.ok.above))).trans e1⟩
  ·by_cases hj:j=i
   ·subst hj;rw [hi] at e1;cases e1;rw [getElem?_set_self hiσ] at e2;cases e2;exact ⟨u,r,.inl ⟨hk,by simp⟩⟩
   ·rw [getElem?_set_ne (Ne.symm hj)] at e2;obtain ⟨u',r',q⟩:=hl j y v' e1 e2 e3;refine ⟨u',r',?_⟩;rcases q with ⟨k,e⟩|⟨k,c,e,z⟩
    ·refine .inl ⟨k,?_⟩;have:y≠x:=λ e=>hj (JW hN e1 (e ▸ hi));simp [this,e]
    ·exact .inr ⟨k,c,e,z.sameBut hs (cne y c e)⟩
  ·obtain ⟨w',z⟩:=I.cell y c e;exact ⟨w',z.sameBut hs (cne y c e)⟩
  ·obtain ⟨e,n,ne,nf,d⟩:=I.pin p hp;exact ⟨(hs.2 p.1 ne).trans e,n,ne,nf,d⟩
 ·have hfn:X.fn x=true:=by
   rcases hf with z|z
   ·exact z
   ·rw [z] at hk;cases hk
  obtain ⟨c,hc⟩:=I.ok.has x (.inl hk);obtain ⟨w',z⟩:=I.cell x c hc;refine wpAny_storeName_cell I.ok.kind hk hc z (λ h' hc' hs=>?_);obtain ⟨oc,hoc,hocd⟩:=id z;refine h { s with heap:=h' } ⟨I.ok,I.os,I.bare,⟨λ b o e n hb hx=>?_,λ b o e n hb hx=>?_,I.base.free,λ b o e hx=>?_,I.base.tups,I.base.frzs,I.base.tbls⟩,⟨m,hn.sameBut hs (Ne.symm (cne x c hc)),λ j y v' e1 e2 e3=>?_⟩,λ y c' e=>?_,I.free,I.freeC,λ p hp=>?_,tracked ⟨oc,hoc,I.freeC x c hc⟩ hs,by simpa using I.len⟩ ⟨c,hs,.inr hc⟩
  ·exact (hs.2 b (Nat.ne_of_lt (Nat.lt_of_lt_of_le (Heap.lt_size e) (I.ok.cab x c hfn hc)))).trans (I.base.keep b o e n hb hx)
  ·obtain ⟨sl,e1⟩:=I.base.slot b o e n hb hx;exact ⟨sl,(hs.2 b (Nat.ne_of_lt (Nat.lt_of_lt_of_le (Heap.lt_size e) (I.ok.cab x c hfn hc)))).trans e1⟩
  ·obtain ⟨o',e1⟩:=I.base.there b o e hx;exact ⟨o',(hs.2 b (Nat.ne_of_lt (Nat.lt_of_lt_of_le (Heap.lt_size e) (I.ok.cab x c hfn hc)))).trans e1⟩
  ·by_cases hj:j=i
   ·subst hj;rw [hi] at e1;cases e1;rw [getElem?_set_self hiσ] at e2;cases e2;exact ⟨u,r,.inr ⟨.inl hk,c,hc,hc'⟩⟩
   ·rw [getElem?_set_ne (Ne.symm hj)] at e2;obtain ⟨u',r',q⟩:=hl j y v' e1 e2 e3;refine ⟨u',r',?_⟩;rcases q with q|⟨k,c',e,z'⟩
    ·exact .inl q
    ·refine .inr ⟨k,c',e,z'.sameBut hs ?_⟩;rintro rfl;exact hj (JW hN e1 (I.ok.inj _ _ _ e hc ▸ hi))
  ·by_cases hcc:c'=c
   ·subst hcc;exact ⟨_,hc'⟩
   ·obtain ⟨w2,z2⟩:=I.cell y c' e;exact ⟨w2,z2.sameBut hs hcc⟩
  ·obtain ⟨e,n,ne,nf,d⟩:=I.pin p hp;refine ⟨(hs.2 p.1 ?_).trans e,n,ne,nf,d⟩;intro q;rw [q,hoc] at e;have q':oc=p.2:=Option.some.inj e;exact d w' (by rw [<- q'];exact hocd)
theorem Jp {M:Model} {A:Around} {E:Value->Shared->Prop} {i:Nat} {x:Str} {v:V} {u:Value} {Q:Unit->Shared->Prop} (I:Inv X pins σ H s) (hN:X.N.Nodup) (hi:X.N[i]?=some x) (hx:Loc X.env.scope x) (r:RelV v u)
  (h:∀ s',Inv X pins (σ.set i (some v)) H s'->Q () s') (hf:X.fn x=true\/X.env.scope.names.lookup x=some .local:=by walk_at "p"):wpAny M A (storeName X.env x u) Q E s :=
 X0 I hN hi hx r (λ s' I' _=>h s' I') hf
theorem Inv.call' {s':Shared} {ch:List Addr} (I:Inv X pins σ H s) (ho:s'.os=s.os) (u:Un (frs X.stack) ch H H' s.heap s'.heap) (hok:HOk X.prog X.w H' s'.heap) (hg:AllBare s'.gens)
  (hch:∀ b∈ch,(b∈X.ex\/X.s₀.heap.objs.size<=b)/\b≠X.env.locals/\(∀ x c,X.env.cells.lookup x=some c->c≠b)/\∀ p∈X.pn ++ pins,p.1≠b):Inv X pins σ H' s':=by
 obtain ⟨h',g',d',t',o'⟩:=s';have e:o'=s.os:=ho;subst e;exact I.call (g':=g') (t':=t') (d':=d') u hok hg hch
end
abbrev XK:=Value->Option Addr->Hp->Prop
abbrev St:=List (Option V)
abbrev VK:=V->Hp->Prop
abbrev TE:=St->Hp->VK->Prop
abbrev TT:=St->Hp->(Bool->Hp->Prop)->Prop
abbrev TA:=St->Hp->(List V->Hp->Prop)->Prop
structure Ends where
 nx:St->Hp->Prop
 rt:VK
 bk:St->Hp->Prop:=λ _ _=>False
 ct:St->Hp->Prop:=λ _ _=>False
abbrev TS:=Ends->St->Hp->Prop
def EP (X:Cx) (pins:List (Addr × Obj)) (σ:St) (Q:VK) (u:Value) (s':Shared):Prop:=∃ v H',Inv X pins σ H' s'/\RelV v u/\Q v H'
def TP (X:Cx) (pins:List (Addr × Obj)) (σ:St) (Q:Bool->Hp->Prop) (b:Bool) (s':Shared):Prop:=∃ H',Inv X pins σ H' s'/\Q b H'
def AP (X:Cx) (pins:List (Addr × Obj)) (σ:St) (Q:List V->Hp->Prop) (us:List Value) (s':Shared):Prop:=∃ vs H',Inv X pins σ H' s'/\Vals vs us/\Q vs H'
def SP (X:Cx) (pins:List (Addr × Obj)) (D:Ends) (f:Flow) (s':Shared):Prop :=
 match f with
 | .next=>∃ σ' H',Inv X pins σ' H' s'/\D.nx σ' H'
 | .brk=>∃ σ' H',Inv X pins σ' H' s'/\D.bk σ' H'
 | .cont=>∃ σ' H',Inv X pins σ' H' s'/\D.ct σ' H'
 | .ret u=>∃ v σ' H',Inv X pins σ' H' s'/\RelV v u/\D.rt v H'
def PE (X:Cx) (e:Expr) (t:TE):Prop :=
 ∀ (pins:List (Addr × Obj)) (s:Shared) (σ:St) (H:Hp) (Q:VK),Inv X pins σ H s->t σ H Q->wpAny (model X.prog X.w) X.A (eval e X.env) (EP X pins σ Q) X.xe s
def PT (X:Cx) (e:Expr) (t:TT):Prop :=
 ∀ (pins:List (Addr × Obj)) (s:Shared) (σ:St) (H:Hp) (Q:Bool->Hp->Prop),Inv X pins σ H s->t σ H Q->wpAny (model X.prog X.w) X.A (isTrue e X.env (eval e X.env)) (TP X pins σ Q) X.xe s
def PW (X:Cx) (e:Expr) (t:TT):Prop :=
 ∀ (whole:Sem Value) (pins:List (Addr × Obj)) (s:Shared) (σ:St) (H:Hp) (Q:Bool->Hp->Prop),Inv X pins σ H s->t σ H Q->wpAny (model X.prog X.w) X.A (isTrue e X.env whole) (TP X pins σ Q) X.xe s
theorem PW.pt {X:Cx} {e:Expr} {t:TT} (h:PW X e t):PT X e t:=h _
def PA (X:Cx) (es:List Expr) (t:TA):Prop :=
 ∀ (pos:Pos) (pins:List (Addr × Obj)) (s:Shared) (σ:St) (H:Hp) (Q:List V->Hp->Prop),Inv X pins σ H s->t σ H Q->wpAny (model X.prog X.w) X.A (spliced (backTo pos (starEach es X.env))) (AP X pins σ Q) X.xe s
def PS (X:Cx) (st:Stmt) (t:TS):Prop :=
 ∀ (pins:List (Addr × Obj)) (s:Shared) (σ:St) (H:Hp) (D:Ends),Inv X pins σ H s->t D σ H->wpAny (model X.prog X.w) X.A (exec st X.env) (SP X pins D) X.xe s
def PSs (X:Cx) (st:List Stmt) (t:TS):Prop :=
 ∀ (pins:List (Addr × Obj)) (s:Shared) (σ:St) (H:Hp) (D:Ends),Inv X pins σ H s->t D σ H->wpAny (model X.prog X.w) X.A (execs st X.env) (SP X pins D) X.xe s
theorem thn {α:Type} {t:Sem α} {Q Q':α->Shared->Prop} {M:Model} {A:Around} {E:Value->Shared->Prop} {s:Shared} (h:wpAny M A t Q E s) (hQ:∀ a s,Q a s->Q' a s):wpAny M A t Q' E s:=wpAny_mono h hQ λ _ _ x=>x
theorem qp {X:Cx} {pins:List (Addr × Obj)} {σ:St} {Q:VK} {t:Sem Value} {Q':Value->Shared->Prop} {M:Model} {A:Around} {E:Value->Shared->Prop} {s:Shared} (h:wpAny M A t (EP X pins σ Q) E s) (k:∀ u s1 x H1,Inv X pins σ H1 s1->RelV x u->Q x H1->Q' u s1):wpAny M A t Q' E s:=thn h λ u s1 e=>by
 obtain ⟨x,H1,I1,r,q⟩:=e;exact k u s1 x H1 I1 r q
theorem vz {X:Cx} {pins:List (Addr × Obj)} {σ:St} {Q:List V->Hp->Prop} {t:Sem (List Value)} {Q':List Value->Shared->Prop} {M:Model} {A:Around} {E:Value->Shared->Prop} {s:Shared} (h:wpAny M A t (AP X pins σ Q) E s) (k:∀ us s1 vs H1,Inv X pins σ H1 s1->Vals vs us->Q vs H1->Q' us s1):wpAny M A t Q' E s:=thn h λ u s1 e=>by
 obtain ⟨x,H1,I1,r,q⟩:=e;exact k u s1 x H1 I1 r q
end L2
namespace L2
open PySem PySem.Spec PyProof.Rows
section
variable {X:Cx}
def bq:V->(Bool->Prop)->Prop
 | .bl k,P=>P k
 | _,_=>False
theorem QJ {x:V} {P:Bool->Prop} (h:bq x P):∃ k,x=.bl k/\P k:=by
 cases x <;> first|exact ⟨_,rfl,h⟩|exact False.elim h
def iq:V->(Int->Prop)->Prop
 | .int i,P=>P i
 | _,_=>False
theorem ZH {x:V} {P:Int->Prop} (h:iq x P):∃ i,x=.int i/\P i:=by
 cases x <;> first|exact ⟨_,rfl,h⟩|exact False.elim h
theorem Xh {x y:V} {P:Int->Int->Prop} (h:iq x λ i=>iq y λ j=>P i j):∃ i j,x=.int i/\y=.int j/\P i j:=by
 obtain ⟨i,e,h⟩:=ZH h;obtain ⟨j,e2,h⟩:=ZH h;exact ⟨i,j,e,e2,h⟩
def nq:V->Prop->Prop
 | .non,P=>P
 | _,_=>False
theorem zb6 {x:V} {P:Prop} (h:nq x P):x=.non/\P:=by
 cases x <;> first|exact ⟨rfl,h⟩|exact False.elim h
def lq:List V->(V->Prop)->Prop
 | [v],P=>P v
 | _,_=>False
theorem zek:∀ {xs:List V} {P:V->Prop},lq xs P->∃ v,xs=[v]/\P v
 | [_],_,h=>⟨_,rfl,h⟩
 | [],_,h=>h.elim
 | _ :: _ :: _,_,h=>h.elim
def vq:Option (Option V)->(V->Prop)->Prop
 | some (some v),P=>P v
 | _,_=>False
theorem zgX:∀ {o:Option (Option V)} {P:V->Prop},vq o P->∃ v,o=some (some v)/\P v
 | some (some v),_,h=>⟨v,rfl,h⟩
 | some none,_,h=>h.elim
 | none,_,h=>h.elim
def szl (xs:List V) (P:Prop):Prop:=cond (Nat.ble xs.length 12) P False
theorem zaP {xs:List V} {P:Prop} (h:szl xs P):xs.length<=sizeLine/\P:=by
 unfold szl at h;cases e:Nat.ble xs.length 12 with
 | true=>rw [e] at h;exact ⟨Nat.le_trans (Nat.le_of_ble_eq_true e) (by decide),h⟩
 | false=>rw [e] at h;exact h.elim
def tVar (i:Nat):TE:=λ σ H Q=>vq σ[i]? λ v=>Q v H
def tC (v:V):TE:=λ _ H Q=>Q v H
theorem zgm {i:Nat} {x:Str} {pos:Pos} (hN:X.N[i]?=some x) (hv:Vis X.env.scope x) (hd:(x == ("__debug__":Str))=false:=by decide) (hcd:(x == ("__classdict__":Str))=false:=by decide):PE X (.Name x pos) (tVar i):=by
 intro pins s σ H Q I h;obtain ⟨v,e,h⟩:=zgX h;obtain ⟨m,hn,hl⟩:=I.loc;obtain ⟨u,r,l⟩:=hl i x v hN e hv;have fin:EP X pins σ Q u s:=⟨v,H,I,r,h⟩;rcases l with ⟨hk,hm⟩|⟨hk,c,hc,hcell⟩
 ·exact wpAny_Name (wpAny_loadName_local I.ok.kind hk hn hm fin) hd
 ·rcases hk with hk|hk
  ·exact wpAny_Name (wpAny_loadName_cell I.ok.kind hk hc hcell fin) hd
  ·exact wpAny_Name (wpAny_loadName_free I.ok.kind hk hc hcell fin hcd) hd
theorem zd {i j pos}:PE X (.Constant (.int i) j pos) (tC (.int i)):=λ _ _ _ H _ I h=>wpAny_Constant_int ⟨.int i,H,I.tok _,⟨_,rfl⟩,h⟩
theorem zhb {b j pos}:PE X (.Constant (.bool b) j pos) (tC (.bl b)):=λ _ _ _ H _ I h=>Constant_bool ⟨.bl b,H,I,rfl,h⟩
theorem zy {j pos}:PE X (.Constant .none j pos) (tC .non):=λ _ _ _ H _ I h=>Constant_none ⟨.non,H,I,rfl,h⟩
theorem xi {x j pos}:PE X (.Constant (.str x) j pos) (tC (.str x)):=λ _ _ _ H _ I h=>Calls.Constant_str ⟨.str x,H,I.tok _,⟨_,rfl⟩,h⟩
def Gl (X:Cx) (x:Str):Prop:=X.env.kindOf x=some .globalImplicit
theorem xa {E:Value->Shared->Prop} {pins:List (Addr × Obj)} {s:Shared} {σ:St} {H:Hp} {x:Str} {u:Value} {pos:Pos} {Q:Value->Shared->Prop} (I:Inv X pins σ H s) (hg:Gl X x) (hm:X.mg x=some u) (h:Q u s)
  (hd:(x == ("__debug__":Str))=false:=by decide):wpAny (model X.prog X.w) X.A (eval (.Name x pos) X.env) Q E s :=
 Calls.Name_function_global I.ok.kind hg (Calls.loadGlobal_global (by rw [I.ok.glob];exact I.mod.glob.keeps I.bk) hm h) hd
theorem wS {E:Value->Shared->Prop} {pins:List (Addr × Obj)} {s:Shared} {σ:St} {H:Hp} {x:Str} {u:Value} {pos:Pos} {Q:Value->Shared->Prop} (I:Inv X pins σ H s) (hg:Gl X x) (hm:X.mg x=none) (hv:bootBuiltins x=some u) (h:Q u s)
  (hn:x≠"__name__":=by decide) (hd:(x == ("__debug__":Str))=false:=by decide):wpAny (model X.prog X.w) X.A (eval (.Name x pos) X.env) Q E s:=by
 obtain ⟨mb,h1,h2⟩:=I.mod.blt;exact Calls.Name_function_global I.ok.kind hg (Calls.loadGlobal_builtin (by rw [I.ok.glob];exact I.mod.glob.keeps I.bk) hm (by rw [I.ok.blt];exact h1.keeps I.bk) ((h2 x hn).trans hv) h) hd
variable {a b:Expr} {ta tb:TE} {pos:Pos}
def PC (X:Cx) (op:CmpOp) (a b:Expr) (t:TE):Prop :=
 ∀ (pins:List (Addr × Obj)) (s:Shared) (σ:St) (H:Hp) (Q:VK),Inv X pins σ H s->t σ H Q ->
  wpAny (model X.prog X.w) X.A (eval a X.env) (λ v s₁=>wpAny (model X.prog X.w) X.A (eval b X.env) (λ u s₂=>wpAny (model X.prog X.w) X.A (compareOp op v u) (EP X pins σ Q) X.xe s₂) X.xe s₁) X.xe s
theorem nobehind (b:Expr) {op:CmpOp} (h:op≠.In) (h2:op≠.NotIn):behindInMarks op b=false:=by
 have e1:(op == CmpOp.In)=false:=by cases op <;> first|rfl|exact absurd rfl h
 have e2:(op == CmpOp.NotIn)=false:=by cases op <;> first|rfl|exact absurd rfl h2
 cases b <;> simp [behindInMarks,e1,e2]
def tB (t:TE):TT:=λ σ H Q=>t σ H λ x H1=>bq x λ c=>Q c H1
theorem zgi {op:CmpOp} {t:TE} (h:PC X op a b t) (h1:behindInMarks op b=false:=by walk_at "q"):PT X (.Compare a [op] [b] pos) (tB t):=by
 intro pins s σ H Q I hw;refine wpAny_isTrue_Compare1 (thn (h pins s σ H _ I hw) λ v s1 h1=>thn h1 λ u s2 h2=>thn h2 λ c s3 ⟨x,H1,I1,r1,q1⟩=>?_) h1;obtain ⟨d,rfl,q⟩:=QJ q1;cases r1;exact wpAny_truthy_bool ⟨H1,I1,q⟩
variable {tA tB':TT} {rest:List Expr}
def tAnd (t u:TT):TT:=λ σ H Q=>t σ H λ c H1=>if c=true then u σ H1 Q else Q false H1
def tOr (t u:TT):TT:=λ σ H Q=>t σ H λ c H1=>if c=true then Q true H1 else u σ H1 Q
def tNot (t:TT):TT:=λ σ H Q=>t σ H λ c H1=>Q (!c) H1
theorem pw_and1 (ha:PT X a tA):PW X (.BoolOp .And [a] pos) tA:=by
 intro wh pins s σ H Q I h;refine isTrue_and (thn (ha pins s σ H Q I h) λ c s1 e=>?_);cases c with
 | true=>exact isTrue_and_nil e
 | false=>exact e
theorem pw_or1 (ha:PT X a tA):PW X (.BoolOp .Or [a] pos) tA:=by
 intro wh pins s σ H Q I h;refine isTrue_or (thn (ha pins s σ H Q I h) λ c s1 e=>?_);cases c with
 | false=>exact isTrue_or_nil e
 | true=>exact e
theorem pw_and (ha:PT X a tA) (hb:PW X (.BoolOp .And (b :: rest) pos) tB'):PW X (.BoolOp .And (a :: b :: rest) pos) (tAnd tA tB'):=by
 intro wh pins s σ H Q I h;refine isTrue_and (thn (ha pins s σ H _ I h) λ c s1 ⟨H1,I1,q1⟩=>?_);cases c with
 | true=>exact hb wh pins s1 σ H1 Q I1 q1
 | false=>exact ⟨H1,I1,q1⟩
theorem pw_or (ha:PT X a tA) (hb:PW X (.BoolOp .Or (b :: rest) pos) tB'):PW X (.BoolOp .Or (a :: b :: rest) pos) (tOr tA tB'):=by
 intro wh pins s σ H Q I h;refine isTrue_or (thn (ha pins s σ H _ I h) λ c s1 ⟨H1,I1,q1⟩=>?_);cases c with
 | true=>exact ⟨H1,I1,q1⟩
 | false=>exact hb wh pins s1 σ H1 Q I1 q1
theorem jQ (ha:PT X a tA):PT X (.UnaryOp .Not a pos) (tNot tA):=by
 intro pins s σ H Q I h;exact isTrue_not (ha pins s σ H (λ c H1=>Q (!c) H1) I h)
def tAndV (ta tb:TE):TE:=λ σ H Q=>ta σ H λ x H1=>bq x λ c=>if c=true then tb σ H1 Q else Q (.bl false) H1
def tOrV (ta tb:TE):TE:=λ σ H Q=>ta σ H λ x H1=>bq x λ c=>if c=true then Q (.bl true) H1 else tb σ H1 Q
def tNotV (ta:TE):TE:=λ σ H Q=>ta σ H λ x H1=>bq x λ c=>Q (.bl (!c)) H1
theorem zba {op} {t:TE} (h:PE X a t):PE X (.BoolOp op [a] pos) t:=λ pins s σ H Q I hw=>BoolOp_one (h pins s σ H Q I hw)
theorem WV (ha:PE X a ta) (hb:PE X (.BoolOp .And (b :: rest) pos) tb):PE X (.BoolOp .And (a :: b :: rest) pos) (tAndV ta tb):=by
 intro pins s σ H Q I h;refine BoolOp_and (qp (ha pins s σ H _ I h) λ v s1 x H1 I1 r1 q1=>?_);obtain ⟨c,rfl,q1⟩:=QJ q1;cases r1;refine wpAny_truthy_bool ?_;cases c with
 | true=>exact hb pins s1 σ H1 Q I1 q1
 | false=>exact ⟨.bl false,H1,I1,rfl,q1⟩
theorem zg9 (ha:PE X a ta) (hb:PE X (.BoolOp .Or (b :: rest) pos) tb):PE X (.BoolOp .Or (a :: b :: rest) pos) (tOrV ta tb):=by
 intro pins s σ H Q I h;refine BoolOp_or (qp (ha pins s σ H _ I h) λ v s1 x H1 I1 r1 q1=>?_);obtain ⟨c,rfl,q1⟩:=QJ q1;cases r1;refine wpAny_truthy_bool ?_;cases c with
 | false=>exact hb pins s1 σ H1 Q I1 q1
 | true=>exact ⟨.bl true,H1,I1,rfl,q1⟩
theorem zd6 (ha:PE X a ta):PE X (.UnaryOp .Not a pos) (tNotV ta):=by
 intro pins s σ H Q I h;refine UnaryOp_ (qp (ha pins s σ H _ I h) λ v s1 x H1 I1 r1 q1=>?_);obtain ⟨c,rfl,q1⟩:=QJ q1;cases r1;exact not_of (wpAny_truthy_bool ⟨.bl (!c),H1,I1,rfl,q1⟩)
def tIf (t:TT) (ta tb:TE):TE:=λ σ H Q=>t σ H λ c H1=>if c=true then ta σ H1 Q else tb σ H1 Q
theorem xk {c:Expr} (hc:PT X c tA) (ha:PE X a ta) (hb:PE X b tb):PE X (.IfExp c a b pos) (tIf tA ta tb):=by
 intro pins s σ H Q I h;refine wpAny_IfExp (thn (hc pins s σ H _ I h) λ d s1 ⟨H1,I1,q1⟩=>?_);cases d with
 | true=>exact ha pins s1 σ H1 Q I1 q1
 | false=>exact hb pins s1 σ H1 Q I1 q1
end
end L2
namespace L2
open PySem PySem.Spec PyProof.Rows
def SqL (K:PySem.W.Frag) (H:Hp) (a:Addr) (xs:List V):Prop :=
 Rd H a (.lst xs) \/
  ∃ (o:Obj) (its:Array Value) (n:Nat),K.lookup a=some o/\o.cls=.type "list"/\o.dict=none/\o.data=.seq its n/\its.size<=sizeLine/\Vals xs its.toList
def SqT (K:PySem.W.Frag) (H:Hp) (a:Addr) (xs:List V):Prop :=
 Rd H a (.tup xs) \/
  ∃ (o:Obj) (its:Array Value) (n:Nat),K.lookup a=some o/\o.cls=.type "tuple"/\o.data=.seq its n/\its.size<=sizeLine/\Vals xs its.toList
def zhL:Value->Option V
 | .none=>some .non
 | .bool b=>some (.bl b)
 | .int i _=>some (.int i)
 | .str x _=>some (.str x)
 | .bytes b _=>some (.byt b)
 | .float b _=>some (.flt b)
 | .ref a=>some (.ref a)
 | .type n=>some (.ty n)
 | _=>none
theorem RelV.abs {x:V} {u:Value} (r:RelV x u):zhL u=some x:=by
 cases x with
 | non=>cases r;rfl
 | bl _=>cases r;rfl
 | int _=>obtain ⟨t,rfl⟩:=r;rfl
 | str _=>obtain ⟨t,rfl⟩:=r;rfl
 | byt _=>obtain ⟨t,rfl⟩:=r;rfl
 | flt _=>obtain ⟨t,rfl⟩:=r;rfl
 | ref _=>cases r;rfl
 | ty _=>cases r;rfl
theorem RelV.inj {x y:V} {u:Value} (r:RelV x u) (q:RelV y u):x=y:=Option.some.inj (r.abs.symm.trans q.abs)
theorem Vals.inj:∀ {xs ys:List V} {us:List Value},Vals xs us->Vals ys us->xs=ys
 | _,_,_,.nil,.nil=>rfl
 | _,_,_,.cons r t,.cons r' t'=>by rw [r.inj r',Vals.inj t t']
section
variable {X:Cx} {pins:List (Addr × Obj)} {σ:St} {H:Hp} {s:Shared} {a:Addr} {xs ys:List V}
theorem SqL.of {K:PySem.W.Frag} (h:H a=some (.lst xs)):SqL K H a xs:=.inl (.inl h)
theorem SqT.of {K:PySem.W.Frag} (h:H a=some (.tup xs)):SqT K H a xs:=.inl (.inl h)
theorem Inv.list (I:Inv X pins σ H s) (h:SqL X.K H a xs):∃ its:List Value,Vals xs its/\PlainL s.heap a its.toArray/\xs.length<=sizeLine:=by
 rcases h with h|⟨o,its,n,hk,hc,hd,hs,hz,r⟩
 ·obtain ⟨z,its,n,r,e⟩:=h.ok I.hok;exact ⟨its,r,⟨_,n,e,rfl,rfl,rfl⟩,z⟩
 ·refine ⟨its.toList,r,⟨o,n,I.kIn a o hk,hc,hd,by simpa using hs⟩,?_⟩;have e:=r.length;simp only [Array.length_toList] at e;omega
theorem Inv.tuple (I:Inv X pins σ H s) (h:SqT X.K H a xs):∃ its:List Value,Vals xs its/\IsTup s.heap a its.toArray/\xs.length<=sizeLine:=by
 rcases h with h|⟨o,its,n,hk,hc,hs,hz,r⟩
 ·obtain ⟨z,its,r,p⟩:=h.ok I.hok;exact ⟨its,r,p,z⟩
 ·refine ⟨its.toList,r,⟨o,I.kIn a o hk,hc,n,by simpa using hs⟩,?_⟩;have e:=r.length;simp only [Array.length_toList] at e;omega
theorem Inv.list_inj (I:Inv X pins σ H s) (h:SqL X.K H a xs) (h':SqL X.K H a ys):xs=ys:=by
 obtain ⟨its,r,⟨o,n,e,_,_,d⟩,_⟩:=I.list h;obtain ⟨its',r',⟨o',n',e',_,_,d'⟩,_⟩:=I.list h';rw [e] at e';cases e';rw [d] at d';injection d' with d1 _
 have:its=its':=by simpa using congrArg Array.toList d1
 subst this;exact r.inj r'
theorem Inv.tuple_inj (I:Inv X pins σ H s) (h:SqT X.K H a xs) (h':SqT X.K H a ys):xs=ys:=by
 obtain ⟨its,r,⟨o,e,_,n,d⟩,_⟩:=I.tuple h;obtain ⟨its',r',⟨o',e',_,n',d'⟩,_⟩:=I.tuple h';rw [e] at e';cases e';rw [d] at d';injection d' with d1 _
 have:its=its':=by simpa using congrArg Array.toList d1
 subst this;exact r.inj r'
end
abbrev Cx.wish (X:Cx) (E:Value->Shared->Prop):Cx:={ X with xe:=E }
abbrev Cx.nox (X:Cx):Cx:=X.wish λ _ _=>False
theorem Cx.Ok.wish {X:Cx} (ok:X.Ok) (E:Value->Shared->Prop):(X.wish E).Ok :=
 ⟨ok.mod,ok.kind,ok.glob,ok.blt,ok.above,ok.inj,ok.has,ok.cab,ok.hd,ok.frames,ok.stk,ok.exf,ok.bs,ok.bsz,ok.noex,ok.exfs,ok.funs,ok.frf⟩
theorem Cx.Ok.unwish {X:Cx} {E:Value->Shared->Prop} (ok:(X.wish E).Ok):X.Ok :=
 ⟨ok.mod,ok.kind,ok.glob,ok.blt,ok.above,ok.inj,ok.has,ok.cab,ok.hd,ok.frames,ok.stk,ok.exf,ok.bs,ok.bsz,ok.noex,ok.exfs,ok.funs,ok.frf⟩
section
variable {X:Cx} {pins:List (Addr × Obj)} {σ:St} {H:Hp} {s:Shared} {E:Value->Shared->Prop}
theorem Inv.wish (I:Inv X pins σ H s) (E:Value->Shared->Prop):Inv (X.wish E) pins σ H s:=⟨I.ok.wish E,I.os,I.bare,I.base,I.loc,I.cell,I.free,I.freeC,I.pin,I.hok,I.len⟩
theorem Inv.unwish (I:Inv (X.wish E) pins σ H s):Inv X pins σ H s:=⟨I.ok.unwish,I.os,I.bare,I.base,I.loc,I.cell,I.free,I.freeC,I.pin,I.hok,I.len⟩
theorem SP.unwish {D:Ends} {f:Flow} {s':Shared} (h:SP (X.wish E) pins D f s'):SP X pins D f s':=by
 cases f with
 | next=>obtain ⟨σ',H',I,q⟩:=h;exact ⟨σ',H',I.unwish,q⟩
 | brk=>obtain ⟨σ',H',I,q⟩:=h;exact ⟨σ',H',I.unwish,q⟩
 | cont=>obtain ⟨σ',H',I,q⟩:=h;exact ⟨σ',H',I.unwish,q⟩
 | ret u=>obtain ⟨v,σ',H',I,r,q⟩:=h;exact ⟨v,σ',H',I.unwish,r,q⟩
theorem PE.nox {e:Expr} {t:TE} (h:PE X.nox e t):PE X e t:=λ pins s σ H Q I hw =>
 wpAny_mono (h pins s σ H Q (I.wish _) hw) (λ _ _ ⟨v,H',I',r,q⟩=>⟨v,H',I'.unwish,r,q⟩) λ _ _ z=>False.elim z
theorem PT.nox {e:Expr} {t:TT} (h:PT X.nox e t):PT X e t:=λ pins s σ H Q I hw =>
 wpAny_mono (h pins s σ H Q (I.wish _) hw) (λ _ _ ⟨H',I',q⟩=>⟨H',I'.unwish,q⟩) λ _ _ z=>False.elim z
theorem PSs.nox {st:List Stmt} {t:TS} (h:PSs X.nox st t):PSs X st t:=λ pins s σ H D I hw =>
 wpAny_mono (h pins s σ H D (I.wish _) hw) (λ _ _ q=>q.unwish) λ _ _ z=>False.elim z
end
section
variable {X:Cx} {st:Stmt} {rest:List Stmt} {t u:TS} {e:Expr} {te:TE} {pos:Pos}
def tNext:TS:=λ D σ H=>D.nx σ H
def tSeq (t u:TS):TS:=λ D σ H=>t { D with nx:=u D } σ H
theorem zp:PSs X [] tNext:=λ _ _ σ H _ I h=>wpAny_execs_nil ⟨σ,H,I,h⟩
theorem zh (h1:PS X st t) (h2:PSs X rest u):PSs X (st :: rest) (tSeq t u):=by
 intro pins s σ H D I h;refine wpAny_execs_cons (thn (h1 pins s σ H { D with nx:=u D } I h) λ f s1 q=>?_);cases f with
 | next =>
  obtain ⟨σ',H',I',q⟩:=q;exact h2 pins s1 σ' H' D I' q
 | ret v=>exact q
 | brk=>exact q
 | cont=>exact q
theorem zg (h1:PS X st t):PSs X [st] t:=by
 intro pins s σ H D I h;refine wpAny_execs_cons (thn (h1 pins s σ H D I h) λ f s1 q=>?_);cases f with
 | next=>exact wpAny_execs_nil q
 | ret v=>exact q
 | brk=>exact q
 | cont=>exact q
def tBreak:TS:=λ D σ H=>D.bk σ H
theorem zd0:PS X (.Break pos) tBreak:=λ _ _ σ H _ I h=>wpAny_Break ⟨σ,H,I,h⟩
theorem Inv.quiet {pins:List (Addr × Obj)} {σ:St} {H:Hp} {s:Shared} (I:Inv X pins σ H s):interactive X.env=false:=by simp [interactive,I.ok.kind]
def tDrop (te:TE):TS:=λ D σ H=>te σ H λ _ H1=>D.nx σ H1
theorem zx (he:PE X e te) (hs:swapsWith e none pos.line X.env=pure false:=by rfl):PS X (.Expr e pos) (tDrop te):=by
 intro pins s σ H D I h;exact wpAny_Expr_any (qp (he pins s σ H _ I h) λ v s1 x H1 I1 r1 q1=>⟨σ,H1,I1,q1⟩) I.quiet hs
def tRet (te:TE):TS:=λ D σ H=>te σ H D.rt
theorem zk (he:PE X e te):PS X (.Return (some e) pos) (tRet te):=by
 intro pins s σ H D I h;exact wpAny_Return_some (qp (he pins s σ H _ I h) λ v s1 x H1 I1 r1 q1=>⟨x,σ,H1,I1,r1,q1⟩)
def tIfS (c:TT) (t u:TS):TS:=λ D σ H=>c σ H λ b H1=>if b=true then t D σ H1 else u D σ H1
theorem zG {c:Expr} {a b:List Stmt} {tc:TT} (hc:PT X c tc) (ha:PSs X a t) (hb:PSs X b u):PS X (.If c a b pos) (tIfS tc t u):=by
 intro pins s σ H D I h;refine wpAny_If (thn (hc pins s σ H _ I h) λ d s1 ⟨H1,I1,q1⟩=>?_);cases d with
 | true=>exact ha pins s1 σ H1 D I1 q1
 | false=>exact hb pins s1 σ H1 D I1 q1
end
abbrev TG:=V->St->Hp->(St->Hp->Prop)->Prop
abbrev TGs:=List V->St->Hp->(St->Hp->Prop)->Prop
def PG (X:Cx) (target:Expr) (t:TG):Prop :=
 ∀ (pins:List (Addr × Obj)) (s:Shared) (σ:St) (H:Hp) (v:V) (u:Value) (Q:St->Hp->Prop),Inv X pins σ H s->RelV v u->t v σ H Q ->
  wpAny (model X.prog X.w) X.A (assign target X.env u) (λ _ s'=>∃ σ' H',Inv X pins σ' H' s'/\Q σ' H') X.xe s
def PGs (X:Cx) (ts:List Expr) (t:TGs):Prop :=
 ∀ (pins:List (Addr × Obj)) (s:Shared) (σ:St) (H:Hp) (vs:List V) (us:List Value) (Q:St->Hp->Prop),Inv X pins σ H s->Vals vs us->t vs σ H Q ->
  wpAny (model X.prog X.w) X.A (assignInOrder ((assignEach ts X.env).map (·.2)) us) (λ _ s'=>∃ σ' H',Inv X pins σ' H' s'/\Q σ' H') X.xe s
abbrev zeX:=V->V->V->Hp->(Hp->Prop)->Prop
def zgT (X:Cx) (t:zeX):Prop :=
 ∀ (pins:List (Addr × Obj)) (s:Shared) (σ:St) (H:Hp) (o i v:V) (ov iv u:Value) (Q:Hp->Prop),Inv X pins σ H s->RelV o ov->RelV i iv->RelV v u->t o i v H Q ->
  wpAny (model X.prog X.w) X.A (setItem ov iv u) (λ _ s'=>∃ H',Inv X pins σ H' s'/\Q H') X.xe s
abbrev TIp:=V->V->Hp->VK->Prop
def PIp (X:Cx) (op:Operator) (t:TIp):Prop :=
 ∀ (pins:List (Addr × Obj)) (s:Shared) (σ:St) (H:Hp) (x y:V) (v u:Value) (Q:VK),Inv X pins σ H s->RelV x v->RelV y u->t x y H Q ->
  wpAny (model X.prog X.w) X.A (inplaceOp op v u) (EP X pins σ Q) X.xe s
section
variable {X:Cx} {pos:Pos}
def gName (i:Nat):TG:=λ v σ H Q=>Q (σ.set i (some v)) H
theorem WU {i:Nat} {x:Str} (hN:X.N.Nodup) (hi:X.N[i]?=some x) (hx:Loc X.env.scope x) (hf:X.fn x=true\/X.env.scope.names.lookup x=some .local:=by walk_at "p"):PG X (.Name x pos) (gName i):=by
 intro pins s σ H v u Q I r h;exact wpAny_assign_Name (Jp I hN hi hx r (λ s' I'=>⟨_,H,I',h⟩) hf)
def gNil:TGs:=λ vs σ H Q=>vs=[]/\Q σ H
def gCons (t:TG) (u:TGs):TGs:=λ vs σ H Q=>∃ v r,vs=v :: r/\t v σ H λ σ' H'=>u r σ' H' Q
theorem Zv:PGs X [] gNil:=by
 intro pins s σ H vs us Q I r h;obtain ⟨e,h⟩:=h;subst e;cases r;exact assignInOrder_nil ⟨σ,H,I,h⟩
theorem qU {e:Expr} {es:List Expr} {t:TG} {u:TGs} (h1:PG X e t) (h2:PGs X es u)
  (hs:(assignEach (e :: es) X.env).map (·.2)=assign e X.env :: (assignEach es X.env).map (·.2):=by rfl):PGs X (e :: es) (gCons t u):=by
 intro pins s σ H vs us Q I r h;obtain ⟨v,vr,e1,h⟩:=h;subst e1;cases r with
 | cons r rr =>
  rw [hs];refine assignInOrder_cons (thn (h1 pins s σ H _ _ _ I r h) λ _ s1 ⟨σ1,H1,I1,q1⟩=>?_);exact h2 pins s1 σ1 H1 _ _ Q I1 rr q1
def gTup (K:PySem.W.Frag) (n:Nat) (t:TGs):TG:=λ v σ H Q=>∃ a xs,v=.ref a/\SqT K H a xs/\xs.length=n/\t xs σ H Q
theorem JM {es:List Expr} {k:Nat} {t:TGs} {n:Nat} (hc:X.calm=true) (h:PGs X es t)
  (hn:(assignEach es X.env).length=n:=by rfl) (hst:(assignEach es X.env).findIdx? (·.1)=none:=by rfl):PG X (.Tuple es k pos) (gTup X.K n t):=by
 intro pins s σ H v u Q I r hw;obtain ⟨a,xs,e1,hq,hl,hw⟩:=hw;subst e1;cases r;obtain ⟨its,rv,ht,hz⟩:=I.tuple hq;refine assign_Tuple_tuple (I.ok.hd hc) ht (by simp [hn,<- hl,rv.length]) hst λ h' hx=>?_;have I1:Inv X pins σ H { s with heap:=h' }:=I.kept (t':=s.toks) λ b o e=>hx b o (Nat.ne_of_lt (Heap.lt_size e)) e;exact h pins _ σ H xs _ Q I1 (by simpa using rv) hw
def gSub (to ti:TE) (t:zeX):TG:=λ v σ H Q=>to σ H λ o H1=>ti σ H1 λ i H2=>t o i v H2 λ H3=>Q σ H3
theorem JN {o i:Expr} {to ti:TE} {t:zeX} (ho:PE X o to) (hi:PE X i ti) (hs:zgT X t)
  (ha:∀ v,assign (.Subscript o i pos) X.env v=(do
   let ov <- holding [v] (eval o X.env)
   let iv <- holding [v,ov] (eval i X.env)
   standAt pos
   holding [v,ov,iv] (setItem ov iv v)
   release [v,ov,iv] []):=by intro _;rfl):PG X (.Subscript o i pos) (gSub to ti t):=by
 intro pins s σ H v u Q I r h;rw [ha];refine wpAny_bind (wpAny_holding (qp (ho pins s σ H _ I h) λ ov s1 x H1 I1 r1 q1=>?_));refine wpAny_bind (wpAny_holding (qp (hi pins s1 σ H1 _ I1 q1) λ iv s2 y H2 I2 r2 q2=>?_));refine wpAny_bind (wpAny_standAt (wpAny_bind (wpAny_holding (thn (hs pins s2 σ H2 x y v ov iv u _ I2 r1 r2 r q2) λ _ s3 ⟨H3,I3,q3⟩=>?_))));exact wpAny_release ⟨σ,H3,I3,q3⟩
def tAsg (te:TE) (g:TG):TS:=λ D σ H=>te σ H λ x H1=>g x σ H1 D.nx
theorem Z4 {tg e:Expr} {te:TE} {g:TG} (he:PE X e te) (hg:PG X tg g) (hs:swapsWithSole [tg] e pos.line X.env=pure false:=by rfl) (hw:swappedStores [tg] e X.env=pure none:=by rfl)
  (h1:(assignEach [tg] X.env).map (·.2)=[assign tg X.env]:=by rfl):PS X (.Assign [tg] e pos) (tAsg te g):=by
 intro pins s σ H D I h;refine wpAny_Assign_stores (qp (he pins s σ H _ I h) λ v s1 x H1 I1 r1 q1=>?_) hs hw;rw [h1];exact thn (hg pins s1 σ H1 x v _ I1 r1 q1) λ _ s2 q=>q
theorem zdZ {i:Nat} {x:Str} {e:Expr} {te:TE} {pos':Pos} (hN:X.N.Nodup) (hi:X.N[i]?=some x) (hx:Loc X.env.scope x) (he:PE X e te) (hs:swapsWith e (some (.Name x pos')) pos.line X.env=pure false:=by rfl) (hf:X.fn x=true\/X.env.scope.names.lookup x=some .local:=by walk_at "p") :
  PS X (.Assign [.Name x pos'] e pos) (tAsg te (gName i)):=by
 intro pins s σ H D I h;refine wpAny_Assign_Name (qp (he pins s σ H _ I h) λ v s1 y H1 I1 r1 q1=>?_) hs;exact Jp I1 hN hi hx r1 (λ s2 I2=>⟨_,H1,I2,q1⟩) hf
def zfT (to ti te:TE) (tget:V->V->Hp->VK->Prop) (tip:TIp) (tset:zeX):TS:=λ D σ H=>to σ H λ o H1=>ti σ H1 λ i H2=>tget o i H2 λ x H3=>te σ H3 λ y H4=>tip x y H4 λ z H5=>tset o i z H5 λ H6=>D.nx σ H6
def zhu (X:Cx) (t:V->V->Hp->VK->Prop):Prop :=
 ∀ (pins:List (Addr × Obj)) (s:Shared) (σ:St) (H:Hp) (o i:V) (ov iv:Value) (Q:VK),Inv X pins σ H s->RelV o ov->RelV i iv->t o i H Q ->
  wpAny (model X.prog X.w) X.A (getItem ov iv) (EP X pins σ Q) X.xe s
theorem zfi {o i e:Expr} {to ti te:TE} {tget:V->V->Hp->VK->Prop} {tip:TIp} {tset:zeX} {op:Operator} {tpos:Pos} (ho:PE X o to) (hi:PE X i ti) (hg:zhu X tget) (he:PE X e te) (hp:PIp X op tip) (hs:zgT X tset)
  (ha:∀ ov iv new,augStore i ov iv new=(do holding [new,ov,iv] (setItem ov iv new);release [new,ov,iv] [];pure .next):=by intros;rfl):PS X (.AugAssign (.Subscript o i tpos) op e pos) (zfT to ti te tget tip tset):=by
 intro pins s σ H D I h;refine wpAny_AugAssign_SubscriptAny (qp (ho pins s σ H _ I h) λ ov s1 x1 H1 I1 r1 q1=>?_) ha;refine qp (hi pins s1 σ H1 _ I1 q1) λ iv s2 x2 H2 I2 r2 q2=>?_;refine qp (hg pins s2 σ H2 x1 x2 ov iv _ I2 r1 r2 q2) λ old s3 x3 H3 I3 r3 q3=>?_;refine qp (he pins s3 σ H3 _ I3 q3) λ v s4 x4 H4 I4 r4 q4=>?_;refine qp (hp pins s4 σ H4 x3 x4 old v _ I4 r3 r4 q4) λ new s5 x5 H5 I5 r5 q5=>?_;exact thn (hs pins s5 σ H5 x1 x2 x5 ov iv new _ I5 r1 r2 r5 q5) λ _ s6 ⟨H6,I6,q6⟩=>⟨σ,H6,I6,q6⟩
def ipI (f:Int->Int->Int):TIp:=λ x y H Q=>iq x λ i=>iq y λ j=>Q (.int (f i j)) H
theorem zgI:PIp X .Add (ipI λ i j=>i + j):=by
 intro pins s σ H x y v u Q I r1 r2 h;obtain ⟨i,j,e1,e2,q⟩:=Xh h;subst e1;subst e2;obtain ⟨t,rfl⟩:=r1;obtain ⟨t',rfl⟩:=r2;exact iadd_int ⟨.int _,H,I.tok _,⟨_,rfl⟩,q⟩
end
section
variable {X:Cx} {pos:Pos}
def zga (c:TT) (tb:TS):TS:=λ D σ H=>∃ W:Nat->St->Hp->Prop,(∃ m,W m σ H)/\∀ m σ H,W m σ H ->
 c σ H λ b H1=>if b=true then ∃ N:St->Hp->Prop,(∀ σ' H',N σ' H'->∃ m',m' < m/\W m' σ' H')/\tb { D with nx:=N,ct:=N,bk:=D.nx } σ H1 else D.nx σ H1
theorem zdY {c:Expr} {body:List Stmt} {tc:TT} {tb:TS} (hp:PassesOwn (model X.prog X.w) X.A X.env X.xe) (hc:PT X c tc) (hb:PSs X body tb):PS X (.While c body [] pos) (zga tc tb):=by
 intro pins s σ H D I h;obtain ⟨W,⟨m0,w0⟩,turn⟩:=h;refine wpAny_While (codeAny_whileLoop (λ n s'=>∃ σ' H',Inv X pins σ' H' s'/\W n σ' H') ?_ m0 ⟨σ,H,I,w0⟩);rintro n s1 ⟨σ1,H1,I1,w1⟩;refine wpAny_passesOwn hp (thn (hc pins s1 σ1 H1 _ I1 (turn n σ1 H1 w1)) λ b s2 ⟨H2,I2,q2⟩=>?_);cases b with
 | true =>
  obtain ⟨N,hN,q2⟩:=q2;rw [if_pos rfl];refine wpAny_passesOwn hp (thn (hb pins s2 σ1 H2 _ I2 q2) λ f s3 q3=>?_);cases f with
  | next =>
   obtain ⟨σ3,H3,I3,n3⟩:=q3;obtain ⟨m',hm,w3⟩:=hN σ3 H3 n3;exact ⟨m',hm,σ3,H3,I3,w3⟩
  | cont =>
   obtain ⟨σ3,H3,I3,n3⟩:=q3;obtain ⟨m',hm,w3⟩:=hN σ3 H3 n3;exact ⟨m',hm,σ3,H3,I3,w3⟩
  | brk=>exact q3
  | ret v=>exact q3
 | false =>
  rw [if_neg Bool.false_ne_true];exact wpAny_execs_nil ⟨σ1,H2,I2,q2⟩
end
structure It where
 go:Nat->Hp->Prop
 yld:Nat->Hp->V->Hp->Prop
 stop:Nat->Hp->Prop
def Qr (X:Cx) (pins:List (Addr × Obj)) (H:Hp) (b:Addr):Prop :=
 H b=none/\b≠X.env.locals/\b ∉ X.fs/\(b∈X.ex\/X.s₀.heap.objs.size<=b)/\(∀ x c,X.env.cells.lookup x=some c->c≠b)/\∀ p∈X.pn ++ pins,p.1≠b
theorem Inv.fpOk {X:Cx} {pins:List (Addr × Obj)} {σ:St} {H H':Hp} {s:Shared} {b:Addr} (I:Inv X pins σ H s) (hb:s.heap.objs.size<=b) (hn:H' b=none):Qr X pins H' b:=by
 refine ⟨hn,Nat.ne_of_gt (Nat.lt_of_lt_of_le I.lt hb),I.nofs hb,.inr (Nat.le_trans I.sz hb),λ x c e z=>?_,λ p hp z=>?_⟩
 ·obtain ⟨v,q⟩:=I.cell x c e;exact absurd (Nat.lt_of_lt_of_le q.lt (by rw [z];exact hb)) (Nat.lt_irrefl _)
 ·exact absurd (Nat.lt_of_lt_of_le (Heap.lt_size (I.pin p hp).1) (by rw [z];exact hb)) (Nat.lt_irrefl _)
structure Turn (P:Program) (w:World) (K:PySem.W.Frag) (tg:Expr) (J:It) (fp:List Addr) (it:Addr) (tn:Nat->Heap->Prop):Prop where
 mem:it∈fp
 obj:∀ i h,tn i h->∀ b∈fp,∃ o,h.get? b=some o/\∀ v,o.data≠.cell v
 keep:∀ i h h',tn i h->(∀ b∈fp,∀ o,h.get? b=some o->h'.get? b=some o)->tn i h'
 item:∀ (X:Cx),X.prog=P->X.w=w->X.K=K->X.calm=true->∀ (i:Nat) (pins:List (Addr × Obj)) (s:Shared) (σ:St) (H:Hp) (E:Value->Shared->Prop),Inv X pins σ H s->(∀ b∈fp,Qr X pins H b)->tn i s.heap->J.go i H ->
  wpAny (model P w) X.A (pyNext (.ref it)) (λ r s1=>∃ u,r=some u /\
   wpAny (model P w) X.A (letOwnedTupleGo tg (.ref it) u) (λ _ s2=>∃ x H',Inv X pins σ H' s2/\RelV x u/\J.yld i H x H'/\tn (i + 1) s2.heap/\∀ b∈fp,H' b=none) E s1) E s
 done:∀ (X:Cx),X.prog=P->X.w=w->X.K=K->X.calm=true->∀ (i:Nat) (pins:List (Addr × Obj)) (s:Shared) (σ:St) (H:Hp) (E:Value->Shared->Prop),Inv X pins σ H s->(∀ b∈fp,Qr X pins H b)->tn i s.heap->J.stop i H ->
  wpAny (model P w) X.A (pyNext (.ref it)) (λ r s1=>r=none/\Inv X pins σ H s1) E s
 self:∀ (A:Around) (i:Nat) (s:Shared) (Q:Value->Shared->Prop) (E:Value->Shared->Prop),tn i s.heap->Q (.ref it) s->wpAny (model P w) A (pyIter (.ref it)) Q E s
abbrev TI:=St->Hp->(It->Hp->Prop)->Prop
def PIE (X:Cx) (pins:List (Addr × Obj)) (σ:St) (tg:Expr) (R:It->Hp->Prop) (itv:Value) (s2:Shared):Prop :=
 ∃ (it:Addr) (fp:List Addr) (tn:Nat->Heap->Prop) (J:It) (H':Hp),itv=.ref it/\Inv X pins σ H' s2/\Turn X.prog X.w X.K tg J fp it tn/\tn 0 s2.heap/\(∀ b∈fp,Qr X pins H' b)/\R J H'
def PI (X:Cx) (tg iter:Expr) (wi:TI):Prop :=
 ∀ (pins:List (Addr × Obj)) (s:Shared) (σ:St) (H:Hp) (R:It->Hp->Prop),Inv X pins σ H s->wi σ H R ->
  wpAny (model X.prog X.w) X.A (eval iter X.env) (λ v s1=>wpAny (model X.prog X.w) X.A (pyIter v) (PIE X pins σ tg R) X.xe s1) X.xe s
theorem zcd {M:Model} {A:Around} {E:Value->Shared->Prop} {s:Shared} {tg:Expr} {it:Addr} {u:Value} {o:Obj} {n:String} {vs:Array Value} {Q:Unit->Shared->Prop} (ho:s.heap.get? it=some o) (hc:o.cls=.type n) (hd:o.data=.fields vs)
  (hn:["enumerate","zip","dict_itemiterator","dict_reverseitemiterator","odict_iterator","itertools.zip_longest","itertools.pairwise"].contains n=false) (hQ:Q () s):wpAny M A (letOwnedTupleGo tg (.ref it) u) Q E s:=by
 unfold letOwnedTupleGo;cases tg <;> first
  | exact wpAny_pure hQ
  | (cases u <;> first
    | exact wpAny_pure hQ
    | (refine wpAny_bind (wpAny_load ho ?_)
       rw [hc,hd];show wpAny M A (if (["enumerate","zip","dict_itemiterator","dict_reverseitemiterator","odict_iterator","itertools.zip_longest","itertools.pairwise"].contains n && vs[0]? == some (rawInt _))=true then _ else _) Q E s
       rw [if_neg (by intro h;rw [hn,Bool.false_and] at h;cases h)];exact wpAny_pure hQ))
def Itl (K:PySem.W.Frag) (a:Addr):It :=
 ⟨λ i H=>∃ xs x,SqL K H a xs/\xs[i]?=some x,λ i H x H'=>H'=H/\∀ xs,SqL K H a xs->xs[i]?=some x,λ i H=>∃ xs,SqL K H a xs/\xs.length<=i⟩
def Itt (K:PySem.W.Frag) (a:Addr):It :=
 ⟨λ i H=>∃ xs x,SqT K H a xs/\xs[i]?=some x,λ i H x H'=>H'=H/\∀ xs,SqT K H a xs->xs[i]?=some x,λ i H=>∃ xs,SqT K H a xs/\xs.length<=i⟩
def Itr (lo:Int) (n:Nat):It:=⟨λ i _=>i < n,λ i H x H'=>H'=H/\x=.int (lo + i),λ i _=>n<=i⟩
theorem zcy {P:Program} {w:World} {K:PySem.W.Frag} {tg:Expr} (a it:Addr):Turn P w K tg (Itl K a) [it] it (λ i h=>h.IsListIter it a i) where
 mem:=by simp
 obj:=λ i h st b hb=>by
  have e:b=it:=by simpa using hb
  subst e;obtain ⟨o,e,c,d⟩:=st;exact ⟨o,e,λ v z=>by rw [d] at z;cases z⟩
 keep:=λ i h h' st k=>st.at λ o e=>k it (by simp) o e
 item:=by
  intro X hP hw hK hc i pins s σ H E I hf st hg;subst hP hw hK;obtain ⟨xs,x,hq,hx⟩:=hg;obtain ⟨its,rv,p,hz⟩:=I.list hq;obtain ⟨u,hu,ru⟩:=rv.get hx;obtain ⟨f0,f1,f2,f3,f4,f5⟩:=hf it (by simp);refine wpAny_pyNext_list_item st p.isList (x:=u) (by simpa using hu) λ h' st' sb=>?_;have I1:Inv X pins σ H { s with heap:=h' }:=I.turned (t':=s.toks) (λ b o hb e=>(sb.2 b hb).trans e) f0 f1 f3 f4 f5;obtain ⟨o,e,c,d⟩:=id st';exact ⟨u,rfl,zcd (s:={ s with heap:=h' }) e c d (by decide) ⟨x,H,I1,ru,⟨rfl,λ ys hy=>by rw [I.list_inj hy hq];exact hx⟩,st',λ b hb=>(hf b hb).1⟩⟩
 done:=by
  intro X hP hw hK hc i pins s σ H E I hf st hg;subst hP hw hK;obtain ⟨xs,hq,hx⟩:=hg;obtain ⟨its,rv,p,hz⟩:=I.list hq;obtain ⟨f0,f1,f2,f3,f4,f5⟩:=hf it (by simp);have hl:=rv.length;exact wpAny_pyNext_list_end (I.ok.hd hc) st p.isList (by simp;omega) λ h' eb=>⟨rfl,I.turned (t':=s.toks) (λ b o hb e=>eb b o hb e) f0 f1 f3 f4 f5⟩
 self:=λ _ _ _ _ _ st h=>wpAny_pyIter_listiter st h
theorem zaN {P:Program} {w:World} {K:PySem.W.Frag} {tg:Expr} (a it:Addr):Turn P w K tg (Itt K a) [it] it (λ i h=>h.IsTupleIter it a i) where
 mem:=by simp
 obj:=λ i h st b hb=>by
  have e:b=it:=by simpa using hb
  subst e;obtain ⟨o,e,c,d⟩:=st;exact ⟨o,e,λ v z=>by rw [d] at z;cases z⟩
 keep:=λ i h h' st k=>st.at λ o e=>k it (by simp) o e
 item:=by
  intro X hP hw hK hc i pins s σ H E I hf st hg;subst hP hw hK;obtain ⟨xs,x,hq,hx⟩:=hg;obtain ⟨its,rv,p,hz⟩:=I.tuple hq;obtain ⟨u,hu,ru⟩:=rv.get hx;obtain ⟨f0,f1,f2,f3,f4,f5⟩:=hf it (by simp);refine wpAny_pyNext_tuple_item st (show s.heap.IsTuple a its.toArray from p) (x:=u) (by simpa using hu) λ h' st' sb=>?_;have I1:Inv X pins σ H { s with heap:=h' }:=I.turned (t':=s.toks) (λ b o hb e=>(sb.2 b hb).trans e) f0 f1 f3 f4 f5;obtain ⟨o,e,c,d⟩:=id st';exact ⟨u,rfl,zcd (s:={ s with heap:=h' }) e c d (by decide) ⟨x,H,I1,ru,⟨rfl,λ ys hy=>by rw [I.tuple_inj hy hq];exact hx⟩,st',λ b hb=>(hf b hb).1⟩⟩
 done:=by
  intro X hP hw hK hc i pins s σ H E I hf st hg;subst hP hw hK;obtain ⟨xs,hq,hx⟩:=hg;obtain ⟨its,rv,p,hz⟩:=I.tuple hq;obtain ⟨f0,f1,f2,f3,f4,f5⟩:=hf it (by simp);have hl:=rv.length;exact wpAny_pyNext_tuple_end (I.ok.hd hc) st (show s.heap.IsTuple a its.toArray from p) (by simp;omega) λ h' eb=>⟨rfl,I.turned (t':=s.toks) (λ b o hb e=>eb b o hb e) f0 f1 f3 f4 f5⟩
 self:=λ _ _ _ _ _ st h=>wpAny_pyIter_tupleiter st h
theorem zaO {P:Program} {w:World} {K:PySem.W.Frag} {tg:Expr} (it:Addr) (lo:Int) (n:Nat):Turn P w K tg (Itr lo n) [it] it (λ i h=>IsRangeIter h it (lo + (i:Nat) * 1) ((n:Int) - (i:Nat)) 1) where
 mem:=by simp
 obj:=λ i h st b hb=>by
  have e:b=it:=by simpa using hb
  subst e;exact ⟨_,st,λ v z=>by
   have z':Data.fields _=Data.cell v:=z;cases z'⟩
 keep:=λ i h h' st k=>k it (by simp) _ st
 item:=by
  intro X hP hw hK hc i pins s σ H E I hf st hg;subst hP hw hK;obtain ⟨f0,f1,f2,f3,f4,f5⟩:=hf it (by simp);have W:=Walks.range (prog:=X.prog) (w:=X.w) (I.ok.hd hc) it lo 1 n;refine W.item i s _ _ hg st λ v h' tk hv st' kk=>?_;obtain ⟨t,rfl⟩:=hv;have I1:Inv X pins σ H { s with heap:=h',toks:=tk }:=I.turned (λ b o hb e=>kk b o (by simpa using hb) e) f0 f1 f3 f4 f5;refine ⟨_,rfl,zcd (s:={ s with heap:=h',toks:=tk }) (n:="range_iterator") st' rfl rfl (by decide) ⟨.int (lo + i),H,I1,⟨t,?_⟩,⟨rfl,rfl⟩,st',λ b hb=>(hf b hb).1⟩⟩;rw [Int.mul_one]
 done:=by
  intro X hP hw hK hc i pins s σ H E I hf st hg;subst hP hw hK;obtain ⟨f0,f1,f2,f3,f4,f5⟩:=hf it (by simp);exact wpAny_pyNext_range_end (I.ok.hd hc) st (by have:n<=i:=hg;omega) λ h' eb=>⟨rfl,I.turned (t':=s.toks) (λ b o hb e=>eb b o hb e) f0 f1 f3 f4 f5⟩
 self:=λ _ _ _ _ _ st h=>wpAny_pyIter_rangeiter st h
end L2
namespace L2
open PySem PySem.Spec PyProof.Rows
section
variable {X:Cx} {tg:Expr}
theorem zdU {pins:List (Addr × Obj)} {σ:St} {H:Hp} {s:Shared} {R:It->Hp->Prop} {E:Value->Shared->Prop} {lo hi:Int} {t u v:Tok} {tk:Nat} (I:Inv X pins σ H s) (h1:-(2 ^ 62)<=lo) (h2:lo < 2 ^ 62) (h3:-(2 ^ 62)<=hi) (h4:hi < 2 ^ 62)
  (q:R (Itr lo (hi - lo).toNat) H):wpAny (model X.prog X.w) X.A (pyIter (.ref s.heap.objs.size)) (PIE X pins σ tg R) E { s with heap:=s.heap.push { cls:=.type "range",data:=.fields #[.int lo t,.int hi u,.int 1 v] },toks:=tk }:=by
 refine wpAny_pyIter_range (IsRange.new ..) (small_one h1 h2 h3 h4) ?_;have I1:Inv X pins σ H { s with heap:=s.heap.push { cls:=.type "range",data:=.fields #[.int lo t,.int hi u,.int 1 v] },toks:=tk }:=I.kept λ b o e=>Heap.get?_push_of_some _ e;refine ⟨(s.heap.push { cls:=.type "range",data:=.fields #[.int lo t,.int hi u,.int 1 v] }).objs.size,[(s.heap.push { cls:=.type "range",data:=.fields #[.int lo t,.int hi u,.int 1 v] }).objs.size],_,_,H,rfl,
  I1.kept (t':=tk) λ b o e=>Heap.get?_push_of_some _ e,zaO _ lo (hi - lo).toNat,?_,λ b hb=>?_,q⟩
 ·have e1:lo + ((0:Nat):Int) * 1=lo:=by simp
  have e2:(((hi - lo).toNat:Nat):Int) - ((0:Nat):Int)=Builtin.Range.rangeSize lo hi 1:=by rw [rangeSize_one];split <;> omega
  show IsRangeIter _ _ (lo + ((0:Nat):Int) * 1) ((((hi - lo).toNat:Nat):Int) - ((0:Nat):Int)) 1
  rw [e1,e2];exact Heap.get?_push_size _ rfl
 ·have e:b=(s.heap.push { cls:=.type "range",data:=.fields #[.int lo t,.int hi u,.int 1 v] }).objs.size:=by simpa using hb
  subst e;exact I1.fpOk (Nat.le_refl _) (I1.hok.fresh (Nat.le_refl _))
def iRng1 (ta:TA):TI:=λ σ H R=>ta σ H λ vs H1=>lq vs λ v=>iq v λ j=>-(2 ^ 62)<=j/\j < 2 ^ 62/\R (Itr 0 j.toNat) H1
theorem zcR {a:Expr} {ta:TA} {p pos:Pos} (hg:Gl X "range") (hm:X.mg "range"=none) (ha:PA X [a] ta) (hs:starEach [a] X.env=[(false,eval a X.env)]:=by rfl):PI X tg (.Call (.Name "range" p) [a] [] pos) (iRng1 ta):=by
 intro pins s σ H R I h;refine Call_ (wS I hg hm boot_range (PyProof.Rows.callWith_type1 (vz (ha pos pins s σ H _ I h) λ us s1 vs H1 I1 r1 q1=>?_) hs rfl));obtain ⟨v,e,q0⟩:=zek q1;clear q1;obtain ⟨j,e2,q1,q2,q⟩:=ZH q0;subst e2;subst e;cases r1 with
 | cons r rr =>
  cases rr;obtain ⟨t,rfl⟩:=r;exact call_range_1 (zdU I1 (by omega) (by omega) q1 q2 (by simpa using q))
def tFor (wi:TI) (g:TG) (tb:TS):TS:=λ D σ H=>wi σ H λ J H1=>∃ W:Nat->Nat->St->Hp->Prop,(∃ m,W 0 m σ H1)/\∀ i m σ H,W i m σ H ->
 (J.stop i H/\D.nx σ H)\/(J.go i H/\∃ N:St->Hp->Prop,(∀ σ' H',N σ' H'->∃ m',m' < m/\W (i + 1) m' σ' H')/\∀ x H',J.yld i H x H'->g x σ H' λ σ2 H2=>tb { D with nx:=N,ct:=N,bk:=D.nx } σ2 H2)
def JL (fp:List Addr) (h:Heap):List (Addr × Obj):=fp.filterMap λ b=>(h.get? b).map λ o=>(b,o)
theorem wl {fp:List Addr} {h:Heap} {b:Addr} {o:Obj} (hb:b∈fp) (e:h.get? b=some o):(b,o)∈JL fp h:=List.mem_filterMap.mpr ⟨b,hb,by rw [e];rfl⟩
theorem zc1 {fp:List Addr} {h:Heap} {p:Addr × Obj} (hp:p∈JL fp h):p.1∈fp/\h.get? p.1=some p.2:=by
 obtain ⟨b,hb,e⟩:=List.mem_filterMap.mp hp;cases q:h.get? b with
 | none=>rw [q] at e;cases e
 | some o =>
  rw [q] at e;have e':(b,o)=p:=Option.some.inj e;subst e';exact ⟨hb,q⟩
theorem Inv.pinned {pins:List (Addr × Obj)} {σ:St} {H:Hp} {s:Shared} {fp:List Addr} (I:Inv X pins σ H s) (hf:∀ b∈fp,Qr X pins H b) (ho:∀ b∈fp,∃ o,s.heap.get? b=some o/\∀ v,o.data≠.cell v):Inv X (pins ++ JL fp s.heap) σ H s :=
 I.pins_of λ p hp=>(List.mem_append.mp hp).elim (λ z=>I.pin p (mem_append_right _ z)) λ z=>by
  obtain ⟨hb,e⟩:=zc1 z;obtain ⟨f0,f1,f2,_⟩:=hf p.1 hb;obtain ⟨o,e',d⟩:=ho p.1 hb;rw [e] at e';cases e';exact ⟨e,f0,f1,f2,d⟩
theorem Inv.unpinned {pins pl:List (Addr × Obj)} {σ:St} {H:Hp} {s:Shared} (I:Inv X (pins ++ pl) σ H s):Inv X pins σ H s:=I.pins_of λ p hp=>I.pin p (mem_append_right _ (mem_append_left _ hp))
theorem jh {iter:Expr} {body:List Stmt} {wi:TI} {g:TG} {tb:TS} {pos:Pos} (hp:PassesOwn (model X.prog X.w) X.A X.env X.xe) (hc:X.calm=true) (hi:PI X tg iter wi) (hg:PG X tg g) (hb:PSs X body tb)
  (hs:∀ x,foldedSetIterable iter X.env x=pure x:=by intro _;rfl):PS X (.For tg iter body [] pos) (tFor wi g tb):=by
 intro pins s σ H D I h;refine wpAny_For (thn (hi pins s σ H _ I h) λ v s1 h1=>thn h1 λ itv s2 h2=>?_) hs;obtain ⟨it,fp,tn,J,H2,e,I2,T,st2,f2,W,⟨m0,w0⟩,turn⟩:=h2;subst e;have stat:∀ {H':Hp},(∀ b∈fp,H' b=none)->∀ b∈fp,Qr X pins H' b:=λ hn b hb=>⟨hn b hb,(f2 b hb).2⟩;refine codeAny_forLoop_any (λ n s'=>∃ i σ' H',Inv X pins σ' H' s'/\tn i s'.heap/\(∀ b∈fp,H' b=none)/\W i n σ' H') ?_ m0 ⟨0,σ,H2,I2,st2,λ b hb=>(f2 b hb).1,w0⟩;rintro n s3 ⟨i,σ3,H3,I3,st3,fr3,w3⟩;rcases turn i n σ3 H3 w3 with ⟨stop,qn⟩|⟨go,N,hN,step⟩
 ·refine wpAny_passesOwn hp (thn (T.done X rfl rfl rfl hc i pins s3 σ3 H3 X.xe I3 (stat fr3) st3 stop) λ r s4 ⟨hr,I4⟩=>?_);subst hr;exact wpAny_execs_nil ⟨σ3,H3,I4,qn⟩
 ·refine wpAny_passesOwn hp (thn (T.item X rfl rfl rfl hc i pins s3 σ3 H3 X.xe I3 (stat fr3) st3 go) λ r s4 ⟨u,hr,h4⟩=>?_);subst hr;refine wpAny_passesOwn hp (thn h4 λ _ s5 ⟨x,H5,I5,r5,y5,st5,fr5⟩=>?_);have I5':=I5.pinned (stat fr5) (T.obj _ _ st5);refine wpAny_passesOwn hp (thn (hg _ s5 σ3 H5 x u _ I5' r5 (step x H5 y5)) λ _ s6 ⟨σ6,H6,I6,q6⟩=>?_);refine wpAny_passesOwn hp (thn (hb _ s6 σ6 H6 _ I6 q6) λ f s7 q7=>?_);have again:∀ {σ7:St} {H7:Hp},Inv X (pins ++ JL fp s5.heap) σ7 H7 s7->N σ7 H7->∃ m,m < n/\∃ i σ' H',Inv X pins σ' H' s7/\tn i s7.heap/\(∀ b∈fp,H' b=none)/\W i m σ' H':=λ {σ7 H7} I7 n7=>by
   obtain ⟨m',hm,w7⟩:=hN σ7 H7 n7;refine ⟨m',hm,i + 1,σ7,H7,I7.unpinned,T.keep _ _ _ st5 λ b hb o e=>(I7.pin (b,o) (mem_append_right _ (mem_append_right _ (wl hb e)))).1,λ b hb=>?_,w7⟩;obtain ⟨o,e,d⟩:=T.obj _ _ st5 b hb;exact (I7.pin (b,o) (mem_append_right _ (mem_append_right _ (wl hb e)))).2.1
  cases f with
  | next=>obtain ⟨σ7,H7,I7,n7⟩:=q7;exact again I7 n7
  | cont=>obtain ⟨σ7,H7,I7,n7⟩:=q7;exact again I7 n7
  | brk=>obtain ⟨σ7,H7,I7,q7⟩:=q7;exact ⟨σ7,H7,I7.unpinned,q7⟩
  | ret v=>obtain ⟨x7,σ7,H7,I7,r7,q7⟩:=q7;exact ⟨x7,σ7,H7,I7.unpinned,r7,q7⟩
end
end L2
namespace L2
open PySem PySem.Spec PyProof.Rows
abbrev R2:=V->V->Hp->VK->Prop
def OpR (X:Cx) (f:Value->Value->Sem Value) (r:R2):Prop :=
 ∀ (pins:List (Addr × Obj)) (s:Shared) (σ:St) (H:Hp) (x y:V) (v u:Value) (Q:VK),Inv X pins σ H s->RelV x v->RelV y u->r x y H Q ->
  wpAny (model X.prog X.w) X.A (f v u) (EP X pins σ Q) X.xe s
def UnR (X:Cx) (f:Value->Sem Value) (r:V->Hp->VK->Prop):Prop :=
 ∀ (pins:List (Addr × Obj)) (s:Shared) (σ:St) (H:Hp) (x:V) (v:Value) (Q:VK),Inv X pins σ H s->RelV x v->r x H Q ->
  wpAny (model X.prog X.w) X.A (f v) (EP X pins σ Q) X.xe s
def CallR (X:Cx) (f:Value) (r:List V->Hp->VK->Prop):Prop :=
 ∀ (pins:List (Addr × Obj)) (s:Shared) (σ:St) (H:Hp) (xs:List V) (us:List Value) (Q:VK),Inv X pins σ H s->Vals xs us->r xs H Q ->
  wpAny (model X.prog X.w) X.A (call f us) (EP X pins σ Q) X.xe s
def zhM (X:Cx) (r:V->Hp->(Bool->Hp->Prop)->Prop):Prop :=
 ∀ (pins:List (Addr × Obj)) (s:Shared) (σ:St) (H:Hp) (x:V) (v:Value) (Q:Bool->Hp->Prop),Inv X pins σ H s->RelV x v->r x H Q ->
  wpAny (model X.prog X.w) X.A (truthy v) (TP X pins σ Q) X.xe s
def tOp (r:R2) (ta tb:TE):TE:=λ σ H Q=>ta σ H λ x H1=>tb σ H1 λ y H2=>r x y H2 Q
def tUn (r:V->Hp->VK->Prop) (ta:TE):TE:=λ σ H Q=>ta σ H λ x H1=>r x H1 Q
def rI (C:Int->Int->Prop) (g:Int->Int->V):R2:=λ x y H Q=>iq x λ i=>iq y λ j=>C i j/\Q (g i j) H
def rI0 (g:Int->Int->V):R2:=λ x y H Q=>iq x λ i=>iq y λ j=>Q (g i j) H
def rU (g:Int->V):V->Hp->VK->Prop:=λ x H Q=>iq x λ i=>Q (g i) H
section
variable {X:Cx} {a b c:Expr} {ta tb tc:TE} {pos:Pos}
theorem zgR (ha:PE X a ta) (hb:PE X b tb) {pins:List (Addr × Obj)} {s:Shared} {σ:St} {H:Hp} {R:V->V->Hp->Prop} (I:Inv X pins σ H s)
  (h:ta σ H λ x H1=>tb σ H1 λ y H2=>R x y H2) {Q:Value->Shared->Prop} {f:Value->Value->Sem Value}
  (hf:∀ v u s2 x y H2,Inv X pins σ H2 s2->RelV x v->RelV y u->R x y H2->wpAny (model X.prog X.w) X.A (f v u) Q X.xe s2) :
  wpAny (model X.prog X.w) X.A (eval a X.env) (λ v s₁=>wpAny (model X.prog X.w) X.A (eval b X.env) (λ u s₂=>wpAny (model X.prog X.w) X.A (f v u) Q X.xe s₂) X.xe s₁) X.xe s:=by
 refine qp (ha pins s σ H _ I h) λ v s1 x H1 I1 r1 q1=>?_;refine qp (hb pins s1 σ H1 _ I1 q1) λ u s2 y H2 I2 r2 q2=>?_;exact hf v u s2 x y H2 I2 r1 r2 q2
theorem zH {op:Operator} {r:R2} (ho:OpR X (binaryOp op) r) (ha:PE X a ta) (hb:PE X b tb):PE X (.BinOp a op b pos) (tOp r ta tb):=by
 intro pins s σ H Q I h;exact wpAny_BinOp (zgR ha hb I h λ v u s2 x y H2 I2 rx ry q=>ho pins s2 σ H2 x y v u Q I2 rx ry q)
theorem V8 {op:UnaryOp} {r:V->Hp->VK->Prop} (ho:UnR X (unaryOp op) r) (ha:PE X a ta):PE X (.UnaryOp op a pos) (tUn r ta):=by
 intro pins s σ H Q I h;exact UnaryOp_ (qp (ha pins s σ H _ I h) λ v s1 x H1 I1 r1 q1=>ho pins s1 σ H1 x v Q I1 r1 q1)
theorem opI {f:Value->Value->Sem Value} {C:Int->Int->Prop} {g:Int->Int->Int}
  (rule:∀ (i j:Int) (t u:Tok) (s:Shared) (Q:Value->Shared->Prop) (E:Value->Shared->Prop),C i j->Q (.int (g i j) s.toks) { s with toks:=s.toks + 1 }->wpAny (model X.prog X.w) X.A (f (.int i t) (.int j u)) Q E s) :
  OpR X f (rI C λ i j=>.int (g i j)):=by
 intro pins s σ H x y v u Q I rx ry h;obtain ⟨i,j,rfl,rfl,hc,q⟩:=Xh h;obtain ⟨t,rfl⟩:=rx;obtain ⟨t',rfl⟩:=ry;exact rule i j t t' s _ _ hc ⟨.int (g i j),H,I.tok _,⟨_,rfl⟩,q⟩
theorem zhc {f:Value->Value->Sem Value} {g:Int->Int->Int}
  (rule:∀ (i j:Int) (t u:Tok) (s:Shared) (Q:Value->Shared->Prop) (E:Value->Shared->Prop),Q (.int (g i j) s.toks) { s with toks:=s.toks + 1 }->wpAny (model X.prog X.w) X.A (f (.int i t) (.int j u)) Q E s) :
  OpR X f (rI0 λ i j=>.int (g i j)):=by
 intro pins s σ H x y v u Q I rx ry h;obtain ⟨i,j,rfl,rfl,q⟩:=Xh h;obtain ⟨t,rfl⟩:=rx;obtain ⟨t',rfl⟩:=ry;exact rule i j t t' s _ _ ⟨.int (g i j),H,I.tok _,⟨_,rfl⟩,q⟩
theorem zgq {f:Value->Value->Sem Value} {g:Int->Int->Bool}
  (rule:∀ (i j:Int) (t u:Tok) (s:Shared) (Q:Value->Shared->Prop) (E:Value->Shared->Prop),Q (.bool (g i j)) s->wpAny (model X.prog X.w) X.A (f (.int i t) (.int j u)) Q E s) :
  OpR X f (rI0 λ i j=>.bl (g i j)):=by
 intro pins s σ H x y v u Q I rx ry h;obtain ⟨i,j,rfl,rfl,q⟩:=Xh h;obtain ⟨t,rfl⟩:=rx;obtain ⟨t',rfl⟩:=ry;exact rule i j t t' s _ _ ⟨.bl (g i j),H,I,rfl,q⟩
def zhO (i j:Int):Prop:=0 < j/\j < 1073741824
def zhy (i j:Int):Prop:=0<=j/\j<=1000000/\i.natAbs < 2 ^ 64
def CMul (i j:Int):Prop:=(-(2 ^ 64) < i/\i < 2 ^ 64)\/(-(2 ^ 64) < j/\j < 2 ^ 64)
theorem CMul.ok {i j:Int} (h:CMul i j):IntMulOk i j:=by
 rcases h with ⟨h1,h2⟩|⟨h1,h2⟩
 ·exact .of_left (intBits_le_64 h1 h2)
 ·exact .of_right (intBits_le_64 h1 h2)
theorem op_add:OpR X (binaryOp .Add) (rI0 λ i j=>.int (i + j)):=zhc λ _ _ _ _ _ _ _ q=>add_int q
theorem WW:OpR X (binaryOp .Sub) (rI0 λ i j=>.int (i - j)):=zhc λ _ _ _ _ _ _ _ q=>sub_int q
theorem zfl:OpR X (binaryOp .FloorDiv) (rI zhO λ i j=>.int (i / j)):=opI λ i j _ _ _ _ _ hc q=>by
 have h1:(0:Int) < j:=hc.1;have h2:j < 1073741824:=hc.2;exact floordiv_int (by omega) (by rw [Int.fdiv_eq_ediv_of_nonneg i (by omega)];exact q) (.inl (PyProof.noPylong_small (by omega)))
theorem jw:OpR X (binaryOp .Mod) (rI (λ _ j=>0 < j) λ i j=>.int (i % j)):=opI λ i j _ _ _ _ _ hc q=>by
 have h1:(0:Int) < j:=hc;exact mod_int' (by omega) (by rw [Int.fmod_eq_emod_of_nonneg i (by omega)];exact q)
theorem zgp:OpR X (binaryOp .Pow) (rI zhy λ i j=>.int (i ^ j.toNat)):=opI λ _ _ _ _ _ _ _ hc q=>pow_int_small hc.1 hc.2.1 hc.2.2 q
theorem unI {f:Value->Sem Value} {g:Int->Int}
  (rule:∀ (i:Int) (t:Tok) (s:Shared) (Q:Value->Shared->Prop) (E:Value->Shared->Prop),Q (.int (g i) s.toks) { s with toks:=s.toks + 1 }->wpAny (model X.prog X.w) X.A (f (.int i t)) Q E s) :
  UnR X f (rU λ i=>.int (g i)):=by
 intro pins s σ H x v Q I rx h;obtain ⟨i,rfl,q⟩:=ZH h;obtain ⟨t,rfl⟩:=rx;exact rule i t s _ _ ⟨.int (g i),H,I.tok _,⟨_,rfl⟩,q⟩
theorem Jn:UnR X (unaryOp .USub) (rU λ i=>.int (-i)):=unI λ _ _ _ _ _ q=>neg_int q
end
def zg2:V->V->Bool
 | .non,.non=>true | .non,.int _=>true | .int _,.non=>true | .non,.bl _=>true | .bl _,.non=>true | .non,.str _=>true | .str _,.non=>true
 | .int _,.int _=>true | .bl _,.bl _=>true | .str _,.str _=>true | .byt _,.byt _=>true
 | .int _,.str _=>true | .str _,.int _=>true | .bl _,.str _=>true | .str _,.bl _=>true
 | _,_=>false
def rEq:R2:=λ x y H Q=>zg2 x y=true/\Q (.bl (decide (x=y))) H
def rNe:R2:=λ x y H Q=>zg2 x y=true/\Q (.bl (!decide (x=y))) H
theorem zck {i j:Int}:decide (V.int i=V.int j)=(i == j):=by
 rw [Bool.eq_iff_iff];simp
theorem zeI {i j:Bool}:decide (V.bl i=V.bl j)=(i == j):=by
 rw [Bool.eq_iff_iff];simp
theorem zcj {i j:Str}:decide (V.str i=V.str j)=(i == j):=by
 rw [Bool.eq_iff_iff];simp
theorem zcl {i j:Array UInt8}:decide (V.byt i=V.byt j)=(i.toList == j.toList):=by
 rw [Bool.eq_iff_iff];cases i;cases j;simp
section
variable {X:Cx} {a b c:Expr} {ta tb tc:TE} {pos:Pos}
theorem zP {pins:List (Addr × Obj)} {σ:St} {H:Hp} {s:Shared} {Q:VK} {k k':Bool} (I:Inv X pins σ H s) (q:Q (.bl k) H) (e:k=k'):EP X pins σ Q (.bool k') s:=by
 subst e;exact ⟨.bl k,H,I,rfl,q⟩
theorem op_eq:OpR X (compareOp .Eq) rEq:=by
 intro pins s σ H x y v u Q I rx ry h;obtain ⟨hs,q⟩:=h;cases x with
 | non =>
  cases rx;cases y with
  | non=>cases ry;exact PySem.EqNone.eq_none_none (zP I q (by simp))
  | bl j=>cases ry;exact PySem.EqNone.eq_none_bool (zP I q (by simp))
  | int j=>obtain ⟨t',rfl⟩:=ry;exact PySem.EqNone.eq_none_int (zP I q (by simp))
  | str j=>obtain ⟨t',rfl⟩:=ry;exact PySem.EqNone.eq_none_str (zP I q (by simp))
  | _=>exact absurd (show false=true from hs) Bool.false_ne_true
 | bl i =>
  cases rx;cases y with
  | non=>cases ry;exact PySem.EqNone.eq_bool_none (zP I q (by simp))
  | bl j=>cases ry;exact eq_bool (zP I q zeI)
  | str j=>obtain ⟨t',rfl⟩:=ry;exact PySem.EqMixed.eq_bool_str (zP I q (by simp))
  | _=>exact absurd (show false=true from hs) Bool.false_ne_true
 | int i =>
  obtain ⟨t,rfl⟩:=rx;cases y with
  | non=>cases ry;exact PySem.EqNone.eq_int_none (zP I q (by simp))
  | int j=>obtain ⟨t',rfl⟩:=ry;exact eq_int (zP I q zck)
  | str j=>obtain ⟨t',rfl⟩:=ry;exact PySem.EqMixed.eq_int_str (zP I q (by simp))
  | _=>exact absurd (show false=true from hs) Bool.false_ne_true
 | str i =>
  obtain ⟨t,rfl⟩:=rx;cases y with
  | non=>cases ry;exact PySem.EqNone.eq_str_none (zP I q (by simp))
  | bl j=>cases ry;exact PySem.EqMixed.eq_str_bool (zP I q (by simp))
  | int j=>obtain ⟨t',rfl⟩:=ry;exact PySem.EqMixed.eq_str_int (zP I q (by simp))
  | str j=>obtain ⟨t',rfl⟩:=ry;exact eq_str (zP I q zcj)
  | _=>exact absurd (show false=true from hs) Bool.false_ne_true
 | byt i =>
  obtain ⟨t,rfl⟩:=rx;cases y with
  | byt j=>obtain ⟨t',rfl⟩:=ry;exact PySem.W.eq_bytes (zP I q zcl)
  | _=>exact absurd (show false=true from hs) Bool.false_ne_true
 | _=>cases y <;> exact absurd (show false=true from hs) Bool.false_ne_true
theorem op_ne:OpR X (compareOp .NotEq) rNe:=by
 intro pins s σ H x y v u Q I rx ry h;obtain ⟨hs,q⟩:=h;cases x with
 | non =>
  cases rx;cases y with
  | non=>cases ry;exact PySem.EqNone.ne_none_none (zP I q (by simp))
  | bl j=>cases ry;exact PySem.EqNone.ne_none_bool (zP I q (by simp))
  | int j=>obtain ⟨t',rfl⟩:=ry;exact PySem.EqNone.ne_none_int (zP I q (by simp))
  | str j=>obtain ⟨t',rfl⟩:=ry;exact PySem.EqNone.ne_none_str (zP I q (by simp))
  | _=>exact absurd (show false=true from hs) Bool.false_ne_true
 | bl i =>
  cases rx;cases y with
  | non=>cases ry;exact PySem.EqNone.ne_bool_none (zP I q (by simp))
  | bl j=>cases ry;exact ne_bool (zP I q (congrArg not zeI))
  | str j=>obtain ⟨t',rfl⟩:=ry;exact PySem.EqMixed.ne_bool_str (zP I q (by simp))
  | _=>exact absurd (show false=true from hs) Bool.false_ne_true
 | int i =>
  obtain ⟨t,rfl⟩:=rx;cases y with
  | non=>cases ry;exact PySem.EqNone.ne_int_none (zP I q (by simp))
  | int j=>obtain ⟨t',rfl⟩:=ry;exact ne_int (zP I q (congrArg not zck))
  | str j=>obtain ⟨t',rfl⟩:=ry;exact PySem.EqMixed.ne_int_str (zP I q (by simp))
  | _=>exact absurd (show false=true from hs) Bool.false_ne_true
 | str i =>
  obtain ⟨t,rfl⟩:=rx;cases y with
  | non=>cases ry;exact PySem.EqNone.ne_str_none (zP I q (by simp))
  | bl j=>cases ry;exact PySem.EqMixed.ne_str_bool (zP I q (by simp))
  | int j=>obtain ⟨t',rfl⟩:=ry;exact PySem.EqMixed.ne_str_int (zP I q (by simp))
  | str j=>obtain ⟨t',rfl⟩:=ry;exact ne_str (zP I q (congrArg not zcj))
  | _=>exact absurd (show false=true from hs) Bool.false_ne_true
 | byt i =>
  obtain ⟨t,rfl⟩:=rx;cases y with
  | byt j=>obtain ⟨t',rfl⟩:=ry;exact PySem.W.ne_bytes (zP I q (congrArg not zcl))
  | _=>exact absurd (show false=true from hs) Bool.false_ne_true
 | _=>cases y <;> exact absurd (show false=true from hs) Bool.false_ne_true
theorem op_lt:OpR X (compareOp .Lt) (rI0 λ i j=>.bl (decide (i < j))):=zgq λ _ _ _ _ _ _ _ q=>lt_int q
theorem op_le:OpR X (compareOp .LtE) (rI0 λ i j=>.bl (decide (i<=j))):=zgq λ _ _ _ _ _ _ _ q=>le_int q
theorem op_gt:OpR X (compareOp .Gt) (rI0 λ i j=>.bl (decide (j < i))):=zgq λ _ _ _ _ _ _ _ q=>gt_int q
theorem op_isN:OpR X (compareOp .Is) (λ x y H Q=>nq y (Q (.bl (decide (x=.non))) H)):=by
 intro pins s σ H x y v u Q I rx ry h;obtain ⟨rfl,q⟩:=zb6 h;cases ry;refine is_none_gen (zP I q ?_);cases x <;> first
  | (cases rx;rfl)
  | (obtain ⟨t,rfl⟩:=rx;rfl)
theorem op_notN:OpR X (compareOp .IsNot) (λ x y H Q=>nq y (Q (.bl (!decide (x=.non))) H)):=by
 intro pins s σ H x y v u Q I rx ry h;obtain ⟨rfl,q⟩:=zb6 h;cases ry;refine isnot_none_gen (zP I q ?_);cases x <;> first
  | (cases rx;rfl)
  | (obtain ⟨t,rfl⟩:=rx;rfl)
theorem OpR.or {f:Value->Value->Sem Value} {r r':R2} (h:OpR X f r) (h':OpR X f r'):OpR X f (λ x y H Q=>r x y H Q\/r' x y H Q):=by
 intro pins s σ H x y v u Q I rx ry q;rcases q with q|q
 ·exact h pins s σ H x y v u Q I rx ry q
 ·exact h' pins s σ H x y v u Q I rx ry q
theorem zw (b:Expr) {op:CmpOp} (h:op≠.In:=by decide) (h2:op≠.NotIn:=by decide):behindInMarks op b=false:=by
 have e1:(op == CmpOp.In)=false:=by cases op <;> first|rfl|exact absurd rfl h
 have e2:(op == CmpOp.NotIn)=false:=by cases op <;> first|rfl|exact absurd rfl h2
 cases b <;> simp [behindInMarks,e1,e2]
theorem wj {op:CmpOp} {r:R2} (ho:OpR X (compareOp op) r) (ha:PE X a ta) (hb:PE X b tb) (hm:behindInMarks op b=false):PE X (.Compare a [op] [b] pos) (tOp r ta tb):=by
 intro pins s σ H Q I h;exact wpAny_Compare1 (zgR ha hb I h λ v u s2 x y H2 I2 rx ry q=>ho pins s2 σ H2 x y v u Q I2 rx ry q) hm
def tTest (t:TE):TT:=λ σ H Q=>t σ H λ x H'=>bq x λ k=>Q k H'
theorem zq {op:CmpOp} {r:R2} (ho:OpR X (compareOp op) r) (ha:PE X a ta) (hb:PE X b tb) (hm:behindInMarks op b=false):PT X (.Compare a [op] [b] pos) (tTest (tOp r ta tb)):=by
 intro pins s σ H Q I h;refine wpAny_isTrue_Compare1 (qp (ha pins s σ H _ I h) λ v s1 x H1 I1 r1 q1=>qp (hb pins s1 σ H1 _ I1 q1) λ u s2 y H2 I2 r2 q2 =>
  thn (ho pins s2 σ H2 x y v u _ I2 r1 r2 q2) λ c s3 ⟨z,H3,I3,r3,q3⟩=>?_) hm
 obtain ⟨k,e,q3⟩:=QJ q3;subst e;cases r3;exact wpAny_truthy_bool ⟨H3,I3,q3⟩
def tChain (r r':R2) (ta tb tc:TE):TE:=λ σ H Q=>ta σ H λ x H1=>tb σ H1 λ y H2=>r x y H2 λ z H3=>bq z λ k =>
 (if k=true then tc σ H3 λ w' H4=>r' y w' H4 Q else Q (.bl false) H3)
theorem jN {op op':CmpOp} {r r':R2} (ho:OpR X (compareOp op) r) (ho':OpR X (compareOp op') r') (ha:PE X a ta) (hb:PE X b tb) (hc:PE X c tc)
  (hm:lastMarks [op,op'] [b,c]=false:=by with_unfolding_all rfl):PT X (.Compare a [op,op'] [b,c] pos) (tTest (tChain r r' ta tb tc)):=by
 intro pins s σ H Q I h;refine isTrue_chain (qp (ha pins s σ H _ I h) λ v s1 x H1 I1 r1 q1=>test_link (qp (hb pins s1 σ H1 _ I1 q1) λ u s2 y H2 I2 r2 q2 =>
  thn (ho pins s2 σ H2 x y v u _ I2 r1 r2 q2) λ d s3 ⟨z,H3,I3,r3,q3⟩=>?_)) hm
 obtain ⟨k,e,q3⟩:=QJ q3;subst e;cases r3;refine wpAny_truthy_bool ?_;cases k with
 | false =>
  obtain ⟨k',e',q'⟩:=QJ q3;cases e';exact ite_ff ⟨H3,I3,q'⟩
 | true =>
  refine ite_tt (test_last (thn (hc pins s3 σ H3 _ I3 q3) λ w' s4 ⟨z',H4,I4,r4,q4⟩=>thn (ho' pins s4 σ H4 y z' u w' _ I4 r2 r4 q4) λ d' s5 ⟨z2,H5,I5,r5,q5⟩=>?_));obtain ⟨k2,e2,q5⟩:=QJ q5;subst e2;cases r5;exact wpAny_truthy_bool ⟨H5,I5,q5⟩
def zdy (K:PySem.W.Frag) (x:V) (H:Hp) (k:Bool):Prop :=
 match x with
 | .non=>k=false
 | .bl b=>k=b
 | .int i=>k=(i != 0)
 | .str y=>y.length<=sizeLine/\k=((y.length:Int) != 0)
 | .byt y=>y.size<=sizeLine/\k=((y.size:Int) != 0)
 | .ref p=>(∃ xs,SqL K H p xs/\k=!xs.isEmpty)\/(∃ xs,SqT K H p xs/\k=!xs.isEmpty)\/∃ kvs,H p=some (.dK kvs)/\k=!kvs.isEmpty
 | _=>False
theorem zby {κ:Type} {kvs:List (κ × V)} {vs:List (κ × Value)} (r:KV kvs vs):(!vs.isEmpty)=!kvs.isEmpty:=by
 cases r <;> rfl
theorem Xg {xs:List V} {its:List Value} (r:Vals xs its):(!its.toArray.isEmpty)=!xs.isEmpty:=by
 cases r <;> simp
theorem Zc:(sizeLine:Nat) < 2 ^ 63:=by rw [sizeLine_eq];decide
theorem zf8:zhM X (λ x H Q=>∃ k,zdy X.K x H k/\Q k H):=by
 intro pins s σ H x v Q I rx h;obtain ⟨k,e,q⟩:=h;have hl:=Zc;have hs:sizeLine=16777216:=sizeLine_eq;cases x with
 | non =>
  cases rx;have e':k=false:=e;subst e';exact truthy_none ⟨H,I,q⟩
 | bl b =>
  cases rx;have e':k=b:=e;subst e';exact wpAny_truthy_bool ⟨H,I,q⟩
 | int i =>
  obtain ⟨t,rfl⟩:=rx;have e':k=(i != 0):=e;subst e';exact PySem.P.truthy_int ⟨H,I,q⟩
 | str y =>
  obtain ⟨t,rfl⟩:=rx;obtain ⟨hy,e'⟩:y.length<=sizeLine/\k=((y.length:Int) != 0):=e;subst e';exact PySem.P.truthy_str (by omega) ⟨H,I.tok _,q⟩
 | byt y =>
  obtain ⟨t,rfl⟩:=rx;obtain ⟨hy,e'⟩:y.size<=sizeLine/\k=((y.size:Int) != 0):=e;subst e';exact PySem.W.truthy_bytes (by omega) ⟨H,I.tok _,q⟩
 | ref p =>
  cases rx;have e':(∃ xs,SqL X.K H p xs/\k=!xs.isEmpty)\/(∃ xs,SqT X.K H p xs/\k=!xs.isEmpty)\/∃ kvs,H p=some (.dK kvs)/\k=!kvs.isEmpty:=e;rcases e' with ⟨xs,hx,e'⟩|⟨xs,hx,e'⟩|⟨kvs,hx,e'⟩
  ·subst e';obtain ⟨its,r,pl,hz⟩:=I.list hx;have hlen:=r.length;exact wpAny_truthy_list pl.isList (by simp only [size_toArray];omega) ⟨H,I.tok _,by rw [Xg r];exact q⟩
  ·subst e';obtain ⟨its,r,pl,hz⟩:=I.tuple hx;have hlen:=r.length;exact truthy_tuple pl (by simp only [size_toArray];omega) ⟨H,I.tok _,by rw [Xg r];exact q⟩
  ·subst e';obtain ⟨hz,hS,vs,r,m⟩:kvs.length<=sizeLine/\(p == sysModules)=false/\∃ vs,KV kvs vs/\s.heap.DictOf (Vg X.prog X.w) p vs:=I.hok p _ hx;have hlen:kvs.length=vs.length:=Paired.length r;exact wpAny_truthy_dict hS m (by omega) ⟨H,I.tok _,by rw [zby r];exact q⟩
 | _=>exact (show False from e).elim
def trq (K:PySem.W.Frag) (x:V) (H:Hp) (Q:Bool->Hp->Prop):Prop :=
 match x with
 | .bl b=>Q b H
 | x=>∃ k,zdy K x H k/\Q k H
theorem zf9 {K:PySem.W.Frag} {x:V} {H:Hp} {Q:Bool->Hp->Prop} (h:trq K x H Q):∃ k,zdy K x H k/\Q k H:=by
 cases x <;> first|exact ⟨_,rfl,h⟩|exact h
def tTru (K:PySem.W.Frag) (ta:TE):TT:=λ σ H Q=>ta σ H λ x H'=>trq K x H' Q
theorem qT (ha:PE X a ta) (he:∀ whole,isTrue a X.env whole=(do let v <- whole;standAt a.pos;holding [v] (truthy v))) :
  PT X a (tTru X.K ta):=by
 intro pins s σ H Q I h;exact isTrue_plain (qp (ha pins s σ H _ I h) λ v s1 x H1 I1 r1 q1=>zf8 pins s1 σ H1 x v Q I1 r1 (zf9 q1)) (he _)
theorem op_add_str:OpR X (binaryOp .Add) (λ x y H Q=>∃ i j,x=.str i/\y=.str j/\i.length + j.length<=sizeLine/\Q (.str (i ++ j)) H):=by
 intro pins s σ H x y v u Q I rx ry h;obtain ⟨i,j,rfl,rfl,hz,q⟩:=h;obtain ⟨t,rfl⟩:=rx;obtain ⟨t',rfl⟩:=ry;exact add_str (λ t' tk=>⟨.str (i ++ j),H,I.tok _,⟨_,rfl⟩,q⟩) hz
theorem Qt {x:V} {us:List Value} (r:Vals [x] us):∃ u,us=[u]/\RelV x u:=by
 cases r with
 | cons r1 r2=>cases r2;exact ⟨_,rfl,r1⟩
theorem zfQ {x y:V} {us:List Value} (r:Vals [x,y] us):∃ u w',us=[u,w']/\RelV x u/\RelV y w':=by
 cases r with
 | cons r1 r2 =>
  cases r2 with
  | cons r3 r4=>cases r4;exact ⟨_,_,rfl,r1,r3⟩
theorem zdm (hc:X.calm=true):CallR X (.builtin "max") (λ xs H Q=>∃ i j,xs=[.int i,.int j]/\Q (.int (if j > i then j else i)) H):=by
 intro pins s σ H xs us Q I r h;obtain ⟨i,j,rfl,q⟩:=h;obtain ⟨u,w',rfl,⟨t,rfl⟩,⟨t',rfl⟩⟩:=zfQ r;refine max_two_ints (I.ok.hd hc) λ h' tk k=>⟨_,H,I.kept k,?_,q⟩;by_cases hj:j > i
 ·rw [if_pos hj,if_pos hj];exact ⟨_,rfl⟩
 ·rw [if_neg hj,if_neg hj];exact ⟨_,rfl⟩
def zhw (K:PySem.W.Frag) (x:V) (H:Hp) (n:Nat):Prop :=
 match x with
 | .str y=>y.length<=sizeLine/\n=y.length
 | .byt y=>y.size<=sizeLine/\n=y.size
 | .ref p=>(∃ xs,SqL K H p xs/\n=xs.length)\/∃ xs,SqT K H p xs/\n=xs.length
 | _=>False
theorem zeM:CallR X (.builtin "len") (λ xs H Q=>∃ x n,xs=[x]/\zhw X.K x H n/\Q (.int n) H):=by
 intro pins s σ H xs us Q I r h;obtain ⟨x,n,rfl,e,q⟩:=h;obtain ⟨u,rfl,rx⟩:=Qt r;have hl:=Zc;have hs:sizeLine=16777216:=sizeLine_eq;cases x with
 | str y =>
  obtain ⟨t,rfl⟩:=rx;obtain ⟨hy,e'⟩:y.length<=sizeLine/\n=y.length:=e;subst e';exact len_str (by omega) ⟨.int _,H,I.tok _,⟨_,rfl⟩,q⟩
 | byt y =>
  obtain ⟨t,rfl⟩:=rx;obtain ⟨hy,e'⟩:y.size<=sizeLine/\n=y.size:=e;subst e';exact PySem.W.len_bytes (by omega) ⟨.int _,H,I.tok _,⟨_,rfl⟩,q⟩
 | ref p =>
  cases rx;have e':(∃ xs,SqL X.K H p xs/\n=xs.length)\/∃ xs,SqT X.K H p xs/\n=xs.length:=e;rcases e' with ⟨xs,hx,e'⟩|⟨xs,hx,e'⟩
  ·subst e';obtain ⟨its,r',pl,hz⟩:=I.list hx;have hlen:=r'.length;exact Calls.call_len_list pl.isList (by simp only [size_toArray];omega) ⟨.int xs.length,H,I.tok _,⟨_,by simp only [size_toArray];rw [hlen]⟩,q⟩
  ·subst e';obtain ⟨its,r',pl,hz⟩:=I.tuple hx;have hlen:=r'.length;exact len_tuple pl (by simp only [size_toArray];omega) ⟨.int xs.length,H,I.tok _,⟨_,by simp only [size_toArray];rw [hlen]⟩,q⟩
 | _=>exact (show False from e).elim
end
end L2
namespace L2
open PySem PySem.Spec PyProof.Rows
structure ObjM (h:Heap) (x dx C:Addr) (mA:Str->Option Value):Prop where
 obj:h.get? x=some (PySem.W.instObj C dx)
 ns:h.Ns1 dx mA
 ne:dx≠x
theorem zc3 {h:Heap} {dx:Addr} {mA:Str->Option Value} (n:h.Ns1 dx mA):∃ od,h.get? dx=some od/\∀ name,PySem.W.lookIn name od=some (mA name):=by
 obtain ⟨o,es,ep,ho,hd,hk,_,hm⟩:=n;refine ⟨o,ho,λ name=>?_⟩;have e:=hm name;unfold nsFind findBy at e;rw [<- Array.find?_toList] at e;unfold PySem.W.lookIn;rw [hd];dsimp only
 split
 ·rename_i y q;rw [q] at e;exact congrArg some e
 ·rename_i q;rw [q] at e;have a:es.toList.any (·.refKey)=false:=by
   rw [List.any_eq_false];intro y hy;obtain ⟨z,t,hkey⟩:=hk y (Array.mem_toList_iff.mp hy);simp [DictEntry.refKey,hkey]
  have a':¬ es.toList.any (·.refKey)=true:=by rw [a];exact Bool.false_ne_true
  rw [if_neg a'];exact congrArg some e
theorem ObjM.look {h:Heap} {x dx C:Addr} {mA:Str->Option Value} (I:ObjM h x dx C mA):∃ od,PySem.W.InstAt h x (PySem.W.instObj C dx) C (some od)/\∀ name,PySem.W.lookIn name od=some (mA name) :=
 let ⟨od,ho,hl⟩:=zc3 I.ns
 ⟨od,⟨I.obj,rfl,rfl,ho⟩,hl⟩
section
variable {prog:Program} {w:World} {A:Around} {E:Value->Shared->Prop} {s:Shared} {K:PySem.W.Frag} {x dx C f:Addr} {mA:Str->Option Value} {name:Str} {v:Value}
theorem zfA {expr:Bool} {Q:Value->Shared->Prop} (X:K.In s.heap) (I:ObjM s.heap x dx C mA) (hg:PySem.W.plainGet K C name=true) (hh:PySem.W.hasDictIn K C=true)
  (ha:PySem.W.findIn K (.ref C) name=some none) (hv:mA name=some v) (hv':PySem.W.handedIn v=true) (h:Q v { s with toks:=s.toks + 1 }) :
  wpAny (model prog w) A (getAttr (.ref x) name expr) Q E s:=by
 obtain ⟨od,J,hl⟩:=I.look;exact PySem.W.get_value X J (plainGet_of hg).1 (PySem.W.findObj_own hh ha rfl (by rw [hl,hv])) hv' h
theorem zez {pl:Sem Bool} {Q:Value × List Value->Shared->Prop} (X:K.In s.heap) (I:ObjM s.heap x dx C mA) (hg:PySem.W.plainGet K C name=true)
  (hf:PySem.W.findIn K (.ref C) name=some (some (.ref f))) (ht:PySem.W.isFn K (.ref f)=true) (hv:mA name=none) (h:Q (.ref f,[.ref x]) s) :
  wpAny (model prog w) A (getMethod (.ref x) name pl) Q E s:=by
 obtain ⟨od,J,hl⟩:=I.look;exact PySem.W.method_fn X J (plainGet_of hg).1 (plainGet_of hg).2 hf (beq_iff_eq.mp ht) (by show (PySem.W.lookIn name od).map (·.isSome)=some false;rw [hl,hv];rfl) h
theorem ze6 {ns:List Str} {Q:Unit->Shared->Prop} (X:K.In s.heap) (I:ObjM s.heap x dx C mA)
  (hs:PySem.W.findIn K (.ref C) "__setattr__"=some (some (.builtin "object.__setattr__"))) (hp:plainOver K C=true) (ht:PySem.W.takerIn K C name=some none) (hh:PySem.W.hasDictIn K C=true)
  (hw:PySem.Within mA ns) (hsz:ns.length<=sizeLine)
  (h:∀ h',ObjM h' x dx C (λ y=>if y=name then some v else mA y)->Heap.SameBut dx s.heap h'->Q () { s with heap:=h',toks:=s.toks + 2 }) :
  wpAny (model prog w) A (setAttr (.ref x) name v) Q E s:=by
 obtain ⟨od,J,hl⟩:=I.look;refine PySem.W.set_plain X J hs (PySem.W.osa_open (s:={ s with toks:=s.toks + 1 }) (r:=none) X J hp ht λ b=>?_);obtain ⟨cd,hc,hd'⟩:=any_some hh;have hx:s.heap.get? x=some ⟨.ref C,some dx,.plain,#[]⟩:=I.obj;refine wpAny_bind (wpAny_pure (wpAny_bind (wpAny_bind (wpAny_loadPart hx (wpAny_bind (PySem.W.Looks.here (s:={ s with toks:=s.toks + 1 }) (PySem.W.looks_clsIn X hc) ?_))))));rw [hd'];refine wpAny_pure (a:=some dx) (wpAny_bind (wpAny_pure (wpAny_bind ?_)));refine wpAny_nsSet1 (s:={ s with toks:=s.toks + 1 }) I.ns λ h' hn2 hs2=>?_;obtain ⟨oD,esD,epD,hoD,hdD,hcD⟩:=hn2.count (PySem.Within.cons name v hw);refine wpAny_bind (wpAny_lookBehind hoD (by rw [hdD];exact pastItsLine_dict (Nat.le_trans hcD (by rw [length_cons];omega))) ?_);exact wpAny_pure (h _ ⟨(hs2.2 _ (Ne.symm I.ne)).trans I.obj,hn2,I.ne⟩ hs2)
theorem zap {R:Result->Shared->Prop} {vs:List Value} {kw:List (Str × Value)} (X:K.In s.heap) (hm:PySem.W.makesIn K C=true)
  (hi:PySem.W.findIn K (.ref C) "__init__"=some (some (.ref f))) (hf:PySem.W.typeIn K (.ref f)=some (.type "function"))
  (h:codeAny (model prog w) (A.under (.builtin "type.__call__" ⟨.ref C :: vs,kw⟩)) (.call (.ref f) ⟨.ref (s.heap.objs.size + 1) :: vs,kw⟩) (PySem.W.InitBack (s.heap.objs.size + 1) R)
   { s with heap:=(s.heap.push emptyDict).push (PySem.W.instObj C s.heap.objs.size) }) :
  codeAny (model prog w) A (.call (.ref C) ⟨vs,kw⟩) R s:=by
 obtain ⟨hh,g,d,t,os⟩:=s;exact PySem.W.make_core (PySem.W.makes_of X hm) (looks_findIn X hi) (λ self=>PySem.W.bind_fn X self hf) (.inl rfl) h
end
def z7 (f:Str) (v:V):List (Str × V)->List (Str × V)
 | []=>[(f,v)]
 | (g,x) :: r=>if g=f then (g,v) :: r else (g,x) :: z7 f v r
theorem zY (f g:Str) (v:V):∀ fs:List (Str × V),(z7 f v fs).lookup g=if g=f then some v else fs.lookup g
 | []=>by
  show List.lookup g [(f,v)]=_
  by_cases h:g=f
  ·have hb:(g == f)=true:=beq_iff_eq.mpr h;simp only [List.lookup,hb,if_pos h]
  ·have hb:(g == f)=false:=beq_eq_false_iff_ne.mpr h;simp only [List.lookup,hb,if_neg h]
 | (k,x) :: r=>by
  have ih:=zY f g v r;rw [show z7 f v ((k,x) :: r)=(if k=f then (k,v) :: r else (k,x) :: z7 f v r) from rfl];by_cases hk:k=f
  ·rw [if_pos hk];by_cases h:g=k
   ·have hb:(g == k)=true:=beq_iff_eq.mpr h;simp only [List.lookup,hb,if_pos (h.trans hk)]
   ·have hb:(g == k)=false:=beq_eq_false_iff_ne.mpr h;simp only [List.lookup,hb,if_neg (λ e:g=f=>h (e.trans hk.symm))]
  ·rw [if_neg hk];by_cases h:g=k
   ·have hb:(g == k)=true:=beq_iff_eq.mpr h;simp only [List.lookup,hb,if_neg (λ e:g=f=>hk (h.symm.trans e))]
   ·have hb:(g == k)=false:=beq_eq_false_iff_ne.mpr h;simp only [List.lookup,hb];exact ih
theorem Qk (f:Str) (v:V):∀ fs:List (Str × V),f∈(z7 f v fs).map (·.1)/\∀ g,g∈fs.map (·.1)->g∈(z7 f v fs).map (·.1)
 | []=>⟨by simp [z7],λ g h=>by simp at h⟩
 | (k,x) :: r=>by
  obtain ⟨i1,i2⟩:=Qk f v r;rw [show z7 f v ((k,x) :: r)=(if k=f then (k,v) :: r else (k,x) :: z7 f v r) from rfl];by_cases hk:k=f
  ·rw [if_pos hk];subst hk;exact ⟨by simp,λ g h=>by simpa using h⟩
  ·rw [if_neg hk];refine ⟨?_,λ g h=>?_⟩
   ·rw [map_cons];exact mem_cons_of_mem _ i1
   ·rw [map_cons] at h ⊢;rcases List.mem_cons.mp h with e|e
    ·exact List.mem_cons.mpr (.inl e)
    ·exact mem_cons_of_mem _ (i2 g e)
theorem xC (f:Str) (v:V):∀ fs:List (Str × V),(z7 f v fs).length<=fs.length + 1
 | []=>by simp [z7]
 | (k,x) :: r=>by
  have ih:=xC f v r;rw [show z7 f v ((k,x) :: r)=(if k=f then (k,v) :: r else (k,x) :: z7 f v r) from rfl];by_cases hk:k=f
  ·rw [if_pos hk,length_cons,length_cons];omega
  ·rw [if_neg hk,length_cons,length_cons];omega
theorem RelO.some_of {v:V} {o:Option Value} (r:RelO (some v) o):∃ u,o=some u/\RelV v u:=by
 cases o with
 | none=>exact (show False from r).elim
 | some u=>exact ⟨u,rfl,r⟩
theorem RelO.none_of {o:Option Value} (r:RelO none o):o=none:=by
 cases o with
 | none=>rfl
 | some u=>exact (show False from r).elim
theorem zde {v:V} {u:Value} (r:RelV v u):PySem.W.handedIn u=true:=by
 cases v with
 | non=>cases (show u=Value.none from r);rfl
 | bl b=>cases (show u=Value.bool b from r);rfl
 | int i=>obtain ⟨t,e⟩:=(show ∃ t,u=Value.int i t from r);cases e;rfl
 | str x=>obtain ⟨t,e⟩:=(show ∃ t,u=Value.str x t from r);cases e;rfl
 | byt b=>obtain ⟨t,e⟩:=(show ∃ t,u=Value.bytes b t from r);cases e;rfl
 | flt b=>obtain ⟨t,e⟩:=(show ∃ t,u=Value.float b t from r);cases e;rfl
 | ref a=>cases (show u=Value.ref a from r);rfl
 | ty n=>cases (show u=Value.type n from r);rfl
section
variable {P:Program} {w:World} {H H':Hp} {h h':Heap} {a C dx:Addr} {fs fs':List (Str × V)}
theorem Ji (hok:HOk P w H h) (e:H a=some (.ins C dx fs)):∃ mA,ObjM h a dx C mA/\(∀ f,RelO (fs.lookup f) (mA f))/\PySem.Within mA (fs.map (·.1))/\fs.length<=1000/\H dx=some (.own a):=by
 obtain ⟨d,z,ne,ob,mA,n,r,q⟩:=(show ObjOk P w H h a (.ins C dx fs) from hok a _ e);exact ⟨mA,⟨ob,n,ne⟩,r,q,z,d⟩
end
structure Cls (K:PySem.W.Frag) (C:Addr):Prop where
 pg:PySem.W.plainGet K C Str.empty=true
 hd:PySem.W.hasDictIn K C=true
 po:plainOver K C=true
 sa:PySem.W.findIn K (.ref C) "__setattr__"=some (some (.builtin "object.__setattr__"))
theorem Cls.get {K:PySem.W.Frag} {C:Addr} (c:Cls K C) (f:Str):PySem.W.plainGet K C f=true:=c.pg
def NoAttr (K:PySem.W.Frag) (C:Addr) (f:Str):Prop:=PySem.W.findIn K (.ref C) f=some none
theorem NoAttr.taker {K:PySem.W.Frag} {C:Addr} {f:Str} (n:NoAttr K C f):PySem.W.takerIn K C f=some none:=by
 unfold PySem.W.takerIn;rw [show PySem.W.findIn K (.ref C) f=some none from n]
 rfl
structure Meth (K:PySem.W.Frag) (C:Addr) (m:Str) (f:Addr):Prop where
 at_:PySem.W.findIn K (.ref C) m=some (some (.ref f))
 fn:PySem.W.isFn K (.ref f)=true
 kp:PySem.W.keepIn K (.ref f)=true
section
variable {X:Cx} {pins:List (Addr × Obj)} {σ:St} {H:Hp} {s:Shared} {a C dx:Addr} {fs:List (Str × V)} {f:Str} {v:V} {A:Around} {E:Value->Shared->Prop}
theorem Xi {b:Bool} {Q:Value->Shared->Prop} (I:Inv X pins σ H s) (e:H a=some (.ins C dx fs)) (c:Cls X.K C) (n:NoAttr X.K C f) (l:fs.lookup f=some v)
  (h:∀ u s',Inv X pins σ H s'->RelV v u->Q u s'):wpAny (model X.prog X.w) A (getAttr (.ref a) f b) Q E s:=by
 obtain ⟨mA,O,r,_,_,_⟩:=Ji I.hok e;obtain ⟨u,hu,ru⟩:=RelO.some_of (v:=v) (o:=mA f) (by rw [<- l];exact r f);exact zfA I.kIn O (c.get f) c.hd n hu (zde ru) (h u _ (I.tok _) ru)
theorem Ze {m:Str} {g:Addr} {pl:Sem Bool} {Q:Value × List Value->Shared->Prop} (I:Inv X pins σ H s) (e:H a=some (.ins C dx fs)) (c:Cls X.K C) (k:Meth X.K C m g) (l:fs.lookup m=none)
  (h:Q (.ref g,[.ref a]) s):wpAny (model X.prog X.w) A (getMethod (.ref a) m pl) Q E s:=by
 obtain ⟨mA,O,r,_,_,_⟩:=Ji I.hok e;have hn:mA m=none:=RelO.none_of (by rw [<- l];exact r m);exact zez I.kIn O (c.get m) k.at_ k.fn hn h
theorem Jx {y:V} {u:Value} {Q:Unit->Shared->Prop} (I:Inv X pins σ H s) (e:H a=some (.ins C dx fs)) (c:Cls X.K C) (n:NoAttr X.K C f) (hl:fs.length < 1000) (ry:RelV y u)
  (h:∀ s',Inv X pins σ (upd H a (.ins C dx (z7 f y fs))) s'->Q () s'):wpAny (model X.prog X.w) A (setAttr (.ref a) f u) Q E s:=by
 obtain ⟨mA,O,r,wi,_,ho⟩:=Ji I.hok e;have hz:(fs.map (·.1)).length<=sizeLine:=by rw [length_map,sizeLine_eq];omega
 refine ze6 I.kIn O c.sa c.po n.taker c.hd wi hz λ h' O' sb=>h _ ?_;have hd:∃ o,h'.get? dx=some o:=let ⟨o,_,_,e',_⟩:=O'.ns;⟨o,e'⟩
 refine I.write (x:=a) (e:=dx) (by rw [e];exact True.intro) (.inr ho) (λ b q hb z=>(sb.2 b hb).trans z) hd ?_;refine ⟨by rw [upd_ne O.ne];exact ho,?_,O.ne,O'.obj,_,O'.ns,λ g=>?_,λ g hg=>?_⟩
 ·have:=xC f y fs;omega
 ·show RelO ((z7 f y fs).lookup g) (if g=f then some u else mA g)
  rw [zY];by_cases q:g=f
  ·rw [if_pos q,if_pos q];exact ry
  ·rw [if_neg q,if_neg q];exact r g
 ·by_cases q:g=f
  ·rw [q];exact (Qk f y fs).1
  ·refine (Qk f y fs).2 g (wi g λ z=>hg ?_);show (if g=f then some u else mA g)=none
   rw [if_neg q];exact z
theorem Inv.made (I:Inv X pins σ H s):Inv X pins σ (upd (upd H s.heap.objs.size (.own (s.heap.objs.size + 1))) (s.heap.objs.size + 1) (.ins C s.heap.objs.size []))
  { s with heap:=(s.heap.push emptyDict).push (PySem.W.instObj C s.heap.objs.size) }:=by
 have e1:(s.heap.push emptyDict).get? s.heap.objs.size=some emptyDict:=Heap.get?_push_size s.heap rfl;have e2:((s.heap.push emptyDict).push (PySem.W.instObj C s.heap.objs.size)).get? (s.heap.objs.size + 1)=some (PySem.W.instObj C s.heap.objs.size):=by
  have:=Heap.get?_push_size (s.heap.push emptyDict) (o:=PySem.W.instObj C s.heap.objs.size) rfl
  rwa [Heap.size_push] at this
 have e3:(s.heap.push emptyDict).Ns s.heap.objs.size (λ _=>none):=⟨emptyDict,#[],_,e1,rfl,(λ e he=>absurd he (by simp)),λ _=>rfl⟩;have I1:=I.laid (a:=s.heap.objs.size) (o:=.own (s.heap.objs.size + 1)) (h':=s.heap.push emptyDict) (t':=s.toks) (λ b u q=>Heap.get?_push_of_some _ q) (Nat.le_refl _) ⟨_,e1⟩;refine I1.laid (a:=s.heap.objs.size + 1) (o:=.ins C s.heap.objs.size []) (t':=s.toks) (λ b u q=>Heap.get?_push_of_some _ q) (Nat.le_of_eq (Heap.size_push _ _)) ?_;have ne:s.heap.objs.size≠s.heap.objs.size + 1:=Nat.ne_of_lt (Nat.lt_succ_self _);refine ⟨by rw [upd_ne ne,upd_same],Nat.zero_le _,ne,e2,λ _=>none,(Heap.Ns1.of_empty e3).at λ o q=>Heap.get?_push_of_some _ q,λ _=>True.intro,λ y hy=>absurd rfl hy⟩
theorem zfL {prog:Program} {w:World} {env:Env} {e:Expr} {f:Str} {pos:Pos} {s:Shared} {Q:Value->Shared->Prop} (hb:attributeBase e f env (eval e env)=eval e env)
  (h:wpAny (model prog w) A (eval e env) (λ o s₁=>wpAny (model prog w) A (getAttr o f true) Q E s₁) E s):wpAny (model prog w) A (eval (.Attribute e f pos) env) Q E s :=
 Attribute_any_ h (by rw [arm_eval_Attribute,hb])
end
def tFld (K:PySem.W.Frag) (ta:TE) (f:Str):TE:=λ σ H Q=>ta σ H λ x H1=>∃ a C dx fs v,x=.ref a/\H1 a=some (.ins C dx fs)/\Cls K C/\NoAttr K C f/\fs.lookup f=some v/\Q v H1
def sFld (K:PySem.W.Frag) (ta tv:TE) (f:Str):TS:=λ D σ H=>tv σ H λ y H1=>ta σ H1 λ x H2=>∃ a C dx fs,x=.ref a/\H2 a=some (.ins C dx fs)/\Cls K C/\NoAttr K C f/\fs.length < 1000 /\
 D.nx σ (upd H2 a (.ins C dx (z7 f y fs)))
def zhx (X:Cx) (op:Operator) (rd:V->V->Hp->VK->Prop):Prop :=
 ∀ (pins:List (Addr × Obj)) (s:Shared) (σ:St) (H:Hp) (x y:V) (u v:Value) (Q:VK),Inv X pins σ H s->RelV x u->RelV y v->rd x y H Q->wpAny (model X.prog X.w) X.A (inplaceOp op u v) (EP X pins σ Q) X.xe s
def ze7 (K:PySem.W.Frag) (ta tv:TE) (rd:V->V->Hp->VK->Prop) (f:Str):TS:=λ D σ H=>ta σ H λ x H1=>∃ a C dx fs v,x=.ref a/\H1 a=some (.ins C dx fs)/\Cls K C/\NoAttr K C f/\fs.lookup f=some v /\
 tv σ H1 λ y H2=>rd v y H2 λ z H3=>∃ dx' fs',H3 a=some (.ins C dx' fs')/\fs'.length < 1000/\D.nx σ (upd H3 a (.ins C dx' (z7 f z fs')))
section
variable {X:Cx} {o e value:Expr} {f:Str} {pos pos' tpos:Pos} {ta tv:TE}
theorem zl (he:PE X e ta) (hb:attributeBase e f X.env (eval e X.env)=eval e X.env):PE X (.Attribute e f pos) (tFld X.K ta f):=by
 intro pins s σ H Q I h;refine zfL hb (qp (he pins s σ H _ I h) λ u s1 x H1 I1 rx qq_=>?_);obtain ⟨a,C,dx,fs,v,ex,ea,c,n,l,q⟩:=qq_;subst ex;obtain rfl:u=Value.ref a:=rx;exact Xi I1 ea c n l λ u' s2 I2 ru=>⟨v,H1,I2,ru,q⟩
theorem jv (ha:PE X o ta) (hv:PE X value tv) (hs:swapsWith value (some (.Attribute o f pos')) pos.line X.env=pure false):PS X (.Assign [.Attribute o f pos'] value pos) (sFld X.K ta tv f):=by
 intro pins s σ H D I h;refine plainObj_wpAny_Assign_Attribute (qp (hv pins s σ H _ I h) λ u s1 y H1 I1 ry q=>qp (ha pins s1 σ H1 _ I1 q) λ ov s2 x H2 I2 rx qq_=>?_) hs;obtain ⟨a,C,dx,fs,ex,ea,c,n,l,q2⟩:=qq_;subst ex;obtain rfl:ov=Value.ref a:=rx;exact Jx I2 ea c n l ry λ s3 I3=>⟨σ,_,I3,q2⟩
theorem zcP {op:Operator} {rd:V->V->Hp->VK->Prop} (ha:PE X o ta) (hv:PE X value tv) (hop:zhx X op rd):PS X (.AugAssign (.Attribute o f tpos) op value pos) (ze7 X.K ta tv rd f):=by
 intro pins s σ H D I h;refine wpAny_AugAssign_AttributeAny (qp (ha pins s σ H _ I h) λ ov s1 x H1 I1 rx qq_=>?_);obtain ⟨a,C,dx,fs,v,ex,ea,c,n,l,q⟩:=qq_;subst ex;obtain rfl:ov=Value.ref a:=rx;refine Xi I1 ea c n l λ u s2 I2 ru=>qp (hv pins s2 σ H1 _ I2 q) λ w3 s3 y H2 I3 ry q3=>thn (hop pins s3 σ H2 v y u w3 _ I3 ru ry q3) λ w4 s4 ⟨z,H3,I4,rz,dx',fs',ea',l',q4⟩=>?_;exact Jx I4 ea' c n l' rz λ s5 I5=>⟨σ,_,I5,q4⟩
def zhG:V->V->Hp->VK->Prop:=λ x y H Q=>∃ i j,x=.int i/\y=.int j/\Q (.int (i + j)) H
theorem zgJ:zhx X .Add zhG:=by
 rintro pins s σ H x y u v Q I rx ry ⟨i,j,rfl,rfl,q⟩;obtain ⟨t,rfl⟩:=(show ∃ t,u=Value.int i t from rx);obtain ⟨t',rfl⟩:=(show ∃ t',v=Value.int j t' from ry);exact PyProof.Rows.iadd_int ⟨.int (i + j),H,I.tok _,⟨_,rfl⟩,q⟩
end
section
variable {X:Cx} {pins:List (Addr × Obj)} {σ:St} {H:Hp} {s:Shared} {A:Around} {E:Value->Shared->Prop} {Q:Value->Shared->Prop} {c:Value} {b:Bool}
inductive TyOf (K:PySem.W.Frag) (H:Hp):V->Value->Prop where
 | non:TyOf K H .non (.type "NoneType")
 | bl (x:Bool):TyOf K H (.bl x) (.type "bool")
 | int (i:Int):TyOf K H (.int i) (.type "int")
 | str (x:Str):TyOf K H (.str x) (.type "str")
 | flt (x:UInt64):TyOf K H (.flt x) (.type "float")
 | lst {a:Addr} {xs:List V} (e:H a=some (.lst xs)):TyOf K H (.ref a) (.type "list")
 | frz {a:Addr} {o:Obj} {xs:List V} (e:H a=some (.frz o (.lst xs))):TyOf K H (.ref a) (.type "list")
 | tup {a:Addr} {xs:List V} (e:H a=some (.tup xs)):TyOf K H (.ref a) (.type "tuple")
 | dK {a:Addr} {kvs:List (Key × V)} (e:H a=some (.dK kvs)):TyOf K H (.ref a) (.type "dict")
 | dT {a:Addr} {kvs:List (List Key × V)} (e:H a=some (.dT kvs)):TyOf K H (.ref a) (.type "dict")
 | ins {a C dx:Addr} {fs:List (Str × V)} (e:H a=some (.ins C dx fs)) (cl:Cls K C) (ha:PySem.W.findIn K (.ref C) "__class__"=some (some (.builtin "object.__class__")))
   (hn:PySem.W.specialIn K (.builtin "object.__class__") "__get__"=some (some (.builtin "getset_descriptor.__get__"))) (htk:PySem.W.takesIn K (.builtin "object.__class__")=some true)
   (hm:mroIn K C (.type "object")=some true):TyOf K H (.ref a) (.ref C)
end
end L2
namespace L2
open PySem PySem.Spec PyProof.Rows
structure Room (k:Nat) (A:Around):Prop where
 hd:A.handled=none
 dp:A.depth + 3 * k + 5 < recursionLimit
 un:A.units + 16 * k + 200 < cLine
theorem Room.mono {j k:Nat} {A:Around} (r:Room k A) (h:j<=k):Room j A:=⟨r.hd,by have:=r.dp;omega,by have:=r.un;omega⟩
theorem Room.deeper {k:Nat} {A:Around} (r:Room (k + 1) A) (env:Env):Room k (A.deeper env) :=
 ⟨r.hd,by have:=r.dp;show A.depth + 1 + 3 * k + 5 < _;omega,by have:=r.un;show A.units + 3 + 16 * k + 200 < _;omega⟩
theorem Room.in1 {k:Nat} {A:Around} (r:Room (k + 1) A):Room k A.in1 :=
 ⟨r.hd,by have:=r.dp;show A.depth + 3 * k + 5 < _;omega,by have:=r.un;show A.units + 1 + 16 * k + 200 < _;omega⟩
theorem zbu {A:Around} {C:Addr} {us:List Value} {kw:List (Str × Value)}:(A.under (.builtin "type.__call__" ⟨.ref C :: us,kw⟩)).depth=A.depth + 1:=by
 first|rfl|simp [Around.under,Code.weight,Code.isCreation,Code.isGuard,Code.isCaller,Code.frames,Code.isFrame,guardIds]
theorem zbt {A:Around} {C:Addr} {us:List Value} {kw:List (Str × Value)}:(A.under (.builtin "type.__call__" ⟨.ref C :: us,kw⟩)).units=A.units + 1:=by
 first|rfl|simp [Around.under,Code.cUnits,Code.frames,Code.isFrame]
theorem Room.make {k:Nat} {A:Around} (r:Room (k + 1) A) (C:Addr) (us:List Value) (kw:List (Str × Value)):Room k (A.under (.builtin "type.__call__" ⟨.ref C :: us,kw⟩)) :=
 ⟨r.hd,by have:=r.dp;rw [zbu];omega,by have:=r.un;rw [zbt];omega⟩
theorem Room.depth {k:Nat} {A:Around} (r:Room k A):A.depth < recursionLimit:=by have:=r.dp;omega
theorem Room.units {k:Nat} {A:Around} (r:Room k A):A.units + 64 < cLine:=by have:=r.un;omega
def tNil:TA:=λ _ H Q=>Q [] H
def tCons (ta:TE) (tr:TA):TA:=λ σ H Q=>ta σ H λ x H1=>tr σ H1 λ xs H2=>Q (x :: xs) H2
section
variable {X:Cx} {e:Expr} {es:List Expr} {te:TE} {t:TA} {pos:Pos}
theorem zc:PA X [] tNil:=λ _ _ _ _ H Q I h=>Calls.spliced_nil ⟨[],H,I,.nil,h⟩
theorem za (ha:PE X e te) (hr:PA X es t) (hs:starEach (e :: es) X.env=(false,eval e X.env) :: starEach es X.env:=by rfl):PA X (e :: es) (tCons te t):=by
 intro pos pins s σ H Q I h;rw [hs];show wpAny _ _ (spliced ((false,eval e X.env) :: backTo pos (starEach es X.env))) _ _ s
 refine Calls.spliced_cons (qp (ha pins s σ H _ I h) λ u s1 x H1 I1 r1 q1=>?_);exact vz (hr pos pins s1 σ H1 _ I1 q1) λ us s2 xs H2 I2 r2 q2=>⟨x :: xs,H2,I2,.cons r1 r2,q2⟩
def tTup (t:TA):TE:=λ σ H Q=>t σ H λ xs H1=>szl xs (∀ p,H1 p=none->Q (.ref p) (upd H1 p (.tup xs)))
def tLst (t:TA):TE:=λ σ H Q=>t σ H λ xs H1=>szl xs (∀ p,H1 p=none->Q (.ref p) (upd H1 p (.lst xs)))
theorem qI {x1} (h:PA X es t):PE X (.Tuple es x1 pos) (tTup t):=by
 intro pins s σ H Q I hq;refine wpAny_Tuple_spliced (vz (h pos pins s σ H _ I hq) λ us s1 xs H1 I1 r q=>let ⟨z,q⟩:=zaP q;⟨by rw [<- r.length];exact z,?_⟩);have hf:H1 s1.heap.objs.size=none:=I1.hok.fresh (Nat.le_refl _);refine ⟨.ref s1.heap.objs.size,upd H1 s1.heap.objs.size (.tup xs),I1.laid (t':=s1.toks) (λ b u e=>Heap.get?_push_of_some _ e) (Nat.le_refl _) ?_,rfl,q _ hf⟩;exact ⟨z,us,r,⟨_,Heap.get?_push_size _ rfl,rfl,_,rfl⟩⟩
theorem zz (h:PA X es t):PE X (.List es pos) (tLst t):=by
 intro pins s σ H Q I hq;refine wpAny_List_spliced (vz (h pos pins s σ H _ I hq) λ us s1 xs H1 I1 r q=>let ⟨z,q⟩:=zaP q;⟨by rw [<- r.length];exact z,?_⟩);have hf:H1 s1.heap.objs.size=none:=I1.hok.fresh (Nat.le_refl _);refine ⟨.ref s1.heap.objs.size,upd H1 s1.heap.objs.size (.lst xs),I1.laid (t':=s1.toks) (λ b u e=>Heap.get?_push_of_some _ e) (Nat.le_refl _) ?_,rfl,q _ hf⟩;exact ⟨z,us,0,r,Heap.get?_push_size _ rfl⟩
end
abbrev Sp:=List V->Hp->VK->XK->Prop
abbrev CXT:=List Env->Hp->Shared->XK->Value->Shared->Prop
structure Env0 (P:Program) (w:World) (K:PySem.W.Frag) (mg:Str->Option Value) (base:Heap) (A:Around) (outer:List Env) (s:Shared) (H:Hp):Prop where
 frames:A.frames=some outer
 mod:Mod K mg base
 bs:∀ b o,base.get? b=some o->s.heap.get? b=some o/\H b=none
 bsz:base.objs.size<=s.heap.objs.size
 funs:s.heap.FunFrames base outer
 frf:∀ b∈frs outer,H b=none
 hok:HOk P w H s.heap
 bare:AllBare s.gens
def CE (outer:List Env) (P:Program) (w:World) (H:Hp) (s:Shared) (Q:VK) (u:Value) (s':Shared):Prop :=
 ∃ v H',s'.os=s.os/\AllBare s'.gens/\Un (frs outer) [] H H' s.heap s'.heap/\HOk P w H' s'.heap/\RelV v u/\Q v H'
def CR (CX:CXT) (outer:List Env) (P:Program) (w:World) (H:Hp) (s:Shared) (Q:VK) (E:XK) (r:Result) (s':Shared):Prop :=
 match r with
 | .ok (.ret u)=>CE outer P w H s Q u s'
 | .ok _=>False
 | .error e=>CX outer H s E e s'
structure FnOk (P:Program) (w:World) (K:PySem.W.Frag) (mg:Str->Option Value) (base:Heap) (CX:CXT) (k:Nat) (f:Addr) (fd:FuncData) (ps:List Str) (sp:Sp):Prop where
 len:∀ vs H Q E,sp vs H Q E->vs.length=ps.length
 run:∀ (A:Around) (outer:List Env) (s:Shared) (H:Hp) (args:Args) (us:List Value) (vs:List V) (Q:VK) (E:XK),Room k A->Env0 P w K mg base A outer s H->BindsTo s fd args (ps.zip us)->Vals vs us->sp vs H Q E ->
  codeAny (model P w) A (.call (.ref f) args) (CR CX outer P w H s Q E) s
theorem FnOk.mono {P:Program} {w:World} {K:PySem.W.Frag} {mg:Str->Option Value} {base:Heap} {CX:CXT} {j k:Nat} {f:Addr} {fd:FuncData} {ps:List Str} {sp:Sp} (F:FnOk P w K mg base CX j f fd ps sp) (h:j<=k) :
  FnOk P w K mg base CX k f fd ps sp:=⟨F.len,λ A outer s H args us vs Q E hr=>F.run A outer s H args us vs Q E (hr.mono h)⟩
theorem FnOk.imp {P:Program} {w:World} {K:PySem.W.Frag} {mg:Str->Option Value} {base:Heap} {CX:CXT} {k:Nat} {f:Addr} {fd:FuncData} {ps:List Str} {sp sp':Sp} (F:FnOk P w K mg base CX k f fd ps sp)
  (h:∀ vs H Q E,sp' vs H Q E->sp vs H Q E):FnOk P w K mg base CX k f fd ps sp' :=
 ⟨λ vs H Q E q=>F.len vs H Q E (h _ _ _ _ q),λ A outer s H args us vs Q E hr he hb hv hs=>F.run A outer s H args us vs Q E hr he hb hv (h _ _ _ _ hs)⟩
theorem Env0.make {P:Program} {w:World} {K:PySem.W.Frag} {mg:Str->Option Value} {base:Heap} {A:Around} {outer:List Env} {s:Shared} {H:Hp} (e:Env0 P w K mg base A outer s H) (C:Addr) (us:List Value) (kw:List (Str × Value)) :
  Env0 P w K mg base (A.under (.builtin "type.__call__" ⟨.ref C :: us,kw⟩)) outer s H:=⟨by first|exact e.frames|(simpa [Around.under,Code.envs,Code.isFrame,pushEnvs] using e.frames),e.mod,e.bs,e.bsz,e.funs,e.frf,e.hok,e.bare⟩
theorem Env0.in1 {P:Program} {w:World} {K:PySem.W.Frag} {mg:Str->Option Value} {base:Heap} {A:Around} {outer:List Env} {s:Shared} {H:Hp} (e:Env0 P w K mg base A outer s H) :
  Env0 P w K mg base A.in1 outer s H:=⟨e.frames,e.mod,e.bs,e.bsz,e.funs,e.frf,e.hok,e.bare⟩
section
variable {X:Cx} {pins:List (Addr × Obj)} {σ:St} {H:Hp} {s s':Shared}
theorem Inv.env0 (I:Inv X pins σ H s):Env0 X.prog X.w X.K X.mg X.base X.A X.stack s H :=
 ⟨I.ok.frames,I.ok.mod,I.bs,Nat.le_trans I.ok.bsz I.sz,I.stack,I.stkFree,I.hok,I.bare⟩
theorem Inv.after {Q:VK} {u:Value} (I:Inv X pins σ H s) (h:CE X.stack X.prog X.w H s Q u s'):EP X pins σ Q u s':=by
 obtain ⟨v,H',os,bare,un,hok,r,q⟩:=h;obtain ⟨hh,g,d,t,os'⟩:=s';obtain rfl:os'=s.os:=os;exact ⟨v,H',I.call (h':=hh) (g':=g) (d':=d) (t':=t) (ch:=[]) un hok bare (λ b z=>absurd z (by simp)),r,q⟩
end
def Binds (K:PySem.W.Frag) (fd:FuncData) (ps:List Str) (ds:List Value):Prop :=
 ∀ (s:Shared) (us:List Value),K.In s.heap->(us ++ ds).length=ps.length->BindsTo s fd ⟨us,[]⟩ (ps.zip (us ++ ds))
theorem Binds.all {K:PySem.W.Frag} {fd:FuncData} {ps:List Str} (h:∀ us:List Value,us.length=ps.length->bindArgs fd ⟨us,[]⟩=pure (ps.zip us)):Binds K fd ps []:=λ s us _ hl=>by
 rw [append_nil] at hl ⊢;exact .of_eq (h us hl)
def zbQ (CX:CXT) (X:Cx) (E:XK):Prop:=∀ (pins:List (Addr × Obj)) (σ:St) (H:Hp) (s:Shared) (e:Value) (s':Shared),Inv X pins σ H s->CX X.stack H s E e s'->X.xe e s'
section
variable {X:Cx} {CX:CXT} {k:Nat} {f C:Addr} {fd:FuncData} {ps:List Str} {sp:Sp} {dvs:List V} {ds:List Value} {E:XK} {x m:Str} {p pos apos:Pos} {e o:Expr} {es:List Expr} {ta:TE} {t:TA}
theorem zdP {pins:List (Addr × Obj)} {σ:St} {H:Hp} {s:Shared} {Q:VK} {us:List Value} {vs:List V} (F:FnOk X.prog X.w X.K X.mg X.base CX k f fd ps sp) (hr:Room k X.A) (hb:Binds X.K fd ps ds) (hd:Vals dvs ds) (hx:zbQ CX X E)
  (I:Inv X pins σ H s) (r:Vals vs us) (h:sp (vs ++ dvs) H Q E):wpAny (model X.prog X.w) X.A (call (.ref f) us) (EP X pins σ Q) X.xe s:=by
 have r2:Vals (vs ++ dvs) (us ++ ds):=r.append hd;have hl:(us ++ ds).length=ps.length:=by rw [<- r2.length];exact F.len _ _ _ _ h
 refine wpAny_call (codeAny_mono (F.run X.A X.stack s H ⟨us,[]⟩ (us ++ ds) (vs ++ dvs) Q E hr I.env0 (hb s us I.kIn hl) r2 h) λ r s' hq=>?_);cases r with
 | error e=>exact hx pins σ H s e s' I hq
 | ok fl =>
  cases fl with
  | ret u=>exact I.after hq
  | next=>exact False.elim hq
  | brk=>exact False.elim hq
  | cont=>exact False.elim hq
structure Mk (K:PySem.W.Frag) (C f:Addr):Prop where
 makes:PySem.W.makesIn K C=true
 init:PySem.W.findIn K (.ref C) "__init__"=some (some (.ref f))
 fn:PySem.W.isFn K (.ref f)=true
 kp:PySem.W.keepIn K (.ref C)=true
theorem zdO {pins:List (Addr × Obj)} {σ:St} {H:Hp} {s:Shared} {Q:VK} {us:List Value} {vs:List V} (M:Mk X.K C f) (F:FnOk X.prog X.w X.K X.mg X.base CX k f fd ps sp) (hr:Room (k + 1) X.A) (hb:Binds X.K fd ps ds) (hd:Vals dvs ds)
  (hx:zbQ CX X E) (I:Inv X pins σ H s) (r:Vals vs us)
  (h:∀ x dx,H x=none->H dx=none->dx≠x->sp (.ref x :: (vs ++ dvs)) (upd (upd H dx (.own x)) x (.ins C dx [])) (λ v H2=>v=.non/\Q (.ref x) H2) E) :
  wpAny (model X.prog X.w) X.A (call (.ref C) us) (EP X pins σ Q) X.xe s:=by
 have hq:=h (s.heap.objs.size + 1) s.heap.objs.size (I.hok.fresh (Nat.le_succ _)) (I.hok.fresh (Nat.le_refl _)) (Nat.ne_of_lt (Nat.lt_succ_self _));have I2:=Inv.made (C:=C) I;have r2:Vals (V.ref (s.heap.objs.size + 1) :: (vs ++ dvs)) (Value.ref (s.heap.objs.size + 1) :: (us ++ ds)):=.cons rfl (r.append hd);have hl:(Value.ref (s.heap.objs.size + 1) :: us ++ ds).length=ps.length:=by
  have e:=r2.length;rw [F.len _ _ _ _ hq] at e;exact e.symm
 refine wpAny_call (zap (f:=f) I.kIn M.makes M.init (beq_iff_eq.mp M.fn) (codeAny_mono (F.run _ X.stack _ _ ⟨Value.ref (s.heap.objs.size + 1) :: us,[]⟩ (Value.ref (s.heap.objs.size + 1) :: (us ++ ds)) _ _ E (hr.make C us [])
  (I2.env0.make C us []) (hb _ (Value.ref (s.heap.objs.size + 1) :: us) I2.kIn hl) r2 hq) λ r s' hq'=>?_))
 cases r with
 | error e=>exact hx pins σ _ _ e s' I2 hq'
 | ok fl =>
  cases fl with
  | ret u =>
   obtain ⟨v,H',I3,rv,ev,q3⟩:=I2.after hq';subst ev;exact ⟨rv,⟨V.ref (s.heap.objs.size + 1),H',I3,rfl,q3⟩⟩
  | next=>exact False.elim hq'
  | brk=>exact False.elim hq'
  | cont=>exact False.elim hq'
end
def PK (X:Cx) (kws:List Keyword) (t:TA):Prop :=
 ∀ (pos:Pos) (pins:List (Addr × Obj)) (s:Shared) (σ:St) (H:Hp) (Q:List V->Hp->Prop),Inv X pins σ H s->t σ H Q->wpAny (model X.prog X.w) X.A (evalAll ((backToKw pos (keywordEach kws X.env)).map (·.2))) (AP X pins σ Q) X.xe s
section
variable {X:Cx} {CX:CXT} {k:Nat} {f C:Addr} {fd:FuncData} {ps ks:List Str} {sp:Sp} {E:XK} {x m:Str} {p pos apos kpos:Pos} {e o:Expr} {es:List Expr} {kws:List Keyword} {te ta:TE} {t tk:TA} {nm:Option Str}
variable {g:List Value->List Value->List Value} {gV:List V->List V->List V}
end
structure FnScope (N P:List Str) (sc:Scope):Prop where
 kind:sc.kind=.function
 co:sc.isCoroutine=false
 gen:sc.isGenerator=false
 nd:N.Nodup
 pre:N.take P.length=P
 par:∀ x∈P,sc.names.lookup x=some .local\/sc.names.lookup x=some .cell
 nofree:∀ y∈sc.names,y.2≠.free
theorem Wq {kindOf:Str->Option NameKind} {x:Str}:∀ {binds:List (Str × Value)} {m:Str->Option Value},(∀ v,(x,v) ∉ binds)->bindL kindOf binds m x=m x
 | [],_,_=>rfl
 | (n,v) :: r,m,h=>by
  unfold bindL;rw [Wq λ w hw=>h w (mem_cons_of_mem _ hw)]
  split
  ·have:x≠n:=by rintro rfl;exact h v mem_cons_self
   simp [this]
  ·rfl
theorem Ws {kindOf:Str->Option NameKind} {x:Str}:∀ {binds:List (Str × Value)} {m:Str->Option Value},(∀ v,(x,v) ∉ binds)->bindC kindOf binds m x=m x
 | [],_,_=>rfl
 | (n,v) :: r,m,h=>by
  unfold bindC;rw [Ws λ w hw=>h w (mem_cons_of_mem _ hw)]
  split
  ·rfl
  ·have:x≠n:=by rintro rfl;exact h v mem_cons_self
   simp [this]
theorem Wr {kindOf:Str->Option NameKind} {x:Str} {v:Value}:∀ {P:List Str} {vs:List Value} {i:Nat} {m:Str->Option Value},P.Nodup->P[i]?=some x->vs[i]?=some v->kindOf x=some .local ->
  bindL kindOf (P.zip vs) m x=some v
 | [],_,_,_,_,h,_,_=>by simp at h
 | _ :: _,[],_,_,_,_,h,_=>by simp at h
 | p :: P,w :: vs,0,m,nd,h1,h2,hk=>by
  simp at h1 h2;subst h1;subst h2;show bindL kindOf ((p,w) :: P.zip vs) m p=_
  unfold bindL;rw [Wq λ v hv=>(List.nodup_cons.mp nd).1 (of_mem_zip hv).1,if_pos hk];simp
 | p :: P,w :: vs,i + 1,m,nd,h1,h2,hk=>by
  show bindL kindOf ((p,w) :: P.zip vs) m x=_
  unfold bindL;exact Wr (i:=i) (List.nodup_cons.mp nd).2 (by simpa using h1) (by simpa using h2) hk
theorem Wt {kindOf:Str->Option NameKind} {x:Str} {v:Value}:∀ {P:List Str} {vs:List Value} {i:Nat} {m:Str->Option Value},P.Nodup->P[i]?=some x->vs[i]?=some v->kindOf x≠some .local ->
  bindC kindOf (P.zip vs) m x=some v
 | [],_,_,_,_,h,_,_=>by simp at h
 | _ :: _,[],_,_,_,_,h,_=>by simp at h
 | p :: P,w :: vs,0,m,nd,h1,h2,hk=>by
  simp at h1 h2;subst h1;subst h2;show bindC kindOf ((p,w) :: P.zip vs) m p=_
  unfold bindC;rw [Ws λ v hv=>(List.nodup_cons.mp nd).1 (of_mem_zip hv).1,if_neg hk];simp
 | p :: P,w :: vs,i + 1,m,nd,h1,h2,hk=>by
  show bindC kindOf ((p,w) :: P.zip vs) m x=_
  unfold bindC;exact Wt (i:=i) (List.nodup_cons.mp nd).2 (by simpa using h1) (by simpa using h2) hk
def start (N:List Str) (vs:List V):St:=vs.map some ++ List.replicate (N.length - vs.length) none
def Q5 (CX:CXT) (P:Program) (w:World) (K:PySem.W.Frag) (mg:Str->Option Value) (base:Heap) (N:List Str) (qual:Str) (scope:Scope) (f:Addr) (cd:Value) (A:Around) (outer:List Env) (s:Shared) (H:Hp) (E:XK):Cx where
 prog:=P
 w:=w
 K:=K
 mg:=mg
 base:=base
 A:=A.deeper (envOfC qual scope s.heap.objs.size f cd)
 N:=N
 s₀:=s
 H₀:=H
 env:=envOfC qual scope s.heap.objs.size f cd
 outer:=outer
 stack:=envOfC qual scope s.heap.objs.size f cd :: outer
 ex:=[]
 calm:=true
 fn:=λ _=>true
 pn:=[]
 xe:=λ e s'=>wpAny (model P w) (A.deeper (envOfC qual scope s.heap.objs.size f cd)) (leaving (envOfC qual scope s.heap.objs.size f cd) e) (λ _ s''=>CX outer H s E e s'') (λ e' s''=>CX outer H s E e' s'') s'
theorem zaE {sc:Scope} {n:Nat} {x:Str} (h:sc.names.lookup x=some .cell):∃ c,(cellsFrom n sc.names []).lookup x=some c:=by
 have q:=PySem.W.cellsFrom_some sc.names n [] (.inl h);exact Option.isSome_iff_exists.mp q
theorem zc7 {CX:CXT} {P:Program} {w:World} {K:PySem.W.Frag} {mg:Str->Option Value} {base:Heap} {N ps:List Str} {qual:Str} {scope:Scope} {f:Addr} {cd:Value} {A:Around} {outer:List Env} {s s1:Shared} {H:Hp} {E:XK} {us:List Value} {vs:List V}
  (S:FnScope N ps scope) (hd:A.handled=none) (e0:Env0 P w K mg base A outer s H) (hl:vs.length=ps.length) (r:Vals vs us)
  (x:InCallC s s.heap.objs.size (bindL (envOfC qual scope s.heap.objs.size f cd).kindOf (ps.zip us) λ _=>none) (cellsFrom (s.heap.objs.size + 1) scope.names []) (bindC (envOfC qual scope s.heap.objs.size f cd).kindOf (ps.zip us) λ _=>none) s1) :
  Inv (Q5 CX P w K mg base N qual scope f cd A outer s H E) [] (start N vs) H s1:=by
 have hpl:ps.length<=N.length:=by have:=congrArg List.length S.pre;rw [length_take] at this;omega
 obtain ⟨h1,tk,rfl,hk⟩:=x.done;have noA:∀ b:Addr,b ∉ (Q5 CX P w K mg base N qual scope f cd A outer s H E).ex:=λ b z=>absurd (show b∈([]:List Addr) from z) (by simp);refine ⟨⟨e0.mod,S.kind,rfl,rfl,Nat.le_refl _,λ y z c h1 h2=>?_,λ y hy=>?_,λ y c _ h=>?_,λ _=>hd,Around.frames_deeper e0.frames,.inr ⟨rfl,rfl⟩,λ b z=>absurd z (noA b),e0.bs,e0.bsz,λ b _ _=>noA b,λ b z=>absurd z (noA b),e0.funs,e0.frf⟩,
  rfl,e0.bare,Un.kept hk,⟨_,x.toInCall.ns,λ i y v h1 h2 h3=>?_⟩,λ y c h=>⟨_,x.cell y c h⟩,e0.hok.fresh (Nat.le_refl _),λ y c h=>?_,λ p hp=>absurd (show p∈([]:List (Addr × Obj)) from hp) (by simp),e0.hok.kept hk,?_⟩
 ·exact name_of_addr x.apart (PySem.mem_of_lookup h1) (PySem.mem_of_lookup h2)
 ·have hy:scope.names.lookup y=some .cell\/scope.names.lookup y=some .free:=hy;rcases hy with hy|hy
  ·exact zaE hy
  ·exact absurd rfl (S.nofree _ (PySem.mem_of_lookup hy))
 ·exact Nat.le_of_lt (x.above y c (PySem.mem_of_lookup h))
 ·have hi:i < vs.length:=by
   unfold start at h2;by_cases hi:i < vs.length
   ·exact hi
   ·rw [getElem?_append_right (by simpa using hi)] at h2;rw [List.getElem?_replicate] at h2
    split at h2 <;> cases h2
  have ha:vs[i]?=some v:=by
   unfold start at h2;rw [getElem?_append_left (by simpa using hi),getElem?_map] at h2;cases e:vs[i]? with
   | none=>rw [e] at h2;cases h2
   | some a=>rw [e] at h2;cases h2;rfl
  obtain ⟨u,hu,rv⟩:=r.get ha;have hp:ps[i]?=some y:=by
   rw [<- S.pre,List.getElem?_take_of_lt (by omega)];exact h1
  have ndP:ps.Nodup:=by rw [<- S.pre];exact S.nd.sublist (List.take_sublist _ _)
  refine ⟨u,rv,?_⟩;rcases S.par y (mem_of_getElem? hp) with k|k
  ·exact .inl ⟨k,Wr ndP hp hu k⟩
  ·obtain ⟨c,e⟩:=zaE (n:=s.heap.objs.size + 1) k;refine .inr ⟨.inl k,c,e,?_⟩;have q:=x.cell y c e;rw [Wt ndP hp hu (by show scope.names.lookup y≠_;rw [k];decide)] at q;exact q
 ·exact e0.hok.fresh (Nat.le_of_lt (x.above y c (PySem.mem_of_lookup h)))
 ·unfold start;show _=N.length
  rw [length_append,length_map,length_replicate];omega
theorem zeE {CX:CXT} {P:Program} {w:World} {K:PySem.W.Frag} {mg:Str->Option Value} {base:Heap} {k:Nat} {f:Addr} {name qual:Str} {params:Arguments} {body:List Stmt} {scope:Scope} {dV kV doc pm cdv ct oc:Value} {an od:Option Addr}
  {osl:Array (Option Value)} {N ps:List Str} {sp:Sp} (lk:K.lookup f=some ⟨oc,od,.func (PySem.W.fnOf name qual params body scope dV kV doc pm an cdv ct),osl⟩) (hcd:PySem.W.codeIn K cdv qual=true) (S:FnScope N ps scope)
  (len:∀ vs H Q E,sp vs H Q E->vs.length=ps.length)
  (hbody:∀ (A:Around) (outer:List Env) (s:Shared) (H:Hp) (vs:List V) (Q:VK) (E:XK),Room k (A.deeper (envOfC qual scope s.heap.objs.size f cdv))->sp vs H Q E ->
   ∃ t,PSs (Q5 CX P w K mg base N qual scope f cdv A outer s H E) body t/\t { nx:=λ _ H'=>Q .non H',rt:=Q } (start N vs) H) :
  FnOk P w K mg base CX (k + 1) f (PySem.W.fnOf name qual params body scope dV kV doc pm an cdv ct) ps sp:=by
 refine ⟨len,λ A outer s H args us vs Q E hr e0 hb r hsp=>?_⟩;have hl:=len _ _ _ _ hsp;have KX:K.In s.heap:=e0.mod.kin.keeps λ b o e=>(e0.bs b o e).1;have lim:s.heap.NoLimit:=e0.mod.nolimit.keeps λ b o e=>(e0.bs b o e).1;have hkind:∀ y∈ps.zip us,scope.names.lookup y.1=some .local\/(scope.names.lookup y.1=some .cell/\((cellsFrom (s.heap.objs.size + 1) scope.names []).lookup y.1).isSome=true):=λ ⟨n,v⟩ hy=>by
  rcases S.par n (of_mem_zip hy).1 with q|q
  ·exact .inl q
  ·exact .inr ⟨q,PySem.W.cellsFrom_some _ _ _ (.inl q)⟩
 refine codeAny_call_function hr.depth (KX _ _ lk) rfl S.co S.gen rfl (PySem.W.codeRec_of KX hcd) (hb _ _ _ _ ?_);refine wpAny_newFunctionEnv_cells S.kind hkind λ env he s1 x=>?_;subst he;refine ⟨lim.keeps x.toInCall.keep,codeAny_func ?_⟩;obtain ⟨t,ht,hq⟩:=hbody A outer s H vs Q E (hr.deeper _) hsp;have I:Inv (Q5 CX P w K mg base N qual scope f cdv A outer s H E) [] (start N vs) H s1:=zc7 S hr.hd e0 hl r x;refine wpAny_mono (ht [] s1 (start N vs) H _ I hq) (λ fl s' hs=>?_) λ e s' hs=>hs;have fin:∀ {σ':St} {H':Hp} {v:V} {u:Value},Inv (Q5 CX P w K mg base N qual scope f cdv A outer s H E) [] σ' H' s'->RelV v u->Q v H'->CE outer P w H s Q u s' :=
  λ {σ' H' v u} J rv q=>⟨v,H',J.os,J.bare,J.base,J.hok,rv,q⟩
 cases fl with
 | ret u =>
  obtain ⟨v,σ',H',J,rv,q⟩:=hs;exact fin J rv q
 | next =>
  obtain ⟨σ',H',J,q⟩:=hs;exact fin (v:=V.non) (u:=Value.none) J rfl q
 | brk =>
  obtain ⟨_,_,_,q⟩:=hs;exact False.elim q
 | cont =>
  obtain ⟨_,_,_,q⟩:=hs;exact False.elim q
end L2
namespace L2
open PySem PySem.Spec PyProof.Rows
section
variable {X:Cx} {x:Str} {p pos:Pos} {e:Expr} {es:List Expr} {t:TA} {id T:String} {r:List V->Hp->VK->Prop}
def tCB (r:List V->Hp->VK->Prop) (t:TA):TE:=λ σ H Q=>t σ H λ vs H1=>r vs H1 Q
theorem zea (hc:CallR X (.builtin id) r) (hg:Gl X x) (hm:X.mg x=none) (hv:bootBuiltins x=some (.builtin id)) (ha:PA X (e :: es) t) (hn:x≠"__name__":=by decide) (hdb:(x == ("__debug__":Str))=false:=by decide)
  (he:starEach (e :: es) X.env=(false,eval e X.env) :: starEach es X.env:=by rfl) (hpl:(backTo pos (starEach es X.env)).any (·.1)=false:=by rfl):PE X (.Call (.Name x p) (e :: es) [] pos) (tCB r t):=by
 intro pins s σ H Q I h;refine wpAny_Call_Name_kw (wS I hg hm hv ?_ hn hdb);exact PyProof.Rows.callWith_builtin1 (vz (ha pos pins s σ H _ I h) λ us s1 vs H1 I1 r1 q1=>hc pins s1 σ H1 vs us Q I1 r1 q1) he hpl
theorem zcS (hc:CallR X (.type T) r) (hg:Gl X x) (hm:X.mg x=none) (hv:bootBuiltins x=some (.type T)) (ha:PA X (e :: es) t) (hn:x≠"__name__":=by decide) (hdb:(x == ("__debug__":Str))=false:=by decide)
  (he:starEach (e :: es) X.env=(false,eval e X.env) :: starEach es X.env:=by rfl) (hpl:(backTo pos (starEach es X.env)).any (·.1)=false:=by rfl):PE X (.Call (.Name x p) (e :: es) [] pos) (tCB r t):=by
 intro pins s σ H Q I h;refine wpAny_Call_Name_kw (wS I hg hm hv ?_ hn hdb);exact PyProof.Rows.callWith_type1 (vz (ha pos pins s σ H _ I h) λ us s1 vs H1 I1 r1 q1=>hc pins s1 σ H1 vs us Q I1 r1 q1) he hpl
end
end L2
namespace HT
open PySem PyProof.Rows
section
open PySem.SeqAt
open PySem.AutoSeq1 (wpAny_loadPart')
open PySem.MeetsSeq PySem.MeetsSeq2 PySem.MeetsSeq3
end
section
variable {prog:Program} {w:World} {A:Around} {E:Value->Shared->Prop} {s:Shared}
def sIx (n d:Nat):Option Int->Nat
 | none=>d
 | some v=>if v < 0 then (v + (n:Int)).toNat else min v.toNat n
theorem sIx_none (n d:Nat):sIx n d none=d:=rfl
theorem sIx_nat (n d k:Nat):sIx n d (some (k:Int))=min k n:=by
 show (if (k:Int) < 0 then ((k:Int) + (n:Int)).toNat else min (k:Int).toNat n)=min k n
 rw [if_neg (by omega),Int.toNat_natCast]
end
end HT
namespace L2
open PySem PySem.Spec PyProof.Rows
abbrev TO:=St->Hp->(Option Int->Hp->Prop)->Prop
def PO (X:Cx) (e:Option Expr) (t:TO):Prop :=
 ∀ (pins:List (Addr × Obj)) (s:Shared) (σ:St) (H:Hp) (Q:Option Int->Hp->Prop),Inv X pins σ H s->t σ H Q ->
  wpAny (model X.prog X.w) X.A (evalPart e X.env) (λ u s'=>∃ o H',Inv X pins σ H' s'/\IsPart u o/\Q o H') X.xe s
def tNoPart:TO:=λ _ H Q=>Q none H
def tPart (t:TE):TO:=λ σ H Q=>t σ H λ x H1=>iq x λ i=>Q (some i) H1
theorem zbA {ns:List Int}:∀ {us:List Value},Vals (ns.map V.int) us->IntsAre us ns:=by
 induction ns with
 | nil=>intro us r;rw [List.map_nil] at r;cases r;exact .nil
 | cons n ns ih =>
  intro us r;rw [map_cons] at r;cases r with
  | cons r1 r2 =>
   obtain ⟨t,e⟩:=r1;subst e;exact .cons n t (ih r2)
section
variable {X:Cx} {e:Expr} {te:TE} {lo hi:Option Expr} {tl th:TO} {pos p2:Pos}
theorem Jc:PO X none tNoPart:=by
 intro pins s σ H Q I h;rw [evalPart_none];exact wpAny_pure ⟨none,H,I,.none,h⟩
theorem Jb (h:PE X e te):PO X (some e) (tPart te):=by
 intro pins s σ H Q I hw;rw [evalPart_some];refine qp (h pins s σ H _ I hw) λ u s1 x H1 I1 r1 q1=>?_;obtain ⟨i,rfl,q⟩:=ZH q1;obtain ⟨t,rfl⟩:=r1;exact ⟨some i,H1,I1,.int i t,q⟩
def SlR (X:Cx) (r:V->Option Int->Option Int->Hp->VK->Prop):Prop :=
 ∀ (pins:List (Addr × Obj)) (s:Shared) (σ:St) (H:Hp) (x:V) (v vl vu:Value) (lo hi:Option Int) (sl:Addr) (Q:VK),Inv X pins σ H s->RelV x v->s.heap.IsSliceOf sl vl vu .none->IsPart vl lo->IsPart vu hi->r x lo hi H Q ->
  ∃ T id,typeLookup (.type T) "__getitem__"=pure (some (.builtin id))/\s.TypeIs v T/\wpAny (model X.prog X.w) X.A (getItem v (.ref sl)) (EP X pins σ Q) X.xe s
theorem SlR.or {r r':V->Option Int->Option Int->Hp->VK->Prop} (h:SlR X r) (h':SlR X r'):SlR X (λ x lo hi H Q=>r x lo hi H Q\/r' x lo hi H Q):=by
 intro pins s σ H x v vl vu lo hi sl Q I rx hs pl pu q;rcases q with q|q
 ·exact h pins s σ H x v vl vu lo hi sl Q I rx hs pl pu q
 ·exact h' pins s σ H x v vl vu lo hi sl Q I rx hs pl pu q
def tSl (r:V->Option Int->Option Int->Hp->VK->Prop) (te:TE) (tl th:TO):TE:=λ σ H Q=>te σ H λ x H1=>tl σ H1 λ l H2=>th σ H2 λ u H3=>r x l u H3 Q
theorem Zw {r:V->Option Int->Option Int->Hp->VK->Prop} (hr:SlR X r) (he:PE X e te) (hl:PO X lo tl) (hu:PO X hi th):PE X (.Subscript e (.Slice lo hi none p2) pos) (tSl r te tl th):=by
 intro pins s σ H Q I h;refine Subscript_ (qp (he pins s σ H _ I h) λ v s1 x H1 I1 r1 q1=>?_);refine wpAny_Slice (thn (hl pins s1 σ H1 _ I1 q1) λ vl s2 ⟨l,H2,I2,pl,q2⟩=>thn (hu pins s2 σ H2 _ I2 q2) λ vu s3 ⟨u,H3,I3,pu,q3⟩=>?_);rw [evalPart_none];refine wpAny_pure ?_;have I4:Inv X pins σ H3 { s3 with heap:=s3.heap.push { cls:=.type "slice",data:=.fields #[vl,vu,.none] } }:=I3.kept (t':=s3.toks) λ b ob q=>Heap.get?_push_of_some _ q;obtain ⟨T,id,hT,ht,hg⟩:=hr pins { s3 with heap:=s3.heap.push { cls:=.type "slice",data:=.fields #[vl,vu,.none] } } σ H3 x v vl vu l u s3.heap.objs.size Q I4 r1 (Heap.IsSliceOf.new ..) pl pu q3;show wpAny (model X.prog X.w) X.A (subscriptTail e (.Slice lo hi none p2) v (.ref s3.heap.objs.size)) (EP X pins σ Q) X.xe { s3 with heap:=s3.heap.push { cls:=.type "slice",data:=.fields #[vl,vu,.none] } }
 exact tail_any (ops:=[.ref s3.heap.objs.size,v]) ht hT hg (by with_unfolding_all rfl)
def Xk (xs:List V) (lo hi:Option Int):List V:=(xs.drop (HT.sIx xs.length 0 lo)).take (HT.sIx xs.length xs.length hi - HT.sIx xs.length 0 lo)
theorem zaA (xs:List V) (lo hi:Option Int):(Xk xs lo hi).length<=xs.length:=by
 unfold Xk;rw [length_take,length_drop];omega
end
end L2
namespace L2
open PySem PySem.Spec PyProof.Rows
def ixN (n:Nat) (i:Int):Option Nat:=if 0<=i then (if i < n then some i.toNat else none) else if -(n:Int)<=i then some (i + n).toNat else none
def atI {α:Type} (xs:List α) (i:Int):Option α:=(ixN xs.length i).bind λ j=>xs[j]?
theorem zcb {n:Nat} {i:Int} {j:Nat} (h:ixN n i=some j):seqIndex? i n=some j/\j < n/\-(n:Int)<=i/\i < n:=by
 unfold ixN at h;by_cases h0:0<=i
 ·rw [if_pos h0] at h;by_cases h1:i < n
  ·rw [if_pos h1] at h;have e:i.toNat=j:=Option.some.inj h;exact ⟨by rw [seqIndex_of h0 h1,e],by omega,by omega,h1⟩
  ·rw [if_neg h1] at h;cases h
 ·rw [if_neg h0] at h;by_cases h1:-(n:Int)<=i
  ·rw [if_pos h1] at h;have e:(i + n).toNat=j:=Option.some.inj h;exact ⟨by rw [seqIndex_neg (by omega) h1,e],by omega,h1,by omega⟩
  ·rw [if_neg h1] at h;cases h
theorem Jk {α:Type} {xs:List α} {i:Int} {v:α} (h:atI xs i=some v):∃ j,seqIndex? i xs.length=some j/\xs[j]?=some v/\j < xs.length/\-(xs.length:Int)<=i/\i < xs.length:=by
 unfold atI at h;cases e:ixN xs.length i with
 | none=>rw [e] at h;cases h
 | some j =>
  rw [e] at h;obtain ⟨h1,h2,h3,h4⟩:=zcb e;exact ⟨j,h1,h,h2,h3,h4⟩
theorem zJ {α:Type} {xs:List α} {j:Nat} {v:α} (h:xs[j]?=some v):atI xs (j:Int)=some v:=by
 have hj:j < xs.length:=(List.getElem?_eq_some_iff.mp h).1;have e:ixN xs.length (j:Int)=some j:=by
  unfold ixN;rw [if_pos (by omega),if_pos (by omega)];simp
 unfold atI;rw [e];exact h
def zcw (b:Expr):Prop:=∀ o i,subscripted b false o i=operate [o,i] (getItem o i)
def IxR (X:Cx) (r:R2):Prop :=
 ∀ (value slice:Expr) (pins:List (Addr × Obj)) (s:Shared) (σ:St) (H:Hp) (x y:V) (v u:Value) (Q:VK),Inv X pins σ H s->RelV x v->RelV y u->r x y H Q ->
  subscripted slice false v u=operate [v,u] (getItem v u)->wpAny (model X.prog X.w) X.A (subscriptTail value slice v u) (EP X pins σ Q) X.xe s
def MtR (X:Cx) (id:String) (r:V->List V->Hp->VK->Prop):Prop :=
 ∀ (pins:List (Addr × Obj)) (s:Shared) (σ:St) (H:Hp) (x:V) (xs:List V) (v:Value) (us:List Value) (Q:VK),Inv X pins σ H s->RelV x v->Vals xs us->r x xs H Q ->
  wpAny (model X.prog X.w) X.A (call (.builtin id) (v :: us)) (EP X pins σ Q) X.xe s
section
variable {X:Cx} {a b:Expr} {ta tb:TE} {pos:Pos}
theorem IxR.or {r r':R2} (h:IxR X r) (h':IxR X r'):IxR X (λ x y H Q=>r x y H Q\/r' x y H Q):=by
 intro value slice pins s σ H x y v u Q I rx ry q hs;rcases q with q|q
 ·exact h value slice pins s σ H x y v u Q I rx ry q hs
 ·exact h' value slice pins s σ H x y v u Q I rx ry q hs
theorem MtR.or {id:String} {r r':V->List V->Hp->VK->Prop} (h:MtR X id r) (h':MtR X id r'):MtR X id (λ x xs H Q=>r x xs H Q\/r' x xs H Q):=by
 intro pins s σ H x xs v us Q I rx rs q;rcases q with q|q
 ·exact h pins s σ H x xs v us Q I rx rs q
 ·exact h' pins s σ H x xs v us Q I rx rs q
theorem zha {r:R2} (hr:IxR X r) (ha:PE X a ta) (hb:PE X b tb) (hs:zcw b):PE X (.Subscript a b pos) (tOp r ta tb):=by
 intro pins s σ H Q I h;exact Subscript_ (zgR ha hb I h λ v u s2 x y H2 I2 rx ry q=>hr a b pins s2 σ H2 x y v u Q I2 rx ry q (hs _ _))
def zg7 (K:PySem.W.Frag):R2:=λ x y H Q=>∃ p xs i v,x=.ref p/\y=.int i/\SqL K H p xs/\atI xs i=some v/\Q v H
def zg5 (K:PySem.W.Frag):R2:=λ x y H Q=>∃ p xs i v,x=.ref p/\y=.int i/\SqT K H p xs/\atI xs i=some v/\Q v H
def zg6:R2:=λ x y H Q=>∃ z i c,x=.str z/\y=.int i/\z.length<=sizeLine/\atI z.cps.toList i=some c/\Q (.str ⟨#[c]⟩) H
theorem ix_list:IxR X (zg7 X.K):=by
 intro value slice pins s σ H x y v u Q I rx ry h hs;obtain ⟨p,xs,i,z,rfl,rfl,hq,he,q⟩:=h;cases rx;obtain ⟨t,rfl⟩:=ry;obtain ⟨its,r,pl,hz⟩:=I.list hq;obtain ⟨j,h1,h2,h3,h4,h5⟩:=Jk he;obtain ⟨w,ew,rw'⟩:=r.get h2;have hl:=r.length;have hn:=Zc;have fin:EP X pins σ Q w s:=⟨z,H,I,rw',q⟩;by_cases h0:0<=i
 ·have hj:i.toNat=j:=by
   rw [seqIndex_of h0 h5] at h1;exact Option.some.inj h1
  exact item_listR pl.isList h0 (by omega) (by rw [hj];simpa using ew) fin hs
 ·have hj:(i + (its.toArray.size:Int)).toNat=j:=by
   rw [seqIndex_neg (by omega) h4] at h1;rw [size_toArray,<- hl];exact Option.some.inj h1
  exact subscriptTail_builtinR (x:=w) pl.isList.typeIs slot_list_getitem.lookup
   (wpAny_getItem_list_neg (Q:=λ r s'=>r=w/\EP X pins σ Q r s') pl.isList (by omega) (by rw [size_toArray] <;> omega) (by omega) (by rw [hj];simpa using ew) ⟨rfl,fin⟩) hs
theorem ix_tup:IxR X (zg5 X.K):=by
 intro value slice pins s σ H x y v u Q I rx ry h hs;obtain ⟨p,xs,i,z,rfl,rfl,hq,he,q⟩:=h;cases rx;obtain ⟨t,rfl⟩:=ry;obtain ⟨its,r,pl,hz⟩:=I.tuple hq;obtain ⟨j,h1,h2,h3,h4,h5⟩:=Jk he;obtain ⟨w,ew,rw'⟩:=r.get h2;have hl:=r.length;have hn:=Zc;have fin:EP X pins σ Q w s:=⟨z,H,I,rw',q⟩;exact subscriptTail_builtinR (x:=w) pl.typeIs slot_tuple_getitem.lookup
  (getItem_tuple (j:=j) (Q:=λ r s'=>r=w/\EP X pins σ Q r s') pl (by omega) (by omega) (by rw [size_toArray,<- hl];exact h1) (by simpa using ew) ⟨rfl,fin⟩) hs
theorem zgF:IxR X zg6:=by
 intro value slice pins s σ H x y v u Q I rx ry h hs;obtain ⟨z,i,c,rfl,rfl,hz,he,q⟩:=h;obtain ⟨t,rfl⟩:=rx;obtain ⟨t',rfl⟩:=ry;obtain ⟨j,h1,h2,h3,h4,h5⟩:=Jk he;have hl:z.cps.toList.length=z.length:=by simp [Str.length]
 rw [hl] at h1 h4 h5;have hn:=Zc;exact tail_any (typeIs_str s z t) slot_str_getitem.lookup (getItem_str (c:=c) (by
  have e1:decide (i < -(2 ^ 63:Int))=false:=decide_eq_false (by omega);have e2:decide (i ≥ 2 ^ 63)=false:=decide_eq_false (by omega);rw [e1,e2,Bool.or_false]) (by rw [h1];simpa using h2) ⟨.str ⟨#[c]⟩,H,I.tok _,⟨_,rfl⟩,q⟩) hs
def rIx (K:PySem.W.Frag):R2:=λ x y H Q=>zg7 K x y H Q\/zg5 K x y H Q\/zg6 x y H Q
theorem zgG:IxR X (rIx X.K):=ix_list.or (ix_tup.or zgF)
theorem zbs (its:List Value) (n j:Nat) (u:Value):Obj.mapSeq (·.setIfInBounds j u) { cls:=.type "list",data:=.seq its.toArray n }={ cls:=.type "list",data:=.seq (its.set j u).toArray n }:=by
 simp [Obj.mapSeq]
theorem Inv.lst {pins:List (Addr × Obj)} {σ:St} {H:Hp} {s:Shared} {p:Addr} {xs:List V} (I:Inv X pins σ H s) (h:H p=some (.lst xs)) :
  ∃ (its:List Value) (n:Nat),Vals xs its/\s.heap.get? p=some { cls:=.type "list",data:=.seq its.toArray n }/\xs.length<=sizeLine:=by
 obtain ⟨z,its,n,r,e⟩:=I.hok p _ h;exact ⟨its,n,r,e,z⟩
theorem Inv.lstUpd {pins:List (Addr × Obj)} {σ:St} {H:Hp} {s:Shared} {p:Addr} {xs ys:List V} {its its':List Value} {n n':Nat} {f:Obj->Obj} (I:Inv X pins σ H s) (h:H p=some (.lst xs))
  (ho:s.heap.get? p=some { cls:=.type "list",data:=.seq its.toArray n }) (hf:f { cls:=.type "list",data:=.seq its.toArray n }={ cls:=.type "list",data:=.seq its'.toArray n' }) (r:Vals ys its') (hz:ys.length<=sizeLine) (t:Nat) :
  Inv X pins σ (upd H p (.lst ys)) { s with heap:=s.heap.update p f,toks:=t }:=by
 have e:(s.heap.update p f).get? p=some { cls:=.type "list",data:=.seq its'.toArray n' }:=by
  rw [Heap.get?_update_self f ho (by rw [hf] <;> rfl),hf]
 refine I.write (x:=p) (e:=p) (by rw [h];trivial) (.inl rfl) (λ b u hb q=>(Heap.get?_update_other _ _ (Ne.symm hb)).trans q) ⟨_,e⟩ ?_;exact ⟨hz,its',n',r,e⟩
def zfW:V->V->V->Hp->(Hp->Prop)->Prop:=λ o i v H Q=>∃ p xs k j,o=.ref p/\i=.int k/\H p=some (.lst xs)/\ixN xs.length k=some j/\Q (upd H p (.lst (xs.set j v)))
theorem xM:zgT X zfW:=by
 intro pins s σ H o i v ov iv u Q I ro ri rv h;obtain ⟨p,xs,k,j,rfl,rfl,hp,hj,q⟩:=h;cases ro;obtain ⟨t,rfl⟩:=ri;obtain ⟨its,n,r,ho,hz⟩:=I.lst hp;obtain ⟨h1,h2,h3,h4⟩:=zcb hj;have hl:=r.length;have hn:=Zc;have I':Inv X pins σ (upd H p (.lst (xs.set j v))) { s with heap:=s.heap.update p (Obj.mapSeq (·.setIfInBounds j u)) } :=
  I.lstUpd hp ho (zbs its n j u) (r.set rv j) (by rw [length_set];exact hz) s.toks
 by_cases h0:0<=k
 ·have hk:k.toNat=j:=by
   rw [seqIndex_of h0 h4] at h1;exact Option.some.inj h1
  exact PySem.W.ki_setAt ho h0 (by omega) (by rw [size_toArray,<- hl];exact h4) (by rw [hk];exact ⟨_,I',q⟩)
 ·have hk:(k + (its.toArray.size:Int)).toNat=j:=by
   rw [seqIndex_neg (by omega) h3] at h1;rw [size_toArray,<- hl];exact Option.some.inj h1
  exact PySem.W.ki_setBack ho (by omega) (by rw [size_toArray,<- hl];exact h3) (by omega) (by rw [hk];exact ⟨_,I',q⟩)
theorem WC (lo hi:Option Int) (n:Nat):(sliceBounds lo hi none n).1=((HT.sIx n 0 lo:Nat):Int)/\(sliceBounds lo hi none n).2.1=((HT.sIx n n hi:Nat):Int)/\(sliceBounds lo hi none n).2.2=1:=by
 refine ⟨?_,?_,rfl⟩
 ·cases lo with
  | none=>simp [sliceBounds,HT.sIx]
  | some i =>
   simp only [sliceBounds,HT.sIx,Option.getD_none,show (1:Int) > 0 by decide,if_true];by_cases h:i < 0
   ·simp only [h,if_true] <;> omega
   ·simp only [h,if_false] <;> omega
 ·cases hi with
  | none=>simp [sliceBounds,HT.sIx]
  | some i =>
   simp only [sliceBounds,HT.sIx,Option.getD_none,show (1:Int) > 0 by decide,if_true];by_cases h:i < 0
   ·simp only [h,if_true] <;> omega
   ·simp only [h,if_false] <;> omega
theorem Xp (its:List Value) (lo hi:Option Int):slicePick its.toArray lo hi none=((its.drop (HT.sIx its.length 0 lo)).take (HT.sIx its.length its.length hi - HT.sIx its.length 0 lo)).toArray:=by
 obtain ⟨h1,h2,h3⟩:=WC lo hi its.toArray.size;unfold slicePick;rw [h1,h2,h3];simp only [sliceRange_one,pick_run,size_toArray] <;> rfl
def zgg (K:PySem.W.Frag):V->Option Int->Option Int->Hp->VK->Prop:=λ x lo hi H Q=>∃ a xs,x=.ref a/\SqL K H a xs/\∀ p,H p=none->Q (.ref p) (upd H p (.lst (Xk xs lo hi)))
theorem ze4:SlR X (zgg X.K):=by
 intro pins s σ H x v vl vu lo hi sl Q I rx hs pl pu h;obtain ⟨a,xs,rfl,hx,q⟩:=h;cases rx;obtain ⟨its,r,ht,hz⟩:=I.list hx;have hlen:=r.length;refine ⟨"list",_,slot_list_getitem.lookup,ht.isList.typeIs,?_⟩;refine wpAny_getItem_list_slice ht.isList hs pl pu .none (by simp) ?_ (by rw [size_toArray] <;> omega);rw [Xp,<- hlen];refine ⟨.ref s.heap.objs.size,_,I.laid (t':=s.toks) (o:=.lst (Xk xs lo hi)) (λ b ob q=>Heap.get?_push_of_some _ q) (Nat.le_refl _) ?_,rfl,q _ (I.hok.fresh (Nat.le_refl _))⟩;exact ⟨Nat.le_trans (zaA xs lo hi) hz,_,0,(r.drop (HT.sIx xs.length 0 lo)).take (HT.sIx xs.length xs.length hi - HT.sIx xs.length 0 lo),Heap.get?_push_size _ rfl⟩
def vL:V->Bool
 | .non=>true
 | .bl _=>true
 | .int _=>true
 | .str _=>true
 | _=>false
def eqV:V->V->Bool
 | .non,.non=>true
 | .bl a,.bl b=>a == b
 | .bl a,.int b=>(if a then 1 else 0) == b
 | .int a,.bl b=>a == (if b then 1 else 0)
 | .int a,.int b=>a == b
 | .str a,.str b=>a == b
 | _,_=>false
theorem Qm {A:Around} {s:Shared} {y x:V} {u v:Value} (ry:RelV y u) (rx:RelV x v) (fy:vL y=true) (fx:vL x=true):SeqAt.EqAt A s u v (eqV y x):=by
 cases y with
 | non =>
  cases ry;cases x with
  | non=>cases rx;exact SeqAt.EqAt.same _
  | bl b=>cases rx;exact SeqAt.EqAt.none_bool b
  | int b=>obtain ⟨t,rfl⟩:=rx;exact SeqAt.EqAt.none_int b t
  | str b=>obtain ⟨t,rfl⟩:=rx;exact SeqAt.EqAt.none_str b t
  | _=>exact absurd (show false=true from fx) Bool.false_ne_true
 | bl a =>
  cases ry;cases x with
  | non=>cases rx;exact SeqAt.EqAt.bool_none a
  | bl b=>cases rx;exact SeqAt.EqAt.bool_bool a b
  | int b=>obtain ⟨t,rfl⟩:=rx;exact SeqAt.EqAt.bool_int a b t
  | str b=>obtain ⟨t,rfl⟩:=rx;exact SeqAt.EqAt.bool_str a b t
  | _=>exact absurd (show false=true from fx) Bool.false_ne_true
 | int a =>
  obtain ⟨t',rfl⟩:=ry;cases x with
  | non=>cases rx;exact SeqAt.EqAt.int_none a t'
  | bl b=>cases rx;exact SeqAt.EqAt.int_bool a t' b
  | int b=>obtain ⟨t,rfl⟩:=rx;exact SeqAt.EqAt.int_int a t' b t
  | str b=>obtain ⟨t,rfl⟩:=rx;exact SeqAt.EqAt.int_str a t' b t
  | _=>exact absurd (show false=true from fx) Bool.false_ne_true
 | str a =>
  obtain ⟨t',rfl⟩:=ry;cases x with
  | non=>cases rx;exact SeqAt.EqAt.str_none a t'
  | bl b=>cases rx;exact SeqAt.EqAt.str_bool a t' b
  | int b=>obtain ⟨t,rfl⟩:=rx;exact SeqAt.EqAt.str_int a t' b t
  | str b=>obtain ⟨t,rfl⟩:=rx;exact SeqAt.EqAt.str_str a t' b t
  | _=>exact absurd (show false=true from fx) Bool.false_ne_true
 | _=>exact absurd (show false=true from fy) Bool.false_ne_true
theorem CallR.or {f:Value} {r r':List V->Hp->VK->Prop} (h:CallR X f r) (h':CallR X f r'):CallR X f (λ xs H Q=>r xs H Q\/r' xs H Q):=by
 intro pins s σ H xs us Q I rs q;rcases q with q|q
 ·exact h pins s σ H xs us Q I rs q
 ·exact h' pins s σ H xs us Q I rs q
theorem Vs:CallR X (.type "list") (λ xs H Q=>∃ p ys,xs=[.ref p]/\(SqL X.K H p ys\/SqT X.K H p ys)/\∀ l,H l=none->Q (.ref l) (upd H l (.lst ys))):=by
 intro pins s σ H xs us Q I r h;obtain ⟨p,ys,rfl,hq,q⟩:=h;obtain ⟨u,rfl,rx⟩:=Qt r;cases rx;have fin:∀ (its:List Value),Vals ys its->ys.length<=sizeLine->∀ (h':Heap) (c':Nat),(∀ b o',s.heap.get? b=some o'->h'.get? b=some o') ->
   h'.get? s.heap.objs.size=some { cls:=.type "list",dict:=none,data:=.seq its.toArray c',slots:=#[] }->EP X pins σ Q (.ref s.heap.objs.size) { s with heap:=h' }:=λ its r' hz h' c' kp e =>
  ⟨.ref s.heap.objs.size,_,I.laid (t':=s.toks) kp (Nat.le_refl _) (show ObjOk X.prog X.w _ h' _ (.lst ys) from ⟨hz,its,c',r',e⟩),rfl,q _ (I.hok.fresh (Nat.le_refl _))⟩
 rcases hq with hq|hq
 ·obtain ⟨its,r',pl,hz⟩:=I.list hq;have hlen:=r'.length;obtain ⟨o,ho,hc,n,hd⟩:=pl.isList;exact call_list_seq p (.inl rfl) ho hc hd (λ h' c' kp e=>fin its r' hz h' c' kp e) (by simp only [size_toArray] <;> omega)
 ·obtain ⟨its,r',pl,hz⟩:=I.tuple hq;have hlen:=r'.length;obtain ⟨o,ho,hc,n,hd⟩:=pl;exact call_list_seq p (.inr rfl) ho hc hd (λ h' c' kp e=>fin its r' hz h' c' kp e) (by simp only [size_toArray] <;> omega)
theorem XU:CallR X (.type "tuple") (λ xs H Q=>∃ p ys,xs=[.ref p]/\((SqL X.K H p ys/\∀ l,H l=none->Q (.ref l) (upd H l (.tup ys)))\/(SqT X.K H p ys/\Q (.ref p) H))):=by
 intro pins s σ H xs us Q I r h;obtain ⟨p,ys,rfl,h⟩:=h;obtain ⟨u,rfl,rx⟩:=Qt r;cases rx;rcases h with ⟨hq,q⟩|⟨hq,q⟩
 ·obtain ⟨its,r',pl,hz⟩:=I.list hq;have hlen:=r'.length;refine call_tuple_list pl.isList (λ h' kp=>?_) (by simp only [size_toArray] <;> omega);have I1:Inv X pins σ H { s with heap:=h' }:=I.kept (t':=s.toks) kp;have I2:Inv X pins σ (upd H h'.objs.size (.tup ys)) { s with heap:=h'.push { cls:=.type "tuple",data:=.seq its.toArray } } :=
   I1.laid (t':=s.toks) (λ b o e=>Heap.get?_push_of_some _ e) (Nat.le_refl _) (show ObjOk X.prog X.w _ _ _ (.tup ys) from ⟨hz,its,r',IsTup.new _ _⟩)
  exact ⟨.ref h'.objs.size,_,I2,rfl,q _ (I1.hok.fresh (Nat.le_refl _))⟩
 ·obtain ⟨its,r',pl,hz⟩:=I.tuple hq;exact call_tuple_same pl ⟨.ref p,H,I,rfl,q⟩
def tyV (K:PySem.W.Frag) (T:String) (x:V) (H:Hp):Prop:=match x with
 | .str _=>T="str"
 | .int _=>T="int"
 | .ref p=>(T="list"/\∃ xs,SqL K H p xs)\/(T="tuple"/\∃ o,K.lookup p=some o/\o.cls=.type "tuple"/\o.dict=none) \/
   (T="dict"/\((∃ kvs,H p=some (.dK kvs))\/∃ kvs,H p=some (.dT kvs)))\/(T="set"/\∃ S n,H p=some (.set S n))
 | _=>False
theorem zf7 {pins:List (Addr × Obj)} {σ:St} {H:Hp} {s:Shared} {T:String} {x:V} {v:Value} (I:Inv X pins σ H s) (r:RelV x v) (ty:tyV X.K T x H) :
  s.TypeIs v T/\∀ a,v=.ref a->∃ ob,s.heap.get? a=some ob/\ob.dict=none:=by
 cases x with
 | str z =>
  obtain ⟨t,rfl⟩:=r;cases (show T="str" from ty);exact ⟨typeIs_str s z t,λ _ e=>nomatch e⟩
 | int i =>
  obtain ⟨t,rfl⟩:=r;cases (show T="int" from ty);exact ⟨typeIs_int s i t,λ _ e=>nomatch e⟩
 | ref p =>
  cases r;rcases ty with ⟨rfl,xs,hq⟩|⟨rfl,o,hk,hc,hd⟩|⟨rfl,hk⟩|⟨rfl,S,n,hk⟩
  ·obtain ⟨its,_,pl,_⟩:=I.list hq;refine ⟨pl.isList.typeIs,λ a e=>?_⟩;cases e;obtain ⟨o,n,e,c,hd,_⟩:=pl;exact ⟨o,e,hd⟩
  ·refine ⟨⟨o,I.kIn p o hk,hc⟩,λ a e=>?_⟩;cases e;exact ⟨o,I.kIn _ o hk,hd⟩
  ·have z:∃ o,s.heap.get? p=some o/\o.ExactDict:=by
    rcases hk with ⟨kvs,hk⟩|⟨kvs,hk⟩
    ·obtain ⟨_,_,_,_,o,_,_,e,ex,_⟩:=I.hok p _ hk;exact ⟨o,e,ex⟩
    ·obtain ⟨_,_,_,_,o,_,_,e,ex,_⟩:=I.hok p _ hk;exact ⟨o,e,ex⟩
   obtain ⟨o,e,ex⟩:=z;refine ⟨⟨o,e,ex.1⟩,λ a e2=>?_⟩;cases e2;exact ⟨o,e,ex.2.1⟩
  ·obtain ⟨o,_,_,_,e,ex,_⟩:=I.hok p _ hk;refine ⟨⟨o,e,ex.1⟩,λ a e2=>?_⟩;cases e2;exact ⟨o,e,ex.2.1⟩
 | _=>exact False.elim ty
def tBM (K:PySem.W.Frag) (T:String) (r:V->List V->Hp->VK->Prop) (to:TE) (t:TA):TE:=λ σ H Q=>to σ H λ x H1=>tyV K T x H1/\t σ H1 λ xs H2=>r x xs H2 Q
variable {o e:Expr} {es:List Expr} {to:TE} {t:TA} {name:Str} {apos cpos:Pos} {T id:String} {r:V->List V->Hp->VK->Prop}
theorem qJ (pa:PlainAttrs T) (slot:Slot T name id) (hty:typeOf (.builtin id)=pure (.type "method_descriptor")) (hm:MtR X id r) (ho:PE X o to) (ha:PA X (e :: es) t)
  (hbase:attributeBase o name X.env (eval o X.env)=eval o X.env:=by rfl)
  (hfew:((backTo cpos (starEach (e :: es) X.env)).all (λ x=>!x.1) && (backToKw cpos (keywordEach [] X.env)).all (λ x=>x.1.isSome)
   && decide ((e :: es).length + ([]:List Keyword).length + (if ([]:List Keyword).isEmpty then 0 else 1) < 30))=true:=by rfl)
  (hline:(apos.endLine == cpos.line)=true:=by rfl) (hs:starEach (e :: es) X.env=(false,eval e X.env) :: starEach es X.env:=by rfl) (hplain:(backTo cpos (starEach es X.env)).any (·.1)=false:=by rfl) :
  PE X (.Call (.Attribute o name apos) (e :: es) [] cpos) (tBM X.K T r to t):=by
 intro pins s σ H Q I h;refine wpAny_Call_method_late hbase hfew hline rfl (qp (ho pins s σ H _ I h) λ v s1 x H1 I1 r1 qq_=>?_);obtain ⟨ty,q1⟩:=qq_;obtain ⟨h1,h2⟩:=zf7 I1 r1 ty;refine ⟨T,id,pa,slot,hty,h1,h2,?_⟩;have hA:=ha cpos pins s1 σ H1 _ I1 q1;rw [hs] at hA ⊢;refine Calls.callWith_builtin (by show (false || (backTo cpos (starEach es X.env)).any (·.1))=false;rw [hplain] <;> rfl) (Calls.evalArgs_plain ?_);exact thn hA λ us s2 ⟨vs,H2,I2,r2,q2⟩=>hm pins s2 σ H2 x vs v us Q I2 r1 r2 q2
end
end L2
namespace L2
open PySem PySem.Spec PyProof.Rows
def MtM (X:Cx) (id:String) (r:V->List V->Hp->VK->Prop):Prop :=
 ∀ (pins:List (Addr × Obj)) (s:Shared) (σ:St) (H:Hp) (x:V) (xs:List V) (v:Value) (us:List Value) (Q:VK),Inv X pins σ H s->RelV x v->Vals xs us->r x xs H Q ->
  wpAny (model X.prog X.w) X.A (call (.builtin id) (v :: us)) (EP X pins σ Q) X.xe s
theorem Vals.one {x:V} {us:List Value} (h:Vals [x] us):∃ u,us=[u]/\RelV x u:=by
 cases h with
 | cons r t=>cases t;exact ⟨_,rfl,r⟩
theorem Vals.two {x y:V} {us:List Value} (h:Vals [x,y] us):∃ u v,us=[u,v]/\RelV x u/\RelV y v:=by
 cases h with
 | cons r t =>
  obtain ⟨v,rfl,q⟩:=Vals.one t;exact ⟨_,_,rfl,r,q⟩
theorem Vals.zero:∀ {us:List Value},Vals [] us->us=[]
 | _,.nil=>rfl
theorem Vals.eraseIdx:∀ {xs:List V} {us:List Value} (i:Nat),Vals xs us->Vals (xs.eraseIdx i) (us.eraseIdx i)
 | _,_,_,.nil=>.nil
 | _,_,0,.cons _ t=>t
 | _,_,i + 1,.cons r t=>.cons r (Vals.eraseIdx i t)
theorem Vals.rep {xs:List V} {us:List Value} (h:Vals xs us):∀ k:Nat,Vals (List.replicate k xs).flatten (List.replicate k us).flatten
 | 0=>.nil
 | k + 1=>by
  rw [replicate_succ,replicate_succ,flatten_cons,flatten_cons];exact Vals.append h (Vals.rep h k)
theorem We {α:Type}:∀ (l:List α) (i:Nat),(l.eraseIdx i).length<=l.length
 | [],_=>Nat.le_refl _
 | _ :: _,0=>Nat.le_succ _
 | _ :: r,i + 1=>Nat.succ_le_succ (We r i)
theorem Wl (its:List Value):∀ (k:Nat) (acc:List Value),
  List.foldl (λ x1 x2=>x1 ++ x2) acc.toArray (List.replicate k its.toArray)=(acc ++ (List.replicate k its).flatten).toArray
 | 0,acc=>by simp
 | k + 1,acc=>by
  have e:acc.toArray ++ its.toArray=(acc ++ its).toArray:=by simp
  have e2:(acc ++ its) ++ (List.replicate k its).flatten=acc ++ (List.replicate (k + 1) its).flatten:=by
   rw [replicate_succ,flatten_cons,append_assoc]
  rw [<- e2,<- Wl its k (acc ++ its),<- e,replicate_succ,List.foldl_cons]
section
variable {X:Cx} {pins:List (Addr × Obj)} {σ:St} {H:Hp} {s:Shared} {l b:Addr} {xs ys zs:List V}
theorem Inv.lset {its its':List Value} {n:Nat} {f:Array Value->Array Value} {t':Nat} (I:Inv X pins σ H s) (hH:H l=some (.lst xs))
  (e:s.heap.get? l=some { cls:=.type "list",data:=.seq its.toArray n }) (hf:f its.toArray=its'.toArray) (hv:Vals ys its') (hz:ys.length<=sizeLine) :
  Inv X pins σ (upd H l (.lst ys)) { s with heap:=s.heap.update l (Obj.mapSeq f),toks:=t' }:=by
 have q:=PySem.IsL.update e f;rw [hf] at q;refine I.write (x:=l) (e:=l) (by rw [hH];exact trivial) (.inl rfl) (λ b' u hb hu=>(Heap.get?_update_other s.heap (Obj.mapSeq f) (Ne.symm hb)).trans hu) ⟨_,q⟩ ?_;exact ⟨hz,its',_,hv,q⟩
theorem Inv.lnew {its:List Value} {t':Nat} (I:Inv X pins σ H s) (hv:Vals ys its) (hz:ys.length<=sizeLine) :
  Inv X pins σ (upd H s.heap.objs.size (.lst ys)) { s with heap:=s.heap.push { cls:=.type "list",data:=.seq its.toArray },toks:=t' } :=
 I.laid (λ _ _ q=>Heap.get?_push_of_some _ q) (Nat.le_refl _) ⟨hz,its,0,hv,Heap.get?_push_size _ rfl⟩
theorem Inv.fresh (I:Inv X pins σ H s):H s.heap.objs.size=none:=I.hok.fresh (Nat.le_refl _)
theorem Inv.lstM (I:Inv X pins σ H s) (hH:H l=some (.lst xs)):xs.length<=sizeLine/\∃ (its:List Value) (n:Nat),Vals xs its/\xs.length=its.length/\s.heap.get? l=some { cls:=.type "list",data:=.seq its.toArray n }:=by
 obtain ⟨z,its,n,r,e⟩:=I.hok l _ hH;exact ⟨z,its,n,r,r.length,e⟩
theorem zaj {n:Nat} (h:n<=sizeLine):Builtin.List.listTooLong n=false:=by
 unfold Builtin.List.listTooLong;exact decide_eq_false (by omega)
end
section
variable {X:Cx}
def zfg:V->List V->Hp->VK->Prop:=λ x vs H Q=>∃ l xs y,x=.ref l/\vs=[y]/\H l=some (.lst xs)/\xs.length < sizeLine/\Q .non (upd H l (.lst (xs ++ [y])))
theorem zK:MtM X "list.append" zfg:=by
 intro pins s σ H x vs v us Q I rx rv h;obtain ⟨l,xs,y,rfl,rfl,hH,hz,q⟩:=h;cases rx;obtain ⟨u,rfl,ru⟩:=rv.one;obtain ⟨z,its,n,r,hl,e⟩:=I.lstM hH;refine call_meets F.slot_list_append ⟨_,e,rfl⟩ F.entry_list_append (F.args_list_append_2 _ _) (PySem.list_append l its.toArray n u (by rw [size_toArray];omega)) ⟨e,?_⟩;refine ⟨.non,_,I.lset (its':=its ++ [u]) hH e (by simp) (r.append (.cons ru .nil)) ?_,rfl,q⟩;rw [length_append,length_singleton];omega
def zfd:V->List V->Hp->VK->Prop:=λ x vs H Q=>∃ l b xs zs,x=.ref l/\vs=[.ref b]/\H l=some (.lst xs)/\H b=some (.lst zs)/\xs.length + zs.length<=sizeLine/\Q .non (upd H l (.lst (xs ++ zs)))
theorem Wc:MtM X "list.extend" zfd:=by
 intro pins s σ H x vs v us Q I rx rv h;obtain ⟨l,b,xs,zs,rfl,rfl,hH,hB,hz,q⟩:=h;cases rx;obtain ⟨u,rfl,ru⟩:=rv.one;cases ru;obtain ⟨z,its,n,r,hl,e⟩:=I.lstM hH;obtain ⟨z2,its2,n2,r2,hl2,e2⟩:=I.lstM hB;have hsz:its.toArray.size + its2.toArray.size<=sizeLine:=by rw [size_toArray,size_toArray];omega
 have hlong:¬ (!its.toArray.isEmpty && Builtin.List.listTooLong (its.toArray.size + its2.toArray.size))=true:=by
  rw [zaj hsz,Bool.and_false];exact Bool.false_ne_true
 refine call_meets F.slot_list_extend ⟨_,e,rfl⟩ F.entry_list_extend (F.args_list_extend_2 _ _)
  (AutoSeq1.list_extend_list_list_0 l its.toArray n b its2.toArray n2 hlong (by rw [size_toArray];omega) (by omega)) ⟨e,e2,?_⟩
 refine ⟨.non,_,I.lset (its':=its ++ its2) hH e (by simp) (r.append r2) ?_,rfl,q⟩;rw [length_append];omega
def zgh:V->List V->Hp->VK->Prop:=λ x vs H Q=>∃ l xs i k y,x=.ref l/\vs=[.int i]/\H l=some (.lst xs)/\-(2 ^ 63)<=i/\i < 2 ^ 63/\seqIndex? i xs.length=some k/\xs[k]?=some y/\Q y (upd H l (.lst (xs.eraseIdx k)))
theorem JY:MtM X "list.pop" zgh:=by
 intro pins s σ H x vs v us Q I rx rv h;obtain ⟨l,xs,i,k,y,rfl,rfl,hH,h1,h2,hk,hy,q⟩:=h;cases rx;obtain ⟨u,rfl,ru⟩:=rv.one;obtain ⟨t,rfl⟩:=ru;obtain ⟨z,its,n,r,hl,e⟩:=I.lstM hH;obtain ⟨w,hw,rw'⟩:=r.get hy;refine call_meets F.slot_list_pop ⟨_,e,rfl⟩ F.entry_list_pop (F.args_list_pop_2 _ _)
  (MeetsSeq.list_pop_at l its.toArray n i t k w (fitsIndex_both h1 h2) (by rw [size_toArray,<- hl];exact hk) (by rw [<- Array.getElem?_toList];exact hw) (by rw [size_toArray];omega)) ⟨e,?_⟩
 refine ⟨y,_,I.lset (its':=its.eraseIdx k) hH e ?_ (r.eraseIdx k) ?_,rw',q⟩
 ·show its.toArray.eraseIdxIfInBounds k=(its.eraseIdx k).toArray
  rw [List.eraseIdxIfInBounds_toArray]
 ·have:=We xs k;omega
def zhF:R2:=λ x y H Q=>∃ l k xs,x=.ref l/\y=.int k/\H l=some (.lst xs)/\-(2 ^ 63)<=k/\k < 2 ^ 63/\xs.length * k.toNat<=sizeLine /\
 ∀ p,H p=none->Q (.ref p) (upd H p (.lst (List.replicate k.toNat xs).flatten))
theorem zft {α:Type} (xs:List α) (k:Nat):(List.replicate k xs).flatten.length=k * xs.length:=by
 induction k with
 | zero=>simp
 | succ k ih=>rw [replicate_succ,flatten_cons,length_append,ih,Nat.succ_mul,Nat.add_comm]
theorem zbb:OpR X (binaryOp .Mult) zhF:=by
 intro pins s σ H x y v u Q I rx ry h;obtain ⟨l,k,xs,rfl,rfl,hH,h1,h2,hz,q⟩:=h;cases rx;obtain ⟨t,rfl⟩:=ry;obtain ⟨z,its,n,r,hl,e⟩:=I.lstM hH;have hlen:its.toArray.size * k.toNat<=sizeLine:=by rw [size_toArray,<- hl];exact hz
 have hcap:¬ its.toArray.size * k.toNat > (2 ^ 63 - 1) / 8:=by
  have:(sizeLine:Nat)<=(2 ^ 63 - 1) / 8:=by decide
  omega
 have hfit:¬ (!Builtin.List.listFitsIndex k)=true:=by
  rw [fitsIndex_both h1 h2];exact Bool.false_ne_true
 have hlong:¬ Builtin.List.listTooLong (its.toArray.size * k.toNat)=true:=by
  rw [zaj hlen];exact Bool.false_ne_true
 have hnew:List.foldl (λ x1 x2=>x1 ++ x2) #[] (List.replicate (if its.toArray.isEmpty=true then 0 else k.toNat) its.toArray)=(List.replicate k.toNat its).flatten.toArray:=by
  have f0:∀ m:Nat,List.foldl (λ x1 x2=>x1 ++ x2) #[] (List.replicate m its.toArray)=(List.replicate m its).flatten.toArray:=λ m=>by
   have:=Wl its m [];rw [List.nil_append] at this;exact this
  rw [f0];cases its with
  | nil=>simp
  | cons a r'=>rw [if_neg (by simp)]
 refine wpAny_binaryOp_repeat_ref (T:="list") (U:="int") (by decide) ⟨_,e,rfl⟩ (λ s'=>typeIs_int s' k t) noFill_list_mul F.fills_int_mul F.slot_int_rmul repeat_list F.slot_int_index.lookup
  (call_meets F.slot_int_rmul (typeIs_int s k t) F.entry_int_rmul (F.args_int_rmul_2 _ _) (int___rmul___int_list k t l its.toArray n)
   ⟨e,rfl,⟨_,e,rfl⟩,call_meets F.slot_list_mul ⟨_,e,rfl⟩ F.entry_list_mul (F.args_list_mul_2 _ _) (AutoListH.list___mul___list_int_3 l its.toArray n k t hfit hcap hlong) ⟨e,?_⟩⟩)
 rw [hnew];exact ⟨.ref _,_,I.lnew (t':=s.toks) (r.rep k.toNat) (by rw [zft,Nat.mul_comm];exact hz),rfl,q _ I.fresh⟩
end
section
variable {prog:Program} {w:World} {A:Around} {E:Value->Shared->Prop} {s:Shared}
end
section
variable {X:Cx}
end
end L2
namespace Att
open PySem PySem.W PySem.Calls PyProof.Rows
theorem Q4 {P:Params} {h:Heap}:∀ (ns:List Int) (vs:List Value),WellAll P h vs (ns.map WData.int)->IntsAre vs ns:=by
 intro ns
 induction ns with
 | nil =>
  intro vs w;rw [List.map_nil] at w;cases w;exact .nil
 | cons n ns ih =>
  intro vs w;rw [map_cons] at w;cases w with
  | cons a b =>
   cases a;exact .cons _ _ (ih _ b)
theorem zcC {l:OpenLaw} {n:Nat} (hn:l.most=some n) {P:Params} {h:Heap} {args:List WData} {vals:List Value}
  (hpre:l.row.toRowW.claim.pre args=true) (hwl:WellAll P h vals args) :
  ∃ a vs ns,vals=[Value.ref a]/\args=[WData.list (ns.map WData.int)]/\h.get? a=some { cls:=.type "list",data:=.seq vs.toArray }/\IntsAre vs ns/\ns.length<=n:=by
 have hsh:WShape.hasAll [] args [.list .int]=true:=(pre_splitW hpre).1;have hc:l.pre.holds [] { args:=args }=true:=(pre_splitW hpre).2;obtain ⟨d,r,rfl,h1,h2⟩:=hasAllW_cons hsh;obtain rfl:=hasAllW_nil h2;obtain ⟨xs,rfl,h3⟩:=hasW_list h1;obtain ⟨ns,rfl⟩:=items_int h3;have hlen:ns.length<=n:=by
  unfold OpenLaw.pre at hc;have h4:(WTm.not (.lt (.lit (.int (n:Int))) (.len (.arg 0)))).holds [] { args:=[.list (ns.map .int)] }=true:=by
   have h4:=(holds_andW hc).1;rw [hn] at h4;exact h4
  have h5:=condW_of h4 (w_not (w_lt w_lit (w_len_list (w_arg rfl))));rw [length_map] at h5;refine Nat.le_of_not_lt λ q=>?_;have q':(n:Int) < ((ns.length:Nat):Int):=by omega
  first
   | (rw [decide_eq_true q'] at h5;exact absurd h5 (by decide))
   | (simp at h5;omega)
 cases hwl with
 | cons w1 w2 =>
  cases w2;cases w1 with
  | list ho hall=>exact ⟨_,_,ns,rfl,rfl,ho,Q4 ns _ hall,hlen⟩
theorem zcQ (l:OpenLaw) (args:List WData):l.row.toRowW.claim.post args (.bool true) args=true :=
 postW_of (r:=l.row.toRowW) (X:=(true == true))
  (show WShape.has [] (.bool true) .bool=true by first|rfl|decide|simp [WShape.has,WShape.arms,WShape.armsAll])
  (show (WTm.eq .res (.lit (.bool true))).value [] { args:=args,res:=some (.bool true),after:=args }=some (.bool (true == true)) from w_eq_bool (w_res rfl) w_lit) rfl
theorem attach_call {l:OpenLaw} {n:Nat} {q:Program} {loose:List Str} {XP:(Str->Option Value)->Heap->Prop} {YP:World->Heap->Prop} {d:DefRec}
  (hn:l.most=some n) (hdf:d.params.defaults=[])
  (call:∀ (w:World) (s₀ s₁:Shared) (mg mb:Str->Option Value) (fa:Addr) (o:Obj) (pm cd doc:Value) (a:Addr) (vs:List Value) (ns:List Int),
   Ground q loose [] XP w s₀ mg mb s₁.heap->YP w s₁.heap ->
   s₁.heap.get? fa=some o->o.data=.func (docDef d.name d.params d.body d.scope pm cd doc)->s₁.heap.CodeRec cd d.name->mg d.name=some (.ref fa) ->
   s₁.heap.get? a=some { cls:=.type "list",data:=.seq vs.toArray }->IntsAre vs ns->ns.length<=n->s₁.gens=#[] ->
   codeAny (model l.prog w) callerA (.call (.ref fa) ⟨[.ref a],[]⟩) (λ r s'=>r=.ok (.ret (.bool true))/\OldK s₁.heap s'.heap/\s'.os=s₁.os/\AllBare s'.gens) s₁) :
  WalkO q loose XP YP l.row.toRowW d [] (λ f vs=>PySem.call f vs):=by
 intro w s₀ s₁ mg mb G Y fa o pm cd doc dV kV ho hd hcd hD hmg hg args vals as hpre hlay hrd hwl hlo;obtain rfl:dV=.none:=Dflts.none hD hdf;obtain rfl:kV=.none:=Dflts.noKw hD;obtain ⟨a,vs,ns,rfl,rfl,hobj,hints,hlen⟩:=zcC hn hpre hwl;refine enter_call (codeAny_mono (call w s₀ s₁ mg mb fa o pm cd doc a vs ns G Y ho (fd_plain hd) hcd hmg hobj hints hlen hg) λ r s' hq=>?_);obtain ⟨rfl,h2,h3,h4⟩:=hq;exact ⟨.inl ⟨.bool true,.bool true,[],rfl,λ _=>rfl,.bool true,zcQ l _,λ _=>⟨List.Pairwise.nil,λ _ hm=>(nomatch hm)⟩⟩,h2,h3,h4⟩
section
variable {prog:Program} {w:World} {A:Around} {E:Value->Shared->Prop} {s:Shared} {K:Frag}
def ledger (h:Heap) (L d:Addr):List (Addr × Obj):=(List.range h.objs.size).filterMap λ a=>if a=L\/a=d then none else (h.get? a).map λ o=>(a,o)
end
end Att
namespace L2
open PySem PySem.Spec PyProof.Rows
theorem XY:∀ {vs:List Value} {ns:List Int},IntsAre vs ns->Vals (ns.map V.int) vs
 | _,_,.nil=>.nil
 | _,_,.cons n t h=>.cons ⟨t,rfl⟩ (XY h)
def zgU (H:Hp):Prop:=∀ b,H b=none\/∃ o xs,H b=some (.frz o (.lst xs))
theorem zel {P:Program} {w:World} {K:PySem.W.Frag} {mg mb:Str->Option Value} {CX:CXT} {k:Nat} {fa a:Addr} {fd:FuncData} {x:Str} {sp:Sp} {s₁:Shared} {vs:List Value} {ns:List Int}
  (KX:K.In s₁.heap) (hns:s₁.heap.Ns mainGlobals mg) (hb:s₁.heap.Ns builtinsNs mb) (hbb:∀ x:Str,x≠"__name__"->mb x=bootBuiltins x) (hlim:s₁.heap.NoLimit) (hg:s₁.gens=#[])
  (ha:s₁.heap.get? a=some { cls:=.type "list",data:=.seq vs.toArray }) (hi:IntsAre vs ns) (hl:ns.length<=sizeLine) (hr:Room k callerA)
  (F:∀ base:Heap,K.In base->base.Ns mainGlobals mg->FnOk P w K mg base CX k fa fd [x] sp) (hbind:∀ (s:Shared) (u:Value),BindsTo s fd ⟨[u],[]⟩ [(x,u)])
  (hsp:∀ H:Hp,zgU H->SqL K H a (ns.map V.int)->sp [.ref a] H (λ v _=>v=.bl true) λ _ _ _=>False)
  (hCX:∀ H e s',CX [] H s₁ (λ _ _ _=>False) e s'->False) :
  codeAny (model P w) callerA (.call (.ref fa) ⟨[.ref a],[]⟩) (λ r s'=>r=.ok (.ret (.bool true))/\OldK s₁.heap s'.heap/\s'.os=s₁.os/\AllBare s'.gens) s₁:=by
 have rv:=XY hi;have lenV:=hi.length;have core:∀ H:Hp,zgU H->SqL K H a (ns.map V.int)->HOk P w H s₁.heap->(∀ b,H b≠none->b=a)->(H a≠none->K.lookup a=none) ->
   codeAny (model P w) callerA (.call (.ref fa) ⟨[.ref a],[]⟩) (λ r s'=>r=.ok (.ret (.bool true))/\OldK s₁.heap s'.heap/\s'.os=s₁.os/\AllBare s'.gens) s₁:=by
  intro H hO hS hok hA hK;have base_of:∀ {b:Addr} {o:Obj},s₁.heap.get? b=some o->H b=none->(Vk s₁.heap H).get? b=some o:=λ e n=>zex e n;have noA:∀ {b:Addr} {o:Obj} {es:Array DictEntry} {ep:Nat},s₁.heap.get? b=some o->o.data=.dict es ep->H b=none:=λ {b o es ep} e d=>by
   cases q:H b with
   | none=>rfl
   | some u =>
    have e':b=a:=hA b (by rw [q];simp);subst e';rw [ha] at e;cases e;have d':Data.seq vs.toArray _=Data.dict es ep:=d;cases d'
  have nsK:∀ {b:Addr} {m:Str->Option Value},s₁.heap.Ns b m->(Vk s₁.heap H).Ns b m:=λ {b m} ⟨o,es,ep,e,d,r⟩=>⟨o,es,ep,base_of e (noA e d),d,r⟩;have hKb:K.In (Vk s₁.heap H):=λ b o e=>base_of (KX b o e) (by
   cases q:H b with
   | none=>rfl
   | some u =>
    have e':b=a:=hA b (by rw [q];simp);subst e';rw [hK (by rw [q];simp)] at e;cases e)
  have hM:Mod K mg (Vk s₁.heap H):=⟨hKb,nsK hns,⟨mb,nsK hb,hbb⟩,let ⟨mc,h1,h2⟩:=hlim;⟨mc,nsK h1,h2⟩⟩;have e0:Env0 P w K mg (Vk s₁.heap H) callerA [] s₁ H:=⟨rfl,hM,λ b o e=>zfp e,Nat.le_of_eq (zdb _ _),trivial,λ b hb=>absurd (show b∈([]:List Addr) from hb) (by simp),hok,.of_eq hg⟩;refine codeAny_mono ((F _ hKb (nsK hns)).run callerA [] s₁ H ⟨[.ref a],[]⟩ [.ref a] [.ref a] _ _ hr e0 (hbind s₁ (.ref a)) (.cons rfl .nil) (hsp H hO hS)) λ r s' h=>?_;cases r with
  | error e=>exact (hCX H e s' h).elim
  | ok fl =>
   cases fl with
   | next=>exact False.elim h
   | brk=>exact False.elim h
   | cont=>exact False.elim h
   | ret u =>
    obtain ⟨v,H',os,bare,un,hok',r',q⟩:=h;have q':v=.bl true:=q;subst q';obtain rfl:u=Value.bool true:=r';refine ⟨rfl,OldK.of_keep λ b o e=>?_,os,bare⟩;cases q:H b with
    | none=>exact un.keep b o e q (by intro z;exact absurd (show b∈([]:List Addr) from z) (by simp)) (by simp)
    | some u =>
     rcases hO b with z|⟨ob,xs,z⟩
     ·rw [q] at z;cases z
     ·have z2:=un.frzs b ob _ z;obtain ⟨e1,_⟩:=hok b _ z;obtain ⟨e2,_⟩:=hok' b _ z2;rw [e] at e1;cases e1;exact e2
 cases hk:K.lookup a with
 | some o =>
  have e:=KX a o hk;rw [ha] at e;cases e;refine core (λ _=>none) (λ _=>.inl rfl) (.inr ⟨_,vs.toArray,_,hk,rfl,rfl,rfl,by rw [size_toArray,lenV];exact hl,by simpa using rv⟩) (λ b u z=>by have z':(none:Option HO)=some u:=z;cases z') (λ b z=>absurd rfl z) λ z=>absurd rfl z
 | none =>
  refine core (λ b=>if b=a then some (.frz { cls:=.type "list",data:=.seq vs.toArray } (.lst (ns.map V.int))) else none) (λ b=>?_) (.inl (.inr ⟨{ cls:=.type "list",data:=.seq vs.toArray },if_pos rfl⟩)) (λ b u z=>?_) (λ b z=>?_) λ _=>hk
  ·by_cases hb:b=a
   ·exact .inr ⟨_,_,if_pos hb⟩
   ·exact .inl (if_neg hb)
  ·by_cases hb:b=a
   ·have z':=(if_pos hb).symm.trans z;cases z';subst hb;exact ⟨ha,by rw [length_map];exact hl,vs,_,rv,ha⟩
   ·have z':=(if_neg hb).symm.trans z;cases z'
  ·by_cases hb:b=a
   ·exact hb
   ·exact absurd (if_neg hb) z
end L2
namespace L2
open PySem PySem.Spec PyProof.Rows
theorem walk_of {l:PySem.W.OpenLaw} {n k:Nat} {q:Program} {loose:List Str} {XP:(Str->Option Value)->Heap->Prop} {YP:World->Heap->Prop} {d:DefRec} {K:Params->PySem.W.Frag} {CX:World->CXT} {sp:World->Sp} {x:Str}
  (hn:l.most=some n) (hn2:n<=sizeLine) (hdf:d.params.defaults=[]) (hr:Room k callerA)
  (hY:∀ (w:World) (h:Heap),YP w h->(K w.params).In h)
  (F:∀ (w:World) (mg:Str->Option Value) (fa:Addr) (h:Heap),(K w.params).In h->h.Ns mainGlobals mg->mg d.name=some (.ref fa) ->
   ∃ fd:FuncData,(∀ (s:Shared) (u:Value),BindsTo s fd ⟨[u],[]⟩ [(x,u)]) /\
    ∀ base:Heap,(K w.params).In base->base.Ns mainGlobals mg->FnOk l.prog w (K w.params) mg base (CX w) k fa fd [x] (sp w))
  (hsp:∀ (w:World) (H:Hp) (a:Addr) (ns:List Int),ns.length<=n->zgU H->SqL (K w.params) H a (ns.map V.int)->sp w [.ref a] H (λ v _=>v=.bl true) λ _ _ _=>False)
  (hCX:∀ (w:World) (H:Hp) (s:Shared) (e:Value) (s':Shared),CX w [] H s (λ _ _ _=>False) e s'->False) :
  PySem.W.WalkO q loose XP YP l.row.toRowW d [] (λ f vs=>PySem.call f vs):=by
 refine Att.attach_call hn hdf λ w s₀ s₁ mg mb fa o pm cd doc a vs ns G Y ho hd hcd hmg hobj hints hlen hg=>?_;have KX:=hY w _ Y;obtain ⟨fd,hb,hF⟩:=F w mg fa _ KX G.T.g hmg;exact zel KX G.T.g G.T.b G.T.builtins G.T.nolimit hg hobj hints (Nat.le_trans hlen hn2) hr hF hb (λ H hO hS=>hsp w H a ns hlen hO hS) λ H e s'=>hCX w H s₁ e s'
end L2
namespace L2
open PySem PySem.Spec PyProof.Rows
def zO (s:Stmt) (j:Nat):Stmt:=match s with
 | .ClassDef _ _ _ body _ _ _ _ _ _ _=>body.getD j (.Pass ⟨0,0,0,0⟩)
 | _=>.Pass ⟨0,0,0,0⟩
def zM (s:Stmt):Arguments:=match s with
 | .FunctionDef _ a _ _ _ _ _ _ _ _=>a
 | _=>{ posonlyargs:=[],args:=[],vararg:=none,kwonlyargs:=[],kw_defaults:=[],kwarg:=none,defaults:=[] }
def zF (s:Stmt):List Stmt:=match s with
 | .FunctionDef _ _ b _ _ _ _ _ _ _=>b
 | _=>[]
def ze (s:Stmt):Scope:=match s with
 | .FunctionDef _ _ _ _ _ _ sc _ _ _=>sc
 | _=>{ kind:=.function,names:=[],isGenerator:=false,isCoroutine:=false }
abbrev CX0:CXT:=λ _ _ _ _ _ _=>False
structure Fun (K:PySem.W.Frag) (x qual:Str) (st:Stmt) (f:Addr) (fd:FuncData):Prop where
 ex:∃ (oc:Value) (od:Option Addr) (kV doc pm:Value) (an:Option Addr) (cdv ct:Value) (osl:Array (Option Value)),
  fd=PySem.W.fnOf x qual (zM st) (zF st) (ze st) .none kV doc pm an cdv ct/\K.lookup f=some ⟨oc,od,.func fd,osl⟩/\PySem.W.codeIn K cdv qual=true
 kp:PySem.W.keepIn K (.ref f)=true
section
variable {P:Program} {w:World} {K:PySem.W.Frag} {mg:Str->Option Value} {base:Heap}
theorem Fun.ok {x qual:Str} {st:Stmt} {f:Addr} {fd:FuncData} {N ps:List Str} {k:Nat} {sp:Sp} (F:Fun K x qual st f fd) (S:FnScope N ps (ze st)) (len:∀ vs H Q E,sp vs H Q E->vs.length=ps.length)
  (hbody:∀ (cdv:Value) (A:Around) (outer:List Env) (s:Shared) (H:Hp) (vs:List V) (Q:VK) (E:XK),Room k (A.deeper (envOfC qual (ze st) s.heap.objs.size f cdv))->sp vs H Q E ->
   ∃ t,PSs (Q5 CX0 P w K mg base N qual (ze st) f cdv A outer s H E).nox (zF st) t/\t { nx:=λ _ H'=>Q .non H',rt:=Q } (start N vs) H):FnOk P w K mg base CX0 (k + 1) f fd ps sp:=by
 obtain ⟨oc,od,kV,doc,pm,an,cdv,ct,osl,rfl,lk,hcd⟩:=F.ex;refine zeE lk hcd S len λ A outer s H vs Q E hr hsp=>?_;obtain ⟨t,h,q⟩:=hbody cdv A outer s H vs Q E hr hsp;exact ⟨t,h.nox,q⟩
theorem Fun.binds {x qual:Str} {st:Stmt} {f:Addr} {fd:FuncData} {ps:List Str} (F:Fun K x qual st f fd)
  (h:∀ (kV doc pm:Value) (an:Option Addr) (cdv ct:Value) (us:List Value),us.length=ps.length->bindArgs (PySem.W.fnOf x qual (zM st) (zF st) (ze st) .none kV doc pm an cdv ct) ⟨us,[]⟩=pure (ps.zip us)):Binds K fd ps []:=by
 obtain ⟨oc,od,kV,doc,pm,an,cdv,ct,osl,rfl,lk,hcd⟩:=F.ex;exact .all (h kV doc pm an cdv ct)
theorem wn {x qual:Str} {st:Stmt} {f:Addr} {oc:Value} {od an:Option Addr} {osl:Array (Option Value)} {kV doc pm cdv ct:Value} (l:K.lookup f=some ⟨oc,od,.func (PySem.W.fnOf x qual (zM st) (zF st) (ze st) .none kV doc pm an cdv ct),osl⟩)
  (c:PySem.W.codeIn K cdv qual=true) (k:PySem.W.keepIn K (.ref f)=true):Fun K x qual st f (PySem.W.fnOf x qual (zM st) (zF st) (ze st) .none kV doc pm an cdv ct):=⟨⟨oc,od,kV,doc,pm,an,cdv,ct,osl,rfl,l,c⟩,k⟩
end
theorem zj {n:Nat} (h:n<=1000):n < sizeLine:=Nat.lt_of_le_of_lt h (by decide)
section
variable {X:Cx}
end
theorem zL {c A B:Prop} [Decidable c] (h1:c->A) (h2:¬ c->B):if c then A else B:=by
 by_cases h:c
 ·rw [if_pos h];exact h1 h
 ·rw [if_neg h];exact h2 h
def Same (H H':Hp):Prop:=∀ b o,H b=some o->H' b=some o
theorem Same.refl (H:Hp):Same H H:=λ _ _ h=>h
theorem Same.trans {H H1 H2:Hp} (a:Same H H1) (b:Same H1 H2):Same H H2:=λ c o h=>b c o (a c o h)
theorem Same.free {H H':Hp} (e:Same H H') {l:Addr} (h:H' l=Option.none):H l=Option.none:=by
 cases q:H l with
 | none=>rfl
 | some o =>
  rw [e l o q] at h;cases h
theorem Same.seq {K:PySem.W.Frag} {H H':Hp} {a:Addr} {xs:List V} (e:Same H H') (h:SqL K H a xs):SqL K H' a xs:=by
 rcases h with (h|⟨o,h⟩)|h
 ·exact .inl (.inl (e _ _ h))
 ·exact .inl (.inr ⟨o,e _ _ h⟩)
 ·exact .inr h
end L2
set_option maxHeartbeats 4000000
namespace L2
open PySem PySem.Spec PyProof.Rows
abbrev GK:=Value->St->Hp->Prop
structure Exc (g h:Heap) (H:Hp) (pn:List (Addr × Obj)) (a:Addr) (cls:Value):Prop where
 ex:∃ (oe:Obj) (vs:Array Value) (T:Addr) (oT:Obj) (ts:Array Value),h.get? a=some oe/\oe.cls=cls/\oe.dict=none/\oe.data=.fields vs/\vs[1]?=some (.ref T)/\T≠a /\
  h.get? T=some oT/\oT.data=.fields ts/\ts[3]?=some .none/\g.get? T=none/\H T=none/\∀ p∈pn,p.1≠T
 ga:g.get? a=none
 Ha:H a=none
 pa:∀ p∈pn,p.1≠a
theorem ObjOk.there {P:Program} {w:World} {H:Hp} {h:Heap} {a:Addr} {o:HO} (x:ObjOk P w H h a o):∃ ob,h.get? a=some ob:=by
 cases o with
 | lst xs=>obtain ⟨_,_,_,_,e⟩:=x;exact ⟨_,e⟩
 | tup xs=>obtain ⟨_,_,_,ob,e,_⟩:=x;exact ⟨_,e⟩
 | dK kvs=>obtain ⟨_,_,_,_,o,_,_,e,_⟩:=x;exact ⟨_,e⟩
 | dT kvs=>obtain ⟨_,_,_,_,o,_,_,e,_⟩:=x;exact ⟨_,e⟩
 | set S n=>obtain ⟨o,_,_,_,e,_⟩:=x;exact ⟨_,e⟩
 | ins C dx fs=>obtain ⟨_,_,_,e,_⟩:=x;exact ⟨_,e⟩
 | own y=>obtain ⟨_,e⟩:=x;exact ⟨_,e⟩
 | xd fs=>obtain ⟨_,⟨_,_,_,e,_⟩,_⟩:=x;exact ⟨_,e⟩
 | rng lo hi=>obtain ⟨_,_,_,e⟩:=x;exact ⟨_,e⟩
 | frz ob u=>obtain ⟨e,_⟩:=x;exact ⟨_,e⟩
 | tbl ps=>exact ⟨_,(show h.get? a=some _ from x)⟩
 | met f y=>exact ⟨_,(show h.get? a=some _ from x)⟩
 | ext φ=>obtain ⟨_,⟨_,e⟩,_⟩:=x;exact ⟨_,e⟩
section
variable {M:Model} {A:Around} {E:Value->Shared->Prop} {s:Shared}
theorem Wm {base:Heap} {env:Env} {outer:List Env} {L e:Addr} {oe:Obj} {vs:Array Value} {head:Value} {hadNext:Bool} {Q:Unit->Shared->Prop}
  (hfr:A.frames=some (env :: outer)) (hl:s.heap.FunFrames base (env :: outer)) (hf:env.frame=some L) (he:s.heap.get? e=some oe) (hd:oe.data=.fields vs) (hsz:1 < vs.size)
  (h:∀ h' T,(∀ b o,b ∉ (env :: outer).filterMap (·.frame)->b≠e->s.heap.get? b=some o->h'.get? b=some o)->(∀ b o,b≠e->s.heap.get? b=some o->∃ sl,h'.get? b=some { o with slots:=sl }) ->
   s.heap.get? T=none->T≠e->h'.get? e=some (oe.mapFields (·.setIfInBounds 1 (.ref T)))->(∃ oT ts,h'.get? T=some oT/\oT.data=.fields ts/\ts[3]?=some .none)->Q () { s with heap:=h' }) :
  wpAny M A (do let a <- frameOf env;let pl <- entryPlaceOf L hadNext;let b <- EntryCells.newEntry head a .none (rawInt L) .none pl;setField (.ref e) 1 b) (λ _ s'=>wpAny M A (setFlight (.ref e) none) Q E s') E s:=by
 have hene:e ∉ (env :: outer).filterMap (·.frame):=λ hm=>by
  obtain ⟨_,o,ho,hnf⟩:=hl.mem hm;rw [he] at ho;injection ho with ho;subst ho;exact hnf vs hd
 refine wpAny_bind (wpAny_frameOf_fun hfr hl hf λ h₁ hs₁=>?_);refine wpAny_bind (wpAny_entryPlaceOf λ pl hpl=>?_);unfold EntryCells.newEntry newFields;refine wpAny_bind (wpAny_newObj_type ?_ (hpl.sizeOk5 _ _ _ _ _));have he₁:h₁.get? e=some oe:=(hs₁.2.1 e hene).trans he;have he₂:=Heap.get?_push_of_some (h:=h₁) { cls:=.type "traceback",dict:=none,data:=.fields ([head,.ref L,.none,rawInt L,.none] ++ (if pl.isEmpty then List.replicate 6 Value.none else pl)).toArray } he₁;refine wpAny_setField he₂ hd hsz ?_;have hTe:h₁.objs.size≠e:=Nat.ne_of_gt (Heap.lt_size he₁);have hd₃:=Obj.data_mapFields hd (·.setIfInBounds 1 (Value.ref h₁.objs.size));have he₃:=Heap.get?_update_self (Obj.mapFields (·.setIfInBounds 1 (Value.ref h₁.objs.size))) he₂ (Obj.isFreed_of_fields hd₃);have hT₃:=(Heap.get?_update_other (h₁.push { cls:=.type "traceback",dict:=none,data:=.fields ([head,.ref L,.none,rawInt L,.none] ++ (if pl.isEmpty then List.replicate 6 Value.none else pl)).toArray })
  (Obj.mapFields (·.setIfInBounds 1 (Value.ref h₁.objs.size))) (Ne.symm hTe)).trans (Heap.get?_push_size h₁ rfl)
 unfold setFlight;refine wpAny_bind (wpAny_field he₃ hd₃ (x:=.ref h₁.objs.size) (by simp [hsz]) ?_);rw [if_pos (show (Value.ref h₁.objs.size != Value.none)=true from by simp)];refine wpAny_setField hT₃ rfl (by simp only [size_toArray,length_append,length_cons,length_nil] <;> omega) ?_;have keep:∀ b o,b≠e->h₁.get? b=some o ->
   (((h₁.push { cls:=.type "traceback",dict:=none,data:=.fields ([head,.ref L,.none,rawInt L,.none] ++ (if pl.isEmpty then List.replicate 6 Value.none else pl)).toArray }).update e (Obj.mapFields (·.setIfInBounds 1 (Value.ref h₁.objs.size)))).update h₁.objs.size
    (Obj.mapFields (·.setIfInBounds 3 ((none:Option Addr).elim Value.none λ f=>rawInt f)))).get? b=some o:=λ b o hbe hb=>by
  have hbT:h₁.objs.size≠b:=Nat.ne_of_gt (Heap.lt_size hb);rw [Heap.get?_update_other _ _ hbT,Heap.get?_update_other _ _ (Ne.symm hbe)];exact Heap.get?_push_of_some _ hb
 refine h _ h₁.objs.size (λ b o hb hbe q=>keep b o hbe ((hs₁.2.1 b hb).trans q)) (λ b o hbe q=>?_) (Heap.get?_none_of_le (by rw [hs₁.1];exact Nat.le_refl _)) hTe ?_ ?_
 ·obtain ⟨sl,hs⟩:=hs₁.2.2 b o q;exact ⟨sl,keep b _ hbe hs⟩
 ·rw [Heap.get?_update_other _ _ hTe];exact he₃
 ·exact ⟨_,_,Heap.get?_update_self _ hT₃ (Obj.isFreed_of_fields (Obj.data_mapFields rfl _)),Obj.data_mapFields rfl _,by first|(simp;done)|(rcases hpl with rfl|⟨_,_,_,_,_,_,_,rfl⟩ <;> simp)⟩
theorem Wf {base:Heap} {env:Env} {outer:List Env} {L e:Addr} {oe:Obj} {vs:Array Value} {ch:List Addr} {Q:Unit->Shared->Prop}
  (hfr:A.frames=some (env :: outer)) (hl:s.heap.FunFrames base (env :: outer)) (hf:env.frame=some L) (he:s.heap.get? e=some oe) (hd:oe.data=.fields vs)
  (h1:(vs[1]?=some .none/\ch=[e])\/∃ T oT ts,vs[1]?=some (.ref T)/\T≠e/\s.heap.get? T=some oT/\oT.data=.fields ts/\ts[3]?=some .none/\ch=[e,T])
  (h:∀ h' T,(∀ b o,b ∉ (env :: outer).filterMap (·.frame)->b ∉ ch->s.heap.get? b=some o->h'.get? b=some o)->(∀ b o,b ∉ ch->s.heap.get? b=some o->∃ sl,h'.get? b=some { o with slots:=sl }) ->
   (∀ b∈ch,∃ o,h'.get? b=some o)->s.heap.get? T=none->T≠e->h'.get? e=some (oe.mapFields (·.setIfInBounds 1 (.ref T)))->(∃ oT ts,h'.get? T=some oT/\oT.data=.fields ts/\ts[3]?=some .none)->Q () { s with heap:=h' }) :
  wpAny M A (noteFrame (.ref e) env) (λ _ s'=>wpAny M A (setFlight (.ref e) none) Q E s') E s:=by
 rcases h1 with ⟨h1,rfl⟩|⟨T,oT,ts,h1,hTe,hT,hdT,h3,rfl⟩
 ·unfold noteFrame;simp only [hf];refine wpAny_bind (wpAny_field he hd h1 ?_);rw [if_neg (by decide)];refine Wm hfr hl hf he hd (Array.getElem?_eq_some_iff.mp h1).1 λ h' T k1 k2 k3 k4 k5 k6=>?_;refine h h' T (λ b o hb hc q=>k1 b o hb (λ z=>hc (by simp [z])) q) (λ b o hc q=>k2 b o (λ z=>hc (by simp [z])) q) (λ b hb=>?_) k3 k4 k5 k6;obtain rfl:b=e:=by simpa using hb
  exact ⟨_,k5⟩
 ·unfold noteFrame;simp only [hf];refine wpAny_bind (wpAny_field he hd h1 ?_);rw [if_pos (show (Value.ref T != Value.none)=true from by simp)];refine wpAny_bind (wpAny_field hT hdT h3 ?_);rw [if_neg (show ¬ ((Value.none == rawInt L)=true) from by simp [rawInt])];refine wpAny_bind (wpAny_setField hT hdT (Array.getElem?_eq_some_iff.mp h3).1 ?_);have other:∀ b,b≠T->(s.heap.update T (Obj.mapFields (·.setIfInBounds 3 Value.none))).get? b=s.heap.get? b:=λ b hb=>Heap.get?_update_other _ _ (Ne.symm hb);have noRecord:∀ b o,s.heap.get? b=some o->(∀ vs,o.data≠.fields vs)->b≠T:=λ b o hb hnf q=>by
   rw [q,hT] at hb;injection hb with hb;subst hb;exact hnf ts hdT
  have hT':=Heap.get?_update_self (Obj.mapFields (·.setIfInBounds 3 Value.none)) hT (Obj.isFreed_of_fields (Obj.data_mapFields hdT _));refine Wm hfr (hl.of_keeps λ b o hb hnf=>⟨o,(other b (noRecord b o hb hnf)).trans hb,rfl⟩) hf ((other e (Ne.symm hTe)).trans he) hd (Array.getElem?_eq_some_iff.mp h1).1 λ h' T' k1 k2 k3 k4 k5 k6=>?_;have hTT:T'≠T:=λ z=>by rw [z,hT'] at k3;cases k3
  refine h h' T' (λ b o hb hc q=>k1 b o hb (λ z=>hc (by simp [z])) ((other b (λ z=>hc (by simp [z]))).trans q)) (λ b o hc q=>k2 b o (λ z=>hc (by simp [z])) ((other b (λ z=>hc (by simp [z]))).trans q)) (λ b hb=>?_) ((other T' hTT).symm.trans k3) k4 k5 k6;rcases List.mem_cons.mp hb with rfl|hb
  ·exact ⟨_,k5⟩
  ·obtain rfl:b=T:=by simpa using hb
   obtain ⟨sl,q⟩:=k2 b _ hTe hT';exact ⟨_,q⟩
end
section
variable {X:Cx} {pins:List (Addr × Obj)} {σ:List (Option V)} {H:Hp} {s:Shared} {h':Heap}
theorem Inv.stepx {ch:List Addr} (I:Inv X pins σ H s)
  (hch:∀ b∈ch,X.s₀.heap.get? b=none/\H b=none/\∀ p∈X.pn ++ pins,p.1≠b) (hrec:∀ b∈ch,∃ o vs,s.heap.get? b=some o/\o.data=.fields vs)
  (keep:∀ b o,b ∉ frs X.stack->b ∉ ch->s.heap.get? b=some o->h'.get? b=some o)
  (slot:∀ b o,b ∉ ch->s.heap.get? b=some o->∃ sl,h'.get? b=some { o with slots:=sl }) (there:∀ b∈ch,∃ o,h'.get? b=some o):Inv X pins σ H { s with heap:=h' }:=by
 have neL:∀ b∈ch,b≠X.env.locals:=λ b hb z=>by
  obtain ⟨o,vs,ho,hd⟩:=hrec b hb;obtain ⟨m,⟨o',es,ep,ho',hd',_⟩,_⟩:=I.loc;rw [z,ho'] at ho;cases ho;rw [hd'] at hd;cases hd
 have neC:∀ b∈ch,∀ x c,X.env.cells.lookup x=some c->c≠b:=λ b hb x c e z=>by
  obtain ⟨o,vs,ho,hd⟩:=hrec b hb;obtain ⟨v,o',ho',hd'⟩:=I.cell x c e;rw [z,ho] at ho';cases ho';rw [hd] at hd';cases hd'
 have nch:∀ b o,X.s₀.heap.get? b=some o->b ∉ ch:=λ b o e hb=>by rw [(hch b hb).1] at e;cases e
 have trk:∀ b u,H b=some u->b ∉ ch/\b ∉ frs X.stack:=λ b u e=>⟨(λ hb=>by rw [(hch b hb).2.1] at e;cases e),(λ hb=>by rw [I.stkFree b hb] at e;cases e)⟩;have nfs:∀ b,b ∉ X.fs->b≠X.env.locals->b ∉ frs X.stack:=λ b h1 h2 z=>(List.mem_cons.mp (I.stkSub b z)).elim h2 h1;have ltL:∀ b o,X.s₀.heap.get? b=some o->b≠X.env.locals:=λ b o e=>Nat.ne_of_lt (Nat.lt_of_lt_of_le (Heap.lt_size e) I.ok.above);have cellK:∀ x c,X.env.cells.lookup x=some c->∀ v,s.heap.IsCell c v->h'.IsCell c v:=λ x c e v ⟨o,ho,hd⟩=>by
  obtain ⟨sl,q⟩:=slot c o (λ z=>neC c z x c e rfl) ho;exact ⟨_,q,hd⟩
 have hok:HOk X.prog X.w H h':=λ b u e=>(I.hok b u e).stay (λ c v hc q=>by
  have hcH:∃ u',H c=some u':=by
   rcases hc with rfl|z
   ·exact ⟨_,e⟩
   ·exact ⟨_,z⟩
  obtain ⟨u',hu⟩:=hcH;exact keep c v (trk c u' hu).2 (trk c u' hu).1 q) (λ _ q=>q) λ _ _ q=>q
 refine ⟨I.ok,I.os,I.bare,⟨λ b o e n hb hx=>?_,λ b o e n hb hx=>?_,I.base.free,λ b o e hx=>?_,I.base.tups,I.base.frzs,I.base.tbls⟩,?_,λ x c e=>?_,I.free,I.freeC,λ p hp=>?_,hok,I.len⟩
 ·exact keep b o (nfs b hb (ltL b o e)) (nch b o e) (I.base.keep b o e n hb hx)
 ·obtain ⟨sl,e1⟩:=I.base.slot b o e n hb hx;obtain ⟨sl',e2⟩:=slot b _ (nch b o e) e1;exact ⟨sl',e2⟩
 ·obtain ⟨o',e1⟩:=I.base.there b o e hx;obtain ⟨sl',e2⟩:=slot b _ (nch b o e) e1;exact ⟨_,e2⟩
 ·obtain ⟨m,⟨o,es,ep,ho,r⟩,hl⟩:=I.loc;obtain ⟨sl,q⟩:=slot _ o (λ z=>neL _ z rfl) ho;refine ⟨m,⟨_,es,ep,q,r⟩,λ i x v e1 e2 e3=>?_⟩;obtain ⟨u,r',l⟩:=hl i x v e1 e2 e3;refine ⟨u,r',?_⟩;rcases l with l|⟨k,c,e,z⟩
  ·exact .inl l
  ·exact .inr ⟨k,c,e,cellK x c e _ z⟩
 ·obtain ⟨v,z⟩:=I.cell x c e;exact ⟨v,cellK x c e v z⟩
 ·obtain ⟨e,n,ne,nf,d⟩:=I.pin p hp;exact ⟨keep p.1 p.2 (nfs _ nf ne) (λ z=>(hch p.1 z).2.2 p hp rfl) e,n,ne,nf,d⟩
theorem Wg {a:Addr} {oe:Obj} {vs:Array Value} {E:Value->Shared->Prop} {Q:Unit->Shared->Prop} (I:Inv X pins σ H s) (hst:X.stack=X.env :: X.outer) (hfr:X.env.frame=some X.env.locals) (hex:X.ex=[])
  (he:s.heap.get? a=some oe) (hdict:oe.dict=none) (hd:oe.data=.fields vs) (ga:X.s₀.heap.get? a=none) (Ha:H a=none) (hpa:∀ p∈X.pn ++ pins,p.1≠a)
  (h1:vs[1]?=some .none\/∃ T oT ts,vs[1]?=some (.ref T)/\T≠a/\s.heap.get? T=some oT/\oT.data=.fields ts/\ts[3]?=some .none/\X.s₀.heap.get? T=none/\H T=none/\∀ p∈X.pn ++ pins,p.1≠T)
  (hQ:∀ s',Inv X pins σ H s'->Exc X.s₀.heap s'.heap H (X.pn ++ pins) a oe.cls->Q () s') :
  wpAny (model X.prog X.w) X.A (noteFrame (.ref a) X.env) (λ _ s'=>wpAny (model X.prog X.w) X.A (setFlight (.ref a) none) Q E s') E s:=by
 have hfs:=I.ok.frames;have hFF:=I.stack;rw [hst] at hfs hFF;have hS:frs X.stack=(X.env :: X.outer).filterMap (·.frame):=by rw [hst];rfl
 have fin:∀ (ch:List Addr),(∀ b∈ch,X.s₀.heap.get? b=none/\H b=none/\∀ p∈X.pn ++ pins,p.1≠b)->(∀ b∈ch,∃ o vs,s.heap.get? b=some o/\o.data=.fields vs)->a∈ch ->
   ∀ h' T,(∀ b o,b ∉ (X.env :: X.outer).filterMap (·.frame)->b ∉ ch->s.heap.get? b=some o->h'.get? b=some o)->(∀ b o,b ∉ ch->s.heap.get? b=some o->∃ sl,h'.get? b=some { o with slots:=sl }) ->
   (∀ b∈ch,∃ o,h'.get? b=some o)->s.heap.get? T=none->T≠a->h'.get? a=some (oe.mapFields (·.setIfInBounds 1 (.ref T)))->(∃ oT ts,h'.get? T=some oT/\oT.data=.fields ts/\ts[3]?=some .none)->Q () { s with heap:=h' }:=by
  intro ch hch hrec ha h' T k1 k2 k3 k4 k5 k6 k7;have I':=I.stepx (h':=h') hch hrec (λ b o hb hc q=>k1 b o (by rw [<- hS];exact hb) hc q) k2 k3;refine hQ _ I' ⟨?_,ga,Ha,hpa⟩;obtain ⟨oT,ts,q1,q2,q3⟩:=k7;have hsz:1 < vs.size:=by
   rcases h1 with z|⟨_,_,_,z,_⟩ <;> exact (Array.getElem?_eq_some_iff.mp z).1
  refine ⟨_,_,T,oT,ts,k6,Obj.cls_mapFields _ _,by obtain ⟨c,d,dt,sl⟩:=oe;cases dt <;> exact hdict,Obj.data_mapFields hd _,by simp [hsz],k5,q1,q2,q3,?_,?_,λ p hp z=>?_⟩
  ·cases e:X.s₀.heap.get? T with
   | none=>rfl
   | some o =>
    obtain ⟨o',e'⟩:=I.base.there T o e (by rw [hex];simp);rw [k4] at e';cases e'
  ·cases e:H T with
   | none=>rfl
   | some u =>
    obtain ⟨o',e'⟩:=(I.hok T u e).there;rw [k4] at e';cases e'
  ·have:=(I.pin p hp).1;rw [z,k4] at this;cases this
 rcases h1 with h1|⟨T,oT,ts,h1,hTa,hT,hdT,h3,gT,HT,pT⟩
 ·refine Wf (ch:=[a]) hfs hFF hfr he hd (.inl ⟨h1,rfl⟩) (fin [a] (λ b hb=>?_) (λ b hb=>?_) (by simp))
  ·obtain rfl:b=a:=by simpa using hb
   exact ⟨ga,Ha,hpa⟩
  ·obtain rfl:b=a:=by simpa using hb
   exact ⟨oe,vs,he,hd⟩
 ·refine Wf (ch:=[a,T]) hfs hFF hfr he hd (.inr ⟨T,oT,ts,h1,hTa,hT,hdT,h3,rfl⟩) (fin [a,T] (λ b hb=>?_) (λ b hb=>?_) (by simp))
  ·rcases List.mem_cons.mp hb with rfl|hb
   ·exact ⟨ga,Ha,hpa⟩
   ·obtain rfl:b=T:=by simpa using hb
    exact ⟨gT,HT,pT⟩
  ·rcases List.mem_cons.mp hb with rfl|hb
   ·exact ⟨oe,vs,he,hd⟩
   ·obtain rfl:b=T:=by simpa using hb
    exact ⟨oT,ts,hT,hdT⟩
end
def JG (X:Cx) (G:GK) (e:Value) (s:Shared):Prop:=∃ a cls σ H,e=Value.ref a/\Inv X [] σ H s/\Exc X.s₀.heap s.heap H X.pn a cls/\G cls σ H
def xeG (X:Cx) (G:GK) (e:Value) (s:Shared):Prop:=wpAny (model X.prog X.w) X.A (noteFrame e X.env) (λ _ s'=>wpAny (model X.prog X.w) X.A (setFlight e none) (λ _ s''=>JG X G e s'') (λ _ _=>False) s') (λ _ _=>False) s
abbrev Cx.exg (X:Cx) (G:GK):Cx:=X.wish (xeG X G)
structure Bod (X:Cx):Prop where
 st:X.stack=X.env :: X.outer
 fr:X.env.frame=some X.env.locals
 ex:X.ex=[]
theorem jS {X:Cx} {G:GK}:PassesOwn (model X.prog X.w) X.A X.env (xeG X G):=PassesOwn.looking
theorem Inv.nopins {X:Cx} {pins:List (Addr × Obj)} {σ:St} {H:Hp} {s:Shared} (I:Inv X pins σ H s):Inv X [] σ H s:=I.pins_of λ p hp=>absurd hp (by simp)
theorem Exc.less {g h:Heap} {H:Hp} {pn pn':List (Addr × Obj)} {a:Addr} {cls:Value} (x:Exc g h H pn a cls) (hp:∀ p∈pn',p∈pn):Exc g h H pn' a cls:=by
 obtain ⟨⟨oe,vs,T,oT,ts,h1,h2,h3,h4,h5,h6,h7,h8,h9,h10,h11,h12⟩,ga,Ha,pa⟩:=x;exact ⟨⟨oe,vs,T,oT,ts,h1,h2,h3,h4,h5,h6,h7,h8,h9,h10,h11,λ p q=>h12 p (hp p q)⟩,ga,Ha,λ p q=>pa p (hp p q)⟩
def CXr (P:Program) (w:World):CXT:=λ outer H s E e s'=>∃ a cls H',e=Value.ref a/\s'.os=s.os/\AllBare s'.gens/\Un (frs outer) [] H H' s.heap s'.heap/\HOk P w H' s'.heap /\
 Exc s.heap s'.heap H' [] a cls/\E cls none H'
section
variable {X:Cx} {pins:List (Addr × Obj)} {σ:St} {H:Hp} {s:Shared} {G:GK}
theorem Qs {e:Value} {s':Shared} (B:Bod X) (I:Inv X pins σ H s) (h:CXr X.prog X.w X.stack H s (λ cls _ H'=>G cls σ H') e s'):xeG X G e s':=by
 obtain ⟨a,cls,H',rfl,os,bare,un,hok,⟨⟨oe,vs,T,oT,ts,h1,h2,h3,h4,h5,h6,h7,h8,h9,h10,h11,_⟩,ga,Ha,_⟩,hG⟩:=h;have I':Inv X pins σ H' s':=I.call' os un hok bare (λ b z=>absurd z (by simp));have old:∀ b,s.heap.get? b=none->X.s₀.heap.get? b=none:=λ b hb=>by
  cases e:X.s₀.heap.get? b with
  | none=>rfl
  | some o =>
   obtain ⟨o',e'⟩:=I.base.there b o e (by rw [B.ex];simp);rw [hb] at e';cases e'
 have pin:∀ b,s.heap.get? b=none->∀ p∈X.pn ++ pins,p.1≠b:=λ b hb p hp z=>by
  have:=(I.pin p hp).1;rw [z,hb] at this;cases this
 refine Wg I' B.st B.fr B.ex h1 h3 h4 (old a ga) Ha (pin a ga) (.inr ⟨T,oT,ts,h5,h6,h7,h8,h9,old T h10,h11,pin T h10⟩) λ s'' I2 x=>?_;exact ⟨a,oe.cls,σ,H',rfl,I2.nopins,x.less λ p hp=>mem_append_left _ hp,h2 ▸ hG⟩
theorem zaK {a:Addr} {cls:Value} {args:List Value} {h':Heap} (B:Bod X) (I:Inv X pins σ H s) (hm:Heap.MadeExcOf s.heap h' a cls args) (hG:G cls σ H):xeG X G (.ref a) { s with heap:=h' }:=by
 obtain ⟨t,h1,h2,h3⟩:=hm.there;have I':Inv X pins σ H { s with heap:=h' }:=I.kept (t':=s.toks) hm.keeps;have ga:X.s₀.heap.get? a=none:=by
  cases e:X.s₀.heap.get? a with
  | none=>rfl
  | some o =>
   obtain ⟨o',e'⟩:=I.base.there a o e (by rw [B.ex];simp);rw [hm.new] at e';cases e'
 have Ha:H a=none:=by
  cases e:H a with
  | none=>rfl
  | some u =>
   obtain ⟨o',e'⟩:=(I.hok a u e).there;rw [hm.new] at e';cases e'
 refine Wg (s:={ s with heap:=h' }) I' B.st B.fr B.ex h1 rfl rfl ga Ha (λ p hp z=>?_) (.inl rfl) λ s'' I2 x=>?_
 ·have:=(I.pin p hp).1;rw [z,hm.new] at this;cases this
 ·exact ⟨a,cls,σ,H,rfl,I2.nopins,x.less λ p hp=>mem_append_left _ hp,hG⟩
end
section
variable {P:Program} {w:World} {K:PySem.W.Frag} {mg:Str->Option Value} {base:Heap}
abbrev cxR (P:Program) (w:World) (K:PySem.W.Frag) (mg:Str->Option Value) (base:Heap) (N:List Str) (qual:Str) (scope:Scope) (f:Addr) (cd:Value) (A:Around) (outer:List Env) (s:Shared) (H:Hp) (E:XK):Cx :=
 Q5 (CXr P w) P w K mg base N qual scope f cd A outer s H E
theorem Fun.okx {x qual:Str} {st:Stmt} {f:Addr} {fd:FuncData} {N ps:List Str} {k:Nat} {sp:Sp} (F:Fun K x qual st f fd) (S:FnScope N ps (ze st)) (len:∀ vs H Q E,sp vs H Q E->vs.length=ps.length)
  (hbody:∀ (cdv:Value) (A:Around) (outer:List Env) (s:Shared) (H:Hp) (vs:List V) (Q:VK) (E:XK),Room k (A.deeper (envOfC qual (ze st) s.heap.objs.size f cdv))->sp vs H Q E ->
   ∃ t,PSs ((cxR P w K mg base N qual (ze st) f cdv A outer s H E).exg λ cls _ H'=>E cls none H') (zF st) t/\t { nx:=λ _ H'=>Q .non H',rt:=Q } (start N vs) H):FnOk P w K mg base (CXr P w) (k + 1) f fd ps sp:=by
 obtain ⟨oc,od,kV,doc,pm,an,cdv,ct,osl,rfl,lk,hcd⟩:=F.ex;refine zeE lk hcd S len λ A outer s H vs Q E hr hsp=>?_;obtain ⟨t,h,q⟩:=hbody cdv A outer s H vs Q E hr hsp;refine ⟨t,λ pins s σ H' D I hw=>?_,q⟩;refine wpAny_mono (h pins s σ H' D (I.wish _) hw) (λ _ _ z=>z.unwish) λ e s' z=>?_;refine wpAny_bind (wpAny_mono (show wpAny _ _ _ _ _ _ from z) (λ _ s1 y1=>wpAny_mono y1 (λ _ s'' y=>?_) λ _ _ y=>y.elim) λ _ _ y=>y.elim);obtain ⟨a,cls,σ2,H2,rfl,J,xx,g⟩:=y;exact ⟨a,cls,H2,rfl,J.os,J.bare,J.base,J.hok,xx.less (λ p hp=>absurd hp (by simp)),g⟩
end
end L2
namespace L2
open PySem PySem.Spec PyProof.Rows
structure Cal (P:Program) (w:World) (K:PySem.W.Frag) (mg:Str->Option Value) (base:Heap) (x:Str) (k:Nat) (ps:List Str) (dvs:List V) (sp:Sp):Prop where
 ex:∃ f fd ds,FnOk P w K mg base (CXr P w) k f fd ps sp/\mg x=some (.ref f)/\PySem.W.keepIn K (.ref f)=true/\Binds K fd ps ds/\Vals dvs ds
structure MCal (P:Program) (w:World) (K:PySem.W.Frag) (mg:Str->Option Value) (base:Heap) (C:Addr) (m:Str) (k:Nat) (ps:List Str) (dvs:List V) (sp:Sp):Prop where
 cl:Cls K C
 ex:∃ f fd ds,FnOk P w K mg base (CXr P w) k f fd ps sp/\Meth K C m f/\Binds K fd ps ds/\Vals dvs ds
structure KCal (P:Program) (w:World) (K:PySem.W.Frag) (mg:Str->Option Value) (base:Heap) (x:Str) (C:Addr) (k:Nat) (ps:List Str) (dvs:List V) (sp:Sp):Prop where
 gl:mg x=some (.ref C)
 ex:∃ f fd ds,FnOk P w K mg base (CXr P w) k f fd ps sp/\Mk K C f/\Binds K fd ps ds/\Vals dvs ds
theorem Cal.mono {P:Program} {w:World} {K:PySem.W.Frag} {mg:Str->Option Value} {base:Heap} {x:Str} {j k:Nat} {ps:List Str} {dvs:List V} {sp:Sp} (c:Cal P w K mg base x j ps dvs sp) (h:j<=k:=by decide):Cal P w K mg base x k ps dvs sp:=by
 obtain ⟨f,fd,ds,a,b⟩:=c.ex;exact ⟨f,fd,ds,a.mono h,b⟩
theorem MCal.mono {P:Program} {w:World} {K:PySem.W.Frag} {mg:Str->Option Value} {base:Heap} {C:Addr} {m:Str} {j k:Nat} {ps:List Str} {dvs:List V} {sp:Sp} (c:MCal P w K mg base C m j ps dvs sp) (h:j<=k:=by decide):MCal P w K mg base C m k ps dvs sp:=by
 obtain ⟨f,fd,ds,a,b⟩:=c.ex;exact ⟨c.cl,f,fd,ds,a.mono h,b⟩
theorem KCal.mono {P:Program} {w:World} {K:PySem.W.Frag} {mg:Str->Option Value} {base:Heap} {x:Str} {C:Addr} {j k:Nat} {ps:List Str} {dvs:List V} {sp:Sp} (c:KCal P w K mg base x C j ps dvs sp) (h:j<=k:=by decide):KCal P w K mg base x C k ps dvs sp:=by
 obtain ⟨f,fd,ds,a,b⟩:=c.ex;exact ⟨c.gl,f,fd,ds,a.mono h,b⟩
section
variable {X:Cx} {G:GK} {k:Nat} {f C:Addr} {fd:FuncData} {ps:List Str} {sp:Sp} {dvs:List V} {ds:List Value} {x m:Str} {p pos apos:Pos} {e o:Expr} {es:List Expr} {ta:TE} {t:TA}
theorem Q9 {pins:List (Addr × Obj)} {σ:St} {H:Hp} {s:Shared} {Q:VK} {us:List Value} {vs:List V} (B:Bod X) (F:FnOk X.prog X.w X.K X.mg X.base (CXr X.prog X.w) k f fd ps sp) (hr:Room k X.A) (hb:Binds X.K fd ps ds) (hd:Vals dvs ds)
  (I:Inv (X.exg G) pins σ H s) (r:Vals vs us) (h:sp (vs ++ dvs) H Q (λ cls _ H'=>G cls σ H')):wpAny (model X.prog X.w) X.A (call (.ref f) us) (EP (X.exg G) pins σ Q) (xeG X G) s:=by
 have r2:Vals (vs ++ dvs) (us ++ ds):=r.append hd;have hl:(us ++ ds).length=ps.length:=by rw [<- r2.length];exact F.len _ _ _ _ h
 refine wpAny_call (codeAny_mono (F.run X.A X.stack s H ⟨us,[]⟩ (us ++ ds) (vs ++ dvs) Q _ hr I.unwish.env0 (hb s us I.kIn hl) r2 h) λ r s' hq=>?_);cases r with
 | error e=>exact Qs B I.unwish hq
 | ok fl =>
  cases fl with
  | ret u=>exact I.after hq
  | next=>exact False.elim hq
  | brk=>exact False.elim hq
  | cont=>exact False.elim hq
theorem zcJ {pins:List (Addr × Obj)} {σ:St} {H:Hp} {s:Shared} {Q:VK} {us:List Value} {vs:List V} (B:Bod X) (M:Mk X.K C f) (F:FnOk X.prog X.w X.K X.mg X.base (CXr X.prog X.w) k f fd ps sp) (hr:Room (k + 1) X.A) (hb:Binds X.K fd ps ds) (hd:Vals dvs ds)
  (I:Inv (X.exg G) pins σ H s) (r:Vals vs us)
  (h:∀ x dx,H x=none->H dx=none->dx≠x->sp (.ref x :: (vs ++ dvs)) (upd (upd H dx (.own x)) x (.ins C dx [])) (λ v H2=>v=.non/\Q (.ref x) H2) (λ cls _ H'=>G cls σ H')) :
  wpAny (model X.prog X.w) X.A (call (.ref C) us) (EP (X.exg G) pins σ Q) (xeG X G) s:=by
 have hq:=h (s.heap.objs.size + 1) s.heap.objs.size (I.hok.fresh (Nat.le_succ _)) (I.hok.fresh (Nat.le_refl _)) (Nat.ne_of_lt (Nat.lt_succ_self _));have I2:=Inv.made (C:=C) I;have r2:Vals (V.ref (s.heap.objs.size + 1) :: (vs ++ dvs)) (Value.ref (s.heap.objs.size + 1) :: (us ++ ds)):=.cons rfl (r.append hd);have hl:(Value.ref (s.heap.objs.size + 1) :: us ++ ds).length=ps.length:=by
  have e:=r2.length;rw [F.len _ _ _ _ hq] at e;exact e.symm
 refine wpAny_call (zap (f:=f) I.kIn M.makes M.init (beq_iff_eq.mp M.fn) (codeAny_mono (F.run _ X.stack _ _ ⟨Value.ref (s.heap.objs.size + 1) :: us,[]⟩ (Value.ref (s.heap.objs.size + 1) :: (us ++ ds)) _ _ _ (hr.make C us [])
  (I2.unwish.env0.make C us []) (hb _ (Value.ref (s.heap.objs.size + 1) :: us) I2.kIn hl) r2 hq) λ r s' hq'=>?_))
 cases r with
 | error e=>exact Qs B I2.unwish hq'
 | ok fl =>
  cases fl with
  | ret u =>
   obtain ⟨v,H',I3,rv,ev,q3⟩:=I2.after hq';subst ev;exact ⟨rv,⟨V.ref (s.heap.objs.size + 1),H',I3,rfl,q3⟩⟩
  | next=>exact False.elim hq'
  | brk=>exact False.elim hq'
  | cont=>exact False.elim hq'
def tCl (X:Cx) (k:Nat) (x:Str) (G:GK) (t:TA):TE:=λ σ H Q=>∃ ps dvs sp,Cal X.prog X.w X.K X.mg X.base x k ps dvs sp/\t σ H λ vs H1=>sp (vs ++ dvs) H1 Q (λ cls _ H'=>G cls σ H')
theorem zm (B:Bod X) (hr:Room k X.A) (ha:PA (X.exg G) (e :: es) t) (hg:Gl X x:=by rfl) (hdb:(x == ("__debug__":Str))=false:=by decide)
  (he:starEach (e :: es) X.env=(false,eval e X.env) :: starEach es X.env:=by rfl) (hpl:(backTo pos (starEach es X.env)).any (·.1)=false:=by rfl) :
  PE (X.exg G) (.Call (.Name x p) (e :: es) [] pos) (tCl X k x G t):=by
 intro pins s σ H Q I h;obtain ⟨ps,dvs,sp,⟨f,fd,ds,F,hm,hk,hb,hd⟩,h⟩:=h;refine wpAny_Call_Name_kw (xa I hg hm ?_ hdb);refine callWith_K (h₀:=X.base) I.ok.mod.kin hk (vz (ha pos pins s σ H _ I h) λ us s1 vs H1 I1 r q=>⟨I1.kIn,?_⟩) he hpl;exact Q9 B F hr hb hd I1 r q
def tMk (X:Cx) (k:Nat) (x:Str) (G:GK) (t:TA):TE:=λ σ H Q=>∃ C ps dvs sp,KCal X.prog X.w X.K X.mg X.base x C k ps dvs sp/\t σ H λ vs H1=>∀ y dx,H1 y=none->H1 dx=none->dx≠y ->
 sp (.ref y :: (vs ++ dvs)) (upd (upd H1 dx (.own y)) y (.ins C dx [])) (λ v H2=>v=.non/\Q (.ref y) H2) (λ cls _ H'=>G cls σ H')
theorem zW (B:Bod X) (hr:Room (k + 1) X.A) (ha:PA (X.exg G) (e :: es) t) (hg:Gl X x:=by rfl) (hdb:(x == ("__debug__":Str))=false:=by decide)
  (he:starEach (e :: es) X.env=(false,eval e X.env) :: starEach es X.env:=by rfl) (hpl:(backTo pos (starEach es X.env)).any (·.1)=false:=by rfl) :
  PE (X.exg G) (.Call (.Name x p) (e :: es) [] pos) (tMk X k x G t):=by
 intro pins s σ H Q I h;obtain ⟨C,ps,dvs,sp,⟨hm,f,fd,ds,F,M,hb,hd⟩,h⟩:=h;refine wpAny_Call_Name_kw (xa I hg hm ?_ hdb);refine callWith_K (h₀:=X.base) I.ok.mod.kin M.kp (vz (ha pos pins s σ H _ I h) λ us s1 vs H1 I1 r q=>⟨I1.kIn,?_⟩) he hpl;exact zcJ B M F hr hb hd I1 r q
def tMth (X:Cx) (k:Nat) (m:Str) (G:GK) (ta:TE) (t:TA):TE:=λ σ H Q=>ta σ H λ y H1=>∃ a C dx fs ps dvs sp,y=.ref a/\H1 a=some (.ins C dx fs)/\fs.lookup m=none /\
 MCal X.prog X.w X.K X.mg X.base C m k ps dvs sp/\t σ H1 λ vs H2=>sp (.ref a :: (vs ++ dvs)) H2 Q (λ cls _ H'=>G cls σ H')
theorem zd8 {pl:Sem Bool} (B:Bod X) (hr:Room k X.A) (he:PE (X.exg G) o ta) (ha:PA (X.exg G) (e :: es) t)
  (hst:starEach (e :: es) X.env=(false,eval e X.env) :: starEach es X.env:=by rfl) (hpl:(backTo pos (starEach es X.env)).any (·.1)=false:=by rfl)
  (ht:eval (.Call (.Attribute o m apos) (e :: es) [] pos) X.env=(do
   let ov <- eval o X.env
   standAt apos.atName
   let (f,first) <- holding [ov] (getMethod ov m pl)
   callWith pos f first (backTo pos (starEach (e :: es) X.env)) (backToKw pos (keywordEach [] X.env))):=by rfl) :
  PE (X.exg G) (.Call (.Attribute o m apos) (e :: es) [] pos) (tMth X k m G ta t):=by
 intro pins s σ H Q I h;refine methodCall_KW (pl:=pl) (thn (he pins s σ H _ I h) λ u s1 hz=>?_) ht;obtain ⟨x,H1,I1,rx,a,C,dx,fs,ps,dvs,sp,ex,ea,l,⟨c,f,fd,ds,F,hm,hb,hd⟩,q⟩:=hz;subst ex;obtain rfl:u=Value.ref a:=rx;refine Ze I1 ea c hm l ?_;refine callWith_K (first:=[.ref a]) (h₀:=X.base) I.ok.mod.kin hm.kp (vz (ha pos pins s1 σ H1 _ I1 q) λ us s2 vs H2 I2 r q2=>⟨I2.kIn,?_⟩) hst hpl;exact Q9 (us:=.ref a :: us) (vs:=.ref a :: vs) B F hr hb hd I2 (.cons rfl r) q2
theorem Je {pl:Sem Bool} (B:Bod X) (hr:Room k X.A) (he:PE (X.exg G) o ta)
  (ht:eval (.Call (.Attribute o m apos) [] [] pos) X.env=(do
   let ov <- eval o X.env
   standAt apos.atName
   let (f,first) <- holding [ov] (getMethod ov m pl)
   callWith pos f first (backTo pos (starEach [] X.env)) (backToKw pos (keywordEach [] X.env))):=by rfl) :
  PE (X.exg G) (.Call (.Attribute o m apos) [] [] pos) (tMth X k m G ta tNil):=by
 intro pins s σ H Q I h;refine methodCall_KW (pl:=pl) (thn (he pins s σ H _ I h) λ u s1 hz=>?_) ht;obtain ⟨x,H1,I1,rx,a,C,dx,fs,ps,dvs,sp,ex,ea,l,⟨c,f,fd,ds,F,hm,hb,hd⟩,q⟩:=hz;subst ex;obtain rfl:u=Value.ref a:=rx;refine Ze I1 ea c hm l ?_;exact PySem.W.callWith_K0 (first:=[.ref a]) I1.kIn hm.kp (Q9 (us:=[.ref a]) (vs:=[.ref a]) B F hr hb hd I1 (.cons rfl .nil) q)
def tGl (X:Cx) (x:Str):TE:=λ _ H Q=>∃ v u,X.mg x=some u/\RelV v u/\Q v H
theorem xT (hg:Gl X x:=by rfl) (hd:(x == ("__debug__":Str))=false:=by decide):PE X (.Name x pos) (tGl X x):=λ _ _ _ H _ I h=>by
 obtain ⟨v,u,hm,r,h⟩:=h;exact xa I hg hm ⟨v,H,I,r,h⟩ hd
def tBl (X:Cx) (x:Str) (v:V):TE:=λ _ H Q=>X.mg x=none/\Q v H
theorem zd4 {n:String} (hv:bootBuiltins x=some (.type n)) (hg:Gl X x:=by rfl) (hn:x≠"__name__":=by decide) (hd:(x == ("__debug__":Str))=false:=by decide):PE X (.Name x pos) (tBl X x (.ty n)):=λ _ _ _ H _ I h=>by
 obtain ⟨hm,h⟩:=h;exact wS I hg hm hv ⟨.ty n,H,I,rfl,h⟩ hn hd
def tBi (X:Cx) (x:Str) (r:List V->Hp->VK->Prop) (t:TA):TE:=λ σ H Q=>X.mg x=none/\t σ H λ vs H1=>r vs H1 Q
theorem zQ {id:String} {r:List V->Hp->VK->Prop} (hc:CallR X (.builtin id) r) (hv:bootBuiltins x=some (.builtin id)) (ha:PA X (e :: es) t) (hg:Gl X x:=by rfl) (hn:x≠"__name__":=by decide) (hdb:(x == ("__debug__":Str))=false:=by decide)
  (he:starEach (e :: es) X.env=(false,eval e X.env) :: starEach es X.env:=by rfl) (hpl:(backTo pos (starEach es X.env)).any (·.1)=false:=by rfl):PE X (.Call (.Name x p) (e :: es) [] pos) (tBi X x r t):=λ pins s σ H Q I h =>
 zea hc hg h.1 hv ha hn hdb he hpl pins s σ H Q I h.2
theorem wL {T:String} {r:List V->Hp->VK->Prop} (hc:CallR X (.type T) r) (hv:bootBuiltins x=some (.type T)) (ha:PA X (e :: es) t) (hg:Gl X x:=by rfl) (hn:x≠"__name__":=by decide) (hdb:(x == ("__debug__":Str))=false:=by decide)
  (he:starEach (e :: es) X.env=(false,eval e X.env) :: starEach es X.env:=by rfl) (hpl:(backTo pos (starEach es X.env)).any (·.1)=false:=by rfl):PE X (.Call (.Name x p) (e :: es) [] pos) (tBi X x r t):=λ pins s σ H Q I h =>
 zcS hc hg h.1 hv ha hn hdb he hpl pins s σ H Q I h.2
end
end L2
namespace L2
open PySem PySem.Spec PyProof.Rows
section
variable {X:Cx} {tg:Expr} {a b c e o:Expr} {ta tb tc:TE} {pos:Pos}
def iSeq (K:PySem.W.Frag) (tl:TE):TI:=λ σ H R=>tl σ H λ x H1=>∃ a,x=.ref a/\(((∃ xs,SqL K H1 a xs)/\R (Itl K a) H1)\/((∃ xs,SqT K H1 a xs)/\R (Itt K a) H1))
theorem qd {l:Expr} {tl:TE} (hl:PE X l tl):PI X tg l (iSeq X.K tl):=by
 intro pins s σ H R I h;refine qp (hl pins s σ H _ I h) λ v s1 x H1 I1 r1 q1=>?_;obtain ⟨a,e,q⟩:=q1;subst e;cases r1;rcases q with ⟨⟨xs,hq⟩,q⟩|⟨⟨xs,hq⟩,q⟩
 ·obtain ⟨its,rv,p,hz⟩:=I1.list hq;refine wpAny_pyIter_list p.isList ?_;refine ⟨s1.heap.objs.size,[s1.heap.objs.size],_,_,H1,rfl,I1.kept (t':=s1.toks) λ b o e=>Heap.get?_push_of_some _ e,zcy a _,⟨_,Heap.get?_push_size _ rfl,rfl,rfl⟩,λ b hb=>?_,q⟩;have e:b=s1.heap.objs.size:=by simpa using hb
  subst e;exact I1.fpOk (Nat.le_refl _) (I1.hok.fresh (Nat.le_refl _))
 ·obtain ⟨its,rv,p,hz⟩:=I1.tuple hq;refine wpAny_pyIter_tuple (show s1.heap.IsTuple a its.toArray from p) ?_;refine ⟨s1.heap.objs.size,[s1.heap.objs.size],_,_,H1,rfl,I1.kept (t':=s1.toks) λ b o e=>Heap.get?_push_of_some _ e,zaN a _,⟨_,Heap.get?_push_size _ rfl,rfl,rfl⟩,λ b hb=>?_,q⟩;have e:b=s1.heap.objs.size:=by simpa using hb
  subst e;exact I1.fpOk (Nat.le_refl _) (I1.hok.fresh (Nat.le_refl _))
theorem we {ta:TA} {p pos:Pos} (ha:PA X [a] ta) (hg:Gl X "range":=by rfl) (hs:starEach [a] X.env=[(false,eval a X.env)]:=by rfl):PI X tg (.Call (.Name "range" p) [a] [] pos) (λ σ H R=>X.mg "range"=none/\iRng1 ta σ H R) :=
 λ pins s σ H R I h=>zcR hg h.1 ha hs pins s σ H R I h.2
def zdW (K:PySem.W.Frag):R2:=λ x y H Q=>∃ l b xs zs,x=.ref l/\y=.ref b/\SqL K H l xs/\SqL K H b zs/\xs.length + zs.length<=sizeLine/\∀ p,H p=none->Q (.ref p) (upd H p (.lst (xs ++ zs)))
theorem zfm:OpR X (binaryOp .Add) (zdW X.K):=by
 intro pins s σ H x y v u Q I rx ry h;obtain ⟨l,b,xs,zs,rfl,rfl,hH,hB,hz,q⟩:=h;cases rx;cases ry;obtain ⟨its,r,p,z⟩:=I.list hH;obtain ⟨its2,r2,p2,z2⟩:=I.list hB;have e1:=r.length;have e2:=r2.length;obtain ⟨⟨cls,dd,data,sl⟩,n,ho,hc,hdd,hd⟩:=p;obtain ⟨⟨cls2,dd2,data2,sl2⟩,n2,ho2,hc2,hdd2,hd2⟩:=p2;simp only at hc hd hc2 hd2;subst hc hd hc2 hd2;have ea:its.toArray ++ its2.toArray=(its ++ its2).toArray:=by simp
 refine concat_meets ⟨_,ho,rfl⟩ ⟨_,ho2,rfl⟩ noFill_list_add seq_list_add PySem.F.slot_list_add PySem.F.entry_list_add (PySem.F.args_list_add_2 _ _) (list_addW l b its.toArray its2.toArray n n2 dd dd2 sl sl2 (by simp only [size_toArray];omega)) ⟨ho,ho2,?_⟩;rw [ea];exact ⟨.ref _,_,I.lnew (t':=s.toks) (r.append r2) (by rw [length_append];omega),rfl,q _ I.fresh⟩
theorem OpR.wk {f:Value->Value->Sem Value} {r r':R2} (h:OpR X f r) (k:∀ x y H Q,r' x y H Q->r x y H Q):OpR X f r':=λ pins s σ H x y v u Q I rx ry q=>h pins s σ H x y v u Q I rx ry (k x y H Q q)
def V2 (K:PySem.W.Frag):R2:=λ x y H Q=>match x,y with
 | .int i,.int j=>Q (.int (i + j)) H
 | .str i,.str j=>i.length + j.length<=sizeLine/\Q (.str (i ++ j)) H
 | x,y=>zdW K x y H Q
theorem z9:OpR X (binaryOp .Add) (V2 X.K):=(op_add.or (op_add_str.or zfm)).wk λ x y H Q h=>by
 unfold V2 at h
 split at h
 ·exact .inl h
 ·exact .inr (.inl ⟨_,_,rfl,rfl,h⟩)
 ·exact .inr (.inr h)
def rT (c:Int->Int->Prop) [∀ i j,Decidable (c i j)]:R2:=λ x y H Q=>iq x λ i=>iq y λ j=>if c i j then Q (.bl true) H else Q (.bl false) H
theorem zbx {c:Prop} [Decidable c] {Q:VK} {H:Hp} (h:if c then Q (.bl true) H else Q (.bl false) H):Q (.bl (decide c)) H:=by
 by_cases e:c
 ·rw [if_pos e] at h;rw [decide_eq_true e];exact h
 ·rw [if_neg e] at h;rw [decide_eq_false e];exact h
theorem zcc {c:Prop} [Decidable c] {Q:VK} {H:Hp} (h:if ¬ c then Q (.bl true) H else Q (.bl false) H):Q (.bl (!decide c)) H:=by
 by_cases e:c
 ·rw [if_neg (λ z=>z e)] at h;rw [decide_eq_true e];exact h
 ·rw [if_pos e] at h;rw [decide_eq_false e];exact h
theorem OpR.t {f:Value->Value->Sem Value} {c:Int->Int->Prop} [∀ i j,Decidable (c i j)] (h:OpR X f (rI0 λ i j=>.bl (decide (c i j)))):OpR X f (rT c):=h.wk λ x y H Q q=>by
 obtain ⟨i,j,rfl,rfl,q⟩:=Xh q;exact zbx q
theorem zfY:OpR X (compareOp .Lt) (rT λ i j=>i < j):=op_lt.t
theorem xl:OpR X (compareOp .LtE) (rT λ i j=>i<=j):=op_le.t
theorem QB:OpR X (compareOp .Gt) (rT λ i j=>j < i):=op_gt.t
theorem ji:OpR X (compareOp .Is) (λ x y H Q=>nq y (if x=.non then Q (.bl true) H else Q (.bl false) H)):=op_isN.wk λ x y H Q q=>by
 obtain ⟨rfl,q⟩:=zb6 q;exact zbx q
theorem Zx:OpR X (compareOp .IsNot) (λ x y H Q=>nq y (if ¬ x=.non then Q (.bl true) H else Q (.bl false) H)):=op_notN.wk λ x y H Q q=>by
 obtain ⟨rfl,q⟩:=zb6 q;exact zcc q
theorem za9 {op:Operator} {b:Expr} {y:V} {r:R2} (ho:OpR X (binaryOp op) r) (hb:PE X b (tC y)) {ta:TE} {r':V->Hp->VK->Prop} (k:∀ x H Q,r' x H Q->r x y H Q) {pos:Pos} (ha:PE X a ta):PE X (.BinOp a op b pos) (tUn r' ta):=by
 intro pins s σ H Q I h;refine wpAny_BinOp (qp (ha pins s σ H _ I h) λ v s1 x H1 I1 r1 q1=>thn (hb pins s1 σ H1 (λ z H2=>z=y/\H2=H1) I1 ⟨rfl,rfl⟩) λ u s2 ⟨z,H2,I2,r2,e,e2⟩=>?_);subst e e2;exact ho pins s2 σ H2 x z v u Q I2 r1 r2 (k x H2 Q q1)
theorem Z8 {k:Int} {j:Nat} {p2 pos:Pos} {ta:TE} (ha:PE X a ta) (h:decide (0 < k)=true:=by rfl):PE X (.BinOp a .Mod (.Constant (.int k) j p2) pos) (tUn (rU λ i=>.int (i % k)) ta) :=
 za9 jw zd (λ x H Q q=>by obtain ⟨i,rfl,q⟩:=ZH q;exact ⟨of_decide_eq_true h,q⟩) ha
theorem Z9 {k:Int} {j:Nat} {p2 pos:Pos} {ta:TE} (ha:PE X a ta) (h:decide (0 < k/\k < 1073741824)=true:=by rfl):PE X (.BinOp a .FloorDiv (.Constant (.int k) j p2) pos) (tUn (rU λ i=>.int (i / k)) ta) :=
 za9 zfl zd (λ x H Q q=>by obtain ⟨i,rfl,q⟩:=ZH q;have z:=of_decide_eq_true h;exact ⟨z,q⟩) ha
theorem zd5 {b k:Int} {j j2:Nat} {p1 p2 pos:Pos} (h:decide (0<=k/\k<=1000000/\b.natAbs < 2 ^ 64)=true:=by rfl):PE X (.BinOp (.Constant (.int b) j p1) .Pow (.Constant (.int k) j2 p2) pos) (tC (.int (b ^ k.toNat))):=by
 intro pins s σ H Q I q;have z:=of_decide_eq_true h;exact zH zgp zd zd pins s σ H Q I ⟨z,q⟩
theorem Z7 {b k:Int} {j j2:Nat} {p1 p2 p3 pos:Pos} {ta:TE} (ha:PE X a ta) (h:decide (0<=k/\k<=1000000/\b.natAbs < 2 ^ 64)=true:=by rfl) (h0:decide (0 < b)=true:=by rfl) :
  PE X (.BinOp a .Mod (.BinOp (.Constant (.int b) j p1) .Pow (.Constant (.int k) j2 p2) p3) pos) (tUn (rU λ i=>.int (i % b ^ k.toNat)) ta) :=
 za9 jw (zd5 h) (λ x H Q q=>by obtain ⟨i,rfl,q⟩:=ZH q;exact ⟨Int.pow_pos (of_decide_eq_true h0),q⟩) ha
structure MulOk (i j:Int):Prop where
 h:IntMulOk i j
theorem Vf:OpR X (binaryOp .Mult) (rI MulOk λ i j=>.int (i * j)):=opI λ _ _ _ _ _ _ _ hc q=>mul_int q hc.h
structure CFd (_ j:Int):Prop where
 a:j≠0
 b:j.natAbs.log2 < 9000
theorem zfo:OpR X (binaryOp .FloorDiv) (rI CFd λ i j=>.int (i.fdiv j)):=opI λ _ _ _ _ _ _ _ hc q=>floordiv_int hc.1 q (.inl (PyProof.noPylong_of_log2 hc.2))
theorem zhd:OpR X (compareOp .Gt) (rI0 λ i j=>.bl (decide (j < i))):=op_gt
theorem mul_okL {i j:Int} (h1:-(2 ^ 64) < i) (h2:i < 2 ^ 64):MulOk i j:=⟨PySem.IntMulOk.of_left (PySem.intBits_le_64 h1 h2)⟩
theorem mul_okR {i j:Int} (h1:-(2 ^ 64) < j) (h2:j < 2 ^ 64):MulOk i j:=⟨PySem.IntMulOk.of_right (PySem.intBits_le_64 h1 h2)⟩
theorem fd_ok {i j:Int} (h1:0 < j) (h2:j.natAbs < 2 ^ 8999):CFd i j:=⟨by omega,by
 have:=(Nat.log2_lt (n:=j.natAbs) (k:=8999) (by omega)).mpr h2;omega⟩
theorem fdiv_pos {i j:Int} (h:0 < j):i.fdiv j=i / j:=Int.fdiv_eq_ediv_of_nonneg i (Int.le_of_lt h)
def xP:List V->List V->Bool
 | [],[]=>true
 | x :: xs,y :: ys=>eqV x y && xP xs ys
 | _,_=>false
theorem xN:∀ {xs ys:List V},xs.length≠ys.length->xP xs ys=false
 | [],[],h=>absurd rfl h
 | [],_ :: _,_=>rfl
 | _ :: _,[],_=>rfl
 | x :: xs,y :: ys,h=>by
  have:=xN (xs:=xs) (ys:=ys) (λ e=>h (by simp [e]));unfold xP;rw [this,Bool.and_false]
theorem xO:∀ {xs ys:List V},xs.length=ys.length->(List.range xs.length).all (λ j=>eqV (xs.getD j .non) (ys.getD j .non))=xP xs ys
 | [],[],_=>rfl
 | [],_ :: _,h=>by simp at h
 | _ :: _,[],h=>by simp at h
 | x :: xs,y :: ys,h=>by
  have ih:=xO (xs:=xs) (ys:=ys) (by simpa using h);unfold xP;rw [<- ih,length_cons,List.range_succ_eq_map,List.all_cons,List.all_map]
  rfl
theorem Vals.getD:∀ {xs:List V} {us:List Value} {j:Nat} (h:j < us.length),Vals xs us->RelV (xs.getD j .non) us[j]
 | _,_,0,_,.cons r _=>r
 | _,_,j + 1,h,.cons _ t=>Vals.getD (j:=j) (by simpa using h) t
theorem jP {xs:List V} (f:xs.all vL=true) (j:Nat):vL (xs.getD j .non)=true:=by
 rw [getD_eq_getElem?_getD];cases e:xs[j]? with
 | none=>rfl
 | some x=>exact List.all_eq_true.mp f x (mem_of_getElem? e)
def zfe (K:PySem.W.Frag) (neg:Bool):R2:=λ x y H Q=>∃ a b xs ys,x=.ref a/\y=.ref b/\((SqL K H a xs/\SqL K H b ys)\/(SqT K H a xs/\SqT K H b ys))/\xs.all vL=true/\ys.all vL=true/\Q (.bl (if neg then !xP xs ys else xP xs ys)) H
theorem zcU (hu:X.A.units < cLine):OpR X (compareOp .Eq) (zfe X.K false):=by
 intro pins s σ H x y v u Q I rx ry h;obtain ⟨a,b,xs,ys,rfl,rfl,hq,fx,fy,q⟩:=h;cases rx;cases ry;have fin:EP X pins σ Q (.bool (xP xs ys)) s:=⟨.bl (xP xs ys),H,I,rfl,q⟩;rcases hq with ⟨h1,h2⟩|⟨h1,h2⟩
 ·obtain ⟨its,r,p,_⟩:=I.list h1;obtain ⟨its2,r2,p2,_⟩:=I.list h2;have e1:=r.length;have e2:=r2.length;by_cases hl:xs.length=ys.length
  ·refine SeqAt.RcAt.lists (e:=λ j=>eqV (xs.getD j .non) (ys.getD j .non)) p.isList p2.isList (by simp only [size_toArray];omega) hu (λ j h1 h2=>?_) _ _ _ _ ?_
   ·exact Qm (Vals.getD (by simpa using h1) r) (Vals.getD (by simpa using h2) r2) (jP fx j) (jP fy j)
   ·rw [size_toArray,<- e1,xO hl];exact fin
  ·rw [xN hl] at fin;exact SeqAt.RcAt.lists_lengths p.isList p2.isList (by simp only [size_toArray];simp;omega) hu _ _ _ _ fin
 ·obtain ⟨its,r,p,_⟩:=I.tuple h1;obtain ⟨its2,r2,p2,_⟩:=I.tuple h2;have e1:=r.length;have e2:=r2.length;refine SeqAt.RcAt.tuples (e:=λ j=>eqV (xs.getD j .non) (ys.getD j .non)) p p2 hu (λ j h1 h2=>?_) _ _ _ _ ?_
  ·exact Qm (Vals.getD (by simpa using h1) r) (Vals.getD (by simpa using h2) r2) (jP fx j) (jP fy j)
  ·by_cases hl:xs.length=ys.length
   ·have em:min its.toArray.size its2.toArray.size=xs.length:=by simp only [size_toArray];omega
    have es:(its.toArray.size == its2.toArray.size)=true:=by simp only [size_toArray];rw [beq_iff_eq];omega
    rw [em,es,xO hl,Bool.and_true];exact fin
   ·have es:(its.toArray.size == its2.toArray.size)=false:=by simp only [size_toArray];rw [beq_eq_false_iff_ne];omega
    rw [es,Bool.and_false];rw [xN hl] at fin;exact fin
theorem zcT (hu:X.A.units < cLine):OpR X (compareOp .NotEq) (zfe X.K true):=by
 intro pins s σ H x y v u Q I rx ry h;obtain ⟨a,b,xs,ys,rfl,rfl,hq,fx,fy,q⟩:=h;cases rx;cases ry;have fin:EP X pins σ Q (.bool (!xP xs ys)) s:=⟨.bl (!xP xs ys),H,I,rfl,q⟩;rcases hq with ⟨h1,h2⟩|⟨h1,h2⟩
 ·obtain ⟨its,r,p,_⟩:=I.list h1;obtain ⟨its2,r2,p2,_⟩:=I.list h2;have e1:=r.length;have e2:=r2.length;by_cases hl:xs.length=ys.length
  ·refine SeqAt.RcNeAt.lists (e:=λ j=>eqV (xs.getD j .non) (ys.getD j .non)) p.isList p2.isList (by simp only [size_toArray];omega) hu (λ j h1 h2=>?_) _ _ _ _ ?_
   ·exact Qm (Vals.getD (by simpa using h1) r) (Vals.getD (by simpa using h2) r2) (jP fx j) (jP fy j)
   ·rw [size_toArray,<- e1,xO hl];exact fin
  ·rw [xN hl] at fin;exact SeqAt.RcNeAt.lists_lengths p.isList p2.isList (by simp only [size_toArray];simp;omega) hu _ _ _ _ fin
 ·obtain ⟨its,r,p,_⟩:=I.tuple h1;obtain ⟨its2,r2,p2,_⟩:=I.tuple h2;have e1:=r.length;have e2:=r2.length;refine SeqAt.RcNeAt.tuples (e:=λ j=>eqV (xs.getD j .non) (ys.getD j .non)) p p2 hu (λ j h1 h2=>?_) _ _ _ _ ?_
  ·exact Qm (Vals.getD (by simpa using h1) r) (Vals.getD (by simpa using h2) r2) (jP fx j) (jP fy j)
  ·by_cases hl:xs.length=ys.length
   ·have em:min its.toArray.size its2.toArray.size=xs.length:=by simp only [size_toArray];omega
    have es:(its.toArray.size == its2.toArray.size)=true:=by simp only [size_toArray];rw [beq_iff_eq];omega
    rw [em,es,xO hl,Bool.and_true];exact fin
   ·have es:(its.toArray.size == its2.toArray.size)=false:=by simp only [size_toArray];rw [beq_eq_false_iff_ne];omega
    rw [es,Bool.and_false];rw [xN hl] at fin;exact fin
inductive DE (K:PySem.W.Frag) (H:Hp):Nat->V->V->Bool->Prop
 | flat {n:Nat} {x y:V}:vL x=true->vL y=true->DE K H n x y (eqV x y)
 | same {n:Nat} {p:Addr}:DE K H n (.ref p) (.ref p) true
 | lists {n:Nat} {p q:Addr} {xs ys:List V} {e:Nat->Bool}:p≠q->SqL K H p xs->SqL K H q ys->xs.length=ys.length->(∀ j x y,xs[j]?=some x->ys[j]?=some y->DE K H n x y (e j))->DE K H (n + 1) (.ref p) (.ref q) ((List.range xs.length).all e)
 | listsL {n:Nat} {p q:Addr} {xs ys:List V}:p≠q->SqL K H p xs->SqL K H q ys->xs.length≠ys.length->DE K H (n + 1) (.ref p) (.ref q) false
 | tuples {n:Nat} {p q:Addr} {xs ys:List V} {e:Nat->Bool}:p≠q->SqT K H p xs->SqT K H q ys->(∀ j x y,xs[j]?=some x->ys[j]?=some y->DE K H n x y (e j))->DE K H (n + 1) (.ref p) (.ref q) ((List.range (min xs.length ys.length)).all e && xs.length == ys.length)
 | nt {n:Nat} {p:Addr} {xs:List V}:SqT K H p xs->DE K H n .non (.ref p) false
 | tn {n:Nat} {p:Addr} {xs:List V}:SqT K H p xs->DE K H n (.ref p) .non false
theorem Vals.at_ {xs:List V} {us:List Value} (r:Vals xs us) {j:Nat} (h:j < us.toArray.size):∃ x,xs[j]?=some x/\RelV x us.toArray[j]:=by
 have h':j < us.length:=by simpa using h
 have hl:j < xs.length:=by rw [r.length];exact h'
 obtain ⟨u,hu,ru⟩:=r.get (getElem?_eq_getElem hl);have e:us.toArray[j]=u:=by
  have:=List.getElem?_eq_some_iff.mp hu;obtain ⟨_,e⟩:=this;simpa using e
 exact ⟨xs[j],getElem?_eq_getElem hl,e ▸ ru⟩
theorem zcm {pins:List (Addr × Obj)} {s:Shared} {σ:St} {H:Hp} {n:Nat} {x y:V} {b:Bool} (I:Inv X pins σ H s) (h:DE X.K H n x y b):∀ {u v:Value} {A:Around},RelV x u->RelV y v->A.units + n < cLine->SeqAt.EqAt A s u v b:=by
 induction h with
 | flat fx fy=>intro u v A rx ry _;exact Qm rx ry fx fy
 | same=>intro u v A rx ry _;cases rx;cases ry;exact SeqAt.EqAt.same _
 | lists hne h1 h2 hl _ ih =>
  intro u v A rx ry hu;cases rx;cases ry;obtain ⟨its,r,p,_⟩:=I.list h1;obtain ⟨its2,r2,p2,_⟩:=I.list h2;have e1:=r.length;have e2:=r2.length;refine SeqAt.EqAt.of_refs hne ?_;have:=SeqAt.RcAt.lists (A:=A) (s:=s) p.isList p2.isList (by simp only [size_toArray];omega) (by omega) (λ j h1 h2=>by
   obtain ⟨x,hx,rx⟩:=r.at_ h1;obtain ⟨y,hy,ry⟩:=r2.at_ h2;exact ih j x y hx hy rx ry (by show A.units + 1 + _ < _;omega))
  rw [size_toArray,<- e1] at this;exact this
 | listsL hne h1 h2 hl =>
  intro u v A rx ry hu;cases rx;cases ry;obtain ⟨its,r,p,_⟩:=I.list h1;obtain ⟨its2,r2,p2,_⟩:=I.list h2;have e1:=r.length;have e2:=r2.length;exact SeqAt.EqAt.of_refs hne (SeqAt.RcAt.lists_lengths p.isList p2.isList (by simp only [size_toArray];simp;omega) (by omega))
 | tuples hne h1 h2 _ ih =>
  intro u v A rx ry hu;cases rx;cases ry;obtain ⟨its,r,p,_⟩:=I.tuple h1;obtain ⟨its2,r2,p2,_⟩:=I.tuple h2;have e1:=r.length;have e2:=r2.length;refine SeqAt.EqAt.of_refs hne ?_;have:=SeqAt.RcAt.tuples (A:=A) (s:=s) p p2 (by omega) (λ j h1 h2=>by
   obtain ⟨x,hx,rx⟩:=r.at_ h1;obtain ⟨y,hy,ry⟩:=r2.at_ h2;exact ih j x y hx hy rx ry (by show A.units + 1 + _ < _;omega))
  simp only [size_toArray,<- e1,<- e2] at this;exact this
 | nt h1 =>
  intro u v A rx ry hu;cases rx;cases ry;obtain ⟨its,r,p,_⟩:=I.tuple h1;exact SeqAt.EqAt.none_tuple p (by omega)
 | tn h1 =>
  intro u v A rx ry hu;cases rx;cases ry;obtain ⟨its,r,p,_⟩:=I.tuple h1;exact SeqAt.EqAt.tuple_none p (by omega)
def zff (K:PySem.W.Frag) (neg:Bool):R2:=λ x y H Q=>∃ p q xs ys n e,x=.ref p/\y=.ref q/\n<=8/\(∀ j x y,xs[j]?=some x->ys[j]?=some y->DE K H n x y (e j)) /\
 ((SqL K H p xs/\SqL K H q ys/\xs.length=ys.length/\Q (.bl (if neg then !((List.range xs.length).all e) else (List.range xs.length).all e)) H) \/
   (SqT K H p xs/\SqT K H q ys/\Q (.bl (if neg then !((List.range (min xs.length ys.length)).all e && xs.length == ys.length) else ((List.range (min xs.length ys.length)).all e && xs.length == ys.length))) H))
theorem zbd (hu:X.A.units + 100 < cLine):OpR X (compareOp .Eq) (zff X.K false):=by
 intro pins s σ H x y v u Q I rx ry h;obtain ⟨p,q,xs,ys,n,e,rfl,rfl,hn,hde,h⟩:=h;cases rx;cases ry;rcases h with ⟨h1,h2,hl,q⟩|⟨h1,h2,q⟩
 ·obtain ⟨its,r,p,_⟩:=I.list h1;obtain ⟨its2,r2,p2,_⟩:=I.list h2;have e1:=r.length;have e2:=r2.length;refine SeqAt.RcAt.lists (e:=e) p.isList p2.isList (by simp only [size_toArray];omega) (by omega) (λ j h1 h2=>?_) _ _ _ _ ?_
  ·obtain ⟨x,hx,rx⟩:=r.at_ h1;obtain ⟨y,hy,ry⟩:=r2.at_ h2;exact zcm I (hde j x y hx hy) rx ry (by show X.A.units + 1 + _ < _;omega)
  ·rw [size_toArray,<- e1];exact ⟨.bl _,H,I,rfl,q⟩
 ·obtain ⟨its,r,p,_⟩:=I.tuple h1;obtain ⟨its2,r2,p2,_⟩:=I.tuple h2;have e1:=r.length;have e2:=r2.length;refine SeqAt.RcAt.tuples (e:=e) p p2 (by omega) (λ j h1 h2=>?_) _ _ _ _ ?_
  ·obtain ⟨x,hx,rx⟩:=r.at_ h1;obtain ⟨y,hy,ry⟩:=r2.at_ h2;exact zcm I (hde j x y hx hy) rx ry (by show X.A.units + 1 + _ < _;omega)
  ·simp only [size_toArray,<- e1,<- e2];exact ⟨.bl _,H,I,rfl,q⟩
theorem zbc (hu:X.A.units + 100 < cLine):OpR X (compareOp .NotEq) (zff X.K true):=by
 intro pins s σ H x y v u Q I rx ry h;obtain ⟨p,q,xs,ys,n,e,rfl,rfl,hn,hde,h⟩:=h;cases rx;cases ry;rcases h with ⟨h1,h2,hl,q⟩|⟨h1,h2,q⟩
 ·obtain ⟨its,r,p,_⟩:=I.list h1;obtain ⟨its2,r2,p2,_⟩:=I.list h2;have e1:=r.length;have e2:=r2.length;refine SeqAt.RcNeAt.lists (e:=e) p.isList p2.isList (by simp only [size_toArray];omega) (by omega) (λ j h1 h2=>?_) _ _ _ _ ?_
  ·obtain ⟨x,hx,rx⟩:=r.at_ h1;obtain ⟨y,hy,ry⟩:=r2.at_ h2;exact zcm I (hde j x y hx hy) rx ry (by show X.A.units + 1 + _ < _;omega)
  ·rw [size_toArray,<- e1];exact ⟨.bl _,H,I,rfl,q⟩
 ·obtain ⟨its,r,p,_⟩:=I.tuple h1;obtain ⟨its2,r2,p2,_⟩:=I.tuple h2;have e1:=r.length;have e2:=r2.length;refine SeqAt.RcNeAt.tuples (e:=e) p p2 (by omega) (λ j h1 h2=>?_) _ _ _ _ ?_
  ·obtain ⟨x,hx,rx⟩:=r.at_ h1;obtain ⟨y,hy,ry⟩:=r2.at_ h2;exact zcm I (hde j x y hx hy) rx ry (by show X.A.units + 1 + _ < _;omega)
  ·simp only [size_toArray,<- e1,<- e2];exact ⟨.bl _,H,I,rfl,q⟩
def za8 (K:PySem.W.Frag):R2:=λ x y H Q=>match x,y with
 | .int i,.int j=>Q (.bl (decide (i=j))) H
 | .str i,.str j=>Q (.bl (decide (i=j))) H
 | .bl i,.bl j=>Q (.bl (decide (i=j))) H
 | x,y=>rEq x y H Q\/zfe K false x y H Q\/zff K false x y H Q
def za7 (K:PySem.W.Frag):R2:=λ x y H Q=>match x,y with
 | .int i,.int j=>Q (.bl (!decide (i=j))) H
 | .str i,.str j=>Q (.bl (!decide (i=j))) H
 | .bl i,.bl j=>Q (.bl (!decide (i=j))) H
 | x,y=>rNe x y H Q\/zfe K true x y H Q\/zff K true x y H Q
def zcN (K:PySem.W.Frag):R2:=λ x y H Q=>match x,y with
 | .int i,.int j=>if i=j then Q (.bl true) H else Q (.bl false) H
 | .str i,.str j=>if i=j then Q (.bl true) H else Q (.bl false) H
 | .bl i,.bl j=>if i=j then Q (.bl true) H else Q (.bl false) H
 | x,y=>za8 K x y H Q
def zcM (K:PySem.W.Frag):R2:=λ x y H Q=>match x,y with
 | .int i,.int j=>if ¬ i=j then Q (.bl true) H else Q (.bl false) H
 | .str i,.str j=>if ¬ i=j then Q (.bl true) H else Q (.bl false) H
 | .bl i,.bl j=>if ¬ i=j then Q (.bl true) H else Q (.bl false) H
 | x,y=>za7 K x y H Q
theorem zec (hu:X.A.units + 100 < cLine):OpR X (compareOp .Eq) (za8 X.K):=(op_eq.or ((zcU (by omega)).or (zbd hu))).wk λ x y H Q h=>by
 unfold za8 at h
 split at h <;> first|exact h|exact .inl ⟨rfl,by simpa using h⟩
theorem zfZ (hu:X.A.units + 100 < cLine):OpR X (compareOp .NotEq) (za7 X.K):=(op_ne.or ((zcT (by omega)).or (zbc hu))).wk λ x y H Q h=>by
 unfold za7 at h
 split at h <;> first|exact h|exact .inl ⟨rfl,by simpa using h⟩
theorem wv (hu:X.A.units + 100 < cLine):OpR X (compareOp .Eq) (zcN X.K):=(zec hu).wk λ x y H Q h=>by
 unfold zcN at h
 split at h <;> first|exact h|exact zbx (Q:=Q) h
theorem zb5 (hu:X.A.units + 100 < cLine):OpR X (compareOp .NotEq) (zcM X.K):=(zfZ hu).wk λ x y H Q h=>by
 unfold zcM at h
 split at h <;> first|exact h|exact zcc (Q:=Q) h
theorem Room.units1 {k:Nat} {A:Around} (r:Room k A):A.units + 100 < cLine:=by have:=r.un;omega
def zfH:V->Option Value
 | .ty n=>some (.type n)
 | .ref a=>some (.ref a)
 | _=>none
theorem zU:bootBuiltins "len"=some (.builtin "len"):=by decide +kernel
theorem qb:bootBuiltins "isinstance"=some (.builtin "isinstance"):=by decide +kernel
theorem zeR:bootBuiltins "max"=some (.builtin "max"):=by decide +kernel
theorem zgQ:bootBuiltins "any"=some (.builtin "any"):=by decide +kernel
theorem zdv:bootBuiltins "sorted"=some (.builtin "sorted"):=by decide +kernel
theorem zgP:bootBuiltins "int"=some (.type "int"):=by decide +kernel
theorem wt:bootBuiltins "list"=some (.type "list"):=by decide +kernel
theorem ZR:bootBuiltins "tuple"=some (.type "tuple"):=by decide +kernel
theorem zfJ:bootBuiltins "bool"=some (.type "bool"):=by decide +kernel
theorem XX:bootBuiltins "ValueError"=some (.type "ValueError"):=by decide +kernel
theorem QE {K:PySem.W.Frag}:PySem.W.kitOne K (.type "int") (.type "int")=some true:=by rfl
theorem ZE {K:PySem.W.Frag}:PySem.W.kitOne K (.type "int") (.type "bool")=some false:=by rfl
theorem vJ {K:PySem.W.Frag}:PySem.W.kitOne K (.type "bool") (.type "bool")=some true:=by rfl
theorem QD {K:PySem.W.Frag}:PySem.W.kitOne K (.type "str") (.type "str")=some true:=by rfl
theorem zgH:IxR X (rIx X.K):=zgG
theorem zV:CallR X (.builtin "len") (λ xs H Q=>lq xs λ x=>∃ n,zhw X.K x H n/\Q (.int n) H):=λ pins s σ H xs us Q I r h=>let ⟨x,e,n,h⟩:=zek h;zeM pins s σ H xs us Q I r ⟨x,n,e,h⟩
theorem zgx {xs:List V} {P:Int->Prop} (h:lq xs λ v=>iq v P):∃ i,xs=[.int i]/\P i:=by
 obtain ⟨v,rfl,h⟩:=zek h;obtain ⟨i,rfl,h⟩:=ZH h;exact ⟨i,rfl,h⟩
end
end L2
namespace L2
open PySem PySem.Spec PyProof.Rows
abbrev bmV:List Value:=[.type "ValueError",.type "Exception",.type "BaseException",.type "object"]
structure XC (K:PySem.W.Frag) (C:Addr):Prop where
 q:excIn K C bmV "ValueError.__new__"=true
theorem zf6 {K:PySem.W.Frag} {C:Addr} {h₀:Heap} (X:K.In h₀) (x:XC K C):∃ bm N nm q bs hdct sn sub ab col dd k0 k1 k2 k3 k5 mN,h₀.get? C=some (excClassObj nm q C N bs bm hdct sn sub ab col dd k0 k1 k2 k3 k5 "ValueError.__new__")/\h₀.Ns N mN/\mN "__init__"=none/\OwnTail h₀ bmV bm:=by
 have q:=x.q;unfold excIn at q
 split at q
 ·rename_i dd cd sl ho
  split at q
  ·rename_i C' bm k0 k1 k2 k3 n k5 hm hs;simp only [Bool.and_eq_true,beq_iff_eq,Bool.not_eq_true'] at q;obtain ⟨⟨⟨⟨⟨rfl,rfl⟩,hdel⟩,ht⟩,hok⟩,hni⟩:=q;obtain ⟨nm,bs,mro,ns,qn,hd,sn,sub,ab,col,del⟩:=cd;dsimp only at hm hdel hok hni;subst hm hdel;have hsl:sl=#[k0,k1,k2,k3,some (.builtin "ValueError.__new__"),k5]:=by
    obtain ⟨l⟩:=sl;simp only at hs;rw [hs]
   subst hsl;exact ⟨bm,ns,nm,qn,bs,hd,sn,sub,ab,col,dd,k0,k1,k2,k3,k5,_,X _ _ ho,.of_isNs (PySem.W.isNs_of_in X hok),PySem.W.nsMap_none_of_in X hok hni,PySem.W.tail_of_in X ht⟩
  ·cases q
 ·cases q
section
variable {X:Cx} {G:GK} {x n:Str} {np cpos pos hpos:Pos} {e₀:Expr} {es:List Expr} {t:TA}
def tRaise (X:Cx) (x:Str) (G:GK) (t:TA):TS:=λ _ σ H=>∃ C,X.mg x=some (.ref C)/\XC X.K C/\t σ H λ vs H1=>szl vs (G (.ref C) σ H1)
theorem qH (B:Bod X) (hc:X.calm=true) (ha:PA (X.exg G) (e₀ :: es) t) (hg:Gl X x:=by rfl) (hdb:(x == ("__debug__":Str))=false:=by decide)
  (he:starEach (e₀ :: es) X.env=(false,eval e₀ X.env) :: starEach es X.env:=by rfl) (hpl:(backTo cpos (starEach es X.env)).any (·.1)=false:=by rfl) :
  PS (X.exg G) (.Raise (some (.Call (.Name x np) (e₀ :: es) [] cpos)) none pos) (tRaise X x G t):=by
 intro pins s σ H D I h;obtain ⟨C,hm,xc,h⟩:=h;obtain ⟨tl,N,nm,q,bs,hdct,sn,sub,ab,col,dd,k0,k1,k2,k3,k5,mN,hC,hN,hni,T⟩:=zf6 I.ok.mod.kin xc;refine wpAny_Raise_call_subT (C:=C) (nm:=nm) (q:=q) (N:=N) (bs:=bs) (bm:=tl) (hdct:=hdct) (sn:=sn) (sub:=sub) (ab:=ab) (col:=col) (dd:=dd) (k0:=k0) (k1:=k1) (k2:=k2) (k3:=k3) (k5:=k5)
  F.excBase_ValueError (mN:=mN) (T.hasType F.excBase_ValueError.hasBase) (I.ok.hd hc) (by rw [he];show (false || (backTo cpos (starEach es X.env)).any (·.1))=false;rw [hpl];rfl) hni (xa I hg hm ⟨rfl,?_⟩ hdb)
 have hA:=ha cpos pins s σ H _ I h;rw [he] at hA ⊢;refine Calls.evalArgs_plain (thn hA λ us s2 ⟨vs,H2,I2,r,g⟩=>?_);obtain ⟨hl,g⟩:=zaP g;exact ⟨rfl,by rw [<- r.length];exact hl,I2.bk _ _ hC,hN.keeps I2.bk,T.keeps I2.bk,λ h' a hm=>zaK B I2.unwish hm g⟩
end
def zbH (a:Addr) (cls:Value):HO:=.ext λ h=>∃ o vs,h.get? a=some o/\o.cls=cls/\o.dict=none/\o.data=.fields vs
theorem Exc.obj {g h:Heap} {H:Hp} {pn:List (Addr × Obj)} {a:Addr} {cls:Value} (x:Exc g h H pn a cls):∃ o vs,h.get? a=some o/\o.cls=cls/\o.dict=none/\o.data=.fields vs:=by
 obtain ⟨oe,vs,_,_,_,h1,h2,h3,h4,_⟩:=x.ex;exact ⟨oe,vs,h1,h2,h3,h4⟩
section
variable {X:Cx} {pins:List (Addr × Obj)} {σ:St} {H:Hp} {s:Shared}
theorem Inv.track {a:Addr} {u:HO} (I:Inv X pins σ H s) (Ha:H a=none) (ga:X.s₀.heap.get? a=none) (hrec:∃ o vs,s.heap.get? a=some o/\o.data=.fields vs) (pa:∀ p∈X.pn ++ pins,p.1≠a)
  (new:ObjOk X.prog X.w (upd H a u) s.heap a u):Inv X pins σ (upd H a u) s:=by
 obtain ⟨o,vs,ho,hd⟩:=hrec;have neL:X.env.locals≠a:=λ z=>by
  obtain ⟨m,⟨o',es,ep,ho',hd',_⟩,_⟩:=I.loc;rw [z,ho] at ho';cases ho';rw [hd'] at hd;cases hd
 have neC:∀ x c,X.env.cells.lookup x=some c->c≠a:=λ x c e z=>by
  obtain ⟨v,o',ho',hd'⟩:=I.cell x c e;rw [z,ho] at ho';cases ho';rw [hd'] at hd;cases hd
 have keep:∀ b v,H b=some v->upd H a u b=some v:=λ b v e=>by
  rw [upd_ne (ne_of_none e Ha)];exact e
 refine ⟨I.ok,I.os,I.bare,⟨I.base.keep,I.base.slot,λ b o' e n hx=>?_,I.base.there,λ b xs e=>keep b _ (I.base.tups b xs e),λ b o' v e=>keep b _ (I.base.frzs b o' v e),λ b ps e=>?_⟩,I.loc,I.cell,?_,λ x c e=>?_,λ p hp=>?_,λ b v e=>?_,I.len⟩
 ·have:b≠a:=λ z=>by rw [z,ga] at e;cases e
  rw [upd_ne this];exact I.base.free b o' e n hx
 ·obtain ⟨more,q⟩:=I.base.tbls b ps e;exact ⟨more,keep b _ q⟩
 ·rw [upd_ne neL];exact I.free
 ·rw [upd_ne (neC x c e)];exact I.freeC x c e
 ·obtain ⟨e,n,ne,nf,d⟩:=I.pin p hp;exact ⟨e,by rw [upd_ne (pa p hp)];exact n,ne,nf,d⟩
 ·by_cases hb:b=a
  ·subst hb;rw [upd_same] at e;cases e;exact new
  ·rw [upd_ne hb] at e;exact (I.hok b v e).stay (λ _ _ _ q=>q) (λ c q=>keep c _ q) λ c xs q=>keep c _ q
theorem zfC {a:Addr} {cls:Value} {h:Heap} (x:∃ o vs,h.get? a=some o/\o.cls=cls/\o.dict=none/\o.data=.fields vs) {P:Program} {w:World} {H:Hp}:ObjOk P w H h a (zbH a cls):=by
 refine ⟨x,let ⟨o,_,e,_⟩:=x;⟨o,e⟩,λ h1 h2 p k=>?_⟩;obtain ⟨o,vs,e,r⟩:=p;exact ⟨o,vs,k o e,r⟩
theorem Xj {M:Model} {A:Around} {E:Value->Shared->Prop} {a:Addr} {cls:Value} {Q:Unit->Shared->Prop} (I:Inv X pins σ H s) (x:Exc X.s₀.heap s.heap H (X.pn ++ pins) a cls)
  (hQ:∀ s',Inv X pins σ H s'->Exc X.s₀.heap s'.heap H (X.pn ++ pins) a cls->Q () s'):wpAny M A (setFlight (.ref a) none) Q E s:=by
 obtain ⟨⟨oe,vs,T,oT,ts,h1,h2,h3,h4,h5,h6,h7,h8,h9,h10,h11,h12⟩,ga,Ha,pa⟩:=x;have h3s:3 < ts.size:=(Array.getElem?_eq_some_iff.mp h9).1;refine wpAny_setFlight_none h1 h4 h5 h7 h8 h3s ?_;have hT:=Heap.get?_update_self (Obj.mapFields (·.setIfInBounds 3 Value.none)) h7 (Obj.isFreed_of_fields (Obj.data_mapFields h8 _));have other:∀ b,b≠T->(s.heap.update T (Obj.mapFields (·.setIfInBounds 3 Value.none))).get? b=s.heap.get? b:=λ b hb=>Heap.get?_update_other _ _ (Ne.symm hb);refine hQ _ (I.stepx (ch:=[T]) (λ b hb=>?_) (λ b hb=>?_) (λ b o _ hc q=>(other b (λ z=>hc (by simp [z]))).trans q) (λ b o hc q=>⟨o.slots,(other b (λ z=>hc (by simp [z]))).trans q⟩) λ b hb=>?_)
  ⟨⟨oe,vs,T,_,_,(other a (Ne.symm h6)).trans h1,h2,h3,h4,h5,h6,hT,Obj.data_mapFields h8 _,by simp [h3s],h10,h11,h12⟩,ga,Ha,pa⟩
 ·obtain rfl:b=T:=by simpa using hb
  exact ⟨h10,h11,h12⟩
 ·obtain rfl:b=T:=by simpa using hb
  exact ⟨oT,ts,h7,h8⟩
 ·obtain rfl:b=T:=by simpa using hb
  exact ⟨_,hT⟩
end
abbrev Cx.suite (X:Cx) (pn:List (Addr × Obj)) (a:Addr):Cx:={ X with pn:=pn,A:=X.A.mark (some (.ref a)),calm:=false,xe:=λ _ _=>False }
abbrev Cx.pinned (X:Cx) (pn:List (Addr × Obj)):Cx:={ X with pn:=pn }
section
variable {X:Cx} {pins:List (Addr × Obj)} {σ:St} {H:Hp} {s:Shared}
theorem Inv.topn (I:Inv X pins σ H s):Inv (X.pinned (X.pn ++ pins)) [] σ H s :=
 ⟨⟨I.ok.mod,I.ok.kind,I.ok.glob,I.ok.blt,I.ok.above,I.ok.inj,I.ok.has,I.ok.cab,I.ok.hd,I.ok.frames,I.ok.stk,I.ok.exf,I.ok.bs,I.ok.bsz,I.ok.noex,I.ok.exfs,I.ok.funs,I.ok.frf⟩,
  I.os,I.bare,I.base,I.loc,I.cell,I.free,I.freeC,λ p hp=>I.pin p (by rwa [append_nil] at hp),I.hok,I.len⟩
theorem Inv.ofpn (I:Inv (X.pinned (X.pn ++ pins)) [] σ H s):Inv X pins σ H s :=
 ⟨⟨I.ok.mod,I.ok.kind,I.ok.glob,I.ok.blt,I.ok.above,I.ok.inj,I.ok.has,I.ok.cab,I.ok.hd,I.ok.frames,I.ok.stk,I.ok.exf,I.ok.bs,I.ok.bsz,I.ok.noex,I.ok.exfs,I.ok.funs,I.ok.frf⟩,
  I.os,I.bare,I.base,I.loc,I.cell,I.free,I.freeC,λ p hp=>I.pin p (by rw [append_nil];exact hp),I.hok,I.len⟩
theorem Inv.tosuite {pn:List (Addr × Obj)} {a:Addr} (I:Inv (X.pinned pn) [] σ H s):Inv (X.suite pn a) [] σ H s :=
 ⟨⟨I.ok.mod,I.ok.kind,I.ok.glob,I.ok.blt,I.ok.above,I.ok.inj,I.ok.has,I.ok.cab,λ h=>Bool.noConfusion h,I.ok.frames,I.ok.stk,I.ok.exf,I.ok.bs,I.ok.bsz,I.ok.noex,I.ok.exfs,I.ok.funs,I.ok.frf⟩,
  I.os,I.bare,I.base,I.loc,I.cell,I.free,I.freeC,I.pin,I.hok,I.len⟩
theorem Inv.ofsuite {pn:List (Addr × Obj)} {a:Addr} (hd:X.calm=true->X.A.handled=none) (I:Inv (X.suite pn a) [] σ H s):Inv (X.pinned pn) [] σ H s :=
 ⟨⟨I.ok.mod,I.ok.kind,I.ok.glob,I.ok.blt,I.ok.above,I.ok.inj,I.ok.has,I.ok.cab,hd,I.ok.frames,I.ok.stk,I.ok.exf,I.ok.bs,I.ok.bsz,I.ok.noex,I.ok.exfs,I.ok.funs,I.ok.frf⟩,
  I.os,I.bare,I.base,I.loc,I.cell,I.free,I.freeC,I.pin,I.hok,I.len⟩
theorem vt {M:Model} {A:Around} {E:Value->Shared->Prop} {i:Nat} {n:Str} {pos:Pos} {Q:Unit->Shared->Prop} (I:Inv X pins σ H s) (hN:X.N.Nodup) (hi:X.N[i]?=some n) (hlo:X.env.kindOf n=some .local)
  (hQ:∀ s',Inv X pins (σ.set i none) H s'->Q () s'):wpAny M A (do bindName X.env n .none;unbindBehindTheSuite X.env n pos) Q E s:=by
 obtain ⟨m,hn,hl⟩:=id I.loc;have hcls:(X.env.scope.kind == .class || (X.env.scope.kind == .module && X.env.locals != X.env.globals))=false:=by rw [I.ok.kind];rfl
 refine wpAny_nameGoes_keeps hlo hn hcls λ h' v hn' hs=>?_;have iσ:i < σ.length:=by rw [I.len];exact (List.getElem?_eq_some_iff.mp hi).1
 obtain ⟨oL,_,_,hoL,_⟩:=id hn;have cne:=I.cne;refine hQ _ ⟨I.ok,I.os,I.bare,⟨λ b o e n hb hx=>?_,λ b o e n hb hx=>?_,I.base.free,λ b o e hx=>?_,I.base.tups,I.base.frzs,I.base.tbls⟩,⟨_,hn',λ j y v' e1 e2 e3=>?_⟩,λ y c e=>?_,I.free,I.freeC,λ p hp=>?_,λ b ob e=>?_,by simpa using I.len⟩
 ·exact (hs.2 b (Nat.ne_of_lt (Nat.lt_of_lt_of_le (Heap.lt_size e) I.ok.above))).trans (I.base.keep b o e n hb hx)
 ·obtain ⟨sl,e1⟩:=I.base.slot b o e n hb hx;exact ⟨sl,(hs.2 b (Nat.ne_of_lt (Nat.lt_of_lt_of_le (Heap.lt_size e) I.ok.above))).trans e1⟩
 ·obtain ⟨o',e1⟩:=I.base.there b o e hx;exact ⟨o',(hs.2 b (Nat.ne_of_lt (Nat.lt_of_lt_of_le (Heap.lt_size e) I.ok.above))).trans e1⟩
 ·by_cases hj:j=i
  ·subst hj;rw [getElem?_set_self iσ] at e2;cases e2
  ·rw [getElem?_set_ne (Ne.symm hj)] at e2;obtain ⟨u',r',q⟩:=hl j y v' e1 e2 e3;refine ⟨u',r',?_⟩;rcases q with ⟨k,e⟩|⟨k,c,e,z⟩
   ·refine .inl ⟨k,?_⟩;have:y≠n:=λ e=>hj (JW hN e1 (e ▸ hi));simp [this,e]
   ·exact .inr ⟨k,c,e,z.sameBut hs (cne y c e)⟩
 ·obtain ⟨w',z⟩:=I.cell y c e;exact ⟨w',z.sameBut hs (cne y c e)⟩
 ·obtain ⟨e,n,ne,nf,d⟩:=I.pin p hp;exact ⟨(hs.2 p.1 ne).trans e,n,ne,nf,d⟩
 ·refine (I.hok b ob e).stay (λ c w' hc q=>(hs.2 c ?_).trans q) (λ _ q=>q) λ _ _ q=>q;rintro rfl;rcases hc with z|hc
  ·rw [<- z] at e;rw [I.free] at e;cases e
  ·rw [I.free] at hc;cases hc
end
theorem QG {K:PySem.W.Frag} {M:Model} {A:Around} {E:Value->Shared->Prop} {s:Shared} {e C D:Addr} {oe:Obj} {b:Bool} {Q:Bool->Shared->Prop} (X:K.In s.heap) (he:s.heap.get? e=some oe) (hcls:oe.cls=.ref C)
  (k1:PySem.W.kitCls K (.ref C) (.ref D)=some b) (k2:PySem.W.subIn K (.ref D) (.type "BaseException")=some true) (hq:Q b s):wpAny M A (excMatches (.ref e) (.ref D)) Q E s:=by
 obtain ⟨L1,L2,L3⟩:=PySem.W.kit_cls (M:=M) X k1;have L4:=PySem.W.looks_subIn (M:=M) X k2;have f:=tc_notTuple;obtain ⟨hp,g,d,tk,os⟩:=s;unfold excMatches
 repeat (first|(with_reducible refine wpAny_loadPart_at he ?_;rw [hcls])|with_reducible refine L1.at ?_|with_reducible refine L2.at ?_|with_reducible refine L3.at ?_|with_reducible refine L4.at ?_|wp_step)
 cases b
 ·wp_walk
  exact hq
 ·wp_walk
  exact hq
section
variable {X:Cx} {G:GK} {x n:Str} {np pos hpos:Pos} {i:Nat} {body suite:List Stmt} {b₀:Stmt} {tb:List (Addr × Obj)->GK->TS} {th:List (Addr × Obj)->Addr->TS}
def tTryAs (X:Cx) (i:Nat) (x:Str) (tb:List (Addr × Obj)->GK->TS) (th:List (Addr × Obj)->Addr->TS):TS:=λ D σ H=>∃ Dc,X.mg x=some (.ref Dc)/\PySem.W.subIn X.K (.ref Dc) (.type "BaseException")=some true /\
 ∀ pn,tb pn (λ cls σ' H'=>∃ C,cls=.ref C/\PySem.W.kitCls X.K (.ref C) (.ref Dc)=some true/\∀ a,H' a=none ->
  th pn a { nx:=λ σ2 H2=>D.nx (σ2.set i none) H2,rt:=D.rt,bk:=λ σ2 H2=>D.bk (σ2.set i none) H2,ct:=λ σ2 H2=>D.ct (σ2.set i none) H2 } (σ'.set i (some (.ref a))) (upd H' a (zbH a (.ref C)))) D σ H
theorem zcO (B:Bod X) (hc:X.calm=true) (hN:X.N.Nodup) (hi:X.N[i]?=some n) (hlo:X.env.kindOf n=some .local)
  (hb:∀ pn G',PSs ((X.pinned pn).exg G') body (tb pn G')) (hs:∀ pn a,PSs (X.suite pn a) (b₀ :: suite) (th pn a)) (hg:Gl X x:=by rfl) (hdb:(x == ("__debug__":Str))=false:=by decide) :
  PS (X.exg G) (.Try body [.ExceptHandler (some (.Name x np)) (some n) (b₀ :: suite) hpos] [] [] pos) (tTryAs X i x tb th):=by
 intro pins s σ H D I h;obtain ⟨Dc,hm,hsub,h⟩:=h;have I1:=I.unwish.topn;refine wpAny_Try_except (wpAny_mono (hb (X.pn ++ pins) _ [] s σ H D (I1.wish _) (h (X.pn ++ pins))) (λ f s1 q=>?_) λ e s1 q=>?_)
 ·cases f with
  | next =>
   obtain ⟨σ',H',J,q⟩:=q;exact wpAny_execs_nil ⟨σ',H',J.unwish.ofpn.wish _,q⟩
  | brk=>obtain ⟨σ',H',J,q⟩:=q;exact ⟨σ',H',J.unwish.ofpn.wish _,q⟩
  | cont=>obtain ⟨σ',H',J,q⟩:=q;exact ⟨σ',H',J.unwish.ofpn.wish _,q⟩
  | ret u=>obtain ⟨v,σ',H',J,r,q⟩:=q;exact ⟨v,σ',H',J.unwish.ofpn.wish _,r,q⟩
 ·refine wpAny_mono (show wpAny _ _ _ _ _ _ from q) (λ _ s2 q2=>wpAny_mono q2 (λ _ s3 q3=>?_) λ _ _ z=>z.elim) λ _ _ z=>z.elim;obtain ⟨a,cls,σ',H',rfl,J,xx,C,rfl,hk,hth⟩:=q3;have J2:Inv (X.suite (X.pn ++ pins) a) [] σ' H' s3:=J.tosuite;obtain ⟨oe,vs,he,hcls,_,_⟩:=xx.obj;refine wpAny_handleBy_cons (codeAny_handlers_test (xa J2 hg hm (QG J2.kIn he hcls hk hsub ?_) hdb)) (by intro z;cases z);refine codeAny_handlers_suite_as ?_;refine Xj J2 (xx.less λ p hp=>by rwa [append_nil] at hp) λ s4 J4 x4=>?_;have J5:=J4.track (u:=zbH a (.ref C)) x4.Ha x4.ga (let ⟨o,vs,e,_,_,d⟩:=x4.obj;⟨o,vs,e,d⟩) x4.pa (zfC x4.obj);refine Jp (X:=X.suite (X.pn ++ pins) a) (v:=.ref a) J5 hN hi (Or.inl hlo) rfl (λ s5 J6=>?_) (Or.inr hlo);refine wpAny_mono (hs (X.pn ++ pins) a [] s5 _ _ _ J6 (hth a xx.Ha)) (λ f s6 q6=>?_) λ _ _ z=>False.elim z;cases f with
  | next =>
   obtain ⟨σ7,H7,J7,q7⟩:=q6;exact vt (X:=X.suite (X.pn ++ pins) a) J7 hN hi hlo λ s8 J8=>⟨_,H7,(J8.ofsuite I.ok.hd).ofpn.wish _,q7⟩
  | brk =>
   obtain ⟨σ7,H7,J7,q7⟩:=q6;exact vt (X:=X.suite (X.pn ++ pins) a) J7 hN hi hlo λ s8 J8=>⟨_,H7,(J8.ofsuite I.ok.hd).ofpn.wish _,q7⟩
  | cont =>
   obtain ⟨σ7,H7,J7,q7⟩:=q6;exact vt (X:=X.suite (X.pn ++ pins) a) J7 hN hi hlo λ s8 J8=>⟨_,H7,(J8.ofsuite I.ok.hd).ofpn.wish _,q7⟩
  | ret u =>
   obtain ⟨v,σ7,H7,J7,r7,q7⟩:=q6;exact vt (X:=X.suite (X.pn ++ pins) a) J7 hN hi hlo λ s8 J8=>⟨v,_,H7,(J8.ofsuite I.ok.hd).ofpn.wish _,r7,q7⟩
end
structure FA (K:PySem.W.Frag) (mg:Str->Option Value) (x:Str) (st:Stmt) (ps:List Str):Prop where
 ex:∃ f fd,Fun K x x st f fd/\mg x=some (.ref f)/\Binds K fd ps []
theorem FA.cal {P:Program} {w:World} {K:PySem.W.Frag} {mg:Str->Option Value} {base:Heap} {x:Str} {st:Stmt} {ps:List Str} {k:Nat} {sp:Sp} (h:FA K mg x st ps) (ok:∀ {f fd},Fun K x x st f fd->FnOk P w K mg base (CXr P w) k f fd ps sp) :
  Cal P w K mg base x k ps [] sp:=by
 obtain ⟨f,fd,F,m,b⟩:=h.ex;exact ⟨f,fd,[],ok F,m,F.kp,b,.nil⟩
theorem zho {K:PySem.W.Frag} {mg:Str->Option Value} {h:Heap} {x:Str} {st:Stmt} {ps:List Str} {f:Addr} {oc:Value} {od an:Option Addr} {osl:Array (Option Value)} {kV doc pm cdv ct:Value} (X:K.In h) (G:h.Ns mainGlobals mg)
  (a:PySem.W.nsIn K mainGlobals x=some (some (.ref f))) (l:K.lookup f=some ⟨oc,od,.func (PySem.W.fnOf x x (zM st) (zF st) (ze st) .none kV doc pm an cdv ct),osl⟩)
  (c:PySem.W.codeIn K cdv x=true) (k:PySem.W.keepIn K (.ref f)=true)
  (hb:∀ (kV doc pm:Value) (an:Option Addr) (cdv ct:Value) (us:List Value),us.length=ps.length->bindArgs (PySem.W.fnOf x x (zM st) (zF st) (ze st) .none kV doc pm an cdv ct) ⟨us,[]⟩=pure (ps.zip us)):FA K mg x st ps :=
 ⟨f,_,wn l c k,mg_of X G a,(wn l c k).binds hb⟩
theorem zdj {P:Program} {w:World} {H:Hp} {s:Shared} {e:Value} {s':Shared} (h:CXr P w [] H s (λ _ _ _=>False) e s'):False:=by
 obtain ⟨_,_,_,_,_,_,_,_,_,z⟩:=h;exact z
end L2
namespace L2
open PySem PySem.Spec PySem.Calls PyProof.Rows
structure XI (K:PySem.W.Frag) (C:Addr):Prop where
 ga:PySem.W.findIn K (.ref C) "__getattribute__"=some (some (.builtin "BaseException.__getattribute__"))
 gt:PySem.W.findIn K (.ref C) "__getattr__"=some none
 cl:PySem.W.findIn K (.ref C) "__class__"=some (some (.builtin "object.__class__"))
 hd:PySem.W.hasDictIn K C=true
 gn:PySem.W.specialIn K (.builtin "object.__class__") "__get__"=some (some (.builtin "getset_descriptor.__get__"))
 tk:PySem.W.takesIn K (.builtin "object.__class__")=some true
 mo:mroIn K C (.type "object")=some true
 mb:PySem.W.subIn K (.ref C) (.type "BaseException")=some true
section
variable {prog:Program} {w:World} {A:Around} {E:Value->Shared->Prop} {s:Shared} {K:PySem.W.Frag} {a C:Addr} {o:Obj} {vs:Array Value}
theorem zaw {hp:Heap} (hx:hp.get? a=some o) (hc:o.cls=.ref C) (hd:o.dict=none) (hv:o.data=.fields vs):PySem.W.InstAt hp a o C none:=by
 refine ⟨hx,hc,?_,?_⟩
 ·obtain ⟨c,d,dt,sl⟩:=o;simp only at hv;subst hv
  rfl
 ·rw [hd]
  trivial
theorem zdh {Q:Option Value->Shared->Prop} (X:K.In s.heap) (f:XI K C) (hx:s.heap.get? a=some o) (hc:o.cls=.ref C) (hd:o.dict=none) (hv:o.data=.fields vs)
  (h:Q (some (.ref C)) { s with toks:=s.toks + 1 }):wpAny (model prog w) A (getAttr? (.ref a) "__class__") Q E s:=by
 have I:=zaw hx hc hd hv;have hf:PySem.W.findObj K C none "__class__"=some (.bind (.builtin "getset_descriptor.__get__") (.builtin "object.__class__")):=by
   obtain ⟨cd,hcd,_⟩:=any_some f.hd;simp [PySem.W.findObj,hcd,f.cl,f.gn,f.tk]
 obtain ⟨hh,g,d,t,os⟩:=s;have T0:=I.type (M:=model prog w);have T1:=looks_findIn (M:=model prog w) X f.ga;have T2:=PySem.W.looks_find (M:=model prog w) X I hf;have T3:=looks_findIn (M:=model prog w) X f.gt;have T4:=PySem.W.looks_subIn (M:=model prog w) X f.mb;have f3:=F.attr_ValueError.ga.bind (.ref a);unfold getAttr? getAttrBy? getAttrBy;refine wpAny_bind (wpAny_mkText (wpAny_bind (wpAny_attempt (wpAny_holding (wpAny_bind (T0.at (wpAny_bind (T1.at ?_))))))));dsimp only;have nga:(onTheHeap (Value.ref C) && Value.builtin "BaseException.__getattribute__" == Value.builtin "object.__getattribute__")=false:=by
  have z:(Value.builtin "BaseException.__getattribute__" == Value.builtin "object.__getattribute__")=false:=by decide +kernel
  rw [z,Bool.and_false]
 rw [nga,if_neg Bool.false_ne_true];unfold getAttrByItsOwn
 repeat (any_goals (first|assumption|with_reducible refine T0.at ?_|with_reducible refine T3.at ?_|with_reducible refine T1.at ?_|wp_step))
 refine codeAny_call_builtin F.attr_ValueError.ga.plain F.entry_bexc_ga ?_;have hk:builtinKind "BaseException.__getattribute__"=some .slot:=by decide +kernel
 have hsp:splitId "BaseException.__getattribute__"=some ("BaseException","__getattribute__"):=by decide +kernel
 have hav:=F.args_bexc_ga (.ref a) (Value.str (Str.ofString "__class__") t);simp only [checkBuiltinCall,hk,hsp];refine wpAny_bind ?_;unfold isInstance
 repeat (first|with_reducible refine T2.at ?_|with_reducible refine T0.at ?_|with_reducible refine T4.at ?_|wp_step)
 refine PySem.W.class_get (s:=⟨hh,g,d,t + 1,os⟩) (ox:=o) (od:=none) X I f.mo ?_;refine wpAny_pure ?_;refine PySem.W.handed_on rfl ?_;exact wpAny_pure h
theorem zeq {vs:Array Value} (f:XI K C):PySem.W.KitX K (.ref a) (.ref C) (λ h=>∃ o vs,h.get? a=some o/\o.cls=.ref C/\o.dict=none/\o.data=.fields vs) where
 ty:=λ M h _ ⟨o,vs,e,c,d,v⟩=>(zaw e c d v).type
 it:=λ _ _ X _=>by
  obtain ⟨cd,hcd,_⟩:=any_some f.hd;unfold PySem.W.clsIn at hcd
  split at hcd
  ·rename_i c' d' cd' sl' ho;intro A' Q' E' s' k q;unfold isType loadHead;exact wpAny_bind (wpAny_loadPart (k _ _ (X _ _ ho)) (wpAny_pure q))
  ·cases hcd
 ne:=λ h tp dd its n sl X htp=>by
  obtain ⟨cd,hcd,_⟩:=any_some f.hd;refine Bool.eq_false_iff.mpr λ q=>?_;have e:C=tp:=Value.ref.inj (beq_iff_eq.mp q);subst e;unfold PySem.W.clsIn at hcd
  split at hcd
  ·rename_i ho;have z:=(X _ _ ho).symm.trans htp;cases z
  ·cases hcd
 ca:=λ X ⟨o,vs,e,c,d,v⟩ k=>zdh X f e c d v k
end
inductive TyX (K:PySem.W.Frag) (H:Hp):V->Value->Prop where
 | old {x:V} {t:Value} (h:TyOf K H x t):TyX K H x t
 | exc {a C:Addr} (h:H a=some (zbH a (.ref C))) (f:XI K C):TyX K H (.ref a) (.ref C)
def zcq:List V->Option (List Value)
 | []=>some []
 | c :: r=>match zfH c,zcq r with
  | some u,some us=>some (u :: us)
  | _,_=>none
theorem zcr {c:V} {u v:Value} (h:zfH c=some u) (r:RelV c v):v=u:=by
 cases c with
 | ty n=>cases r;exact Option.some.inj h
 | ref a=>cases r;exact Option.some.inj h
 | _=>cases h
theorem zaD:∀ {cs:List V} {us vs:List Value},zcq cs=some us->Vals cs vs->vs=us
 | [],_,_,h,.nil=>Option.some.inj h
 | c :: r,us,v :: vs,h,.cons rc rr=>by
  unfold zcq at h
  split at h
  ·rename_i u us' h1 h2;cases h;rw [zcr h1 rc,zaD h2 rr]
  ·cases h
theorem zgz {X:Cx} {pins:List (Addr × Obj)} {σ:St} {H:Hp} {s:Shared} {x:V} {u t:Value} (I:Inv X pins σ H s) (rx:RelV x u) (ty:TyX X.K H x t) :
  ∃ Hx:Heap->Prop,PySem.W.KitX X.K u t Hx/\Hx s.heap/\u≠.builtin "__main__.__loader__#opaque":=by
 cases ty with
 | @exc a C ea f =>
  cases (show u=Value.ref a from rx);obtain ⟨p,_⟩:=(show ObjOk X.prog X.w H s.heap a (zbH a (.ref C)) from I.hok a _ ea);exact ⟨_,zeq (vs:=#[]) f,p,λ z=>nomatch z⟩
 | old ty =>
  cases ty with
  | non=>cases (show u=Value.none from rx);exact ⟨_,PySem.W.kitx_none,True.intro,λ z=>nomatch z⟩
  | bl y=>cases (show u=Value.bool y from rx);exact ⟨_,PySem.W.kitx_bool,True.intro,λ z=>nomatch z⟩
  | int i=>obtain ⟨t,q⟩:=(show ∃ t,u=Value.int i t from rx);cases q;exact ⟨_,PySem.W.kitx_int,True.intro,λ z=>nomatch z⟩
  | str y=>obtain ⟨t,q⟩:=(show ∃ t,u=Value.str y t from rx);cases q;exact ⟨_,PySem.W.kitx_str,True.intro,λ z=>nomatch z⟩
  | flt y=>obtain ⟨t,q⟩:=(show ∃ t,u=Value.float y t from rx);cases q;exact ⟨_,PySem.W.kitx_float,True.intro,λ z=>nomatch z⟩
  | @lst a xs ea =>
   cases (show u=Value.ref a from rx);obtain ⟨_,_,n,_,h1⟩:=(show ObjOk X.prog X.w H s.heap a (.lst xs) from I.hok a _ ea);exact ⟨_,PySem.W.kitx_list,⟨_,h1,rfl⟩,λ z=>nomatch z⟩
  | @frz a ob xs ea =>
   cases (show u=Value.ref a from rx);obtain ⟨_,_,_,n,_,h1⟩:=(show ObjOk X.prog X.w H s.heap a (.frz ob (.lst xs)) from I.hok a _ ea);exact ⟨_,PySem.W.kitx_list,⟨_,h1,rfl⟩,λ z=>nomatch z⟩
  | @tup a xs ea =>
   cases (show u=Value.ref a from rx);obtain ⟨_,_,_,p⟩:=(show ObjOk X.prog X.w H s.heap a (.tup xs) from I.hok a _ ea);obtain ⟨o,h1,h2,_⟩:=p;exact ⟨_,PySem.W.kitx_tuple,⟨o,h1,h2⟩,λ z=>nomatch z⟩
  | @dK a kvs ea =>
   cases (show u=Value.ref a from rx);obtain ⟨_,_,vs,_,p⟩:=(show ObjOk X.prog X.w H s.heap a (.dK kvs) from I.hok a _ ea);obtain ⟨o,es,ep,h1,h2,_⟩:=p;exact ⟨_,PySem.W.kitx_dict,⟨o,h1,h2.1⟩,λ z=>nomatch z⟩
  | @dT a kvs ea =>
   cases (show u=Value.ref a from rx);obtain ⟨_,_,xs,_,o,es,ep,h1,h2,_⟩:=(show ObjOk X.prog X.w H s.heap a (.dT kvs) from I.hok a _ ea);exact ⟨_,PySem.W.kitx_dict,⟨o,h1,h2.1⟩,λ z=>nomatch z⟩
  | @ins a C dx fs ea cl ha hn htk hm =>
   cases (show u=Value.ref a from rx);obtain ⟨mA,O,_⟩:=Ji I.hok ea;obtain ⟨od,J,_⟩:=O.look;exact ⟨_,PySem.W.kitx_own (cl.get _) cl.hd ha hn htk hm,J,λ z=>nomatch z⟩
def WR (K:PySem.W.Frag):List V->Hp->VK->Prop:=λ xs H Q=>∃ x c t b,xs=[x,c]/\TyX K H x t/\((∃ u,zfH c=some u/\PySem.W.kitOne K t u=some b)\/(∃ p cs us,c=.ref p/\H p=some (.tup cs)/\zcq cs=some us/\PySem.W.kitAny K t us=some b))/\Q (.bl b) H
theorem wW {X:Cx}:CallR X (.builtin "isinstance") (WR X.K):=by
 intro pins s σ H xs us Q I r h;obtain ⟨x,c,t,b,rfl,ty,hc,q⟩:=h;obtain ⟨v,v2,rfl,rx,rc⟩:=r.two;obtain ⟨Hx,Z,p,nx⟩:=zgz I rx ty;rcases hc with ⟨u,hu,e⟩|⟨pt,cs,us,rfl,hp,hu,e⟩
 ·obtain rfl:=zcr hu rc;exact PySem.W.kia_one Z I.kIn p e nx λ tk=>⟨.bl b,H,I.tok tk,rfl,q⟩
 ·cases rc;obtain ⟨_,its,rv,o,h1,h2,n,h3⟩:=(show ObjOk X.prog X.w H s.heap pt (.tup cs) from I.hok pt _ hp);obtain rfl:=zaD hu rv;obtain ⟨cl,dd,dt,sl⟩:=o;simp only at h2 h3;subst h2 h3;exact PySem.W.kia_tup Z I.kIn p h1 e nx λ tk=>⟨.bl b,H,I.tok tk,rfl,q⟩
theorem zc5 {K:PySem.W.Frag} {t:Value} {D:Addr} {b:Bool} (h1:PySem.W.hasDictIn K D=true) (h2:PySem.W.typeIn K (.ref D)=some (.type "type")) (h3:PySem.W.subIn K t (.ref D)=some b):PySem.W.kitCls K t (.ref D)=some b:=by
 obtain ⟨cd,hcd,_⟩:=any_some h1;simp [PySem.W.kitCls,hcd,h2,h3]
structure FK (K:PySem.W.Frag) (C:Addr) (qual:Str) (st:Stmt) (ps:List Str):Prop where
 ex:∃ f fd,Fun K "__init__" qual st f fd/\Mk K C f/\Binds K fd ps []
structure FM (K:PySem.W.Frag) (C:Addr) (m qual:Str) (st:Stmt) (ps:List Str):Prop where
 ex:∃ f fd,Fun K m qual st f fd/\Meth K C m f/\Binds K fd ps []
theorem FK.cal {P:Program} {w:World} {K:PySem.W.Frag} {mg:Str->Option Value} {base:Heap} {x:Str} {C:Addr} {qual:Str} {st:Stmt} {ps:List Str} {k:Nat} {sp:Sp} (h:FK K C qual st ps) (gl:mg x=some (.ref C))
  (ok:∀ {f fd},Fun K "__init__" qual st f fd->FnOk P w K mg base (CXr P w) k f fd ps sp):KCal P w K mg base x C k ps [] sp:=by
 obtain ⟨f,fd,F,m,b⟩:=h.ex;exact ⟨gl,f,fd,[],ok F,m,b,.nil⟩
theorem FM.cal {P:Program} {w:World} {K:PySem.W.Frag} {mg:Str->Option Value} {base:Heap} {C:Addr} {m qual:Str} {st:Stmt} {ps:List Str} {k:Nat} {sp:Sp} (h:FM K C m qual st ps) (cl:Cls K C)
  (ok:∀ {f fd},Fun K m qual st f fd->FnOk P w K mg base (CXr P w) k f fd ps sp):MCal P w K mg base C m k ps [] sp:=by
 obtain ⟨f,fd,F,mm,b⟩:=h.ex;exact ⟨cl,f,fd,[],ok F,mm,b,.nil⟩
theorem zhl {K:PySem.W.Frag} {C:Addr} {qual:Str} {st:Stmt} {ps:List Str} {f:Addr} {oc:Value} {od an:Option Addr} {osl:Array (Option Value)} {kV doc pm cdv ct:Value} (mk:PySem.W.makesIn K C=true) (kc:PySem.W.keepIn K (.ref C)=true)
  (a:PySem.W.findIn K (.ref C) "__init__"=some (some (.ref f))) (i:PySem.W.isFn K (.ref f)=true) (l:K.lookup f=some ⟨oc,od,.func (PySem.W.fnOf "__init__" qual (zM st) (zF st) (ze st) .none kV doc pm an cdv ct),osl⟩)
  (c:PySem.W.codeIn K cdv qual=true) (k:PySem.W.keepIn K (.ref f)=true)
  (hb:∀ (kV doc pm:Value) (an:Option Addr) (cdv ct:Value) (us:List Value),us.length=ps.length->bindArgs (PySem.W.fnOf "__init__" qual (zM st) (zF st) (ze st) .none kV doc pm an cdv ct) ⟨us,[]⟩=pure (ps.zip us)):FK K C qual st ps :=
 ⟨f,_,wn l c k,⟨mk,a,i,kc⟩,(wn l c k).binds hb⟩
theorem zhk {K:PySem.W.Frag} {C:Addr} {m qual:Str} {st:Stmt} {ps:List Str} {f:Addr} {oc:Value} {od an:Option Addr} {osl:Array (Option Value)} {kV doc pm cdv ct:Value}
  (a:PySem.W.findIn K (.ref C) m=some (some (.ref f))) (i:PySem.W.isFn K (.ref f)=true) (l:K.lookup f=some ⟨oc,od,.func (PySem.W.fnOf m qual (zM st) (zF st) (ze st) .none kV doc pm an cdv ct),osl⟩)
  (c:PySem.W.codeIn K cdv qual=true) (k:PySem.W.keepIn K (.ref f)=true)
  (hb:∀ (kV doc pm:Value) (an:Option Addr) (cdv ct:Value) (us:List Value),us.length=ps.length->bindArgs (PySem.W.fnOf m qual (zM st) (zF st) (ze st) .none kV doc pm an cdv ct) ⟨us,[]⟩=pure (ps.zip us)):FM K C m qual st ps :=
 ⟨f,_,wn l c k,⟨a,i,k⟩,(wn l c k).binds hb⟩
structure WI (K:PySem.W.Frag) (C:Addr):Prop where
 c:PySem.W.findIn K (.ref C) "__class__"=some (some (.builtin "object.__class__"))
 m:mroIn K C (.type "object")=some true
 g:PySem.W.specialIn K (.builtin "object.__class__") "__get__"=some (some (.builtin "getset_descriptor.__get__"))
 t:PySem.W.takesIn K (.builtin "object.__class__")=some true
theorem WI.ty {K:PySem.W.Frag} {H:Hp} {a C dx:Addr} {fs:List (Str × V)} (f:WI K C) (cl:Cls K C) (h:H a=some (.ins C dx fs)):TyX K H (.ref a) (.ref C):=.old (.ins h cl f.c f.g f.t f.m)
end L2
namespace L2
open PySem PySem.Spec PySem.Calls PyProof.Rows
section
variable {prog:Program} {w:World} {A:Around} {E:Value->Shared->Prop} {s:Shared}
theorem vQ:∀ {ns:List Int} {its:List Value},Vals (ns.map V.int) its->∀ (i:Nat) (v:Value),its[i]?=some v->∃ t,v=.int (ns[i]?.getD 0) t
 | [],_,.nil,i,v,h=>by simp at h
 | n :: ns,_,.cons (b:=y) ⟨t,e⟩ r,0,v,h=>by
  have:y=v:=by simpa using h
  exact ⟨t,by rw [<- this,e];rfl⟩
 | n :: ns,_,.cons _ r,i + 1,v,h=>by
  obtain ⟨t,e⟩:=vQ r i v (by simpa using h);exact ⟨t,by simpa using e⟩
end
section
variable {X:Cx} {a e:Expr} {ta:TA} {te:TE} {pos p kp:Pos}
theorem WD:SlR X (zgg X.K):=ze4
theorem vy:CallR X (.type "list") (λ xs H Q=>∃ p ys,xs=[.ref p]/\(SqL X.K H p ys\/SqT X.K H p ys)/\∀ l,H l=none->Q (.ref l) (upd H l (.lst ys))):=Vs
end
end L2
namespace L2
open PySem PySem.Spec PySem.Calls PyProof.Rows
section
variable {X:Cx} {v v1 v2:Expr} {es:List Expr} {te:TE} {pos p:Pos}
def zgZ (t u:TS):TS:=λ D σ H=>∃ M:St->Hp->Prop,t { D with nx:=M } σ H/\∀ σ' H',M σ' H'->u D σ' H'
theorem jd {st:Stmt} {rest:List Stmt} {t u:TS} (h1:PS X st t) (h2:PSs X rest u):PSs X (st :: rest) (zgZ t u):=by
 intro pins s σ H D I ⟨M,ht,hu⟩;refine wpAny_execs_cons (thn (h1 pins s σ H _ I ht) λ f s1 q=>?_);cases f with
 | next=>exact let ⟨σ',H',I',q⟩:=q;h2 pins s1 σ' H' D I' (hu σ' H' q)
 | _=>exact q
def zfS (t u:TS):TS:=λ D σ H=>tSeq t u D σ H
theorem zi {st:Stmt} {rest:List Stmt} {t u:TS} (h1:PS X st t) (h2:PSs X rest u):PSs X (st :: rest) (zfS t u):=show PSs X (st :: rest) (tSeq t u) from zh h1 h2
structure Nx (N:St->Hp->Prop) (u:TS) (D:Ends):Prop where
 h:∀ σ H,u D σ H->N σ H
theorem nxt {t u:TS} {D:Ends} {σ:St} {H:Hp} (k:∀ N,Nx N u D->t { D with nx:=N } σ H):zfS t u D σ H:=k (u D) ⟨λ _ _ h=>h⟩
theorem useN {N:St->Hp->Prop} {u:TS} {D:Ends} {σ:St} {H:Hp} (n:Nx N u D) (q:u D σ H):N σ H:=n.h σ H q
theorem cut {t u:TS} {D:Ends} {σ:St} {H:Hp} (M:St->Hp->Prop) (h1:t { D with nx:=M } σ H) (h2:∀ σ' H',M σ' H'->u D σ' H'):zgZ t u D σ H:=⟨M,h1,h2⟩
end
end L2
namespace L2
open PySem PySem.Spec PySem.Calls PyProof.Rows
section
variable {X:Cx} {k:Nat} {x m:Str} {p pos apos:Pos} {e o:Expr} {es:List Expr} {ta:TE} {t:TA}
theorem passF:zbQ (CXr X.prog X.w) X (λ _ _ _=>False):=λ _ _ _ _ _ _ _ h=>let ⟨_,_,_,_,_,_,_,_,_,z⟩:=h;z.elim
def tClN (X:Cx) (k:Nat) (x:Str) (t:TA):TE:=λ σ H Q=>∃ ps dvs sp,Cal X.prog X.w X.K X.mg X.base x k ps dvs sp/\t σ H λ vs H1=>sp (vs ++ dvs) H1 Q (λ _ _ _=>False)
theorem vX (hr:Room k X.A) (ha:PA X (e :: es) t) (hg:Gl X x:=by rfl) (hdb:(x == ("__debug__":Str))=false:=by decide)
  (he:starEach (e :: es) X.env=(false,eval e X.env) :: starEach es X.env:=by rfl) (hpl:(backTo pos (starEach es X.env)).any (·.1)=false:=by rfl) :
  PE X (.Call (.Name x p) (e :: es) [] pos) (tClN X k x t):=by
 intro pins s σ H Q I h;obtain ⟨ps,dvs,sp,⟨f,fd,ds,F,hm,hk,hb,hd⟩,h⟩:=h;refine wpAny_Call_Name_kw (xa I hg hm ?_ hdb);refine callWith_K (h₀:=X.base) I.ok.mod.kin hk (vz (ha pos pins s σ H _ I h) λ us s1 vs H1 I1 r q=>⟨I1.kIn,?_⟩) he hpl;exact zdP F hr hb hd passF I1 r q
def tMkN (X:Cx) (k:Nat) (x:Str) (t:TA):TE:=λ σ H Q=>∃ C ps dvs sp,KCal X.prog X.w X.K X.mg X.base x C k ps dvs sp/\t σ H λ vs H1=>∀ y dx,H1 y=none->H1 dx=none->dx≠y ->
 sp (.ref y :: (vs ++ dvs)) (upd (upd H1 dx (.own y)) y (.ins C dx [])) (λ v H2=>v=.non/\Q (.ref y) H2) (λ _ _ _=>False)
theorem zd9 (hr:Room (k + 1) X.A) (ha:PA X (e :: es) t) (hg:Gl X x:=by rfl) (hdb:(x == ("__debug__":Str))=false:=by decide)
  (he:starEach (e :: es) X.env=(false,eval e X.env) :: starEach es X.env:=by rfl) (hpl:(backTo pos (starEach es X.env)).any (·.1)=false:=by rfl) :
  PE X (.Call (.Name x p) (e :: es) [] pos) (tMkN X k x t):=by
 intro pins s σ H Q I h;obtain ⟨C,ps,dvs,sp,⟨hm,f,fd,ds,F,M,hb,hd⟩,h⟩:=h;refine wpAny_Call_Name_kw (xa I hg hm ?_ hdb);refine callWith_K (h₀:=X.base) I.ok.mod.kin M.kp (vz (ha pos pins s σ H _ I h) λ us s1 vs H1 I1 r q=>⟨I1.kIn,?_⟩) he hpl;exact zdO M F hr hb hd passF I1 r q
def tMthN (X:Cx) (k:Nat) (m:Str) (ta:TE) (t:TA):TE:=λ σ H Q=>ta σ H λ y H1=>∃ a C dx fs ps dvs sp,y=.ref a/\H1 a=some (.ins C dx fs)/\fs.lookup m=none /\
 MCal X.prog X.w X.K X.mg X.base C m k ps dvs sp/\t σ H1 λ vs H2=>sp (.ref a :: (vs ++ dvs)) H2 Q (λ _ _ _=>False)
theorem zd7 {pl:Sem Bool} (hr:Room k X.A) (he:PE X o ta)
  (ht:eval (.Call (.Attribute o m apos) [] [] pos) X.env=(do
   let ov <- eval o X.env
   standAt apos.atName
   let (f,first) <- holding [ov] (getMethod ov m pl)
   callWith pos f first (backTo pos (starEach [] X.env)) (backToKw pos (keywordEach [] X.env))):=by rfl) :
  PE X (.Call (.Attribute o m apos) [] [] pos) (tMthN X k m ta tNil):=by
 intro pins s σ H Q I h;refine methodCall_KW (pl:=pl) (thn (he pins s σ H _ I h) λ u s1 hz=>?_) ht;obtain ⟨x,H1,I1,rx,a,C,dx,fs,ps,dvs,sp,ex,ea,l,⟨c,f,fd,ds,F,hm,hb,hd⟩,q⟩:=hz;subst ex;obtain rfl:u=Value.ref a:=rx;refine Ze I1 ea c hm l ?_;exact PySem.W.callWith_K0 (first:=[.ref a]) I1.kIn hm.kp (zdP (us:=[.ref a]) (vs:=[.ref a]) F hr hb hd passF I1 (.cons rfl .nil) q)
end
def qM (cells:List (Str × Addr)):List (Str × NameKind)->List (Str × Addr)->List (Str × Addr)
 | [],cs=>cs
 | (n,k) :: r,cs=>if k=.free then qM cells r ((n,(cells.lookup n).getD 0) :: cs) else qM cells r cs
def zdl (cells:List (Str × Addr)) (ns:List (Str × NameKind)):Prop:=∀ y∈ns,y.2=.free->∃ c,cells.lookup y.1=some c
theorem vM {scope:Scope} {env:Env} (h:zdl env.cells scope.names):closureFor scope env=pure (qM env.cells scope.names []):=by
 simp only [closureFor];have key:∀ (ns:List (Str × NameKind)) (cs:List (Str × Addr)),zdl env.cells ns ->
   (forIn ns cs λ x r=>if (x.2 == NameKind.free)=true then do let c <- cellOf env x.1;pure (ForInStep.yield ((x.1,c) :: r)) else pure (ForInStep.yield r):Sem (List (Str × Addr)))=pure (qM env.cells ns cs):=by
  intro ns
  induction ns with
  | nil=>intro cs _;rfl
  | cons y r ih =>
   intro cs hc;obtain ⟨n,k⟩:=y;have hr:zdl env.cells r:=λ z hz=>hc z (mem_cons_of_mem _ hz);rw [forIn_cons];by_cases hk:k=.free
   ·subst hk;obtain ⟨c,e⟩:=hc (n,.free) mem_cons_self rfl;have e':cellOf env n=pure c:=by unfold cellOf;simp only at e;rw [e]
    simp only [beq_self_eq_true,if_true,e',pure_bind];rw [ih _ hr];simp only at e;simp [qM,e]
   ·have hb:(k == NameKind.free)=false:=by simpa using hk
    simp only [hb,Bool.false_eq_true,if_false,pure_bind];rw [ih _ hr];simp [qM,hk]
 have:=key scope.names [] h
 first
  | exact this
  | (simp only [bind_pure] at *;exact this)
theorem Zh {cells:List (Str × Addr)} {x:Str} {c:Addr}:∀ {ns:List (Str × NameKind)} {cs:List (Str × Addr)},zdl cells ns->(∀ c,cs.lookup x=some c->cells.lookup x=some c)->(qM cells ns cs).lookup x=some c->cells.lookup x=some c
 | [],_,_,hs,h=>hs c h
 | (n,k) :: r,cs,hc,hs,h=>by
  have hr:zdl cells r:=λ z hz=>hc z (mem_cons_of_mem _ hz);unfold qM at h
  split at h
  ·rename_i hk;obtain ⟨d,e⟩:=hc (n,k) mem_cons_self hk;refine Zh hr (λ c' hc'=>?_) h;rw [lookup_cons] at hc'
   split at hc'
   ·rename_i hx;have hx:x=n:=by simpa using hx
    subst hx;simp only at e;rw [e] at hc' ⊢;exact hc'
   ·exact hs c' hc'
  ·exact Zh hr hs h
theorem wU {cells:List (Str × Addr)} {x:Str}:∀ {ns:List (Str × NameKind)} {cs:List (Str × Addr)},(∃ c,cs.lookup x=some c)->∃ c,(qM cells ns cs).lookup x=some c
 | [],_,h=>h
 | (n,k) :: r,cs,h=>by
  unfold qM
  split
  ·refine wU ?_;rw [lookup_cons]
   split
   ·exact ⟨_,rfl⟩
   ·exact h
  ·exact wU h
theorem Zg {cells:List (Str × Addr)} {x:Str}:∀ {ns:List (Str × NameKind)} {cs:List (Str × Addr)},(x,NameKind.free)∈ns->∃ c,(qM cells ns cs).lookup x=some c
 | [],_,h=>by simp at h
 | (n,k) :: r,cs,h=>by
  unfold qM;rcases List.mem_cons.mp h with h|h
  ·cases h;rw [if_pos rfl];exact wU ⟨(cells.lookup x).getD 0,by rw [lookup_cons];simp⟩
  ·split <;> exact Zg h
def zdT (scope osc:Scope):Scope :=
 { scope with names:=scope.names.map λ (n,k)=>if (k == .free && osc.kind == .function && osc.names.lookup n == some .cell) then (n,.cell) else (n,k) }
theorem za6 {scope osc:Scope} {x:Str} (hcell:∀ y∈scope.names,y.2≠.cell) (h:(zdT scope osc).names.lookup x=some .cell\/(zdT scope osc).names.lookup x=some .free):(x,NameKind.free)∈scope.names:=by
 have key:∀ k,(k=.cell\/k=.free)->(zdT scope osc).names.lookup x=some k->(x,NameKind.free)∈scope.names:=λ k hk hl=>by
  have hm:=PySem.mem_of_lookup hl;obtain ⟨⟨n,k'⟩,hm',e⟩:=List.mem_map.mp hm;simp only at e
  split at e
  ·rename_i hc;simp only [Bool.and_eq_true,beq_iff_eq] at hc;cases e;rw [<- hc.1.1];exact hm'
  ·cases e;rcases hk with rfl|rfl
   ·exact absurd rfl (hcell _ hm')
   ·exact hm'
 rcases h with h|h
 ·exact key _ (.inl rfl) h
 ·exact key _ (.inr rfl) h
def cxC (X:Cx) (N:List Str) (scope:Scope) (s:Shared) (H:Hp) (fp:List Addr) (pins:List (Addr × Obj)):Cx where
 prog:=X.prog
 w:=X.w
 K:=X.K
 mg:=X.mg
 base:=X.base
 A:=X.A
 N:=N
 s₀:=s
 H₀:=H
 env:=compEnvC scope (qM X.env.cells scope.names []) s.heap.objs.size X.env
 outer:=X.stack
 stack:=X.stack
 ex:=fp
 fn:=λ _=>false
 calm:=X.calm
 pn:=X.pn ++ pins
 xe:=λ _ _=>False
def stC (nv:Nat) (caps:List Nat) (σ:St):St:=List.replicate nv none ++ caps.map λ k=>(σ[k]?).getD none
structure CompOk (osc scope:Scope) (ON:List Str) (vars:List Str) (caps:List Nat):Prop where
 kind:scope.kind=.function
 cell:∀ y∈scope.names,y.2≠.cell
 loc:∀ y∈scope.names,y.2=.local->scope.names.lookup y.1=some .local
 free:∀ y∈scope.names,y.2=.free->osc.names.lookup y.1=some .cell\/osc.names.lookup y.1=some .free
 caps:∀ k∈caps,k < ON.length/\scope.names.lookup (ON.getD k Str.empty)=some .free
def zcp (osc scope:Scope) (ON:List Str) (caps:List Nat):Bool :=
 scope.kind == .function && scope.names.all (λ y=>y.2 != .cell) && scope.names.all (λ y=>y.2 != .local || scope.names.lookup y.1 == some .local) &&
 scope.names.all (λ y=>y.2 != .free || (osc.names.lookup y.1 == some .cell || osc.names.lookup y.1 == some .free)) && caps.all λ k=>decide (k < ON.length) && scope.names.lookup (ON.getD k Str.empty) == some .free
theorem zaB {osc scope:Scope} {ON vars:List Str} {caps:List Nat} (h:zcp osc scope ON caps=true):CompOk osc scope ON vars caps:=by
 simp only [zcp,Bool.and_eq_true,List.all_eq_true,beq_iff_eq,bne_iff_ne,Bool.or_eq_true,decide_eq_true_eq] at h;obtain ⟨⟨⟨⟨h1,h2⟩,h3⟩,h4⟩,h5⟩:=h;refine ⟨h1,h2,λ y hy e=>(h3 y hy).resolve_left (λ z=>z e),λ y hy e=>(h4 y hy).resolve_left (λ z=>z e),λ k hk=>h5 k hk⟩
theorem JI {osc:Scope} {x:Str}:∀ {ns:List (Str × NameKind)},ns.lookup x=some .free ->
  (ns.map λ (n,k)=>if (k == NameKind.free && osc.kind == .function && osc.names.lookup n == some .cell) then (n,NameKind.cell) else (n,k)).lookup x=some .cell \/
  (ns.map λ (n,k)=>if (k == NameKind.free && osc.kind == .function && osc.names.lookup n == some .cell) then (n,NameKind.cell) else (n,k)).lookup x=some .free
 | [],h=>by simp at h
 | (n,k) :: r,h=>by
  have ih:=@JI osc x r;rw [map_cons];show List.lookup x ((if (k == NameKind.free && osc.kind == .function && osc.names.lookup n == some .cell)=true then (n,NameKind.cell) else (n,k)) :: _)=_\/List.lookup x ((if (k == NameKind.free && osc.kind == .function && osc.names.lookup n == some .cell)=true then (n,NameKind.cell) else (n,k)) :: _)=_
  cases hx:x == n with
  | true =>
   simp only [lookup_cons,hx] at h;cases h
   split
   ·exact .inl (by simp [lookup_cons,hx])
   ·exact .inr (by simp [lookup_cons,hx])
  | false =>
   simp only [lookup_cons,hx] at h
   split <;> (simp only [lookup_cons,hx];exact ih h)
section
variable {X:Cx} {pins:List (Addr × Obj)} {σ:St} {H:Hp} {s:Shared} {fp:List Addr} {N vars:List Str} {caps:List Nat} {scope osc:Scope}
theorem zev (I:Inv X pins σ H s) (hosc:X.env.scope=osc) (C:CompOk osc scope X.N vars caps) (hN:N=vars ++ caps.map λ k=>X.N.getD k Str.empty)
  (hf:∀ b∈fp,Qr X pins H b) (hfo:∀ b∈fp,∃ o,s.heap.get? b=some o)
  {h':Heap} {tk:Nat} {mm:Str->Option Value} (hns:h'.Ns s.heap.objs.size mm) (hk:∀ b o,s.heap.get? b=some o->h'.get? b=some o) :
  Inv (cxC X N scope s H fp pins) [] (stC vars.length caps σ) H { s with heap:=h',toks:=tk }:=by
 have hkf:∀ y∈scope.names,y.2=.free->X.env.kindOf y.1=some .cell\/X.env.kindOf y.1=some .free:=λ y hy e=>by
  have z:=C.free y hy e;rw [<- hosc] at z;exact z
 have hcl:zdl X.env.cells scope.names:=λ y hy e=>I.ok.has y.1 (hkf y hy e);have get:∀ x c,(qM X.env.cells scope.names []).lookup x=some c->X.env.cells.lookup x=some c:=λ x c h=>Zh hcl (λ c h=>by simp at h) h;refine ⟨⟨I.ok.mod,C.kind,I.ok.glob,I.ok.blt,Nat.le_refl _,λ x y c h1 h2=>I.ok.inj x y c (get x c h1) (get y c h2),λ x hx=>Zg (za6 (osc:=X.env.scope) C.cell hx),λ _ _ h _=>Bool.noConfusion h,I.ok.hd,I.ok.frames,.inl rfl,
   λ b hb=>⟨?_,λ x c h=>(hf b hb).2.2.2.2.1 x c (get x c h)⟩,I.bs,Nat.le_trans I.ok.bsz I.sz,λ b o e hb=>?_,λ b hb z=>(List.mem_cons.mp (I.stkSub b z)).elim (hf b hb).2.1 (hf b hb).2.2.1,I.stack,I.stkFree⟩,
  rfl,I.bare,Un.kept hk,⟨_,hns,λ i x v e1 e2 e3=>?_⟩,λ x c h=>?_,I.hok.fresh (Nat.le_refl _),λ x c h=>I.freeC x c (get x c h),λ p hp=>?_,I.hok.kept hk,?_⟩
 ·obtain ⟨o,e⟩:=hfo b hb;exact Nat.ne_of_lt (Heap.lt_size e)
 ·rcases (hf b hb).2.2.2.1 with z|z
  ·exact I.ok.noex b o e z
  ·exact absurd (Nat.lt_of_lt_of_le (Heap.lt_size (I.ok.bs b o e).1) z) (Nat.lt_irrefl _)
 ·have hi:¬ i < vars.length:=λ hi=>by
   unfold stC at e2;rw [getElem?_append_left (by simpa using hi),List.getElem?_replicate] at e2
   split at e2 <;> cases e2
  have e1':(vars ++ caps.map λ k=>X.N.getD k Str.empty)[i]?=some x:=by rw [<- hN];exact e1
  unfold stC at e2;rw [getElem?_append_right (by simpa using hi),length_replicate,getElem?_map] at e2;rw [getElem?_append_right (by omega),getElem?_map] at e1';cases ek:caps[i - vars.length]? with
  | none=>rw [ek] at e2;cases e2
  | some k =>
   rw [ek] at e1' e2;obtain ⟨hkl,hlk⟩:=C.caps k (mem_of_getElem? ek);have ex:X.N.getD k Str.empty=x:=by simpa using e1'
   have es:σ[k]?.getD none=some v:=by simpa using e2
   have es':σ[k]?=some (some v):=by
    cases q:σ[k]? with
    | none=>rw [q] at es;cases es
    | some z=>rw [q] at es;simp only [Option.getD_some] at es;rw [es]
   have eN:X.N[k]?=some x:=by
    rw [<- ex,getD_eq_getElem?_getD,getElem?_eq_getElem hkl];rfl
   rw [ex] at hlk;have hm:(x,NameKind.free)∈scope.names:=PySem.mem_of_lookup hlk;have hkx:=hkf _ hm rfl;obtain ⟨m,_,hl⟩:=I.loc;obtain ⟨u,r,L⟩:=hl k x v eN es' (hkx.elim (λ z=>.inr (.inl z)) λ z=>.inr (.inr z));refine ⟨u,r,.inr ⟨JI (osc:=X.env.scope) hlk,?_⟩⟩;obtain ⟨c',ec⟩:=Zg (cells:=X.env.cells) (cs:=[]) hm;rcases L with ⟨z,_⟩|⟨_,c,ec2,o,ho,hd⟩
   ·rcases hkx with y|y <;> (simp only at y;rw [y] at z;cases z)
   ·have z:=get x c' ec;rw [ec2] at z;obtain rfl:c=c':=Option.some.inj z;exact ⟨c,ec,o,hk _ _ ho,hd⟩
 ·obtain ⟨v,o,ho,hd⟩:=I.cell x c (get x c h);exact ⟨v,o,hk _ _ ho,hd⟩
 ·have hp':p∈X.pn ++ pins:=by simpa [cxC] using hp
  obtain ⟨e,n,ne,nf,d⟩:=I.pin p hp';exact ⟨hk _ _ e,n,Nat.ne_of_lt (Heap.lt_size e),λ z=>(List.mem_cons.mp (I.stkSub _ z)).elim ne nf,d⟩
 ·show (stC vars.length caps σ).length=N.length
  rw [hN];simp [stC]
theorem zbz {σ':St} {H':Hp} {s':Shared} (I:Inv X pins σ H s) (hf:∀ b∈fp,Qr X pins H b) (I':Inv (cxC X N scope s H fp pins) [] σ' H' s'):Inv X pins σ H' s' :=
 I.call' (ch:=fp) I'.os I'.base I'.hok I'.bare λ b hb=>⟨(hf b hb).2.2.2.1,(hf b hb).2.1,(hf b hb).2.2.2.2.1,(hf b hb).2.2.2.2.2⟩
end
section
variable {prog:Program} {w:World} {A:Around} {R:Result->Shared->Prop} {s:Shared}
abbrev NoX:Value->Shared->Prop:=λ _ _=>False
theorem zdk {elt target iter:Expr} {ifs:List Expr} {scope:Scope} {pos:Pos} {it acc:Value} {env:Env} (I:Nat->Shared->Prop)
  (turn:∀ n s,I n s->wpAny (model prog w) A (pyNext it) (λ r s₁=>match r with
   | none=>R (.ok .next) s₁
   | some v=>wpAny (model prog w) A (letOwnedTupleGo target it v) (λ _ s₁'=>wpAny (model prog w) A (assign target env v) (λ _ s₂ =>
     wpAny (model prog w) A (forIn ifs true λ c r=>if r=true then do let ok <- isTrue c env (eval c env);pure (ForInStep.yield ok) else pure (ForInStep.yield r)) (λ ok s₃ =>
      if ok=true then wpAny (model prog w) A (eval elt env) (λ x s₄ =>
       wpAny (model prog w) A (call (.builtin "list.append") [acc,x]) (λ _ s₅=>∃ m,m < n/\I m s₅) NoX s₄) NoX s₃
      else ∃ m,m < n/\I m s₃) NoX s₂) NoX s₁') NoX s₁) NoX s)
  (n:Nat) (h:I n s) :
  codeAny (model prog w) A (.compLoop (.ListComp elt [⟨target,iter,ifs,0⟩] scope pos) 0 it acc env) R s:=by
 refine codeAny_loop rfl I (λ n s hI=>?_) n h;show wpAny _ A ((compTurn (.ListComp elt [⟨target,iter,ifs,0⟩] scope pos) 0 it acc env).onRaise (λ x=>do noteFrame x env;theTreesLotGoes x)) _ _ s
 refine wpAny_noted ?_;rw [compTurn_list];refine wpAny_bind (wpAny_standAt (wpAny_bind (wpAny_mono (turn n s hI) (λ r s₁ h₁=>?_) λ _ _ h'=>h'.elim)));cases r with
 | none=>exact wpAny_pure h₁
 | some v =>
  refine wpAny_bind (wpAny_mono h₁ (λ _ s₁' h₁'=>?_) λ _ _ h'=>h'.elim);refine wpAny_bind (wpAny_mono h₁' (λ _ s₂ h₂=>wpAny_bind (wpAny_mono h₂ (λ ok s₃ h₃=>?_) λ _ _ h'=>h'.elim)) λ _ _ h'=>h'.elim);cases ok with
  | false=>exact wpAny_pure ⟨rfl,h₃⟩
  | true =>
   exact wpAny_bind (wpAny_bind (wpAny_mono h₃ (λ x s₄ h₄=>wpAny_bind (wpAny_mono h₄ (λ _ s₅ h₅=>wpAny_pure (wpAny_pure ⟨rfl,h₅⟩)) λ _ _ h'=>h'.elim)) λ _ _ h'=>h'.elim))
end
def zeY (X:Cx) (ifs:List Expr) (t:TT):Prop :=
 ∀ (pins:List (Addr × Obj)) (s:Shared) (σ:St) (H:Hp) (Q:Bool->Hp->Prop),Inv X pins σ H s->t σ H Q ->
  wpAny (model X.prog X.w) X.A (forIn ifs true λ c r=>if r=true then do let ok <- isTrue c X.env (eval c X.env);pure (ForInStep.yield ok) else pure (ForInStep.yield r)) (TP X pins σ Q) X.xe s
def tYes:TT:=λ _ H Q=>Q true H
theorem z8 {X:Cx}:zeY X [] tYes:=λ _ _ _ H _ I h=>wpAny_tests_nil ⟨H,I,h⟩
theorem zb3 {X:Cx} {c:Expr} {t:TT} (h:PT X c t):zeY X [c] t:=λ pins s σ H Q I hw=>wpAny_tests_one (h pins s σ H Q I hw)
abbrev CB (α:Type):=Shared->Hp->List Addr->List (Addr × Obj)->α
def tLc (wi:TI) (nv:Nat) (caps:List Nat) (g:CB TG) (tt:CB TT) (te:CB TE):TE:=λ σ H Q=>wi σ H λ J H1=>∀ (s3:Shared) (H3:Hp) (fp:List Addr) (pns:List (Addr × Obj)) acc,H1 acc=none ->
 ∃ W:Nat->Nat->St->Hp->Prop,(∃ m,W 0 m (stC nv caps σ) (upd H1 acc (.lst [])))/\∀ i m σ' H',W i m σ' H' ->
  (J.stop i H'/\Q (.ref acc) H')\/(J.go i H'/\∃ N:St->Hp->Prop,(∀ σ'' H'',N σ'' H''->∃ m',m' < m/\W (i + 1) m' σ'' H'')/\∀ x H'',J.yld i H' x H''->g s3 H3 fp pns x σ' H'' λ σ2 H2=>tt s3 H3 fp pns σ2 H2 λ b H5 =>
   if b=true then te s3 H3 fp pns σ2 H5 λ y H4=>∃ ys,H4 acc=some (.lst ys)/\ys.length < sizeLine/\N σ2 (upd H4 acc (.lst (ys ++ [y]))) else N σ2 H5)
section
variable {X:Cx} {elt target iter:Expr} {ifs:List Expr} {scope osc:Scope} {pos:Pos} {wi:TI} {g:CB TG} {tt:CB TT} {te:CB TE} {N vars:List Str} {caps:List Nat}
theorem Xl {pins:List (Addr × Obj)} {σ:St} {H2:Hp} {s2:Shared} {it:Addr} {fp:List Addr} {tn:Nat->Heap->Prop} {J:It} {Q:VK} {RR:Value->Addr->Result->Shared->Prop} {E:Value->Shared->Prop}
  (hosc:X.env.scope=osc) (C:CompOk osc scope X.N vars caps) (hN:N=vars ++ caps.map λ k=>X.N.getD k Str.empty) (hc:X.calm=true)
  (hg:∀ s H fp pins,PG (cxC X N scope s H fp pins) target (g s H fp pins)) (ht:∀ s H fp pins,zeY (cxC X N scope s H fp pins) ifs (tt s H fp pins)) (he:∀ s H fp pins,PE (cxC X N scope s H fp pins) elt (te s H fp pins))
  (I2:Inv X pins σ H2 s2) (T:Turn X.prog X.w X.K target J fp it tn) (st2:tn 0 s2.heap) (hf:∀ b∈fp,Qr X pins H2 b)
  (h:∀ (s3:Shared) (H3:Hp) (fp:List Addr) (pns:List (Addr × Obj)) acc,H2 acc=none->∃ W:Nat->Nat->St->Hp->Prop,(∃ m,W 0 m (stC vars.length caps σ) (upd H2 acc (.lst [])))/\∀ i m σ' H',W i m σ' H' ->
   (J.stop i H'/\Q (.ref acc) H')\/(J.go i H'/\∃ N:St->Hp->Prop,(∀ σ'' H'',N σ'' H''->∃ m',m' < m/\W (i + 1) m' σ'' H'')/\∀ x H'',J.yld i H' x H''->g s3 H3 fp pns x σ' H'' λ σ2 H2=>tt s3 H3 fp pns σ2 H2 λ b H5 =>
    if b=true then te s3 H3 fp pns σ2 H5 λ y H4=>∃ ys,H4 acc=some (.lst ys)/\ys.length < sizeLine/\N σ2 (upd H4 acc (.lst (ys ++ [y]))) else N σ2 H5))
  (hRR:∀ acc C s' H' m,Inv X pins σ H' s'->Q (.ref acc) H'->s'.heap.Ns C m->H' C=none->C≠X.env.locals->X.s₀.heap.objs.size<=C->(∀ x c,X.env.cells.lookup x=some c->c≠C)->(∀ p∈X.pn ++ pins,p.1≠C)->RR (.ref acc) C (.ok .next) s') :
  wpAny (model X.prog X.w) X.A (newList []) (λ acc s₃=>wpAny (model X.prog X.w) X.A (newFunctionEnv scope X.env.globals (qM X.env.cells scope.names []) [] X.env.qual none .none (some X.env)) (λ cenv s₄ =>
   codeAny (model X.prog X.w) X.A (.compStart (.ListComp elt [⟨target,iter,ifs,0⟩] scope pos) 0 (.ref it) acc { cenv with scope:=relabel scope X.env }) (RR acc cenv.locals) s₄) E s₃) E s2:=by
 refine wpAny_newObj_type (wpAny_newFunctionEnv C.cell (by intro y hy;simp at hy) (λ h₁ hns₁ hsb₁=>?_) C.kind);obtain ⟨W,⟨m0,w0⟩,turn⟩:=h { s2 with heap:=s2.heap.push { cls:=.type "list",dict:=none,data:=.seq ([]:List Value).toArray } } (upd H2 s2.heap.objs.size (.lst [])) fp pins s2.heap.objs.size I2.fresh;have I3:Inv X pins σ (upd H2 s2.heap.objs.size (.lst [])) { s2 with heap:=s2.heap.push { cls:=.type "list",dict:=none,data:=.seq ([]:List Value).toArray } }:=I2.lnew (its:=[]) (t':=s2.toks) .nil (by decide);dsimp only at hns₁ hsb₁ ⊢;have hfo:∀ b∈fp,∃ o,s2.heap.get? b=some o:=λ b hb=>let ⟨o,e,_⟩:=T.obj _ _ st2 b hb;⟨o,e⟩
 have hf3:∀ b∈fp,Qr X pins (upd H2 s2.heap.objs.size (.lst [])) b:=λ b hb=>by
  refine ⟨?_,(hf b hb).2⟩;obtain ⟨o,e⟩:=hfo b hb;rw [upd_ne (Nat.ne_of_lt (Heap.lt_size e))];exact (hf b hb).1
 generalize hs3:({ s2 with heap:=s2.heap.push { cls:=.type "list",dict:=none,data:=.seq ([]:List Value).toArray } }:Shared)=s3 at I3 turn;have eh:s2.heap.push { cls:=.type "list",dict:=none,data:=.seq ([]:List Value).toArray }=s3.heap:=by rw [<- hs3]
 have old:∀ b o,s2.heap.get? b=some o->s3.heap.get? b=some o:=λ b o e=>by rw [<- eh];exact Heap.get?_push_of_some _ e
 rw [eh] at hns₁ hsb₁ ⊢;have es:({ s2 with heap:=h₁,toks:=s2.toks + ([]:List (Str × Value)).length }:Shared)={ s3 with heap:=h₁,toks:=s2.toks }:=by rw [<- hs3];rfl
 rw [es];generalize hH3:upd H2 s2.heap.objs.size (.lst [])=H3 at *;have hk:∀ b o,s3.heap.get? b=some o->h₁.get? b=some o:=λ b o e=>hsb₁.extBut b o (Nat.ne_of_lt (Heap.lt_size e)) (Heap.get?_push_of_some _ e);have I4:Inv (cxC X N scope s3 H3 fp pins) [] (stC vars.length caps σ) H3 { s3 with heap:=h₁,toks:=s2.toks }:=zev I3 hosc C hN hf3 (λ b hb=>let ⟨o,e⟩:=hfo b hb;⟨o,old b o e⟩) hns₁ hk;have st4:tn 0 h₁:=T.keep _ _ _ st2 λ b hb o e=>hk b o (old b o e);have stat:∀ {H':Hp},(∀ b∈fp,H' b=none)->∀ b∈fp,Qr (cxC X N scope s3 H3 fp pins) [] H' b:=λ hn b hb =>
  ⟨hn b hb,(I4.ok.exf b hb).1,I4.ok.exfs b hb,.inl hb,(I4.ok.exf b hb).2,λ p hp=>(hf b hb).2.2.2.2.2 p (by simpa [cxC] using hp)⟩
 have loop:∀ s4:Shared,s4={ s3 with heap:=h₁,toks:=s2.toks } ->
   codeAny (model X.prog X.w) X.A (.compLoop (.ListComp elt [⟨target,iter,ifs,0⟩] scope pos) 0 (.ref it) (.ref s2.heap.objs.size) (cxC X N scope s3 H3 fp pins).env) (RR (.ref s2.heap.objs.size) s3.heap.objs.size) s4:=by
  rintro s4 rfl;refine zdk (λ n s'=>∃ i σ' H',Inv (cxC X N scope s3 H3 fp pins) [] σ' H' s'/\tn i s'.heap/\(∀ b∈fp,H' b=none)/\W i n σ' H') ?_ m0 ⟨0,_,H3,I4,st4,λ b hb=>(hf3 b hb).1,w0⟩;rintro n s5 ⟨i,σ5,H5,I5,st5,fr5,w5⟩;rcases turn i n σ5 H5 w5 with ⟨stop,qn⟩|⟨go,NN,hNN,step⟩
  ·refine thn (T.done (cxC X N scope s3 H3 fp pins) rfl rfl rfl hc i [] s5 σ5 H5 NoX I5 (stat fr5) st5 stop) λ r s6 ⟨hr,I6⟩=>?_;subst hr;obtain ⟨m,hn,_⟩:=I6.loc;have hlt:∀ b o,s3.heap.get? b=some o->b≠s3.heap.objs.size:=λ b o e=>Nat.ne_of_lt (Heap.lt_size e);obtain ⟨m3,⟨oL,_,_,hoL,_⟩,_⟩:=I3.loc;refine hRR _ _ s6 H5 m (zbz I3 hf3 I6) qn hn I6.free (λ z=>hlt _ _ hoL z.symm) I3.sz (λ x c ec z=>?_) λ p hp z=>hlt _ _ (I3.pin p hp).1 z;obtain ⟨v,o,ho,_⟩:=I3.cell x c ec;exact hlt _ _ ho z
  ·refine thn (T.item (cxC X N scope s3 H3 fp pins) rfl rfl rfl hc i [] s5 σ5 H5 NoX I5 (stat fr5) st5 go) λ r s6 ⟨u,hr,h6⟩=>?_;subst hr;refine thn h6 λ _ s7 ⟨x,H7,I7,r7,y7,st7,fr7⟩=>?_;have I7':=I7.pinned (stat fr7) (T.obj _ _ st7);have again:∀ {σ8:St} {H8:Hp} {s8:Shared},Inv (cxC X N scope s3 H3 fp pins) ([] ++ JL fp s7.heap) σ8 H8 s8->NN σ8 H8->∃ m,m < n/\∃ i σ' H',Inv (cxC X N scope s3 H3 fp pins) [] σ' H' s8/\tn i s8.heap/\(∀ b∈fp,H' b=none)/\W i m σ' H':=λ {σ8 H8 s8} I8 n8=>by
    obtain ⟨m',hm,w8⟩:=hNN σ8 H8 n8;refine ⟨m',hm,i + 1,σ8,H8,I8.unpinned,T.keep _ _ _ st7 λ b hb o e=>(I8.pin (b,o) (mem_append_right _ (mem_append_right _ (wl hb e)))).1,λ b hb=>?_,w8⟩;obtain ⟨o,e,d⟩:=T.obj _ _ st7 b hb;exact (I8.pin (b,o) (mem_append_right _ (mem_append_right _ (wl hb e)))).2.1
   refine thn (hg s3 H3 fp pins _ s7 σ5 H7 x u _ I7' r7 (step x H7 y7)) λ _ s8 ⟨σ8,H8,I8,q8⟩=>?_;refine thn (ht s3 H3 fp pins _ s8 σ8 H8 _ I8 q8) λ b s9 ⟨H9,I9,q9⟩=>?_;cases b with
   | false=>exact again I9 q9
   | true =>
    refine qp (he s3 H3 fp pins _ s9 σ8 H9 _ I9 q9) λ v s10 y H10 I10 r10 qq_=>?_;obtain ⟨ys,ea,hz,q10⟩:=qq_;refine thn (zK (X:=cxC X N scope s3 H3 fp pins) _ s10 σ8 H10 (.ref s2.heap.objs.size) [y] (.ref s2.heap.objs.size) [v] (λ _ H'=>NN σ8 H') I10 rfl (.cons r10 .nil) ⟨_,ys,y,rfl,rfl,ea,hz,q10⟩) λ _ s11 ⟨_,H11,I11,_,q11⟩=>?_;exact again I11 q11
 exact codeAny_compStart_list (loop _ rfl) (T.self X.A 0 _ _ _ st4 (loop _ rfl))
theorem xj {ON:List Str} (hosc:X.env.scope=osc) (hON:X.N=ON) (hB:zcp osc scope ON caps=true) (hN:N=vars ++ caps.map λ k=>ON.getD k Str.empty) (hc:X.calm=true) (hi:PI X target iter wi)
  (hg:∀ s H fp pins,PG (cxC X N scope s H fp pins) target (g s H fp pins)) (ht:∀ s H fp pins,zeY (cxC X N scope s H fp pins) ifs (tt s H fp pins)) (he:∀ s H fp pins,PE (cxC X N scope s H fp pins) elt (te s H fp pins))
  (hs:∀ x,foldedSetIterable iter X.env x=pure x:=by intro _;rfl):PE X (.ListComp elt [⟨target,iter,ifs,0⟩] scope pos) (tLc wi vars.length caps g tt te):=by
 subst hON;intro pins s σ H Q I h;have C:CompOk osc scope X.N vars caps:=zaB hB;have hclos:closureFor scope X.env=pure (qM X.env.cells scope.names []):=vM λ y hy e=>I.ok.has y.1 (by have z:=C.free y hy e;rw [<- hosc] at z;exact z);rw [eval_ListComp];refine wpAny_comprehension_free (use:=none) rfl hs hclos C.kind C.loc (thn (hi pins s σ H _ I h) λ v s1 h1=>thn h1 λ itv s2 h2=>?_);obtain ⟨it,fp,tn,J,H2,e,I2,T,st2,f2,hw⟩:=h2;subst e;refine Xl (N:=N) (RR:=λ acc Cc=>compPost (model X.prog X.w) X.A X.xe none (EP X pins σ Q) acc Cc) hosc C hN hc hg ht he I2 T st2 f2 hw λ acc Cc s' H' m I' q hn hC hL hsz hcc hpp=>?_;refine ⟨m,hn,λ h' hs'=>⟨.ref acc,H',?_,rfl,q⟩⟩;exact I'.turned (t':=s'.toks) (it:=Cc) (λ b o hb e=>(hs'.2 b hb).trans e) hC (λ z=>hL z) (.inr hsz) hcc hpp
theorem JJ {ON:List Str} {i:Nat} {x:Str} {pos' spos:Pos} (hNd:X.N.Nodup) (hix:X.N[i]?=some x) (hx:Loc X.env.scope x)
  (hosc:X.env.scope=osc) (hON:X.N=ON) (hB:zcp osc scope ON caps=true) (hN:N=vars ++ caps.map λ k=>ON.getD k Str.empty) (hc:X.calm=true) (hi:PI X target iter wi)
  (hg:∀ s H fp pins,PG (cxC X N scope s H fp pins) target (g s H fp pins)) (ht:∀ s H fp pins,zeY (cxC X N scope s H fp pins) ifs (tt s H fp pins)) (he:∀ s H fp pins,PE (cxC X N scope s H fp pins) elt (te s H fp pins))
  (hsw:swapsWith (.ListComp elt [⟨target,iter,ifs,0⟩] scope pos) (some (.Name x pos')) spos.line X.env=pure true:=by rfl)
  (hf:X.fn x=true\/X.env.scope.names.lookup x=some .local:=by walk_at "p")
  (hs:∀ x,foldedSetIterable iter X.env x=pure x:=by intro _;rfl):PS X (.Assign [.Name x pos'] (.ListComp elt [⟨target,iter,ifs,0⟩] scope pos) spos) (tAsg (tLc wi vars.length caps g tt te) (gName i)):=by
 subst hON;intro pins s σ H D I h;have C:CompOk osc scope X.N vars caps:=zaB hB;have hclos:closureFor scope X.env=pure (qM X.env.cells scope.names []):=vM λ y hy e=>I.ok.has y.1 (by have z:=C.free y hy e;rw [<- hosc] at z;exact z);rw [exec_Assign_Name_used _ _ _ _ hsw];refine wpAny_bind (wpAny_standAt (wpAny_bind ?_));show wpAny _ X.A (do let _ <- comprehension (.ListComp elt [⟨target,iter,ifs,0⟩] scope pos) scope X.env _ (newList []) false (eval iter X.env) (some (assign (.Name x pos') X.env))) _ _ s
 refine wpAny_bind (wpAny_mono (wpAny_comprehension_free (use:=some (assign (.Name x pos') X.env)) (Q:=λ _ s'=>SP X pins D .next s') rfl hs hclos C.kind C.loc (thn (hi pins s σ H _ I h) λ v s1 h1=>thn h1 λ itv s2 h2=>?_)) (λ _ s' hq=>wpAny_pure (wpAny_pure hq)) λ _ _ e=>e);obtain ⟨it,fp,tn,J,H2,e,I2,T,st2,f2,hw⟩:=h2;subst e;refine Xl (N:=N) (Q:=λ v H1=>gName i v σ H1 D.nx) (RR:=λ acc Cc=>compPost (model X.prog X.w) X.A X.xe (some (assign (.Name x pos') X.env)) (λ _ s'=>SP X pins D .next s') acc Cc) hosc C hN hc hg ht he I2 T st2 f2 hw λ acc Cc s' H' m I' q hn hC hL hsz hcc hpp=>?_;refine wpAny_assign_Name (X0 I' hNd hix hx (v:=.ref acc) rfl (λ s3 I3 ⟨a,sb,ha⟩=>?_) hf);have hne:Cc≠a:=λ z=>by
  rcases ha with e|e
  ·exact hL (z.trans e)
  ·exact hcc x a e z.symm
 refine ⟨m,hn.sameBut sb hne,λ h' hs'=>⟨_,H',?_,q⟩⟩;exact I3.turned (t':=s3.toks) (it:=Cc) (λ b o hb e=>(hs'.2 b hb).trans e) hC (λ z=>hL z) (.inr hsz) hcc hpp
end
end L2
namespace L2
open PySem PySem.Spec PySem.Calls PyProof.Rows
section
variable {X:Cx} {pins:List (Addr × Obj)} {σ:St} {H:Hp} {s:Shared} {h':Heap} {ch:List Addr}
theorem Inv.turnNew {T:Addr} {o:HO} {t':Nat} (I:Inv X pins σ H s) (hch:∀ b∈ch,Qr X pins H b) (hT:s.heap.objs.size<=T) (keep:∀ b o,b ∉ ch->s.heap.get? b=some o->h'.get? b=some o)
  (new:ObjOk X.prog X.w (upd H T o) h' T o):Inv X pins σ (upd H T o) { s with heap:=h',toks:=t' }:=by
 have hn:H T=none:=I.hok.fresh hT;have lt:∀ b u,s.heap.get? b=some u->b≠T:=λ b u e=>Nat.ne_of_lt (Nat.lt_of_lt_of_le (Heap.lt_size e) hT);have nch:∀ b u,H b=some u->b ∉ ch:=λ b u e z=>by rw [(hch b z).1] at e;cases e
 refine I.step (g':=s.gens) (d':=s.drawn) (ch:=ch) (λ b hb=>⟨(hch b hb).2.2.2.1,(hch b hb).2.1,(hch b hb).2.2.2.2.1,(hch b hb).2.2.2.2.2⟩) (λ b o _ _ hc e _=>keep b o hc e) (λ b o _ _ hc e _=>⟨o.slots,keep b o hc e⟩)
  (λ b o _ e n=>by rw [upd_ne (lt b o e)];exact n) (λ b o hc e=>⟨o,keep b o hc e⟩) (λ b xs e=>by rw [upd_ne (ne_of_none e hn)];exact e) (λ b o u e=>by rw [upd_ne (ne_of_none e hn)];exact e)
  (λ b ps e=>⟨#[],by rw [upd_ne (ne_of_none e hn),e];simp⟩) (λ m hm=>?_) (λ b u e=>?_) I.bare
 ·obtain ⟨o,es,ep,ho,r⟩:=hm;exact ⟨o,es,ep,keep _ o (λ z=>(hch _ z).2.1 rfl) ho,r⟩
 ·by_cases hb:b=T
  ·subst hb;rw [upd_same] at e;cases e;exact new
  ·rw [upd_ne hb] at e;refine (I.hok b u e).stay (λ c v hc q=>keep c v ?_ q) (λ c q=>by rw [upd_ne (ne_of_none q hn)];exact q) λ c xs q=>by rw [upd_ne (ne_of_none q hn)];exact q
   rcases hc with z|z
   ·rw [z];exact nch b u e
   ·exact nch c _ z
theorem Inv.turnL {t':Nat} (I:Inv X pins σ H s) (hch:∀ b∈ch,Qr X pins H b) (keep:∀ b o,b ∉ ch->s.heap.get? b=some o->h'.get? b=some o):Inv X pins σ H { s with heap:=h',toks:=t' }:=by
 have nch:∀ b u,H b=some u->b ∉ ch:=λ b u e z=>by rw [(hch b z).1] at e;cases e
 refine I.step (g':=s.gens) (d':=s.drawn) (ch:=ch) (λ b hb=>⟨(hch b hb).2.2.2.1,(hch b hb).2.1,(hch b hb).2.2.2.2.1,(hch b hb).2.2.2.2.2⟩) (λ b o _ _ hc e _=>keep b o hc e) (λ b o _ _ hc e _=>⟨o.slots,keep b o hc e⟩)
  (λ _ _ _ _ n=>n) (λ b o hc e=>⟨o,keep b o hc e⟩) (λ _ _ e=>e) (λ _ _ _ e=>e) (λ b ps e=>⟨#[],by rw [e];simp⟩) (λ m hm=>?_) (λ b u e=>?_) I.bare
 ·obtain ⟨o,es,ep,ho,r⟩:=hm;exact ⟨o,es,ep,keep _ o (λ z=>(hch _ z).2.1 rfl) ho,r⟩
 ·refine (I.hok b u e).stay (λ c v hc q=>keep c v ?_ q) (λ _ q=>q) λ _ _ q=>q;rcases hc with z|z
  ·rw [z];exact nch b u e
  ·exact nch c _ z
end
def Ite (K:PySem.W.Frag) (a:Addr):It :=
 ⟨λ i H=>∃ xs x,SqL K H a xs/\xs[i]?=some x,λ i H v H'=>∃ t x,H t=none/\v=.ref t/\(∀ xs,SqL K H a xs->xs[i]?=some x)/\H'=upd H t (.tup [.int i,x]),λ i H=>∃ xs,SqL K H a xs/\xs.length<=i⟩
theorem zcz {P:Program} {w:World} {K:PySem.W.Frag} {elts:List Expr} {x1} {pos:Pos} (a e it:Addr) (hne:e≠it) :
  Turn P w K (.Tuple elts x1 pos) (Ite K a) [e,it] e (λ i h=>(∃ old,IsEnum h e it i old)/\h.IsListIter it a i) where
 mem:=by simp
 obj:=λ i h st b hb=>by
  obtain ⟨⟨old,he⟩,o,ho,c,d⟩:=st;rcases List.mem_cons.mp hb with rfl|hb
  ·exact ⟨_,he,λ v z=>by cases z⟩
  ·obtain rfl:b=it:=by simpa using hb
   exact ⟨o,ho,λ v z=>by rw [d] at z;cases z⟩
 keep:=λ i h h' st k=>by
  obtain ⟨⟨old,he⟩,hi⟩:=st;exact ⟨⟨old,k e (by simp) _ he⟩,hi.at λ o z=>k it (by simp) o z⟩
 item:=by
  intro X hP hw hK hc i pins s σ H E I hf st hg;subst hP hw hK;obtain ⟨⟨old,he⟩,hi⟩:=st;obtain ⟨xs,x,hq,hx⟩:=hg;obtain ⟨its,rv,p,hz⟩:=I.list hq;obtain ⟨u,hu,ru⟩:=rv.get hx;refine wpAny_pyNext_enum_item he hi p.isList (x:=u) (by simpa using hu) hne λ h' he' hi' hT hsz hk=>?_;refine ⟨_,rfl,?_⟩;have I1:Inv X pins σ (upd H s.heap.objs.size (.tup [.int i,x])) { s with heap:=h',toks:=s.toks + 1 }:=I.turnNew hf (Nat.le_refl _) (λ b o hb q=>hk b o (λ z=>hb (by simp [z])) (λ z=>hb (by simp [z])) q)
   ⟨by show 2<=sizeLine;decide,[.int i s.toks,u],.cons ⟨_,rfl⟩ (.cons ru .nil),⟨_,hT,rfl,_,rfl⟩⟩
  have hn:H s.heap.objs.size=none:=I.hok.fresh (Nat.le_refl _);have ne:∀ b∈[e,it],b≠s.heap.objs.size:=λ b hb=>by
   rcases List.mem_cons.mp hb with rfl|hb
   ·exact Nat.ne_of_lt (Heap.lt_size he)
   ·obtain rfl:b=it:=by simpa using hb
    obtain ⟨o,ho,_⟩:=hi;exact Nat.ne_of_lt (Heap.lt_size ho)
  have fr:∀ b∈[e,it],(upd H s.heap.objs.size (.tup [.int i,x])) b=none:=λ b hb=>by rw [upd_ne (ne b hb)];exact (hf b hb).1
  refine wpAny_letOwnedTupleGo_enum he' λ h'' he'' hs''=>?_;refine ⟨.ref s.heap.objs.size,_,I1.turnL (t':=s.toks + 1) (ch:=[e]) (λ b hb=>?_) (λ b o hb q=>(hs''.2 b (λ z=>hb (by simp [z]))).trans q),rfl,
   ⟨s.heap.objs.size,x,hn,rfl,λ ys hy=>by rw [I.list_inj hy hq];exact hx,rfl⟩,⟨⟨u,?_⟩,hi'.extBut hs''.extBut (Ne.symm hne)⟩,fr⟩
  ·obtain rfl:b=e:=by simpa using hb
   exact ⟨fr b (by simp),(hf b (by simp)).2⟩
  ·exact he''
 done:=by
  intro X hP hw hK hc i pins s σ H E I hf st hg;subst hP hw hK;obtain ⟨⟨old,he⟩,hi⟩:=st;obtain ⟨xs,hq,hx⟩:=hg;obtain ⟨its,rv,p,hz⟩:=I.list hq;have hl:=rv.length;exact wpAny_pyNext_enum_end (I.ok.hd hc) he hi p.isList (by simp;omega) λ h' eb=>⟨rfl,I.turnL (t':=s.toks) hf λ b o hb q=>eb b o (λ z=>hb (by simp [z])) q⟩
 self:=λ _ _ _ _ _ st h=>by
  obtain ⟨⟨old,he⟩,_⟩:=st;exact wpAny_pyIter_enum he h
theorem Vx:bootBuiltins "enumerate"=some (.type "enumerate"):=by decide +kernel
theorem zgO:bootBuiltins "zip"=some (.type "zip"):=by decide +kernel
def iEnum (X:Cx) (ta:TA):TI:=λ σ H R=>X.mg "enumerate"=none/\ta σ H λ vs H1=>∃ a xs,vs=[.ref a]/\H1 a=some (.lst xs)/\R (Ite X.K a) H1
theorem wg {X:Cx} {a:Expr} {elts:List Expr} {x1} {tp p pos:Pos} {ta:TA} (ha:PA X [a] ta) (hg:Gl X "enumerate":=by rfl)
  (hs:starEach [a] X.env=(false,eval a X.env) :: starEach [] X.env:=by rfl) (hpl:(backTo pos (starEach [] X.env)).any (·.1)=false:=by rfl) :
  PI X (.Tuple elts x1 tp) (.Call (.Name "enumerate" p) [a] [] pos) (iEnum X ta):=by
 intro pins s σ H R I h;refine wpAny_Call_Name_kw (wS I hg h.1 Vx ?_);refine PyProof.Rows.callWith_type1 (vz (ha pos pins s σ H _ I h.2) λ us s1 vs H1 I1 r1 q1=>?_) hs hpl;obtain ⟨l,xs,rfl,hq,hR⟩:=q1;obtain ⟨u,rfl,rx⟩:=Qt r1;cases rx;obtain ⟨hz,its,n,rv,hl,e⟩:=I1.lstM hq;refine call_enumerate_1 e λ h' he hi hsz hk=>wpAny_pyIter_enum he ?_;refine ⟨s1.heap.objs.size + 1,[s1.heap.objs.size + 1,s1.heap.objs.size],_,_,H1,rfl,I1.kept (t':=s1.toks) hk,zcz l _ _ (Nat.succ_ne_self _),⟨⟨_,he⟩,hi⟩,λ b hb=>?_,hR⟩;rcases List.mem_cons.mp hb with rfl|hb
 ·exact I1.fpOk (Nat.le_succ _) (I1.hok.fresh (Nat.le_succ _))
 ·obtain rfl:b=s1.heap.objs.size:=by simpa using hb
  exact I1.fpOk (Nat.le_refl _) (I1.hok.fresh (Nat.le_refl _))
def ItAt (b:Bool) (h:Heap) (it a:Addr) (i:Nat):Prop:=if b=true then h.IsListIter it a i else h.IsTupleIter it a i
def SqAt (b:Bool) (h:Heap) (a:Addr) (items:Array Value):Prop:=if b=true then h.IsList a items else h.IsTuple a items
def Ql (b:Bool):String:=if b=true then "list_iterator" else "tuple_iterator"
theorem ItAt.at' {b:Bool} {h h':Heap} {it a:Addr} {i:Nat} (x:ItAt b h it a i) (hk:∀ o,h.get? it=some o->h'.get? it=some o):ItAt b h' it a i:=by
 cases b <;> exact let ⟨o,ho,r⟩:=x;⟨o,hk o ho,r⟩
theorem ItAt.obj {b:Bool} {h:Heap} {it a:Addr} {i:Nat} (x:ItAt b h it a i):∃ o,h.get? it=some o/\∀ v,o.data≠.cell v:=by
 cases b <;> exact let ⟨o,ho,_,hd⟩:=x;⟨o,ho,λ v z=>by rw [hd] at z;cases z⟩
theorem SqAt.at' {b:Bool} {h h':Heap} {a:Addr} {items:Array Value} (x:SqAt b h a items) (hk:∀ o,h.get? a=some o->h'.get? a=some o):SqAt b h' a items:=by
 cases b <;> exact let ⟨o,ho,r⟩:=x;⟨o,hk o ho,r⟩
section
variable {prog:Program} {w:World} {A:Around} {E:Value->Shared->Prop} {s:Shared}
theorem Zz {it t:Addr} {i:Nat} {items} {x:Value} {Q:Value->Shared->Prop} (hit:s.heap.IsTupleIter it t i) (ht:s.heap.IsTuple t items) (hx:items[i]?=some x)
  (hQ:∀ h',h'.IsTupleIter it t (i + 1)->Heap.SameBut it s.heap h'->Q x { s with heap:=h' }):wpAny (model prog w) A (Builtin.SmallTypes.nextOf (.ref it)) Q E s:=by
 obtain ⟨o,ho,hc,hd⟩:=id hit;obtain ⟨ol,hol,_,nl,hdl⟩:=ht;unfold Builtin.SmallTypes.nextOf;refine wpAny_bind (wpAny_callSpecial?_slot (name:=Str.ofString "__next__") hit.typeIs F.slot_tuple_iterator_next
  (wpAny_call_entry F.slot_tuple_iterator_next hit.typeIs F.entry_tuple_iterator_next ?_ (F.args_tuple_iterator_next_1 _)))
 show wpAny _ _ (field (.ref it) 0 >>= _) _ _ s
 refine wpAny_bind (wpAny_field ho hd (x:=.ref t) rfl ?_);show wpAny _ _ (if (Value.ref t == Value.none)=true then _ else _) _ _ s
 rw [if_neg (show ¬ ((Value.ref t == Value.none)=true) from Bool.false_ne_true)];show wpAny _ _ (field (.ref it) 1 >>= _) _ _ s
 refine wpAny_bind (wpAny_field ho hd (x:=.int i 0) rfl ?_);show wpAny _ _ (seqItems? (.ref t) >>= _) _ _ s
 refine wpAny_bind (wpAny_seqItems hol hdl ?_);simp only [Int.toNat_natCast,hx];refine wpAny_bind (wpAny_setField ho hd (by simp) (wpAny_pure ⟨x,rfl,wpAny_pure (hQ _ ?_ (Heap.SameBut.update ..))⟩));exact ⟨_,Heap.get?_update_self _ ho (Obj.isFreed_of_fields (Obj.data_mapFields hd _)),(Obj.cls_mapFields ..).trans hc,by
  rw [Obj.data_mapFields hd];simp [rawInt]⟩
theorem Qh {it t:Addr} {i:Nat} {items} {Q:Value->Shared->Prop} (hh:A.handled=none) (hit:s.heap.IsTupleIter it t i) (ht:s.heap.IsTuple t items) (hx:items[i]?=none)
  (hE:∀ h' e,Heap.ExtBut it s.heap h'->(∃ o,h'.get? e=some o/\o.cls=.type "StopIteration")->E (.ref e) { s with heap:=h' }) :
  wpAny (model prog w) A (Builtin.SmallTypes.nextOf (.ref it)) Q E s:=by
 obtain ⟨o,ho,hc,hd⟩:=id hit;obtain ⟨ol,hol,_,nl,hdl⟩:=ht;unfold Builtin.SmallTypes.nextOf;refine wpAny_bind (wpAny_callSpecial?_slot (name:=Str.ofString "__next__") hit.typeIs F.slot_tuple_iterator_next
  (wpAny_call_entry F.slot_tuple_iterator_next hit.typeIs F.entry_tuple_iterator_next ?_ (F.args_tuple_iterator_next_1 _)))
 show wpAny _ _ (field (.ref it) 0 >>= _) _ _ s
 refine wpAny_bind (wpAny_field ho hd (x:=.ref t) rfl ?_);show wpAny _ _ (if (Value.ref t == Value.none)=true then _ else _) _ _ s
 rw [if_neg (show ¬ ((Value.ref t == Value.none)=true) from Bool.false_ne_true)];show wpAny _ _ (field (.ref it) 1 >>= _) _ _ s
 refine wpAny_bind (wpAny_field ho hd (x:=.int i 0) rfl ?_);show wpAny _ _ (seqItems? (.ref t) >>= _) _ _ s
 refine wpAny_bind (wpAny_seqItems hol hdl ?_);simp only [Int.toNat_natCast,hx];refine wpAny_bind (wpAny_rule (wpAny_bind (wpAny_setField ho hd (by simp) ?_)));show wpAny _ _ (newExc (.type "StopIteration") [] >>= _) _ _ _
 refine wpAny_bind ?_;simp only [newExc,newTuple];refine wpAny_bind (wpAny_newObj_type ?_ (by size_fits));refine wpAny_bind (m:=firstArgMember _ _) (wpAny_of_eq (a:=Value.none) (by first|rfl|(simp only [firstArgMember];rfl)) ?_);refine wpAny_newObj_type ?_ (by size_fits);simp only [raiseNew];refine wpAny_bind (wpAny_handled ?_)
 first|rw [show A.in1.handled=none from hh] | rw [hh]
 refine wpAny_bind (wpAny_pure (wpAny_throw ?_));exact hE _ _ (((Heap.SameBut.update ..).extBut.push _).push _) ⟨_,Heap.get?_push_size _ rfl,rfl⟩
theorem wN {b:Bool} {it t:Addr} {i:Nat} {items} {x:Value} {Q:Value->Shared->Prop} (hit:ItAt b s.heap it t i) (ht:SqAt b s.heap t items) (hx:items[i]?=some x)
  (hQ:∀ h',ItAt b h' it t (i + 1)->Heap.SameBut it s.heap h'->Q x { s with heap:=h' }):wpAny (model prog w) A (Builtin.SmallTypes.nextOf (.ref it)) Q E s:=by
 cases b
 ·exact Zz hit ht hx hQ
 ·exact wpAny_nextOf_list_item hit ht hx hQ
theorem JX {b:Bool} {it t:Addr} {i:Nat} {items} {Q:Value->Shared->Prop} (hh:A.handled=none) (hit:ItAt b s.heap it t i) (ht:SqAt b s.heap t items) (hx:items[i]?=none)
  (hE:∀ h' e,Heap.ExtBut it s.heap h'->(∃ o,h'.get? e=some o/\o.cls=.type "StopIteration")->E (.ref e) { s with heap:=h' }) :
  wpAny (model prog w) A (Builtin.SmallTypes.nextOf (.ref it)) Q E s:=by
 cases b
 ·exact Qh hh hit ht hx hE
 ·exact wpAny_nextOf_list_end hh hit ht hx hE
theorem X9 {b:Bool} {t:Addr} {items} {Q:Value->Shared->Prop} (ht:SqAt b s.heap t items)
  (hQ:Q (.ref s.heap.objs.size) { s with heap:=s.heap.push { cls:=.type (Ql b),data:=.fields #[.ref t,.int 0 0] } }):wpAny (model prog w) A (pyIter (.ref t)) Q E s:=by
 cases b
 ·exact wpAny_pyIter_tuple ht hQ
 ·exact wpAny_pyIter_list ht hQ
theorem zdz {b1 b2:Bool} {z TI TO i1 i2 l1 l2:Addr} {k1 k2:Nat} {xs ys:Array Value} {x y a b:Value} {Q:Value->Shared->Prop} (D:ZipApart z TI TO i1 i2 l1 l2)
  (hz:IsZip s.heap z TI TO .none) (hTI:IsPair s.heap TI (.ref i1) (.ref i2)) (hTO:IsPair s.heap TO a b)
  (h1:ItAt b1 s.heap i1 l1 k1) (h2:ItAt b2 s.heap i2 l2 k2) (hl1:SqAt b1 s.heap l1 xs) (hl2:SqAt b2 s.heap l2 ys) (hx:xs[k1]?=some x) (hy:ys[k2]?=some y)
  (hQ:∀ h',IsZip h' z TI TO (rawInt s.heap.objs.size)->IsPair h' TO x y->ItAt b1 h' i1 l1 (k1 + 1)->ItAt b2 h' i2 l2 (k2 + 1)->IsPair h' s.heap.objs.size x y->h'.objs.size=s.heap.objs.size + 1 ->
   (∀ c o,c≠z->c≠TO->c≠i1->c≠i2->s.heap.get? c=some o->h'.get? c=some o)->Q (.ref s.heap.objs.size) { s with heap:=h' }) :
  wpAny (model prog w) A (Builtin.«zip.__next__» ⟨[.ref z],[]⟩) (λ fin s'=>∃ v,fin=.done (.ret v)/\Q v s') E s:=by
 show wpAny _ _ (field (.ref z) 2 >>= _) _ _ _
 refine wpAny_bind (wpAny_field hz rfl (x:=.bool false) rfl ?_);show wpAny _ _ (field (.ref z) 3 >>= _) _ _ _
 refine wpAny_bind (wpAny_field hz rfl (x:=.ref TI) rfl ?_);refine wpAny_bind (wpAny_seqItems hTI rfl ?_);show wpAny _ _ (Builtin.SmallTypes.ownedTupleIsFree (.ref z) >>= _) _ _ _
 refine wpAny_bind ?_;unfold Builtin.SmallTypes.ownedTupleIsFree;refine wpAny_bind (wpAny_field hz rfl (x:=.none) rfl (wpAny_pure ?_));simp only [if_true];refine wpAny_bind (wpAny_rule ?_);refine wpAny_bind (wpAny_field hz rfl (x:=.ref TO) rfl ?_);refine wpAny_bind (wpAny_setField_rec hz (by simp) λ h₁ hz₁ hs₁=>?_);replace hz₁:IsZip h₁ z TI TO .ellipsis:=hz₁;refine wpAny_bind ?_;simp only [List.zipIdx_cons,List.zipIdx_nil,forIn_cons,List.forIn_nil];refine wpAny_bind (wpAny_bind (wpAny_onRaise ?_));show wpAny _ _ (Builtin.SmallTypes.nextOf (.ref i1) >>= _) _ _ _
 refine wpAny_bind (wN (h1.at' λ o e=>hs₁.extBut _ _ D.i1z e) (hl1.at' λ o e=>hs₁.extBut _ _ D.l1z e) hx λ h₂ h1₂ hs₂=>wpAny_pure ?_);have hTO₂:IsPair h₂ TO a b:=hs₂.extBut _ _ D.TOi1 (hs₁.extBut _ _ D.TOz hTO);refine wpAny_bind (wpAny_seqItems hTO₂ rfl ?_);refine wpAny_bind (wpAny_updateSeq_pair hTO₂ λ h₃ hTO₃ hs₃=>?_);replace hTO₃:IsPair h₃ TO x b:=hTO₃;refine wpAny_bind (wpAny_letGo (wpAny_pure ?_));refine wpAny_bind (wpAny_bind (wpAny_onRaise ?_));show wpAny _ _ (Builtin.SmallTypes.nextOf (.ref i2) >>= _) _ _ _
 refine wpAny_bind (wN (h2.at' λ o e=>hs₃.extBut _ _ D.TOi2.symm (hs₂.extBut _ _ D.i12.symm (hs₁.extBut _ _ D.i2z e)))
  (hl2.at' λ o e=>hs₃.extBut _ _ D.l2TO (hs₂.extBut _ _ D.l2i1 (hs₁.extBut _ _ D.l2z e))) hy λ h₄ h2₄ hs₄=>wpAny_pure ?_)
 have hTO₄:IsPair h₄ TO x b:=hs₄.extBut _ _ D.TOi2 hTO₃;refine wpAny_bind (wpAny_seqItems hTO₄ rfl ?_);refine wpAny_bind (wpAny_updateSeq_pair hTO₄ λ h₅ hTO₅ hs₅=>?_);replace hTO₅:IsPair h₅ TO x y:=hTO₅;refine wpAny_bind (wpAny_letGo (wpAny_pure (wpAny_pure ?_)));refine wpAny_bind (wpAny_seqItems hTO₅ rfl ?_);refine wpAny_bind (wpAny_newTuple ?_);have hsz:h₅.objs.size=s.heap.objs.size:=by rw [hs₅.1,hs₄.1,hs₃.1,hs₂.1,hs₁.1]
 have hz₅:IsZip h₅ z TI TO .ellipsis:=hs₅.extBut _ _ D.TOz.symm (hs₄.extBut _ _ D.i2z.symm (hs₃.extBut _ _ D.TOz.symm (hs₂.extBut _ _ D.i1z.symm hz₁)));have hk₅:∀ c o,c≠z->c≠TO->c≠i1->c≠i2->s.heap.get? c=some o->h₅.get? c=some o:=λ c o c1 c2 c3 c4 e =>
  hs₅.extBut _ _ c2 (hs₄.extBut _ _ c4 (hs₃.extBut _ _ c2 (hs₂.extBut _ _ c3 (hs₁.extBut _ _ c1 e))))
 have h1₅:ItAt b1 h₅ i1 l1 (k1 + 1):=h1₂.at' λ o e=>hs₅.extBut _ _ D.TOi1.symm (hs₄.extBut _ _ D.i12 (hs₃.extBut _ _ D.TOi1.symm e));have h2₅:ItAt b2 h₅ i2 l2 (k2 + 1):=h2₄.at' λ o e=>hs₅.extBut _ _ D.TOi2.symm e;have hzlt:z < h₅.objs.size:=Heap.lt_size hz₅;show wpAny _ _ (Builtin.SmallTypes.ownedTupleHandOut (.ref z) (.ref h₅.objs.size) >>= _) _ _ _
 refine wpAny_bind ?_;unfold Builtin.SmallTypes.ownedTupleHandOut;have hz₆:IsZip (h₅.push { cls:=.type "tuple",data:=.seq #[x,y] }) z TI TO .ellipsis:=Heap.get?_push_of_some _ hz₅;refine wpAny_bind (wpAny_setField_rec hz₆ (by simp) λ h₇ hz₇ hs₇=>?_);replace hz₇:IsZip h₇ z TI TO (rawInt h₅.objs.size):=hz₇;refine wpAny_setField_rec hz₇ (by simp) λ h₈ hz₈ hs₈=>?_;replace hz₈:IsZip h₈ z TI TO (rawInt h₅.objs.size):=hz₈;have up:∀ c o,c≠z->h₅.get? c=some o->h₈.get? c=some o:=λ c o c1 e=>hs₈.extBut _ _ c1 (hs₇.extBut _ _ c1 (Heap.get?_push_of_some _ e));have hT₈:IsPair h₈ h₅.objs.size x y:=hs₈.extBut _ _ (Nat.ne_of_gt hzlt) (hs₇.extBut _ _ (Nat.ne_of_gt hzlt) (Heap.get?_push_size _ rfl));have hz8:h₈.objs.size=h₅.objs.size + 1:=by rw [hs₈.1,hs₇.1,Heap.size_push]
 rw [hsz] at hz₈ hT₈ hz8;refine wpAny_pure ⟨_,rfl,?_⟩;show Q (.ref h₅.objs.size) _
 rw [hsz];exact hQ h₈ hz₈ (up _ _ D.TOz hTO₅) (h1₅.at' λ o e=>up _ o D.i1z e) (h2₅.at' λ o e=>up _ o D.i2z e) hT₈ hz8 λ c o c1 c2 c3 c4 e=>up c o c1 (hk₅ c o c1 c2 c3 c4 e)
theorem zeZ {b1 b2:Bool} {z TI TO i1 i2 l1 l2:Addr} {k1 k2:Nat} {xs ys:Array Value} {a b:Value} {Q:Fin->Shared->Prop} (hh:A.handled=none) (D:ZipApart z TI TO i1 i2 l1 l2)
  (hz:IsZip s.heap z TI TO .none) (hTI:IsPair s.heap TI (.ref i1) (.ref i2)) (hTO:IsPair s.heap TO a b)
  (h1:ItAt b1 s.heap i1 l1 k1) (h2:ItAt b2 s.heap i2 l2 k2) (hl1:SqAt b1 s.heap l1 xs) (hl2:SqAt b2 s.heap l2 ys) (hend:xs[k1]?=none\/ys[k2]?=none)
  (hE:∀ h' e,(∀ c o,c≠z->c≠TO->c≠i1->c≠i2->s.heap.get? c=some o->h'.get? c=some o)->(∃ o,h'.get? e=some o/\o.cls=.type "StopIteration")->E (.ref e) { s with heap:=h' }) :
  wpAny (model prog w) A (Builtin.«zip.__next__» ⟨[.ref z],[]⟩) Q E s:=by
 show wpAny _ _ (field (.ref z) 2 >>= _) _ _ _
 refine wpAny_bind (wpAny_field hz rfl (x:=.bool false) rfl ?_);show wpAny _ _ (field (.ref z) 3 >>= _) _ _ _
 refine wpAny_bind (wpAny_field hz rfl (x:=.ref TI) rfl ?_);refine wpAny_bind (wpAny_seqItems hTI rfl ?_);show wpAny _ _ (Builtin.SmallTypes.ownedTupleIsFree (.ref z) >>= _) _ _ _
 refine wpAny_bind ?_;unfold Builtin.SmallTypes.ownedTupleIsFree;refine wpAny_bind (wpAny_field hz rfl (x:=.none) rfl (wpAny_pure ?_));simp only [if_true];refine wpAny_bind (wpAny_rule ?_);refine wpAny_bind (wpAny_field hz rfl (x:=.ref TO) rfl ?_);refine wpAny_bind (wpAny_setField_rec hz (by simp) λ h₁ hz₁ hs₁=>?_);replace hz₁:IsZip h₁ z TI TO .ellipsis:=hz₁;refine wpAny_bind ?_;simp only [List.zipIdx_cons,List.zipIdx_nil,forIn_cons,List.forIn_nil];refine wpAny_bind (wpAny_bind (wpAny_onRaise ?_));show wpAny _ _ (Builtin.SmallTypes.nextOf (.ref i1) >>= _) _ _ _
 cases hx:xs[k1]? with
 | none =>
  refine wpAny_bind (JX hh (h1.at' λ o e=>hs₁.extBut _ _ D.i1z e) (hl1.at' λ o e=>hs₁.extBut _ _ D.l1z e) hx λ h₂ e hs₂ he=>?_);obtain ⟨oe,hoe,hce⟩:=he;have hz₂:IsZip h₂ z TI TO .ellipsis:=hs₂ _ _ D.i1z.symm hz₁;have hez:e≠z:=λ x=>by subst x;rw [hz₂] at hoe;cases hoe;simp at hce
  refine wpAny_setField_rec hz₂ (by simp) λ h₃ _ hs₃=>hE h₃ e (λ c o c1 _ c3 _ x=>hs₃.extBut _ _ c1 (hs₂ _ _ c3 (hs₁.extBut _ _ c1 x))) ⟨oe,hs₃.extBut _ _ hez hoe,hce⟩
 | some x =>
  have hy:ys[k2]?=none:=by rcases hend with h|h;rw [hx] at h;cases h;exact h
  refine wpAny_bind (wN (h1.at' λ o e=>hs₁.extBut _ _ D.i1z e) (hl1.at' λ o e=>hs₁.extBut _ _ D.l1z e) hx λ h₂ h1₂ hs₂=>wpAny_pure ?_);have hTO₂:IsPair h₂ TO a b:=hs₂.extBut _ _ D.TOi1 (hs₁.extBut _ _ D.TOz hTO);refine wpAny_bind (wpAny_seqItems hTO₂ rfl ?_);refine wpAny_bind (wpAny_updateSeq_pair hTO₂ λ h₃ hTO₃ hs₃=>?_);refine wpAny_bind (wpAny_letGo (wpAny_pure ?_));refine wpAny_bind (wpAny_bind (wpAny_onRaise ?_));show wpAny _ _ (Builtin.SmallTypes.nextOf (.ref i2) >>= _) _ _ _
  refine wpAny_bind (JX hh (h2.at' λ o e=>hs₃.extBut _ _ D.TOi2.symm (hs₂.extBut _ _ D.i12.symm (hs₁.extBut _ _ D.i2z e)))
   (hl2.at' λ o e=>hs₃.extBut _ _ D.l2TO (hs₂.extBut _ _ D.l2i1 (hs₁.extBut _ _ D.l2z e))) hy λ h₄ e hs₄ he=>?_)
  obtain ⟨oe,hoe,hce⟩:=he;have hz₄:IsZip h₄ z TI TO .ellipsis:=hs₄ _ _ D.i2z.symm (hs₃.extBut _ _ D.TOz.symm (hs₂.extBut _ _ D.i1z.symm hz₁));have hez:e≠z:=λ x=>by subst x;rw [hz₄] at hoe;cases hoe;simp at hce
  refine wpAny_setField_rec hz₄ (by simp) λ h₅ _ hs₅=>hE h₅ e (λ c o c1 c2 c3 c4 x=>hs₅.extBut _ _ c1 (hs₄ _ _ c4 (hs₃.extBut _ _ c2 (hs₂.extBut _ _ c3 (hs₁.extBut _ _ c1 x))))) ⟨oe,hs₅.extBut _ _ hez hoe,hce⟩
abbrev zH1 (h:Heap) (b1:Bool) (l1:Addr):Heap:=h.push { cls:=.type (Ql b1),data:=.fields #[.ref l1,.int 0 0] }
abbrev zH2 (h:Heap) (b1 b2:Bool) (l1 l2:Addr):Heap:=(zH1 h b1 l1).push { cls:=.type (Ql b2),data:=.fields #[.ref l2,.int 0 0] }
noncomputable abbrev zH3 (h:Heap) (b1 b2:Bool) (l1 l2:Addr):Heap:=(zH2 h b1 b2 l1 l2).push { cls:=.type "tuple",data:=.seq #[.ref h.objs.size,.ref (zH1 h b1 l1).objs.size] }
noncomputable abbrev zH4 (h:Heap) (b1 b2:Bool) (l1 l2:Addr):Heap:=(zH3 h b1 b2 l1 l2).push { cls:=.type "tuple",data:=.seq #[.none,.none] }
noncomputable abbrev zH5 (h:Heap) (b1 b2:Bool) (l1 l2:Addr):Heap:=(zH4 h b1 b2 l1 l2).push { cls:=.type "zip",data:=.fields #[.none,.bool false,.bool false,.ref (zH2 h b1 b2 l1 l2).objs.size,.ref (zH3 h b1 b2 l1 l2).objs.size] }
end
theorem zc2 {b1 b2:Bool} (l1 l2:Addr) (xs ys:Array Value) :
  Meets (Builtin.«zip.__new__» ⟨[.type "zip",.ref l1,.ref l2],[]⟩) (λ _ R s=>SqAt b1 s.heap l1 xs/\SqAt b2 s.heap l2 ys /\
   R (.ok (.ret (.ref (zH4 s.heap b1 b2 l1 l2).objs.size))) { s with heap:=zH5 s.heap b1 b2 l1 l2 }) :=
 .of_wp λ prog w A R s h=>by
  obtain ⟨hp,g,d,tk,os⟩:=s;obtain ⟨hl1,hl2,h⟩:=h;have hsub:=sub_zip;have hL1:SqAt b1 (Shared.heap ⟨hp,g,d,tk,os⟩) l1 xs:=hl1;have hL2:SqAt b2 (Shared.heap ⟨hp.push { cls:=.type (Ql b1),data:=.fields #[.ref l1,.int 0 0] },g,d,tk,os⟩) l2 ys:=hl2.at' λ o e=>Heap.get?_push_of_some _ e
  wp_walk using X9 hL1,X9 hL2
  exact ⟨_,rfl,h⟩
section
variable {prog:Program} {w:World} {A:Around} {E:Value->Shared->Prop} {s:Shared}
theorem ItAt.new {b:Bool} {h:Heap} {it l:Addr} (e:h.get? it=some { cls:=.type (Ql b),data:=.fields #[.ref l,.int 0 0] }):ItAt b h it l 0:=by
 cases b <;> exact ⟨_,e,rfl,rfl⟩
theorem zeL {b1 b2:Bool} {l1 l2:Addr} {xs ys:Array Value} {Q:Value->Shared->Prop} (hl1:SqAt b1 s.heap l1 xs) (hl2:SqAt b2 s.heap l2 ys)
  (h:∀ h',IsZip h' (s.heap.objs.size + 4) (s.heap.objs.size + 2) (s.heap.objs.size + 3) .none->IsPair h' (s.heap.objs.size + 2) (.ref s.heap.objs.size) (.ref (s.heap.objs.size + 1)) ->
   IsPair h' (s.heap.objs.size + 3) .none .none->ItAt b1 h' s.heap.objs.size l1 0->ItAt b2 h' (s.heap.objs.size + 1) l2 0->h'.objs.size=s.heap.objs.size + 5 ->
   (∀ c o,s.heap.get? c=some o->h'.get? c=some o)->Q (.ref (s.heap.objs.size + 4)) { s with heap:=h' }) :
  wpAny (model prog w) A (call (.type "zip") [.ref l1,.ref l2]) Q E s:=by
 refine callType_new F.called_zip (by decide) (F.typeCall_zip_2 _ _) (F.newCall_zip_2 _ _) (λ obj=>F.args_object_init_3 obj _ _) F.entry_zip_new
  (zc2 (b1:=b1) (b2:=b2) l1 l2 xs ys) ⟨hl1,hl2,?_⟩
 have z1:(zH1 s.heap b1 l1).objs.size=s.heap.objs.size + 1:=Heap.size_push ..;have z2:(zH2 s.heap b1 b2 l1 l2).objs.size=s.heap.objs.size + 2:=by rw [Heap.size_push,z1]
 have z3:(zH3 s.heap b1 b2 l1 l2).objs.size=s.heap.objs.size + 3:=by rw [Heap.size_push,z2]
 have z4:(zH4 s.heap b1 b2 l1 l2).objs.size=s.heap.objs.size + 4:=by rw [Heap.size_push,z3]
 have z5:(zH5 s.heap b1 b2 l1 l2).objs.size=s.heap.objs.size + 5:=by rw [Heap.size_push,z4]
 have g5:(zH5 s.heap b1 b2 l1 l2).get? (zH4 s.heap b1 b2 l1 l2).objs.size=some _:=Heap.get?_push_size _ rfl;have g4:(zH5 s.heap b1 b2 l1 l2).get? (zH3 s.heap b1 b2 l1 l2).objs.size=some _:=Heap.get?_push_of_some _ (Heap.get?_push_size _ rfl);have g3:(zH5 s.heap b1 b2 l1 l2).get? (zH2 s.heap b1 b2 l1 l2).objs.size=some _:=Heap.get?_push_of_some _ (Heap.get?_push_of_some _ (Heap.get?_push_size _ rfl));have g2:(zH5 s.heap b1 b2 l1 l2).get? (zH1 s.heap b1 l1).objs.size=some _:=Heap.get?_push_of_some _ (Heap.get?_push_of_some _ (Heap.get?_push_of_some _ (Heap.get?_push_size _ rfl)));have g1:(zH5 s.heap b1 b2 l1 l2).get? s.heap.objs.size=some _:=Heap.get?_push_of_some _ (Heap.get?_push_of_some _ (Heap.get?_push_of_some _ (Heap.get?_push_of_some _ (Heap.get?_push_size _ rfl))));show _/\_
 rw [z2,z3,z4] at g5;rw [z1,z2] at g3;rw [z3] at g4;rw [z1] at g2;rw [z4];exact ⟨⟨_,g5,rfl⟩,h _ g5 g3 g4 (ItAt.new g1) (ItAt.new g2) z5 λ c o x =>
  Heap.get?_push_of_some _ (Heap.get?_push_of_some _ (Heap.get?_push_of_some _ (Heap.get?_push_of_some _ (Heap.get?_push_of_some _ x))))⟩
end
def SqB (b:Bool) (K:PySem.W.Frag) (H:Hp) (a:Addr) (xs:List V):Prop:=if b=true then SqL K H a xs else SqT K H a xs
theorem Inv.sqB {X:Cx} {pins:List (Addr × Obj)} {σ:St} {H:Hp} {s:Shared} {b:Bool} {a:Addr} {xs:List V} (I:Inv X pins σ H s) (h:SqB b X.K H a xs):∃ its:List Value,Vals xs its/\SqAt b s.heap a its.toArray:=by
 cases b
 ·obtain ⟨its,r,p,_⟩:=I.tuple (show SqT X.K H a xs from h);exact ⟨its,r,p⟩
 ·obtain ⟨its,r,p,_⟩:=I.list (show SqL X.K H a xs from h);exact ⟨its,r,p.isList⟩
theorem Inv.sqB_inj {X:Cx} {pins:List (Addr × Obj)} {σ:St} {H:Hp} {s:Shared} {b:Bool} {a:Addr} {xs ys:List V} (I:Inv X pins σ H s) (h1:SqB b X.K H a xs) (h2:SqB b X.K H a ys):xs=ys:=by
 cases b
 ·exact I.tuple_inj (show SqT X.K H a xs from h1) (show SqT X.K H a ys from h2)
 ·exact I.list_inj (show SqL X.K H a xs from h1) (show SqL X.K H a ys from h2)
def Itz (K:PySem.W.Frag) (b1 b2:Bool) (a1 a2:Addr):It :=
 ⟨λ i H=>∃ xs ys x y,SqB b1 K H a1 xs/\SqB b2 K H a2 ys/\xs[i]?=some x/\ys[i]?=some y,
   λ i H v H'=>∃ t x y,H t=none/\v=.ref t/\(∀ xs,SqB b1 K H a1 xs->xs[i]?=some x)/\(∀ ys,SqB b2 K H a2 ys->ys[i]?=some y)/\H'=upd H t (.tup [x,y]),
   λ i H=>∃ xs ys,SqB b1 K H a1 xs/\SqB b2 K H a2 ys/\(xs.length<=i\/ys.length<=i)⟩
theorem SqB.there {X:Cx} {pins:List (Addr × Obj)} {σ:St} {H:Hp} {s:Shared} {b:Bool} {a:Addr} {xs:List V} (I:Inv X pins σ H s) (h:SqB b X.K H a xs):∃ o,s.heap.get? a=some o/\(o.cls=.type "list"\/o.cls=.type "tuple")/\∃ its n,o.data=.seq its n:=by
 obtain ⟨its,_,p⟩:=I.sqB h;cases b
 ·obtain ⟨o,e,c,n,d⟩:=p;exact ⟨o,e,.inr c,_,n,d⟩
 ·obtain ⟨o,e,c,n,d⟩:=p;exact ⟨o,e,.inl c,_,n,d⟩
theorem zdC {P:Program} {w:World} {K:PySem.W.Frag} {elts:List Expr} {x1} {pos:Pos} {b1 b2:Bool} (z TI TO i1 i2 l1 l2:Addr) (D:ZipApart z TI TO i1 i2 l1 l2) :
  Turn P w K (.Tuple elts x1 pos) (Itz K b1 b2 l1 l2) [z,TI,TO,i1,i2] z (λ i h=>IsZip h z TI TO .none/\IsPair h TI (.ref i1) (.ref i2)/\(∃ a b,IsPair h TO a b)/\ItAt b1 h i1 l1 i/\ItAt b2 h i2 l2 i) where
 mem:=by simp
 obj:=λ i h st b hb=>by
  obtain ⟨hz,hTI,⟨a,b',hTO⟩,h1,h2⟩:=st;simp only [mem_cons,not_mem_nil,or_false] at hb;rcases hb with rfl|rfl|rfl|rfl|rfl
  ·exact ⟨_,hz,λ v z=>by cases z⟩
  ·exact ⟨_,hTI,λ v z=>by cases z⟩
  ·exact ⟨_,hTO,λ v z=>by cases z⟩
  ·exact h1.obj
  ·exact h2.obj
 keep:=λ i h h' st k=>by
  obtain ⟨hz,hTI,⟨a,b',hTO⟩,h1,h2⟩:=st;exact ⟨k z (by simp) _ hz,k TI (by simp) _ hTI,⟨a,b',k TO (by simp) _ hTO⟩,h1.at' λ o e=>k i1 (by simp) o e,h2.at' λ o e=>k i2 (by simp) o e⟩
 item:=by
  intro X hP hw hK hc i pins s σ H E I hf st hg;subst hP hw hK;obtain ⟨hz,hTI,⟨a,b',hTO⟩,h1,h2⟩:=st;obtain ⟨xs,ys,x,y,q1,q2,hx,hy⟩:=hg;obtain ⟨its1,r1,p1⟩:=I.sqB q1;obtain ⟨its2,r2,p2⟩:=I.sqB q2;obtain ⟨u1,hu1,ru1⟩:=r1.get hx;obtain ⟨u2,hu2,ru2⟩:=r2.get hy;have hT:s.TypeIs (.ref z) "zip":=⟨_,hz,rfl⟩;unfold pyNext;refine wpAny_bind (wpAny_attempt (wpAny_callSpecial?_slot (name:=Str.ofString "__next__") hT F.slot_zip_next (wpAny_call_entry F.slot_zip_next hT F.entry_zip_next
   (zdz D hz hTI hTO h1 h2 p1 p2 (x:=u1) (y:=u2) (by simpa using hu1) (by simpa using hu2) λ h' a1 a2 a3 a4 a5 a6 hk=>wpAny_pure ?_) (F.args_zip_next_1 _))))
  refine ⟨_,rfl,?_⟩;have I1:Inv X pins σ (upd H s.heap.objs.size (.tup [x,y])) { s with heap:=h' }:=I.turnNew (t':=s.toks) hf (Nat.le_refl _) (λ b o hb q=>hk b o (λ z=>hb (by simp [z])) (λ z=>hb (by simp [z])) (λ z=>hb (by simp [z])) (λ z=>hb (by simp [z])) q)
   ⟨by show 2<=sizeLine;decide,[u1,u2],.cons ru1 (.cons ru2 .nil),⟨_,a5,rfl,_,rfl⟩⟩
  have hn:H s.heap.objs.size=none:=I.hok.fresh (Nat.le_refl _);have ne:∀ b∈[z,TI,TO,i1,i2],b≠s.heap.objs.size:=λ b hb=>by
   have:∃ o,s.heap.get? b=some o:=by
    simp only [mem_cons,not_mem_nil,or_false] at hb;rcases hb with rfl|rfl|rfl|rfl|rfl
    ·exact ⟨_,hz⟩
    ·exact ⟨_,hTI⟩
    ·exact ⟨_,hTO⟩
    ·exact let ⟨o,e,_⟩:=h1.obj;⟨o,e⟩
    ·exact let ⟨o,e,_⟩:=h2.obj;⟨o,e⟩
   obtain ⟨o,e⟩:=this;exact Nat.ne_of_lt (Heap.lt_size e)
  have fr:∀ b∈[z,TI,TO,i1,i2],(upd H s.heap.objs.size (.tup [x,y])) b=none:=λ b hb=>by rw [upd_ne (ne b hb)];exact (hf b hb).1
  have hTI':IsPair h' TI (.ref i1) (.ref i2):=hk _ _ D.TIz D.TITO D.TIi1 D.TIi2 hTI;refine wpAny_letOwnedTupleGo_zip a1 λ h'' hz'' hs''=>?_;refine ⟨.ref s.heap.objs.size,_,I1.turnL (t':=s.toks) (ch:=[z]) (λ b hb=>?_) (λ b o hb q=>(hs''.2 b (λ z=>hb (by simp [z]))).trans q),rfl,
   ⟨s.heap.objs.size,x,y,hn,rfl,λ zs hy=>by rw [I.sqB_inj hy q1];exact hx,λ zs hz=>by rw [I.sqB_inj hz q2];exact hy,rfl⟩,
   ⟨hz'',hs''.extBut _ _ D.TIz hTI',⟨_,_,hs''.extBut _ _ D.TOz a2⟩,a3.at' λ o e=>hs''.extBut _ _ D.i1z e,a4.at' λ o e=>hs''.extBut _ _ D.i2z e⟩,fr⟩
  obtain rfl:b=z:=by simpa using hb
  exact ⟨fr b (by simp),(hf b (by simp)).2⟩
 done:=by
  intro X hP hw hK hc i pins s σ H E I hf st hg;subst hP hw hK;obtain ⟨hz,hTI,⟨a,b',hTO⟩,h1,h2⟩:=st;obtain ⟨xs,ys,q1,q2,hx⟩:=hg;obtain ⟨its1,r1,p1⟩:=I.sqB q1;obtain ⟨its2,r2,p2⟩:=I.sqB q2;have e1:=r1.length;have e2:=r2.length;have hT:s.TypeIs (.ref z) "zip":=⟨_,hz,rfl⟩;have hend:its1.toArray[i]?=none\/its2.toArray[i]?=none:=by
   rcases hx with h|h
   ·exact .inl (by simp;omega)
   ·exact .inr (by simp;omega)
  unfold pyNext;refine wpAny_bind (wpAny_attempt (wpAny_callSpecial?_slot (name:=Str.ofString "__next__") hT F.slot_zip_next
   (wpAny_call_entry F.slot_zip_next hT F.entry_zip_next (zeZ (I.ok.hd hc) D hz hTI hTO h1 h2 p1 p2 hend λ h' e hk he=>?_) (F.args_zip_next_1 _))))
  obtain ⟨o,ho,hcl⟩:=he;refine wpAny_bind (wpAny_isInstance (T:="StopIteration") (b:=true) ⟨o,ho,hcl⟩ isSubtype_stop ?_);exact wpAny_pure ⟨rfl,I.turnL (t':=s.toks) hf λ b o hb q=>hk b o (λ z=>hb (by simp [z])) (λ z=>hb (by simp [z])) (λ z=>hb (by simp [z])) (λ z=>hb (by simp [z])) q⟩
 self:=λ _ _ _ _ _ st h=>wpAny_pyIter_zip st.1 h
theorem zcx (n l1 l2:Nat) (h1:l1 < n) (h2:l2 < n):ZipApart (n + 4) (n + 2) (n + 3) n (n + 1) l1 l2:=by
 constructor <;> (show (_:Nat)≠_) <;> omega
def iZip (X:Cx) (ta:TA):TI:=λ σ H R=>X.mg "zip"=none/\ta σ H λ vs H1=>∃ b1 b2 l1 l2 xs ys,vs=[.ref l1,.ref l2]/\SqB b1 X.K H1 l1 xs/\SqB b2 X.K H1 l2 ys/\R (Itz X.K b1 b2 l1 l2) H1
theorem zgk {X:Cx} {a b:Expr} {elts:List Expr} {x1} {tp p pos:Pos} {ta:TA} (ha:PA X [a,b] ta) (hg:Gl X "zip":=by rfl)
  (hs:starEach [a,b] X.env=(false,eval a X.env) :: starEach [b] X.env:=by rfl) (hpl:(backTo pos (starEach [b] X.env)).any (·.1)=false:=by rfl) :
  PI X (.Tuple elts x1 tp) (.Call (.Name "zip" p) [a,b] [] pos) (iZip X ta):=by
 intro pins s σ H R I h;refine wpAny_Call_Name_kw (wS I hg h.1 zgO ?_);refine PyProof.Rows.callWith_type1 (vz (ha pos pins s σ H _ I h.2) λ us s1 vs H1 I1 r1 q1=>?_) hs hpl;obtain ⟨b1,b2,l1,l2,xs,ys,rfl,q1,q2,hR⟩:=q1;obtain ⟨u1,u2,rfl,rx,ry⟩:=zfQ r1;cases rx;cases ry;obtain ⟨its1,rv1,p1⟩:=I1.sqB q1;obtain ⟨its2,rv2,p2⟩:=I1.sqB q2;obtain ⟨o1,e1,_⟩:=SqB.there I1 q1;obtain ⟨o2,e2,_⟩:=SqB.there I1 q2;have n1:=Heap.lt_size e1;have n2:=Heap.lt_size e2;refine zeL p1 p2 λ h' hz hTI hTO h1 h2 hsz hk=>wpAny_pyIter_zip hz ?_;refine ⟨s1.heap.objs.size + 4,[s1.heap.objs.size + 4,s1.heap.objs.size + 2,s1.heap.objs.size + 3,s1.heap.objs.size,s1.heap.objs.size + 1],_,_,H1,rfl,I1.kept (t':=s1.toks) hk,
  zdC _ _ _ _ _ l1 l2 (zcx _ _ _ n1 n2),⟨hz,hTI,⟨_,_,hTO⟩,h1,h2⟩,λ b hb=>?_,hR⟩
 have ge:s1.heap.objs.size<=b:=by
  simp only [mem_cons,not_mem_nil,or_false] at hb;rcases hb with rfl|rfl|rfl|rfl|rfl
  ·exact Nat.le_add_right _ _
  ·exact Nat.le_add_right _ _
  ·exact Nat.le_add_right _ _
  ·exact Nat.le_refl _
  ·exact Nat.le_add_right _ _
 exact I1.fpOk ge (I1.hok.fresh ge)
section
variable {K:PySem.W.Frag} {σ:St} {H:Hp}
theorem zeD {a:Addr} {xs:List V} {DN:St->Hp->Prop} {B:(St->Hp->Prop)->V->St->Hp->Prop} (Pv:Nat->St->Hp->Prop) (h0:Pv 0 σ H) (hl:∀ i σ H,i<=xs.length->Pv i σ H->SqL K H a xs)
  (hs:∀ i x t σ H,xs[i]?=some x->H t=none->Pv i σ H->B (Pv (i + 1)) (.ref t) σ (upd H t (.tup [.int i,x]))) (hd:∀ σ H,Pv xs.length σ H->DN σ H) :
  ∃ W:Nat->Nat->St->Hp->Prop,(∃ m,W 0 m σ H)/\∀ i m σ H,W i m σ H ->
   ((Ite K a).stop i H/\DN σ H)\/((Ite K a).go i H/\∃ N:St->Hp->Prop,(∀ σ' H',N σ' H'->∃ m',m' < m/\W (i + 1) m' σ' H')/\∀ x H',(Ite K a).yld i H x H'->B N x σ H'):=by
 refine ⟨λ i m σ H=>m=xs.length - i/\i<=xs.length/\Pv i σ H,⟨xs.length,by simp,Nat.zero_le _,h0⟩,?_⟩;rintro i m σ H ⟨rfl,hi,p⟩;have q:=hl i σ H hi p;by_cases hlt:i < xs.length
 ·refine .inr ⟨⟨xs,xs[i],q,by simp [hlt]⟩,Pv (i + 1),λ σ' H' p'=>⟨xs.length - (i + 1),by omega,rfl,hlt,p'⟩,λ v H' y=>?_⟩;obtain ⟨t,x,ht,rfl,hx,rfl⟩:=y;exact hs i x t σ _ (hx xs q) ht p
 ·have e:i=xs.length:=by omega
  subst e;exact .inl ⟨⟨xs,q,Nat.le_refl _⟩,hd σ H p⟩
theorem zhh {b1 b2:Bool} {a1 a2:Addr} {xs ys:List V} {DN:St->Hp->Prop} {B:(St->Hp->Prop)->V->St->Hp->Prop} (Pv:Nat->St->Hp->Prop) (h0:Pv 0 σ H) (hl:∀ i σ H,i<=min xs.length ys.length->Pv i σ H->SqB b1 K H a1 xs/\SqB b2 K H a2 ys)
  (hs:∀ i x y t σ H,xs[i]?=some x->ys[i]?=some y->H t=none->Pv i σ H->B (Pv (i + 1)) (.ref t) σ (upd H t (.tup [x,y]))) (hd:∀ σ H,Pv (min xs.length ys.length) σ H->DN σ H) :
  ∃ W:Nat->Nat->St->Hp->Prop,(∃ m,W 0 m σ H)/\∀ i m σ H,W i m σ H ->
   ((Itz K b1 b2 a1 a2).stop i H/\DN σ H)\/((Itz K b1 b2 a1 a2).go i H/\∃ N:St->Hp->Prop,(∀ σ' H',N σ' H'->∃ m',m' < m/\W (i + 1) m' σ' H')/\∀ x H',(Itz K b1 b2 a1 a2).yld i H x H'->B N x σ H'):=by
 refine ⟨λ i m σ H=>m=min xs.length ys.length - i/\i<=min xs.length ys.length/\Pv i σ H,⟨min xs.length ys.length,by simp,Nat.zero_le _,h0⟩,?_⟩;rintro i m σ H ⟨rfl,hi,p⟩;obtain ⟨q1,q2⟩:=hl i σ H hi p;by_cases hlt:i < min xs.length ys.length
 ·have l1:i < xs.length:=by omega
  have l2:i < ys.length:=by omega
  refine .inr ⟨⟨xs,ys,xs[i],ys[i],q1,q2,by simp [l1],by simp [l2]⟩,Pv (i + 1),λ σ' H' p'=>⟨min xs.length ys.length - (i + 1),by omega,rfl,hlt,p'⟩,λ v H' y=>?_⟩;obtain ⟨t,x,y,ht,rfl,hx,hy,rfl⟩:=y;exact hs i x y t σ _ (hx xs q1) (hy ys q2) ht p
 ·have e:i=min xs.length ys.length:=by omega
  subst e;exact .inl ⟨⟨xs,ys,q1,q2,by omega⟩,hd σ H p⟩
end
section
variable {X:Cx} {N:List Str} {scope:Scope} {s:Shared} {H:Hp} {fp:List Addr} {pins:List (Addr × Obj)}
theorem cxC_K:(cxC X N scope s H fp pins).K=X.K:=rfl
theorem cxC_mg:(cxC X N scope s H fp pins).mg=X.mg:=rfl
theorem cxC_prog:(cxC X N scope s H fp pins).prog=X.prog:=rfl
theorem cxC_w:(cxC X N scope s H fp pins).w=X.w:=rfl
theorem cxC_base:(cxC X N scope s H fp pins).base=X.base:=rfl
end
end L2
namespace L2
open PySem PySem.Spec PySem.Calls PyProof.Rows
structure BCal (P:Program) (w:World) (K:PySem.W.Frag) (mg:Str->Option Value) (base:Heap) (x m:Str) (k:Nat) (ps:List Str) (dvs:List V) (sp:Sp):Prop where
 ex:∃ C f fd ds,mg x=some (.ref C)/\PySem.W.specialIn K (.ref C) "__getattribute__"=some (some (.builtin "type.__getattribute__"))/\readsIn K C (.type "type")=true /\
  findCls K (.ref C) (.type "type") m=some (.val (.ref f))/\PySem.W.handedIn (.ref f)=true/\FnOk P w K mg base (CXr P w) k f fd ps sp/\PySem.W.keepIn K (.ref f)=true/\Binds K fd ps ds/\Vals dvs ds
theorem BCal.mono {P:Program} {w:World} {K:PySem.W.Frag} {mg:Str->Option Value} {base:Heap} {x m:Str} {j k:Nat} {ps:List Str} {dvs:List V} {sp:Sp} (c:BCal P w K mg base x m j ps dvs sp) (h:j<=k:=by decide):BCal P w K mg base x m k ps dvs sp:=by
 obtain ⟨C,f,fd,ds,a,b,c,d,e,g,r⟩:=c.ex;exact ⟨C,f,fd,ds,a,b,c,d,e,g.mono h,r⟩
section
variable {X:Cx} {G:GK} {k:Nat} {x m:Str} {p pos apos:Pos} {e:Expr} {es:List Expr} {t:TA}
def tBase (X:Cx) (k:Nat) (x m:Str) (G:GK) (t:TA):TE:=λ σ H Q=>∃ ps dvs sp,BCal X.prog X.w X.K X.mg X.base x m k ps dvs sp/\t σ H λ vs H1=>sp (vs ++ dvs) H1 Q (λ cls _ H'=>G cls σ H')
theorem vp {pl:Sem Bool} (B:Bod X) (hr:Room k X.A) (ha:PA (X.exg G) (e :: es) t) (hg:Gl X x:=by rfl) (hdb:(x == ("__debug__":Str))=false:=by decide)
  (hst:starEach (e :: es) X.env=(false,eval e X.env) :: starEach es X.env:=by rfl) (hpl:(backTo pos (starEach es X.env)).any (·.1)=false:=by rfl)
  (ht:eval (.Call (.Attribute (.Name x p) m apos) (e :: es) [] pos) X.env=(do
   let ov <- eval (.Name x p) X.env
   standAt apos.atName
   let (f,first) <- holding [ov] (getMethod ov m pl)
   callWith pos f first (backTo pos (starEach (e :: es) X.env)) (backToKw pos (keywordEach [] X.env))):=by rfl) :
  PE (X.exg G) (.Call (.Attribute (.Name x p) m apos) (e :: es) [] pos) (tBase X k x m G t):=by
 intro pins s σ H Q I h;obtain ⟨ps,dvs,sp,⟨C,f,fd,ds,hm,hga,hrd,hfc,hhd,F,hk,hb,hd⟩,h⟩:=h;refine methodCall_KW (pl:=pl) (xa I hg hm ?_ hdb) ht;refine PySem.W.method_cls I.kIn hga (PySem.W.cls_value I.kIn hrd hfc hhd ?_);have I0:=I.tok (s.toks + 1);refine callWith_K (first:=[]) (h₀:=X.base) I.ok.mod.kin hk (vz (ha pos pins _ σ H _ I0 h) λ us s1 vs H1 I1 r q=>⟨I1.kIn,?_⟩) hst hpl;exact Q9 B F hr hb hd I1 r q
end
structure FB (K:PySem.W.Frag) (mg:Str->Option Value) (x m qual:Str) (st:Stmt) (ps:List Str):Prop where
 ex:∃ C f fd,mg x=some (.ref C)/\PySem.W.specialIn K (.ref C) "__getattribute__"=some (some (.builtin "type.__getattribute__"))/\readsIn K C (.type "type")=true /\
  findCls K (.ref C) (.type "type") m=some (.val (.ref f))/\Fun K m qual st f fd/\PySem.W.keepIn K (.ref f)=true/\Binds K fd ps []
theorem FB.cal {P:Program} {w:World} {K:PySem.W.Frag} {mg:Str->Option Value} {base:Heap} {x m qual:Str} {st:Stmt} {ps:List Str} {k:Nat} {sp:Sp} (h:FB K mg x m qual st ps)
  (ok:∀ {f fd},Fun K m qual st f fd->FnOk P w K mg base (CXr P w) k f fd ps sp):BCal P w K mg base x m k ps [] sp:=by
 obtain ⟨C,f,fd,a,b,c,d,F,kp,bi⟩:=h.ex;exact ⟨C,f,fd,[],a,b,c,d,rfl,ok F,kp,bi,.nil⟩
theorem zhm {K:PySem.W.Frag} {mg:Str->Option Value} {C:Addr} {x m qual:Str} {st:Stmt} {ps:List Str} {f:Addr} {oc:Value} {od an:Option Addr} {osl:Array (Option Value)} {kV doc pm cdv ct:Value} (gl:mg x=some (.ref C))
  (ga:PySem.W.specialIn K (.ref C) "__getattribute__"=some (some (.builtin "type.__getattribute__"))) (rd:readsIn K C (.type "type")=true) (fc:findCls K (.ref C) (.type "type") m=some (.val (.ref f)))
  (l:K.lookup f=some ⟨oc,od,.func (PySem.W.fnOf m qual (zM st) (zF st) (ze st) .none kV doc pm an cdv ct),osl⟩)
  (c:PySem.W.codeIn K cdv qual=true) (k:PySem.W.keepIn K (.ref f)=true)
  (hb:∀ (kV doc pm:Value) (an:Option Addr) (cdv ct:Value) (us:List Value),us.length=ps.length->bindArgs (PySem.W.fnOf m qual (zM st) (zF st) (ze st) .none kV doc pm an cdv ct) ⟨us,[]⟩=pure (ps.zip us)):FB K mg x m qual st ps :=
 ⟨C,f,_,gl,ga,rd,fc,wn l c k,k,(wn l c k).binds hb⟩
section
variable {X:Cx} {a b:Expr} {ta:TA} {p pos lp lpos:Pos}
def rgL (lo:Int) (n:Nat):List V:=(List.range n).map λ (i:Nat)=>V.int (lo + (i:Int))
theorem zaM {lo:Int} {n:Nat} {acc:Array Value} (h:ItemsOf (λ i v=>∃ t,v=.int (lo + i * 1) t) acc n):Vals (rgL lo n) acc.toList:=by
 have key:∀ (k:Nat) (l:List Value) (m:Nat),l.length=m->(∀ i v,l[i]?=some v->∃ t,v=Value.int (lo + ((k + i:Nat):Int)) t)->Vals ((List.range' k m).map λ (i:Nat)=>V.int (lo + (i:Int))) l:=by
  intro k l
  induction l generalizing k with
  | nil=>intro m hm _;simp at hm;subst hm;exact .nil
  | cons x r ih =>
   intro m hm hv;obtain ⟨m,rfl⟩:∃ m',m=m' + 1:=⟨r.length,by simpa using hm.symm⟩;rw [List.range'_succ,map_cons];refine .cons ?_ (ih (k + 1) m (by simpa using hm) λ i v e=>?_)
   ·obtain ⟨t,e⟩:=hv 0 x rfl;exact ⟨t,by simpa using e⟩
   ·obtain ⟨t,e'⟩:=hv (i + 1) v (by simpa using e);exact ⟨t,by rw [e'];congr 2;omega⟩
 have:=key 0 acc.toList n (by simpa using h.1) λ i v e=>by
  obtain ⟨t,e'⟩:=h.2 i v (by simpa using e);exact ⟨t,by rw [e'];simp⟩
 rw [rgL,List.range_eq_range'];exact this
def tRg1 (X:Cx) (ta:TA):TE:=λ σ H Q=>X.mg "range"=none/\ta σ H λ vs H1=>lq vs λ v=>iq v λ j=>∀ p,H1 p=none->Q (.ref p) (upd H1 p (.rng 0 j))
theorem zgn (ha:PA X [a] ta) (hg:Gl X "range":=by rfl) (hs:starEach [a] X.env=[(false,eval a X.env)]:=by rfl):PE X (.Call (.Name "range" p) [a] [] pos) (tRg1 X ta):=by
 intro pins s σ H Q I h;refine Call_ (wS I hg h.1 boot_range (PyProof.Rows.callWith_type1 (vz (ha pos pins s σ H _ I h.2) λ us s1 vs H1 I1 r1 q1=>?_) hs rfl));obtain ⟨j,e,q⟩:=zgx q1;subst e;cases r1 with
 | cons r rr =>
  cases rr;obtain ⟨t,rfl⟩:=r;exact call_range_1 ⟨.ref _,_,I1.laid (o:=.rng 0 j) (λ b o e=>Heap.get?_push_of_some _ e) (Nat.le_refl _) ⟨_,_,_,Heap.get?_push_size _ rfl⟩,rfl,q _ I1.fresh⟩
theorem za3 {lo:Int} {n:Nat}:(rgL lo n).length=n:=by simp [rgL]
theorem zeQ (hc:X.calm=true):CallR X (.type "list") (λ xs H Q=>∃ p lo hi,xs=[.ref p]/\H p=some (.rng lo hi)/\(-(2 ^ 62)<=lo/\lo < 2 ^ 62/\-(2 ^ 62)<=hi/\hi < 2 ^ 62/\(hi - lo).toNat<=1000)/\∀ l,H l=none->Q (.ref l) (upd H l (.lst (rgL lo (hi - lo).toNat)))):=by
 intro pins s σ H xs us Q I r h;obtain ⟨p,lo,hi,rfl,hq,⟨h1,h2,h3,h4,h5⟩,q⟩:=h;obtain ⟨u,rfl,rx⟩:=Qt r;cases rx;obtain ⟨t,u,v,e⟩:=I.hok p _ hq;refine call_list_range (n:=(hi - lo).toNat) (I.ok.hd hc) e (small_one h1 h2 h3 h4) (by rw [rangeSize_one];split <;> omega) (by omega) λ h' tk acc' c' hk hS hit=>?_;exact ⟨.ref _,_,I.laid (o:=.lst (rgL lo (hi - lo).toNat)) (t':=tk) hk (Nat.le_refl _) ⟨by rw [za3];exact Nat.le_of_lt (zj h5),acc'.toList,c',zaM hit,by simpa using hS⟩,rfl,q _ I.fresh⟩
end
end L2
namespace L2
open PySem PySem.Spec PyProof.Rows
def Itd (lo:Int) (n:Nat):It:=⟨λ i _=>i < n,λ i H x H'=>H'=H/\x=.int (lo - i),λ i _=>n<=i⟩
theorem zcA {P:Program} {w:World} {K:PySem.W.Frag} {tg:Expr} (it:Addr) (lo:Int) (n:Nat):Turn P w K tg (Itd lo n) [it] it (λ i h=>IsRangeIter h it (lo + (i:Nat) * (-1)) ((n:Int) - (i:Nat)) (-1)) where
 mem:=by simp
 obj:=λ i h st b hb=>by
  have e:b=it:=by simpa using hb
  subst e;exact ⟨_,st,λ v z=>by
   have z':Data.fields _=Data.cell v:=z;cases z'⟩
 keep:=λ i h h' st k=>k it (by simp) _ st
 item:=by
  intro X hP hw hK hc i pins s σ H E I hf st hg;subst hP hw hK;obtain ⟨f0,f1,f2,f3,f4,f5⟩:=hf it (by simp);have W:=Walks.range (prog:=X.prog) (w:=X.w) (I.ok.hd hc) it lo (-1) n;refine W.item i s _ _ hg st λ v h' tk hv st' kk=>?_;obtain ⟨t,rfl⟩:=hv;have I1:Inv X pins σ H { s with heap:=h',toks:=tk }:=I.turned (λ b o hb e=>kk b o (by simpa using hb) e) f0 f1 f3 f4 f5;refine ⟨_,rfl,zcd (s:={ s with heap:=h',toks:=tk }) (n:="range_iterator") st' rfl rfl (by decide) ⟨.int (lo - i),H,I1,⟨t,?_⟩,⟨rfl,rfl⟩,st',λ b hb=>(hf b hb).1⟩⟩
  congr 1;omega
 done:=by
  intro X hP hw hK hc i pins s σ H E I hf st hg;subst hP hw hK;obtain ⟨f0,f1,f2,f3,f4,f5⟩:=hf it (by simp);exact wpAny_pyNext_range_end (I.ok.hd hc) st (by have:n<=i:=hg;omega) λ h' eb=>⟨rfl,I.turned (t':=s.toks) (λ b o hb e=>eb b o hb e) f0 f1 f3 f4 f5⟩
 self:=λ _ _ _ _ _ st h=>wpAny_pyIter_rangeiter st h
theorem wK (a b:Int):Builtin.Range.rangeSize a b (-1)=((a - b).toNat:Int):=by
 unfold Builtin.Range.rangeSize;rw [if_neg (by decide),show (- (-1:Int))=1 from rfl,Int.ediv_one]
 split <;> omega
theorem zaQ {a b:Int} (ha:-(2 ^ 62)<=a) (ha':a < 2 ^ 62) (hb:-(2 ^ 62)<=b) (hb':b < 2 ^ 62):Builtin.Range.small a b (-1)=true:=by
 unfold Builtin.Range.small;rw [wK];simp only [Builtin.Range.rangeFitsLong,Bool.and_eq_true,Bool.or_eq_true,decide_eq_true_eq,beq_iff_eq,show ¬ ((-1:Int) > 0) by decide,if_false];omega
section
variable {X:Cx} {tg:Expr}
theorem zfD {pins:List (Addr × Obj)} {σ:St} {H:Hp} {s:Shared} {R:It->Hp->Prop} {E:Value->Shared->Prop} {lo hi:Int} {t u v:Tok} {tk:Nat} (I:Inv X pins σ H s) (h1:-(2 ^ 62)<=lo) (h2:lo < 2 ^ 62) (h3:-(2 ^ 62)<=hi) (h4:hi < 2 ^ 62)
  (q:R (Itd lo (lo - hi).toNat) H):wpAny (model X.prog X.w) X.A (pyIter (.ref s.heap.objs.size)) (PIE X pins σ tg R) E { s with heap:=s.heap.push { cls:=.type "range",data:=.fields #[.int lo t,.int hi u,.int (-1) v] },toks:=tk }:=by
 refine wpAny_pyIter_range (IsRange.new ..) (zaQ h1 h2 h3 h4) ?_;have I1:Inv X pins σ H { s with heap:=s.heap.push { cls:=.type "range",data:=.fields #[.int lo t,.int hi u,.int (-1) v] },toks:=tk }:=I.kept λ b o e=>Heap.get?_push_of_some _ e;refine ⟨(s.heap.push { cls:=.type "range",data:=.fields #[.int lo t,.int hi u,.int (-1) v] }).objs.size,[(s.heap.push { cls:=.type "range",data:=.fields #[.int lo t,.int hi u,.int (-1) v] }).objs.size],_,_,H,rfl,
  I1.kept (t':=tk) λ b o e=>Heap.get?_push_of_some _ e,zcA _ lo (lo - hi).toNat,?_,λ b hb=>?_,q⟩
 ·have e1:lo + ((0:Nat):Int) * (-1)=lo:=by simp
  have e2:(((lo - hi).toNat:Nat):Int) - ((0:Nat):Int)=Builtin.Range.rangeSize lo hi (-1):=by rw [wK];omega
  show IsRangeIter _ _ (lo + ((0:Nat):Int) * (-1)) ((((lo - hi).toNat:Nat):Int) - ((0:Nat):Int)) (-1)
  rw [e1,e2];exact Heap.get?_push_size _ rfl
 ·have e:b=(s.heap.push { cls:=.type "range",data:=.fields #[.int lo t,.int hi u,.int (-1) v] }).objs.size:=by simpa using hb
  subst e;exact I1.fpOk (Nat.le_refl _) (I1.hok.fresh (Nat.le_refl _))
def iRng3 (X:Cx) (ta:TA):TI:=λ σ H R=>X.mg "range"=none/\ta σ H λ vs H1=>∃ i j:Int,vs=[.int i,.int j,.int (-1)]/\(-1000<=i/\i < 1000/\-1000<=j/\j < 1000)/\R (Itd i (i - j).toNat) H1
theorem zgl {a b c:Expr} {ta:TA} {p pos:Pos} (ha:PA X [a,b,c] ta) (hg:Gl X "range":=by rfl) (hs:starEach [a,b,c] X.env=[(false,eval a X.env),(false,eval b X.env),(false,eval c X.env)]:=by rfl) (hs2:starEach [b,c] X.env=[(false,eval b X.env),(false,eval c X.env)]:=by rfl) :
  PI X tg (.Call (.Name "range" p) [a,b,c] [] pos) (iRng3 X ta):=by
 intro pins s σ H R I h;refine Call_ (wS I hg h.1 boot_range (PyProof.Rows.callWith_type1 (vz (ha pos pins s σ H _ I h.2) λ us s1 vs H1 I1 r1 q1=>?_) (by rw [hs,hs2]) (by rw [hs2];rfl)));obtain ⟨i,j,e,⟨q1,q2,q3,q4⟩,q⟩:=q1;subst e;cases r1 with
 | cons r rr =>
  cases rr with
  | cons r' rr =>
   cases rr with
   | cons r'' rr =>
    cases rr;obtain ⟨t,rfl⟩:=r;obtain ⟨t',rfl⟩:=r';obtain ⟨t'',rfl⟩:=r'';exact call_range_3 (by decide) (zfD I1 (by omega) (by omega) (by omega) (by omega) q) (Or.inl (PyProof.noPylong_small (by omega)))
theorem zhj {K:PySem.W.Frag} {σ:St} {H:Hp} {lo:Int} {n:Nat} {DN:St->Hp->Prop} {B:(St->Hp->Prop)->V->St->Hp->Prop} (Pv:Nat->St->Hp->Prop) (h0:Pv 0 σ H)
  (hs:∀ i σ H,i < n->Pv i σ H->B (Pv (i + 1)) (.int (lo - i)) σ H) (hd:∀ σ H,Pv n σ H->DN σ H) :
  ∃ W:Nat->Nat->St->Hp->Prop,(∃ m,W 0 m σ H)/\∀ i m σ H,W i m σ H ->
   ((Itd lo n).stop i H/\DN σ H)\/((Itd lo n).go i H/\∃ N:St->Hp->Prop,(∀ σ' H',N σ' H'->∃ m',m' < m/\W (i + 1) m' σ' H')/\∀ x H',(Itd lo n).yld i H x H'->B N x σ H'):=by
 refine ⟨λ i m σ H=>m=n - i/\i<=n/\Pv i σ H,⟨n,by simp,Nat.zero_le _,h0⟩,?_⟩;rintro i m σ H ⟨rfl,hi,p⟩;by_cases hlt:i < n
 ·refine .inr ⟨hlt,Pv (i + 1),λ σ' H' p'=>⟨n - (i + 1),by omega,rfl,hlt,p'⟩,λ x H' y=>?_⟩;obtain ⟨e,y⟩:=y;subst e y;exact hs i σ _ hlt p
 ·have e:i=n:=by omega
  subst e;exact .inl ⟨Nat.le_refl _,hd σ H p⟩
end
end L2
namespace L2
open PySem PySem.Spec PyProof.Rows
section
variable {X:Cx} {tg:Expr}
end
end L2
namespace L2
open PySem PySem.Spec PySem.Calls PyProof.Rows
theorem Zj:∀ {us:List Value} {ns:List Int},IntsAre us ns->Vals (ns.map V.int) us
 | _,_,.nil=>.nil
 | _,_,.cons n t h=>.cons ⟨t,rfl⟩ (Zj h)
section
variable {X:Cx}
theorem zdw:CallR X (.builtin "sorted") (λ xs H Q=>∃ p,∃ ns:List Int,xs=[.ref p]/\SqL X.K H p (ns.map V.int)/\ns.length < 64 /\
  ∀ (ms:List Int) l,ms.Perm ns->ms.Pairwise (·<=·)->H l=none->Q (.ref l) (upd H l (.lst (ms.map V.int)))):=by
 intro pins s σ H xs us Q I r h;obtain ⟨p,ns,rfl,hp,h64,q⟩:=h;obtain ⟨u,rfl,rx⟩:=Qt r;cases rx;obtain ⟨its,rv,hl,hz⟩:=I.list hp;have hlen:its.length=ns.length:=by have:=rv.length;rw [length_map] at this;exact this.symm
 refine sorted_ints hl.isList (zbA rv) (by omega) λ out ms a1 a2 a3=>?_;obtain ⟨e,he⟩:=sortedAll_at s.heap its out;exact ⟨.ref _,_,I.laid (a:=s.heap.objs.size + 1) (o:=.lst (ms.map V.int)) (t':=s.toks) (λ b o h=>sortedAll_old h) (Nat.le_succ _) ⟨by rw [length_map,a2.length_eq];exact Nat.le_of_lt (zj (by omega)),out.toList,e,Zj a1,by simpa using he⟩,rfl,q ms _ a2 a3 (I.hok.fresh (Nat.le_succ _))⟩
end
structure FunD (K:PySem.W.Frag) (x qual:Str) (st:Stmt) (f:Addr) (fd:FuncData):Prop where
 ex:∃ (oc:Value) (od:Option Addr) (dV kV doc pm:Value) (an:Option Addr) (cdv ct:Value) (osl:Array (Option Value)),
  fd=PySem.W.fnOf x qual (zM st) (zF st) (ze st) dV kV doc pm an cdv ct/\K.lookup f=some ⟨oc,od,.func fd,osl⟩/\PySem.W.codeIn K cdv qual=true
 kp:PySem.W.keepIn K (.ref f)=true
section
variable {P:Program} {w:World} {K:PySem.W.Frag} {mg:Str->Option Value} {base:Heap}
theorem FunD.okx {x qual:Str} {st:Stmt} {f:Addr} {fd:FuncData} {N ps:List Str} {k:Nat} {sp:Sp} (F:FunD K x qual st f fd) (S:FnScope N ps (ze st)) (len:∀ vs H Q E,sp vs H Q E->vs.length=ps.length)
  (hbody:∀ (cdv:Value) (A:Around) (outer:List Env) (s:Shared) (H:Hp) (vs:List V) (Q:VK) (E:XK),Room k (A.deeper (envOfC qual (ze st) s.heap.objs.size f cdv))->sp vs H Q E ->
   ∃ t,PSs ((cxR P w K mg base N qual (ze st) f cdv A outer s H E).exg λ cls _ H'=>E cls none H') (zF st) t/\t { nx:=λ _ H'=>Q .non H',rt:=Q } (start N vs) H):FnOk P w K mg base (CXr P w) (k + 1) f fd ps sp:=by
 obtain ⟨oc,od,dV,kV,doc,pm,an,cdv,ct,osl,rfl,lk,hcd⟩:=F.ex;refine zeE lk hcd S len λ A outer s H vs Q E hr hsp=>?_;obtain ⟨t,h,q⟩:=hbody cdv A outer s H vs Q E hr hsp;refine ⟨t,λ pins s σ H' D I hw=>?_,q⟩;refine wpAny_mono (h pins s σ H' D (I.wish _) hw) (λ _ _ z=>z.unwish) λ e s' z=>?_;refine wpAny_bind (wpAny_mono (show wpAny _ _ _ _ _ _ from z) (λ _ s1 y1=>wpAny_mono y1 (λ _ s'' y=>?_) λ _ _ y=>y.elim) λ _ _ y=>y.elim);obtain ⟨a,cls,σ2,H2,rfl,J,xx,g⟩:=y;exact ⟨a,cls,H2,rfl,J.os,J.bare,J.base,J.hok,xx.less (λ p hp=>absurd hp (by simp)),g⟩
structure FD (K:PySem.W.Frag) (mg:Str->Option Value) (x:Str) (st:Stmt) (ps:List Str) (dvs:List V):Prop where
 ex:∃ f fd ds,FunD K x x st f fd/\mg x=some (.ref f)/\Binds K fd ps []/\Binds K fd ps ds/\Vals dvs ds
theorem FD.cal {x:Str} {st:Stmt} {ps:List Str} {dvs:List V} {k:Nat} {sp:Sp} (h:FD K mg x st ps dvs) (ok:∀ {f fd},FunD K x x st f fd->FnOk P w K mg base (CXr P w) k f fd ps sp) :
  Cal P w K mg base x k ps [] sp:=by
 obtain ⟨f,fd,_,F,m,b,_⟩:=h.ex;exact ⟨f,fd,[],ok F,m,F.kp,b,.nil⟩
theorem FD.cald {x:Str} {st:Stmt} {ps:List Str} {dvs:List V} {k:Nat} {sp:Sp} (h:FD K mg x st ps dvs) (ok:∀ {f fd},FunD K x x st f fd->FnOk P w K mg base (CXr P w) k f fd ps sp) :
  Cal P w K mg base x k ps dvs sp:=by
 obtain ⟨f,fd,ds,F,m,_,b,v⟩:=h.ex;exact ⟨f,fd,ds,ok F,m,F.kp,b,v⟩
theorem zf2 {h:Heap} {x:Str} {st:Stmt} {ps:List Str} {dvs:List V} {f dT:Addr} {oc toc:Value} {od an tod:Option Addr} {osl tsl:Array (Option Value)} {items:Array Value} {tn:Nat} {kV doc pm cdv ct:Value} (X:K.In h) (G:h.Ns mainGlobals mg)
  (a:PySem.W.nsIn K mainGlobals x=some (some (.ref f))) (l:K.lookup f=some ⟨oc,od,.func (PySem.W.fnOf x x (zM st) (zF st) (ze st) (.ref dT) kV doc pm an cdv ct),osl⟩)
  (c:PySem.W.codeIn K cdv x=true) (k:PySem.W.keepIn K (.ref f)=true) (lt:K.lookup dT=some ⟨toc,tod,.seq items tn,tsl⟩) (hv:Vals dvs items.toList)
  (hb:∀ (s:Shared) (us:List Value),K.In s.heap->us.length=ps.length->BindsTo s (PySem.W.fnOf x x (zM st) (zF st) (ze st) (.ref dT) kV doc pm an cdv ct) ⟨us,[]⟩ (ps.zip us))
  (hd:∀ (s:Shared) (us:List Value),K.In s.heap->(us ++ items.toList).length=ps.length->BindsTo s (PySem.W.fnOf x x (zM st) (zF st) (ze st) (.ref dT) kV doc pm an cdv ct) ⟨us,[]⟩ (ps.zip (us ++ items.toList))):FD K mg x st ps dvs :=
 ⟨f,_,items.toList,⟨⟨oc,od,.ref dT,kV,doc,pm,an,cdv,ct,osl,rfl,l,c⟩,k⟩,mg_of X G a,(λ s us hK hl=>by rw [append_nil] at hl ⊢;exact hb s us hK hl),hd,hv⟩
end
end L2
namespace L2
open PySem PySem.Spec PySem.Calls PyProof.Rows
section
variable {prog:Program} {w:World} {A:Around} {E:Value->Shared->Prop} {s:Shared} {R:Result->Shared->Prop}
end
section
variable {X:Cx} {a:Expr} {ta:TA} {p p2 pos pos2:Pos}
end
section
variable {X:Cx}
end
end L2
namespace L2
open PySem PySem.Spec PyProof.Rows
inductive D where
 | non|bl (b:Bool)|int (i:Int)|str (x:Str)|lst (xs:List D)|tup (xs:List D)|ob (C:Addr) (fs:List (Str × D))
inductive Rep (H:Hp) (p:Addr->Prop):V->D->Prop where
 | non:Rep H p .non .non
 | bl {b:Bool}:Rep H p (.bl b) (.bl b)
 | int {i:Int}:Rep H p (.int i) (.int i)
 | str {x:Str}:Rep H p (.str x) (.str x)
 | lst {l:Addr} {vs:List V} {ds:List D}:p l->H l=some (.lst vs)->vs.length=ds.length->(∀ (i:Nat) v d,vs[i]?=some v->ds[i]?=some d->Rep H p v d)->Rep H p (.ref l) (.lst ds)
 | tup {l:Addr} {vs:List V} {ds:List D}:p l->H l=some (.tup vs)->vs.length=ds.length->(∀ (i:Nat) v d,vs[i]?=some v->ds[i]?=some d->Rep H p v d)->Rep H p (.ref l) (.tup ds)
 | ob {l C dx:Addr} {fs:List (Str × V)} {ds:List (Str × D)}:p l->H l=some (.ins C dx fs)->fs.map (·.1)=ds.map (·.1)->(∀ (i:Nat) f g,fs[i]?=some f->ds[i]?=some g->Rep H p f.2 g.2)->Rep H p (.ref l) (.ob C ds)
theorem Rep.keep {H H':Hp} {p q:Addr->Prop} (s:∀ b o,p b->H b=some o->q b/\H' b=some o) {v:V} {d:D} (h:Rep H p v d):Rep H' q v d:=by
 induction h with
 | non=>exact .non
 | bl=>exact .bl
 | int=>exact .int
 | str=>exact .str
 | lst pl hl e _ ih=>exact .lst (s _ _ pl hl).1 (s _ _ pl hl).2 e ih
 | tup pl hl e _ ih=>exact .tup (s _ _ pl hl).1 (s _ _ pl hl).2 e ih
 | ob pl hl e _ ih=>exact .ob (s _ _ pl hl).1 (s _ _ pl hl).2 e ih
structure Reps (H:Hp) (p:Addr->Prop) (vs:List V) (ds:List D):Prop where
 len:vs.length=ds.length
 g:∀ (i:Nat) v d,vs[i]?=some v->ds[i]?=some d->Rep H p v d
section
variable {H H':Hp} {p q:Addr->Prop} {vs us:List V} {ds es:List D} {v:V} {d:D}
theorem Reps.keep (s:∀ b o,p b->H b=some o->q b/\H' b=some o) (h:Reps H p vs ds):Reps H' q vs ds:=⟨h.len,λ i v d a b=>(h.g i v d a b).keep s⟩
theorem Reps.nil:Reps H p [] []:=⟨rfl,λ i v d h=>by simp at h⟩
theorem Reps.cons (h:Rep H p v d) (k:Reps H p vs ds):Reps H p (v :: vs) (d :: ds):=⟨by simp [k.len],λ i u e a b=>by
 cases i with
 | zero =>
  have a:v=u:=by simpa using a
  have b:d=e:=by simpa using b
  rw [<- a,<- b];exact h
 | succ i=>exact k.g i u e (by simpa using a) (by simpa using b)⟩
theorem Reps.one (h:Rep H p v d):Reps H p [v] [d]:=.cons h .nil
theorem Reps.append (h:Reps H p vs ds) (k:Reps H p us es):Reps H p (vs ++ us) (ds ++ es):=by
 refine ⟨by rw [length_append,length_append,h.len,k.len],λ i v r e1 e2=>?_⟩;by_cases hi:i < vs.length
 ·rw [getElem?_append_left hi] at e1;rw [getElem?_append_left (by rw [<- h.len];exact hi)] at e2;exact h.g i v r e1 e2
 ·rw [getElem?_append_right (by omega)] at e1;rw [getElem?_append_right (by rw [<- h.len];omega),<- h.len] at e2;exact k.g _ v r e1 e2
theorem Reps.at (h:Reps H p vs ds) {i:Nat} (e:vs[i]?=some v):∃ d,ds[i]?=some d/\Rep H p v d:=by
 have hi:=(List.getElem?_eq_some_iff.mp e).1;have e2:ds[i]?=some (ds[i]'(by rw [<- h.len];exact hi)):=getElem?_eq_getElem _;exact ⟨_,e2,h.g i v _ e e2⟩
theorem Reps.of (h:Reps H p vs ds) {i:Nat} (e:ds[i]?=some d):∃ v,vs[i]?=some v/\Rep H p v d:=by
 have hi:=(List.getElem?_eq_some_iff.mp e).1;have e2:vs[i]?=some (vs[i]'(by rw [h.len];exact hi)):=getElem?_eq_getElem _;exact ⟨_,e2,h.g i _ d e2 e⟩
theorem Reps.take (h:Reps H p vs ds) (n:Nat):Reps H p (vs.take n) (ds.take n):=⟨by rw [length_take,length_take,h.len],λ i v d a b=>by
 rw [List.getElem?_take] at a b;by_cases hn:i < n
 ·rw [if_pos hn] at a b;exact h.g i v d a b
 ·rw [if_neg hn] at a;cases a⟩
theorem Reps.drop (h:Reps H p vs ds) (n:Nat):Reps H p (vs.drop n) (ds.drop n):=⟨by rw [length_drop,length_drop,h.len],λ i v d a b=>by
 rw [List.getElem?_drop] at a b;exact h.g _ v d a b⟩
theorem Reps.mk' {l:Addr} (h:Reps H p vs ds) (pl:p l) (e:H l=some (.lst vs)):Rep H p (.ref l) (.lst ds):=.lst pl e h.len h.g
theorem Reps.mkT {l:Addr} (h:Reps H p vs ds) (pl:p l) (e:H l=some (.tup vs)):Rep H p (.ref l) (.tup ds):=.tup pl e h.len h.g
theorem Rep.lst' (h:Rep H p v (.lst ds)):∃ l us,v=.ref l/\p l/\H l=some (.lst us)/\Reps H p us ds:=by
 cases h with|lst a b c e=>exact ⟨_,_,rfl,a,b,c,e⟩
theorem Rep.tup' (h:Rep H p v (.tup ds)):∃ l us,v=.ref l/\p l/\H l=some (.tup us)/\Reps H p us ds:=by
 cases h with|tup a b c e=>exact ⟨_,_,rfl,a,b,c,e⟩
theorem Zb {f:Str}:∀ {fs:List (Str × V)} {gs:List (Str × D)},fs.map (·.1)=gs.map (·.1)->(∀ (i:Nat) x y,fs[i]?=some x->gs[i]?=some y->Rep H p x.2 y.2) ->
  (∀ d,gs.lookup f=some d->∃ u,fs.lookup f=some u/\Rep H p u d)/\(gs.lookup f=none->fs.lookup f=none)
 | [],[],_,_=>⟨λ d h=>by simp at h,λ _=>rfl⟩
 | [],_ :: _,e,_=>by simp at e
 | _ :: _,[],e,_=>by simp at e
 | (a,u) :: fs,(b,c) :: gs,e,r=>by
  have e1:a=b:=by simpa using (List.cons.inj e).1
  subst e1;have ih:=Zb (f:=f) (fs:=fs) (gs:=gs) (List.cons.inj e).2 λ i x y hx hy=>r (i + 1) x y (by simpa using hx) (by simpa using hy);by_cases hf:f=a
  ·have hb:(f == a)=true:=beq_iff_eq.mpr hf;refine ⟨λ d h=>?_,λ h=>?_⟩
   ·simp only [List.lookup,hb] at h ⊢;cases h;exact ⟨_,rfl,r 0 (a,u) (a,c) rfl rfl⟩
   ·simp only [List.lookup,hb] at h;cases h
  ·have hb:(f == a)=false:=beq_eq_false_iff_ne.mpr hf;simp only [List.lookup,hb];exact ih
theorem Rep.ob' {C:Addr} {gs:List (Str × D)} (h:Rep H p v (.ob C gs)):∃ l dx fs,v=.ref l/\p l/\H l=some (.ins C dx fs)/\(∀ f d,gs.lookup f=some d->∃ u,fs.lookup f=some u/\Rep H p u d)/\(∀ f,gs.lookup f=none->fs.lookup f=none):=by
 cases h with|ob a b c e=>exact ⟨_,_,_,rfl,a,b,λ f=>(Zb c e).1,λ f=>(Zb c e).2⟩
abbrev D.ints (ns:List Int):D:=.lst (ns.map D.int)
theorem reps_ints:∀ {ns:List Int},Reps H p (ns.map V.int) (ns.map D.int)
 | []=>.nil
 | _ :: _=>.cons .int reps_ints
theorem Jg:∀ {ns:List Int} {vs:List V},Reps H p vs (ns.map D.int)->vs=ns.map V.int
 | [],[],_=>rfl
 | [],_ :: _,h=>by have:=h.len;simp at this
 | _ :: _,[],h=>by have:=h.len;simp at this
 | n :: ns,v :: vs,h=>by
  have h1:=h.g 0 v (.int n) rfl rfl;have h2:Reps H p vs (ns.map D.int):=⟨by have:=h.len;simpa using this,λ i u d a b=>h.g (i + 1) u d (by simpa using a) (by simpa using b)⟩;cases h1;rw [map_cons,Jg h2]
theorem Rep.ints' {ns:List Int} (h:Rep H p v (.ints ns)):∃ l,v=.ref l/\p l/\H l=some (.lst (ns.map V.int)):=by
 obtain ⟨l,us,e,a,b,c⟩:=h.lst';rw [Jg c] at b;exact ⟨l,e,a,b⟩
theorem qa {l:Addr} {ns:List Int} (pl:p l) (e:H l=some (.lst (ns.map V.int))):Rep H p (.ref l) (.ints ns):=reps_ints.mk' pl e
end
def Off (ms:List Addr):Addr->Prop:=λ b=>b ∉ ms
def Fr (ms:List Addr) (H H':Hp):Prop:=∀ b o,b ∉ ms->H b=some o->H' b=some o
section
variable {H H' H2:Hp} {ms ns:List Addr} {x:Addr} {o:HO} {v:V} {d:D} {vs:List V} {ds:List D}
theorem Fr.refl:Fr ms H H:=λ _ _ _ h=>h
theorem Fr.trans (a:Fr ms H H') (b:Fr ms H' H2):Fr ms H H2:=λ c o n h=>b c o n (a c o n h)
theorem Fr.more (a:Fr ms H H') (s:∀ b,b∈ms->b∈ns):Fr ns H H':=λ b o n h=>a b o (λ z=>n (s b z)) h
theorem Same.fr (a:Same H H'):Fr ms H H':=λ b o _ h=>a b o h
theorem jB (h:x∈ms):Fr ms H (upd H x o):=λ b u n hb=>by
 rw [upd_ne (λ z=>n (by rw [z];exact h))];exact hb
theorem zbE (h:H x=none):Fr ms H (upd H x o):=(same_upd' h).fr where
 same_upd' {H:Hp} {x:Addr} {o:HO} (h:H x=none):Same H (upd H x o):=λ b u hb=>by rw [upd_ne (ne_of_none hb h)];exact hb
theorem Fr.same (a:Fr ms H H') (h:∀ m∈ms,H m=none):Same H H':=λ b o hb=>a b o (λ z=>by rw [h b z] at hb;cases hb) hb
theorem Rep.fr (h:Rep H (Off ms) v d) (s:Fr ms H H'):Rep H' (Off ms) v d:=h.keep λ b o pb hb=>⟨pb,s b o pb hb⟩
theorem Reps.fr (h:Reps H (Off ms) vs ds) (s:Fr ms H H'):Reps H' (Off ms) vs ds:=h.keep λ b o pb hb=>⟨pb,s b o pb hb⟩
theorem Rep.more (h:Rep H (Off ms) v d) (s:∀ b,b∈ns->b∈ms\/H b=none):Rep H (Off ns) v d:=h.keep λ b o pb hb=>⟨λ z=>(s b z).elim pb (λ q=>by rw [q] at hb;cases hb),hb⟩
theorem Reps.more (h:Reps H (Off ms) vs ds) (s:∀ b,b∈ns->b∈ms\/H b=none):Reps H (Off ns) vs ds:=h.keep λ b o pb hb=>⟨λ z=>(s b z).elim pb (λ q=>by rw [q] at hb;cases hb),hb⟩
theorem Rep.same (h:Rep H (Off ms) v d) (s:Same H H'):Rep H' (Off ms) v d:=h.fr s.fr
theorem Reps.same (h:Reps H (Off ms) vs ds) (s:Same H H'):Reps H' (Off ms) vs ds:=h.fr s.fr
theorem Rep.ahead (h:Rep H (Off []) v d) (s:Same H H') (n:∀ m∈ms,H m=none):Rep H' (Off ms) v d:=h.keep λ b o _ hb=>⟨(λ z=>nomatch (n b z).symm.trans hb),s b o hb⟩
theorem Reps.ahead (h:Reps H (Off []) vs ds) (s:Same H H') (n:∀ m∈ms,H m=none):Reps H' (Off ms) vs ds:=h.keep λ b o _ hb=>⟨(λ z=>nomatch (n b z).symm.trans hb),s b o hb⟩
theorem Rep.all {p:Addr->Prop} (h:Rep H p v d):Rep H (Off []) v d:=h.keep λ b o _ hb=>⟨(λ z=>nomatch z),hb⟩
theorem Reps.all {p:Addr->Prop} (h:Reps H p vs ds):Reps H (Off []) vs ds:=h.keep λ b o _ hb=>⟨(λ z=>nomatch z),hb⟩
end
theorem fd_small {i j:Int} (h1:0 < j) (h2:j < 1000000):CFd i j:=fd_ok h1 (Nat.lt_of_lt_of_le (show j.natAbs < 2 ^ 20 by omega) (Nat.pow_le_pow_right (by decide) (by decide)))
theorem JK {α:Type} {xs:List α} {k:Int} (h0:0<=k) (h1:k < xs.length):seqIndex? k xs.length=some k.toNat:=by
 unfold seqIndex?;have:¬ k < 0:=by omega
 simp [this,h0,h1]
theorem xJ {K:PySem.W.Frag} {H H':Hp} {l:Addr} {xs:List V} (s:Same H H') (h:SqL K H l xs):SqL K H' l xs:=s.seq h
def del (H:Hp) (x:Addr):Hp:=λ b=>if b=x then none else H b
section
variable {K:PySem.W.Frag} {H:Hp} {Q:VK} {p:Addr->Prop} {v:V} {d:D} {ds:List D} {f:Str}
theorem zfb {C:Addr} {gs:List (Str × D)} {R:V->Prop} (h:Rep H p v (.ob C gs)) (c:Cls K C) (n:NoAttr K C f) (e:gs.lookup f=some d) (q:∀ u,Rep H p u d->R u) :
  ∃ a C dx fs u,v=.ref a/\H a=some (.ins C dx fs)/\Cls K C/\NoAttr K C f/\fs.lookup f=some u/\R u:=by
 obtain ⟨l,dx,fs,rfl,_,a,b,_⟩:=h.ob';obtain ⟨u,e1,r⟩:=b f d e;exact ⟨l,C,dx,fs,u,rfl,a,c,n,e1,q u r⟩
theorem zf5 {vs:List V} {i:Int} (h:Reps H p vs ds) (e:atI ds i=some d):∃ u,atI vs i=some u/\Rep H p u d:=by
 unfold atI at e ⊢;rw [h.len];cases z:ixN ds.length i with
 | none=>rw [z] at e;cases e
 | some j=>rw [z] at e;exact h.of (i:=j) e
end
theorem jM {H H':Hp} {p:Addr->Prop} {v:V} {d:D} (h:Rep H p v d) (s:Same H H'):Rep H' p v d:=h.keep λ b o pb hb=>⟨pb,s b o hb⟩
end L2
namespace L2
open PySem PySem.Spec PyProof.Rows
section
variable {X:Cx}
def zg8 (K:PySem.W.Frag):R2:=λ x y H Q=>∃ p xs i v,x=.ref p/\y=.int i/\SqL K H p xs/\0<=i/\atI xs i=some v/\Q v H
theorem zeA:zhu X (zg8 X.K):=by
 intro pins s σ H x y v u Q I rx ry h;obtain ⟨p,xs,i,z,rfl,rfl,hq,h0,he,q⟩:=h;cases rx;obtain ⟨t,rfl⟩:=ry;obtain ⟨its,r,pl,hz⟩:=I.list hq;obtain ⟨j,h1,h2,h3,h4,h5⟩:=Jk he;obtain ⟨w,ew,rw'⟩:=r.get h2;have hl:=r.length;have hn:=Zc;have hj:i.toNat=j:=by
  rw [seqIndex_of h0 h5] at h1;exact Option.some.inj h1
 exact wpAny_getItem_list pl.isList h0 (by omega) (by rw [hj];simpa using ew) ⟨z,H,I,rw',q⟩
end
inductive Hard:D->Prop where
 | non:Hard .non
 | bl {b:Bool}:Hard (.bl b)
 | int {i:Int}:Hard (.int i)
 | str {x:Str}:Hard (.str x)
 | tup {ds:List D}:(∀ (i:Nat) d,ds[i]?=some d->Hard d)->Hard (.tup ds)
theorem Rep.hard {H:Hp} {p q:Addr->Prop} {v:V} {d:D} (h:Rep H p v d) (hd:Hard d) (k:∀ b xs,p b->H b=some (.tup xs)->q b):Rep H q v d:=by
 induction h with
 | non=>exact .non
 | bl=>exact .bl
 | int=>exact .int
 | str=>exact .str
 | lst pl hl e _ ih=>cases hd
 | tup pl hl e _ ih =>
  cases hd with
  | tup hd=>exact .tup (k _ _ pl hl) hl e λ i v d a b=>ih i v d a b (hd i d b)
 | ob pl hl e _ ih=>cases hd
theorem zef {as:List Addr} (nd:as.Nodup) {i j:Nat} {b:Addr} (h1:as[i]?=some b) (h2:as[j]?=some b):i=j:=by
 obtain ⟨hi,e1⟩:=List.getElem?_eq_some_iff.mp h1;obtain ⟨hj,e2⟩:=List.getElem?_eq_some_iff.mp h2;have P:=List.pairwise_iff_getElem.mp nd;rcases Nat.lt_trichotomy i j with h|h|h
 ·exact absurd (e1.trans e2.symm) (P i j hi hj h)
 ·exact h
 ·exact absurd (e2.trans e1.symm) (P j i hj hi h)
structure NL (H:Hp) (p:Addr->Prop) (G:Addr) (as:List Addr) (xss:List (List D)):Prop where
 out:H G=some (.lst (as.map V.ref))
 len:as.length=xss.length
 nd:as.Nodup
 nG:G ∉ as
 g:∀ (i:Nat) b xs,as[i]?=some b->xss[i]?=some xs->∃ vs,H b=some (.lst vs)/\Reps H p vs xs
section
variable {H H':Hp} {p q:Addr->Prop} {G:Addr} {as:List Addr} {xss:List (List D)}
theorem NL.keep (h:NL H p G as xss) (s:∀ b o,(b=G\/b∈as\/p b)->H b=some o->H' b=some o) (sp:∀ b,p b->H b≠none->q b):NL H' q G as xss:=by
 refine ⟨s _ _ (.inl rfl) h.out,h.len,h.nd,h.nG,λ i b xs e1 e2=>?_⟩;obtain ⟨vs,h1,h2⟩:=h.g i b xs e1 e2;exact ⟨vs,s _ _ (.inr (.inl (mem_of_getElem? e1))) h1,h2.keep λ c o pc hc=>⟨sp c pc (by rw [hc];intro z;cases z),s c o (.inr (.inr pc)) hc⟩⟩
theorem NL.same (h:NL H p G as xss) (s:Same H H'):NL H' p G as xss:=h.keep (λ b o _ hb=>s b o hb) λ _ hp _=>hp
theorem NL.at (h:NL H p G as xss) {i:Nat} {xs:List D} (e:xss[i]?=some xs):∃ b vs,as[i]?=some b/\H b=some (.lst vs)/\Reps H p vs xs:=by
 have hi:=(List.getElem?_eq_some_iff.mp e).1;have e2:as[i]?=some (as[i]'(by rw [h.len];exact hi)):=getElem?_eq_getElem _;obtain ⟨vs,h1,h2⟩:=h.g i _ xs e2 e;exact ⟨_,vs,e2,h1,h2⟩
theorem zbp {H:Hp} {p:Addr->Prop} {G:Addr} (h:H G=some (.lst [])):NL H p G [] []:=⟨h,rfl,List.nodup_nil,by simp,λ i b xs e=>by simp at e⟩
theorem NL.rep (h:NL H p G as xss):Rep H (Off []) (.ref G) (.lst (xss.map D.lst)):=by
 refine .lst (λ z=>nomatch z) h.out (by rw [length_map,length_map,h.len]) λ i v d e1 e2=>?_;rw [getElem?_map,Option.map_eq_some_iff] at e1 e2;obtain ⟨b,e1,rfl⟩:=e1;obtain ⟨xs,e2,rfl⟩:=e2;obtain ⟨vs,h1,h2⟩:=h.g i b xs e1 e2;exact h2.all.mk' (λ z=>nomatch z) h1
theorem NL.put {i:Nat} {b:Addr} {vs:List V} {ys:List D} (h:NL H p G as xss) (e:as[i]?=some b) (np:¬ p b) (r:Reps H p vs ys):NL (upd H b (.lst vs)) p G as (xss.set i ys):=by
 have hb:=mem_of_getElem? e;have nG:G≠b:=λ z=>h.nG (by rw [z];exact hb);have rk:∀ {us:List V} {zs:List D},Reps H p us zs->Reps (upd H b (.lst vs)) p us zs:=λ r=>r.keep λ c o pc hc=>⟨pc,by rw [upd_ne (λ z=>np (by rw [<- z];exact pc))];exact hc⟩;refine ⟨by rw [upd_ne nG];exact h.out,by rw [length_set,h.len],h.nd,h.nG,λ j c xs e1 e2=>?_⟩;by_cases hj:j=i
 ·subst hj;rw [e] at e1;cases e1;have hl:j < xss.length:=by rw [<- h.len];exact (List.getElem?_eq_some_iff.mp e).1
  rw [getElem?_set_self hl] at e2;cases e2;exact ⟨vs,upd_same,rk r⟩
 ·rw [getElem?_set_ne (Ne.symm hj)] at e2;have nc:c≠b:=λ z=>by
   subst z;exact hj (zef h.nd e1 e)
  obtain ⟨us,h1,h2⟩:=h.g j c xs e1 e2;exact ⟨us,by rw [upd_ne nc];exact h1,rk h2⟩
theorem NL.push {b:Addr} {vs:List V} {ys:List D} (h:NL H p G as xss) (hb:H b=some (.lst vs)) (nb:b ∉ as) (nG:b≠G) (np:¬ p G) (r:Reps H p vs ys):NL (upd H G (.lst (as.map V.ref ++ [.ref b]))) p G (as ++ [b]) (xss ++ [ys]):=by
 have rk:∀ {us:List V} {zs:List D},Reps H p us zs->Reps (upd H G (.lst (as.map V.ref ++ [.ref b]))) p us zs:=λ r=>r.keep λ c o pc hc=>⟨pc,by rw [upd_ne (λ z=>np (by rw [<- z];exact pc))];exact hc⟩;refine ⟨by rw [upd_same,map_append];rfl,by simp [h.len],?_,?_,λ j c xs e1 e2=>?_⟩
 ·rw [nodup_append];refine ⟨h.nd,by simp,?_⟩;intro x hx y hy z;rw [List.mem_singleton.mp hy] at z;exact nb (by rw [<- z];exact hx)
 ·intro z;rcases List.mem_append.mp z with z|z
  ·exact h.nG z
  ·exact nG (List.mem_singleton.mp z).symm
 ·by_cases hj:j < as.length
  ·rw [getElem?_append_left hj] at e1;rw [getElem?_append_left (by rw [<- h.len];exact hj)] at e2;obtain ⟨us,h1,h2⟩:=h.g j c xs e1 e2;have nc:c≠G:=λ z=>h.nG (by rw [<- z];exact mem_of_getElem? e1);exact ⟨us,by rw [upd_ne nc];exact h1,rk h2⟩
  ·rw [getElem?_append_right (by omega)] at e1;rw [getElem?_append_right (by rw [<- h.len];omega),<- h.len] at e2;have hj0:j - as.length=0:=by have:=(List.getElem?_eq_some_iff.mp e1).1;simp at this;omega
   rw [hj0] at e1 e2;have e1:b=c:=by simpa using e1
   have e2:ys=xs:=by simpa using e2
   subst e1 e2;exact ⟨vs,by rw [upd_ne nG];exact hb,rk r⟩
end
def zN (H:Hp):Addr->Prop:=λ b=>∃ xs,H b=some (.tup xs)
theorem NL.tup {H H':Hp} {G:Addr} {as:List Addr} {xss:List (List D)} (h:NL H (zN H) G as xss) (s:∀ b o,(b=G\/b∈as\/zN H b)->H b=some o->H' b=some o):NL H' (zN H') G as xss :=
 h.keep s λ b hb _=>by
  obtain ⟨xs,hx⟩:=hb;exact ⟨xs,s b _ (.inr (.inr ⟨xs,hx⟩)) hx⟩
theorem NL.isl {H:Hp} {G:Addr} {as:List Addr} {p:Addr->Prop} {xss:List (List D)} (h:NL H p G as xss) {b:Addr} (hb:b∈G :: as):∃ vs,H b=some (.lst vs):=by
 rcases List.mem_cons.mp hb with rfl|hb
 ·exact ⟨_,h.out⟩
 ·obtain ⟨j,hj⟩:=getElem?_of_mem hb;obtain ⟨vs,h1,_⟩:=h.g j b _ hj (getElem?_eq_getElem (by rw [<- h.len];exact (List.getElem?_eq_some_iff.mp hj).1));exact ⟨vs,h1⟩
theorem uc {P:Program} {w:World} {K:PySem.W.Frag} {mg:Str->Option Value} {base:Heap} {x:Str} {k:Nat} {G:List V->Sp->Prop} {ps:List Str} {dvs:List V} {sp:Sp} (c:Cal P w K mg base x k ps dvs sp) (h:G dvs sp):∃ ps dvs sp,Cal P w K mg base x k ps dvs sp/\G dvs sp:=⟨ps,dvs,sp,c,h⟩
theorem un2 {K:PySem.W.Frag} {H:Hp} {t:Addr} {x y:V} {G:V->V->Prop} (h:H t=some (.tup [x,y])) (q:G x y):∃ a xs,V.ref t=.ref a/\SqT K H a xs/\xs.length=2/\∃ v r,xs=v :: r/\∃ v' r',r=v' :: r'/\r'=[]/\G v v':=⟨t,_,rfl,SqT.of h,rfl,x,_,rfl,y,_,rfl,rfl,q⟩
theorem ra {K:PySem.W.Frag} {H:Hp} {a C dx:Addr} {fs:List (Str × V)} {v:V} {f:Str} {G:V->Prop} (h:H a=some (.ins C dx fs)) (c:Cls K C) (n:NoAttr K C f) (e:fs.lookup f=some v) (q:G v):∃ a' C dx fs v,V.ref a=.ref a'/\H a'=some (.ins C dx fs)/\Cls K C/\NoAttr K C f/\fs.lookup f=some v/\G v:=⟨a,C,dx,fs,v,rfl,h,c,n,e,q⟩
end L2
namespace L2
open PySem PySem.Spec PyProof.Rows
section
variable {prog:Program} {w:World} {A:Around} {E:Value->Shared->Prop} {s:Shared}
abbrev lit (l:Addr):Obj:={ cls:=.type (Ql true),data:=.fields #[.ref l,.int 0 0] }
end
section
variable {prog:Program} {w:World} {A:Around} {E:Value->Shared->Prop} {s:Shared}
end
end L2
namespace L2
open PySem PySem.Spec PyProof.Rows
section
variable {X:Cx} {pos pos':Pos} {x:Str}
theorem zo (i:Nat) {e:Expr} {te:TE} (hN:X.N.Nodup) (he:PE X e te) (hi:X.N[i]?=some x:=by rfl) (hx:Loc X.env.scope x:=by exact Or.inl rfl) (hs:swapsWith e (some (.Name x pos')) pos.line X.env=pure false:=by rfl)
  (hf:Or (X.fn x=true) (X.env.scope.names.lookup x=some .local):=by walk_at "p"):PS X (.Assign [.Name x pos'] e pos) (tAsg te (gName i)):=zdZ hN hi hx he hs hf
theorem qr (i:Nat) (hN:X.N.Nodup) (hi:X.N[i]?=some x:=by rfl) (hx:Loc X.env.scope x:=by exact Or.inl rfl) (hf:Or (X.fn x=true) (X.env.scope.names.lookup x=some .local):=by walk_at "p"):PG X (.Name x pos) (gName i):=WU hN hi hx hf
theorem zv {a b:Expr} {ta tb:TE} (ha:PE X a ta) (hb:PE X b tb) (hs:zcw b:=by intro _ _;rfl):PE X (.Subscript a b pos) (tOp (rIx X.K) ta tb):=zha zgH ha hb hs
end
end L2
namespace L2
open PySem PySem.Spec PyProof.Rows
section
variable {X:Cx}
end
end L2
namespace L2
open PySem PySem.Spec PyProof.Rows
section
variable {X:Cx} {G:GK} {x y:Str} {np mp pos hpos gpos:Pos} {body su sv:List Stmt} {b₀ c₀:Stmt} {tb:List (Addr × Obj)->GK->TS} {th ti:List (Addr × Obj)->Addr->TS}
end
section
variable {X:Cx}
end
end L2
namespace L2
open PySem PySem.Spec PyProof.Rows
section
variable {X:Cx}
end
end L2
namespace L2
open PySem PySem.Spec PyProof.Rows
section
variable {κ:Type} [DecidableEq κ]
def QL (kvs:List (κ × V)) (k:κ):Option V:=(kvs.find? λ kv=>decide (kv.1=k)).map (·.2)
def V3 (kvs:List (κ × V)) (k:κ) (v:V):List (κ × V) :=
 if (kvs.any λ kv=>decide (kv.1=k))=true then kvs.map (λ kv=>if kv.1=k then (kv.1,v) else kv) else kvs ++ [(k,v)]
def zf3 (kvs:List (κ × V)) (k:κ):List (κ × V):=kvs.filter λ kv=>decide (kv.1≠k)
theorem Jl {p:κ × V} {r:List (κ × V)} {k:κ} (e:p.1=k):QL (p :: r) k=some p.2:=by simp [QL,find?_cons,e]
theorem Jm {p:κ × V} {r:List (κ × V)} {k:κ} (e:¬ p.1=k):QL (p :: r) k=QL r k:=by simp [QL,find?_cons,e]
theorem VD (k:κ):∀ kvs:List (κ × V),(kvs.any λ kv=>decide (kv.1=k))=(QL kvs k).isSome
 | []=>rfl
 | p :: r=>by
  rw [any_cons];by_cases e:p.1=k
  ·simp only [Jl e,decide_eq_true e,Bool.true_or,Option.isSome_some]
  ·rw [Jm e,decide_eq_false e,Bool.false_or];exact VD k r
theorem RelO.isSome_eq {o:Option V} {u:Option Value} (r:RelO o u):o.isSome=u.isSome:=by
 cases o with
 | none=>cases u with
  | none=>rfl
  | some _=>exact (show False from r).elim
 | some _=>cases u with
  | none=>exact (show False from r).elim
  | some _=>rfl
theorem RelO.getD {o:Option V} {u:Option Value} {d:V} {d':Value} (r:RelO o u) (rd:RelV d d'):RelV (o.getD d) (u.getD d'):=by
 cases o with
 | none=>cases u with
  | none=>exact rd
  | some _=>exact (show False from r).elim
 | some _=>cases u with
  | none=>exact (show False from r).elim
  | some _=>exact r
theorem KV.val {kvs:List (κ × V)} {vs:List (κ × Value)} (r:KV kvs vs) (k:κ):RelO (QL kvs k) (valueAt vs k):=by
 unfold KV at r
 induction r with
 | nil=>exact True.intro
 | @cons p q ps qs h t ih =>
  obtain ⟨h1,h2⟩:=h;by_cases e:p.1=k
  ·have e':q.1=k:=h1.symm.trans e;have b:valueAt (q :: qs) k=some q.2:=by simp [valueAt,find?_cons,e']
   rw [Jl e,b];exact h2
  ·have e':¬ q.1=k:=λ z=>e (h1.trans z);have b:valueAt (q :: qs) k=valueAt qs k:=by simp [valueAt,find?_cons,e']
   rw [Jm e,b];exact ih
theorem KV.any {kvs:List (κ × V)} {vs:List (κ × Value)} (r:KV kvs vs) (k:κ):(kvs.any λ kv=>decide (kv.1=k))=vs.any λ kv=>decide (kv.1=k):=by
 unfold KV at r
 induction r with
 | nil=>rfl
 | cons h t ih=>rw [any_cons,any_cons,ih,h.1]
theorem KV.repl {kvs:List (κ × V)} {vs:List (κ × Value)} (r:KV kvs vs) (k:κ) {y:V} {u:Value} (ry:RelV y u) :
  KV (kvs.map λ kv=>if kv.1=k then (kv.1,y) else kv) (vs.map λ kv=>if kv.1=k then (kv.1,u) else kv):=by
 unfold KV at r ⊢
 induction r with
 | nil=>exact .nil
 | @cons p q ps qs h t ih =>
  rw [map_cons,map_cons];refine .cons ?_ ih;obtain ⟨h1,h2⟩:=h;by_cases e:p.1=k
  ·rw [if_pos e,if_pos (h1.symm.trans e)];exact ⟨h1,ry⟩
  ·rw [if_neg e,if_neg (λ z=>e (h1.trans z))];exact ⟨h1,h2⟩
theorem KV.put {kvs:List (κ × V)} {vs:List (κ × Value)} (r:KV kvs vs) (k:κ) {y:V} {u:Value} (ry:RelV y u):KV (V3 kvs k y) (stored vs k u):=by
 unfold V3 stored;rw [r.any k];by_cases e:(vs.any λ kv=>decide (kv.1=k))=true
 ·rw [if_pos e,if_pos e];exact r.repl k ry
 ·rw [if_neg e,if_neg e];exact Paired.snoc r ⟨rfl,ry⟩
theorem KV.drop {kvs:List (κ × V)} {vs:List (κ × Value)} (r:KV kvs vs) (k:κ):KV (zf3 kvs k) (without vs k):=by
 unfold KV at r ⊢;unfold zf3 without
 induction r with
 | nil=>exact .nil
 | @cons p q ps qs h t ih =>
  obtain ⟨h1,h2⟩:=h;rw [List.filter_cons,List.filter_cons];by_cases e:p.1=k
  ·have a:¬ decide (p.1≠k)=true:=by simp [e]
   have b:¬ decide (q.1≠k)=true:=by simp [h1.symm.trans e]
   rw [if_neg a,if_neg b];exact ih
  ·have e':¬ q.1=k:=λ z=>e (h1.trans z);have a:decide (p.1≠k)=true:=by simp [e]
   have b:decide (q.1≠k)=true:=by simp [e']
   rw [if_pos a,if_pos b];exact .cons ⟨h1,h2⟩ ih
theorem KV.keys {kvs:List (κ × V)} {vs:List (κ × Value)} (r:KV kvs vs):kvs.map (·.1)=vs.map (·.1):=by
 unfold KV at r
 induction r with
 | nil=>rfl
 | cons h t ih=>rw [map_cons,map_cons,ih,h.1]
theorem KV.length {kvs:List (κ × V)} {vs:List (κ × Value)} (r:KV kvs vs):kvs.length=vs.length:=Paired.length r
end
abbrev KT (H:Hp):List (List Key × V)->List (List Key × Addr × Value)->Prop:=Paired λ p q=>p.1=q.1/\H q.2.1=some (.tup (p.1.map kV))/\RelV p.2 q.2.2
theorem KT.val {H:Hp} {kvs:List (List Key × V)} {xs:List (List Key × Addr × Value)} (r:KT H kvs xs) (k:List Key):RelO (QL kvs k) ((atKey xs k).map (·.2)):=by
 induction r with
 | nil=>exact True.intro
 | @cons p q ps qs h t ih =>
  obtain ⟨h1,_,h2⟩:=h;by_cases e:p.1=k
  ·have e':q.1=k:=h1.symm.trans e;have b:atKey (q :: qs) k=some q.2:=by simp [atKey,find?_cons,e']
   rw [Jl e,b];exact h2
  ·have e':¬ q.1=k:=λ z=>e (h1.trans z);have b:atKey (q :: qs) k=atKey qs k:=by simp [atKey,find?_cons,e']
   rw [Jm e,b];exact ih
theorem KT.repl {H:Hp} {kvs:List (List Key × V)} {xs:List (List Key × Addr × Value)} (r:KT H kvs xs) (k:List Key) {y:V} {u:Value} (ry:RelV y u) :
  KT H (kvs.map λ kv=>if kv.1=k then (kv.1,y) else kv) (xs.map (putAt k u)):=by
 induction r with
 | nil=>exact .nil
 | @cons p q ps qs h t ih =>
  rw [map_cons,map_cons];refine .cons ?_ ih;obtain ⟨h1,h2,h3⟩:=h;unfold putAt;by_cases e:p.1=k
  ·rw [if_pos e,if_pos (h1.symm.trans e)];exact ⟨h1,h2,ry⟩
  ·rw [if_neg e,if_neg (λ z=>e (h1.trans z))];exact ⟨h1,h2,h3⟩
theorem KT.put {H:Hp} {kvs:List (List Key × V)} {xs:List (List Key × Addr × Value)} (r:KT H kvs xs) (k:List Key) {b:Addr} {y:V} {u:Value} (hb:H b=some (.tup (k.map kV))) (ry:RelV y u) :
  KT H (V3 kvs k y) (storedH xs k b u):=by
 have e:(kvs.any λ kv=>decide (kv.1=k))=(atKey xs k).isSome:=by
  rw [VD,(r.val k).isSome_eq,Option.isSome_map]
 unfold V3 storedH;rw [e];by_cases q:(atKey xs k).isSome=true
 ·rw [if_pos q,if_pos q];exact r.repl k ry
 ·rw [if_neg q,if_neg q];exact Paired.snoc r ⟨rfl,hb,ry⟩
theorem KT.keeps {H H':Hp} {kvs:List (List Key × V)} {xs:List (List Key × Addr × Value)} (r:KT H kvs xs) (ht:∀ b ys,H b=some (.tup ys)->H' b=some (.tup ys)):KT H' kvs xs :=
 Paired.mapP r λ _ _ z=>⟨z.1,ht _ _ z.2.1,z.2.2⟩
section
variable {P:Program} {w:World} {H:Hp} {h:Heap} {a:Addr}
end
def DGet (H:Hp) (a:Addr) (y:V) (r:Option V):Prop :=
 (∃ kvs k,Rd H a (.dK kvs)/\y=kV k/\r=QL kvs k)\/∃ kvs k b,Rd H a (.dT kvs)/\y=.ref b/\H b=some (.tup (k.map kV))/\r=QL kvs k
def DPut (H:Hp) (a:Addr) (y v:V) (H':Hp):Prop :=
 (∃ kvs k,H a=some (.dK kvs)/\y=kV k/\kvs.length < sizeLine/\H'=upd H a (.dK (V3 kvs k v))) \/
 ∃ kvs k b,H a=some (.dT kvs)/\y=.ref b/\H b=some (.tup (k.map kV))/\kvs.length < sizeLine/\H'=upd H a (.dT (V3 kvs k v))
theorem DGet.k {H:Hp} {a:Addr} {kvs:List (Key × V)} {k:Key} (e:H a=some (.dK kvs)):DGet H a (kV k) (QL kvs k):=.inl ⟨kvs,k,.inl e,rfl,rfl⟩
theorem DGet.t {H:Hp} {a b:Addr} {kvs:List (List Key × V)} {k:List Key} (e:H a=some (.dT kvs)) (eb:H b=some (.tup (k.map kV))):DGet H a (.ref b) (QL kvs k):=.inr ⟨kvs,k,b,.inl e,rfl,eb,rfl⟩
theorem DPut.k {H:Hp} {a:Addr} {kvs:List (Key × V)} {k:Key} {v:V} (e:H a=some (.dK kvs)) (hl:kvs.length < sizeLine):DPut H a (kV k) v (upd H a (.dK (V3 kvs k v))):=.inl ⟨kvs,k,e,rfl,hl,rfl⟩
theorem DPut.t {H:Hp} {a b:Addr} {kvs:List (List Key × V)} {k:List Key} {v:V} (e:H a=some (.dT kvs)) (eb:H b=some (.tup (k.map kV))) (hl:kvs.length < sizeLine) :
  DPut H a (.ref b) v (upd H a (.dT (V3 kvs k v))):=.inr ⟨kvs,k,b,e,rfl,eb,hl,rfl⟩
section
variable {X:Cx} {pins:List (Addr × Obj)} {σ:St} {H:Hp} {s:Shared} {a:Addr} {y v:V} {u r:Value} {o:Option V} {A:Around} {E:Value->Shared->Prop}
theorem Inv.big (I:Inv X pins σ H s):sysModules < s.heap.objs.size:=by
 have h:mainGlobals < s.heap.objs.size:=(I.mod.glob.keeps I.bk).lt;exact Nat.lt_trans (by decide) h
theorem zfE {h':Heap} {t':Nat} {ob:HO} (I:Inv X pins σ H s) (mu:Mut (H a)) (hs:Heap.SameBut a s.heap h') (he:∃ q,h'.get? a=some q) (new:ObjOk X.prog X.w (upd H a ob) h' a ob) :
  Inv X pins σ (upd H a ob) { s with heap:=h',toks:=t' } :=
 I.write (x:=a) (e:=a) mu (.inl rfl) (λ b q hb z=>(hs.2 b hb).trans z) he new
end
section
variable {X:Cx} {pins:List (Addr × Obj)} {σ:St} {H:Hp} {s:Shared} {a:Addr} {kvs:List (Key × V)} {k:Key} {u:Value} {A:Around} {E:Value->Shared->Prop}
end
def zhv (i:Expr):Prop:=∀ ov iv,subscripted i false ov iv=operate [ov,iv] (getItem ov iv)
theorem ze2 {prog:Program} {w:World} {A:Around} {E:Value->Shared->Prop} {s:Shared} {env:Env} {value slice:Expr} {pos:Pos} {T id:String} {Q:Value->Shared->Prop}
  (hl:typeLookup (.type T) "__getitem__"=pure (some (.builtin id))) (hs:zhv slice)
  (h:wpAny (model prog w) A (eval value env) (λ o s₁=>wpAny (model prog w) A (eval slice env) (λ i s₂=>s₂.TypeIs o T/\wpAny (model prog w) A (getItem o i) Q E s₂) E s₁) E s) :
  wpAny (model prog w) A (eval (.Subscript value slice pos) env) Q E s:=by
 refine Subscript_ (wpAny_mono h (λ o s₁ h₁=>wpAny_mono h₁ (λ i s₂ h₂=>?_) λ _ _ x=>x) λ _ _ x=>x);obtain ⟨hT,h₂⟩:=h₂;unfold subscriptTail;refine wpAny_bind ?_;rw [getitemInPython_of_ne hT.not_modules];refine wpAny_bind (wpAny_specialOf hT hl ?_);have fin:wpAny (model prog w) A (subscripted slice false o i) (λ r s₃=>wpAny (model prog w) A (letTemporaryGo value o r >>= λ _=>pure r) Q E s₃) E s₂:=by
  rw [hs o i];exact wpAny_operating (wpAny_mono h₂ (λ r s₃ h₃=>wpAny_bind (wpAny_letTemporaryGo (wpAny_pure h₃))) λ _ _ x=>x)
 first
  | exact wpAny_pure (wpAny_bind fin)
  | exact wpAny_bind (wpAny_pure (wpAny_bind fin))
  | exact wpAny_bind fin
section
variable {X:Cx} {o i e value:Expr} {pos pos' tpos:Pos} {td ty tv:TE}
end
section
variable {X:Cx} {pos:Pos}
end
section
variable {X:Cx} {pins:List (Addr × Obj)} {σ:St} {H:Hp} {s:Shared} {a:Addr} {y d:V} {u r:Value} {o:Option V} {A:Around} {E:Value->Shared->Prop}
end
section
variable {X:Cx} {o e f:Expr} {apos cpos:Pos} {td ty tx:TE}
end
end L2
namespace L2
open PySem PySem.Spec PyProof.Rows
section
variable {κ:Type} [DecidableEq κ]
end
end L2
namespace L2
open PySem PySem.Spec PySem.Calls PyProof.Rows
section
variable {X:Cx}
theorem zgu {ns:List Int} {i:Nat} (h:i < ns.length):ns[i]?.getD 0∈ns:=by
 rw [getElem?_eq_getElem h];exact getElem_mem h
theorem zgS (hc:X.calm=true):CallR X (.builtin "any") (λ xs H Q=>∃ p,∃ bs:List Bool,xs=[.ref p]/\H p=some (.lst (bs.map V.bl))/\Q (.bl (bs.any id)) H):=by
 intro pins s σ H xs us Q I r h;obtain ⟨p,bs,rfl,hp,q⟩:=h;obtain ⟨u,rfl,rx⟩:=Qt r;cases rx;obtain ⟨its,rv,hl,hz⟩:=I.list (SqL.of (K:=X.K) hp);have hl':=hl.isList;have hlt:p < s.heap.objs.size:=by obtain ⟨_,e,_⟩:=hl';exact Heap.lt_size e
 have hlen:its.length=bs.length:=by have:=rv.length;rw [length_map] at this;exact this.symm
 refine call_any_walk (wpAny_pyIter_list hl' ?_);refine ⟨s.heap.objs.size,[s.heap.objs.size,p],[s.heap.objs.size],its.toArray.size,_,_,λ i=>(bs[i]?).getD false,rfl,Walks.list (A:=X.A.in1) (I.ok.hd hc) _ p (Nat.ne_of_lt hlt) its.toArray,
  ⟨⟨_,Heap.get?_push_size _ rfl,rfl,rfl⟩,hl'.push _⟩,λ i v s' Q' E' hP hQ=>?_,λ h' tk hk=>?_⟩
 ·have hP:its[i]?=some v:=by simpa using hP
  have hib:i < bs.length:=by rw [<- hlen];exact (List.getElem?_eq_some_iff.mp hP).1
  obtain ⟨u,hu,ru⟩:=rv.get (i:=i) (x:=.bl bs[i]) (by rw [getElem?_map,getElem?_eq_getElem hib];rfl);rw [hu] at hP;cases hP;cases ru;have e:(bs[i]?).getD false=bs[i]:=by rw [getElem?_eq_getElem hib];rfl
  simp only [e] at hQ;exact wpAny_truthy_bool hQ
 ·have e:((List.range its.toArray.size).any λ i=>(bs[i]?).getD false)=bs.any id:=by
   rw [size_toArray,hlen,Bool.eq_iff_iff,any_eq_true,any_eq_true];constructor
   ·rintro ⟨i,hi,h⟩;rw [getElem?_eq_getElem (List.mem_range.mp hi)] at h;exact ⟨_,getElem_mem _,h⟩
   ·rintro ⟨b,hb,h⟩;obtain ⟨i,hi,rfl⟩:=List.getElem_of_mem hb;exact ⟨i,List.mem_range.mpr hi,by rw [getElem?_eq_getElem hi];exact h⟩
  rw [e];refine ⟨.bl (bs.any id),H,I.kept (t':=tk) (λ b o eb=>hk b o (λ hm=>?_) (Heap.get?_push_of_some _ eb)),rfl,q⟩;rw [List.mem_singleton.mp hm] at eb;exact Nat.lt_irrefl _ (Heap.lt_size eb)
theorem zfK (hc:X.calm=true):CallR X (.builtin "max") (λ xs H Q=>∃ p,∃ ns:List Int,xs=[.ref p]/\SqL X.K H p (ns.map V.int)/\0 < ns.length/\∀ m,m∈ns->(∀ n∈ns,n<=m)->Q (.int m) H):=by
 intro pins s σ H xs us Q I r h;obtain ⟨p,ns,rfl,hp,hne,q⟩:=h;obtain ⟨u,rfl,rx⟩:=Qt r;cases rx;obtain ⟨its,rv,hl,hz⟩:=I.list hp;have hl':=hl.isList;have hlt:p < s.heap.objs.size:=by obtain ⟨_,e,_⟩:=hl';exact Heap.lt_size e
 have hlen:its.length=ns.length:=by have:=rv.length;rw [length_map] at this;exact this.symm
 refine call_max_walk (wpAny_pyIter_list hl' ?_);refine ⟨s.heap.objs.size,[s.heap.objs.size,p],[s.heap.objs.size],its.toArray.size,_,_,_,rfl,Walks.list (A:=X.A.in1) (I.ok.hd hc) _ p (Nat.ne_of_lt hlt) its.toArray,
  ⟨⟨_,Heap.get?_push_size _ rfl,rfl,rfl⟩,hl'.push _⟩,λ b hb=>?_,by rw [size_toArray,hlen];exact hne,CmpOf.ints_gt (λ i=>ns[i]?.getD 0) (λ i v hP=>vQ rv i v (by simpa using hP)),λ v h' tk hP hk=>?_⟩
 ·simp only [mem_cons,not_mem_nil,or_false] at hb;simp only [Heap.size_push];rcases hb with rfl|rfl
  ·exact Nat.lt_succ_self _
  ·exact Nat.lt_succ_of_lt hlt
 ·obtain ⟨t,rfl⟩:=vQ rv _ v (by simpa using hP);obtain ⟨h1,h2⟩:=argBest_gt (λ i=>ns[i]?.getD 0) (its.toArray.size - 1);have hs:its.toArray.size=ns.length:=by rw [size_toArray,hlen]
  refine ⟨.int _,H,I.kept (t':=tk) (λ b o e=>hk b o (by simpa using Nat.ne_of_lt (Heap.lt_size e)) (Heap.get?_push_of_some _ e)),⟨_,rfl⟩,q _ (zgu (Nat.lt_of_le_of_lt h1 (by omega))) λ n hn=>?_⟩;obtain ⟨j,hj,rfl⟩:=List.getElem_of_mem hn;have:=h2 j (by omega);simp only [getElem?_eq_getElem hj,Option.getD_some] at this;exact this
end
end L2
namespace L2
open PySem PySem.Spec PyProof.Rows
section
variable {prog:Program} {w:World} {A:Around} {E:Value->Shared->Prop} {s:Shared} {it d:Addr} {i ep:Nat} {es:Array DictEntry} {od:Obj}
end
theorem xU {α β:Type} {F:α->β->Prop}:∀ {l₁:List α} {l₂:List β},Paired F l₁ l₂->∀ {i:Nat} {x:α} {y:β},l₁[i]?=some x->l₂[i]?=some y->F x y
 | _,_,.nil,_,_,_,h,_=>nomatch h
 | _,_,.cons r t,0,_,_,h,h'=>by cases h;cases h';exact r
 | _,_,.cons r t,i + 1,_,_,h,h'=>xU t h h'
end L2
namespace L2
open PySem PySem.Spec PyProof.Rows
section
variable {prog:Program} {w:World}
structure KItem (prog:Program) (w:World) (κ:Type) [DecidableEq κ] (d:Nat) where
 is:Heap->κ->Value->Prop
 hash:κ->Int
 draws:κ->Nat
 inj:∀ {h:Heap} {v:Value} {x y:κ},is h x v->is h y v->x=y
 keeps:∀ {h h':Heap} {k:κ} {v:Value} {a:Addr} {o:Obj} {es:Array DictEntry} {ep:Nat},is h k v->h.get? a=some o->o.data=.dict es ep->Heap.SameBut a h h'->is h' k v
 pyHash:∀ {A:Around} {E:Value->Shared->Prop} {s:Shared} {k:κ} {v:Value} {Q:Int->Shared->Prop},A.units + d < cLine->is s.heap k v->Q (hash k) { s with toks:=s.toks + draws k }->wpAny (model prog w) A (PySem.pyHash v) Q E s
 eq:∀ {A:Around} {s:Shared} {x y:κ} {u v:Value},A.units + d < cLine->is s.heap x u->is s.heap y v->SeqAt.EqAt A s u v (decide (x=y))
 quiet:∀ {A:Around} {E:Value->Shared->Prop} {s:Shared} {n:Nat} {k:κ} {v:Value} {Q:Bool->Shared->Prop},d<=n->is s.heap k v->Q true s->wpAny (model prog w) A (eqIsQuiet n v) Q E s
def oiV:Option Int->V
 | none=>.non
 | some n=>.int n
theorem zag (x:Option Int):vL (oiV x)=true:=by cases x <;> rfl
theorem zgt (x y:Option Int):eqV (oiV x) (oiV y)=decide (x=y):=by
 cases x with
 | none=>cases y <;> simp [oiV,eqV]
 | some a =>
  cases y with
  | none=>simp [oiV,eqV]
  | some b =>
   show (a == b)=decide (some a=some b)
   by_cases e:a=b <;> simp [e]
theorem zfn {x y:Option Int} {v:Value} (h1:RelV (oiV x) v) (h2:RelV (oiV y) v):x=y:=by
 cases x <;> cases y
 ·rfl
 ·cases h1;obtain ⟨t,e⟩:=h2;cases e
 ·cases h2;obtain ⟨t,e⟩:=h1;cases e
 ·obtain ⟨t,rfl⟩:=h1;obtain ⟨t,e⟩:=h2;cases e;rfl
def zhf:Option Int->Int
 | none=>reduceHash 0xFCA86420
 | some n=>hashInt n
theorem zah {x:Option Int} {v:Value} (h:RelV (oiV x) v):carriedByValue v=true:=by
 cases x with
 | none=>cases h;rfl
 | some n=>obtain ⟨t,rfl⟩:=h;rfl
def jx (prog:Program) (w:World):KItem prog w (Option Int) 0 where
 is:=λ _ k v=>RelV (oiV k) v
 hash:=zhf
 draws:=λ _=>1
 inj:=zfn
 keeps:=λ h _ _ _=>h
 pyHash:=by
  intro A E s k v Q hu h q;cases k with
  | none =>
   cases h;exact PySem.W.pyHash_slot (T:="NoneType") rfl F.slot_NoneType_hash F.entry_NoneType_hash (F.args_NoneType_hash_1 _) (beq_builtin_none _) (.inr (by omega)) (wpAny_bind (wpAny_pure (wpAny_bind (wpAny_mkInt (wpAny_pure ⟨_,_,rfl,q⟩)))))
  | some n =>
   obtain ⟨t,rfl⟩:=h;exact wpAny_pyHash_int q
 eq:=by
  intro A s x y u v hu h1 h2;rw [<- zgt];exact Qm h1 h2 (zag x) (zag y)
 quiet:=by
  intro A E s n k v Q _ h q;rw [eqIsQuiet_byValue _ (zah h)];exact wpAny_pure q
inductive HashAll (prog:Program) (w:World) (d:Nat) (hp:Heap):List Value->List (Int × Nat)->Prop
 | nil:HashAll prog w d hp [] []
 | cons {v:Value} {h:Int × Nat} {vs:List Value} {hs:List (Int × Nat)}:(∀ (A:Around) (E:Value->Shared->Prop) (s:Shared) (Q:Int->Shared->Prop),s.heap=hp->A.units + d < cLine->Q h.1 { s with toks:=s.toks + h.2 }->wpAny (model prog w) A (PySem.pyHash v) Q E s)->HashAll prog w d hp vs hs->HashAll prog w d hp (v :: vs) (h :: hs)
theorem Wk {d:Nat} {hp:Heap} {A:Around} {E:Value->Shared->Prop} (hu:A.units + d < cLine):∀ {vs:List Value} {hs:List (Int × Nat)} {s:Shared} {b:Array Int} {Q:Array Int->Shared->Prop},HashAll prog w d hp vs hs->s.heap=hp->(∀ b',b'.toList=b.toList ++ hs.map (·.1)->Q b' { s with toks:=s.toks + (hs.map (·.2)).sum }) ->
  wpAny (model prog w) A (forIn vs b λ x r=>do let h <- PySem.pyHash x;pure PUnit.unit;pure (ForInStep.yield (r.push h))) Q E s
 | _,_,s,b,Q,.nil,_,h=>wpAny_pure (h b (by simp))
 | _,_,s,b,Q,.cons (h:=h0) x r,e,h=>by
  rw [forIn_cons];refine wpAny_bind (wpAny_bind (x A E s _ e hu ?_));refine wpAny_bind (wpAny_pure (wpAny_pure ?_));refine Wk hu r (by exact e) λ b' hb=>?_;have:=h b' (by simp [hb]);simpa [Nat.add_assoc] using this
theorem zav {d:Nat} {a:Addr} {items:Array Value} {hs:List (Int × Nat)} {A:Around} {E:Value->Shared->Prop} {s:Shared} {Q:Int->Shared->Prop} (hT:IsTup s.heap a items) (all:HashAll prog w d s.heap items.toList hs) (hu:A.units + (d + 1) < cLine)
  (h:Q (reduceHash (Builtin.Tuple.tupleHashOf (hs.map (·.1)))) { s with toks:=s.toks + ((hs.map (·.2)).sum + 1) }):wpAny (model prog w) A (PySem.pyHash (.ref a)) Q E s:=by
 obtain ⟨o,ho,hc,n,hd⟩:=hT;refine PySem.W.pyHash_slot (T:="tuple") ⟨_,ho,hc⟩ F.slot_tuple_hash F.entry_tuple_hash (F.args_tuple_hash_1 _) (beq_builtin_none _) (.inr (by omega)) ?_;show wpAny _ _ (Builtin.Tuple.tupleItemsOf (.ref a) >>= _) _ _ s
 refine wpAny_bind (wpAny_tupleItemsOf ho hd ?_);refine wpAny_bind ?_;rw [<- Array.forIn_toList];refine Wk (d:=d) (by simp only [Around.in1_units];omega) all rfl λ b hb=>?_;show wpAny _ _ (retInt (Builtin.Tuple.tupleHashOf b.toList)) _ _ _
 rw [hb];exact wpAny_bind (wpAny_mkInt (wpAny_pure ⟨_,_,rfl,by simpa [Nat.add_assoc] using h⟩))
theorem X8 {d:Nat} {a:Addr} {items:Array Value} {A:Around} {E:Value->Shared->Prop} {s:Shared} {Q:Bool->Shared->Prop} {n:Nat} (hT:IsTup s.heap a items) (all:∀ v∈items.toList,∀ (A:Around) (E:Value->Shared->Prop) (Q:Bool->Shared->Prop),Q true s->wpAny (model prog w) A (eqIsQuiet n v) Q E s) (h:Q true s):wpAny (model prog w) A (eqIsQuiet (n + 1) (.ref a)) Q E s:=by
 obtain ⟨o,ho,hc,m,hd⟩:=hT;have hT:s.TypeIs (.ref a) "tuple":=⟨o,ho,hc⟩;unfold eqIsQuiet;refine wpAny_bind (wpAny_specialOf hT F.slot_tuple_eq.lookup ?_);show wpAny _ _ (isInstance (.ref a) (.type "tuple") >>= _) _ _ s
 refine wpAny_bind (wpAny_isInstance hT isSubtype_tuple_tuple ?_);simp only [Bool.not_true,Bool.false_eq_true,if_false];refine wpAny_bind (wpAny_seqItems ho hd ?_);refine wpAny_bind ?_;show wpAny _ _ (forIn items _ _) _ _ s
 rw [<- Array.forIn_toList];refine wpAny_forIn_list _ (λ rest r s'=>r.1=none/\s'=s/\∀ v∈rest,v∈items.toList) _ ?_ ?_ _ _ ⟨rfl,rfl,λ v hv=>hv⟩
 ·rintro v rest r s' ⟨hr,rfl,hall⟩;refine wpAny_bind (all v (hall v mem_cons_self) _ _ _ ?_);simp only [Bool.not_true,Bool.false_eq_true,if_false];exact wpAny_pure ⟨rfl,rfl,λ u hu'=>hall u (mem_cons_of_mem _ hu')⟩
 ·rintro ⟨r1,r2⟩ s' ⟨hr,rfl,_⟩;simp only at hr;subst hr;exact wpAny_pure h
theorem Xf {h h':Heap} {b a:Addr} {items:Array Value} {o:Obj} {es:Array DictEntry} {ep:Nat} (x:IsTup h b items) (ho:h.get? a=some o) (hd:o.data=.dict es ep) (hs:Heap.SameBut a h h'):IsTup h' b items:=by
 obtain ⟨o',h1,h2,n,h3⟩:=x;have ne:b≠a:=λ z=>by
  subst z;rw [ho] at h1;cases h1;rw [hd] at h3;cases h3
 exact ⟨o',(hs.2 b ne).trans h1,h2,n,h3⟩
theorem vx {h:Heap} {b:Addr} {xs ys:Array Value} (x:IsTup h b xs) (y:IsTup h b ys):xs=ys:=by
 obtain ⟨o,h1,_,n,h3⟩:=x;obtain ⟨o',g1,_,m,g3⟩:=y;rw [h1] at g1;cases g1;rw [h3] at g3;injection g3
theorem zeU {κ:Type} [DecidableEq κ] {xs ys:List κ}:((List.range (min xs.length ys.length)).all (λ j=>decide (xs[j]?=ys[j]?)) && xs.length == ys.length)=decide (xs=ys):=by
 by_cases e:xs=ys
 ·subst e;simp
 ·rw [decide_eq_false e];by_cases hl:xs.length=ys.length
  ·have:¬ (List.range (min xs.length ys.length)).all (λ j=>decide (xs[j]?=ys[j]?))=true:=λ z=>e (List.ext_getElem? λ j=>by
    rw [List.all_eq_true] at z;by_cases hj:j < xs.length
    ·exact of_decide_eq_true (z j (List.mem_range.mpr (by omega)))
    ·rw [getElem?_eq_none (by omega),getElem?_eq_none (by omega)])
   simp only [Bool.not_eq_true] at this;rw [this]
   rfl
  ·have:(xs.length == ys.length)=false:=beq_eq_false_iff_ne.mpr hl;rw [this,Bool.and_false]
section
variable {κ:Type} [DecidableEq κ] {d:Nat}
theorem vY {F:κ->Value->Prop} (f:∀ (x y:κ) (v:Value),F x v->F y v->x=y):∀ {xs ys:List κ} {vs:List Value},Paired F xs vs->Paired F ys vs->xs=ys
 | _,_,_,.nil,h=>by cases h;rfl
 | _,_,_,.cons a t,h=>by
  cases h with
  | cons b u=>rw [f _ _ _ a b,vY f t u]
def wX (I:KItem prog w κ d):KItem prog w (List κ) (d + 1) where
 is:=λ h ks v=>∃ a items,v=.ref a/\IsTup h a items/\Paired (I.is h) ks items.toList
 hash:=λ ks=>reduceHash (Builtin.Tuple.tupleHashOf (ks.map I.hash))
 draws:=λ ks=>(ks.map I.draws).sum + 1
 inj:=by
  rintro h v x y ⟨a,items,rfl,h1,h2⟩ ⟨b,items',e,g1,g2⟩;cases e;have:=vx h1 g1;subst this;exact vY (F:=I.is h) (λ _ _ _ p q=>I.inj p q) h2 g2
 keeps:=by
  rintro h h' k v a o es ep ⟨b,items,rfl,h1,h2⟩ ho hd hs;exact ⟨b,items,rfl,Xf h1 ho hd hs,Paired.mapP h2 λ p q z=>I.keeps z ho hd hs⟩
 pyHash:=by
  rintro A E s k v Q hu ⟨b,items,rfl,h1,h2⟩ q;have all:∀ {ks:List κ} {vs:List Value},Paired (I.is s.heap) ks vs->HashAll prog w d s.heap vs (ks.map λ k=>(I.hash k,I.draws k)):=by
   intro ks vs p
   induction p with
   | nil=>exact .nil
   | cons z _ ih=>exact .cons (λ A E s' Q e hu q=>I.pyHash hu (by rw [e];exact z) q) ih
  refine zav h1 (all h2) hu ?_;rw [map_map,map_map];exact q
 eq:=by
  rintro A s x y u v hu ⟨a,xs,rfl,h1,h2⟩ ⟨b,ys,rfl,g1,g2⟩;by_cases e:a=b
  ·subst e;have:=vx h1 g1;subst this;rw [vY (F:=I.is s.heap) (λ _ _ _ p q=>I.inj p q) h2 g2,decide_eq_true rfl];exact SeqAt.EqAt.same _
  ·refine SeqAt.EqAt.of_refs e ?_;have l1:x.length=xs.size:=by rw [Paired.length h2,Array.length_toList]
   have l2:y.length=ys.size:=by rw [Paired.length g2,Array.length_toList]
   have:=SeqAt.RcAt.tuples (A:=A) (s:=s) (e:=λ j=>decide (x[j]?=y[j]?)) h1 g1 (by omega) (λ j hj1 hj2=>by
    obtain ⟨k1,e1⟩:∃ k,x[j]?=some k:=⟨x[j]'(by omega),getElem?_eq_getElem _⟩;obtain ⟨k2,e2⟩:∃ k,y[j]?=some k:=⟨y[j]'(by omega),getElem?_eq_getElem _⟩;have p1:=xU h2 e1 (show xs.toList[j]?=some xs[j] by rw [Array.getElem?_toList,Array.getElem?_eq_getElem hj1]);have p2:=xU g2 e2 (show ys.toList[j]?=some ys[j] by rw [Array.getElem?_toList,Array.getElem?_eq_getElem hj2]);rw [e1,e2,show decide (some k1=some k2)=decide (k1=k2) by simp];exact I.eq (by simp only [Around.in1_units];omega) p1 p2)
   rw [<- l1,<- l2,zeU] at this;exact this
 quiet:=by
  rintro A E s n k v Q hn ⟨b,items,rfl,h1,h2⟩ q;obtain ⟨m,rfl⟩:∃ m,n=m + 1:=⟨n - 1,by omega⟩;refine X8 (d:=d) h1 (λ v hv A E Q q=>?_) q;obtain ⟨j,hj⟩:=List.mem_iff_getElem?.mp hv;have hl:=(List.getElem?_eq_some_iff.mp hj).1;obtain ⟨k1,e1⟩:∃ x,k[j]?=some x:=⟨k[j]'(by rw [Paired.length h2];exact hl),getElem?_eq_getElem _⟩;exact I.quiet (by omega) (xU h2 e1 hj) q
end
section
variable {κ1 κ2 κ3 κ4:Type} [DecidableEq κ1] [DecidableEq κ2] [DecidableEq κ3] [DecidableEq κ4] {d1 d2 d3 d4:Nat}
def zdX (I1:KItem prog w κ1 d1) (I2:KItem prog w κ2 d2) (I3:KItem prog w κ3 d3) (I4:KItem prog w κ4 d4) (d:Nat) (l1:d1<=d) (l2:d2<=d) (l3:d3<=d) (l4:d4<=d):KItem prog w (κ1 × κ2 × κ3 × κ4) (d + 1) where
 is:=λ h k v=>∃ a u1 u2 u3 u4,v=.ref a/\IsTup h a #[u1,u2,u3,u4]/\I1.is h k.1 u1/\I2.is h k.2.1 u2/\I3.is h k.2.2.1 u3/\I4.is h k.2.2.2 u4
 hash:=λ k=>reduceHash (Builtin.Tuple.tupleHashOf [I1.hash k.1,I2.hash k.2.1,I3.hash k.2.2.1,I4.hash k.2.2.2])
 draws:=λ k=>[I1.draws k.1,I2.draws k.2.1,I3.draws k.2.2.1,I4.draws k.2.2.2].sum + 1
 inj:=by
  rintro h v ⟨x1,x2,x3,x4⟩ ⟨y1,y2,y3,y4⟩ ⟨a,u1,u2,u3,u4,rfl,h1,i1,i2,i3,i4⟩ ⟨b,v1,v2,v3,v4,e,g1,j1,j2,j3,j4⟩;cases e;have:=vx h1 g1;cases this;simp only at i1 i2 i3 i4 j1 j2 j3 j4;rw [I1.inj i1 j1,I2.inj i2 j2,I3.inj i3 j3,I4.inj i4 j4]
 keeps:=by
  rintro h h' k v a o es ep ⟨b,u1,u2,u3,u4,rfl,h1,i1,i2,i3,i4⟩ ho hd hs;exact ⟨b,u1,u2,u3,u4,rfl,Xf h1 ho hd hs,I1.keeps i1 ho hd hs,I2.keeps i2 ho hd hs,I3.keeps i3 ho hd hs,I4.keeps i4 ho hd hs⟩
 pyHash:=by
  rintro A E s k v Q hu ⟨b,u1,u2,u3,u4,rfl,h1,i1,i2,i3,i4⟩ q;refine zav (d:=d) (hs:=[(I1.hash k.1,I1.draws k.1),(I2.hash k.2.1,I2.draws k.2.1),(I3.hash k.2.2.1,I3.draws k.2.2.1),(I4.hash k.2.2.2,I4.draws k.2.2.2)]) h1 ?_ hu q;exact .cons (λ A E s' Q e hu q=>I1.pyHash (by omega) (by rw [e];exact i1) q) (.cons (λ A E s' Q e hu q=>I2.pyHash (by omega) (by rw [e];exact i2) q) (.cons (λ A E s' Q e hu q=>I3.pyHash (by omega) (by rw [e];exact i3) q) (.cons (λ A E s' Q e hu q=>I4.pyHash (by omega) (by rw [e];exact i4) q) .nil)))
 eq:=by
  rintro A s ⟨x1,x2,x3,x4⟩ ⟨y1,y2,y3,y4⟩ u v hu ⟨a,u1,u2,u3,u4,rfl,h1,i1,i2,i3,i4⟩ ⟨b,v1,v2,v3,v4,rfl,g1,j1,j2,j3,j4⟩;simp only at i1 i2 i3 i4 j1 j2 j3 j4;by_cases e:a=b
  ·subst e;have:=vx h1 g1;cases this;rw [I1.inj i1 j1,I2.inj i2 j2,I3.inj i3 j3,I4.inj i4 j4,decide_eq_true rfl];exact SeqAt.EqAt.same _
  ·refine SeqAt.EqAt.of_refs e ?_;have hu':A.in1.units + d < cLine:=by simp only [Around.in1_units];omega
   have:=SeqAt.RcAt.tuples (A:=A) (s:=s) (e:=λ j=>[decide (x1=y1),decide (x2=y2),decide (x3=y3),decide (x4=y4)].getD j true) h1 g1 (by omega) (λ j hj1 hj2=>by
    match j,hj1,hj2 with
    | 0,_,_=>exact I1.eq (by omega) i1 j1
    | 1,_,_=>exact I2.eq (by omega) i2 j2
    | 2,_,_=>exact I3.eq (by omega) i3 j3
    | 3,_,_=>exact I4.eq (by omega) i4 j4)
   have z:((List.range (min (#[u1,u2,u3,u4]:Array Value).size (#[v1,v2,v3,v4]:Array Value).size)).all (λ j=>[decide (x1=y1),decide (x2=y2),decide (x3=y3),decide (x4=y4)].getD j true) && (#[u1,u2,u3,u4]:Array Value).size == (#[v1,v2,v3,v4]:Array Value).size)=decide ((x1,x2,x3,x4)=(y1,y2,y3,y4)):=by
    show ((List.range 4).all _ && true)=_
    rw [show List.range 4=[0,1,2,3] from rfl];simp only [List.all_cons,List.all_nil,Bool.and_true,List.getD_cons_zero,List.getD_cons_succ,Prod.mk.injEq];by_cases a1:x1=y1 <;> by_cases a2:x2=y2 <;> by_cases a3:x3=y3 <;> by_cases a4:x4=y4 <;> simp [a1,a2,a3,a4]
   rw [z] at this;exact this
 quiet:=by
  rintro A E s n k v Q hn ⟨b,u1,u2,u3,u4,rfl,h1,i1,i2,i3,i4⟩ q;obtain ⟨m,rfl⟩:∃ m,n=m + 1:=⟨n - 1,by omega⟩;refine X8 (d:=d) h1 (λ v hv A E Q q=>?_) q;have hv:v=u1\/v=u2\/v=u3\/v=u4:=by simpa using hv
  rcases hv with rfl|rfl|rfl|rfl
  ·exact I1.quiet (by omega) i1 q
  ·exact I2.quiet (by omega) i2 q
  ·exact I3.quiet (by omega) i3 q
  ·exact I4.quiet (by omega) i4 q
end
abbrev ShK:=Option Int × List (List (Option Int)) × List (Option Int) × List (Option Int)
def jl (prog:Program) (w:World):KItem prog w ShK 3:=zdX (jx prog w) (wX (wX (jx prog w))) (wX (jx prog w)) (wX (jx prog w)) 2 (by decide) (by decide) (by decide) (by decide)
def xK (prog:Program) (w:World):HeapKind prog w ShK where
 is:=λ h k a=>(jl prog w).is h k (.ref a)
 hash:=(jl prog w).hash
 draws:=(jl prog w).draws
 room:=λ A=>A.units + 3 < cLine
 inj:=λ hx hy=>(jl prog w).inj hx hy
 keeps:=λ x ho hd hs=>(jl prog w).keeps x ho hd hs
 pyHash:=λ hu hk h=>(jl prog w).pyHash hu hk h
 eqBool:=λ hu hx hy h=>(jl prog w).eq hu hx hy prog w _ _ h
 quiet:=λ hk h=>(jl prog w).quiet (by decide) hk h
end
def oiD:Option Int->D
 | none=>.non
 | some n=>.int n
def shD (k:ShK):D:=.tup [oiD k.1,.tup (k.2.1.map λ r=>.tup (r.map oiD)),.tup (k.2.2.1.map oiD),.tup (k.2.2.2.map oiD)]
theorem Wb {α β:Type} {F:α->β->Prop}:∀ {xs:List α} {ys:List β},xs.length=ys.length->(∀ (i:Nat) x y,xs[i]?=some x->ys[i]?=some y->F x y)->Paired F xs ys
 | [],[],_,_=>.nil
 | [],_ :: _,h,_=>by simp at h
 | _ :: _,[],h,_=>by simp at h
 | x :: xs,y :: ys,h,f=>.cons (f 0 x y rfl rfl) (Wb (by simpa using h) λ i a b e1 e2=>f (i + 1) a b e1 e2)
section
variable {P:Program} {w:World} {H:Hp} {h:Heap} {p:Addr->Prop}
theorem ZJ {x:Option Int} {v:V} {u:Value} (r:Rep H p v (oiD x)) (e:RelV v u):(jx P w).is h x u:=by
 cases x with
 | none =>
  have r:Rep H p v .non:=r;cases r;exact e
 | some n =>
  have r:Rep H p v (.int n):=r;cases r;exact e
theorem Q8 {κ:Type} [DecidableEq κ] {d:Nat} (ok:HOk P w H h) {I:KItem P w κ d} {f:κ->D} (hI:∀ x v u,Rep H p v (f x)->RelV v u->I.is h x u) {xs:List κ} {v:V} {u:Value} (r:Rep H p v (.tup (xs.map f))) (e:RelV v u):(wX I).is h xs u:=by
 obtain ⟨t,us,rfl,_,ht,rr⟩:=Rep.tup' r;obtain ⟨_,its,vals,isT⟩:=(show ObjOk P w H h t (.tup us) from ok t _ ht);refine ⟨t,its.toArray,e,isT,Wb ?_ λ i x y e1 e2=>?_⟩
 ·rw [List.toList_toArray,<- vals.length,rr.len,length_map]
 ·rw [List.toList_toArray] at e2;obtain ⟨v',hv',rv⟩:=rr.of (i:=i) (d:=f x) (by rw [getElem?_map,e1];rfl);exact hI x v' y rv (xU vals hv' e2)
theorem zco {α:Type} {n:Nat}:∀ {us:List α},us.length=n + 1->∃ v w,us=v :: w/\w.length=n
 | v :: w,h=>⟨v,w,rfl,by simpa using h⟩
theorem zb4 {v:V} {vs:List V} {us:List Value} (h:Vals (v :: vs) us):∃ u ws,us=u :: ws/\RelV v u/\Vals vs ws:=by
 cases h with
 | cons a b=>exact ⟨_,_,rfl,a,b⟩
theorem wY (ok:HOk P w H h) {k:ShK} {b:Addr} (r:Rep H p (.ref b) (shD k)):(xK P w).is h k b:=by
 obtain ⟨t,us,e,_,ht,rr⟩:=Rep.tup' r;cases e;obtain ⟨_,its,vals,isT⟩:=(show ObjOk P w H h b (.tup us) from ok b _ ht);have g:=rr.g;obtain ⟨v1,w1,rfl,l1⟩:=zco rr.len;obtain ⟨v2,w2,rfl,l2⟩:=zco l1;obtain ⟨v3,w3,rfl,l3⟩:=zco l2;obtain ⟨v4,w4,rfl,l4⟩:=zco l3;cases List.length_eq_zero_iff.mp l4;obtain ⟨u1,z1,rfl,q1,vals⟩:=zb4 vals;obtain ⟨u2,z2,rfl,q2,vals⟩:=zb4 vals;obtain ⟨u3,z3,rfl,q3,vals⟩:=zb4 vals;obtain ⟨u4,z4,rfl,q4,vals⟩:=zb4 vals;cases vals;have k1:=ZJ (P:=P) (w:=w) (h:=h) (g 0 v1 _ rfl rfl) q1;have k2:=Q8 ok (I:=wX (jx P w)) (λ x v u r e=>Q8 ok (I:=jx P w) (λ x v u r e=>ZJ r e) r e) (g 1 v2 _ rfl rfl) q2;have k3:=Q8 ok (I:=jx P w) (λ x v u r e=>ZJ r e) (g 2 v3 _ rfl rfl) q3;have k4:=Q8 ok (I:=jx P w) (λ x v u r e=>ZJ r e) (g 3 v4 _ rfl rfl) q4;exact ⟨b,u1,u2,u3,u4,rfl,isT,k1,k2,k3,k4⟩
end
def toV (x:ShK × Addr × Addr):ShK × Addr × Value:=(x.1,x.2.1,.ref x.2.2)
def sdO (P:Program) (w:World) (D:Addr) (xs:List (ShK × Addr × Addr)):HO:=.ext λ h=>((D == sysModules)=false/\xs.length<=sizeLine/\(xs.map (·.1)).Nodup)/\∃ o es ep,h.get? D=some o/\o.ExactDict/\o.data=.dict es ep/\es.toList=(xs.map toV).map (entryOfKey (xK P w))
def keysOk (H:Hp) (xs:List (ShK × Addr × Addr)):Prop:=∀ x∈xs,∃ p:Addr->Prop,Rep H p (.ref x.2.1) (shD x.1)
def xB (xs:List (ShK × Addr × Addr)) (k:ShK):Option Addr:=(xs.find? λ x=>decide (x.1=k)).map (·.2.2)
theorem ZD (k:ShK):∀ xs:List (ShK × Addr × Addr),(atKey (xs.map toV) k).map (·.2)=(xB xs k).map Value.ref
 | []=>rfl
 | x :: xs=>by
  have ih:=ZD k xs;unfold atKey xB at ih ⊢;rw [map_cons,find?_cons,find?_cons];show Option.map _ (Option.map _ (match decide (x.1=k) with|true=>some (toV x)|false=>_))=_
  by_cases e:x.1=k
  ·rw [decide_eq_true e];rfl
  ·rw [decide_eq_false e];exact ih
theorem keysOk.same {H H':Hp} {xs:List (ShK × Addr × Addr)} (h:keysOk H xs) (s:∀ b ys,H b=some (.tup ys)->H' b=some (.tup ys)) (t:∀ x∈xs,∃ p:Addr->Prop,Rep H p (.ref x.2.1) (shD x.1)/\∀ b o,p b->H b=some o->H' b=some o):keysOk H' xs:=λ x hx=>by
 obtain ⟨p,r,k⟩:=t x hx;exact ⟨p,r.keep λ b o pb hb=>⟨pb,k b o pb hb⟩⟩
theorem zb0 {P:Program} {w:World} {H:Hp} {h:Heap} {D:Addr} {xs:List (ShK × Addr × Addr)} (ok:HOk P w H h) (e:H D=some (sdO P w D xs)) (ks:keysOk H xs):(D == sysModules)=false/\xs.length<=sizeLine/\(xs.map (·.1)).Nodup/\h.DictOfH (xK P w) D (xs.map toV):=by
 obtain ⟨⟨⟨h1,h2,h3⟩,o,es,ep,g1,g2,g3,g4⟩,_,_⟩:=(show ObjOk P w H h D (sdO P w D xs) from ok D _ e);refine ⟨h1,h2,h3,o,es,ep,g1,g2,g3,g4,λ x hx=>?_,by rw [map_map];exact h3⟩;obtain ⟨y,hy,rfl⟩:=List.mem_map.mp hx;obtain ⟨p,r⟩:=ks y hy;exact wY ok r
theorem zfV {P:Program} {w:World} {H:Hp} {h:Heap} {D:Addr} {xs:List (ShK × Addr × Addr)} (h1:(D == sysModules)=false) (h2:xs.length<=sizeLine) (h3:(xs.map (·.1)).Nodup) (g:∃ o es ep,h.get? D=some o/\o.ExactDict/\o.data=.dict es ep/\es.toList=(xs.map toV).map (entryOfKey (xK P w))):ObjOk P w H h D (sdO P w D xs):=by
 refine ⟨⟨⟨h1,h2,h3⟩,g⟩,?_,?_⟩
 ·obtain ⟨o,_,_,g1,_⟩:=g;exact ⟨o,g1⟩
 ·rintro k1 k2 ⟨a,o,es,ep,g1,g2⟩ k;exact ⟨a,o,es,ep,k o g1,g2⟩
section
variable {X:Cx} {pins:List (Addr × Obj)} {σ:St} {H:Hp} {s:Shared} {D b y:Addr} {A:Around} {E:Value->Shared->Prop} {xs:List (ShK × Addr × Addr)} {k:ShK} {p:Addr->Prop}
theorem vU (hu:A.units + 100 < cLine):(xK X.prog X.w).room A.in1:=by
 show A.in1.units + 3 < cLine
 simp only [Around.in1_units];omega
theorem zhD {Q:Value->Shared->Prop} (hu:A.units + 100 < cLine) (I:Inv X pins σ H s) (e:H D=some (sdO X.prog X.w D xs)) (ks:keysOk H xs) (r:Rep H p (.ref b) (shD k)) (h:∀ s',Inv X pins σ H s'->Q (.bool (xB xs k).isSome) s'):wpAny (model X.prog X.w) A (compareOp .In (.ref b) (.ref D)) Q E s:=by
 obtain ⟨h1,h2,h3,dd⟩:=zb0 I.hok e ks;refine wpAny_in_heap (vU hu) (wY I.hok r) h1 dd ?_;have q:=congrArg Option.isSome (ZD k xs);rw [Option.isSome_map,Option.isSome_map] at q;rw [q];exact h _ (I.tok _)
theorem zg4 {Q:Value->Shared->Prop} (hu:A.units + 100 < cLine) (I:Inv X pins σ H s) (e:H D=some (sdO X.prog X.w D xs)) (ks:keysOk H xs) (r:Rep H p (.ref b) (shD k)) (l:xB xs k=some y) (h:∀ s',Inv X pins σ H s'->Q (.ref y) s'):wpAny (model X.prog X.w) A (getItem (.ref D) (.ref b)) Q E s:=by
 obtain ⟨h1,h2,h3,dd⟩:=zb0 I.hok e ks;have q:=ZD k xs;rw [l] at q;obtain ⟨z,hz,e2⟩:=Option.map_eq_some_iff.mp q;refine wpAny_getItem_heap (vU hu) (wY I.hok r) dd hz ?_;rw [e2];exact h _ (I.tok _)
theorem zg3 {Q:Unit->Shared->Prop} (hu:A.units + 100 < cLine) (I:Inv X pins σ H s) (e:H D=some (sdO X.prog X.w D xs)) (ks:keysOk H xs) (r:Rep H p (.ref b) (shD k)) (l:xB xs k=none) (hl:xs.length < sizeLine) (h:∀ s',Inv X pins σ (upd H D (sdO X.prog X.w D (xs ++ [(k,b,y)]))) s'->Q () s'):wpAny (model X.prog X.w) A (setItem (.ref D) (.ref b) (.ref y)) Q E s:=by
 obtain ⟨h1,h2,h3,dd⟩:=zb0 I.hok e ks;have q:=ZD k xs;rw [l] at q;have q:atKey (xs.map toV) k=none:=by simpa using q
 refine wpAny_setItem_heap (hsz:=by rw [length_map];exact h2) (vU hu) (wY I.hok r) dd λ h' dd' hs=>h _ ?_;rw [storedH_new q] at dd';obtain ⟨o,es,ep,g1,g2,g3,g4,_,g5⟩:=dd';refine zfE I (by rw [e];exact True.intro) hs ⟨o,g1⟩ (zfV h1 (by simp;omega) ?_ ⟨o,es,ep,g1,g2,g3,?_⟩)
 ·have:(xs ++ [(k,b,y)]).map (·.1)=((xs.map toV ++ [(k,b,Value.ref y)]).map (·.1)):=by simp [toV]
  rw [this];exact g5
 ·rw [g4];simp [toV]
end
def tSIn (P:Program) (w:World) (ty td:TE):TE:=λ σ H Q=>ty σ H λ y H1=>td σ H1 λ x H2=>∃ D b xs k p,x=.ref D/\y=.ref b/\H2 D=some (sdO P w D xs)/\keysOk H2 xs/\Rep H2 p (.ref b) (shD k)/\Q (.bl (xB xs k).isSome) H2
def tSGet (P:Program) (w:World) (td ty:TE):TE:=λ σ H Q=>td σ H λ x H1=>ty σ H1 λ y H2=>∃ D b xs k p z,x=.ref D/\y=.ref b/\H2 D=some (sdO P w D xs)/\keysOk H2 xs/\Rep H2 p (.ref b) (shD k)/\xB xs k=some z/\Q (.ref z) H2
def sSPut (P:Program) (w:World) (td ty tv:TE):TS:=λ N σ H=>tv σ H λ v H1=>td σ H1 λ x H2=>ty σ H2 λ y H3=>∃ D b xs k p z,x=.ref D/\y=.ref b/\v=.ref z/\H3 D=some (sdO P w D xs)/\keysOk H3 xs/\Rep H3 p (.ref b) (shD k)/\xB xs k=none/\xs.length < sizeLine/\N.nx σ (upd H3 D (sdO P w D (xs ++ [(k,b,z)])))
def tSNew (P:Program) (w:World):TE:=λ _ H Q=>∀ p,H p=none->Q (.ref p) (upd H p (sdO P w p []))
section
variable {X:Cx} {o i value:Expr} {pos pos':Pos} {td ty tv:TE}
theorem zgo (hu:X.A.units + 100 < cLine) (hi:PE X i ty) (ho:PE X o td):PC X .In i o (tSIn X.prog X.w ty td):=by
 intro pins s σ H Q I h;refine qp (hi pins s σ H _ I h) λ iv s1 y H1 I1 ry q1=>qp (ho pins s1 σ H1 _ I1 q1) λ u s2 x H2 I2 rx qq_=>?_;obtain ⟨D,b,xs,k,p,ex,ey,e,ks,r,q2⟩:=qq_;subst ex ey;obtain rfl:u=Value.ref D:=rx;obtain rfl:iv=Value.ref b:=ry;exact zhD hu I2 e ks r λ s3 I3=>⟨.bl _,H2,I3,rfl,q2⟩
theorem zfk (hu:X.A.units + 100 < cLine) (ho:PE X o td) (hi:PE X i ty) (hs:zhv i):PE X (.Subscript o i pos) (tSGet X.prog X.w td ty):=by
 intro pins s σ H Q I h;refine ze2 PySem.F.slot_dict_getitem.lookup hs (qp (ho pins s σ H _ I h) λ u s1 x H1 I1 rx q1=>qp (hi pins s1 σ H1 _ I1 q1) λ iv s2 y H2 I2 ry qq_=>?_);obtain ⟨D,b,xs,k,p,z,ex,ey,e,ks,r,l,q2⟩:=qq_;subst ex ey;obtain rfl:u=Value.ref D:=rx;obtain rfl:iv=Value.ref b:=ry;exact ⟨(zb0 I2.hok e ks).2.2.2.typeIs,zg4 hu I2 e ks r l λ s3 I3=>⟨.ref z,H2,I3,rfl,q2⟩⟩
theorem zfh (hu:X.A.units + 100 < cLine) (ho:PE X o td) (hi:PE X i ty) (hv:PE X value tv) (hs:swapsWith value (some (.Subscript o i pos')) pos.line X.env=pure false) :
  PS X (.Assign [.Subscript o i pos'] value pos) (sSPut X.prog X.w td ty tv):=by
 intro pins s σ H N I h;refine wpAny_Assign_Subscript (qp (hv pins s σ H _ I h) λ r s1 v H1 I1 rv q1=>qp (ho pins s1 σ H1 _ I1 q1) λ u s2 x H2 I2 rx q2=>qp (hi pins s2 σ H2 _ I2 q2) λ iv s3 y H3 I3 ry qq_=>?_) hs;obtain ⟨D,b,xs,k,p,z,ex,ey,ez,e,ks,r',l,hl,q3⟩:=qq_;subst ex ey ez;obtain rfl:u=Value.ref D:=rx;obtain rfl:iv=Value.ref b:=ry;obtain rfl:r=Value.ref z:=rv;exact zg3 hu I3 e ks r' l hl λ s4 I4=>⟨σ,_,I4,q3⟩
theorem zfj:PE X (.Dict [] [] pos) (tSNew X.prog X.w):=λ pins s σ H Q I h =>
 wpAny_Dict_empty ⟨.ref s.heap.objs.size,_,I.laid (a:=s.heap.objs.size) (o:=sdO X.prog X.w s.heap.objs.size []) (t':=s.toks) (λ _ _ q=>Heap.get?_push_of_some _ q) (Nat.le_refl _) (zfV (beq_eq_false_iff_ne.mpr (Ne.symm (Nat.ne_of_lt I.big))) (Nat.zero_le _) List.nodup_nil ⟨_,#[],0,Heap.get?_push_size _ rfl,⟨rfl,rfl,rfl⟩,rfl,rfl⟩),rfl,h _ (I.hok.fresh (Nat.le_refl _))⟩
end
section
variable {X:Cx} {G:GK} {x:Str} {np pos hpos:Pos} {body su:List Stmt} {b₀:Stmt} {tb:List (Addr × Obj)->GK->TS} {th:List (Addr × Obj)->Addr->TS}
def zfR (X:Cx) (x:Str) (tb:List (Addr × Obj)->GK->TS) (th:List (Addr × Obj)->Addr->TS):TS:=λ D σ H=>∃ Dc,X.mg x=some (.ref Dc)/\PySem.W.subIn X.K (.ref Dc) (.type "BaseException")=some true /\
 ∀ pn,tb pn (λ cls σ' H'=>∃ C,cls=.ref C/\PySem.W.kitCls X.K (.ref C) (.ref Dc)=some true/\∀ a,H' a=none->th pn a D σ' H') D σ H
theorem zgj (B:Bod X) (hc:X.calm=true)
  (hb:∀ pn G',PSs ((X.pinned pn).exg G') body (tb pn G')) (hs:∀ pn a,PSs (X.suite pn a) (b₀ :: su) (th pn a)) (hg:Gl X x:=by rfl) (hdb:(x == ("__debug__":Str))=false:=by decide) :
  PS (X.exg G) (.Try body [.ExceptHandler (some (.Name x np)) none (b₀ :: su) hpos] [] [] pos) (zfR X x tb th):=by
 intro pins s σ H D I h;obtain ⟨Dc,hm,hsub,h⟩:=h;have I1:=I.unwish.topn;refine wpAny_Try_except (wpAny_mono (hb (X.pn ++ pins) _ [] s σ H D (I1.wish _) (h (X.pn ++ pins))) (λ f s1 q=>?_) λ e s1 q=>?_)
 ·cases f with
  | next =>
   obtain ⟨σ',H',J,q⟩:=q;exact wpAny_execs_nil ⟨σ',H',J.unwish.ofpn.wish _,q⟩
  | brk=>obtain ⟨σ',H',J,q⟩:=q;exact ⟨σ',H',J.unwish.ofpn.wish _,q⟩
  | cont=>obtain ⟨σ',H',J,q⟩:=q;exact ⟨σ',H',J.unwish.ofpn.wish _,q⟩
  | ret u=>obtain ⟨v,σ',H',J,r,q⟩:=q;exact ⟨v,σ',H',J.unwish.ofpn.wish _,r,q⟩
 ·refine wpAny_mono (show wpAny _ _ _ _ _ _ from q) (λ _ s2 q2=>wpAny_mono q2 (λ _ s3 q3=>?_) λ _ _ z=>z.elim) λ _ _ z=>z.elim;obtain ⟨a,cls,σ',H',rfl,J,xx,C,rfl,hk,hth⟩:=q3;have J2:Inv (X.suite (X.pn ++ pins) a) [] σ' H' s3:=J.tosuite;obtain ⟨oe,vs,he,hcls,_,_⟩:=xx.obj;refine wpAny_handleBy_cons (codeAny_handlers_test (xa J2 hg hm (QG J2.kIn he hcls hk hsub ?_) hdb)) (by intro z;cases z);refine codeAny_handlers_suite ?_;refine Xj J2 (xx.less λ p hp=>by rwa [append_nil] at hp) λ s4 J4 x4=>?_;refine wpAny_mono (hs (X.pn ++ pins) a [] s4 _ _ _ J4 (hth a xx.Ha)) (λ f s6 q6=>?_) λ _ _ z=>False.elim z;cases f with
  | next=>obtain ⟨σ7,H7,J7,q7⟩:=q6;exact ⟨σ7,H7,(J7.ofsuite I.ok.hd).ofpn.wish _,q7⟩
  | brk=>obtain ⟨σ7,H7,J7,q7⟩:=q6;exact ⟨σ7,H7,(J7.ofsuite I.ok.hd).ofpn.wish _,q7⟩
  | cont=>obtain ⟨σ7,H7,J7,q7⟩:=q6;exact ⟨σ7,H7,(J7.ofsuite I.ok.hd).ofpn.wish _,q7⟩
  | ret u=>obtain ⟨v,σ7,H7,J7,r7,q7⟩:=q6;exact ⟨v,σ7,H7,(J7.ofsuite I.ok.hd).ofpn.wish _,r7,q7⟩
end
theorem ZQ {X:Cx}:CallR X (.type "tuple") (λ xs H Q=>∃ p ys,xs=[.ref p]/\((SqL X.K H p ys/\∀ l,H l=none->Q (.ref l) (upd H l (.tup ys)))\/(SqT X.K H p ys/\Q (.ref p) H))):=XU
end L2
namespace Mine
theorem zeB {p r:Int} (hp:0<=p) (hr:0 < r):Int.gcd r (p % r)=Int.gcd p r:=by
 have e:(p % r).natAbs=p.natAbs % r.natAbs:=by
  have h1:p=(p.natAbs:Int):=by omega
  have h2:r=(r.natAbs:Int):=by omega
  rw [h1,h2,<- Int.natCast_emod,Int.natAbs_natCast,Int.natAbs_natCast,Int.natAbs_natCast]
 show Nat.gcd r.natAbs (p % r).natAbs=Nat.gcd p.natAbs r.natAbs
 rw [e,Nat.gcd_comm p.natAbs,Nat.gcd_rec r.natAbs p.natAbs,Nat.gcd_comm]
theorem zfB {p:Int} (hp:0<=p):(Int.gcd p 0:Int)=p:=by
 rw [Int.gcd_zero_right];omega
theorem zce {a b:Int} (h:¬ (a=0/\b=0)):1<=(Int.gcd a b:Int):=by
 have:0 < Int.gcd a b:=Int.gcd_pos_iff.mpr (by omega);omega
end Mine
namespace Mine
structure IsLcm (ns:List Int) (l:Int):Prop where
 pos:0 < l
 dv:∀ n∈ns,n ∣ l
 least:∀ m:Int,(∀ n∈ns,n ∣ m)->l ∣ m
theorem IsLcm.nil:IsLcm [] 1:=⟨by decide,(λ _ h=>nomatch h),λ m _=>Int.one_dvd m⟩
theorem zgy {a b:Int} (ha:0 < a) (hb:0 < b):a / (Int.gcd a b:Int) * b=(Nat.lcm a.natAbs b.natAbs:Int):=by
 have g:(Int.gcd a b:Int) ∣ a:=Int.gcd_dvd_left ..;obtain ⟨k,hk⟩:=g;have gp:0 < (Int.gcd a b:Int):=by have:=zce (a:=a) (b:=b) (by omega);omega
 have e1:a / (Int.gcd a b:Int)=k:=by
  conv=>lhs;rw [hk]
  have hk':=hk;rw [Int.mul_comm (Int.gcd a b:Int) k];have e2:Int.gcd (k * (Int.gcd a b:Int)) b=Int.gcd a b:=by rw [Int.mul_comm,<- hk]
  rw [e2];exact Int.mul_ediv_cancel _ (by omega)
 have hkn:0 < k:=by
  rcases (by omega:k<=0\/0 < k) with h|h
  ·have:=Int.mul_nonpos_of_nonneg_of_nonpos (Int.le_of_lt gp) h;omega
  ·exact h
 have hg:Nat.gcd a.natAbs b.natAbs * Nat.lcm a.natAbs b.natAbs=a.natAbs * b.natAbs:=Nat.gcd_mul_lcm ..;have ea:a.natAbs=Nat.gcd a.natAbs b.natAbs * k.natAbs:=by
  have:=congrArg Int.natAbs hk;rw [Int.natAbs_mul,Int.natAbs_natCast] at this;exact this
 have gp':0 < Nat.gcd a.natAbs b.natAbs:=by
  have:(Nat.gcd a.natAbs b.natAbs:Int)=(Int.gcd a b:Int):=rfl;omega
 have e3:Nat.lcm a.natAbs b.natAbs=k.natAbs * b.natAbs:=by
  apply Nat.eq_of_mul_eq_mul_left gp';rw [hg,<- Nat.mul_assoc,<- ea]
 rw [e1,e3];rw [Int.natCast_mul];have h1:k=(k.natAbs:Int):=by omega
 have h2:b=(b.natAbs:Int):=by omega
 rw [<- h1,<- h2]
theorem vI {a b:Int} (h:a ∣ b):a.natAbs ∣ b.natAbs:=Int.natAbs_dvd_natAbs.mpr h
theorem IsLcm.step {ns:List Int} {l p:Int} (x:IsLcm ns l) (hp:0 < p):IsLcm (ns ++ [p]) (l / (Int.gcd l p:Int) * p):=by
 rw [zgy x.pos hp];have lp:0 < l.natAbs:=by have:=x.pos;omega
 have pp:0 < p.natAbs:=by omega
 refine ⟨?_,λ n hn=>?_,λ m hm=>?_⟩
 ·have:=Nat.lcm_pos lp pp;omega
 ·rcases List.mem_append.mp hn with h|h
  ·have h1:=x.dv n h;refine Int.dvd_trans h1 ?_;rw [<- Int.natAbs_dvd_natAbs,Int.natAbs_natCast];exact Nat.dvd_lcm_left ..
  ·rw [List.mem_singleton.mp h,<- Int.natAbs_dvd_natAbs,Int.natAbs_natCast];exact Nat.dvd_lcm_right ..
 ·have h1:=x.least m λ n hn=>hm n (mem_append_left _ hn);have h2:=hm p (mem_append_right _ (List.mem_singleton.mpr rfl));rw [<- Int.natAbs_dvd_natAbs,Int.natAbs_natCast];exact Nat.lcm_dvd (vI h1) (vI h2)
theorem Vm {a b:Int} (hb:0 < b):(Int.gcd a b:Int)<=b:=Int.le_of_dvd hb (Int.gcd_dvd_right ..)
end Mine
namespace L2
open PySem PySem.Spec PyProof.Rows
section
variable {X:Cx} {K:PySem.W.Frag} {σ:St} {H:Hp} {Q:VK} {D:Ends}
theorem rd_iq {i:Int} {P:Int->Prop}:iq (.int i) P=P i:=rfl
theorem rd_bq {b:Bool} {P:Bool->Prop}:bq (.bl b) P=P b:=rfl
theorem rd_nq {P:Prop}:nq .non P=P:=rfl
theorem rd_lq {v:V} {P:V->Prop}:lq [v] P=P v:=rfl
theorem rd_vq {v:V} {P:V->Prop}:vq (some (some v)) P=P v:=rfl
theorem rd_addI {i j:Int}:V2 K (.int i) (.int j) H Q=Q (.int (i + j)) H:=rfl
theorem rd_addS {i j:Str}:V2 K (.str i) (.str j) H Q=(i.length + j.length<=sizeLine/\Q (.str (i ++ j)) H):=rfl
theorem rd_mc {α β:Type} {f:α->β} {a:α} {l:List α}:List.map f (a :: l)=f a :: List.map f l:=rfl
theorem rd_mn {α β:Type} {f:α->β}:List.map f []=[]:=rfl
theorem rd_itT {A B:Prop}:(if true=true then A else B)=A:=rfl
theorem rd_itF {A B:Prop}:(if false=true then A else B)=B:=rfl
theorem rd_is0 {A B:Prop}:(if V.non=V.non then A else B)=A:=rfl
theorem rd_is1 {a:Addr} {A B:Prop}:(if V.ref a=V.non then A else B)=B:=rfl
theorem rd_is2 {a:Int} {A B:Prop}:(if V.int a=V.non then A else B)=B:=rfl
theorem rd_in0 {A B:Prop}:(if ¬ V.non=V.non then A else B)=B:=rfl
theorem rd_in1 {a:Addr} {A B:Prop}:(if ¬ V.ref a=V.non then A else B)=A:=rfl
theorem rd_in2 {a:Int} {A B:Prop}:(if ¬ V.int a=V.non then A else B)=A:=rfl
theorem rd_sz0 {P:Prop}:szl [] P=P:=rfl
section
variable {P:Prop} {a b c d e f g h i:V}
theorem rd_sz1:szl [a] P=P:=rfl
theorem rd_sz2:szl [a,b] P=P:=rfl
theorem rd_sz3:szl [a,b,c] P=P:=rfl
theorem rd_sz4:szl [a,b,c,d] P=P:=rfl
theorem rd_sz5:szl [a,b,c,d,e] P=P:=rfl
theorem rd_sz6:szl [a,b,c,d,e,f] P=P:=rfl
theorem rd_sz7:szl [a,b,c,d,e,f,g] P=P:=rfl
theorem rd_sz8:szl [a,b,c,d,e,f,g,h] P=P:=rfl
theorem rd_sz9:szl [a,b,c,d,e,f,g,h,i] P=P:=rfl
end
def zch:Nat->List Stmt->Bool
 | 0,_=>false
 | n + 1,b=>match b.getLast? with
  | some (.Return ..)=>true
  | some (.Raise ..)=>true
  | some (.Continue ..)=>true
  | some (.Break ..)=>true
  | some (.If _ b e _)=>zch n b && zch n e
  | _=>false
def zhn:Stmt->Bool
 | .For ..=>true
 | .While ..=>true
 | .Try ..=>true
 | .If _ b e _=>!zch 9 b && !zch 9 e
 | _=>false
theorem fa {X:Cx} {st:Stmt} {t:TS} (_:zhn st=true) (p:PS X st t):PS X st t:=p
structure Vr (X:Cx) (i:Nat) (x:Str):Prop where
 n:X.N[i]?=some x
 v:Vis X.env.scope x
 d:(x == ("__debug__":Str))=false
 c:(x == ("__classdict__":Str))=false
theorem pq {X:Cx} (i:Nat) {x:Str} {pos:Pos} (h:Vr X i x:=by walk_at "v"):PE X (.Name x pos) (tVar i):=zgm h.n h.v h.d h.c
theorem rd_trB {b:Bool} {P:Bool->Hp->Prop}:trq K (.bl b) H P=P b H:=rfl
theorem rd_trI {i:Int} {P:Bool->Hp->Prop}:trq K (.int i) H P=∃ k,zdy K (.int i) H k/\P k H:=rfl
theorem rd_trR {a:Addr} {P:Bool->Hp->Prop}:trq K (.ref a) H P=∃ k,zdy K (.ref a) H k/\P k H:=rfl
theorem rd_trS {x:Str} {P:Bool->Hp->Prop}:trq K (.str x) H P=∃ k,zdy K (.str x) H k/\P k H:=rfl
theorem rd_eqI {i j:Int}:za8 K (.int i) (.int j) H Q=Q (.bl (decide (i=j))) H:=rfl
theorem rd_neI {i j:Int}:za7 K (.int i) (.int j) H Q=Q (.bl (!decide (i=j))) H:=rfl
theorem rd_eqS {i j:Str}:za8 K (.str i) (.str j) H Q=Q (.bl (decide (i=j))) H:=rfl
theorem rd_eqB {i j:Bool}:za8 K (.bl i) (.bl j) H Q=Q (.bl (decide (i=j))) H:=rfl
theorem rd_eTI {i j:Int}:zcN K (.int i) (.int j) H Q=if i=j then Q (.bl true) H else Q (.bl false) H:=rfl
theorem rd_eTS {i j:Str}:zcN K (.str i) (.str j) H Q=if i=j then Q (.bl true) H else Q (.bl false) H:=rfl
theorem rd_eTB {i j:Bool}:zcN K (.bl i) (.bl j) H Q=if i=j then Q (.bl true) H else Q (.bl false) H:=rfl
theorem rd_nTI {i j:Int}:zcM K (.int i) (.int j) H Q=if ¬ i=j then Q (.bl true) H else Q (.bl false) H:=rfl
theorem rd_nTS {i j:Str}:zcM K (.str i) (.str j) H Q=if ¬ i=j then Q (.bl true) H else Q (.bl false) H:=rfl
theorem rd_nTB {i j:Bool}:zcM K (.bl i) (.bl j) H Q=if ¬ i=j then Q (.bl true) H else Q (.bl false) H:=rfl
theorem rd_eTR {a b:Addr}:zcN K (.ref a) (.ref b) H Q=za8 K (.ref a) (.ref b) H Q:=rfl
theorem rd_nTR {a b:Addr}:zcM K (.ref a) (.ref b) H Q=za7 K (.ref a) (.ref b) H Q:=rfl
theorem rd_fvI {i:Int} {P:Str->Prop} {R:Str->Prop}:((∃ j,V.int i=V.int j/\j.natAbs.log2 < 1920/\P (toString j))\/(∃ y,V.int i=V.str y/\y.length<=sizeLine/\R y)) ↔ i.natAbs.log2 < 1920/\P (toString i) :=
 ⟨λ h=>h.elim (λ ⟨_,e,h⟩=>by cases e;exact h) (λ ⟨_,e,_⟩=>nomatch e),λ h=>.inl ⟨i,rfl,h⟩⟩
theorem rd_strS {y:Str} {P:Str->Prop}:(∃ z,V.str y=V.str z/\P z) ↔ P y:=⟨λ ⟨_,e,h⟩=>by cases e;exact h,λ h=>⟨y,rfl,h⟩⟩
theorem rd_c0:((0:Nat):Int)=0:=rfl
theorem rd_c1:((1:Nat):Int)=1:=rfl
theorem rd_c2:((2:Nat):Int)=2:=rfl
theorem rd_c3:((3:Nat):Int)=3:=rfl
theorem rd_c4:((4:Nat):Int)=4:=rfl
theorem rd_c5:((5:Nat):Int)=5:=rfl
theorem rd_c6:((6:Nat):Int)=6:=rfl
theorem vo {p:Addr} {xs:List V} {k:Int} {j:Nat} {v:V} {R:Hp->Prop} (h:H p=some (.lst xs)) (e:ixN xs.length k=some j) (q:R (upd H p (.lst (xs.set j v)))):zfW (.ref p) (.int k) v H R:=⟨p,xs,k,j,rfl,rfl,h,e,q⟩
theorem Xd {n:Nat} {k:Int} (h0:0<=k) (h1:k < n):ixN n k=some k.toNat:=by unfold ixN;rw [if_pos h0,if_pos h1]
theorem cx_K {CX:CXT} {P:Program} {w:World} {K:PySem.W.Frag} {mg:Str->Option Value} {base:Heap} {N:List Str} {qual:Str} {scope:Scope} {f:Addr} {cd:Value} {A:Around} {outer:List Env} {s:Shared} {H:Hp} {E:XK}:(Q5 CX P w K mg base N qual scope f cd A outer s H E).K=K:=rfl
theorem cx_mg {CX:CXT} {P:Program} {w:World} {K:PySem.W.Frag} {mg:Str->Option Value} {base:Heap} {N:List Str} {qual:Str} {scope:Scope} {f:Addr} {cd:Value} {A:Around} {outer:List Env} {s:Shared} {H:Hp} {E:XK}:(Q5 CX P w K mg base N qual scope f cd A outer s H E).mg=mg:=rfl
theorem cx_prog {CX:CXT} {P:Program} {w:World} {K:PySem.W.Frag} {mg:Str->Option Value} {base:Heap} {N:List Str} {qual:Str} {scope:Scope} {f:Addr} {cd:Value} {A:Around} {outer:List Env} {s:Shared} {H:Hp} {E:XK}:(Q5 CX P w K mg base N qual scope f cd A outer s H E).prog=P:=rfl
theorem cx_w {CX:CXT} {P:Program} {w:World} {K:PySem.W.Frag} {mg:Str->Option Value} {base:Heap} {N:List Str} {qual:Str} {scope:Scope} {f:Addr} {cd:Value} {A:Around} {outer:List Env} {s:Shared} {H:Hp} {E:XK}:(Q5 CX P w K mg base N qual scope f cd A outer s H E).w=w:=rfl
theorem cx_base {CX:CXT} {P:Program} {w:World} {K:PySem.W.Frag} {mg:Str->Option Value} {base:Heap} {N:List Str} {qual:Str} {scope:Scope} {f:Addr} {cd:Value} {A:Around} {outer:List Env} {s:Shared} {H:Hp} {E:XK}:(Q5 CX P w K mg base N qual scope f cd A outer s H E).base=base:=rfl
theorem rd_cpow {n:Int}:zhy 10 n ↔ 0<=n/\n<=1000000:=⟨λ h=>⟨h.1,h.2.1⟩,λ h=>⟨h.1,h.2,by decide⟩⟩
theorem rd_isiI {i:Int}:WR K [.int i,.ty "int"] H Q ↔ Q (.bl true) H:=by
 refine ⟨λ h=>?_,λ q=>⟨_,_,_,_,rfl,.old (.int i),.inl ⟨_,rfl,QE⟩,q⟩⟩;obtain ⟨x,c,t,b,e,ty,k,q⟩:=h;cases e;rcases k with ⟨u,hu,k⟩|⟨_,_,_,e,_⟩
 ·cases hu;cases ty with|old ty=>cases ty;rw [QE] at k;cases k;exact q
 ·cases e
theorem rd_isiIB {i:Int}:WR K [.int i,.ty "bool"] H Q ↔ Q (.bl false) H:=by
 refine ⟨λ h=>?_,λ q=>⟨_,_,_,_,rfl,.old (.int i),.inl ⟨_,rfl,ZE⟩,q⟩⟩;obtain ⟨x,c,t,b,e,ty,k,q⟩:=h;cases e;rcases k with ⟨u,hu,k⟩|⟨_,_,_,e,_⟩
 ·cases hu;cases ty with|old ty=>cases ty;rw [ZE] at k;cases k;exact q
 ·cases e
theorem rd_isiB {i:Bool}:WR K [.bl i,.ty "bool"] H Q ↔ Q (.bl true) H:=by
 refine ⟨λ h=>?_,λ q=>⟨_,_,_,_,rfl,.old (.bl i),.inl ⟨_,rfl,vJ⟩,q⟩⟩;obtain ⟨x,c,t,b,e,ty,k,q⟩:=h;cases e;rcases k with ⟨u,hu,k⟩|⟨_,_,_,e,_⟩
 ·cases hu;cases ty with|old ty=>cases ty;rw [vJ] at k;cases k;exact q
 ·cases e
theorem rd_isiS {i:Str}:WR K [.str i,.ty "str"] H Q ↔ Q (.bl true) H:=by
 refine ⟨λ h=>?_,λ q=>⟨_,_,_,_,rfl,.old (.str i),.inl ⟨_,rfl,QD⟩,q⟩⟩;obtain ⟨x,c,t,b,e,ty,k,q⟩:=h;cases e;rcases k with ⟨u,hu,k⟩|⟨_,_,_,e,_⟩
 ·cases hu;cases ty with|old ty=>cases ty;rw [QD] at k;cases k;exact q
 ·cases e
theorem Vj {a C:Addr} {c:V} {u:Value} {b:Bool} (h:H a=some (zbH a (.ref C))) (f:XI K C) (hu:zfH c=some u) (k:PySem.W.kitOne K (.ref C) u=some b) (q:Q (.bl b) H):WR K [.ref a,c] H Q :=
 ⟨_,_,_,_,rfl,.exc h f,.inl ⟨u,hu,k⟩,q⟩
theorem Zt {a b:Addr} {xs ys:List V} (h1:SqL K H a xs) (h2:SqL K H b ys) (hl:xs.length + ys.length<=sizeLine) (q:∀ p,H p=none->Q (.ref p) (upd H p (.lst (xs ++ ys)))):V2 K (.ref a) (.ref b) H Q :=
 show zdW K _ _ H Q from ⟨a,b,xs,ys,rfl,rfl,h1,h2,hl,q⟩
theorem xr {n:Nat} (h:n<=1000):n<=sizeLine:=Nat.le_of_lt (zj h)
theorem qR {a:Addr} {xs:List V} {DN:St->Hp->Prop} {B:(St->Hp->Prop)->V->St->Hp->Prop} (Pv:Nat->St->Hp->Prop) (h0:Pv 0 σ H) (hl:∀ i σ H,i<=xs.length->Pv i σ H->SqL K H a xs)
  (hs:∀ i x σ H,xs[i]?=some x->Pv i σ H->B (Pv (i + 1)) x σ H) (hd:∀ σ H,Pv xs.length σ H->DN σ H) :
  ∃ W:Nat->Nat->St->Hp->Prop,(∃ m,W 0 m σ H)/\∀ i m σ H,W i m σ H ->
   ((Itl K a).stop i H/\DN σ H)\/((Itl K a).go i H/\∃ N:St->Hp->Prop,(∀ σ' H',N σ' H'->∃ m',m' < m/\W (i + 1) m' σ' H')/\∀ x H',(Itl K a).yld i H x H'->B N x σ H'):=by
 refine ⟨λ i m σ H=>m=xs.length - i/\i<=xs.length/\Pv i σ H,⟨xs.length,by simp,Nat.zero_le _,h0⟩,?_⟩;rintro i m σ H ⟨rfl,hi,p⟩;have q:=hl i σ H hi p;by_cases hlt:i < xs.length
 ·refine .inr ⟨⟨xs,xs[i],q,by simp [hlt]⟩,Pv (i + 1),λ σ' H' p'=>⟨xs.length - (i + 1),by omega,rfl,hlt,p'⟩,λ x H' y=>?_⟩;obtain ⟨e,y⟩:=y;subst e;exact hs i x σ _ (y xs q) p
 ·have e:i=xs.length:=by omega
  subst e;exact .inl ⟨⟨xs,q,Nat.le_refl _⟩,hd σ H p⟩
theorem zhi {a:Addr} {xs:List V} {DN:St->Hp->Prop} {B:(St->Hp->Prop)->V->St->Hp->Prop} (Pv:Nat->St->Hp->Prop) (h0:Pv 0 σ H) (hl:∀ i σ H,i<=xs.length->Pv i σ H->SqT K H a xs)
  (hs:∀ i x σ H,xs[i]?=some x->Pv i σ H->B (Pv (i + 1)) x σ H) (hd:∀ σ H,Pv xs.length σ H->DN σ H) :
  ∃ W:Nat->Nat->St->Hp->Prop,(∃ m,W 0 m σ H)/\∀ i m σ H,W i m σ H ->
   ((Itt K a).stop i H/\DN σ H)\/((Itt K a).go i H/\∃ N:St->Hp->Prop,(∀ σ' H',N σ' H'->∃ m',m' < m/\W (i + 1) m' σ' H')/\∀ x H',(Itt K a).yld i H x H'->B N x σ H'):=by
 refine ⟨λ i m σ H=>m=xs.length - i/\i<=xs.length/\Pv i σ H,⟨xs.length,by simp,Nat.zero_le _,h0⟩,?_⟩;rintro i m σ H ⟨rfl,hi,p⟩;have q:=hl i σ H hi p;by_cases hlt:i < xs.length
 ·refine .inr ⟨⟨xs,xs[i],q,by simp [hlt]⟩,Pv (i + 1),λ σ' H' p'=>⟨xs.length - (i + 1),by omega,rfl,hlt,p'⟩,λ x H' y=>?_⟩;obtain ⟨e,y⟩:=y;subst e;exact hs i x σ _ (y xs q) p
 ·have e:i=xs.length:=by omega
  subst e;exact .inl ⟨⟨xs,q,Nat.le_refl _⟩,hd σ H p⟩
theorem ZI {lo:Int} {n:Nat} {DN:St->Hp->Prop} {B:(St->Hp->Prop)->V->St->Hp->Prop} (Pv:Nat->St->Hp->Prop) (h0:Pv 0 σ H)
  (hs:∀ i σ H,i < n->Pv i σ H->B (Pv (i + 1)) (.int (lo + i)) σ H) (hd:∀ σ H,Pv n σ H->DN σ H) :
  ∃ W:Nat->Nat->St->Hp->Prop,(∃ m,W 0 m σ H)/\∀ i m σ H,W i m σ H ->
   ((Itr lo n).stop i H/\DN σ H)\/((Itr lo n).go i H/\∃ N:St->Hp->Prop,(∀ σ' H',N σ' H'->∃ m',m' < m/\W (i + 1) m' σ' H')/\∀ x H',(Itr lo n).yld i H x H'->B N x σ H'):=by
 refine ⟨λ i m σ H=>m=n - i/\i<=n/\Pv i σ H,⟨n,by simp,Nat.zero_le _,h0⟩,?_⟩;rintro i m σ H ⟨rfl,hi,p⟩;by_cases hlt:i < n
 ·refine .inr ⟨hlt,Pv (i + 1),λ σ' H' p'=>⟨n - (i + 1),by omega,rfl,hlt,p'⟩,λ x H' y=>?_⟩;obtain ⟨e,y⟩:=y;subst e y;exact hs i σ _ hlt p
 ·have e:i=n:=by omega
  subst e;exact .inl ⟨Nat.le_refl _,hd σ H p⟩
theorem WQ {a:Addr} {xs:List V} {lo hi:Option Int} (h:SqL K H a xs) (q:∀ p,H p=none->Q (.ref p) (upd H p (.lst (Xk xs lo hi)))):zgg K (.ref a) lo hi H Q:=⟨a,xs,rfl,h,q⟩
theorem upd_keep {a b:Addr} {o u:HO} (h:H b=some u) (ha:H a=none):upd H a o b=some u:=by rw [upd_ne (ne_of_none h ha)];exact h
theorem zf {a:Addr} {o:HO} (ha:H a=none):Same H (upd H a o):=λ _ _ h=>upd_keep h ha
theorem rd_ixT {a:Addr} {xs:List V} {i:Int} {v:V} (h:H a=some (.tup xs)) (e:atI xs i=some v) (q:Q v H):rIx K (.ref a) (.int i) H Q:=.inr (.inl ⟨a,xs,i,v,rfl,rfl,SqT.of h,e,q⟩)
theorem zt {a:Addr} {xs:List V} {i:Int} {v:V} (h:SqL K H a xs) (e:atI xs i=some v) (q:Q v H):rIx K (.ref a) (.int i) H Q:=.inl ⟨a,xs,i,v,rfl,rfl,h,e,q⟩
theorem zhE {N0:St->Hp->Prop} {B:(St->Hp->Prop)->Prop} (h:B N0):∃ N:St->Hp->Prop,(∀ σ' H',N σ' H'->N0 σ' H')/\B N:=⟨N0,λ _ _ h=>h,h⟩
end
end L2
set_option hygiene false
local macro_rules | `(tactic| walk_at "v")=>`(tactic| exact ⟨rfl,by first|exact Or.inl rfl|exact Or.inr (Or.inl rfl)|exact Or.inr (Or.inr rfl),by decide,by decide⟩)
local macro_rules | `(tactic| walk_at "rd")=>`(tactic| (simp only [L2.start,L2.tSIn,L2.tSGet,L2.sSPut,L2.tSNew,L2.tB,L2.rd_mc,L2.rd_mn,length_cons,length_nil,cons_append,List.nil_append,L2.tSeq,L2.tAsg,L2.gName,L2.tC,L2.tOp,L2.tUn,L2.tTest,L2.tIfS,L2.tRet,L2.tNext,L2.tDrop,L2.tNot,L2.tAnd,L2.tOr,L2.tAndV,L2.tOrV,L2.tNotV,L2.tCons,L2.tNil,L2.tTup,L2.tLst,L2.tBi,L2.tBl,L2.tVar,↓L2.rd_vq,L2.rd_vq,↓L2.rd_iq,L2.rd_iq,↓L2.rd_bq,L2.rd_bq,↓L2.rd_nq,L2.rd_nq,↓L2.rd_lq,L2.rd_lq,↓L2.rd_itT,L2.rd_itT,↓L2.rd_itF,L2.rd_itF,↓L2.rd_is0,L2.rd_is0,↓L2.rd_is1,L2.rd_is1,↓L2.rd_is2,L2.rd_is2,↓L2.rd_in0,L2.rd_in0,↓L2.rd_in1,L2.rd_in1,↓L2.rd_in2,L2.rd_in2,L2.rI,L2.rI0,L2.rU,L2.rT,L2.ipI,L2.tTru,L2.rd_trB,L2.rd_trI,L2.rd_trR,L2.rd_trS,L2.rd_addI,L2.rd_addS,L2.rd_eqI,L2.rd_neI,L2.rd_eqS,L2.rd_eqB,L2.rd_eTI,L2.rd_eTS,L2.rd_eTB,L2.rd_eTR,L2.rd_nTI,L2.rd_nTR,L2.rd_nTS,L2.rd_nTB,L2.rd_fvI,L2.rd_strS,L2.rd_sz0,L2.rd_sz1,L2.rd_sz2,L2.rd_sz3,L2.rd_sz4,L2.rd_sz5,L2.rd_sz6,L2.rd_sz7,L2.gSub,L2.tBreak,L2.rd_sz8,L2.rd_sz9,L2.cx_K,L2.cx_mg,L2.cx_prog,L2.cx_w,L2.cx_base,L2.gTup,L2.gCons,L2.gNil,L2.tCl,L2.tGl,L2.tChain,L2.tRaise,L2.tTryAs,L2.sFld,L2.tFld,L2.tMk,L2.tMth,L2.tBM,L2.tSl,L2.tNoPart,L2.tPart,L2.tClN,L2.tMkN,L2.tMthN,L2.tBase,L2.tYes,L2.tRg1,L2.tIf,L2.cxC_K,L2.cxC_mg,L2.cxC_prog,L2.cxC_w,L2.cxC_base,eq_self,reduceCtorEq,decide_false,Option.getD_some,Option.getD_none,List.getElem?_cons_zero,List.getElem?_cons_succ,List.set_cons_zero,List.set_cons_succ,List.replicate,Nat.reduceSub,Nat.reduceAdd,true_and,and_true,L2.rd_cpow,Int.reduceToNat,Int.reducePow,Int.reduceLT,Int.reduceLE,Int.reduceNeg,L2.fdiv_pos,L2.rd_isiI,L2.rd_isiIB,L2.rd_isiB,L2.rd_isiS,Bool.not_true,Bool.not_false,Bool.false_eq_true,reduceIte,decide_true,decide_eq_true_eq,Bool.true_eq_false,Bool.not_eq_true',decide_eq_false_iff_not,L2.rd_c0,L2.rd_c1,L2.rd_c2,L2.rd_c3,L2.rd_c4,L2.rd_c5,L2.rd_c6,Int.reduceEq,not_true_eq_false,not_false_eq_true,Int.reduceMul,Int.reduceAdd,Int.reduceSub]))
local macro_rules | `(tactic| walk_at "r")=>`(tactic| try walk_at "rd")
local macro_rules | `(tactic| walk_at "ixT")=>`(tactic| (refine L2.rd_ixT (by assumption) rfl ?_;try walk_at "rd"))
local macro_rules | `(tactic| walk_at "sd")=>`(tactic| first|assumption|exact L2.mul_okR (by decide) (by decide)|exact L2.mul_okL (by decide) (by decide)|exact L2.mul_okR (by omega) (by omega)|exact L2.mul_okL (by omega) (by omega)|exact L2.fd_ok (by decide) (by decide +kernel)|decide|omega|exact L2.fd_small (by omega) (by omega))
local macro_rules | `(tactic| walk_at "sds")=>`(tactic| repeat (refine And.intro (by walk_at "sd") ?_))
local macro_rules | `(tactic| walk_at "for")=>`(tactic| (walk_at "go";(try simp only [L2.tFor,L2.iSeq,L2.iRng1,L2.iRng3,L2.iEnum,L2.iZip]);try walk_at "rd"))
local macro_rules | `(tactic| walk_at "lc")=>`(tactic| (walk_at "go";(try simp only [L2.tLc,L2.iSeq,L2.stC,L2.iRng1,L2.iRng3,L2.iEnum,L2.iZip]);try walk_at "rd"))
local macro_rules | `(tactic| walk_at "go")=>`(tactic| repeat (first|walk_at "rd" | refine And.intro (by assumption) ?_|refine L2.nxt λ Nq_ hNq_=>?_|refine L2.useN (by assumption) ?_))
local macro_rules | `(tactic| walk_at "ne")=>`(tactic| first|assumption|exact Ne.symm (by assumption)|exact L2.ne_of_none (by assumption) (by assumption)|exact Ne.symm (L2.ne_of_none (by assumption) (by assumption)))
local macro_rules | `(tactic| walk_at "hp")=>`(tactic| first|assumption|exact L2.upd_same|(refine L2.upd_keep ?_ (by assumption);walk_at "hp")|(rw [L2.upd_ne (by walk_at "ne")];walk_at "hp"))
set_option hygiene false
local macro_rules | `(tactic| walk_at "i")=>`(tactic| (intro vs H Q E h;repeat (first|(obtain ⟨rfl,_⟩:=h;rfl)|obtain ⟨_,h⟩:=h)))
local macro_rules | `(tactic| walk_at "j")=>`(tactic| intro cdv A outer s H vs Q EX hr h)
local macro_rules | `(tactic| walk_at "k")=>`(tactic| intro cdv A outer s H vs Q E hr h)
seal L2.PE L2.PT L2.PA L2.PS L2.PSs L2.PC L2.PG L2.PGs L2.PI L2.PO L2.PK
namespace K40
open PySem L2 Mine
def top (i:Nat):Stmt:=PySem.Challenge.pw_beltshares_k40_still_from.main.body.getD i (.Pass ⟨0,0,0,0⟩)
local macro_rules | `(tactic| walk_at "sc")=>`(tactic| exact ⟨rfl,rfl,rfl,by decide +kernel,rfl,by decide +kernel,by decide +kernel⟩)
abbrev xz:Stmt:=zO (top 11) 0
theorem WO:FnScope ["self","room","pace"] ["self","room","pace"] (ze xz):=by walk_at "sc"
abbrev j5:Stmt:=top 16
theorem Xw:FnScope ["pace","least"] ["pace","least"] (ze j5):=by walk_at "sc"
abbrev j6:Stmt:=top 17
theorem Xx:FnScope ["kind"] ["kind"] (ze j6):=by walk_at "sc"
abbrev jY:Stmt:=top 18
theorem Xu:FnScope ["belts"] ["belts"] (ze jY):=by walk_at "sc"
abbrev jE:Stmt:=top 19
theorem JB:FnScope ["wanted","side","step","place"] ["wanted","side"] (ze jE):=by walk_at "sc"
abbrev qN:Stmt:=top 20
theorem Zm:FnScope ["head","free","side"] ["head","free","side"] (ze qN):=by walk_at "sc"
abbrev qG:Stmt:=zO (top 21) 0
theorem WN:FnScope ["self","ins","outs"] ["self","ins","outs"] (ze qG):=by walk_at "sc"
abbrev jF:Stmt:=zO (top 22) 0
theorem JE:FnScope ["self","out","pace","kinds","kind"] ["self","out","pace","kinds"] (ze jF):=by walk_at "sc"
abbrev qZ:Stmt:=zO (top 22) 1
theorem ZZ:FnScope ["self","heads","free","turn","side"] ["self","heads","free","turn","side"] (ze qZ):=by walk_at "sc"
abbrev qY:Stmt:=zO (top 22) 2
theorem ZY:FnScope ["self"] ["self"] (ze qY):=by walk_at "sc"
abbrev j9:Stmt:=zO (top 23) 0
theorem XB:FnScope ["self","into","pace"] ["self","into","pace"] (ze j9):=by walk_at "sc"
abbrev ju:Stmt:=zO (top 23) 1
theorem QR:FnScope ["self","heads","free","turn","side"] ["self","heads","free","turn","side"] (ze ju):=by walk_at "sc"
abbrev jt:Stmt:=zO (top 23) 2
theorem QQ:FnScope ["self"] ["self"] (ze jt):=by walk_at "sc"
abbrev jG:Stmt:=zO (top 24) 0
theorem JF:FnScope ["self","into","outs"] ["self","into","outs"] (ze jG):=by walk_at "sc"
abbrev jb:Stmt:=zO (top 24) 1
theorem Z1:FnScope ["self","heads","free","turn","side","place"] ["self","heads","free","turn","side"] (ze jb):=by walk_at "sc"
abbrev ja:Stmt:=zO (top 24) 2
theorem Z0:FnScope ["self"] ["self"] (ze ja):=by walk_at "sc"
abbrev qz:Stmt:=zO (top 25) 0
theorem vA:FnScope ["self","into","outs"] ["self","into","outs"] (ze qz):=by walk_at "sc"
abbrev qi:Stmt:=zO (top 25) 1
theorem wx:FnScope ["self","heads","free","turn","side","place"] ["self","heads","free","turn","side"] (ze qi):=by walk_at "sc"
abbrev qh:Stmt:=zO (top 25) 2
theorem ww:FnScope ["self"] ["self"] (ze qh):=by walk_at "sc"
abbrev j7:Stmt:=zO (top 26) 0
theorem Xz:FnScope ["self","into","outs","kind"] ["self","into","outs","kind"] (ze j7):=by walk_at "sc"
abbrev js:Stmt:=zO (top 26) 1
theorem QP:FnScope ["self","heads","free","turn","side","place"] ["self","heads","free","turn","side"] (ze js):=by walk_at "sc"
abbrev qE:Stmt:=zO (top 26) 2
theorem vW:FnScope ["self","kind"] ["self","kind"] (ze qE):=by walk_at "sc"
abbrev jr:Stmt:=zO (top 26) 3
theorem QO:FnScope ["self"] ["self"] (ze jr):=by walk_at "sc"
abbrev jH:Stmt:=zO (top 27) 0
theorem JH:FnScope ["self","ins","out"] ["self","ins","out"] (ze jH):=by walk_at "sc"
abbrev qB:Stmt:=zO (top 27) 1
theorem Z3:FnScope ["self","heads","free","turn","side","place"] ["self","heads","free","turn","side"] (ze qB):=by walk_at "sc"
abbrev jc:Stmt:=zO (top 27) 2
theorem Z2:FnScope ["self"] ["self"] (ze jc):=by walk_at "sc"
abbrev qO:Stmt:=zO (top 29) 0
theorem Xy:FnScope ["self","turn","cells","sides","gone"] ["self","turn","cells","sides","gone"] (ze qO):=by walk_at "sc"
abbrev w6:Stmt:=top 30
theorem zaT:FnScope ["work","ware","kinds"] ["work","ware"] (ze w6):=by walk_at "sc"
abbrev xu:Stmt:=top 31
theorem WG:FnScope ["knot"] ["knot"] (ze xu):=by walk_at "sc"
abbrev qC:Stmt:=top 32
theorem JC:FnScope ["work","cells","sides"] ["work"] (ze qC):=by walk_at "sc"
abbrev jq:Stmt:=top 33
theorem QM:FnScope ["state"] ["state"] (ze jq):=by walk_at "sc"
abbrev xg:Stmt:=top 35
theorem VV:FnScope ["work","cells"] ["work","cells"] (ze xg):=by walk_at "sc"
abbrev jX:Stmt:=top 36
theorem Xt:FnScope ["work","state","number"] ["work","state","number"] (ze jX):=by walk_at "sc"
abbrev jz:Stmt:=top 37
theorem VR:FnScope ["work","state","beat_place","kinds","places"] ["work","state"] (ze jz):=by walk_at "sc"
abbrev jA:Stmt:=top 39
theorem VW:FnScope ["work","state","knot","ends"] ["work","state","knot"] (ze jA):=by walk_at "sc"
abbrev jV:Stmt:=top 40
theorem Xq:FnScope ["state","number","from_belt","ware"] ["state","number","from_belt"] (ze jV):=by walk_at "sc"
abbrev w9:Stmt:=top 41
theorem zaU:FnScope ["belts","place"] ["belts","place"] (ze w9):=by walk_at "sc"
abbrev qX:Stmt:=top 42
theorem ZX:FnScope ["knot","chosen"] ["knot","chosen"] (ze qX):=by walk_at "sc"
abbrev VY:Stmt:=top 43
theorem zgc:FnScope ["work","state","number","knot","free","chosen","from_belt","to_belt","ware"] ["work","state","number"] (ze VY):=by walk_at "sc"
abbrev va:Stmt:=top 44
theorem zaV:FnScope ["work","state","moves","number","move"] ["work","state"] (ze va):=by walk_at "sc"
abbrev xv:Stmt:=top 45
theorem WH:FnScope ["cells","place"] ["cells"] (ze xv):=by walk_at "sc"
abbrev xt:Stmt:=top 46
theorem WF:FnScope ["work","state","moves","number","belt"] ["work","state"] (ze xt):=by walk_at "sc"
abbrev wa:Stmt:=top 47
theorem VT:FnScope ["work","state","after"] ["work","state"] (ze wa):=by walk_at "sc"
abbrev wb:Stmt:=top 48
theorem VU:FnScope ["work","state"] ["work","state"] (ze wb):=by walk_at "sc"
abbrev jW:Stmt:=top 50
theorem Xs:FnScope ["work","limit","state","state_by_shape","turn","shape"] ["work","limit"] (ze jW):=by walk_at "sc"
abbrev jg:Stmt:=top 51
theorem VS:FnScope ["work","limit","ends"] ["work","limit"] (ze jg):=by walk_at "sc"
abbrev jK:Stmt:=top 52
theorem WJ:FnScope ["before","after","growth","old","new"] ["before","after"] (ze jK):=by walk_at "sc"
abbrev jD:Stmt:=top 54
theorem JA:FnScope ["work","limit","ends","counts"] ["work","limit"] (ze jD):=by walk_at "sc"
abbrev qy:Stmt:=top 55
theorem Xr:FnScope ["work","limit","state"] ["work","limit"] (ze qy):=by walk_at "sc"
abbrev Zn:Stmt:=top 57
theorem zcD:FnScope ["one","other","part","rest","left"] ["one","other"] (ze Zn):=by walk_at "sc"
abbrev wZ:Stmt:=top 58
theorem zaS:FnScope ["paces","number","pace"] ["paces"] (ze wZ):=by walk_at "sc"
abbrev jZ:Stmt:=top 62
theorem Xv:FnScope ["belts","knots"] ["belts","knots"] (ze jZ):=by walk_at "sc"
abbrev qD:Stmt:=top 63
theorem vV:FnScope ["named","size"] ["named","size"] (ze qD):=by walk_at "sc"
abbrev jm:Stmt:=zO (top 64) 0
theorem WK:FnScope ["self","belts","knots","fed","taken","knot"] ["self","belts","knots"] (ze jm):=by walk_at "sc"
abbrev qS:Stmt:=zO (top 64) 3
theorem JD:FnScope ["self"] ["self"] (ze qS):=by walk_at "sc"
abbrev qF:Stmt:=zO (top 64) 4
theorem QN:FnScope ["self"] ["self"] (ze qF):=by walk_at "sc"
abbrev jL:Stmt:=zO (top 64) 5
theorem WL:FnScope ["self","paces","number","pace"] ["self"] (ze jL):=by walk_at "sc"
abbrev Zq:Stmt:=top 66
theorem zcH:FnScope ["_law_cells","_law_k"] ["_law_cells","_law_k"] (ze Zq):=by walk_at "sc"
abbrev Zp:Stmt:=top 67
theorem zcF:FnScope ["_law_number","_law_prime","_law_many"] ["_law_number","_law_prime","_law_many"] (ze Zp):=by walk_at "sc"
abbrev Zr:Stmt:=top 68
theorem zcI:FnScope ["_law_number"] ["_law_number"] (ze Zr):=by walk_at "sc"
abbrev vj:Stmt:=top 69
theorem za0:FnScope ["_law_cells","_law_first","_law_other"] ["_law_cells"] (ze vj):=by walk_at "sc"
abbrev vb:Stmt:=top 70
theorem zaW:FnScope ["_law_number","_law_into","_law_outs","_law_kind","_law_pick"] ["_law_number","_law_into","_law_outs","_law_kind"] (ze vb):=by walk_at "sc"
abbrev vm:Stmt:=top 71
theorem za1:FnScope ["_law_belts","_law_knots","_law_loose","_law_loop","_law_number","_law_kind","_law_at","_law_pick","_law_into","_law_outs"] ["_law_belts","_law_knots","_law_loose","_law_loop","_law_number","_law_kind"] (ze vm):=by walk_at "sc"
abbrev Zo:Stmt:=top 72
theorem zcE:FnScope ["_law_cells","_law_top","_law_lead","_law_kinds_here","_law_belts","_law_first","_law_loose","_law_loop","_law_knots","_law_number","_law_at","_law_cut"] ["_law_cells","_law_top"] (ze Zo):=by walk_at "sc"
abbrev vd:Stmt:=top 73
theorem zaX:FnScope ["_law_work_here","_law_limit","_law_found"] ["_law_work_here","_law_limit"] (ze vd):=by walk_at "sc"
abbrev vh:Stmt:=top 74
theorem zaY:FnScope ["_law_work_here","_law_turns","_law_state","_law_moved_here","_law_k","_law_after"] ["_law_work_here","_law_turns"] (ze vh):=by walk_at "sc"
abbrev xw:Stmt:=top 75
theorem WM:FnScope ["_law_work_here","_law_limit","_law_caught","e"] ["_law_work_here","_law_limit"] (ze xw):=by walk_at "sc"
abbrev j8:Stmt:=top 76
theorem XA:FnScope ["_law_work_here","_law_ending","_law_told"] ["_law_work_here","_law_ending","_law_told"] (ze j8):=by walk_at "sc"
abbrev xh:Stmt:=top 77
theorem VX:FnScope ["_law_cells","_law_belts"] ["_law_cells"] (ze xh):=by walk_at "sc"
abbrev xQ:Stmt:=top 78
theorem zaZ:FnScope ["_law_cells","_law_pick","_law_first","_law_kinds_here","_law_lanes_here"] ["_law_cells","_law_pick"] (ze xQ):=by walk_at "sc"
abbrev wI:Stmt:=top 79
theorem zcG:FnScope ["_law_cells","_law_belts","_law_knots"] ["_law_cells"] (ze wI):=by walk_at "sc"
abbrev vn:Stmt:=top 80
theorem za2:FnScope ["_law_cells","_law_number","_law_pick","_law_limit"] ["_law_cells"] (ze vn):=by walk_at "sc"
abbrev QA:Stmt:=top 81
theorem zgb:FnScope ["_law_script","_law_cells","_law_work_here","_law_limit","_law_found","_law_moved_here","_law_told","_law_due","_law_k"] ["_law_script"] (ze QA):=by walk_at "sc"
local macro_rules | `(tactic| walk_at "T")=>`(tactic| (have m_len:=T.m_len;have m_range:=T.m_range;have m_list:=T.m_list;have m_max:=T.m_max;have m_tuple:=T.m_tuple;have m_isinstance:=T.m_isinstance;have m_enumerate:=T.m_enumerate;have m_zip:=T.m_zip;have m_sorted:=T.m_sorted;have m_ValueError:=T.m_ValueError;have m_any:=T.m_any;have m_int:=T.m_int;have m_bool:=T.m_bool))
structure Ad where
 WorkError:Addr
 BadBelt:Addr
 BadKnot:Addr
 BadWork:Addr
 TooLong:Addr
 Moving:Addr
 Belt:Addr
 Knot:Addr
 Source:Addr
 Drain:Addr
 Parter:Addr
 FirstParter:Addr
 Sieve:Addr
 Joiner:Addr
 State:Addr
 Work:Addr
structure Txt (K:PySem.W.Frag) (mg:Str->Option Value) (a:Ad):Prop where
 h_check_pace:FA K mg "check_pace" j5 ["pace","least"]
 h_check_kind:FA K mg "check_kind" j6 ["kind"]
 h_check_ways:FA K mg "check_ways" jY ["belts"]
 h_first_place:FA K mg "first_place" jE ["wanted","side"]
 h_place_for_ware:FA K mg "place_for_ware" qN ["head","free","side"]
 h_kind_of:FA K mg "kind_of" w6 ["work","ware"]
 h_no_counts:FA K mg "no_counts" xu ["knot"]
 h_empty_state:FA K mg "empty_state" qC ["work"]
 h_copied_state:FA K mg "copied_state" jq ["state"]
 h_kinds_in:FA K mg "kinds_in" xg ["work","cells"]
 h_kind_place:FA K mg "kind_place" jX ["work","state","number"]
 h_shape_of:FA K mg "shape_of" jz ["work","state"]
 h_heads_of:FA K mg "heads_of" jA ["work","state","knot"]
 h_taken_ware:FA K mg "taken_ware" jV ["state","number","from_belt"]
 h_belt_at:FA K mg "belt_at" w9 ["belts","place"]
 h_counted_place:FA K mg "counted_place" qX ["knot","chosen"]
 h_act:FA K mg "act" VY ["work","state","number"]
 h_act_all:FA K mg "act_all" va ["work","state"]
 h_move_belt:FA K mg "move_belt" xv ["cells"]
 h_pass_turn:FA K mg "pass_turn" xt ["work","state"]
 h_one_turn:FA K mg "one_turn" wa ["work","state"]
 h_moves_of:FA K mg "moves_of" wb ["work","state"]
 h_round_ends:FA K mg "round_ends" jW ["work","limit"]
 h_round_of:FD K mg "round_of" jg ["work","limit"] [.int 200]
 h_growth_of:FA K mg "growth_of" jK ["before","after"]
 h_still_state:FA K mg "still_state" jD ["work","limit"]
 h_still_from:FD K mg "still_from" qy ["work","limit"] [.int 200]
 h_common:FA K mg "common" Zn ["one","other"]
 h_lasting:FA K mg "lasting" wZ ["paces"]
 h_check_size:FA K mg "check_size" jZ ["belts","knots"]
 h_check_each_once:FA K mg "check_each_once" qD ["named","size"]
 h_L_cell:FA K mg "_law_cell" Zq ["_law_cells","_law_k"]
 h_L_some:FA K mg "_law_some" Zp ["_law_number","_law_prime","_law_many"]
 h_L_belt:FA K mg "_law_belt" Zr ["_law_number"]
 h_L_kinds:FA K mg "_law_kinds" vj ["_law_cells"]
 h_L_split:FA K mg "_law_split" vb ["_law_number","_law_into","_law_outs","_law_kind"]
 h_L_grown:FA K mg "_law_grown" vm ["_law_belts","_law_knots","_law_loose","_law_loop","_law_number","_law_kind"]
 h_L_work:FA K mg "_law_work" Zo ["_law_cells","_law_top"]
 h_L_round:FA K mg "_law_round" vd ["_law_work_here","_law_limit"]
 h_L_moved:FA K mg "_law_moved" vh ["_law_work_here","_law_turns"]
 h_L_refused:FA K mg "_law_refused" xw ["_law_work_here","_law_limit"]
 h_L_left_out:FA K mg "_law_left_out" j8 ["_law_work_here","_law_ending","_law_told"]
 h_L_closed:FA K mg "_law_closed" xh ["_law_cells"]
 h_L_lanes:FA K mg "_law_lanes" xQ ["_law_cells","_law_pick"]
 h_L_long:FA K mg "_law_long" wI ["_law_cells"]
 h_L_built:FA K mg "_law_built" vn ["_law_cells"]
 m_len:mg "len"=none
 m_range:mg "range"=none
 m_list:mg "list"=none
 m_max:mg "max"=none
 m_tuple:mg "tuple"=none
 m_isinstance:mg "isinstance"=none
 m_enumerate:mg "enumerate"=none
 m_zip:mg "zip"=none
 m_sorted:mg "sorted"=none
 m_ValueError:mg "ValueError"=none
 m_any:mg "any"=none
 m_int:mg "int"=none
 m_bool:mg "bool"=none
 g_WorkError:mg "WorkError"=some (.ref a.WorkError)
 g_BadBelt:mg "BadBelt"=some (.ref a.BadBelt)
 g_BadKnot:mg "BadKnot"=some (.ref a.BadKnot)
 g_BadWork:mg "BadWork"=some (.ref a.BadWork)
 g_TooLong:mg "TooLong"=some (.ref a.TooLong)
 g_Moving:mg "Moving"=some (.ref a.Moving)
 g_Belt:mg "Belt"=some (.ref a.Belt)
 g_Source:mg "Source"=some (.ref a.Source)
 g_Drain:mg "Drain"=some (.ref a.Drain)
 g_Parter:mg "Parter"=some (.ref a.Parter)
 g_FirstParter:mg "FirstParter"=some (.ref a.FirstParter)
 g_Sieve:mg "Sieve"=some (.ref a.Sieve)
 g_Joiner:mg "Joiner"=some (.ref a.Joiner)
 g_State:mg "State"=some (.ref a.State)
 g_Work:mg "Work"=some (.ref a.Work)
 C_Belt:Cls K a.Belt
 N_Belt_room:NoAttr K a.Belt "room"
 N_Belt_pace:NoAttr K a.Belt "pace"
 h_Belt_init:FK K a.Belt "Belt.__init__" xz ["self","room","pace"]
 b_Knot_init:FB K mg "Knot" "__init__" "Knot.__init__" qG ["self","ins","outs"]
 C_Source:Cls K a.Source
 N_Source_pace:NoAttr K a.Source "pace"
 N_Source_kinds:NoAttr K a.Source "kinds"
 N_Source_ins:NoAttr K a.Source "ins"
 N_Source_outs:NoAttr K a.Source "outs"
 W_Source:WI K a.Source
 h_Source_init:FK K a.Source "Source.__init__" jF ["self","out","pace","kinds"]
 h_Source_choice:FM K a.Source "choice" "Source.choice" qZ ["self","heads","free","turn","side"]
 h_Source_copied:FM K a.Source "copied" "Source.copied" qY ["self"]
 C_Drain:Cls K a.Drain
 N_Drain_pace:NoAttr K a.Drain "pace"
 N_Drain_ins:NoAttr K a.Drain "ins"
 N_Drain_outs:NoAttr K a.Drain "outs"
 W_Drain:WI K a.Drain
 h_Drain_init:FK K a.Drain "Drain.__init__" j9 ["self","into","pace"]
 h_Drain_choice:FM K a.Drain "choice" "Drain.choice" ju ["self","heads","free","turn","side"]
 h_Drain_copied:FM K a.Drain "copied" "Drain.copied" jt ["self"]
 C_Parter:Cls K a.Parter
 N_Parter_ins:NoAttr K a.Parter "ins"
 N_Parter_outs:NoAttr K a.Parter "outs"
 W_Parter:WI K a.Parter
 h_Parter_init:FK K a.Parter "Parter.__init__" jG ["self","into","outs"]
 h_Parter_choice:FM K a.Parter "choice" "Parter.choice" jb ["self","heads","free","turn","side"]
 h_Parter_copied:FM K a.Parter "copied" "Parter.copied" ja ["self"]
 C_FirstParter:Cls K a.FirstParter
 N_FirstParter_ins:NoAttr K a.FirstParter "ins"
 N_FirstParter_outs:NoAttr K a.FirstParter "outs"
 W_FirstParter:WI K a.FirstParter
 h_FirstParter_init:FK K a.FirstParter "FirstParter.__init__" qz ["self","into","outs"]
 h_FirstParter_choice:FM K a.FirstParter "choice" "FirstParter.choice" qi ["self","heads","free","turn","side"]
 h_FirstParter_copied:FM K a.FirstParter "copied" "FirstParter.copied" qh ["self"]
 C_Sieve:Cls K a.Sieve
 N_Sieve_kind:NoAttr K a.Sieve "kind"
 N_Sieve_ins:NoAttr K a.Sieve "ins"
 N_Sieve_outs:NoAttr K a.Sieve "outs"
 W_Sieve:WI K a.Sieve
 h_Sieve_init:FK K a.Sieve "Sieve.__init__" j7 ["self","into","outs","kind"]
 h_Sieve_choice:FM K a.Sieve "choice" "Sieve.choice" js ["self","heads","free","turn","side"]
 h_Sieve_place_for:FM K a.Sieve "place_for" "Sieve.place_for" qE ["self","kind"]
 h_Sieve_copied:FM K a.Sieve "copied" "Sieve.copied" jr ["self"]
 C_Joiner:Cls K a.Joiner
 N_Joiner_ins:NoAttr K a.Joiner "ins"
 N_Joiner_outs:NoAttr K a.Joiner "outs"
 W_Joiner:WI K a.Joiner
 h_Joiner_init:FK K a.Joiner "Joiner.__init__" jH ["self","ins","out"]
 h_Joiner_choice:FM K a.Joiner "choice" "Joiner.choice" qB ["self","heads","free","turn","side"]
 h_Joiner_copied:FM K a.Joiner "copied" "Joiner.copied" jc ["self"]
 C_State:Cls K a.State
 N_State_turn:NoAttr K a.State "turn"
 N_State_cells:NoAttr K a.State "cells"
 N_State_sides:NoAttr K a.State "sides"
 N_State_gone:NoAttr K a.State "gone"
 h_State_init:FK K a.State "State.__init__" qO ["self","turn","cells","sides","gone"]
 C_Work:Cls K a.Work
 N_Work_belts:NoAttr K a.Work "belts"
 N_Work_knots:NoAttr K a.Work "knots"
 h_Work_init:FK K a.Work "Work.__init__" jm ["self","belts","knots"]
 h_Work_drains:FM K a.Work "drains" "Work.drains" qS ["self"]
 h_Work_sources:FM K a.Work "sources" "Work.sources" qF ["self"]
 h_Work_beat:FM K a.Work "beat" "Work.beat" jL ["self"]
 g_MOST_ROOM:∃ t,mg "MOST_ROOM"=some (.int 6 t)
 g_MOST_PACE:∃ t,mg "MOST_PACE"=some (.int 4 t)
 g_MOST_KINDS:∃ t,mg "MOST_KINDS"=some (.int 6 t)
 g_FEWEST_WAYS:∃ t,mg "FEWEST_WAYS"=some (.int 2 t)
 g_MOST_WAYS:∃ t,mg "MOST_WAYS"=some (.int 4 t)
 g_MOST_BELTS:∃ t,mg "MOST_BELTS"=some (.int 24 t)
 g_MOST_KNOTS:∃ t,mg "MOST_KNOTS"=some (.int 24 t)
 X_BadBelt:XC K a.BadBelt
 X_BadKnot:XC K a.BadKnot
 X_TooLong:XC K a.TooLong
 XI_TooLong:XI K a.TooLong
 X_BadWork:XC K a.BadWork
 S_TooLong:PySem.W.subIn K (.ref a.TooLong) (.type "BaseException")=some true
 E_TooLong_TooLong:PySem.W.kitCls K (.ref a.TooLong) (.ref a.TooLong)=some true
 k1_Source_Joiner:PySem.W.kitOne K (.ref a.Source) (.ref a.Joiner)=some false
 k1_Drain_Joiner:PySem.W.kitOne K (.ref a.Drain) (.ref a.Joiner)=some false
 k1_Parter_Joiner:PySem.W.kitOne K (.ref a.Parter) (.ref a.Joiner)=some false
 k1_FirstParter_Joiner:PySem.W.kitOne K (.ref a.FirstParter) (.ref a.Joiner)=some false
 k1_Sieve_Joiner:PySem.W.kitOne K (.ref a.Sieve) (.ref a.Joiner)=some false
 k1_Joiner_Joiner:PySem.W.kitOne K (.ref a.Joiner) (.ref a.Joiner)=some true
 k1_Source_Drain:PySem.W.kitOne K (.ref a.Source) (.ref a.Drain)=some false
 k1_Drain_Drain:PySem.W.kitOne K (.ref a.Drain) (.ref a.Drain)=some true
 k1_Parter_Drain:PySem.W.kitOne K (.ref a.Parter) (.ref a.Drain)=some false
 k1_FirstParter_Drain:PySem.W.kitOne K (.ref a.FirstParter) (.ref a.Drain)=some false
 k1_Sieve_Drain:PySem.W.kitOne K (.ref a.Sieve) (.ref a.Drain)=some false
 k1_Joiner_Drain:PySem.W.kitOne K (.ref a.Joiner) (.ref a.Drain)=some false
 k1_Source_Source:PySem.W.kitOne K (.ref a.Source) (.ref a.Source)=some true
 k1_Drain_Source:PySem.W.kitOne K (.ref a.Drain) (.ref a.Source)=some false
 k1_Parter_Source:PySem.W.kitOne K (.ref a.Parter) (.ref a.Source)=some false
 k1_FirstParter_Source:PySem.W.kitOne K (.ref a.FirstParter) (.ref a.Source)=some false
 k1_Sieve_Source:PySem.W.kitOne K (.ref a.Sieve) (.ref a.Source)=some false
 k1_Joiner_Source:PySem.W.kitOne K (.ref a.Joiner) (.ref a.Source)=some false
 k1_TooLong_WorkError:PySem.W.kitOne K (.ref a.TooLong) (.ref a.WorkError)=some true
 k1_TooLong_ValueError:PySem.W.kitOne K (.ref a.TooLong) (.type "ValueError")=some true
 k1_TooLong_Moving:PySem.W.kitOne K (.ref a.TooLong) (.ref a.Moving)=some false
section
variable {P:Program} {w:World} {K:PySem.W.Frag} {mg:Str->Option Value} {base:Heap} {a:Ad} {f:Addr} {fd:FuncData}
theorem at0 {α:Type} {x:α} {xs:List α}:atI (x :: xs) 0=some x:=by
 have:=zJ (xs:=x :: xs) (j:=0) rfl;simpa using this
def iv (ns:List Int):List V:=ns.map V.int
def kf (l1 l2:Addr):List (Str × V):=z7 "outs" (.ref l2) (z7 "ins" (.ref l1) [])
theorem zgA {l1 l2:Addr}:(kf l1 l2).lookup ("ins":Str)=some (.ref l1):=by
 unfold kf;rw [zY,if_neg (by decide +kernel),zY,if_pos rfl]
theorem zfw {l1 l2:Addr}:(kf l1 l2).lookup ("outs":Str)=some (.ref l2):=by
 unfold kf;rw [zY,if_pos rfl]
theorem zbv {l1 l2:Addr}:(kf l1 l2).length < 1000:=by
 unfold kf;have:=xC "outs" (V.ref l2) (z7 "ins" (.ref l1) []);have:=xC "ins" (V.ref l1) [];simp at *;omega
theorem zhe {l1 l2:Addr} {m:Str} (h1:m≠"ins") (h2:m≠"outs"):(kf l1 l2).lookup m=none:=by
 unfold kf;rw [zY,if_neg h2,zY,if_neg h1];rfl
def Own (H H':Hp) (y:Addr):Prop:=∀ b o,b≠y->H b=some o->H' b=some o
theorem Same.own {H H':Hp} {y:Addr} (s:Same H H'):Own H H' y:=λ b o _ h=>s b o h
theorem Own.trans {H1 H2 H3:Hp} {y:Addr} (s:Own H1 H2 y) (t:Own H2 H3 y):Own H1 H3 y:=λ b o hb h=>t b o hb (s b o hb h)
theorem je {H:Hp} {y:Addr} {o:HO}:Own H (upd H y o) y:=λ b u hb h=>by rw [upd_ne hb];exact h
theorem Own.of_new {H H':Hp} {y dx:Addr} {o p:HO} (hy:H y=none) (hd:H dx=none) (s:Own (upd (upd H dx o) y p) H' y):Same H H':=λ b u h =>
 s b u (ne_of_none h hy) (by rw [upd_ne (ne_of_none h hy),upd_ne (ne_of_none h hd)];exact h)
theorem zT {H:Hp} {p b:Addr} {o:HO} (h:upd H p o b=none):H b=none:=by
 by_cases e:b=p
 ·subst e;rw [upd_same] at h;cases h
 ·rw [upd_ne e] at h;exact h
def Ju (K:PySem.W.Frag):Sp:=λ vs H Q _=>∃ (y C dx i o:Addr) (xs ys:List V),vs=[.ref y,.ref i,.ref o]/\H y=some (.ins C dx [])/\Cls K C/\NoAttr K C "ins"/\NoAttr K C "outs"/\SqL K H i xs/\SqL K H o ys/\i≠y/\o≠y /\
 ∀ H' l1 l2,Own H H' y->H' y=some (.ins C dx (kf l1 l2))->H' l1=some (.lst xs)->H' l2=some (.lst ys)->H l1=none->H l2=none->Q .non H'
theorem zbR {H H':Hp} {y l:Addr} {xs:List V} (h:SqL K H l xs) (s:Own H H' y) (hl:l≠y):SqL K H' l xs:=by
 rcases h with h|h
 ·refine .inl ?_;rcases h with h|⟨ob,h⟩
  ·exact .inl (s _ _ hl h)
  ·exact .inr ⟨ob,s _ _ hl h⟩
 ·exact .inr h
theorem Vd (T:Txt K mg a) (F:Fun K "__init__" "Knot.__init__" qG f fd):FnOk P w K mg base (CXr P w) 1 f fd ["self","ins","outs"] (Ju K):=by
 refine F.okx WN ?_ ?_
 ·walk_at "i"
 walk_at "k";obtain ⟨y,C,dx,i,o,xs,ys,rfl,hy,hC,hN1,hN2,hi,ho,hiy,hoy,k⟩:=h;walk_at "T";refine ⟨_,(zh (jv (pq 0) (wL vy wt (za (pq 1) zc)) rfl)  (zg (jv (pq 0) (wL vy wt (za (pq 2) zc)) rfl))),?_⟩;walk_at "go";refine ⟨i,xs,rfl,.inl hi,λ l1 h1=>?_⟩;walk_at "go";have y1:y≠l1:=ne_of_none hy h1;refine ⟨y,C,dx,[],rfl,upd_keep hy h1,hC,hN1,by decide,?_⟩;walk_at "go";have s1:Own H (upd (upd H l1 (.lst xs)) y (.ins C dx (z7 "ins" (.ref l1) []))) y:=(Same.own (zf h1)).trans je;refine ⟨o,ys,rfl,.inl (zbR ho s1 hoy),λ l2 h2=>?_⟩;walk_at "go";have y2:y≠l2:=ne_of_none upd_same h2;have l12:l1≠l2:=λ z=>by
  rw [<- z,upd_ne (Ne.symm y1),upd_same] at h2;cases h2
 refine ⟨y,C,dx,_,rfl,upd_keep upd_same h2,hC,hN2,by show 1 < 1000;decide,?_⟩;refine k _ l1 l2 (s1.trans ((Same.own (zf h2)).trans je)) upd_same ?_ ?_ h1 ?_
 ·rw [upd_ne (Ne.symm y1),upd_ne l12,upd_ne (Ne.symm y1),upd_same]
 ·rw [upd_ne (Ne.symm y2),upd_same]
 ·rw [upd_ne (Ne.symm y2),upd_ne (Ne.symm l12)] at h2;exact h2
theorem b_Knot_init (T:Txt K mg a):BCal P w K mg base "Knot" "__init__" 1 ["self","ins","outs"] [] (Ju K):=T.b_Knot_init.cal (Vd T)
def Qw (K:PySem.W.Frag) (a:Ad):Sp:=λ vs H Q E=>∃ (l:Addr) (xs:List V),vs=[.ref l]/\SqL K H l xs/\if 2<=xs.length/\xs.length<=4 then Q .non H else E (.ref a.BadKnot) none H
theorem XG (T:Txt K mg a) (F:Fun K "check_ways" "check_ways" jY f fd):FnOk P w K mg base (CXr P w) 1 f fd ["belts"] (Qw K a):=by
 refine F.okx Xu ?_ ?_
 ·walk_at "i"
 walk_at "k";obtain ⟨l,xs,rfl,hl,k⟩:=h;walk_at "T";refine ⟨_,(zg (zG (jQ (jN xl xl xT (zQ zV zU (za (pq 0) zc)) xT))  (zg (qH ⟨rfl,rfl,rfl⟩ rfl (za xi zc)))  zp)),?_⟩;walk_at "go";obtain ⟨t1,g1⟩:=T.g_FEWEST_WAYS;obtain ⟨t2,g2⟩:=T.g_MOST_WAYS;have bad:¬ (2<=xs.length/\xs.length<=4)->∃ C,mg "BadKnot"=some (Value.ref C)/\XC K C/\E (Value.ref C) none H:=λ h=>by
  rw [if_neg h] at k;exact ⟨a.BadKnot,T.g_BadKnot,T.X_BadKnot,k⟩
 refine ⟨.int 2,_,g1,⟨_,rfl⟩,?_⟩;walk_at "go";refine ⟨_,.inl ⟨_,hl,rfl⟩,?_⟩;walk_at "r";refine zL (λ h1=>?_) (λ h1=>bad (by omega));refine ⟨.int 4,_,g2,⟨_,rfl⟩,?_⟩;walk_at "r";refine zL (λ h2=>?_) (λ h2=>bad (by omega));rw [if_pos (by omega)] at k;exact k
theorem wq (T:Txt K mg a):Cal P w K mg base "check_ways" 1 ["belts"] [] (Qw K a):=T.h_check_ways.cal (XG T)
def Qy (a:Ad):Sp:=λ vs H Q E=>∃ p q:Int,vs=[.int p,.int q]/\if q<=p/\p<=4 then Q .non H else E (.ref a.BadKnot) none H
theorem XJ (T:Txt K mg a) (F:Fun K "check_pace" "check_pace" j5 f fd):FnOk P w K mg base (CXr P w) 1 f fd ["pace","least"] (Qy a):=by
 refine F.okx Xw ?_ ?_
 ·walk_at "i"
 walk_at "k";obtain ⟨p,q,rfl,k⟩:=h;walk_at "T";refine ⟨_,(zg (zG (jQ (jN xl xl (pq 1) (pq 0) xT))  (zg (qH ⟨rfl,rfl,rfl⟩ rfl (za xi zc)))  zp)),?_⟩;walk_at "go";obtain ⟨t1,g1⟩:=T.g_MOST_PACE;have bad:¬ (q<=p/\p<=4)->∃ C,mg "BadKnot"=some (Value.ref C)/\XC K C/\E (Value.ref C) none H:=λ h=>by
  rw [if_neg h] at k;exact ⟨a.BadKnot,T.g_BadKnot,T.X_BadKnot,k⟩
 refine zL (λ h1=>?_) (λ h1=>bad (by omega));refine ⟨.int 4,_,g1,⟨_,rfl⟩,?_⟩;walk_at "go";refine zL (λ h2=>?_) (λ h2=>bad (by omega));rw [if_pos (by omega)] at k;walk_at "go";exact k
theorem ZO (T:Txt K mg a):Cal P w K mg base "check_pace" 1 ["pace","least"] [] (Qy a):=T.h_check_pace.cal (XJ T)
abbrev qP:Int:=1000000000000000000000000000000
def Qz (a:Ad):Sp:=λ vs H Q E=>∃ n:Int,vs=[.int n]/\if 0<=n/\n < qP then Q .non H else E (.ref a.BadKnot) none H
theorem XL (T:Txt K mg a) (F:Fun K "check_kind" "check_kind" j6 f fd):FnOk P w K mg base (CXr P w) 1 f fd ["kind"] (Qz a):=by
 refine F.okx Xx ?_ ?_
 ·walk_at "i"
 walk_at "k";obtain ⟨n,rfl,k⟩:=h;walk_at "T";refine ⟨_,(zg (zG (jQ (jN xl zfY zd (pq 0) zd5))  (zg (qH ⟨rfl,rfl,rfl⟩ rfl (za xi zc)))  zp)),?_⟩;walk_at "go";have bad:¬ (0<=n/\n < qP)->∃ C,mg "BadKnot"=some (Value.ref C)/\XC K C/\E (Value.ref C) none H:=λ h=>by
  rw [if_neg h] at k;exact ⟨a.BadKnot,T.g_BadKnot,T.X_BadKnot,k⟩
 refine zL (λ h1=>?_) (λ h1=>bad (by omega));walk_at "go";refine zL (λ h2=>?_) (λ h2=>bad (by unfold qP;omega));rw [if_pos (by unfold qP;omega)] at k;walk_at "go";exact k
theorem ZP (T:Txt K mg a):Cal P w K mg base "check_kind" 1 ["kind"] [] (Qz a):=T.h_check_kind.cal (XL T)
def Vo (bs:List Bool) (side:Nat):Nat->Nat->Option Nat
 | 0,_=>none
 | n + 1,k=>if bs.getD ((side + k) % bs.length) false=true then some ((side + k) % bs.length) else Vo bs side n (k + 1)
def jC (bs:List Bool) (side:Nat):Option Nat:=Vo bs side bs.length 0
def vB:Option Nat->V
 | none=>.non
 | some n=>.int n
theorem zcf {bs:List Bool} {side:Nat} (h:0 < bs.length):∀ {n k p:Nat},Vo bs side n k=some p->p < bs.length
 | 0,_,_,e=>by simp [Vo] at e
 | n + 1,k,p,e=>by
  unfold Vo at e
  split at e
  ·cases e;exact Nat.mod_lt _ h
  ·exact zcf h e
theorem xY {bs:List Bool} {side p:Nat} (e:jC bs side=some p):p < bs.length:=by
 by_cases h:0 < bs.length
 ·exact zcf h e
 ·unfold jC at e;rw [show bs.length=0 by omega] at e;simp [Vo] at e
def Zl (K:PySem.W.Frag):Sp:=λ vs H Q _=>∃ (l:Addr) (bs:List Bool) (side:Nat),vs=[.ref l,.int side]/\SqL K H l (bs.map V.bl)/\bs.length<=1000/\Q (vB (jC bs side)) H
theorem JQ (T:Txt K mg a) (F:Fun K "first_place" "first_place" jE f fd):FnOk P w K mg base (CXr P w) 1 f fd ["wanted","side"] (Zl K):=by
 refine F.okx JB ?_ ?_
 ·walk_at "i"
 walk_at "k";obtain ⟨l,bs,side,rfl,hl,hb,k⟩:=h;walk_at "T";refine ⟨_,(zh (jh jS rfl (we (za (zQ zV zU (za (pq 0) zc)) zc)) (qr 2 JB.nd)  (zh (zo 3 JB.nd (zH jw (zH z9 (pq 1) (pq 2)) (zQ zV zU (za (pq 0) zc))))  (zg (zG (qT (zv (pq 0) (pq 3)) (λ _=>rfl))  (zg (zk (pq 3)))  zp))))  (zg (zk zy))),?_⟩;walk_at "for";walk_at "go";refine ⟨_,.inl ⟨_,hl,rfl⟩,by omega,by rw [length_map];omega,?_⟩;refine ZI (λ i σ H'=>∃ v2 v3,σ=[some (.ref l),some (.int side),v2,v3]/\H'=H/\Q (vB (Vo bs side (bs.length - i) i)) H) ⟨_,_,rfl,rfl,k⟩ ?_ ?_
 ·rintro i σ H' hi ⟨v2,v3,rfl,rfl,k⟩;have hi:i < bs.length:=by simpa using hi
  walk_at "go";refine ⟨_,.inl ⟨_,hl,rfl⟩,?_⟩;walk_at "r";rw [length_map];refine And.intro (by omega) ?_;have e:((side:Int) + (0 + (i:Int))) % (bs.length:Int)=(((side + i) % bs.length:Nat):Int):=by push_cast;rw [Int.zero_add]
  rw [e];have hlt:(side + i) % bs.length < bs.length:=Nat.mod_lt _ (by omega);refine zt hl (zJ (by rw [getElem?_map,getElem?_eq_getElem hlt];rfl)) ?_;walk_at "r";have em:bs.length - i=(bs.length - (i + 1)) + 1:=by omega
  rw [em,Vo] at k;have eg:bs.getD ((side + i) % bs.length) false=bs[(side + i) % bs.length]:=by simp [hlt]
  rw [eg] at k;cases hbb:bs[(side + i) % bs.length] with
  | true =>
   rw [hbb,if_pos rfl] at k;walk_at "r";exact k
  | false =>
   rw [hbb,if_neg (by decide)] at k;walk_at "r"
   first|exact ⟨_,_,rfl,rfl,k⟩|exact ⟨_,_,rfl,k⟩|exact k
 ·rintro σ H' ⟨v2,v3,rfl,rfl,k⟩;walk_at "r";simpa [Vo,vB] using k
theorem vN (T:Txt K mg a):Cal P w K mg base "first_place" 1 ["wanted","side"] [] (Zl K):=T.h_first_place.cal (JQ T)
def Jr (K:PySem.W.Frag):Sp:=λ vs H Q _=>∃ (v:V) (l:Addr) (bs:List Bool) (side:Nat),vs=[v,.ref l,.int side]/\SqL K H l (bs.map V.bl)/\bs.length<=1000/\Q (if v=.non then .non else vB (jC bs side)) H
theorem Zy (T:Txt K mg a) (F:Fun K "place_for_ware" "place_for_ware" qN f fd):FnOk P w K mg base (CXr P w) 2 f fd ["head","free","side"] (Jr K):=by
 refine F.okx Zm ?_ ?_
 ·walk_at "i"
 walk_at "k";obtain ⟨v,l,bs,side,rfl,hl,hb,k⟩:=h;walk_at "T";refine ⟨_,(zg (zk (xk (zq ji (pq 0) zy (zw _)) zy (zm ⟨rfl,rfl,rfl⟩ hr (za (pq 1) (za (pq 2) zc)))))),?_⟩;walk_at "go";refine zL (λ h=>?_) (λ h=>?_)
 ·rw [if_pos h] at k;walk_at "r";exact k
 ·rw [if_neg h] at k;walk_at "r";exact ⟨_,_,_,vN T,l,bs,side,rfl,hl,hb,k⟩
theorem xZ (T:Txt K mg a):Cal P w K mg base "place_for_ware" 2 ["head","free","side"] [] (Jr K):=T.h_place_for_ware.cal (Zy T)
def qx (K:PySem.W.Frag) (C CB:Addr):Sp:=λ vs H Q E=>∃ (y dx o:Addr) (into:V) (ys:List V),vs=[.ref y,into,.ref o]/\H y=some (.ins C dx [])/\SqL K H o ys/\o≠y /\
 if 2<=ys.length/\ys.length<=4 then ∀ H' l1 l2,Own H H' y->H' y=some (.ins C dx (kf l1 l2))->H' l1=some (.lst [into])->H' l2=some (.lst ys)->H l1=none->H l2=none->Q .non H' else E (.ref CB) none H
theorem JU (T:Txt K mg a) (F:Fun K "__init__" "Parter.__init__" jG f fd):FnOk P w K mg base (CXr P w) 2 f fd ["self","into","outs"] (qx K a.Parter a.BadKnot):=by
 refine F.okx JF ?_ ?_
 ·walk_at "i"
 walk_at "k";obtain ⟨y,dx,o,into,ys,rfl,hy,ho,hoy,k⟩:=h;walk_at "T";refine ⟨_,(zh (zx (zm ⟨rfl,rfl,rfl⟩ hr (za (pq 2) zc)))  (zg (zx (vp ⟨rfl,rfl,rfl⟩ hr (za (pq 0) (za (zz (za (pq 1) zc)) (za (pq 2) zc))))))),?_⟩;walk_at "go";refine ⟨_,_,_,wq T,o,ys,rfl,ho,zL (λ hok=>?_) (λ hok=>?_)⟩
 ·rw [if_pos hok] at k;walk_at "go";refine ⟨_,_,_,b_Knot_init T,λ p hp=>⟨y,a.Parter,dx,p,o,[into],ys,rfl,upd_keep hy hp,T.C_Parter,T.N_Parter_ins,T.N_Parter_outs,SqL.of upd_same,(zf hp).seq ho,(ne_of_none hy hp).symm,hoy,λ H' l1 l2 s h1 h2 h3 h4 h5=>?_⟩⟩;exact k H' l1 l2 ((Same.own (zf hp)).trans s) h1 h2 h3 (zT h4) (zT h5)
 ·rw [if_neg hok] at k;exact k
theorem ZF (T:Txt K mg a):KCal P w K mg base "Parter" a.Parter 2 ["self","into","outs"] [] (qx K a.Parter a.BadKnot):=T.h_Parter_init.cal T.g_Parter (JU T)
theorem vC (T:Txt K mg a) (F:Fun K "__init__" "FirstParter.__init__" qz f fd):FnOk P w K mg base (CXr P w) 2 f fd ["self","into","outs"] (qx K a.FirstParter a.BadKnot):=by
 refine F.okx vA ?_ ?_
 ·walk_at "i"
 walk_at "k";obtain ⟨y,dx,o,into,ys,rfl,hy,ho,hoy,k⟩:=h;walk_at "T";refine ⟨_,(zh (zx (zm ⟨rfl,rfl,rfl⟩ hr (za (pq 2) zc)))  (zg (zx (vp ⟨rfl,rfl,rfl⟩ hr (za (pq 0) (za (zz (za (pq 1) zc)) (za (pq 2) zc))))))),?_⟩;walk_at "go";refine ⟨_,_,_,wq T,o,ys,rfl,ho,zL (λ hok=>?_) (λ hok=>?_)⟩
 ·rw [if_pos hok] at k;walk_at "go";refine ⟨_,_,_,b_Knot_init T,λ p hp=>⟨y,a.FirstParter,dx,p,o,[into],ys,rfl,upd_keep hy hp,T.C_FirstParter,T.N_FirstParter_ins,T.N_FirstParter_outs,SqL.of upd_same,(zf hp).seq ho,(ne_of_none hy hp).symm,hoy,λ H' l1 l2 s h1 h2 h3 h4 h5=>?_⟩⟩;exact k H' l1 l2 ((Same.own (zf hp)).trans s) h1 h2 h3 (zT h4) (zT h5)
 ·rw [if_neg hok] at k;exact k
theorem jI (T:Txt K mg a):KCal P w K mg base "FirstParter" a.FirstParter 2 ["self","into","outs"] [] (qx K a.FirstParter a.BadKnot):=T.h_FirstParter_init.cal T.g_FirstParter (vC T)
def vf (l1 l2:Addr) (n:Int):List (Str × V):=z7 "kind" (.int n) (kf l1 l2)
theorem ze0 {l1 l2:Addr} {n:Int}:(vf l1 l2 n).lookup ("kind":Str)=some (.int n):=by
 unfold vf;rw [zY,if_pos rfl]
theorem zgY {l1 l2:Addr} {n:Int} {m:Str} (h1:m≠"ins") (h2:m≠"outs") (h3:m≠"kind"):(vf l1 l2 n).lookup m=none:=by
 unfold vf;rw [zY,if_neg h3];exact zhe h1 h2
def wF (K:PySem.W.Frag) (C CB:Addr):Sp:=λ vs H Q E=>∃ (y dx o:Addr) (into:V) (ys:List V) (n:Int),vs=[.ref y,into,.ref o,.int n]/\H y=some (.ins C dx [])/\SqL K H o ys/\o≠y /\
 if ys.length=2/\0<=n/\n < qP then ∀ H' l1 l2,Own H H' y->H' y=some (.ins C dx (vf l1 l2 n))->H' l1=some (.lst [into])->H' l2=some (.lst ys)->H l1=none->H l2=none->Q .non H' else E (.ref CB) none H
theorem XN (T:Txt K mg a) (F:Fun K "__init__" "Sieve.__init__" j7 f fd):FnOk P w K mg base (CXr P w) 2 f fd ["self","into","outs","kind"] (wF K a.Sieve a.BadKnot):=by
 refine F.okx Xz ?_ ?_
 ·walk_at "i"
 walk_at "k";obtain ⟨y,dx,o,into,ys,n,rfl,hy,ho,hoy,k⟩:=h;walk_at "T";refine ⟨_,(zh (zG (zq (zb5 hr.units1) (zQ zV zU (za (pq 2) zc)) zd (zw _))  (zg (qH ⟨rfl,rfl,rfl⟩ rfl (za xi zc)))  zp)  (zh (zx (zm ⟨rfl,rfl,rfl⟩ hr (za (pq 3) zc)))  (zh (zx (vp ⟨rfl,rfl,rfl⟩ hr (za (pq 0) (za (zz (za (pq 1) zc)) (za (pq 2) zc)))))  (zg (jv (pq 0) (pq 3) rfl))))),?_⟩;walk_at "go";refine ⟨_,.inl ⟨_,ho,rfl⟩,?_⟩;walk_at "go";refine zL (λ h1=>?_) (λ h1=>?_)
 ·rw [if_neg (by omega)] at k;exact ⟨a.BadKnot,T.g_BadKnot,T.X_BadKnot,k⟩
 ·refine ⟨_,_,_,ZP T,n,rfl,zL (λ hok=>?_) (λ hok=>?_)⟩
  ·rw [if_pos ⟨by omega,hok⟩] at k;walk_at "go";refine ⟨_,_,_,b_Knot_init T,λ p hp=>⟨y,a.Sieve,dx,p,o,[into],ys,rfl,upd_keep hy hp,T.C_Sieve,T.N_Sieve_ins,T.N_Sieve_outs,SqL.of upd_same,(zf hp).seq ho,(ne_of_none hy hp).symm,hoy,λ H' l1 l2 s h1 h2 h3 h4 h5=>?_⟩⟩;walk_at "go";refine ⟨y,a.Sieve,dx,_,rfl,h1,T.C_Sieve,T.N_Sieve_kind,zbv,?_⟩;exact k _ l1 l2 (((Same.own (zf hp)).trans s).trans je) upd_same (by rw [upd_ne (QC h2 h1 (by intro z;cases z))];exact h2) (by rw [upd_ne (QC h3 h1 (by intro z;cases z))];exact h3) (zT h4) (zT h5)
  ·rw [if_neg (λ z=>hok z.2)] at k;exact k
theorem zca (T:Txt K mg a):KCal P w K mg base "Sieve" a.Sieve 2 ["self","into","outs","kind"] [] (wF K a.Sieve a.BadKnot):=T.h_Sieve_init.cal T.g_Sieve (XN T)
def jp (K:PySem.W.Frag) (C CB:Addr):Sp:=λ vs H Q E=>∃ (y dx o:Addr) (out:V) (ys:List V),vs=[.ref y,.ref o,out]/\H y=some (.ins C dx [])/\SqL K H o ys/\o≠y /\
 if 2<=ys.length/\ys.length<=4 then ∀ H' l1 l2,Own H H' y->H' y=some (.ins C dx (kf l1 l2))->H' l1=some (.lst ys)->H' l2=some (.lst [out])->H l1=none->H l2=none->Q .non H' else E (.ref CB) none H
theorem JV (T:Txt K mg a) (F:Fun K "__init__" "Joiner.__init__" jH f fd):FnOk P w K mg base (CXr P w) 2 f fd ["self","ins","out"] (jp K a.Joiner a.BadKnot):=by
 refine F.okx JH ?_ ?_
 ·walk_at "i"
 walk_at "k";obtain ⟨y,dx,o,out,ys,rfl,hy,ho,hoy,k⟩:=h;walk_at "T";refine ⟨_,(zh (zx (zm ⟨rfl,rfl,rfl⟩ hr (za (pq 1) zc)))  (zg (zx (vp ⟨rfl,rfl,rfl⟩ hr (za (pq 0) (za (pq 1) (za (zz (za (pq 2) zc)) zc))))))),?_⟩;walk_at "go";refine ⟨_,_,_,wq T,o,ys,rfl,ho,zL (λ hok=>?_) (λ hok=>?_)⟩
 ·rw [if_pos hok] at k;walk_at "go";refine ⟨_,_,_,b_Knot_init T,λ p hp=>⟨y,a.Joiner,dx,o,p,ys,[out],rfl,upd_keep hy hp,T.C_Joiner,T.N_Joiner_ins,T.N_Joiner_outs,(zf hp).seq ho,SqL.of upd_same,hoy,(ne_of_none hy hp).symm,λ H' l1 l2 s h1 h2 h3 h4 h5=>?_⟩⟩;exact k H' l1 l2 ((Same.own (zf hp)).trans s) h1 h2 h3 (zT h4) (zT h5)
 ·rw [if_neg hok] at k;exact k
theorem ZG (T:Txt K mg a):KCal P w K mg base "Joiner" a.Joiner 2 ["self","ins","out"] [] (jp K a.Joiner a.BadKnot):=T.h_Joiner_init.cal T.g_Joiner (JV T)
def df (l1 l2:Addr) (p:Int):List (Str × V):=z7 "pace" (.int p) (kf l1 l2)
theorem Vq {l1 l2:Addr} {p:Int}:(df l1 l2 p).lookup ("pace":Str)=some (.int p):=by
 unfold df;rw [zY,if_pos rfl]
theorem Zu (f:Str) (v:V):∀ fs:List (Str × V),(z7 f v fs).length<=fs.length + 1
 | []=>by simp [z7]
 | (g,x) :: r=>by
  unfold z7
  split
  ·simp
  ·have:=Zu f v r;simp;omega
theorem zfx {l1 l2:Addr}:(kf l1 l2).length<=2:=by
 unfold kf;have h1:=Zu "outs" (V.ref l2) (z7 "ins" (.ref l1) []);have h2:=Zu "ins" (V.ref l1) [];simp only [length_nil] at h2;omega
theorem zgM {l1 l2:Addr} {p:Int}:(df l1 l2 p).length < 1000:=by
 unfold df;have h1:=Zu "pace" (V.int p) (kf l1 l2);have h2:=zfx (l1:=l1) (l2:=l2);omega
def xq (C CB:Addr):Sp:=λ vs H Q E=>∃ (y dx:Addr) (into:V) (p:Int),vs=[.ref y,into,.int p]/\H y=some (.ins C dx []) /\
 if 0<=p/\p<=4 then ∀ H' l1 l2,Own H H' y->H' y=some (.ins C dx (df l1 l2 p))->H' l1=some (.lst [into])->H' l2=some (.lst [])->H l1=none->H l2=none->Q .non H' else E (.ref CB) none H
theorem XQ (T:Txt K mg a) (F:Fun K "__init__" "Drain.__init__" j9 f fd):FnOk P w K mg base (CXr P w) 2 f fd ["self","into","pace"] (xq a.Drain a.BadKnot):=by
 refine F.okx XB ?_ ?_
 ·walk_at "i"
 walk_at "k";obtain ⟨y,dx,into,p,rfl,hy,k⟩:=h;walk_at "T";refine ⟨_,(zh (zx (zm ⟨rfl,rfl,rfl⟩ hr (za (pq 2) (za zd zc))))  (zh (zx (vp ⟨rfl,rfl,rfl⟩ hr (za (pq 0) (za (zz (za (pq 1) zc)) (za (zz zc) zc)))))  (zg (jv (pq 0) (pq 2) rfl)))),?_⟩;walk_at "go";refine ⟨_,_,_,ZO T,p,0,rfl,zL (λ hok=>?_) (λ hok=>?_)⟩
 ·rw [if_pos hok] at k;walk_at "go";refine ⟨_,_,_,b_Knot_init T,λ q1 hq1 q2 hq2=>?_⟩;have n12:q1≠q2:=ne_of_none upd_same hq2;have hy2:=upd_keep (o:=.lst []) (upd_keep (o:=.lst [into]) hy hq1) hq2;refine ⟨y,a.Drain,dx,q1,q2,[into],[],rfl,hy2,T.C_Drain,T.N_Drain_ins,T.N_Drain_outs,SqL.of (upd_keep upd_same hq2),SqL.of upd_same,(ne_of_none hy hq1).symm,(ne_of_none (upd_keep hy hq1) hq2).symm,λ H' l1 l2 s h1 h2 h3 h4 h5=>?_⟩;walk_at "go";refine ⟨y,a.Drain,dx,_,rfl,h1,T.C_Drain,T.N_Drain_pace,zbv,?_⟩;exact k _ l1 l2 (((Same.own ((zf hq1).trans (zf hq2))).trans s).trans je) upd_same (by rw [upd_ne (QC h2 h1 (by intro z;cases z))];exact h2) (by rw [upd_ne (QC h3 h1 (by intro z;cases z))];exact h3) (zT (zT h4)) (zT (zT h5))
 ·rw [if_neg hok] at k;exact k
theorem wm (T:Txt K mg a):KCal P w K mg base "Drain" a.Drain 2 ["self","into","pace"] [] (xq a.Drain a.BadKnot):=T.h_Drain_init.cal T.g_Drain (XQ T)
def sf (l1 l2:Addr) (p:Int) (l3:Addr):List (Str × V):=z7 "kinds" (.ref l3) (df l1 l2 p)
theorem ze5 {l1 l2 l3:Addr} {p:Int}:(sf l1 l2 p l3).lookup ("pace":Str)=some (.int p):=by
 unfold sf;rw [zY,if_neg (by decide +kernel)];exact Vq
def x8 (ks:List Int):Prop:=∀ n∈ks,0<=n/\n < qP
def x9 (K:PySem.W.Frag) (C CB:Addr):Sp:=λ vs H Q E=>∃ (y dx l:Addr) (out:V) (p:Int) (ks:List Int),vs=[.ref y,out,.int p,.ref l]/\H y=some (.ins C dx [])/\SqL K H l (ks.map V.int)/\l≠y /\
 ((1<=p/\p<=4/\1<=ks.length/\ks.length<=6/\x8 ks->∀ H' l1 l2 l3,Own H H' y->H' y=some (.ins C dx (sf l1 l2 p l3))->H' l1=some (.lst [])->H' l2=some (.lst [out])->H' l3=some (.lst (ks.map V.int))->H l1=none->H l2=none->H l3=none->Q .non H') /\
   (¬ (1<=p/\p<=4/\1<=ks.length/\ks.length<=6/\x8 ks)->E (.ref CB) none H))
theorem JT (T:Txt K mg a) (F:Fun K "__init__" "Source.__init__" jF f fd):FnOk P w K mg base (CXr P w) 2 f fd ["self","out","pace","kinds"] (x9 K a.Source a.BadKnot):=by
 refine F.okx JE ?_ ?_
 ·walk_at "i"
 walk_at "k";obtain ⟨y,dx,l,out,p,ks,rfl,hy,hl,hly,kok,kbad⟩:=h;obtain ⟨t1,g1⟩:=T.g_MOST_KINDS;walk_at "T";refine ⟨_,(zh (zx (zm ⟨rfl,rfl,rfl⟩ hr (za (pq 2) (za zd zc))))  (zh (zG (jQ (jN xl xl zd (zQ zV zU (za (pq 3) zc)) xT))  (zg (qH ⟨rfl,rfl,rfl⟩ rfl (za xi zc)))  zp)  (zh (jh jS rfl (qd (pq 3)) (qr 4 JE.nd)  (zg (zx (zm ⟨rfl,rfl,rfl⟩ hr (za (pq 4) zc)))))  (zh (zx (vp ⟨rfl,rfl,rfl⟩ hr (za (pq 0) (za (zz zc) (za (zz (za (pq 1) zc)) zc)))))  (zh (jv (pq 0) (pq 2) rfl)  (zg (jv (pq 0) (wL vy wt (za (pq 3) zc)) rfl))))))),?_⟩;walk_at "go";refine ⟨_,_,_,ZO T,p,1,rfl,zL (λ hp=>?_) (λ hp=>kbad λ z=>hp ⟨z.1,z.2.1⟩)⟩;walk_at "go";refine ⟨_,.inl ⟨_,hl,rfl⟩,?_⟩;rw [length_map];walk_at "go";have bad:¬ (1<=ks.length/\ks.length<=6)->∃ C,mg "BadKnot"=some (Value.ref C)/\XC K C/\E (Value.ref C) none H:=λ h=>⟨a.BadKnot,T.g_BadKnot,T.X_BadKnot,kbad λ z=>h ⟨z.2.2.1,z.2.2.2.1⟩⟩;refine zL (λ h1=>?_) (λ h1=>bad (by omega));refine ⟨.int 6,_,g1,⟨_,rfl⟩,?_⟩;walk_at "go";refine zL (λ h2=>?_) (λ h2=>bad (by omega));walk_at "for";refine ⟨l,rfl,.inl ⟨⟨_,hl⟩,?_⟩⟩;refine qR (K:=K) (a:=l) (xs:=ks.map V.int) (λ i σ H'=>∃ v4,σ=[some (.ref y),some out,some (.int p),some (.ref l),v4]/\H'=H/\x8 (ks.take i)) ⟨_,rfl,rfl,(λ _ h=>nomatch h)⟩ (λ i σ H' _ ⟨_,_,e,_⟩=>e ▸ hl) ?_ ?_
 ·rintro i x σ H' hi ⟨v4,rfl,rfl,hk⟩;rw [getElem?_map,Option.map_eq_some_iff] at hi;obtain ⟨n,hn,rfl⟩:=hi;walk_at "go";refine ⟨_,_,_,ZP T,n,rfl,zL (λ hok=>?_) (λ hok=>kbad λ z=>hok (z.2.2.2.2 n (mem_of_getElem? hn)))⟩;walk_at "go";have:x8 (ks.take (i + 1)):=λ m hm=>by
   rw [take_succ,hn] at hm;rcases List.mem_append.mp hm with z|z
   ·exact hk m z
   ·have e:m=n:=by simpa using z
    rw [e];exact hok
  first|exact ⟨_,rfl,rfl,this⟩|exact ⟨_,rfl,this⟩
 ·rintro σ H' ⟨v4,rfl,rfl,hk⟩;rw [length_map,take_length] at hk;have kok:=kok ⟨hp.1,hp.2,by omega,by omega,hk⟩;walk_at "go";refine ⟨_,_,_,b_Knot_init T,λ q1 hq1 q2 hq2=>?_⟩;have hy2:=upd_keep (o:=.lst [out]) (upd_keep (o:=.lst []) hy hq1) hq2;have s12:Same H' (upd (upd H' q1 (.lst [])) q2 (.lst [out])):=(zf hq1).trans (zf hq2);refine ⟨y,a.Source,dx,q1,q2,[],[out],rfl,hy2,T.C_Source,T.N_Source_ins,T.N_Source_outs,SqL.of (upd_keep upd_same hq2),SqL.of upd_same,(ne_of_none hy hq1).symm,(ne_of_none (upd_keep hy hq1) hq2).symm,λ H2 l1 l2 s h1 h2 h3 h4 h5=>?_⟩;walk_at "go";refine ⟨y,a.Source,dx,_,rfl,h1,T.C_Source,T.N_Source_pace,zbv,?_⟩;walk_at "go";have s3:Own H' (upd H2 y (.ins a.Source dx (df l1 l2 p))) y:=((Same.own s12).trans s).trans je;have h2':upd H2 y (.ins a.Source dx (df l1 l2 p)) l1=some (.lst []):=by rw [upd_ne (QC h2 h1 (by intro z;cases z))];exact h2
  have h3':upd H2 y (.ins a.Source dx (df l1 l2 p)) l2=some (.lst [out]):=by rw [upd_ne (QC h3 h1 (by intro z;cases z))];exact h3
  refine ⟨l,_,rfl,.inl (zbR hl s3 hly),λ l3 hl3=>?_⟩;walk_at "go";have hy3:upd (upd H2 y (.ins a.Source dx (df l1 l2 p))) l3 (.lst (ks.map V.int)) y=some (.ins a.Source dx (df l1 l2 p)):=upd_keep upd_same hl3;refine ⟨y,a.Source,dx,_,rfl,hy3,T.C_Source,T.N_Source_kinds,zgM,?_⟩;have n1:l1≠y:=QC h2 h1 (by intro z;cases z);have n2:l2≠y:=QC h3 h1 (by intro z;cases z);have n3:l3≠y:=(ne_of_none (upd_same (H:=H2)) hl3).symm;refine kok _ l1 l2 l3 ((s3.trans (Same.own (zf hl3))).trans je) upd_same ?_ ?_ ?_ (zT (zT h4)) (zT (zT h5)) ?_
  ·rw [upd_ne n1];exact upd_keep h2' hl3
  ·rw [upd_ne n2];exact upd_keep h3' hl3
  ·rw [upd_ne n3];exact upd_same
  ·cases e:H' l3 with
   | none=>rfl
   | some o=>exact absurd (hl3.symm.trans (s3 l3 o n3 e)) (by intro z;cases z)
theorem xX (T:Txt K mg a):KCal P w K mg base "Source" a.Source 2 ["self","out","pace","kinds"] [] (x9 K a.Source a.BadKnot):=T.h_Source_init.cal T.g_Source (JT T)
def bf (rm pc:Int):List (Str × V):=z7 "pace" (.int pc) (z7 "room" (.int rm) [])
abbrev zu (rm pc:Int):Prop:=1<=rm/\rm<=6/\1<=pc/\pc<=4
def vS (C CB:Addr):Sp:=λ vs H Q E=>∃ (y dx:Addr) (rm pc:Int),vs=[.ref y,.int rm,.int pc]/\H y=some (.ins C dx [])/\if zu rm pc then Q .non (upd H y (.ins C dx (bf rm pc))) else E (.ref CB) none H
theorem Ve (T:Txt K mg a) (F:Fun K "__init__" "Belt.__init__" xz f fd):FnOk P w K mg base (CXr P w) 1 f fd ["self","room","pace"] (vS a.Belt a.BadBelt):=by
 refine F.okx WO ?_ ?_
 ·walk_at "i"
 walk_at "k";obtain ⟨y,dx,rm,pc,rfl,hy,k⟩:=h;obtain ⟨t1,g1⟩:=T.g_MOST_ROOM;obtain ⟨t2,g2⟩:=T.g_MOST_PACE;walk_at "T";refine ⟨_,(zh (zG (jQ (jN xl xl zd (pq 1) xT))  (zg (qH ⟨rfl,rfl,rfl⟩ rfl (za xi zc)))  zp)  (zh (zG (jQ (jN xl xl zd (pq 2) xT))  (zg (qH ⟨rfl,rfl,rfl⟩ rfl (za xi zc)))  zp)  (zh (jv (pq 0) (pq 1) rfl)  (zg (jv (pq 0) (pq 2) rfl))))),?_⟩;walk_at "go";have bad:¬ zu rm pc->∃ C,mg "BadBelt"=some (Value.ref C)/\XC K C/\E (Value.ref C) none H:=λ h=>by
  rw [if_neg h] at k;exact ⟨a.BadBelt,T.g_BadBelt,T.X_BadBelt,k⟩
 refine zL (λ h1=>?_) (λ h1=>bad (by unfold zu;omega));refine ⟨.int 6,_,g1,⟨_,rfl⟩,?_⟩;walk_at "go";refine zL (λ h2=>?_) (λ h2=>bad (by unfold zu;omega));walk_at "go";refine zL (λ h3=>?_) (λ h3=>bad (by unfold zu;omega));refine ⟨.int 4,_,g2,⟨_,rfl⟩,?_⟩;walk_at "go";refine zL (λ h4=>?_) (λ h4=>bad (by unfold zu;omega));rw [if_pos (by unfold zu;omega)] at k;walk_at "go";refine ⟨y,a.Belt,dx,[],rfl,hy,T.C_Belt,T.N_Belt_room,by decide,?_⟩;walk_at "go";refine ⟨y,a.Belt,dx,_,rfl,upd_same,T.C_Belt,T.N_Belt_pace,by show 1 < 1000;decide,?_⟩;rw [Zk];exact k
theorem Zd (T:Txt K mg a):KCal P w K mg base "Belt" a.Belt 1 ["self","room","pace"] [] (vS a.Belt a.BadBelt):=T.h_Belt_init.cal T.g_Belt (Ve T)
theorem qe {H:Hp} {y dx b C:Addr} {u:HO} (hy:H y=none) (hdx:H dx=none) (h:H b=some u):upd (upd H dx (.own y)) y (.ins C dx []) b=some u:=by
 rw [upd_ne (ne_of_none h hy),upd_ne (ne_of_none h hdx)];exact h
theorem zB {H:Hp} {y dx b:Addr} {o p:HO} (h:upd (upd H dx o) y p b=none):H b=none:=zT (zT h)
theorem zA {H H':Hp} {b:Addr} (s:Same H H') (h:H' b=none):H b=none:=by
 cases e:H b with
 | none=>rfl
 | some o=>rw [s b o e] at h;cases h
inductive Wd|source|drain|parter|first|sieve|joiner
deriving DecidableEq
def wo (a:Ad):Wd->Addr
 | .source=>a.Source
 | .drain=>a.Drain
 | .parter=>a.Parter
 | .first=>a.FirstParter
 | .sieve=>a.Sieve
 | .joiner=>a.Joiner
structure Row where
 wd:Wd
 ins:List Int
 outs:List Int
 pace:Int
 kinds:List Int
def Row.ok (r:Row):Prop:=match r.wd with
 | .source=>r.ins=[]/\(∃ o,r.outs=[o])/\1<=r.pace/\r.pace<=4/\1<=r.kinds.length/\r.kinds.length<=6/\x8 r.kinds
 | .drain=>(∃ i,r.ins=[i])/\r.outs=[]/\0<=r.pace/\r.pace<=4
 | .parter=>(∃ i,r.ins=[i])/\2<=r.outs.length/\r.outs.length<=4
 | .first=>(∃ i,r.ins=[i])/\2<=r.outs.length/\r.outs.length<=4
 | .sieve=>(∃ i,r.ins=[i])/\r.outs.length=2/\∃ k,r.kinds=[k]/\0<=k/\k < qP
 | .joiner=>(∃ o,r.outs=[o])/\2<=r.ins.length/\r.ins.length<=4
def zam (r:Row):List (Str × D):=match r.wd with
 | .source=>[("pace",.int r.pace),("kinds",.ints r.kinds)]
 | .drain=>[("pace",.int r.pace)]
 | .sieve=>[("kind",.int (r.kinds.headD 0))]
 | _=>[]
def Xa (r:Row):List (Str × D):=("ins",.ints r.ins) :: ("outs",.ints r.outs) :: zam r
def wT (a:Ad) (r:Row):D:=.ob (wo a r.wd) (Xa r)
def jU (a:Ad) (b:Int × Int):D:=.ob a.Belt [("room",.int b.1),("pace",.int b.2)]
theorem qK {α:Type} {f:Str} {x:α} {r:List (Str × α)}:((f,x) :: r).lookup f=some x:=by simp [List.lookup]
theorem zE {α:Type} {f g:Str} {x:α} {r:List (Str × α)} (h:f≠g):((g,x) :: r).lookup f=r.lookup f:=by
 have hb:(f == g)=false:=beq_eq_false_iff_ne.mpr h;simp [List.lookup,hb]
theorem zfv (r:Row):(Xa r).lookup ("ins":Str)=some (.ints r.ins):=qK
theorem zen (r:Row):(Xa r).lookup ("outs":Str)=some (.ints r.outs):=(zE (by decide +kernel)).trans qK
theorem zem {r:Row} (h:r.wd=.source\/r.wd=.drain):(Xa r).lookup ("pace":Str)=some (.int r.pace):=by
 refine (zE (by decide +kernel)).trans ((zE (by decide +kernel)).trans ?_);unfold zam;rcases h with h|h <;> (rw [h];exact qK)
theorem zc4 {r:Row} (h:r.wd=.source):(Xa r).lookup ("kinds":Str)=some (.ints r.kinds):=by
 refine (zE (by decide +kernel)).trans ((zE (by decide +kernel)).trans ?_);unfold zam;rw [h];exact (zE (by decide +kernel)).trans qK
theorem zep {r:Row} {k:Int} (h:r.wd=.sieve) (e:r.kinds=[k]):(Xa r).lookup ("kind":Str)=some (.int k):=by
 refine (zE (by decide +kernel)).trans ((zE (by decide +kernel)).trans ?_);unfold zam;rw [h,e];exact qK
theorem zeo {r:Row} {f:Str} (h1:f≠"ins") (h2:f≠"outs") (h3:f≠"pace") (h4:f≠"kinds") (h5:f≠"kind"):(Xa r).lookup f=none:=by
 refine (zE h1).trans ((zE h2).trans ?_);unfold zam
 split
 ·exact (zE h3).trans (zE h4)
 ·exact zE h3
 ·exact zE h5
 ·rfl
def KnP (a:Ad) (H:Hp) (p:Addr->Prop) (v:V) (r:Row):Prop:=Rep H p v (wT a r)
theorem KnP.keep {H H':Hp} {p q:Addr->Prop} {v:V} {r:Row} (h:KnP a H p v r) (s:∀ b o,p b->H b=some o->q b/\H' b=some o):KnP a H' q v r:=Rep.keep s h
theorem KnP.inv {H:Hp} {p:Addr->Prop} {v:V} {r:Row} (h:KnP a H p v r):∃ y dx l1 l2 l3 fs,v=.ref y/\p y/\p l1/\p l2/\(r.wd=.source->p l3)/\H y=some (.ins (wo a r.wd) dx fs)/\fs.lookup ("ins":Str)=some (.ref l1)/\fs.lookup ("outs":Str)=some (.ref l2) /\
  fs.lookup ("copied":Str)=none/\H l1=some (.lst (iv r.ins))/\H l2=some (.lst (iv r.outs))/\(r.wd=.source->fs.lookup ("kinds":Str)=some (.ref l3)/\H l3=some (.lst (iv r.kinds)))/\((r.wd=.source\/r.wd=.drain)->fs.lookup ("pace":Str)=some (.int r.pace)):=by
 obtain ⟨y,dx,fs,rfl,py,hy,g1,g2⟩:=Rep.ob' h;obtain ⟨u1,e1,r1⟩:=g1 _ _ (zfv r);obtain ⟨l1,rfl,p1,h1⟩:=r1.ints';obtain ⟨u2,e2,r2⟩:=g1 _ _ (zen r);obtain ⟨l2,rfl,p2,h2⟩:=r2.ints';have e3:=g2 ("copied":Str) (zeo (by decide +kernel) (by decide +kernel) (by decide +kernel) (by decide +kernel) (by decide +kernel));have pc:(r.wd=.source\/r.wd=.drain)->fs.lookup ("pace":Str)=some (.int r.pace):=λ z=>by
  obtain ⟨u,e,ru⟩:=g1 _ _ (zem z);cases ru;exact e
 by_cases hs:r.wd=.source
 ·obtain ⟨u3,e4,r3⟩:=g1 _ _ (zc4 hs);obtain ⟨l3,rfl,p3,h3⟩:=r3.ints';exact ⟨y,dx,l1,l2,l3,fs,rfl,py,p1,p2,λ _=>p3,hy,e1,e2,e3,h1,h2,λ _=>⟨e4,h3⟩,pc⟩
 ·exact ⟨y,dx,l1,l2,l1,fs,rfl,py,p1,p2,λ z=>absurd z hs,hy,e1,e2,e3,h1,h2,λ z=>absurd z hs,pc⟩
theorem Xc {l1 l2:Addr}:kf l1 l2=([(("ins":Str),V.ref l1),(("outs":Str),V.ref l2)]:List (Str × V)):=by
 unfold kf;simp only [z7];rw [if_neg (by decide +kernel)]
theorem zeH {l1 l2:Addr} {n:Int}:df l1 l2 n=([(("ins":Str),V.ref l1),(("outs":Str),V.ref l2),(("pace":Str),V.int n)]:List (Str × V)):=by
 unfold df;rw [Xc];simp only [z7];rw [if_neg (by decide +kernel),if_neg (by decide +kernel)]
theorem zfU {l1 l2 l3:Addr} {n:Int}:sf l1 l2 n l3=([(("ins":Str),V.ref l1),(("outs":Str),V.ref l2),(("pace":Str),V.int n),(("kinds":Str),V.ref l3)]:List (Str × V)):=by
 unfold sf;rw [zeH];simp only [z7];rw [if_neg (by decide +kernel),if_neg (by decide +kernel),if_neg (by decide +kernel)]
theorem zfP {l1 l2:Addr} {n:Int}:vf l1 l2 n=([(("ins":Str),V.ref l1),(("outs":Str),V.ref l2),(("kind":Str),V.int n)]:List (Str × V)):=by
 unfold vf;rw [Xc];simp only [z7];rw [if_neg (by decide +kernel),if_neg (by decide +kernel)]
theorem wc {H:Hp} {p:Addr->Prop} {l C dx:Addr} {fs:List (Str × V)} {gs:List (Str × D)} (pl:p l) (e:H l=some (.ins C dx fs)) (n:fs.map (·.1)=gs.map (·.1)) (r:Reps H p (fs.map (·.2)) (gs.map (·.2))):Rep H p (.ref l) (.ob C gs) :=
 .ob pl e n λ i f g hf hg=>r.g i f.2 g.2 (by rw [getElem?_map,hf];rfl) (by rw [getElem?_map,hg];rfl)
section
variable {H:Hp} {p:Addr->Prop} {z dz m1 m2 m3:Addr} {ins outs kinds:List Int} {pace:Int}
theorem Wh (q0:p z) (q1:p m1) (q2:p m2) (q3:p m3) (h0:H z=some (.ins a.Source dz (sf m1 m2 pace m3))) (h1:H m1=some (.lst (iv ins))) (h2:H m2=some (.lst (iv outs))) (h3:H m3=some (.lst (iv kinds))):KnP a H p (.ref z) ⟨.source,ins,outs,pace,kinds⟩:=by
 rw [zfU] at h0;exact wc q0 h0 rfl (.cons (qa q1 h1) (.cons (qa q2 h2) (.cons .int (.cons (qa q3 h3) .nil))))
theorem zat (q0:p z) (q1:p m1) (q2:p m2) (h0:H z=some (.ins a.Drain dz (df m1 m2 pace))) (h1:H m1=some (.lst (iv ins))) (h2:H m2=some (.lst (iv outs))):KnP a H p (.ref z) ⟨.drain,ins,outs,pace,kinds⟩:=by
 rw [zeH] at h0;exact wc q0 h0 rfl (.cons (qa q1 h1) (.cons (qa q2 h2) (.cons .int .nil)))
theorem zar {k:Int} (q0:p z) (q1:p m1) (q2:p m2) (h0:H z=some (.ins a.Sieve dz (vf m1 m2 k))) (h1:H m1=some (.lst (iv ins))) (h2:H m2=some (.lst (iv outs))):KnP a H p (.ref z) ⟨.sieve,ins,outs,pace,[k]⟩:=by
 rw [zfP] at h0;exact wc q0 h0 rfl (.cons (qa q1 h1) (.cons (qa q2 h2) (.cons .int .nil)))
theorem Wi (q0:p z) (q1:p m1) (q2:p m2) (h0:H z=some (.ins a.Parter dz (kf m1 m2))) (h1:H m1=some (.lst (iv ins))) (h2:H m2=some (.lst (iv outs))):KnP a H p (.ref z) ⟨.parter,ins,outs,pace,kinds⟩:=by
 rw [Xc] at h0;exact wc q0 h0 rfl (.cons (qa q1 h1) (.cons (qa q2 h2) .nil))
theorem zas (q0:p z) (q1:p m1) (q2:p m2) (h0:H z=some (.ins a.FirstParter dz (kf m1 m2))) (h1:H m1=some (.lst (iv ins))) (h2:H m2=some (.lst (iv outs))):KnP a H p (.ref z) ⟨.first,ins,outs,pace,kinds⟩:=by
 rw [Xc] at h0;exact wc q0 h0 rfl (.cons (qa q1 h1) (.cons (qa q2 h2) .nil))
theorem Wj (q0:p z) (q1:p m1) (q2:p m2) (h0:H z=some (.ins a.Joiner dz (kf m1 m2))) (h1:H m1=some (.lst (iv ins))) (h2:H m2=some (.lst (iv outs))):KnP a H p (.ref z) ⟨.joiner,ins,outs,pace,kinds⟩:=by
 rw [Xc] at h0;exact wc q0 h0 rfl (.cons (qa q1 h1) (.cons (qa q2 h2) .nil))
end
def BtP (a:Ad) (H:Hp) (p:Addr->Prop) (v:V) (r:Int × Int):Prop:=Rep H p v (jU a r)
theorem BtP.keep {H H':Hp} {p q:Addr->Prop} {v:V} {r:Int × Int} (h:BtP a H p v r) (s:∀ b o,p b->H b=some o->q b/\H' b=some o):BtP a H' q v r:=Rep.keep s h
theorem zhs {rm pc:Int}:bf rm pc=([(("room":Str),V.int rm),(("pace":Str),V.int pc)]:List (Str × V)):=by
 unfold bf;simp only [z7];rw [if_neg (by decide +kernel)]
theorem zf4 {H:Hp} {p:Addr->Prop} {y dx:Addr} {rm pc:Int} (q0:p y) (h0:H y=some (.ins a.Belt dx (bf rm pc))):BtP a H p (.ref y) (rm,pc):=by
 rw [zhs] at h0;exact wc q0 h0 rfl (.cons .int (.cons .int .nil))
theorem BtP.inv {H:Hp} {p:Addr->Prop} {v:V} {r:Int × Int} (h:BtP a H p v r):∃ y dx fs,v=.ref y/\p y/\H y=some (.ins a.Belt dx fs)/\fs.lookup ("room":Str)=some (.int r.1)/\fs.lookup ("pace":Str)=some (.int r.2):=by
 obtain ⟨y,dx,fs,rfl,py,hy,g1,g2⟩:=Rep.ob' h;obtain ⟨u1,e1,r1⟩:=g1 ("room":Str) _ qK;obtain ⟨u2,e2,r2⟩:=g1 ("pace":Str) _ ((zE (by decide +kernel)).trans qK);cases r1;cases r2;exact ⟨y,dx,fs,rfl,py,hy,e1,e2⟩
structure Kns (a:Ad) (H:Hp) (p:Addr->Prop) (vs:List V) (rs:List Row):Prop where
 len:vs.length=rs.length
 g:∀ (i:Nat) v r,vs[i]?=some v->rs[i]?=some r->KnP a H p v r
theorem Kns.keep {H H':Hp} {p q:Addr->Prop} {vs:List V} {rs:List Row} (h:Kns a H p vs rs) (s:∀ b o,p b->H b=some o->q b/\H' b=some o):Kns a H' q vs rs:=⟨h.len,λ i v r e1 e2=>(h.g i v r e1 e2).keep s⟩
theorem Kns.nil {H:Hp} {p:Addr->Prop}:Kns a H p [] []:=⟨rfl,λ i v r h=>by simp at h⟩
theorem Kns.append {H:Hp} {p:Addr->Prop} {vs us:List V} {rs qs:List Row} (h:Kns a H p vs rs) (k:Kns a H p us qs):Kns a H p (vs ++ us) (rs ++ qs):=by
 refine ⟨by rw [length_append,length_append,h.len,k.len],λ i v r e1 e2=>?_⟩;by_cases hi:i < vs.length
 ·rw [getElem?_append_left hi] at e1;rw [getElem?_append_left (by rw [<- h.len];exact hi)] at e2;exact h.g i v r e1 e2
 ·rw [getElem?_append_right (by omega)] at e1;rw [getElem?_append_right (by rw [<- h.len];omega),<- h.len] at e2;exact k.g _ v r e1 e2
theorem Kns.one {H:Hp} {p:Addr->Prop} {v:V} {r:Row} (h:KnP a H p v r):Kns a H p [v] [r] :=
 ⟨rfl,λ i u q e1 e2=>by
  have hi:=(List.getElem?_eq_some_iff.mp e1).1;have:i=0:=by simp at hi;omega
  subst this;have e1:v=u:=by simpa using e1
  have e2:r=q:=by simpa using e2
  rw [<- e1,<- e2];exact h⟩
theorem Kns.at {H:Hp} {p:Addr->Prop} {vs:List V} {rs:List Row} (h:Kns a H p vs rs) {i:Nat} {v:V} (e:vs[i]?=some v):∃ r,rs[i]?=some r/\KnP a H p v r:=by
 have hi:=(List.getElem?_eq_some_iff.mp e).1;have e2:rs[i]?=some (rs[i]'(by rw [<- h.len];exact hi)):=getElem?_eq_getElem _;exact ⟨_,e2,h.g i v _ e e2⟩
structure Bts (a:Ad) (H:Hp) (p:Addr->Prop) (vs:List V) (rs:List (Int × Int)):Prop where
 len:vs.length=rs.length
 g:∀ (i:Nat) v r,vs[i]?=some v->rs[i]?=some r->BtP a H p v r
theorem Bts.keep {H H':Hp} {p q:Addr->Prop} {vs:List V} {rs:List (Int × Int)} (h:Bts a H p vs rs) (s:∀ b o,p b->H b=some o->q b/\H' b=some o):Bts a H' q vs rs:=⟨h.len,λ i v r e1 e2=>(h.g i v r e1 e2).keep s⟩
theorem Bts.nil {H:Hp} {p:Addr->Prop}:Bts a H p [] []:=⟨rfl,λ i v r h=>by simp at h⟩
theorem Bts.push {H:Hp} {p:Addr->Prop} {vs:List V} {v:V} {rs:List (Int × Int)} {r:Int × Int} (h:Bts a H p vs rs) (k:BtP a H p v r):Bts a H p (vs ++ [v]) (rs ++ [r]):=by
 refine ⟨by rw [length_append,length_append,h.len];rfl,λ i u q e1 e2=>?_⟩;by_cases hi:i < vs.length
 ·rw [getElem?_append_left hi] at e1;rw [getElem?_append_left (by rw [<- h.len];exact hi)] at e2;exact h.g i u q e1 e2
 ·rw [getElem?_append_right (by omega)] at e1;rw [getElem?_append_right (by rw [<- h.len];omega),<- h.len] at e2;have hj:=(List.getElem?_eq_some_iff.mp e1).1;have:i - vs.length=0:=by simp at hj;omega
  rw [this] at e1 e2;have e1:v=u:=by simpa using e1
  have e2:r=q:=by simpa using e2
  rw [<- e1,<- e2];exact k
theorem Bts.at {H:Hp} {p:Addr->Prop} {vs:List V} {rs:List (Int × Int)} (h:Bts a H p vs rs) {i:Nat} {v:V} (e:vs[i]?=some v):∃ r,rs[i]?=some r/\BtP a H p v r:=by
 have hi:=(List.getElem?_eq_some_iff.mp e).1;have e2:rs[i]?=some (rs[i]'(by rw [<- h.len];exact hi)):=getElem?_eq_getElem _;exact ⟨_,e2,h.g i v _ e e2⟩
abbrev New (H:Hp):Addr->Prop:=λ b=>H b=none
def qq (a:Ad) (wd:Wd):Sp:=λ vs H Q _=>∃ (y:Addr) (r:Row) (p:Addr->Prop),vs=[.ref y]/\KnP a H p (.ref y) r/\r.wd=wd/\r.ok/\∀ v H',Same H H'->KnP a H' (New H) v r->Q v H'
theorem Kns.reps {H:Hp} {p:Addr->Prop} {vs:List V} {rs:List Row} (h:Kns a H p vs rs):Reps H p vs (rs.map (wT a)):=⟨by rw [h.len,length_map],λ i v d e1 e2=>by
 rw [getElem?_map,Option.map_eq_some_iff] at e2;obtain ⟨r,e2,rfl⟩:=e2;exact h.g i v r e1 e2⟩
theorem Bts.reps {H:Hp} {p:Addr->Prop} {vs:List V} {rs:List (Int × Int)} (h:Bts a H p vs rs):Reps H p vs (rs.map (jU a)):=⟨by rw [h.len,length_map],λ i v d e1 e2=>by
 rw [getElem?_map,Option.map_eq_some_iff] at e2;obtain ⟨r,e2,rfl⟩:=e2;exact h.g i v r e1 e2⟩
theorem Kns.of {H:Hp} {p:Addr->Prop} {vs:List V} {rs:List Row} (h:Reps H p vs (rs.map (wT a))):Kns a H p vs rs:=⟨by rw [h.len,length_map],λ i v r e1 e2=>h.g i v _ e1 (by rw [getElem?_map,e2];rfl)⟩
theorem Bts.of {H:Hp} {p:Addr->Prop} {vs:List V} {rs:List (Int × Int)} (h:Reps H p vs (rs.map (jU a))):Bts a H p vs rs:=⟨by rw [h.len,length_map],λ i v r e1 e2=>h.g i v _ e1 (by rw [getElem?_map,e2];rfl)⟩
theorem Qb (T:Txt K mg a) (F:Fun K "copied" "Source.copied" qY f fd):FnOk P w K mg base (CXr P w) 4 f fd ["self"] (qq a .source):=by
 refine F.okx ZY ?_ ?_
 ·walk_at "i"
 walk_at "k";obtain ⟨y,⟨wd,ins,outs,pace,kinds⟩,p,rfl,hK,hw,hok,k⟩:=h;cases hw;have hK0:=hK;obtain ⟨y',dx,l1,l2,l3,fs,e,p0,p1,p2,p3,h0,e1,e2,e3,h1,h2,h3,h4⟩:=hK.inv;cases e;obtain ⟨hk,hk'⟩:=h3 rfl;have hp:=h4 (.inl rfl);obtain ⟨q1,⟨ov,q2⟩,q3,q4,q5,q6,q7⟩:=hok;simp only at q1 q2;subst q1 q2;walk_at "T";refine ⟨_,(zg (zk (zW (x:="Source") ⟨rfl,rfl,rfl⟩ hr (za (zv (zl (pq 0) rfl) zd) (za (zl (pq 0) rfl) (za (zl (pq 0) rfl) zc)))))),?_⟩;walk_at "go";refine ⟨a.Source,_,_,_,(xX T).mono,y,a.Source,dx,fs,_,rfl,h0,T.C_Source,T.N_Source_outs,e2,zt (SqL.of h2) at0 ?_⟩;refine ra h0 T.C_Source T.N_Source_pace hp ?_;refine ra h0 T.C_Source T.N_Source_kinds hk ?_;intro z dz hz hdz hne;refine ⟨z,dz,l3,.int ov,pace,kinds,rfl,upd_same,SqL.of (qe hz hdz hk'),ne_of_none hk' hz,λ _ H' m1 m2 m3 s' g1 g2 g3 g4 n1 n2 n3=>⟨rfl,?_⟩,λ hbad=>absurd ⟨q3,q4,q5,q6,q7⟩ hbad⟩;exact k _ _ (Own.of_new hz hdz s') (Wh (p:=New H) (ins:=[]) (outs:=[ov]) hz (zB n1) (zB n2) (zB n3) g1 g2 g3 g4)
theorem QY (T:Txt K mg a):MCal P w K mg base a.Source "copied" 4 ["self"] [] (qq a .source):=T.h_Source_copied.cal T.C_Source (Qb T)
theorem QW (T:Txt K mg a) (F:Fun K "copied" "Drain.copied" jt f fd):FnOk P w K mg base (CXr P w) 4 f fd ["self"] (qq a .drain):=by
 refine F.okx QQ ?_ ?_
 ·walk_at "i"
 walk_at "k";obtain ⟨y,⟨wd,ins,outs,pace,kinds⟩,p,rfl,hK,hw,hok,k⟩:=h;cases hw;have hK0:=hK;obtain ⟨y',dx,l1,l2,l3,fs,e,p0,p1,p2,p3,h0,e1,e2,e3,h1,h2,h3,h4⟩:=hK.inv;cases e;have hp:=h4 (.inr rfl);obtain ⟨⟨iv',q1⟩,q2,q3,q4⟩:=hok;simp only at q1 q2;subst q1 q2;walk_at "T";refine ⟨_,(zg (zk (zW (x:="Drain") ⟨rfl,rfl,rfl⟩ hr (za (zv (zl (pq 0) rfl) zd) (za (zl (pq 0) rfl) zc))))),?_⟩;walk_at "go";refine ⟨a.Drain,_,_,_,(wm T).mono,y,a.Drain,dx,fs,_,rfl,h0,T.C_Drain,T.N_Drain_ins,e1,zt (SqL.of h1) at0 ?_⟩;refine ra h0 T.C_Drain T.N_Drain_pace hp ?_;intro z dz hz hdz hne;refine ⟨z,dz,.int iv',pace,rfl,upd_same,?_⟩;rw [if_pos ⟨q3,q4⟩];intro H' m1 m2 s' g1 g2 g3 n1 n2;exact ⟨rfl,k _ _ (Own.of_new hz hdz s') (zat (p:=New H) (ins:=[iv']) (outs:=[]) hz (zB n1) (zB n2) g1 g2 g3)⟩
theorem J3 (T:Txt K mg a):MCal P w K mg base a.Drain "copied" 4 ["self"] [] (qq a .drain):=T.h_Drain_copied.cal T.C_Drain (QW T)
theorem Qd (T:Txt K mg a) (F:Fun K "copied" "Parter.copied" ja f fd):FnOk P w K mg base (CXr P w) 4 f fd ["self"] (qq a .parter):=by
 refine F.okx Z0 ?_ ?_
 ·walk_at "i"
 walk_at "k";obtain ⟨y,⟨wd,ins,outs,pace,kinds⟩,p,rfl,hK,hw,hok,k⟩:=h;cases hw;have hK0:=hK;obtain ⟨y',dx,l1,l2,l3,fs,e,p0,p1,p2,p3,h0,e1,e2,e3,h1,h2,h3,h4⟩:=hK.inv;cases e;obtain ⟨⟨iv',q1⟩,q3,q4⟩:=hok;simp only at q1 q3 q4;subst q1;walk_at "T";refine ⟨_,(zg (zk (zW (x:="Parter") ⟨rfl,rfl,rfl⟩ hr (za (zv (zl (pq 0) rfl) zd) (za (zl (pq 0) rfl) zc))))),?_⟩;walk_at "go";refine ⟨a.Parter,_,_,_,(ZF T).mono,y,a.Parter,dx,fs,_,rfl,h0,T.C_Parter,T.N_Parter_ins,e1,zt (SqL.of h1) at0 ?_⟩;refine ra h0 T.C_Parter T.N_Parter_outs e2 ?_;intro z dz hz hdz hne;refine ⟨z,dz,l2,.int iv',iv outs,rfl,upd_same,SqL.of (qe hz hdz h2),ne_of_none h2 hz,?_⟩;rw [if_pos (by rw [iv,length_map];exact ⟨q3,q4⟩)];intro H' m1 m2 s' g1 g2 g3 n1 n2;exact ⟨rfl,k _ _ (Own.of_new hz hdz s') (Wi (p:=New H) (ins:=[iv']) (outs:=outs) hz (zB n1) (zB n2) g1 g2 g3)⟩
theorem Q0 (T:Txt K mg a):MCal P w K mg base a.Parter "copied" 4 ["self"] [] (qq a .parter):=T.h_Parter_copied.cal T.C_Parter (Qd T)
theorem wy (T:Txt K mg a) (F:Fun K "copied" "FirstParter.copied" qh f fd):FnOk P w K mg base (CXr P w) 4 f fd ["self"] (qq a .first):=by
 refine F.okx ww ?_ ?_
 ·walk_at "i"
 walk_at "k";obtain ⟨y,⟨wd,ins,outs,pace,kinds⟩,p,rfl,hK,hw,hok,k⟩:=h;cases hw;have hK0:=hK;obtain ⟨y',dx,l1,l2,l3,fs,e,p0,p1,p2,p3,h0,e1,e2,e3,h1,h2,h3,h4⟩:=hK.inv;cases e;obtain ⟨⟨iv',q1⟩,q3,q4⟩:=hok;simp only at q1 q3 q4;subst q1;walk_at "T";refine ⟨_,(zg (zk (zW (x:="FirstParter") ⟨rfl,rfl,rfl⟩ hr (za (zv (zl (pq 0) rfl) zd) (za (zl (pq 0) rfl) zc))))),?_⟩;walk_at "go";refine ⟨a.FirstParter,_,_,_,(jI T).mono,y,a.FirstParter,dx,fs,_,rfl,h0,T.C_FirstParter,T.N_FirstParter_ins,e1,zt (SqL.of h1) at0 ?_⟩;refine ra h0 T.C_FirstParter T.N_FirstParter_outs e2 ?_;intro z dz hz hdz hne;refine ⟨z,dz,l2,.int iv',iv outs,rfl,upd_same,SqL.of (qe hz hdz h2),ne_of_none h2 hz,?_⟩;rw [if_pos (by rw [iv,length_map];exact ⟨q3,q4⟩)];intro H' m1 m2 s' g1 g2 g3 n1 n2;exact ⟨rfl,k _ _ (Own.of_new hz hdz s') (zas (p:=New H) (ins:=[iv']) (outs:=outs) hz (zB n1) (zB n2) g1 g2 g3)⟩
theorem wQ (T:Txt K mg a):MCal P w K mg base a.FirstParter "copied" 4 ["self"] [] (qq a .first):=T.h_FirstParter_copied.cal T.C_FirstParter (wy T)
theorem QU (T:Txt K mg a) (F:Fun K "copied" "Sieve.copied" jr f fd):FnOk P w K mg base (CXr P w) 4 f fd ["self"] (qq a .sieve):=by
 refine F.okx QO ?_ ?_
 ·walk_at "i"
 walk_at "k";obtain ⟨y,⟨wd,ins,outs,pace,kinds⟩,p,rfl,hK,hw,hok,k⟩:=h;cases hw;have hK0:=hK;obtain ⟨y',dx,l1,l2,l3,fs,e,p0,p1,p2,p3,h0,e1,e2,e3,h1,h2,h3,h4⟩:=hK.inv;cases e;obtain ⟨⟨iv',q1⟩,q3,kk,q4,q5,q6⟩:=hok;simp only at q1 q3 q4;subst q1 q4;walk_at "T";refine ⟨_,(zg (zk (zW (x:="Sieve") ⟨rfl,rfl,rfl⟩ hr (za (zv (zl (pq 0) rfl) zd) (za (zl (pq 0) rfl) (za (zl (pq 0) rfl) zc)))))),?_⟩;walk_at "go";refine ⟨a.Sieve,_,_,_,(zca T).mono,y,a.Sieve,dx,fs,_,rfl,h0,T.C_Sieve,T.N_Sieve_ins,e1,zt (SqL.of h1) at0 ?_⟩;refine ra h0 T.C_Sieve T.N_Sieve_outs e2 ?_;refine zfb hK0 T.C_Sieve T.N_Sieve_kind (zep rfl rfl) λ u ru=>?_;cases ru;intro z dz hz hdz hne;refine ⟨z,dz,l2,.int iv',iv outs,kk,rfl,upd_same,SqL.of (qe hz hdz h2),ne_of_none h2 hz,?_⟩;rw [if_pos (by rw [iv,length_map];exact ⟨q3,q5,q6⟩)];intro H' m1 m2 s' g1 g2 g3 n1 n2;exact ⟨rfl,k _ _ (Own.of_new hz hdz s') (zar (p:=New H) (ins:=[iv']) (outs:=outs) hz (zB n1) (zB n2) g1 g2 g3)⟩
theorem J0 (T:Txt K mg a):MCal P w K mg base a.Sieve "copied" 4 ["self"] [] (qq a .sieve):=T.h_Sieve_copied.cal T.C_Sieve (QU T)
theorem Qf (T:Txt K mg a) (F:Fun K "copied" "Joiner.copied" jc f fd):FnOk P w K mg base (CXr P w) 4 f fd ["self"] (qq a .joiner):=by
 refine F.okx Z2 ?_ ?_
 ·walk_at "i"
 walk_at "k";obtain ⟨y,⟨wd,ins,outs,pace,kinds⟩,p,rfl,hK,hw,hok,k⟩:=h;cases hw;have hK0:=hK;obtain ⟨y',dx,l1,l2,l3,fs,e,p0,p1,p2,p3,h0,e1,e2,e3,h1,h2,h3,h4⟩:=hK.inv;cases e;obtain ⟨⟨ov,q1⟩,q3,q4⟩:=hok;simp only at q1 q3 q4;subst q1;walk_at "T";refine ⟨_,(zg (zk (zW (x:="Joiner") ⟨rfl,rfl,rfl⟩ hr (za (zl (pq 0) rfl) (za (zv (zl (pq 0) rfl) zd) zc))))),?_⟩;walk_at "go";refine ⟨a.Joiner,_,_,_,(ZG T).mono,y,a.Joiner,dx,fs,_,rfl,h0,T.C_Joiner,T.N_Joiner_ins,e1,?_⟩;refine ra h0 T.C_Joiner T.N_Joiner_outs e2 (zt (SqL.of h2) at0 ?_);intro z dz hz hdz hne;refine ⟨z,dz,l1,.int ov,iv ins,rfl,upd_same,SqL.of (qe hz hdz h1),ne_of_none h1 hz,?_⟩;rw [if_pos (by rw [iv,length_map];exact ⟨q3,q4⟩)];intro H' m1 m2 s' g1 g2 g3 n1 n2;exact ⟨rfl,k _ _ (Own.of_new hz hdz s') (Wj (p:=New H) (ins:=ins) (outs:=[ov]) hz (zB n1) (zB n2) g1 g2 g3)⟩
theorem Q2 (T:Txt K mg a):MCal P w K mg base a.Joiner "copied" 4 ["self"] [] (qq a .joiner):=T.h_Joiner_copied.cal T.C_Joiner (Qf T)
theorem CT (T:Txt K mg a) (wd:Wd):Cls K (wo a wd):=by
 cases wd
 ·exact T.C_Source
 ·exact T.C_Drain
 ·exact T.C_Parter
 ·exact T.C_FirstParter
 ·exact T.C_Sieve
 ·exact T.C_Joiner
theorem NI (T:Txt K mg a) (wd:Wd):NoAttr K (wo a wd) "ins":=by
 cases wd
 ·exact T.N_Source_ins
 ·exact T.N_Drain_ins
 ·exact T.N_Parter_ins
 ·exact T.N_FirstParter_ins
 ·exact T.N_Sieve_ins
 ·exact T.N_Joiner_ins
theorem NO (T:Txt K mg a) (wd:Wd):NoAttr K (wo a wd) "outs":=by
 cases wd
 ·exact T.N_Source_outs
 ·exact T.N_Drain_outs
 ·exact T.N_Parter_outs
 ·exact T.N_FirstParter_outs
 ·exact T.N_Sieve_outs
 ·exact T.N_Joiner_outs
theorem WT (T:Txt K mg a) (wd:Wd):WI K (wo a wd):=by
 cases wd
 ·exact T.W_Source
 ·exact T.W_Drain
 ·exact T.W_Parter
 ·exact T.W_FirstParter
 ·exact T.W_Sieve
 ·exact T.W_Joiner
theorem zei (T:Txt K mg a) (wd:Wd):MCal P w K mg base (wo a wd) "copied" 4 ["self"] [] (qq a wd):=by
 cases wd
 ·exact QY T
 ·exact J3 T
 ·exact Q0 T
 ·exact wQ T
 ·exact J0 T
 ·exact Q2 T
theorem X7:∀ (xs ys:List Int),xs.Perm ys->xs.Pairwise (·<=·)->ys.Pairwise (·<=·)->xs=ys
 | [],ys,h,_,_=>(List.nil_perm.mp h).symm
 | x :: xs,[],h,_,_=>absurd h.length_eq (by simp)
 | x :: xs,y :: ys,h,hx,hy=>by
  have e:x=y:=by
   have h1:y∈x :: xs:=h.mem_iff.mpr (by simp);have h2:x∈y :: ys:=h.mem_iff.mp (by simp);rcases List.mem_cons.mp h1 with e|m1
   ·exact e.symm
   rcases List.mem_cons.mp h2 with e|m2
   ·exact e
   have:=(List.pairwise_cons.mp hx).1 y m1;have:=(List.pairwise_cons.mp hy).1 x m2;omega
  subst e;rw [X7 xs ys h.cons_inv (List.pairwise_cons.mp hx).2 (List.pairwise_cons.mp hy).2]
def rgI (n:Nat):List Int:=(List.range n).map λ (i:Nat)=>(i:Int)
theorem za4 (n:Nat):(rgI n).Pairwise (·<=·):=by
 unfold rgI;rw [List.pairwise_map];exact List.pairwise_lt_range.imp λ {i j} h=>by omega
theorem ze9 (n:Nat):rgL 0 n=iv (rgI n):=by
 simp [rgL,iv,rgI,map_map,Function.comp_def]
theorem Jz:∀ ms ns:List Int,xP (iv ms) (iv ns)=decide (ms=ns)
 | [],[]=>rfl
 | [],_ :: _=>rfl
 | _ :: _,[]=>rfl
 | m :: ms,n :: ns=>by
  show (eqV (.int m) (.int n) && xP (iv ms) (iv ns))=_
  rw [Jz ms ns];by_cases e:m=n
  ·subst e;simp [eqV]
  ·simp [eqV,e]
theorem zcg (ns:List Int):(iv ns).all vL=true:=List.all_eq_true.mpr λ x hx=>by
 obtain ⟨n,_,rfl⟩:=List.mem_map.mp hx
 rfl
theorem zfa {H:Hp} {Q:VK} {p q:Addr} {ms ns:List Int} (h1:SqL K H p (iv ms)) (h2:SqL K H q (iv ns)) (k:Q (.bl (!decide (ms=ns))) H):za7 K (.ref p) (.ref q) H Q :=
 .inr (.inl ⟨p,q,iv ms,iv ns,rfl,rfl,.inl ⟨h1,h2⟩,zcg ms,zcg ns,by rw [Jz];exact k⟩)
def Qx (K:PySem.W.Frag) (a:Ad):Sp:=λ vs H Q E=>∃ (bl kl:Addr) (xs ys:List V),vs=[.ref bl,.ref kl]/\SqL K H bl xs/\SqL K H kl ys/\if (1<=xs.length/\xs.length<=24)/\1<=ys.length/\ys.length<=24 then Q .non H else E (.ref a.BadWork) none H
theorem XH (T:Txt K mg a) (F:Fun K "check_size" "check_size" jZ f fd):FnOk P w K mg base (CXr P w) 1 f fd ["belts","knots"] (Qx K a):=by
 refine F.okx Xv ?_ ?_
 ·walk_at "i"
 walk_at "k";obtain ⟨bl,kl,xs,ys,rfl,h1,h2,k⟩:=h;obtain ⟨t1,g1⟩:=T.g_MOST_BELTS;obtain ⟨t2,g2⟩:=T.g_MOST_KNOTS;walk_at "T";refine ⟨_,(zh (zG (jQ (jN xl xl zd (zQ zV zU (za (pq 0) zc)) xT))  (zg (qH ⟨rfl,rfl,rfl⟩ rfl (za xi zc)))  zp)  (zg (zG (jQ (jN xl xl zd (zQ zV zU (za (pq 1) zc)) xT))  (zg (qH ⟨rfl,rfl,rfl⟩ rfl (za xi zc)))  zp))),?_⟩;walk_at "go";have bad:¬ ((1<=xs.length/\xs.length<=24)/\1<=ys.length/\ys.length<=24)->∃ C,mg "BadWork"=some (Value.ref C)/\XC K C/\E (Value.ref C) none H:=λ h=>by
  rw [if_neg h] at k;exact ⟨a.BadWork,T.g_BadWork,T.X_BadWork,k⟩
 refine ⟨_,.inl ⟨_,h1,rfl⟩,?_⟩;walk_at "go";refine zL (λ b1=>?_) (λ b1=>bad (by omega));refine ⟨.int 24,_,g1,⟨_,rfl⟩,?_⟩;walk_at "go";refine zL (λ b2=>?_) (λ b2=>bad (by omega));walk_at "go";refine ⟨_,.inl ⟨_,h2,rfl⟩,?_⟩;walk_at "go";refine zL (λ b3=>?_) (λ b3=>bad (by omega));refine ⟨.int 24,_,g2,⟨_,rfl⟩,?_⟩;walk_at "go";refine zL (λ b4=>?_) (λ b4=>bad (by omega));rw [if_pos (by omega)] at k;walk_at "go";exact k
theorem Vv (T:Txt K mg a):Cal P w K mg base "check_size" 1 ["belts","knots"] [] (Qx K a):=T.h_check_size.cal (XH T)
def Jv (K:PySem.W.Frag) (a:Ad):Sp:=λ vs H Q E=>∃ (l:Addr) (ns:List Int) (n:Nat),vs=[.ref l,.int n]/\SqL K H l (iv ns)/\ns.length < 64/\n<=1000/\(ns.Perm (rgI n)->∀ H',Same H H'->Q .non H')/\(¬ ns.Perm (rgI n)->∀ H',Same H H'->E (.ref a.BadWork) none H')
theorem vZ (T:Txt K mg a) (F:Fun K "check_each_once" "check_each_once" qD f fd):FnOk P w K mg base (CXr P w) 1 f fd ["named","size"] (Jv K a):=by
 refine F.okx vV ?_ ?_
 ·walk_at "i"
 walk_at "k";obtain ⟨l,ns,n,rfl,hl,h64,hn,kok,kbad⟩:=h;walk_at "T";refine ⟨_,(zg (zG (zq (zb5 hr.units1) (zQ zdw zdv (za (pq 0) zc)) (wL (zeQ rfl) wt (za (zgn (za (pq 1) zc)) zc)) (zw _))  (zg (qH ⟨rfl,rfl,rfl⟩ rfl (za xi zc)))  zp)),?_⟩;walk_at "go";refine ⟨l,ns,rfl,hl,h64,λ ms q1 hp hs hq1=>?_⟩;walk_at "go";intro q2 hq2;refine ⟨q2,0,n,rfl,upd_same,⟨by omega,by omega,by omega,by omega,by omega⟩,λ q3 hq3=>?_⟩;rw [show ((n:Int) - 0).toNat=n by omega,ze9];walk_at "go";have sm:Same H (upd (upd (upd H q1 (.lst (iv ms))) q2 (.rng 0 n)) q3 (.lst (iv (rgI n)))):=(zf hq1).trans ((zf hq2).trans (zf hq3));refine zfa (ms:=ms) (ns:=rgI n) (SqL.of (upd_keep (upd_keep upd_same hq2) hq3)) (SqL.of upd_same) ?_;walk_at "go";refine zL (λ b1=>?_) (λ b1=>?_)
 ·refine ⟨a.BadWork,T.g_BadWork,T.X_BadWork,kbad (λ z=>b1 (X7 _ _ (hp.trans z) hs (za4 n))) _ sm⟩
 ·walk_at "go";refine kok ?_ _ sm;have e:ms=rgI n:=Decidable.of_not_not b1;rw [<- e];exact hp.symm
theorem xF (T:Txt K mg a):Cal P w K mg base "check_each_once" 1 ["named","size"] [] (Jv K a):=T.h_check_each_once.cal (vZ T)
def jT (rs:List Row):List Int:=rs.flatMap Row.outs
def qo (rs:List Row):List Int:=rs.flatMap Row.ins
def wf (l1 l2:Addr):List (Str × V):=z7 "knots" (.ref l2) (z7 "belts" (.ref l1) [])
def zC (bs:List (Int × Int)) (rs:List Row):Prop:=((1<=bs.length/\bs.length<=24)/\1<=rs.length/\rs.length<=24)/\(jT rs).Perm (rgI bs.length)/\(qo rs).Perm (rgI bs.length)
def vR (K:PySem.W.Frag) (a:Ad):Sp:=λ vs H Q E=>∃ (y dx bl kl:Addr) (bvs kvs:List V) (bs:List (Int × Int)) (rs:List Row) (p:Addr->Prop),vs=[.ref y,.ref bl,.ref kl]/\H y=some (.ins a.Work dx [])/\bl≠y/\kl≠y/\(∀ b,p b->b≠y) /\
 H bl=some (.lst bvs)/\H kl=some (.lst kvs)/\Bts a H p bvs bs/\Kns a H p kvs rs/\(∀ b∈bs,zu b.1 b.2)/\(∀ r∈rs,r.ok)/\(jT rs).length < 64/\(qo rs).length < 64/\bs.length<=1000 /\
 (zC bs rs->∀ H' l1 l2 bvs' kvs',Own H H' y->H' y=some (.ins a.Work dx (wf l1 l2))->H' l1=some (.lst bvs')->H' l2=some (.lst kvs')->Bts a H' (New H) bvs' bs->Kns a H' (New H) kvs' rs->H l1=none->H l2=none->Q .non H') /\
 (¬ zC bs rs->∀ H',Same H H'->E (.ref a.BadWork) none H')
theorem zbF {rs:List Row} {i:Nat} {r:Row} (h:rs[i]?=some r):jT (rs.take (i + 1))=jT (rs.take i) ++ r.outs:=by
 unfold jT;rw [take_add_one,h,flatMap_append];simp
theorem Wv {rs:List Row} {i:Nat} {r:Row} (h:rs[i]?=some r):qo (rs.take (i + 1))=qo (rs.take i) ++ r.ins:=by
 unfold qo;rw [take_add_one,h,flatMap_append];simp
theorem xb (f:Row->List Int) (rs:List Row) (i:Nat):((rs.take i).flatMap f).length<=(rs.flatMap f).length:=by
 conv=>rhs;rw [<- List.take_append_drop i rs,flatMap_append,length_append]
 omega
theorem zbw (xs ys:List Int):iv xs ++ iv ys=iv (xs ++ ys):=by rw [iv,iv,iv,map_append]
theorem Va (T:Txt K mg a) (F:Fun K "__init__" "Work.__init__" jm f fd):FnOk P w K mg base (CXr P w) 5 f fd ["self","belts","knots"] (vR K a):=by
 refine F.okx WK ?_ ?_
 ·walk_at "i"
 walk_at "k";obtain ⟨y,dx,bl,kl,bvs,kvs,bs,rs,p,rfl,hy,nby,nky,hpy,hb,hk,hB,hKs,hbo,hro,h64,h64',hlb,kok,kbad⟩:=h;walk_at "T";refine ⟨_,(zi (zx (zm ⟨rfl,rfl,rfl⟩ hr (za (pq 1) (za (pq 2) zc))))  (zi (zo 3 WK.nd (zz zc))  (zi (zo 4 WK.nd (zz zc))  (zi (jh jS rfl (qd (pq 2)) (qr 5 WK.nd)  (zi (zx (qJ PySem.F.plainAttrs_list PySem.F.slot_list_extend PySem.F.type_list_extend Wc (pq 3) (za (zl (pq 5) rfl) zc)))  (zg (zx (qJ PySem.F.plainAttrs_list PySem.F.slot_list_extend PySem.F.type_list_extend Wc (pq 4) (za (zl (pq 5) rfl) zc))))))  (zi (zx (zm ⟨rfl,rfl,rfl⟩ hr (za (pq 3) (za (zQ zV zU (za (pq 1) zc)) zc))))  (zi (zx (zm ⟨rfl,rfl,rfl⟩ hr (za (pq 4) (za (zQ zV zU (za (pq 1) zc)) zc))))  (zi (jv (pq 0) (xj (vars:=["belt"]) (caps:=[]) (N:=["belt"]) (ON:=["self","belts","knots","fed","taken","knot"]) (osc:=ze jm) rfl rfl (by first|decide +kernel|kernel_rfl) rfl rfl (qd (pq 1)) (λ s H fp pins=>(qr 0 (show (["belt"]:List Str).Nodup from by decide +kernel))) (λ s H fp pins=>z8) (λ s H fp pins=>(zd9 (x:="Belt") hr (za (zl (pq 0) rfl) (za (zl (pq 0) rfl) zc))))) rfl)  (zg (jv (pq 0) (xj (vars:=["knot"]) (caps:=[]) (N:=["knot"]) (ON:=["self","belts","knots","fed","taken","knot"]) (osc:=ze jm) rfl rfl (by first|decide +kernel|kernel_rfl) rfl rfl (qd (pq 2)) (λ s H fp pins=>(qr 0 (show (["knot"]:List Str).Nodup from by decide +kernel))) (λ s H fp pins=>z8) (λ s H fp pins=>(zd7 hr (pq 0)))) rfl))))))))),?_⟩;walk_at "go";refine uc (Vv T).mono ⟨bl,kl,bvs,kvs,rfl,SqL.of hb,SqL.of hk,zL (λ b1=>?_) (λ b1=>?_)⟩
 rotate_left
 ·refine kbad (λ z=>b1 ?_) H (Same.refl _);rw [hB.len,hKs.len];exact z.1
 rw [hB.len,hKs.len] at b1;walk_at "go";intro fl hfl;walk_at "go";intro tl htl;have nft:fl≠tl:=ne_of_none upd_same htl;have htl0:H tl=none:=zT htl;walk_at "for";walk_at "go";have s2:Same H (upd (upd H fl (.lst [])) tl (.lst [])):=(zf hfl).trans (zf htl);refine ⟨kl,rfl,.inl ⟨⟨_,SqL.of (s2 _ _ hk)⟩,?_⟩⟩;let M1_:Nat->St->Hp->Prop:=λ i σ H'=>∃ v5,σ=[some (.ref y),some (.ref bl),some (.ref kl),some (.ref fl),some (.ref tl),v5]/\Same H H'/\H' fl=some (.lst (iv (jT (rs.take i))))/\H' tl=some (.lst (iv (qo (rs.take i))));refine qR (K:=K) (a:=kl) (xs:=kvs) M1_ ⟨_,rfl,s2,upd_keep upd_same htl,upd_same⟩ (λ i σ H' _ ⟨_,_,s,_⟩=>SqL.of (s _ _ hk)) ?_ ?_
 ·rintro i x σ H' hi ⟨v5,rfl,s3,e1,e2⟩;obtain ⟨r,hr',hKn0⟩:=hKs.at hi;obtain ⟨y1,dx1,l1,l2,l3,fs,rfl,p0,p1,p2,p3,h0,f1,f2,f3,h1,h2,h3,h4⟩:=hKn0.inv;have L1:=xb Row.outs rs i;have L2':=xb Row.ins rs i;have L3:=xb Row.outs rs (i + 1);have L4:=xb Row.ins rs (i + 1);have E1:=zbF hr';have E2:=Wv hr';have n1:∀ {b:Addr} {o:HO},H b=some o->b≠fl:=λ h=>ne_of_none h hfl;have n2:∀ {b:Addr} {o:HO},H b=some o->b≠tl:=λ h=>ne_of_none h htl0;walk_at "go";refine ⟨.inl ⟨rfl,_,SqL.of e1⟩,y1,wo a r.wd,dx1,fs,_,rfl,s3 _ _ h0,CT T _,NO T _,f2,?_⟩;refine ⟨fl,l2,_,_,rfl,rfl,e1,s3 _ _ h2,?_,?_⟩
  ·refine Nat.le_of_lt (zj ?_);have:=congrArg List.length E1;rw [length_append] at this;rw [iv,iv,length_map,length_map];unfold jT at this h64 ⊢;omega
  walk_at "go";have e2':upd H' fl (.lst (iv (jT (rs.take i)) ++ iv r.outs)) tl=some (.lst (iv (qo (rs.take i)))):=by rw [upd_ne (Ne.symm nft)];exact e2
  refine ⟨.inl ⟨rfl,_,SqL.of e2'⟩,y1,wo a r.wd,dx1,fs,_,rfl,?_,CT T _,NI T _,f1,?_⟩
  ·rw [upd_ne (n1 h0)];exact s3 _ _ h0
  refine ⟨tl,l1,_,iv r.ins,rfl,rfl,e2',?_,?_,?_⟩
  ·rw [upd_ne (n1 h1)];exact s3 _ _ h1
  ·refine Nat.le_of_lt (zj ?_);have:=congrArg List.length E2;rw [length_append] at this;rw [iv,iv,length_map,length_map];unfold qo at this h64' ⊢;omega
  refine ⟨_,rfl,λ b o hb=>?_,?_,?_⟩
  ·rw [upd_ne (n2 hb),upd_ne (n1 hb)];exact s3 _ _ hb
  ·rw [upd_ne nft,upd_same,E1,zbw]
  ·rw [upd_same,E2,zbw]
 ·rintro σ H1 ⟨v5,rfl,s3,e1,e2⟩;rw [hKs.len,take_length] at e1 e2;walk_at "go";refine uc (xF T).mono ⟨m_len,_,.inl ⟨_,SqL.of (s3 _ _ hb),rfl⟩,?_⟩;rw [hB.len];refine ⟨fl,jT rs,bs.length,rfl,SqL.of e1,h64,hlb,λ g1 H2 s4=>?_,λ g1 H2 s4=>kbad (λ z=>g1 z.2.1) _ (s3.trans s4)⟩;walk_at "go";refine uc (xF T).mono ⟨m_len,_,.inl ⟨_,SqL.of (s4 _ _ (s3 _ _ hb)),rfl⟩,?_⟩;rw [hB.len];refine ⟨tl,qo rs,bs.length,rfl,SqL.of (s4 _ _ e2),h64',hlb,λ g2 H3 s5=>?_,λ g2 H3 s5=>kbad (λ z=>g2 z.2.2) _ (s3.trans (s4.trans s5))⟩;have kok:=kok ⟨b1,g1,g2⟩;have s6:=s3.trans (s4.trans s5);clear s3 s4 s5 e1 e2;clear g1 g2;walk_at "go";walk_at "lc";walk_at "go";refine ⟨bl,rfl,.inl ⟨⟨_,SqL.of (s6 _ _ hb)⟩,λ _ _ _ _ acc hacc=>?_⟩⟩;have nacc:H acc=none:=zA s6 hacc;let M2_:Nat->St->Hp->Prop:=λ i σ H'=>∃ v us,σ=[v]/\Same H3 H'/\H' acc=some (.lst us)/\Bts a H' (λ b=>H3 b=none/\b≠acc) us (bs.take i);refine qR (K:=K) (a:=bl) (xs:=bvs) M2_ ⟨_,[],rfl,zf hacc,upd_same,by rw [take_zero];exact .nil⟩ (λ i σ H' _ ⟨_,_,_,s,_⟩=>SqL.of (s _ _ (s6 _ _ hb))) ?_ ?_
  ·rintro i x σ H' hi ⟨v,us,rfl,s7,e1,hU⟩;obtain ⟨⟨rm,pc⟩,hr',hBt0⟩:=hB.at hi;obtain ⟨y1,dx1,fs,rfl,p0,h0,f1,f2⟩:=hBt0.inv;have hok:=hbo _ (mem_of_getElem? hr');have hil:i < bs.length:=(List.getElem?_eq_some_iff.mp hr').1;have h0':=s7 _ _ (s6 _ _ h0);walk_at "go";refine ⟨a.Belt,_,_,_,(Zd T).mono,y1,a.Belt,dx1,fs,_,rfl,h0',T.C_Belt,T.N_Belt_room,f1,y1,a.Belt,dx1,fs,_,rfl,h0',T.C_Belt,T.N_Belt_pace,f2,?_⟩;intro z dz hz hdz hne;refine ⟨z,dz,rm,pc,rfl,upd_same,?_⟩;rw [if_pos hok,Zk];have sN:Same H' (upd (upd H' dz (.own z)) z (.ins a.Belt dz (bf rm pc))):=λ b o h=>by rw [upd_ne (ne_of_none h hz),upd_ne (ne_of_none h hdz)];exact h
   have hz':upd (upd H' dz (.own z)) z (.ins a.Belt dz (bf rm pc)) z=some (.ins a.Belt dz (bf rm pc)):=upd_same;generalize upd (upd H' dz (.own z)) z (.ins a.Belt dz (bf rm pc))=H4 at sN hz' ⊢;have hzn:z≠acc:=λ q=>by rw [q,e1] at hz;cases hz
   refine ⟨rfl,_,sN _ _ e1,zj (by have:=hU.len;rw [length_take] at this;omega),_,us ++ [.ref z],rfl,λ b o hb=>?_,upd_same,?_⟩
   ·rw [upd_ne (ne_of_none hb hacc)];exact sN _ _ (s7 _ _ hb)
   ·rw [take_add_one,hr'];refine Bts.push (hU.keep λ b o hp hb=>⟨hp,by rw [upd_ne hp.2];exact sN _ _ hb⟩) (zf4 (p:=λ b=>H3 b=none/\b≠acc) ⟨zA s7 hz,hzn⟩ (by rw [upd_ne hzn];exact hz'))
  ·rintro σ H4 ⟨v,us,rfl,s7,e1,hU⟩;rw [hB.len,take_length] at hU;have s8:=s6.trans s7;have nacy:acc≠y:=(ne_of_none hy nacc).symm;walk_at "go";refine ⟨y,a.Work,dx,[],rfl,s8 _ _ hy,T.C_Work,T.N_Work_belts,by decide,?_⟩;have o9:Own H (upd H4 y (.ins a.Work dx (z7 "belts" (.ref acc) []))) y:=(Same.own s8).trans je;have hy9:upd H4 y (.ins a.Work dx (z7 "belts" (.ref acc) [])) y=some (.ins a.Work dx (z7 "belts" (.ref acc) [])):=upd_same;have e9:upd H4 y (.ins a.Work dx (z7 "belts" (.ref acc) [])) acc=some (.lst us):=by rw [upd_ne nacy];exact e1
   have hU9:Bts a (upd H4 y (.ins a.Work dx (z7 "belts" (.ref acc) []))) (λ b=>H b=none/\b≠y) us bs:=hU.keep λ b o hp hb=>by
    have q1:H b=none:=zA s6 hp.1;have q2:b≠y:=(ne_of_none hy q1).symm;exact ⟨⟨q1,q2⟩,by rw [upd_ne q2];exact hb⟩
   generalize upd H4 y (.ins a.Work dx (z7 "belts" (.ref acc) []))=H5 at o9 hy9 e9 hU9 ⊢;walk_at "go";walk_at "lc";walk_at "go";refine ⟨kl,rfl,.inl ⟨⟨_,SqL.of (o9 _ _ nky hk)⟩,λ _ _ _ _ ac2 hac2=>?_⟩⟩;let M3_:Nat->St->Hp->Prop:=λ i σ H'=>∃ v us2,σ=[v]/\Same H5 H'/\H' ac2=some (.lst us2)/\Kns a H' (λ b=>H5 b=none/\b≠ac2) us2 (rs.take i);refine qR (K:=K) (a:=kl) (xs:=kvs) M3_ ⟨_,[],rfl,zf hac2,upd_same,by rw [take_zero];exact .nil⟩ (λ i σ H' _ ⟨_,_,_,s,_⟩=>SqL.of (s _ _ (o9 _ _ nky hk))) ?_ ?_
   ·rintro i x σ H' hi ⟨v,us2,rfl,s10,e2,hV⟩;obtain ⟨r,hr',hKn⟩:=hKs.at hi;have hok:=hro _ (mem_of_getElem? hr');have hil:i < rs.length:=(List.getElem?_eq_some_iff.mp hr').1;have hKn':KnP a H' p x r:=hKn.keep λ b o hp hb=>⟨hp,s10 _ _ (o9 _ _ (hpy b hp) hb)⟩;obtain ⟨y1,dx1,l1,l2,l3,fs,rfl,p0,p1,p2,p3,h0,f1,f2,f3,h1,h2,h3,h4⟩:=hKn'.inv;walk_at "go";refine ⟨y1,wo a r.wd,dx1,fs,_,_,_,rfl,h0,f3,(zei T r.wd).mono,?_⟩;refine ⟨y1,r,p,rfl,hKn',rfl,hok,λ v' H6 s11 hN=>?_⟩;refine ⟨_,s11 _ _ e2,zj (by have:=hV.len;rw [length_take] at this;omega),_,us2 ++ [v'],rfl,λ b o hb=>?_,upd_same,?_⟩
    ·rw [upd_ne (ne_of_none hb hac2)];exact s11 _ _ (s10 _ _ hb)
    ·rw [take_add_one,hr'];refine Kns.append (hV.keep λ b o hp hb=>⟨hp,by rw [upd_ne hp.2];exact s11 _ _ hb⟩) (Kns.one (hN.keep λ b o hp hb=>?_));have q2:b≠ac2:=λ z=>by rw [z] at hp;rw [New,e2] at hp;cases hp
     exact ⟨⟨zA s10 hp,q2⟩,by rw [upd_ne q2];exact hb⟩
   ·rintro σ H6 ⟨v,us2,rfl,s10,e2,hV⟩;rw [hKs.len,take_length] at hV;have hy10:=s10 _ _ hy9;walk_at "go";refine ⟨y,a.Work,dx,_,rfl,hy10,T.C_Work,T.N_Work_knots,by show 1 < 1000;decide,?_⟩;have n2y:ac2≠y:=λ z=>by rw [z,hy9] at hac2;cases hac2
    have ho:∀ b,H5 b=none->b≠y->H b=none:=λ b h1 h2=>by
     cases e:H b with
     | none=>rfl
     | some o=>rw [o9 b o h2 e] at h1;cases h1
    refine kok _ acc ac2 us us2 ((o9.trans (Same.own s10)).trans je) upd_same ?_ ?_ ?_ ?_ nacc (ho _ hac2 n2y)
    ·rw [upd_ne nacy];exact s10 _ _ e9
    ·rw [upd_ne n2y];exact e2
    ·exact hU9.keep λ b o hp hb=>⟨hp.1,by rw [upd_ne hp.2];exact s10 _ _ hb⟩
    ·refine hV.keep λ b o hp hb=>?_;have q:b≠y:=λ z=>by rw [z,hy9] at hp;cases hp.1
     exact ⟨ho b hp.1 q,by rw [upd_ne q];exact hb⟩
theorem Vi (T:Txt K mg a):KCal P w K mg base "Work" a.Work 5 ["self","belts","knots"] [] (vR K a):=T.h_Work_init.cal T.g_Work (Va T)
def zhq (b:Int × Int):D:=.tup [.int b.1,.int b.2]
theorem Ja (n:Nat):(rgI n).length=n:=by simp [rgI]
theorem VZ (n:Nat):rgI (n + 1)=rgI n ++ [(n:Int)]:=by simp [rgI,range_succ]
theorem zD (ns:List Int):(iv ns).length=ns.length:=by rw [iv,length_map]
theorem Xe {ns:List Int} {i:Nat} {x:V} (h:(iv ns)[i]?=some x):∃ n,ns[i]?=some n/\x=.int n:=by
 rw [iv,getElem?_map,Option.map_eq_some_iff] at h;obtain ⟨n,h1,h2⟩:=h;exact ⟨n,h1,h2.symm⟩
theorem xI {ns:List Int} {i:Nat} {n:Int} (h:ns[i]?=some n):(iv ns)[i]?=some (.int n):=by rw [iv,getElem?_map,h];rfl
theorem zet (ns:List Int) (k:Nat):(iv ns).eraseIdx k=iv (ns.eraseIdx k):=by
 induction ns generalizing k with
 | nil=>simp [iv]
 | cons n ns ih =>
  cases k with
  | zero=>simp [iv]
  | succ k=>simpa [iv] using ih k
theorem jf (ns:List Int) (n:Int):iv ns ++ [.int n]=iv (ns ++ [n]):=by simp [iv]
structure WInv (bs:List (Int × Int)) (rs:List Row) (es ks:List Int):Prop where
 tk:(qo rs ++ es).Perm (rgI bs.length)
 fd:(jT rs ++ ks).Perm (rgI bs.length)
 ro:∀ r∈rs,r.ok
 bo:∀ b∈bs,zu b.1 b.2
theorem zbG (rs:List Row) (r:Row):jT (rs ++ [r])=jT rs ++ r.outs:=by simp [jT]
theorem Ww (rs:List Row) (r:Row):qo (rs ++ [r])=qo rs ++ r.ins:=by simp [qo]
theorem zcn {us:List V} {n:Nat} (h:us.length=n + 1):∃ a vs,us=a :: vs/\vs.length=n:=by
 cases us with
 | nil=>cases h
 | cons a vs=>exact ⟨a,vs,rfl,Nat.succ.inj h⟩
theorem two_of {us:List V} (h:us.length=2):∃ a b,us=[a,b]:=by
 obtain ⟨a,_,rfl,h1⟩:=zcn h;obtain ⟨b,_,rfl,h2⟩:=zcn h1;exact ⟨a,b,by rw [List.length_eq_zero_iff.mp h2]⟩
theorem V5:∀ {es:List Int} {j:Nat} {y:Int},es[j]?=some y->(y :: es.eraseIdx j).Perm es
 | [],_,_,h=>by simp at h
 | e :: es,0,y,h=>by
  have h:e=y:=by simpa using h
  subst h;simp
 | e :: es,j + 1,y,h=>by
  have ih:=V5 (es:=es) (j:=j) (y:=y) (by simpa using h);rw [List.eraseIdx_cons_succ];exact (List.Perm.swap e y _).trans (ih.cons e)
theorem zfr {n:Nat} {x:Int} (h:x∈rgI n):0<=x/\x < n:=by
 unfold rgI at h;obtain ⟨i,hi,rfl⟩:=List.mem_map.mp h;have:=List.mem_range.mp hi;omega
theorem wM {H:Hp} {p:Addr->Prop} {v:V} {b:Int × Int} (h:Rep H p v (zhq b)):∃ t,v=.ref t/\H t=some (.tup [.int b.1,.int b.2]):=by
 obtain ⟨t,us,rfl,_,ht,rr⟩:=Rep.tup' h;have g:=rr.g;obtain ⟨x0,x1,rfl⟩:=two_of rr.len;have a0:=g 0 x0 _ rfl rfl;have a1:=g 1 x1 _ rfl rfl;cases a0;cases a1;exact ⟨t,rfl,ht⟩
def zX (a:Ad) (bs:List (Int × Int)) (rs:List Row):D:=.ob a.Work [("belts",.lst (bs.map (jU a))),("knots",.lst (rs.map (wT a)))]
theorem zgW {l1 l2:Addr}:wf l1 l2=([(("belts":Str),V.ref l1),(("knots":Str),V.ref l2)]:List (Str × V)):=by
 unfold wf;simp only [z7];rw [if_neg (by decide +kernel)]
theorem VA {a:Ad} {bs:List (Int × Int)} {rs:List Row}:([("belts",.lst (bs.map (jU a))),("knots",.lst (rs.map (wT a)))]:List (Str × D)).lookup ("belts":Str)=some (.lst (bs.map (jU a))):=qK
theorem zdA {a:Ad} {bs:List (Int × Int)} {rs:List Row}:([("belts",.lst (bs.map (jU a))),("knots",.lst (rs.map (wT a)))]:List (Str × D)).lookup ("knots":Str)=some (.lst (rs.map (wT a))):=(zE (by decide +kernel)).trans qK
theorem zgV {a:Ad} {bs:List (Int × Int)} {rs:List Row} {f:Str} (h1:f≠"belts") (h2:f≠"knots"):([("belts",.lst (bs.map (jU a))),("knots",.lst (rs.map (wT a)))]:List (Str × D)).lookup f=none:=(zE h1).trans (zE h2)
theorem zed {H:Hp} {x b:Addr} {o:HO} (h:H x=some o) (hb:H b=none):b ∉ [x]:=λ z=>by rw [List.mem_singleton.mp z,h] at hb;cases hb
section
variable {H:Hp} {z dz:Addr} {Q:VK} {EX:XK}
theorem vv {rm pc:Int} (hz:H z=none) (hdz:H dz=none) (ok:zu rm pc) (k:∀ H',Same H H'->BtP a H' (New H) (.ref z) (rm,pc)->Q .non H'):vS a.Belt a.BadBelt [.ref z,.int rm,.int pc] (upd (upd H dz (.own z)) z (.ins a.Belt dz [])) Q EX:=by
 refine ⟨z,dz,rm,pc,rfl,upd_same,?_⟩;rw [if_pos ok,Zk];exact k _ (λ b o h=>by rw [upd_ne (ne_of_none h hz),upd_ne (ne_of_none h hdz)];exact h) (zf4 hz upd_same)
theorem xW {y pc:Int} (hz:H z=none) (hdz:H dz=none) (h0:0<=pc) (h4:pc<=4) (k:∀ H',Same H H'->KnP a H' (New H) (.ref z) ⟨.drain,[y],[],pc,[]⟩->Q .non H'):xq a.Drain a.BadKnot [.ref z,.int y,.int pc] (upd (upd H dz (.own z)) z (.ins a.Drain dz [])) Q EX:=by
 refine ⟨z,dz,.int y,pc,rfl,upd_same,?_⟩;rw [if_pos ⟨h0,h4⟩];intro H' m1 m2 s' g1 g2 g3 n1 n2;exact k _ (Own.of_new hz hdz s') (zat (p:=New H) (ins:=[y]) (outs:=[]) hz (zB n1) (zB n2) g1 g2 g3)
theorem xV {l:Addr} {y pc:Int} {kd:List Int} (hz:H z=none) (hdz:H dz=none) (hl:H l=some (.lst (iv kd))) (h1:1<=pc) (h4:pc<=4) (k1:1<=kd.length) (k6:kd.length<=6) (kk:x8 kd) (k:∀ H',Same H H'->KnP a H' (New H) (.ref z) ⟨.source,[],[y],pc,kd⟩->Q .non H'):x9 K a.Source a.BadKnot [.ref z,.int y,.int pc,.ref l] (upd (upd H dz (.own z)) z (.ins a.Source dz [])) Q EX:=by
 refine ⟨z,dz,l,.int y,pc,kd,rfl,upd_same,SqL.of (qe hz hdz hl),ne_of_none hl hz,λ _ H' m1 m2 m3 s' g1 g2 g3 g4 n1 n2 n3=>?_,λ hbad=>absurd ⟨h1,h4,k1,k6,kk⟩ hbad⟩;exact k _ (Own.of_new hz hdz s') (Wh (p:=New H) (ins:=[]) (outs:=[y]) hz (zB n1) (zB n2) (zB n3) g1 g2 g3 g4)
theorem Qi {l:Addr} {y:Int} {outs:List Int} (hz:H z=none) (hdz:H dz=none) (hl:H l=some (.lst (iv outs))) (h2:2<=outs.length) (h4:outs.length<=4) (k:∀ H',Same H H'->KnP a H' (New H) (.ref z) ⟨.parter,[y],outs,0,[]⟩->Q .non H'):qx K a.Parter a.BadKnot [.ref z,.int y,.ref l] (upd (upd H dz (.own z)) z (.ins a.Parter dz [])) Q EX:=by
 refine ⟨z,dz,l,.int y,iv outs,rfl,upd_same,SqL.of (qe hz hdz hl),ne_of_none hl hz,?_⟩;rw [if_pos (by rw [zD];exact ⟨h2,h4⟩)];intro H' m1 m2 s' g1 g2 g3 n1 n2;exact k _ (Own.of_new hz hdz s') (Wi (p:=New H) (ins:=[y]) (outs:=outs) hz (zB n1) (zB n2) g1 g2 g3)
theorem JZ {l:Addr} {y:Int} {outs:List Int} (hz:H z=none) (hdz:H dz=none) (hl:H l=some (.lst (iv outs))) (h2:2<=outs.length) (h4:outs.length<=4) (k:∀ H',Same H H'->KnP a H' (New H) (.ref z) ⟨.first,[y],outs,0,[]⟩->Q .non H'):qx K a.FirstParter a.BadKnot [.ref z,.int y,.ref l] (upd (upd H dz (.own z)) z (.ins a.FirstParter dz [])) Q EX:=by
 refine ⟨z,dz,l,.int y,iv outs,rfl,upd_same,SqL.of (qe hz hdz hl),ne_of_none hl hz,?_⟩;rw [if_pos (by rw [zD];exact ⟨h2,h4⟩)];intro H' m1 m2 s' g1 g2 g3 n1 n2;exact k _ (Own.of_new hz hdz s') (zas (p:=New H) (ins:=[y]) (outs:=outs) hz (zB n1) (zB n2) g1 g2 g3)
theorem zeh {l:Addr} {y kk:Int} {outs:List Int} (hz:H z=none) (hdz:H dz=none) (hl:H l=some (.lst (iv outs))) (h2:outs.length=2) (k0:0<=kk) (k1:kk < qP) (k:∀ H',Same H H'->KnP a H' (New H) (.ref z) ⟨.sieve,[y],outs,0,[kk]⟩->Q .non H'):wF K a.Sieve a.BadKnot [.ref z,.int y,.ref l,.int kk] (upd (upd H dz (.own z)) z (.ins a.Sieve dz [])) Q EX:=by
 refine ⟨z,dz,l,.int y,iv outs,kk,rfl,upd_same,SqL.of (qe hz hdz hl),ne_of_none hl hz,?_⟩;rw [if_pos (by rw [zD];exact ⟨h2,k0,k1⟩)];intro H' m1 m2 s' g1 g2 g3 n1 n2;exact k _ (Own.of_new hz hdz s') (zar (p:=New H) (ins:=[y]) (outs:=outs) hz (zB n1) (zB n2) g1 g2 g3)
theorem Qj {l:Addr} {y:Int} {ins:List Int} (hz:H z=none) (hdz:H dz=none) (hl:H l=some (.lst (iv ins))) (h2:2<=ins.length) (h4:ins.length<=4) (k:∀ H',Same H H'->KnP a H' (New H) (.ref z) ⟨.joiner,ins,[y],0,[]⟩->Q .non H'):jp K a.Joiner a.BadKnot [.ref z,.ref l,.int y] (upd (upd H dz (.own z)) z (.ins a.Joiner dz [])) Q EX:=by
 refine ⟨z,dz,l,.int y,iv ins,rfl,upd_same,SqL.of (qe hz hdz hl),ne_of_none hl hz,?_⟩;rw [if_pos (by rw [zD];exact ⟨h2,h4⟩)];intro H' m1 m2 s' g1 g2 g3 n1 n2;exact k _ (Own.of_new hz hdz s') (Wj (p:=New H) (ins:=ins) (outs:=[y]) hz (zB n1) (zB n2) g1 g2 g3)
end
theorem WInv.knot {bs:List (Int × Int)} {rs:List Row} {es ks es' ks':List Int} {r:Row} (h:WInv bs rs es ks) (pe:(r.ins ++ es').Perm es) (pk:(r.outs ++ ks').Perm ks) (ok:r.ok):WInv bs (rs ++ [r]) es' ks':=by
 refine ⟨?_,?_,λ x hx=>?_,h.bo⟩
 ·rw [Ww,append_assoc];exact (List.Perm.append_left _ pe).trans h.tk
 ·rw [zbG,append_assoc];exact (List.Perm.append_left _ pk).trans h.fd
 ·rcases List.mem_append.mp hx with hx|hx
  ·exact h.ro x hx
  ·rw [List.mem_singleton.mp hx];exact ok
theorem WInv.perm {bs:List (Int × Int)} {rs:List Row} {es ks es' ks':List Int} (h:WInv bs rs es ks) (pe:es'.Perm es) (pk:ks'.Perm ks):WInv bs rs es' ks':=⟨(List.Perm.append_left _ pe).trans h.tk,(List.Perm.append_left _ pk).trans h.fd,h.ro,h.bo⟩
theorem WInv.belt {bs:List (Int × Int)} {rs:List Row} {es ks:List Int} {b:Int × Int} (h:WInv bs rs es ks) (hb:zu b.1 b.2):WInv (bs ++ [b]) rs (es ++ [(bs.length:Int)]) (ks ++ [(bs.length:Int)]):=by
 refine ⟨?_,?_,h.ro,λ x hx=>?_⟩
 ·rw [length_append,length_singleton,VZ,<- append_assoc];exact List.Perm.append_right _ h.tk
 ·rw [length_append,length_singleton,VZ,<- append_assoc];exact List.Perm.append_right _ h.fd
 ·rcases List.mem_append.mp hx with hx|hx
  ·exact h.bo x hx
  ·rw [List.mem_singleton.mp hx];exact hb
abbrev ms3 (L R E:Addr):List Addr:=[L,R,E]
structure GS (a:Ad) (H0 H:Hp) (L R E:Addr) (bs:List (Int × Int)) (rs:List Row) (es:List Int):Prop where
 f:Fr (ms3 L R E) H0 H
 nLR:L≠R
 nLE:L≠E
 nRE:R≠E
 hL:∃ bvs,H L=some (.lst bvs)/\Reps H (Off (ms3 L R E)) bvs (bs.map (jU a))
 hR:∃ rvs,H R=some (.lst rvs)/\Reps H (Off (ms3 L R E)) rvs (rs.map (wT a))
 hE:H E=some (.lst (iv es))
section
variable {H0 H H':Hp} {L R E:Addr} {bs bs':List (Int × Int)} {rs rs':List Row} {es es':List Int}
theorem GS.same (w:GS a H0 H L R E bs rs es) (s:Same H H'):GS a H0 H' L R E bs rs es:=by
 obtain ⟨bvs,h1,r1⟩:=w.hL;obtain ⟨rvs,h2,r2⟩:=w.hR;exact { w with f:=w.f.trans s.fr,hL:=⟨bvs,s _ _ h1,r1.same s⟩,hR:=⟨rvs,s _ _ h2,r2.same s⟩,hE:=s _ _ w.hE }
theorem GS.off (w:GS a H0 H L R E bs rs es) {x:Addr} (h:H x=none):x ∉ ms3 L R E:=λ z=>by
 obtain ⟨bvs,h1,_⟩:=w.hL;obtain ⟨rvs,h2,_⟩:=w.hR;have h3:=w.hE;simp only [mem_cons,not_mem_nil,or_false] at z;rcases z with rfl|rfl|rfl
 ·rw [h1] at h;cases h
 ·rw [h2] at h;cases h
 ·rw [h3] at h;cases h
theorem GS.here (w:GS a H0 H L R E bs rs es):GS a H H L R E bs rs es:={ w with f:=Fr.refl }
theorem GS.trans (w:GS a H0 H L R E bs rs es) (v:GS a H H' L R E bs' rs' es'):GS a H0 H' L R E bs' rs' es':={ v with f:=w.f.trans v.f }
theorem GS.setE (w:GS a H0 H L R E bs rs es) (es':List Int):GS a H0 (upd H E (.lst (iv es'))) L R E bs rs es':=by
 obtain ⟨bvs,h1,r1⟩:=w.hL;obtain ⟨rvs,h2,r2⟩:=w.hR;have f:Fr (ms3 L R E) H (upd H E (.lst (iv es'))):=jB (by simp);exact { w with f:=w.f.trans f,hL:=⟨bvs,by rw [upd_ne w.nLE];exact h1,r1.fr f⟩,hR:=⟨rvs,by rw [upd_ne w.nRE];exact h2,r2.fr f⟩,hE:=upd_same }
theorem GS.addL (w:GS a H0 H L R E bs rs es) {H1:Hp} {v:V} {b:Int × Int} {bvs:List V} (e:H L=some (.lst bvs)) (s:Same H H1) (q:BtP a H1 (New H) v b):GS a H0 (upd H1 L (.lst (bvs ++ [v]))) L R E (bs ++ [b]) rs es/\bvs.length=bs.length:=by
 have w1:=w.same s;obtain ⟨bvs',h1,r1⟩:=w1.hL;rw [s _ _ e] at h1;cases h1;obtain ⟨rvs,h2,r2⟩:=w1.hR;have f:Fr (ms3 L R E) H1 (upd H1 L (.lst (bvs ++ [v]))):=jB (by simp);refine ⟨{ w1 with f:=w1.f.trans f,hL:=⟨_,upd_same,?_⟩,hR:=⟨rvs,by rw [upd_ne w.nLR.symm];exact h2,r2.fr f⟩,hE:=by rw [upd_ne w.nLE.symm];exact w1.hE },by rw [r1.len,length_map]⟩;rw [map_append];exact (r1.fr f).append (.one (Rep.fr (q.keep λ b o hb ho=>⟨w.off hb,ho⟩) f))
theorem GS.addR (w:GS a H0 H L R E bs rs es) {H1:Hp} {v:V} {r:Row} {rvs:List V} (e:H R=some (.lst rvs)) (s:Same H H1) (q:KnP a H1 (New H) v r):GS a H0 (upd H1 R (.lst (rvs ++ [v]))) L R E bs (rs ++ [r]) es/\rvs.length=rs.length:=by
 have w1:=w.same s;obtain ⟨bvs,h1,r1⟩:=w1.hL;obtain ⟨rvs',h2,r2⟩:=w1.hR;rw [s _ _ e] at h2;cases h2;have f:Fr (ms3 L R E) H1 (upd H1 R (.lst (rvs ++ [v]))):=jB (by simp);refine ⟨{ w1 with f:=w1.f.trans f,hL:=⟨bvs,by rw [upd_ne w.nLR];exact h1,r1.fr f⟩,hR:=⟨_,upd_same,?_⟩,hE:=by rw [upd_ne w.nRE.symm];exact w1.hE },by rw [r2.len,length_map]⟩;rw [map_append];exact (r2.fr f).append (.one (Rep.fr (q.keep λ b o hb ho=>⟨w.off hb,ho⟩) f))
end
theorem zdR {α:Type} (xs:List α) (k:Nat):(xs.drop k ++ xs.take k).Perm xs:=by
 refine List.perm_append_comm.trans ?_;rw [List.take_append_drop]
theorem zaz (xs:List V) (k:Nat) (h:k<=xs.length):Xk xs (some (k:Int)) none=xs.drop k:=by
 unfold Xk;rw [HT.sIx_nat,HT.sIx_none,Nat.min_eq_left h];exact take_of_length_le (by rw [length_drop];omega)
theorem zeK (xs:List V) (n:Nat):Xk xs none (some (n:Int))=xs.take n:=by
 have h:=HT.sIx_nat xs.length xs.length n;unfold Xk;rw [HT.sIx_none,h,Nat.sub_zero,List.drop_zero];by_cases e:n<=xs.length
 ·rw [Nat.min_eq_left e]
 ·rw [Nat.min_eq_right (by omega),take_length,take_of_length_le (by omega)]
theorem Jf {H:Hp} {z dz L R:Addr} {Q:VK} {EX:XK} {bvs rvs:List V} {bs:List (Int × Int)} {rs:List Row} {p q:Addr->Prop} (hz:H z=none) (hdz:H dz=none) (hL:H L=some (.lst bvs)) (hR:H R=some (.lst rvs)) (rB:Reps H p bvs (bs.map (jU a))) (rK:Reps H q rvs (rs.map (wT a))) (wok:zC bs rs) (bo:∀ b∈bs,zu b.1 b.2) (ro:∀ r∈rs,r.ok)
  (k:∀ H',Same H H'->Rep H' (Off []) (.ref z) (zX a bs rs)->Q .non H'):vR K a [.ref z,.ref L,.ref R] (upd (upd H dz (.own z)) z (.ins a.Work dz [])) Q EX:=by
 have lb:=wok.1.1.2;refine ⟨z,dz,L,R,bvs,rvs,bs,rs,λ b=>b≠z,rfl,upd_same,ne_of_none hL hz,ne_of_none hR hz,λ _ h=>h,qe hz hdz hL,qe hz hdz hR,
  (Bts.of rB).keep λ b o _ hb=>⟨ne_of_none hb hz,qe hz hdz hb⟩,(Kns.of rK).keep λ b o _ hb=>⟨ne_of_none hb hz,qe hz hdz hb⟩,bo,ro,by rw [wok.2.1.length_eq,Ja];omega,by rw [wok.2.2.length_eq,Ja];omega,by omega,λ _ H4 m1 m2 bv kv o4 g0 g1 g2 gB gK n1 n2=>?_,λ y=>absurd wok y⟩
 refine k _ (Own.of_new hz hdz o4) ?_;rw [zgW] at g0;exact wc (λ z=>nomatch z) g0 rfl (.cons (gB.reps.all.mk' (λ z=>nomatch z) g1) (.cons (gK.reps.all.mk' (λ z=>nomatch z) g2) .nil))
theorem WInv.work {bs:List (Int × Int)} {rs rs':List Row} (h:WInv bs rs [] []) (pm:rs'.Perm rs) (b24:bs.length<=24) (r1:1<=rs.length) (r24:rs.length<=24):zC bs rs'/\(∀ r∈rs',r.ok):=by
 have tk:=h.tk;have fd:=h.fd;rw [append_nil] at tk fd;have pl:=pm.length_eq;have b1:1<=bs.length:=by
  obtain ⟨r,rs0,rfl⟩:=exists_cons_of_ne_nil (ne_nil_of_length_pos (by omega:0 < rs.length));have ok:=h.ro r (by simp);have lt:=tk.length_eq;have lf:=fd.length_eq;rw [Ja] at lt lf;have e1:(qo (r :: rs0)).length=r.ins.length + (qo rs0).length:=by simp [qo]
  have e2:(jT (r :: rs0)).length=r.outs.length + (jT rs0).length:=by simp [jT]
  have:1<=r.ins.length + r.outs.length:=by
   obtain ⟨wd,ins,outs,pc,kd⟩:=r;cases wd
   ·obtain ⟨_,⟨o,q⟩,_⟩:=ok;simp only at q;subst q;simp
   ·obtain ⟨⟨o,q⟩,_⟩:=ok;simp only at q;subst q;simp
   ·obtain ⟨⟨o,q⟩,_⟩:=ok;simp only at q;subst q;simp
   ·obtain ⟨⟨o,q⟩,_⟩:=ok;simp only at q;subst q;simp
   ·obtain ⟨⟨o,q⟩,_⟩:=ok;simp only at q;subst q;simp
   ·obtain ⟨⟨o,q⟩,_⟩:=ok;simp only at q;subst q;simp
  omega
 refine ⟨⟨⟨⟨b1,b24⟩,by omega,by omega⟩,?_,?_⟩,λ r hr=>h.ro r (pm.mem_iff.mp hr)⟩
 ·exact (pm.flatMap_right _).trans fd
 ·exact (pm.flatMap_right _).trans tk
def Told (H:Hp) (v:V) (r:Option (List V)):Prop:=match r with
 | none=>v=.non
 | some xs=>∃ p,v=.ref p/\H p=some (.tup xs)
theorem Told.same {H H':Hp} {v:V} {r:Option (List V)} (h:Told H v r) (s:Same H H'):Told H' v r:=by
 cases r with
 | none=>exact h
 | some xs=>exact let ⟨p,e,hp⟩:=h;⟨p,e,s _ _ hp⟩
def WB (side:V) (p:Int) (t:Int) (b:Bool):Option (List V):=if b=true/\t % p=0 then some [.non,.int 0,side] else none
def wE (K:PySem.W.Frag) (C:Addr):Sp:=λ vs H Q _=>∃ (y dx l1 l2 l3 fl:Addr) (p t:Int) (hs side:V) (b:Bool) (bs:List V),vs=[.ref y,hs,.ref fl,.int t,side]/\H y=some (.ins C dx (sf l1 l2 p l3))/\1<=p /\
 SqL K H fl (.bl b :: bs)/\∀ v H',Same H H'->Told H' v (WB side p t b)->Q v H'
theorem Qc (T:Txt K mg a) (F:Fun K "choice" "Source.choice" qZ f fd):FnOk P w K mg base (CXr P w) 1 f fd ["self","heads","free","turn","side"] (wE K a.Source):=by
 refine F.okx ZZ ?_ ?_
 ·walk_at "i"
 walk_at "k";obtain ⟨y,dx,l1,l2,l3,fl,p,t,hs,side,b,bs,rfl,hy,p1,hf,k⟩:=h;unfold WB at k;walk_at "T";refine ⟨_,(zh (zG (PW.pt (pw_or (jQ (qT (zv (pq 2) zd) (λ _=>rfl))) (pw_or1 (zq (zb5 hr.units1) (zH jw (pq 3) (zl (pq 0) rfl)) zd (zw _)))))  (zg (zk zy))  zp)  (zg (zk (qI (za zy (za zd (za (pq 4) zc))))))),?_⟩;walk_at "go";refine zt hf at0 ?_;walk_at "go";cases b with
 | false =>
  rw [if_neg (by simp)] at k;walk_at "go";exact k _ _ (Same.refl _) rfl
 | true =>
  walk_at "go";refine ra hy T.C_Source T.N_Source_pace ze5 ?_;walk_at "go";refine zL (λ h=>?_) (λ h=>?_)
  ·rw [if_neg (λ z=>h z.2)] at k;walk_at "go";exact k _ _ (Same.refl _) rfl
  ·rw [if_pos ⟨rfl,Decidable.of_not_not h⟩] at k;walk_at "go";intro q hq;exact k _ _ (zf hq) ⟨q,rfl,upd_same⟩
theorem QZ (T:Txt K mg a):MCal P w K mg base a.Source "choice" 1 ["self","heads","free","turn","side"] [] (wE K a.Source):=T.h_Source_choice.cal T.C_Source (Qc T)
def zbI (side:V) (p:Int) (t:Int) (hd:V):Option (List V):=if p=0\/hd=.non\/t % p≠0 then none else some [.int 0,.non,side]
def vG (K:PySem.W.Frag) (C:Addr):Sp:=λ vs H Q _=>∃ (y dx l1 l2 hl:Addr) (p t:Int) (fr side:V) (hd:V) (hs:List V),vs=[.ref y,.ref hl,fr,.int t,side]/\H y=some (.ins C dx (df l1 l2 p))/\0<=p/\p<=4 /\
 SqL K H hl (hd :: hs)/\∀ v H',Same H H'->Told H' v (zbI side p t hd)->Q v H'
theorem QX (T:Txt K mg a) (F:Fun K "choice" "Drain.choice" ju f fd):FnOk P w K mg base (CXr P w) 1 f fd ["self","heads","free","turn","side"] (vG K a.Drain):=by
 refine F.okx QR ?_ ?_
 ·walk_at "i"
 walk_at "k";obtain ⟨y,dx,l1,l2,hl,p,t,fr,side,hd,hs,rfl,hy,p0,p4,hh,k⟩:=h;unfold zbI at k;walk_at "T";refine ⟨_,(zh (zG (zq (wv hr.units1) (zl (pq 0) rfl) zd (zw _))  (zg (zk zy))  zp)  (zh (zG (PW.pt (pw_or (zq ji (zv (pq 1) zd) zy (zw _)) (pw_or1 (zq (zb5 hr.units1) (zH jw (pq 3) (zl (pq 0) rfl)) zd (zw _)))))  (zg (zk zy))  zp)  (zg (zk (qI (za zd (za zy (za (pq 4) zc)))))))),?_⟩;walk_at "go";refine ra hy T.C_Drain T.N_Drain_pace Vq ?_;walk_at "go";refine zL (λ h1=>?_) (λ h1=>?_)
 ·rw [if_pos (.inl h1)] at k;walk_at "go";exact k _ _ (Same.refl _) rfl
 ·walk_at "go";refine zt hh at0 ?_;walk_at "go";refine zL (λ h2=>?_) (λ h2=>?_)
  ·rw [if_pos (.inr (.inl h2))] at k;walk_at "go";exact k _ _ (Same.refl _) rfl
  ·walk_at "go";refine ra hy T.C_Drain T.N_Drain_pace Vq ?_;walk_at "go";refine And.intro (by omega) ?_;refine zL (λ h3=>?_) (λ h3=>?_)
   ·rw [if_pos (.inr (.inr h3))] at k;walk_at "go";exact k _ _ (Same.refl _) rfl
   ·rw [if_neg (λ z=>z.elim h1 λ z=>z.elim h2 h3)] at k;walk_at "go";intro q hq;exact k _ _ (zf hq) ⟨q,rfl,upd_same⟩
theorem J9 (T:Txt K mg a):MCal P w K mg base a.Drain "choice" 1 ["self","heads","free","turn","side"] [] (vG K a.Drain):=T.h_Drain_choice.cal T.C_Drain (QX T)
def zfX (n:Nat) (p:Option Nat):Option (List V):=p.map λ (p:Nat)=>[.int 0,.int p,.int ((p + 1) % n:Nat)]
def wG (K:PySem.W.Frag) (C:Addr):Sp:=λ vs H Q _=>∃ (y dx l1 l2 hl fl:Addr) (turn:V) (side:Nat) (hd:V) (hs outs:List V) (bs:List Bool),vs=[.ref y,.ref hl,.ref fl,turn,.int side]/\H y=some (.ins C dx (kf l1 l2))/\H l2=some (.lst outs) /\
 SqL K H hl (hd :: hs)/\SqL K H fl (bs.map V.bl)/\bs.length=outs.length/\bs.length<=1000 /\
 ∀ v H',Same H H'->Told H' v (if hd=.non then none else zfX bs.length (jC bs side))->Q v H'
theorem Qe (T:Txt K mg a) (F:Fun K "choice" "Parter.choice" jb f fd):FnOk P w K mg base (CXr P w) 3 f fd ["self","heads","free","turn","side"] (wG K a.Parter):=by
 refine F.okx Z1 ?_ ?_
 ·walk_at "i"
 walk_at "k";obtain ⟨y,dx,l1,l2,hl,fl,turn,side,hd,hs,outs,bs,rfl,hy,h2,hh,hf,hbl,hb,k⟩:=h;walk_at "T";refine ⟨_,(zh (zo 5 Z1.nd (zm ⟨rfl,rfl,rfl⟩ hr (za (zv (pq 1) zd) (za (pq 2) (za (pq 4) zc)))))  (zh (zG (zq ji (pq 5) zy (zw _))  (zg (zk zy))  zp)  (zg (zk (qI (za zd (za (pq 5) (za (zH jw (zH z9 (pq 5) zd) (zQ zV zU (za (zl (pq 0) rfl) zc))) zc)))))))),?_⟩;walk_at "go";refine ⟨_,_,_,xZ T,zt hh at0 ⟨hd,fl,bs,side,rfl,hf,hb,?_⟩⟩;by_cases hn:hd=.non
 ·rw [if_pos hn] at k ⊢;walk_at "go";exact k _ _ (Same.refl _) rfl
 ·rw [if_neg hn] at k ⊢;cases hp:jC bs side with
  | none =>
   rw [hp] at k;simp only [vB];walk_at "go";exact k _ _ (Same.refl _) rfl
  | some p =>
   rw [hp] at k;simp only [vB];have hlt:=xY hp;walk_at "go";refine ra hy T.C_Parter T.N_Parter_outs zfw ⟨_,.inl ⟨_,SqL.of h2,rfl⟩,?_⟩;walk_at "go";rw [<- hbl];refine And.intro (by omega) ?_;walk_at "go";intro q hq;have e:((p:Int) + 1) % (bs.length:Int)=(((p + 1) % bs.length:Nat):Int):=by push_cast;rfl
   rw [e];exact k _ _ (zf hq) ⟨q,rfl,upd_same⟩
theorem Q1 (T:Txt K mg a):MCal P w K mg base a.Parter "choice" 3 ["self","heads","free","turn","side"] [] (wG K a.Parter):=T.h_Parter_choice.cal T.C_Parter (Qe T)
def zeF (side:V) (p:Option Nat):Option (List V):=p.map λ (p:Nat)=>[.int 0,.int p,side]
def vF (K:PySem.W.Frag):Sp:=λ vs H Q _=>∃ (y hl fl:Addr) (turn side:V) (hd:V) (hs:List V) (bs:List Bool),vs=[.ref y,.ref hl,.ref fl,turn,side] /\
 SqL K H hl (hd :: hs)/\SqL K H fl (bs.map V.bl)/\bs.length<=1000/\∀ v H',Same H H'->Told H' v (if hd=.non then none else zeF side (jC bs 0))->Q v H'
theorem wz (T:Txt K mg a) (F:Fun K "choice" "FirstParter.choice" qi f fd):FnOk P w K mg base (CXr P w) 3 f fd ["self","heads","free","turn","side"] (vF K):=by
 refine F.okx wx ?_ ?_
 ·walk_at "i"
 walk_at "k";obtain ⟨y,hl,fl,turn,side,hd,hs,bs,rfl,hh,hf,hb,k⟩:=h;walk_at "T";refine ⟨_,(zh (zo 5 wx.nd (zm ⟨rfl,rfl,rfl⟩ hr (za (zv (pq 1) zd) (za (pq 2) (za zd zc)))))  (zh (zG (zq ji (pq 5) zy (zw _))  (zg (zk zy))  zp)  (zg (zk (qI (za zd (za (pq 5) (za (pq 4) zc)))))))),?_⟩;walk_at "go";refine ⟨_,_,_,xZ T,zt hh at0 ⟨hd,fl,bs,0,rfl,hf,hb,?_⟩⟩;by_cases hn:hd=.non
 ·rw [if_pos hn] at k ⊢;walk_at "go";exact k _ _ (Same.refl _) rfl
 ·rw [if_neg hn] at k ⊢;cases hp:jC bs 0 with
  | none =>
   rw [hp] at k;simp only [vB];walk_at "go";exact k _ _ (Same.refl _) rfl
  | some p =>
   rw [hp] at k;simp only [vB];walk_at "go";intro q hq;exact k _ _ (zf hq) ⟨q,rfl,upd_same⟩
theorem wR (T:Txt K mg a):MCal P w K mg base a.FirstParter "choice" 3 ["self","heads","free","turn","side"] [] (vF K):=T.h_FirstParter_choice.cal T.C_FirstParter (wz T)
def zbU (C:Addr):Sp:=λ vs H Q _=>∃ (y dx l1 l2:Addr) (n j:Int),vs=[.ref y,.int j]/\H y=some (.ins C dx (vf l1 l2 n))/\Q (.int (if j=n then 0 else 1)) H
theorem Za (T:Txt K mg a) (F:Fun K "place_for" "Sieve.place_for" qE f fd):FnOk P w K mg base (CXr P w) 1 f fd ["self","kind"] (zbU a.Sieve):=by
 refine F.okx vW ?_ ?_
 ·walk_at "i"
 walk_at "k";obtain ⟨y,dx,l1,l2,n,j,rfl,hy,k⟩:=h;walk_at "T";refine ⟨_,(zg (zk (xk (zq (wv hr.units1) (pq 1) (zl (pq 0) rfl) (zw _)) zd zd))),?_⟩;walk_at "go";refine ra hy T.C_Sieve T.N_Sieve_kind ze0 ?_;walk_at "go";refine zL (λ h=>?_) (λ h=>?_)
 ·rw [if_pos h] at k;walk_at "go";exact k
 ·rw [if_neg h] at k;walk_at "go";exact k
theorem XS (T:Txt K mg a):MCal P w K mg base a.Sieve "place_for" 1 ["self","kind"] [] (zbU a.Sieve):=T.h_Sieve_place_for.cal T.C_Sieve (Za T)
def zaR (side:V) (n:Int) (bs:List Bool) (hd:V):Option (List V):=if hd=.non then none else if bs.getD (if hd=.int n then 0 else 1) false=true then some [.int 0,.int (if hd=.int n then 0 else 1),side] else none
def vE (K:PySem.W.Frag) (C:Addr):Sp:=λ vs H Q _=>∃ (y dx l1 l2 hl fl:Addr) (n:Int) (turn side:V) (hd:V) (hs:List V) (bs:List Bool),vs=[.ref y,.ref hl,.ref fl,turn,side]/\H y=some (.ins C dx (vf l1 l2 n)) /\
 SqL K H hl (hd :: hs)/\(hd=.non\/∃ j,hd=.int j)/\SqL K H fl (bs.map V.bl)/\bs.length=2/\∀ v H',Same H H'->Told H' v (zaR side n bs hd)->Q v H'
theorem QV (T:Txt K mg a) (F:Fun K "choice" "Sieve.choice" js f fd):FnOk P w K mg base (CXr P w) 2 f fd ["self","heads","free","turn","side"] (vE K a.Sieve):=by
 refine F.okx QP ?_ ?_
 ·walk_at "i"
 walk_at "k";obtain ⟨y,dx,l1,l2,hl,fl,n,turn,side,hd,hs,bs,rfl,hy,hh,hhd,hf,hb,k⟩:=h;walk_at "T";refine ⟨_,(zh (zG (zq ji (zv (pq 1) zd) zy (zw _))  (zg (zk zy))  zp)  (zh (zo 5 QP.nd (zd8 ⟨rfl,rfl,rfl⟩ hr (pq 0) (za (zv (pq 1) zd) zc)))  (zh (zG (jQ (qT (zv (pq 2) (pq 5)) (λ _=>rfl)))  (zg (zk zy))  zp)  (zg (zk (qI (za zd (za (pq 5) (za (pq 4) zc))))))))),?_⟩;walk_at "go";refine zt hh at0 ?_;rcases hhd with rfl|⟨j,rfl⟩
 ·walk_at "go";exact k _ _ (Same.refl _) rfl
 ·walk_at "go";refine ⟨y,a.Sieve,dx,_,_,_,_,rfl,hy,zgY (by decide +kernel) (by decide +kernel) (by decide +kernel),XS T,zt hh at0 ⟨y,dx,l1,l2,n,j,rfl,hy,?_⟩⟩;walk_at "go";obtain ⟨pp,hpp,hp2⟩:∃ pp:Nat,(if j=n then (0:Int) else 1)=pp/\pp < 2:=by split;exact ⟨0,rfl,by decide⟩;exact ⟨1,rfl,by decide⟩
  have e1:(if V.int j=V.int n then (0:Nat) else 1)=pp:=by
   by_cases h:j=n
   ·rw [if_pos h] at hpp;rw [if_pos (by rw [h])];omega
   ·rw [if_neg h] at hpp;rw [if_neg (λ z=>h (by cases z;rfl))];omega
  have e2:(if V.int j=V.int n then (0:Int) else 1)=pp:=by
   by_cases h:j=n
   ·rw [if_pos h] at hpp;rw [if_pos (by rw [h])];omega
   ·rw [if_neg h] at hpp;rw [if_neg (λ z=>h (by cases z;rfl))];omega
  rw [hpp];have hlt:pp < bs.length:=by omega
  refine zt hf (zJ (by rw [getElem?_map,getElem?_eq_getElem hlt];rfl)) ?_;have eg:bs.getD pp false=bs[pp]:=by simp [hlt]
  unfold zaR at k;rw [if_neg (by intro z;cases z),e1,e2,eg] at k;walk_at "go";cases hbb:bs[pp] with
  | true =>
   rw [hbb,if_pos rfl] at k;walk_at "go";intro q hq;exact k _ _ (zf hq) ⟨q,rfl,upd_same⟩
  | false =>
   rw [hbb,if_neg (by decide)] at k;walk_at "go";exact k _ _ (Same.refl _) rfl
theorem J1 (T:Txt K mg a):MCal P w K mg base a.Sieve "choice" 2 ["self","heads","free","turn","side"] [] (vE K a.Sieve):=T.h_Sieve_choice.cal T.C_Sieve (QV T)
def zf1 (n:Nat) (p:Option Nat):Option (List V):=p.map λ (p:Nat)=>[.int p,.int 0,.int ((p + 1) % n:Nat)]
def there (hs:List V):List Bool:=hs.map λ h=>!decide (h=.non)
def wH (K:PySem.W.Frag) (C:Addr):Sp:=λ vs H Q _=>∃ (y dx l1 l2 hl fl:Addr) (turn:V) (side:Nat) (hs ins:List V) (b:Bool) (bs:List V),vs=[.ref y,.ref hl,.ref fl,turn,.int side]/\H y=some (.ins C dx (kf l1 l2))/\H l1=some (.lst ins) /\
 SqL K H hl hs/\SqL K H fl (.bl b :: bs)/\hs.length=ins.length/\hs.length<=900/\∀ v H',Same H H'->Told H' v (if b=true then zf1 hs.length (jC (there hs) side) else none)->Q v H'
theorem Qg (T:Txt K mg a) (F:Fun K "choice" "Joiner.choice" qB f fd):FnOk P w K mg base (CXr P w) 2 f fd ["self","heads","free","turn","side"] (wH K a.Joiner):=by
 refine F.okx Z3 ?_ ?_
 ·walk_at "i"
 walk_at "k";obtain ⟨y,dx,l1,l2,hl,fl,turn,side,hs,ins,b,bs,rfl,hy,h1,hh,hf,hlen,hb,k⟩:=h;walk_at "T";refine ⟨_,(zh (zG (jQ (qT (zv (pq 2) zd) (λ _=>rfl)))  (zg (zk zy))  zp)  (zh (zo 5 Z3.nd (zm ⟨rfl,rfl,rfl⟩ hr (za (xj (vars:=["head"]) (caps:=[]) (N:=["head"]) (ON:=["self","heads","free","turn","side","place"]) (osc:=ze qB) rfl rfl (by first|decide +kernel|kernel_rfl) rfl rfl (qd (pq 1)) (λ s H fp pins=>(qr 0 (show (["head"]:List Str).Nodup from by decide +kernel))) (λ s H fp pins=>z8) (λ s H fp pins=>(wj op_notN (pq 0) zy (zw _)))) (za (pq 4) zc))))  (zh (zG (zq ji (pq 5) zy (zw _))  (zg (zk zy))  zp)  (zg (zk (qI (za (pq 5) (za zd (za (zH jw (zH z9 (pq 5) zd) (zQ zV zU (za (zl (pq 0) rfl) zc))) zc))))))))),?_⟩;walk_at "go";refine zt hf at0 ?_;walk_at "go";cases b with
 | false =>
  rw [if_neg (by decide)] at k;walk_at "go";exact k _ _ (Same.refl _) rfl
 | true =>
  rw [if_pos rfl] at k;walk_at "go";refine ⟨_,_,_,vN T,?_⟩;walk_at "lc";walk_at "go";refine ⟨hl,rfl,.inl ⟨⟨_,hh⟩,λ _ _ _ _ acc hacc=>?_⟩⟩;refine qR (K:=K) (a:=hl) (xs:=hs) (λ i σ H'=>∃ (v:Option V),σ=[v]/\Same H H'/\H' acc=some (.lst ((there (hs.take i)).map V.bl))) ⟨_,rfl,zf hacc,upd_same⟩ (λ i σ H' _ ⟨_,_,s,_⟩=>s.seq hh) ?_ ?_
  ·rintro i x σ H' hi ⟨v,rfl,s,ha⟩;walk_at "go";refine ⟨_,ha,?_,_,rfl,?_,?_⟩
   ·simp only [there,length_map,length_take];exact zj (by omega)
   ·intro b o hb;rw [upd_ne (ne_of_none hb hacc)];exact s b o hb
   ·rw [upd_same,take_succ,hi];simp [there]
  ·rintro σ H' ⟨v,rfl,s,ha⟩;rw [take_length] at ha;refine ⟨acc,there hs,side,rfl,SqL.of ha,by simp [there];omega,?_⟩;have hlt:(there hs).length=hs.length:=by simp [there]
   cases hp:jC (there hs) side with
   | none =>
    rw [hp] at k;simp only [vB];walk_at "go";exact k _ _ s rfl
   | some p =>
    rw [hp] at k;simp only [vB];have hlt':=xY hp;walk_at "go";refine ra (s _ _ hy) T.C_Joiner T.N_Joiner_ins zgA ⟨_,.inl ⟨_,SqL.of (s _ _ h1),rfl⟩,?_⟩;walk_at "go";rw [<- hlen];refine And.intro (by omega) ?_;walk_at "go";intro q hq;have e:((p:Int) + 1) % (hs.length:Int)=(((p + 1) % hs.length:Nat):Int):=by push_cast;rfl
    rw [e];exact k _ _ (s.trans (zf hq)) ⟨q,rfl,upd_same⟩
theorem Q3 (T:Txt K mg a):MCal P w K mg base a.Joiner "choice" 2 ["self","heads","free","turn","side"] [] (wH K a.Joiner):=T.h_Joiner_choice.cal T.C_Joiner (Qg T)
theorem MCal.imp {C:Addr} {m:Str} {k:Nat} {ps:List Str} {dvs:List V} {sp sp':Sp} (c:MCal P w K mg base C m k ps dvs sp) (h:∀ vs H Q E,sp' vs H Q E->sp vs H Q E):MCal P w K mg base C m k ps dvs sp' :=
 let ⟨f,fd,ds,x,y⟩:=c.ex;⟨c.cl,f,fd,ds,x.imp h,y⟩
theorem Vn {fs:List (Str × V)} {k:Str} {ks:List Str} (n:fs.map (·.1)=k :: ks):∃ v gs,fs=(k,v) :: gs/\gs.map (·.1)=ks:=by
 cases fs with
 | nil=>cases n
 | cons x gs =>
  obtain ⟨k',v⟩:=x;injection n with n1 n2
  exact ⟨v,gs,by rw [<- n1],n2⟩
theorem zgK {fs:List (Str × V)} (n:fs.map (·.1)=[]):fs=[]:=List.map_eq_nil_iff.mp n
theorem fs2 {H:Hp} {p:Addr->Prop} {fs:List (Str × V)} {k1 k2:Str} {d1 d2:D} (n:fs.map (·.1)=[k1,k2]) (g:∀ (i:Nat) f g,fs[i]?=some f->[(k1,d1),(k2,d2)][i]?=some g->Rep H p f.2 g.2):∃ v1 v2,fs=[(k1,v1),(k2,v2)]/\Rep H p v1 d1/\Rep H p v2 d2:=by
 obtain ⟨v1,f1,rfl,n1⟩:=Vn n;obtain ⟨v2,f2,rfl,n2⟩:=Vn n1;obtain rfl:=zgK n2;exact ⟨v1,v2,rfl,g 0 _ _ rfl rfl,g 1 _ _ rfl rfl⟩
section
variable {H:Hp} {p:Addr->Prop} {y:Addr} {ins outs kinds:List Int} {pace:Int}
theorem KnP.parter (h:KnP a H p (.ref y) ⟨.parter,ins,outs,pace,kinds⟩):∃ dx l1 l2,H y=some (.ins a.Parter dx (kf l1 l2))/\H l2=some (.lst (iv outs)):=by
 cases h with|ob _ hy n g =>
  obtain ⟨v1,v2,rfl,r1,r2⟩:=fs2 n g;obtain ⟨l1,rfl,_,_⟩:=r1.ints';obtain ⟨l2,rfl,_,h2⟩:=r2.ints';exact ⟨_,l1,l2,by rw [Xc];exact hy,h2⟩
end
theorem fs3 {H:Hp} {p:Addr->Prop} {fs:List (Str × V)} {k1 k2 k3:Str} {d1 d2 d3:D} (n:fs.map (·.1)=[k1,k2,k3]) (g:∀ (i:Nat) f g,fs[i]?=some f->[(k1,d1),(k2,d2),(k3,d3)][i]?=some g->Rep H p f.2 g.2):∃ v1 v2 v3,fs=[(k1,v1),(k2,v2),(k3,v3)]/\Rep H p v1 d1/\Rep H p v2 d2/\Rep H p v3 d3:=by
 obtain ⟨v1,f1,rfl,n1⟩:=Vn n;obtain ⟨v2,f2,rfl,n2⟩:=Vn n1;obtain ⟨v3,f3,rfl,n3⟩:=Vn n2;obtain rfl:=zgK n3;exact ⟨v1,v2,v3,rfl,g 0 _ _ rfl rfl,g 1 _ _ rfl rfl,g 2 _ _ rfl rfl⟩
theorem fs4 {H:Hp} {p:Addr->Prop} {fs:List (Str × V)} {k1 k2 k3 k4:Str} {d1 d2 d3 d4:D} (n:fs.map (·.1)=[k1,k2,k3,k4]) (g:∀ (i:Nat) f g,fs[i]?=some f->[(k1,d1),(k2,d2),(k3,d3),(k4,d4)][i]?=some g->Rep H p f.2 g.2):∃ v1 v2 v3 v4,fs=[(k1,v1),(k2,v2),(k3,v3),(k4,v4)]/\Rep H p v1 d1/\Rep H p v2 d2/\Rep H p v3 d3/\Rep H p v4 d4:=by
 obtain ⟨v1,f1,rfl,n1⟩:=Vn n;obtain ⟨v2,f2,rfl,n2⟩:=Vn n1;obtain ⟨v3,f3,rfl,n3⟩:=Vn n2;obtain ⟨v4,f4,rfl,n4⟩:=Vn n3;obtain rfl:=zgK n4;exact ⟨v1,v2,v3,v4,rfl,g 0 _ _ rfl rfl,g 1 _ _ rfl rfl,g 2 _ _ rfl rfl,g 3 _ _ rfl rfl⟩
section
variable {H:Hp} {p:Addr->Prop} {y:Addr} {ins outs kinds:List Int} {pace:Int}
theorem KnP.source (h:KnP a H p (.ref y) ⟨.source,ins,outs,pace,kinds⟩):∃ dx l1 l2 l3,H y=some (.ins a.Source dx (sf l1 l2 pace l3)):=by
 cases h with|ob _ hy n g =>
  obtain ⟨v1,v2,v3,v4,rfl,r1,r2,r3,r4⟩:=fs4 n g;obtain ⟨l1,rfl,_,_⟩:=r1.ints';obtain ⟨l2,rfl,_,_⟩:=r2.ints';cases r3;obtain ⟨l4,rfl,_,_⟩:=r4.ints';exact ⟨_,l1,l2,l4,by rw [zfU];exact hy⟩
theorem KnP.drain (h:KnP a H p (.ref y) ⟨.drain,ins,outs,pace,kinds⟩):∃ dx l1 l2,H y=some (.ins a.Drain dx (df l1 l2 pace)):=by
 cases h with|ob _ hy n g =>
  obtain ⟨v1,v2,v3,rfl,r1,r2,r3⟩:=fs3 n g;obtain ⟨l1,rfl,_,_⟩:=r1.ints';obtain ⟨l2,rfl,_,_⟩:=r2.ints';cases r3;exact ⟨_,l1,l2,by rw [zeH];exact hy⟩
theorem KnP.sieve {k:Int} (h:KnP a H p (.ref y) ⟨.sieve,ins,outs,pace,[k]⟩):∃ dx l1 l2,H y=some (.ins a.Sieve dx (vf l1 l2 k)):=by
 cases h with|ob _ hy n g =>
  obtain ⟨v1,v2,v3,rfl,r1,r2,r3⟩:=fs3 n g;obtain ⟨l1,rfl,_,_⟩:=r1.ints';obtain ⟨l2,rfl,_,_⟩:=r2.ints';cases r3;exact ⟨_,l1,l2,by rw [zfP];exact hy⟩
theorem KnP.joiner (h:KnP a H p (.ref y) ⟨.joiner,ins,outs,pace,kinds⟩):∃ dx l1 l2,H y=some (.ins a.Joiner dx (kf l1 l2))/\H l1=some (.lst (iv ins)):=by
 cases h with|ob _ hy n g =>
  obtain ⟨v1,v2,rfl,r1,r2⟩:=fs2 n g;obtain ⟨l1,rfl,_,h1⟩:=r1.ints';obtain ⟨l2,rfl,_,_⟩:=r2.ints';exact ⟨_,l1,l2,by rw [Xc];exact hy,h1⟩
end
def hdV:Option Int->V
 | none=>.non
 | some k=>.int k
def qm (r:Row) (hs:List (Option Int)) (bs:List Bool) (t:Int) (side:Nat):Option (Option Nat × Option Nat × Nat):=match r.wd with
 | .source=>if bs.getD 0 false=true/\t % r.pace=0 then some (none,some 0,side) else none
 | .drain=>if r.pace=0\/hs.getD 0 none=none\/t % r.pace≠0 then none else some (some 0,none,side)
 | .parter=>if hs.getD 0 none=none then none else (jC bs side).map λ p=>(some 0,some p,(p + 1) % bs.length)
 | .first=>if hs.getD 0 none=none then none else (jC bs 0).map λ p=>(some 0,some p,side)
 | .sieve=>if hs.getD 0 none=none then none else if bs.getD (if hs.getD 0 none=some (r.kinds.headD 0) then 0 else 1) false=true then some (some 0,some (if hs.getD 0 none=some (r.kinds.headD 0) then 0 else 1),side) else none
 | .joiner=>if bs.getD 0 false=true then (jC (hs.map Option.isSome) side).map λ p=>(some p,some 0,(p + 1) % hs.length) else none
def chV (x:Option Nat × Option Nat × Nat):List V:=[vB x.1,vB x.2.1,.int (x.2.2:Nat)]
def zdI (K:PySem.W.Frag) (a:Ad) (wd:Wd):Sp:=λ vs H Q _=>∃ (y hl fl:Addr) (r:Row) (p:Addr->Prop) (hs:List (Option Int)) (bs:List Bool) (t:Int) (side:Nat),vs=[.ref y,.ref hl,.ref fl,.int t,.int side]/\KnP a H p (.ref y) r/\r.wd=wd/\r.ok /\
 H hl=some (.lst (hs.map hdV))/\H fl=some (.lst (bs.map V.bl))/\hs.length=r.ins.length/\bs.length=r.outs.length/\∀ v H',Same H H'->Told H' v ((qm r hs bs t side).map chV)->Q v H'
theorem Jj {x:Option Int}:(hdV x=.non)=(x=none):=by
 cases x <;> simp [hdV]
theorem zdD (hs:List (Option Int)):there (hs.map hdV)=hs.map Option.isSome:=by
 simp only [there,map_map]
 congr 1
 funext x
 cases x <;> simp [hdV]
theorem zej (T:Txt K mg a) (wd:Wd):MCal P w K mg base (wo a wd) "choice" 3 ["self","heads","free","turn","side"] [] (zdI K a wd):=by
 cases wd with
 | source =>
  refine MCal.imp (QZ T).mono λ vs H Q E h=>?_;obtain ⟨y,hl,fl,⟨wd,ins,outs,pace,kinds⟩,p,hs,bs,t,side,rfl,hK,hw,ok,hh,hf,l1,l2,k⟩:=h;simp only at hw;subst hw;obtain ⟨dx,m1,m2,m3,hy⟩:=hK.source;obtain ⟨_,⟨o,eo⟩,p1,_⟩:=ok;simp only at eo p1 l2;subst eo
  match bs,l2 with
  | [b],_ =>
   refine ⟨y,dx,m1,m2,m3,fl,pace,t,_,_,b,[],rfl,hy,p1,SqL.of hf,λ v H' s ht=>k v H' s ?_⟩;unfold WB at ht;simp only [qm];by_cases hc:b=true/\t % pace=0
   ·rw [if_pos hc] at ht;rw [if_pos (by simpa using hc)];exact ht
   ·rw [if_neg hc] at ht;rw [if_neg (by simpa using hc)];exact ht
 | drain =>
  refine MCal.imp (J9 T).mono λ vs H Q E h=>?_;obtain ⟨y,hl,fl,⟨wd,ins,outs,pace,kinds⟩,p,hs,bs,t,side,rfl,hK,hw,ok,hh,hf,l1,l2,k⟩:=h;simp only at hw;subst hw;obtain ⟨dx,m1,m2,hy⟩:=hK.drain;obtain ⟨⟨o,eo⟩,_,p1,p4⟩:=ok;simp only at eo p1 p4 l1;subst eo
  match hs,l1 with
  | [hd],_ =>
   refine ⟨y,dx,m1,m2,hl,pace,t,_,_,hdV hd,[],rfl,hy,p1,p4,SqL.of hh,λ v H' s ht=>k v H' s ?_⟩;unfold zbI at ht;simp only [Jj] at ht;simp only [qm];by_cases hc:pace=0\/hd=none\/t % pace≠0
   ·rw [if_pos hc] at ht;rw [if_pos (by simpa using hc)];exact ht
   ·rw [if_neg hc] at ht;rw [if_neg (by simpa using hc)];exact ht
 | parter =>
  refine MCal.imp (Q1 T).mono λ vs H Q E h=>?_;obtain ⟨y,hl,fl,⟨wd,ins,outs,pace,kinds⟩,p,hs,bs,t,side,rfl,hK,hw,ok,hh,hf,l1,l2,k⟩:=h;simp only at hw;subst hw;obtain ⟨dx,m1,m2,hy,h2⟩:=hK.parter;obtain ⟨⟨o,eo⟩,q1,q2⟩:=ok;simp only at eo l1 l2 q1 q2;subst eo
  match hs,l1 with
  | [hd],_ =>
   refine ⟨y,dx,m1,m2,hl,fl,_,side,hdV hd,[],iv outs,bs,rfl,hy,h2,SqL.of hh,SqL.of hf,by rw [zD];exact l2,by omega,λ v H' s ht=>k v H' s ?_⟩;simp only [Jj] at ht;simp only [qm];by_cases hc:hd=none
   ·rw [if_pos hc] at ht;rw [if_pos (by simpa using hc)];exact ht
   ·rw [if_neg hc] at ht;rw [if_neg (by simpa using hc)];unfold zfX at ht;rw [Option.map_map];exact ht
 | first =>
  refine MCal.imp (wR T).mono λ vs H Q E h=>?_;obtain ⟨y,hl,fl,⟨wd,ins,outs,pace,kinds⟩,p,hs,bs,t,side,rfl,hK,hw,ok,hh,hf,l1,l2,k⟩:=h;simp only at hw;subst hw;obtain ⟨⟨o,eo⟩,q1,q2⟩:=ok;simp only at eo l1 l2 q1 q2;subst eo
  match hs,l1 with
  | [hd],_ =>
   refine ⟨y,hl,fl,_,_,hdV hd,[],bs,rfl,SqL.of hh,SqL.of hf,by omega,λ v H' s ht=>k v H' s ?_⟩;simp only [Jj] at ht;simp only [qm];by_cases hc:hd=none
   ·rw [if_pos hc] at ht;rw [if_pos (by simpa using hc)];exact ht
   ·rw [if_neg hc] at ht;rw [if_neg (by simpa using hc)];unfold zeF at ht;rw [Option.map_map];exact ht
 | sieve =>
  refine MCal.imp (J1 T).mono λ vs H Q E h=>?_;obtain ⟨y,hl,fl,⟨wd,ins,outs,pace,kinds⟩,p,hs,bs,t,side,rfl,hK,hw,ok,hh,hf,l1,l2,k⟩:=h;simp only at hw;subst hw;obtain ⟨⟨o,eo⟩,q1,kk,q2,_⟩:=ok;simp only at eo l1 l2 q1 q2;subst eo q2;obtain ⟨dx,m1,m2,hy⟩:=hK.sieve
  match hs,l1 with
  | [hd],_ =>
   refine ⟨y,dx,m1,m2,hl,fl,kk,_,_,hdV hd,[],bs,rfl,hy,SqL.of hh,by cases hd;exact .inl rfl;exact .inr ⟨_,rfl⟩,SqL.of hf,by omega,λ v H' s ht=>k v H' s ?_⟩;unfold zaR at ht;simp only [Jj] at ht;simp only [qm];by_cases hc:hd=none
   ·rw [if_pos hc] at ht;rw [if_pos (by simpa using hc)];exact ht
   ·rw [if_neg hc] at ht;rw [if_neg (by simpa using hc)];have e:(hdV hd=.int kk)=([hd].getD 0 none=some (List.headD [kk] 0)):=by
     cases hd with
     | none=>exact absurd rfl hc
     | some x=>simp [hdV]
    have e1:(if hdV hd=V.int kk then (0:Nat) else 1)=(if [hd].getD 0 none=some (List.headD [kk] 0) then 0 else 1):=by simp only [e]
    have e2:(if hdV hd=V.int kk then (0:Int) else 1)=((if [hd].getD 0 none=some (List.headD [kk] 0) then 0 else 1:Nat):Int):=by simp only [e];split <;> rfl
    rw [e1,e2] at ht;generalize (if [hd].getD 0 none=some (List.headD [kk] 0) then 0 else 1)=q at ht ⊢;by_cases hb:bs.getD q false=true
    ·rw [if_pos hb] at ht ⊢;exact ht
    ·rw [if_neg hb] at ht ⊢;exact ht
 | joiner =>
  refine MCal.imp (Q3 T).mono λ vs H Q E h=>?_;obtain ⟨y,hl,fl,⟨wd,ins,outs,pace,kinds⟩,p,hs,bs,t,side,rfl,hK,hw,ok,hh,hf,l1,l2,k⟩:=h;simp only at hw;subst hw;obtain ⟨⟨o,eo⟩,q1,q2⟩:=ok;simp only at eo l1 l2 q1 q2;subst eo;obtain ⟨dx,m1,m2,hy,h1⟩:=hK.joiner
  match bs,l2 with
  | [b],_ =>
   refine ⟨y,dx,m1,m2,hl,fl,_,side,hs.map hdV,iv ins,b,[],rfl,hy,h1,SqL.of hh,SqL.of hf,by rw [length_map,zD];exact l1,by rw [length_map];omega,λ v H' s ht=>k v H' s ?_⟩;rw [zdD,length_map] at ht;simp only [qm];by_cases hc:b=true
   ·rw [if_pos hc] at ht;rw [if_pos (by simpa using hc)];unfold zf1 at ht;rw [Option.map_map];exact ht
   ·rw [if_neg hc] at ht;rw [if_neg (by simpa using hc)];exact ht
abbrev zR:=Option (Int × Int)
def zZ:zR->D
 | none=>.non
 | some (s,n)=>.tup [.int s,.int n]
theorem zdc (x:zR):Hard (zZ x):=by
 cases x with
 | none=>exact .non
 | some x =>
  refine .tup λ i d h=>?_;have:d∈[D.int x.1,D.int x.2]:=mem_of_getElem? h;simp at this;rcases this with rfl|rfl <;> exact .int
structure PSt where
 turn:Int
 cells:List (List zR)
 sides:List Int
 gone:List (List Int)
abbrev zS (cs:List (List zR)):List (List D):=cs.map λ c=>c.map zZ
abbrev qk (gs:List (List Int)):List (List D):=gs.map λ g=>g.map D.int
def stF (st:PSt):List (Str × D):=[("turn",.int st.turn),("cells",.lst ((zS st.cells).map D.lst)),("sides",.ints st.sides),("gone",.lst ((qk st.gone).map D.lst))]
def Zf (a:Ad) (st:PSt):D:=.ob a.State (stF st)
theorem VH (st:PSt):(stF st).lookup ("turn":Str)=some (.int st.turn):=qK
theorem X2 (st:PSt):(stF st).lookup ("cells":Str)=some (.lst ((zS st.cells).map D.lst)):=(zE (by decide +kernel)).trans qK
theorem X1 (st:PSt):(stF st).lookup ("sides":Str)=some (.ints st.sides):=(zE (by decide +kernel)).trans ((zE (by decide +kernel)).trans qK)
theorem VI (st:PSt):(stF st).lookup ("gone":Str)=some (.lst ((qk st.gone).map D.lst)):=(zE (by decide +kernel)).trans ((zE (by decide +kernel)).trans ((zE (by decide +kernel)).trans qK))
def sff (t:Int) (lc ls lg:Addr):List (Str × V):=[(("turn":Str),V.int t),(("cells":Str),V.ref lc),(("sides":Str),V.ref ls),(("gone":Str),V.ref lg)]
theorem zhC {t:Int}:z7 "turn" (.int t) []=([(("turn":Str),V.int t)]:List (Str × V)):=rfl
theorem zhB {t:Int} {lc:Addr}:z7 "cells" (.ref lc) [(("turn":Str),V.int t)]=([(("turn":Str),V.int t),(("cells":Str),V.ref lc)]:List (Str × V)):=by
 simp only [z7];rw [if_neg (by decide +kernel)]
theorem zhA {t:Int} {lc ls:Addr}:z7 "sides" (.ref ls) [(("turn":Str),V.int t),(("cells":Str),V.ref lc)]=([(("turn":Str),V.int t),(("cells":Str),V.ref lc),(("sides":Str),V.ref ls)]:List (Str × V)):=by
 simp only [z7];rw [if_neg (by decide +kernel),if_neg (by decide +kernel)]
theorem zhz {t:Int} {lc ls lg:Addr}:z7 "gone" (.ref lg) [(("turn":Str),V.int t),(("cells":Str),V.ref lc),(("sides":Str),V.ref ls)]=sff t lc ls lg:=by
 unfold sff;simp only [z7];rw [if_neg (by decide +kernel),if_neg (by decide +kernel),if_neg (by decide +kernel)]
structure SN where
 dx:Addr
 lc:Addr
 ls:Addr
 lg:Addr
 acs:List Addr
 ags:List Addr
def SN.all (n:SN):List Addr:=n.ls :: n.lc :: n.lg :: (n.acs ++ n.ags)
structure StO (a:Ad) (H:Hp) (y:Addr) (n:SN) (st:PSt):Prop where
 hy:H y=some (.ins a.State n.dx (sff st.turn n.lc n.ls n.lg))
 hc:NL H (zN H) n.lc n.acs (zS st.cells)
 hs:H n.ls=some (.lst (iv st.sides))
 hg:NL H (zN H) n.lg n.ags (qk st.gone)
 nd:n.all.Nodup
theorem StO.rep {H:Hp} {y:Addr} {n:SN} {st:PSt} (h:StO a H y n st):Rep H (Off []) (.ref y) (Zf a st) :=
 wc (λ z=>nomatch z) h.hy rfl (.cons .int (.cons h.hc.rep (.cons (qa (λ z=>nomatch z) h.hs) (.cons h.hg.rep .nil))))
theorem StO.same {H H':Hp} {y:Addr} {n:SN} {st:PSt} (h:StO a H y n st) (s:Same H H'):StO a H' y n st :=
 ⟨s _ _ h.hy,h.hc.keep (λ b o _ hb=>s b o hb) (λ b ⟨xs,hx⟩ _=>⟨xs,s _ _ hx⟩),s _ _ h.hs,h.hg.keep (λ b o _ hb=>s b o hb) (λ b ⟨xs,hx⟩ _=>⟨xs,s _ _ hx⟩),h.nd⟩
def wD (a:Ad):Sp:=λ vs H Q _=>∃ (y dx:Addr) (vc vs' vg:V) (st:PSt) (p:Addr->Prop),vs=[.ref y,.int st.turn,vc,vs',vg]/\H y=some (.ins a.State dx [])/\(∀ b,p b->b≠y) /\
 Rep H p vc (.lst ((zS st.cells).map D.lst))/\Rep H p vs' (.ints st.sides)/\Rep H p vg (.lst ((qk st.gone).map D.lst))/\st.cells.length<=100/\st.gone.length<=100 /\
 ∀ H' n,n.dx=dx->Own H H' y->StO a H' y n st->(∀ b∈n.all,H b=none)->Q .non H'
theorem V0 {H:Hp} {p:Addr->Prop} {vs:List V} {ds:List D} (h:Reps H p vs ds) (hd:∀ d∈ds,Hard d):Reps H (zN H) vs ds :=
 ⟨h.len,λ i v d e1 e2=>(h.g i v d e1 e2).hard (hd d (mem_of_getElem? e2)) λ b xs _ hb=>⟨xs,hb⟩⟩
theorem zbC (c:List zR):∀ d∈c.map zZ,Hard d:=λ d hd=>by
 obtain ⟨x,_,rfl⟩:=List.mem_map.mp hd;exact zdc x
theorem zdd (c:List Int):∀ d∈c.map D.int,Hard d:=λ d hd=>by
 obtain ⟨x,_,rfl⟩:=List.mem_map.mp hd;exact .int
theorem XM (T:Txt K mg a) (F:Fun K "__init__" "State.__init__" qO f fd):FnOk P w K mg base (CXr P w) 1 f fd ["self","turn","cells","sides","gone"] (wD a):=by
 refine F.okx Xy ?_ ?_
 ·walk_at "i"
 walk_at "j";obtain ⟨y,dx,vc,vs',vg,st,p,rfl,hy,hp,rc,rs,rg,lc,lg,k⟩:=h;obtain ⟨c0,ucs,rfl,pc0,hc0,rcs⟩:=rc.lst';obtain ⟨s0,rfl,ps0,hs0⟩:=rs.ints';have hs0:H s0=some (.lst (iv st.sides)):=hs0;obtain ⟨g0,ugs,rfl,pg0,hg0,rgs⟩:=rg.lst';have lcs:ucs.length=st.cells.length:=by rw [rcs.len,length_map,length_map]
 have lgs:ugs.length=st.gone.length:=by rw [rgs.len,length_map,length_map]
 walk_at "T";refine ⟨_,(zi (jv (pq 0) (pq 1) rfl)  (zi (jv (pq 0) (xj (vars:=["belt_cells"]) (caps:=[]) (N:=["belt_cells"]) (ON:=["self","turn","cells","sides","gone"]) (osc:=ze qO) rfl rfl (by first|decide +kernel|kernel_rfl) rfl rfl (qd (pq 2)) (λ s H fp pins=>(qr 0 (show (["belt_cells"]:List Str).Nodup from by decide +kernel))) (λ s H fp pins=>z8) (λ s H fp pins=>(wL vy wt (za (pq 0) zc)))) rfl)  (zi (jv (pq 0) (wL vy wt (za (pq 3) zc)) rfl)  (zg (jv (pq 0) (xj (vars:=["counts"]) (caps:=[]) (N:=["counts"]) (ON:=["self","turn","cells","sides","gone"]) (osc:=ze qO) rfl rfl (by first|decide +kernel|kernel_rfl) rfl rfl (qd (pq 4)) (λ s H fp pins=>(qr 0 (show (["counts"]:List Str).Nodup from by decide +kernel))) (λ s H fp pins=>z8) (λ s H fp pins=>(wL vy wt (za (pq 0) zc)))) rfl))))),?_⟩;walk_at "go";refine ⟨y,a.State,dx,[],rfl,hy,T.C_State,T.N_State_turn,by decide,?_⟩;rw [zhC];have o1:Own H (upd H y (.ins a.State dx [(("turn":Str),V.int st.turn)])) y:=je;have y1:upd H y (.ins a.State dx [(("turn":Str),V.int st.turn)]) y=some (.ins a.State dx [(("turn":Str),V.int st.turn)]):=upd_same;generalize upd H y (.ins a.State dx [(("turn":Str),V.int st.turn)])=H1 at o1 y1 ⊢;have kp:∀ b,zN H b->H b≠none->b≠y:=λ b ⟨xs,hx⟩ _ z=>by rw [z,hy] at hx;cases hx
 walk_at "lc";walk_at "go";refine ⟨c0,rfl,.inl ⟨⟨_,SqL.of (o1 _ _ (hp _ pc0) hc0)⟩,λ _ _ _ _ acc hacc=>?_⟩⟩;let M1_:Nat->St->Hp->Prop:=λ i σ H'=>∃ (v0:Option V) (as:List Addr),σ=[v0]/\Same H1 H'/\NL H' (zN H) acc as (zS (st.cells.take i))/\∀ b∈as,H1 b=none;refine qR (K:=K) (a:=c0) (xs:=ucs) M1_ ⟨_,[],rfl,zf hacc,by rw [take_zero];exact zbp upd_same,by simp⟩ (λ i σ H' _ h=>by obtain ⟨_,_,_,s,_⟩:=h;exact SqL.of (s _ _ (o1 _ _ (hp _ pc0) hc0))) ?_ ?_
 ·rintro i x σ H2 hi ⟨v0,as,rfl,s2,nl,fr⟩;obtain ⟨d,hd,rx⟩:=rcs.at hi;rw [getElem?_map,getElem?_map] at hd;obtain ⟨c,hc⟩:∃ c,st.cells[i]?=some c:=by
   cases e:st.cells[i]? with
   | none=>rw [e] at hd;cases hd
   | some c=>exact ⟨c,rfl⟩
  rw [hc] at hd;cases hd;obtain ⟨li,vi,rfl,pli,hli,ri⟩:=Rep.lst' rx;have hil:=(List.getElem?_eq_some_iff.mp hc).1;have hli2:=s2 _ _ (o1 _ _ (hp _ pli) hli);walk_at "go";refine ⟨li,_,rfl,.inl (SqL.of hli2),λ b hb=>?_⟩;have nb:b ∉ as:=λ z=>by
   obtain ⟨j,hj⟩:=getElem?_of_mem z;obtain ⟨vs,h1,_⟩:=nl.g j b _ hj (getElem?_eq_getElem (by rw [<- nl.len];exact (List.getElem?_eq_some_iff.mp hj).1));rw [h1] at hb;cases hb
  have nG:b≠acc:=λ z=>by rw [z,nl.out] at hb;cases hb
  have s3:Same H2 (upd H2 b (.lst vi)):=zf hb;have ac3:=upd_keep (o:=.lst vi) nl.out hb;refine ⟨_,ac3,zj (by rw [length_map,nl.len,length_map,length_take];omega),?_⟩;have ri3:Reps (upd H2 b (.lst vi)) (zN H) vi (c.map zZ):=(V0 ri (zbC c)).keep λ z o pz hz=>⟨pz,s3 _ _ (s2 _ _ (o1 _ _ (kp z pz (by rw [hz];intro q;cases q)) hz))⟩;have nl3:=(nl.same s3).push (b:=b) (vs:=vi) (ys:=c.map zZ) upd_same nb nG (λ ⟨xs,hx⟩=>by
   have:=o1 _ _ (kp acc ⟨xs,hx⟩ (by rw [hx];intro q;cases q)) hx;rw [hacc] at this;cases this) ri3
  refine ⟨_,as ++ [b],rfl,?_,?_,?_⟩
  ·exact λ z o hz=>by rw [upd_ne (ne_of_none hz hacc)];exact s3 _ _ (s2 _ _ hz)
  ·rw [take_add_one,hc];rw [show zS (st.cells.take i ++ (some c).toList)=zS (st.cells.take i) ++ [c.map zZ] by simp [zS]];exact nl3
  ·intro z hz;rcases List.mem_append.mp hz with hz|hz
   ·exact fr z hz
   ·rw [List.mem_singleton.mp hz];exact zA s2 hb
 rintro σ H2 ⟨v0,acs,rfl,s2,nlc,frc⟩;rw [lcs,take_length] at nlc;have y2:=s2 _ _ y1;walk_at "go";refine ⟨y,a.State,dx,_,rfl,y2,T.C_State,T.N_State_cells,by simp,?_⟩;rw [zhB];have nay:acc≠y:=λ z=>by rw [z,y1] at hacc;cases hacc
 have hx0:∀ {z:Addr},H1 z=none->z≠y/\H z=none:=λ {z} hz=>by
  have n1:z≠y:=λ q=>by rw [q,y1] at hz;cases hz
  refine ⟨n1,?_⟩;cases e:H z with
  | none=>rfl
  | some o=>rw [o1 z o n1 e] at hz;cases hz
 have o3:Own H (upd H2 y (.ins a.State dx [(("turn":Str),V.int st.turn),(("cells":Str),V.ref acc)])) y:=(o1.trans (Same.own s2)).trans je;have y3:upd H2 y (.ins a.State dx [(("turn":Str),V.int st.turn),(("cells":Str),V.ref acc)]) y=some (.ins a.State dx [(("turn":Str),V.int st.turn),(("cells":Str),V.ref acc)]):=upd_same;have nl3:NL (upd H2 y (.ins a.State dx [(("turn":Str),V.int st.turn),(("cells":Str),V.ref acc)])) (zN H) acc acs (zS st.cells):=nlc.keep (λ z o hz ho=>by
  refine (upd_ne (λ q=>?_)).trans ho;rcases hz with h|h|h
  ·exact nay (h.symm.trans q)
  ·exact (hx0 (frc z h)).1 q
  ·obtain ⟨xs,hx⟩:=h;rw [q,hy] at hx;cases hx) λ _ hp _=>hp
 generalize upd H2 y (.ins a.State dx [(("turn":Str),V.int st.turn),(("cells":Str),V.ref acc)])=H3 at o3 y3 nl3 ⊢;walk_at "go";refine ⟨s0,_,rfl,.inl (SqL.of (o3 _ _ (hp _ ps0) hs0)),λ ls hls=>?_⟩;walk_at "go";have y4:=upd_keep (o:=.lst (iv st.sides)) y3 hls;refine ⟨y,a.State,dx,_,rfl,y4,T.C_State,T.N_State_sides,by simp,?_⟩;rw [zhA];have nlsy:ls≠y:=λ z=>by rw [z,y3] at hls;cases hls
 have hls0:H ls=none:=by
  cases e:H ls with
  | none=>rfl
  | some o=>rw [o3 ls o nlsy e] at hls;cases hls
 have o5:Own H (upd (upd H3 ls (.lst (iv st.sides))) y (.ins a.State dx [(("turn":Str),V.int st.turn),(("cells":Str),V.ref acc),(("sides":Str),V.ref ls)])) y:=(o3.trans (Same.own (zf hls))).trans je;have y5:upd (upd H3 ls (.lst (iv st.sides))) y (.ins a.State dx [(("turn":Str),V.int st.turn),(("cells":Str),V.ref acc),(("sides":Str),V.ref ls)]) y=some (.ins a.State dx [(("turn":Str),V.int st.turn),(("cells":Str),V.ref acc),(("sides":Str),V.ref ls)]):=upd_same;have nl5:NL (upd (upd H3 ls (.lst (iv st.sides))) y (.ins a.State dx [(("turn":Str),V.int st.turn),(("cells":Str),V.ref acc),(("sides":Str),V.ref ls)])) (zN H) acc acs (zS st.cells):=nl3.keep (λ z o hz ho=>by
  refine (upd_ne (λ q=>?_)).trans (upd_keep ho hls);rcases hz with h|h|h
  ·exact nay (h.symm.trans q)
  ·exact (hx0 (frc z h)).1 q
  ·obtain ⟨xs,hx⟩:=h;rw [q,hy] at hx;cases hx) λ _ hp _=>hp
 have ls5:upd (upd H3 ls (.lst (iv st.sides))) y (.ins a.State dx [(("turn":Str),V.int st.turn),(("cells":Str),V.ref acc),(("sides":Str),V.ref ls)]) ls=some (.lst (iv st.sides)):=by rw [upd_ne nlsy];exact upd_same
 have nlsa:ls ∉ acc :: acs:=λ z=>by
  rcases List.mem_cons.mp z with h|h
  ·rw [h,nl3.out] at hls;cases hls
  ·obtain ⟨j,hj⟩:=getElem?_of_mem h;obtain ⟨vs,h1,_⟩:=nl3.g j ls _ hj (getElem?_eq_getElem (by rw [<- nl3.len];exact (List.getElem?_eq_some_iff.mp hj).1));rw [h1] at hls;cases hls
 generalize upd (upd H3 ls (.lst (iv st.sides))) y (.ins a.State dx [(("turn":Str),V.int st.turn),(("cells":Str),V.ref acc),(("sides":Str),V.ref ls)])=H5 at o5 y5 nl5 ls5 ⊢;clear nl3 o3 y3 hls y4;walk_at "lc";walk_at "go";refine ⟨g0,rfl,.inl ⟨⟨_,SqL.of (o5 _ _ (hp _ pg0) hg0)⟩,λ _ _ _ _ ag hag=>?_⟩⟩;let M2_:Nat->St->Hp->Prop:=λ i σ H'=>∃ (v0:Option V) (as:List Addr),σ=[v0]/\Same H5 H'/\NL H' (zN H) ag as (qk (st.gone.take i))/\∀ b∈as,H5 b=none;refine qR (K:=K) (a:=g0) (xs:=ugs) M2_ ⟨_,[],rfl,zf hag,by rw [take_zero];exact zbp upd_same,by simp⟩ (λ i σ H' _ h=>by obtain ⟨_,_,_,s,_⟩:=h;exact SqL.of (s _ _ (o5 _ _ (hp _ pg0) hg0))) ?_ ?_
 ·rintro i x σ H2 hi ⟨v0,as,rfl,s2,nl,fr⟩;obtain ⟨d,hd,rx⟩:=rgs.at hi;rw [getElem?_map,getElem?_map] at hd;obtain ⟨c,hc⟩:∃ c,st.gone[i]?=some c:=by
   cases e:st.gone[i]? with
   | none=>rw [e] at hd;cases hd
   | some c=>exact ⟨c,rfl⟩
  rw [hc] at hd;cases hd;obtain ⟨li,vi,rfl,pli,hli,ri⟩:=Rep.lst' rx;have hil:=(List.getElem?_eq_some_iff.mp hc).1;have hli2:=s2 _ _ (o5 _ _ (hp _ pli) hli);walk_at "go";refine ⟨li,_,rfl,.inl (SqL.of hli2),λ b hb=>?_⟩;have nb:b ∉ as:=λ z=>by
   obtain ⟨j,hj⟩:=getElem?_of_mem z;obtain ⟨vs,h1,_⟩:=nl.g j b _ hj (getElem?_eq_getElem (by rw [<- nl.len];exact (List.getElem?_eq_some_iff.mp hj).1));rw [h1] at hb;cases hb
  have nG:b≠ag:=λ z=>by rw [z,nl.out] at hb;cases hb
  have s3:Same H2 (upd H2 b (.lst vi)):=zf hb;have ac3:=upd_keep (o:=.lst vi) nl.out hb;refine ⟨_,ac3,zj (by rw [length_map,nl.len,length_map,length_take];omega),?_⟩;have ri3:Reps (upd H2 b (.lst vi)) (zN H) vi (c.map D.int):=(V0 ri (zdd c)).keep λ z o pz hz=>⟨pz,s3 _ _ (s2 _ _ (o5 _ _ (kp z pz (by rw [hz];intro q;cases q)) hz))⟩;have nl3:=(nl.same s3).push (b:=b) (vs:=vi) (ys:=c.map D.int) upd_same nb nG (λ ⟨xs,hx⟩=>by
   have:=o5 _ _ (kp ag ⟨xs,hx⟩ (by rw [hx];intro q;cases q)) hx;rw [hag] at this;cases this) ri3
  refine ⟨_,as ++ [b],rfl,?_,?_,?_⟩
  ·exact λ z o hz=>by rw [upd_ne (ne_of_none hz hag)];exact s3 _ _ (s2 _ _ hz)
  ·rw [take_add_one,hc];rw [show qk (st.gone.take i ++ (some c).toList)=qk (st.gone.take i) ++ [c.map D.int] by simp [qk]];exact nl3
  ·intro z hz;rcases List.mem_append.mp hz with hz|hz
   ·exact fr z hz
   ·rw [List.mem_singleton.mp hz];exact zA s2 hb
 rintro σ H6 ⟨v0',ags,rfl,s6,nlg,frg⟩;rw [lgs,take_length] at nlg;have y6:=s6 _ _ y5;walk_at "go";refine ⟨y,a.State,dx,_,rfl,y6,T.C_State,T.N_State_gone,by simp,?_⟩;rw [zhz];have hx5:∀ {z:Addr},H5 z=none->z≠y/\H z=none:=λ {z} hz=>by
  have n1:z≠y:=λ q=>by rw [q,y5] at hz;cases hz
  refine ⟨n1,?_⟩;cases e:H z with
  | none=>rfl
  | some o=>rw [o5 z o n1 e] at hz;cases hz
 have ngy:=(hx5 hag).1;have o7:Own H (upd H6 y (.ins a.State dx (sff st.turn acc ls ag))) y:=(o5.trans (Same.own s6)).trans je;have tp:∀ b,zN H b->H b≠none->zN (upd H6 y (.ins a.State dx (sff st.turn acc ls ag))) b:=λ b ⟨xs,hx⟩ hn=>⟨xs,o7 _ _ (kp b ⟨xs,hx⟩ hn) hx⟩;have inA:∀ z,z∈acc :: acs->∃ o,H5 z=some o:=λ z hz=>by
  rcases List.mem_cons.mp hz with h|h
  ·exact ⟨_,h ▸ nl5.out⟩
  ·obtain ⟨j,hj⟩:=getElem?_of_mem h;obtain ⟨vs,h1,_⟩:=nl5.g j z _ hj (getElem?_eq_getElem (by rw [<- nl5.len];exact (List.getElem?_eq_some_iff.mp hj).1));exact ⟨_,h1⟩
 refine k _ ⟨dx,acc,ls,ag,acs,ags⟩ rfl o7 ⟨upd_same,?_,?_,?_,?_⟩ ?_
 ·exact (nl5.same s6).keep (λ z o hz ho=>by
   refine (upd_ne (λ q=>?_)).trans ho;rcases hz with h|h|h
   ·exact nay (h.symm.trans q)
   ·exact (hx0 (frc z h)).1 q
   ·obtain ⟨xs,hx⟩:=h;rw [q,hy] at hx;cases hx) λ b hb hn=>by
    obtain ⟨xs,hx⟩:=hb;exact tp b ⟨xs,hx⟩ (by rw [hx];intro q;cases q)
 ·show upd H6 y _ ls=_
  rw [upd_ne nlsy];exact s6 _ _ ls5
 ·exact nlg.keep (λ z o hz ho=>by
   refine (upd_ne (λ q=>?_)).trans ho;rcases hz with h|h|h
   ·exact ngy (h.symm.trans q)
   ·exact (hx5 (frg z h)).1 q
   ·obtain ⟨xs,hx⟩:=h;rw [q,hy] at hx;cases hx) λ b hb hn=>by
    obtain ⟨xs,hx⟩:=hb;exact tp b ⟨xs,hx⟩ (by rw [hx];intro q;cases q)
 ·show (ls :: acc :: ag :: (acs ++ ags)).Nodup
  have ls5':∀ z,H5 z=none->z≠ls:=λ z hz q=>by rw [q,ls5] at hz;cases hz
  rw [nodup_cons,nodup_cons,nodup_cons];refine ⟨λ z=>?_,λ z=>?_,λ z=>?_,?_⟩
  ·rcases List.mem_cons.mp z with h|z
   ·exact nlsa (h ▸ mem_cons_self ..)
   rcases List.mem_cons.mp z with h|z
   ·exact ls5' ag hag h.symm
   rcases List.mem_append.mp z with z|z
   ·exact nlsa (mem_cons_of_mem _ z)
   ·exact ls5' ls (frg ls z) rfl
  ·rcases List.mem_cons.mp z with h|z
   ·rw [<- h,nl5.out] at hag;cases hag
   rcases List.mem_append.mp z with z|z
   ·exact nl5.nG z
   ·have:=frg acc z;rw [nl5.out] at this;cases this
  ·rcases List.mem_append.mp z with z|z
   ·obtain ⟨o,ho⟩:=inA ag (mem_cons_of_mem _ z);rw [hag] at ho;cases ho
   ·exact nlg.nG z
  ·rw [nodup_append];refine ⟨nl5.nd,nlg.nd,λ u hu v hv q=>?_⟩;subst q;obtain ⟨o,ho⟩:=inA u (mem_cons_of_mem _ hu);rw [frg u hv] at ho;cases ho
 ·intro b hb;rcases List.mem_cons.mp hb with rfl|hb
  ·exact hls0
  rcases List.mem_cons.mp hb with rfl|hb
  ·exact (hx0 hacc).2
  rcases List.mem_cons.mp hb with rfl|hb
  ·exact (hx5 hag).2
  rcases List.mem_append.mp hb with hb|hb
  ·exact (hx0 (frc b hb)).2
  ·exact (hx5 (frg b hb)).2
theorem zb9 (T:Txt K mg a):KCal P w K mg base "State" a.State 1 ["self","turn","cells","sides","gone"] [] (wD a):=T.h_State_init.cal T.g_State (XM T)
theorem jo {H:Hp} {p:Addr->Prop} {v:V} {bs:List (Int × Int)} {rs:List Row} (h:Rep H p v (zX a bs rs)):∃ y dx fs l1 l2 bvs kvs,v=.ref y/\H y=some (.ins a.Work dx fs)/\fs.lookup ("belts":Str)=some (.ref l1)/\fs.lookup ("knots":Str)=some (.ref l2) /\
  H l1=some (.lst bvs)/\H l2=some (.lst kvs)/\Bts a H p bvs bs/\Kns a H p kvs rs/\∀ f:Str,f≠"belts"->f≠"knots"->fs.lookup f=none:=by
 obtain ⟨y,dx,fs,rfl,py,hy,g1,g2⟩:=Rep.ob' h;obtain ⟨u1,e1,r1⟩:=g1 _ _ VA;obtain ⟨u2,e2,r2⟩:=g1 _ _ zdA;obtain ⟨l1,bvs,rfl,_,h1,b1⟩:=r1.lst';obtain ⟨l2,kvs,rfl,_,h2,b2⟩:=r2.lst';exact ⟨y,dx,fs,l1,l2,bvs,kvs,rfl,hy,e1,e2,h1,h2,.of b1,.of b2,λ f n1 n2=>g2 f (zgV n1 n2)⟩
def Xb (ks:List Int) (n:Int):Int:=ks.getD (n % (ks.length:Int)).toNat 0
theorem zc6 {ks:List Int} (n:Int) (h:0 < ks.length):atI (iv ks) (n % (ks.length:Int))=some (.int (Xb ks n)):=by
 have h0:=Int.emod_nonneg n (show (ks.length:Int)≠0 by omega);have h1:=Int.emod_lt_of_pos n (show (0:Int) < ks.length by omega);unfold Xb;generalize n % (ks.length:Int)=m at h0 h1 ⊢;have hlt:m.toNat < ks.length:=by omega
 have e:m=(m.toNat:Int):=by omega
 have:=zJ (xI (getElem?_eq_getElem hlt));rw [<- e] at this;rw [this];simp [hlt]
theorem VC {H:Hp} {p:Addr->Prop} {v:V} {s n:Int} (h:Rep H p v (.tup [.int s,.int n])):∃ t,v=.ref t/\H t=some (.tup [.int s,.int n]):=wM (b:=(s,n)) h
theorem Vh {H:Hp} {p:Addr->Prop} {kvs:List V} {rs:List Row} {j:Nat} {r:Row} (hK:Kns a H p kvs rs) (h:rs[j]?=some r):∃ kv,kvs[j]?=some kv/\KnP a H p kv r:=by
 have hj:=(List.getElem?_eq_some_iff.mp h).1;have e:kvs[j]?=some (kvs[j]'(by rw [hK.len];exact hj)):=getElem?_eq_getElem _;exact ⟨_,e,hK.g j _ r e h⟩
def VM (a:Ad):Sp:=λ vs H Q _=>∃ (v vwr:V) (bs:List (Int × Int)) (rs:List Row) (p q:Addr->Prop) (s:Nat) (n:Int) (r:Row),vs=[v,vwr]/\Rep H p v (zX a bs rs)/\Rep H q vwr (.tup [.int s,.int n])/\rs[s]?=some r/\r.wd=.source/\0 < r.kinds.length/\Q (.int (Xb r.kinds n)) H
theorem zbf (T:Txt K mg a) (F:Fun K "kind_of" "kind_of" w6 f fd):FnOk P w K mg base (CXr P w) 1 f fd ["work","ware"] (VM a):=by
 refine F.okx zaT ?_ ?_
 ·walk_at "i"
 walk_at "j";obtain ⟨v,vwr,bs,rs,p,q,sc,n,r,rfl,hv,hw,hr',hs,hk,k⟩:=h;obtain ⟨y,dx,fs,l1,l2,bvs,kvs,rfl,hy,e1,e2,h1,h2,hB,hK,no⟩:=jo hv;obtain ⟨t,rfl,ht⟩:=VC hw;obtain ⟨kv,hkv,hKn⟩:=Vh hK hr';obtain ⟨y1,dx1,m1,m2,m3,fs1,rfl,_,_,_,_,g0,_,_,_,_,_,g3,_⟩:=hKn.inv;obtain ⟨g3a,g3b⟩:=g3 hs;walk_at "T";refine ⟨_,(zh (zo 2 zaT.nd (zl (zv (zl (pq 0) rfl) (zv (pq 1) zd)) rfl))  (zg (zk (zv (pq 2) (zH jw (zv (pq 1) zd) (zQ zV zU (za (pq 2) zc))))))),?_⟩;walk_at "go";refine ra hy T.C_Work T.N_Work_knots e2 (rd_ixT ht at0 (zt (SqL.of h2) (zJ hkv) ?_));refine ⟨y1,wo a r.wd,dx1,fs1,_,rfl,g0,CT T _,by rw [hs];exact T.N_Source_kinds,g3a,?_⟩;walk_at "go";refine rd_ixT ht rfl ?_;walk_at "go";refine ⟨_,.inl ⟨_,SqL.of g3b,rfl⟩,?_⟩;rw [zD];walk_at "go";exact ⟨by omega,zt (SqL.of g3b) (zc6 n hk) k⟩
theorem Wn (T:Txt K mg a):Cal P w K mg base "kind_of" 1 ["work","ware"] [] (VM a):=T.h_kind_of.cal (zbf T)
def qv (r:Row):List Int:=List.replicate (max r.ins.length r.outs.length) 0
theorem zgd {α:Type} (n:Nat) (x:α):(List.replicate n [x]).flatten=List.replicate n x:=by
 induction n with
 | zero=>rfl
 | succ n ih=>rw [replicate_succ,flatten_cons,ih];rfl
theorem zes (n:Nat) (x:Int):List.replicate n (V.int x)=iv (List.replicate n x):=by simp [iv]
theorem zgw (m n:Nat):(if (n:Int) > (m:Int) then (n:Int) else (m:Int))=((max m n:Nat):Int):=by
 by_cases h:(n:Int) > (m:Int)
 ·rw [if_pos h];omega
 ·rw [if_neg h];omega
theorem wJ {r:Row} (h:r.ok):r.ins.length<=4/\r.outs.length<=4:=by
 obtain ⟨wd,ins,outs,pc,ks⟩:=r;cases wd
 ·obtain ⟨h1,⟨o,h2⟩,_⟩:=h;simp only at h1 h2;subst h1 h2;simp
 ·obtain ⟨⟨o,h1⟩,h2,_⟩:=h;simp only at h1 h2;subst h1 h2;simp
 ·obtain ⟨⟨o,h1⟩,_,h2⟩:=h;simp only at h1 h2;subst h1;exact ⟨by simp,h2⟩
 ·obtain ⟨⟨o,h1⟩,_,h2⟩:=h;simp only at h1 h2;subst h1;exact ⟨by simp,h2⟩
 ·obtain ⟨⟨o,h1⟩,h2,_⟩:=h;simp only at h1 h2;subst h1;exact ⟨by simp,by show outs.length<=4;omega⟩
 ·obtain ⟨⟨o,h1⟩,_,h2⟩:=h;simp only at h1 h2;subst h1;exact ⟨h2,by simp⟩
def zcv (a:Ad) (H H':Hp) (v:V) (st:PSt):Prop:=∃ y n,v=.ref y/\StO a H' y n st/\H y=none/\H n.dx=none/\∀ b∈n.all,H b=none
theorem zan (T:Txt K mg a) {H:Hp} {st:PSt} {vc vs' vg:V} {Q:Addr->Hp->Prop} {E:XK} {p:Addr->Prop} (rc:Rep H p vc (.lst ((zS st.cells).map D.lst))) (rs:Rep H p vs' (.ints st.sides)) (rg:Rep H p vg (.lst ((qk st.gone).map D.lst))) (lc:st.cells.length<=100) (lg:st.gone.length<=100)
  (k:∀ y H',Same H H'->zcv a H H' (.ref y) st->Q y H'):∀ (x dx:Addr),H x=none->H dx=none->dx≠x->wD a [.ref x,.int st.turn,vc,vs',vg] (upd (upd H dx (.own x)) x (.ins a.State dx [])) (λ v H2=>v=.non/\Q x H2) E:=by
 intro y dy hy hdy hne;have kp:∀ b o,p b->H b=some o->b≠y/\upd (upd H dy (.own y)) y (.ins a.State dy []) b=some o:=λ b o _ hb=>⟨ne_of_none hb hy,qe hy hdy hb⟩;refine ⟨y,dy,vc,vs',vg,st,λ b=>b≠y,rfl,upd_same,λ _ h=>h,rc.keep kp,rs.keep kp,rg.keep kp,lc,lg,λ H' n en o so fr=>⟨rfl,?_⟩⟩;exact k _ _ (Own.of_new hy hdy o) ⟨y,n,rfl,so,hy,by rw [en];exact hdy,λ b hb=>zB (fr b hb)⟩
def Js (a:Ad):Sp:=λ vs H Q _=>∃ (v:V) (r:Row) (p:Addr->Prop),vs=[v]/\KnP a H p v r/\r.ins.length<=100/\r.outs.length<=100/\∀ q H',Same H H'->H q=none->H' q=some (.lst (iv (qv r)))->Q (.ref q) H'
theorem WY (T:Txt K mg a) (F:Fun K "no_counts" "no_counts" xu f fd):FnOk P w K mg base (CXr P w) 1 f fd ["knot"] (Js a):=by
 refine F.okx WG ?_ ?_
 ·walk_at "i"
 walk_at "j";obtain ⟨v,r,p,rfl,hKn,l1,l2,k⟩:=h;obtain ⟨y1,dx1,m1,m2,m3,fs1,rfl,_,_,_,_,g0,f1,f2,_,g1,g2,g3,_⟩:=hKn.inv;walk_at "T";refine ⟨_,(zg (zk (zH zbb (zz (za zd zc)) (zQ (zdm rfl) zeR (za (zQ zV zU (za (zl (pq 0) rfl) zc)) (za (zQ zV zU (za (zl (pq 0) rfl) zc)) zc)))))),?_⟩;walk_at "go";intro q hq;have sq:=zf (o:=.lst [V.int 0]) hq;refine ⟨m_max,m_len,?_⟩;refine ra (sq _ _ g0) (CT T _) (NI T _) f1 ⟨_,.inl ⟨_,SqL.of (sq _ _ g1),rfl⟩,?_⟩;refine ⟨m_len,?_⟩;refine ra (sq _ _ g0) (CT T _) (NO T _) f2 ⟨_,.inl ⟨_,SqL.of (sq _ _ g2),rfl⟩,?_⟩;rw [zD,zD];refine ⟨_,_,rfl,?_⟩;rw [zgw];refine ⟨q,_,_,rfl,rfl,upd_same,by omega,by omega,?_,λ q2 hq2=>?_⟩
 ·refine xr ?_;simp;omega
 ·rw [zgd,Int.toNat_natCast,zes];exact k q2 _ (sq.trans (zf hq2)) (zA sq hq2) upd_same
theorem zaG (T:Txt K mg a):Cal P w K mg base "no_counts" 1 ["knot"] [] (Js a):=T.h_no_counts.cal (WY T)
def qA (bs:List (Int × Int)) (rs:List Row):PSt:=⟨0,bs.map λ b=>List.replicate b.1.toNat none,List.replicate rs.length 0,rs.map qv⟩
def zbZ (a:Ad):Sp:=λ vs H Q _=>∃ (v:V) (bs:List (Int × Int)) (rs:List Row) (p:Addr->Prop),vs=[v]/\Rep H p v (zX a bs rs)/\bs.length<=24/\rs.length<=24/\(∀ b∈bs,zu b.1 b.2)/\(∀ r∈rs,r.ok)/\∀ v' H',Same H H'->zcv a H H' v' (qA bs rs)->Q v' H'
theorem JR (T:Txt K mg a) (F:Fun K "empty_state" "empty_state" qC f fd):FnOk P w K mg base (CXr P w) 3 f fd ["work"] (zbZ a):=by
 refine F.okx JC ?_ ?_
 ·walk_at "i"
 walk_at "j";obtain ⟨v,bs,rs,p,rfl,hv,lb,lr,bo,ro,k⟩:=h;obtain ⟨y,dx,fs,l1,l2,bvs,kvs,rfl,hy,e1,e2,h1,h2,hB,hK,no⟩:=jo hv;walk_at "T";refine ⟨_,(zi (JJ (i:=1) JC.nd rfl (Or.inl rfl) (vars:=["belt"]) (caps:=[]) (N:=["belt"]) (ON:=["work","cells","sides"]) (osc:=ze qC) rfl rfl (by first|decide +kernel|kernel_rfl) rfl rfl (qd (zl (pq 0) rfl)) (λ s H fp pins=>(qr 0 (show (["belt"]:List Str).Nodup from by decide +kernel))) (λ s H fp pins=>z8) (λ s H fp pins=>(zH zbb (zz (za zy zc)) (zl (pq 0) rfl))))  (zi (zo 2 JC.nd (zH zbb (zz (za zd zc)) (zQ zV zU (za (zl (pq 0) rfl) zc))))  (zg (zk (zW (x:="State") ⟨rfl,rfl,rfl⟩ hr (za zd (za (pq 1) (za (pq 2) (za (xj (vars:=["knot"]) (caps:=[]) (N:=["knot"]) (ON:=["work","cells","sides"]) (osc:=ze qC) rfl rfl (by first|decide +kernel|kernel_rfl) rfl rfl (qd (zl (pq 0) rfl)) (λ s H fp pins=>(qr 0 (show (["knot"]:List Str).Nodup from by decide +kernel))) (λ s H fp pins=>z8) (λ s H fp pins=>(vX hr (za (pq 0) zc)))) zc))))))))),?_⟩;walk_at "go";walk_at "lc";walk_at "go";refine ra hy T.C_Work T.N_Work_belts e1 ⟨l1,rfl,.inl ⟨⟨_,SqL.of h1⟩,λ _ _ _ _ acc hacc=>?_⟩⟩;let M1_:Nat->St->Hp->Prop:=λ i σ H'=>∃ (v0:Option V) (us:List V),σ=[v0]/\Same H H'/\H' acc=some (.lst us)/\Reps H' (Off [acc]) us ((bs.take i).map λ b=>D.lst (List.replicate b.1.toNat .non));refine qR (K:=K) (a:=l1) (xs:=bvs) M1_ ⟨_,[],rfl,zf hacc,upd_same,by rw [take_zero];exact .nil⟩ (λ i σ H' _ h=>by obtain ⟨_,_,_,s,_⟩:=h;exact SqL.of (s _ _ h1)) ?_ ?_
 ·rintro i x σ H2 hi ⟨v0,us,rfl,s2,ha,ru⟩;obtain ⟨b,hb',hBt⟩:=hB.at hi;obtain ⟨y1,dx1,fs1,rfl,_,g0,f1,f2⟩:=hBt.inv;have hil:=(List.getElem?_eq_some_iff.mp hb').1;have bk:=bo b (mem_of_getElem? hb');walk_at "go";intro q hq;have sq:=zf (o:=.lst [V.non]) hq;refine ra (sq _ _ (s2 _ _ g0)) T.C_Belt T.N_Belt_room f1 ?_;have b1:=bk.1;have b2:=bk.2.1;refine ⟨q,_,_,rfl,rfl,upd_same,by omega,by omega,xr (by simp;omega),λ q2 hq2=>?_⟩;rw [zgd];have s3:=sq.trans (zf (o:=.lst (List.replicate b.1.toNat V.non)) hq2);have h3:upd (upd H2 q (.lst [V.non])) q2 (.lst (List.replicate b.1.toNat V.non)) q2=some (.lst (List.replicate b.1.toNat V.non)):=upd_same;have n2:H2 q2=none:=zA sq hq2;generalize upd (upd H2 q (.lst [V.non])) q2 (.lst (List.replicate b.1.toNat V.non))=H3 at s3 h3 ⊢;have f5:Fr [acc] H3 (upd H3 acc (.lst (us ++ [.ref q2]))):=jB (by simp);have nq:=zed ha n2;refine ⟨_,s3 _ _ ha,zj (by rw [ru.len,length_map,length_take];omega),_,us ++ [.ref q2],rfl,((s2.trans s3).fr.trans f5).same (by intro m hm;rw [List.mem_singleton.mp hm];exact hacc),upd_same,?_⟩;rw [take_add_one,hb',map_append];refine ((ru.same s3).fr f5).append (.one ?_);refine Reps.mk' ⟨by simp,λ j u d a1 a2=>?_⟩ nq (f5 _ _ nq h3);have a1:=mem_of_getElem? a1;have a2:=mem_of_getElem? a2;rw [(List.mem_replicate.mp a1).2,(List.mem_replicate.mp a2).2];exact .non
 rintro σ H2 ⟨v0,us,rfl,s2,ha,ru⟩;rw [hB.len,take_length] at ru;walk_at "go";intro q hq;have sq:=zf (o:=.lst [V.int 0]) hq;walk_at "go";refine ra (sq _ _ (s2 _ _ hy)) T.C_Work T.N_Work_knots e2 ⟨_,.inl ⟨_,SqL.of (sq _ _ (s2 _ _ h2)),rfl⟩,?_⟩;rw [hK.len];refine ⟨q,_,_,rfl,rfl,upd_same,by omega,by omega,xr (by simp;omega),λ ls hls=>?_⟩;rw [zgd,Int.toNat_natCast,zes];have s3:Same H (upd (upd H2 q (.lst [V.int 0])) ls (.lst (iv (List.replicate rs.length 0)))):=(s2.trans sq).trans (zf hls);have ha3:=upd_keep (o:=.lst (iv (List.replicate rs.length 0))) (sq _ _ ha) hls;have ru3:=(ru.same sq).same (zf (o:=.lst (iv (List.replicate rs.length 0))) hls);have h3:upd (upd H2 q (.lst [V.int 0])) ls (.lst (iv (List.replicate rs.length 0))) ls=some (.lst (iv (List.replicate rs.length 0))):=upd_same;generalize upd (upd H2 q (.lst [V.int 0])) ls (.lst (iv (List.replicate rs.length 0)))=H3 at s3 ha3 ru3 h3 ⊢;walk_at "go";refine ⟨a.State,_,_,_,(zb9 T).mono,?_⟩;walk_at "lc";walk_at "go";refine ra (s3 _ _ hy) T.C_Work T.N_Work_knots e2 ⟨l2,rfl,.inl ⟨⟨_,SqL.of (s3 _ _ h2)⟩,λ _ _ _ _ ac2 hac2=>?_⟩⟩;let M2_:Nat->St->Hp->Prop:=λ i σ H'=>∃ (v0:Option V) (us:List V),σ=[v0]/\Same H3 H'/\H' ac2=some (.lst us)/\Reps H' (Off [ac2]) us ((rs.take i).map λ r=>D.ints (qv r));refine qR (K:=K) (a:=l2) (xs:=kvs) M2_ ⟨_,[],rfl,zf hac2,upd_same,by rw [take_zero];exact .nil⟩ (λ i σ H' _ h=>by obtain ⟨_,_,_,s,_⟩:=h;exact SqL.of (s _ _ (s3 _ _ h2))) ?_ ?_
 ·rintro i x σ H4 hi ⟨v0,us,rfl,s4,ha4,ru4⟩;obtain ⟨r,hr',hKn⟩:=hK.at hi;have hil:=(List.getElem?_eq_some_iff.mp hr').1;have rl:=wJ (ro r (mem_of_getElem? hr'));walk_at "go";refine uc (zaG T).mono ⟨x,r,p,rfl,hKn.keep (λ b o pb hb=>⟨pb,s4 _ _ (s3 _ _ hb)⟩),by omega,by omega,λ q2 H5 s5 n2 h5=>?_⟩;have f5:Fr [ac2] H5 (upd H5 ac2 (.lst (us ++ [.ref q2]))):=jB (by simp);have nq:=zed ha4 n2;refine ⟨_,s5 _ _ ha4,zj (by rw [ru4.len,length_map,length_take];omega),_,us ++ [.ref q2],rfl,((s4.trans s5).fr.trans f5).same (by intro m hm;rw [List.mem_singleton.mp hm];exact hac2),upd_same,?_⟩;rw [take_add_one,hr',map_append];exact ((ru4.same s5).fr f5).append (.one (qa nq (f5 _ _ nq h5)))
 rintro σ H4 ⟨v0',us4,rfl,s4,ha4,ru4⟩;rw [hK.len,take_length] at ru4;have s34:=s3.trans s4;refine zan T (st:=qA bs rs) (p:=Off []) ?_ ?_ ?_ (by simp [qA];omega) (by simp [qA];omega) (λ v' H5 s5 so=>k _ _ (s34.trans s5) ?_)
 ·have:=(ru3.same s4).all;rw [show (bs.map λ b=>D.lst (List.replicate b.1.toNat .non))=(zS (qA bs rs).cells).map D.lst by simp [qA,zS,zZ,Function.comp_def]] at this;exact this.mk' (λ z=>nomatch z) (s4 _ _ ha3)
 ·exact qa (λ z=>nomatch z) (s4 _ _ h3)
 ·have:=ru4.all;rw [show (rs.map λ r=>D.ints (qv r))=(qk (qA bs rs).gone).map D.lst by simp [qA,qk,Function.comp_def]] at this;exact this.mk' (λ z=>nomatch z) ha4
 ·obtain ⟨y5,n5,e5,o5,f1,f2,f3⟩:=so;exact ⟨y5,n5,e5,o5,zA s34 f1,zA s34 f2,λ b hb=>zA s34 (f3 b hb)⟩
theorem vO (T:Txt K mg a):Cal P w K mg base "empty_state" 3 ["work"] [] (zbZ a):=T.h_empty_state.cal (JR T)
theorem zaC {r:Row} (h:r.ok) (hw:r.wd=.joiner):qv r=List.replicate r.ins.length 0:=by
 obtain ⟨wd,ins,outs,pc,ks⟩:=r;simp only at hw;subst hw;obtain ⟨⟨o,h1⟩,h2,_⟩:=h;simp only at h1 h2;subst h1;unfold qv;rw [Nat.max_eq_left (by simp;omega)]
theorem zbJ {r:Row} (h:r.ok) (hw:r.wd≠.joiner):qv r=List.replicate (max 1 r.outs.length) 0:=by
 obtain ⟨wd,ins,outs,pc,ks⟩:=r;unfold qv;cases wd
 ·obtain ⟨h1,⟨o,h2⟩,_⟩:=h;simp only at h1 h2;subst h1 h2;rfl
 ·obtain ⟨⟨o,h1⟩,h2,_⟩:=h;simp only at h1 h2;subst h1 h2;rfl
 ·obtain ⟨⟨o,h1⟩,h2,_⟩:=h;simp only at h1 h2;subst h1;rfl
 ·obtain ⟨⟨o,h1⟩,h2,_⟩:=h;simp only at h1 h2;subst h1;rfl
 ·obtain ⟨⟨o,h1⟩,h2,_⟩:=h;simp only at h1 h2;subst h1;rfl
 ·exact absurd rfl hw
theorem ZL {r:Row} (h:r.ok):1<=(qv r).length/\(qv r).length<=4:=by
 have:=wJ h;by_cases hw:r.wd=.joiner
 ·rw [zaC h hw,length_replicate];obtain ⟨wd,ins,outs,pc,ks⟩:=r;simp only at hw;subst hw;have:=h.2.1;simp only at this;constructor
  ·show 1<=ins.length;omega
  ·exact h.2.2
 ·rw [zbJ h hw,length_replicate];omega
def vP (rs:List Row) (x:zR):Prop:=∀ s n,x=some (s,n)->∃ (j:Nat) (r:Row),s=j/\rs[j]?=some r/\r.wd=.source/\0<=n
def zbD (rs:List Row) (gss:List (List Int)):Prop:=gss.length=rs.length/\∀ (i:Nat) r g,rs[i]?=some r->gss[i]?=some g->g.length=(qv r).length/\∀ n∈g,0<=n
def jJ (bs:List (Int × Int)) (rs:List Row) (css:List (List zR)):Prop:=css.length=bs.length/\∀ (i:Nat) b c,bs[i]?=some b->css[i]?=some c->c.length=b.1.toNat/\∀ x∈c,vP rs x
theorem zey {rs:List Row} {gss:List (List Int)} (h:zbD rs gss) {j:Nat} {g g':List Int} (e:gss[j]?=some g) (l:g'.length=g.length) (n:∀ x∈g',0<=x):zbD rs (gss.set j g'):=by
 refine ⟨by rw [length_set];exact h.1,λ i r x h1 h2=>?_⟩;by_cases hj:i=j
 ·subst hj;rw [getElem?_set_self (List.getElem?_eq_some_iff.mp e).1] at h2;cases h2;exact ⟨by rw [l];exact (h.2 i r g h1 e).1,n⟩
 ·rw [getElem?_set_ne (Ne.symm hj)] at h2;exact h.2 i r x h1 h2
def vT (r:Row) (s:Int):Prop:=0<=s/\(r.wd=.parter->s < r.outs.length)/\(r.wd=.joiner->s < r.ins.length)/\(r.wd≠.parter->r.wd≠.joiner->s=0)
def WE (rs:List Row) (sds:List Int):Prop:=sds.length=rs.length/\∀ (i:Nat) r s,rs[i]?=some r->sds[i]?=some s->vT r s
def z6 (cs:List (List zR)) (b:Int):List zR:=cs.getD b.toNat []
def XT (c:List zR):zR:=c.getLastD none
def zht (c:List zR):zR:=c.headD none
def zb8 (rs:List Row):zR->Option Int:=Option.map λ x=>Xb ((rs[x.1.toNat]?.map Row.kinds).getD []) x.2
def qu (rs:List Row) (cs:List (List zR)) (r:Row):List (Option Int):=r.ins.map λ b=>zb8 rs (XT (z6 cs b))
def jO (cs:List (List zR)) (r:Row):List Bool:=r.outs.map λ b=>decide (zht (z6 cs b)=none)
theorem zb7 {α:Type} {xs:List α} {d:α} (h:xs≠[]):atI xs (-1)=some (xs.getLastD d):=by
 have hl:0 < xs.length:=List.length_pos_iff.mpr h;unfold atI ixN;rw [if_neg (by decide),if_pos (by omega)];have e:((-1:Int) + xs.length).toNat=xs.length - 1:=by omega
 simp only [Option.bind_some,e];rw [getElem?_eq_getElem (by omega),getLastD_eq_getLast?,List.getLast?_eq_getElem?,getElem?_eq_getElem (by omega)]
 rfl
theorem zao {c:List zR}:(c.map zZ).getLastD .non=zZ (XT c):=by
 unfold XT;rw [getLastD_eq_getLast?,getLastD_eq_getLast?,List.getLast?_map];cases c.getLast? <;> rfl
structure stWf (bs:List (Int × Int)) (rs:List Row) (st:PSt):Prop where
 co:jJ bs rs st.cells
 so:WE rs st.sides
 go:zbD rs st.gone
theorem wp {bs:List (Int × Int)} {rs:List Row} {cs:List (List zR)} (h:jJ bs rs cs) (bo:∀ b∈bs,zu b.1 b.2) {b:Int} (hb:b∈rgI bs.length):∃ (i:Nat),b=i/\i < cs.length/\cs[i]?=some (z6 cs b)/\z6 cs b≠[]/\∀ x∈z6 cs b,vP rs x:=by
 obtain ⟨h0,h1⟩:=zfr hb;obtain ⟨i,rfl⟩:∃ i:Nat,b=i:=⟨b.toNat,by omega⟩;have hi:i < cs.length:=by rw [h.1];omega
 have e:cs[i]?=some (z6 cs i):=by
  unfold z6;rw [Int.toNat_natCast,getElem?_eq_getElem hi];simp [hi]
 have hib:i < bs.length:=by omega
 obtain ⟨q1,q2⟩:=h.2 i bs[i] _ (getElem?_eq_getElem hib) e;refine ⟨i,rfl,hi,e,?_,q2⟩;intro z;rw [z] at q1;have:=(bo _ (getElem_mem hib)).1;simp at q1;omega
theorem Jh {bs:List (Int × Int)} {rs:List Row} {k:Nat} {r:Row} {b:Int} (w:zC bs rs) (h:rs[k]?=some r) (hb:b∈r.ins):b∈rgI bs.length :=
 w.2.2.mem_iff.mp (List.mem_flatMap.mpr ⟨r,mem_of_getElem? h,hb⟩)
theorem JO {bs:List (Int × Int)} {rs:List Row} {k:Nat} {r:Row} {b:Int} (w:zC bs rs) (h:rs[k]?=some r) (hb:b∈r.outs):b∈rgI bs.length :=
 w.2.1.mem_iff.mp (List.mem_flatMap.mpr ⟨r,mem_of_getElem? h,hb⟩)
theorem zci {c:List zR} (h:c≠[]):XT c∈c:=by
 unfold XT;rw [getLastD_eq_getLast?,List.getLast?_eq_some_getLast h];exact List.getLast_mem h
theorem zcB {H:Hp} {p:Addr->Prop} {v:V} {st:PSt} (h:Rep H p v (Zf a st)):∃ y dx fs lc ls lg ucs ugs,v=.ref y/\H y=some (.ins a.State dx fs)/\fs.lookup ("turn":Str)=some (.int st.turn)/\fs.lookup ("cells":Str)=some (.ref lc)/\fs.lookup ("sides":Str)=some (.ref ls)/\fs.lookup ("gone":Str)=some (.ref lg) /\
  H lc=some (.lst ucs)/\Reps H p ucs ((zS st.cells).map D.lst)/\H ls=some (.lst (iv st.sides))/\H lg=some (.lst ugs)/\Reps H p ugs ((qk st.gone).map D.lst):=by
 obtain ⟨y,dx,fs,rfl,py,hy,g1,g2⟩:=Rep.ob' h;obtain ⟨u1,e1,r1⟩:=g1 _ _ (VH st);obtain ⟨u2,e2,r2⟩:=g1 _ _ (X2 st);obtain ⟨u3,e3,r3⟩:=g1 _ _ (X1 st);obtain ⟨u4,e4,r4⟩:=g1 _ _ (VI st);cases r1;obtain ⟨lc,ucs,rfl,_,hc,rc⟩:=r2.lst';obtain ⟨ls,rfl,_,hs⟩:=r3.ints';obtain ⟨lg,ugs,rfl,_,hg,rg⟩:=r4.lst';exact ⟨y,dx,fs,lc,ls,lg,ucs,ugs,rfl,hy,e1,e2,e3,e4,hc,rc,hs,hg,rg⟩
theorem zew {H:Hp} {p:Addr->Prop} {us:List V} {dss:List (List D)} (h:Reps H p us (dss.map D.lst)) {i:Nat} {ds:List D} (e:dss[i]?=some ds):∃ l vs,us[i]?=some (.ref l)/\H l=some (.lst vs)/\Reps H p vs ds:=by
 obtain ⟨v,h1,h2⟩:=h.of (i:=i) (d:=.lst ds) (by rw [getElem?_map,e];rfl);obtain ⟨l,vs,rfl,_,h3,h4⟩:=h2.lst';exact ⟨l,vs,h1,h3,h4⟩
def Wz (a:Ad):Sp:=λ vs H Q _=>∃ (vw vs' vk:V) (bs:List (Int × Int)) (rs:List Row) (st:PSt) (k:Nat) (r:Row) (p q:Addr->Prop),vs=[vw,vs',vk]/\Rep H p vw (zX a bs rs)/\Rep H q vs' (Zf a st)/\KnP a H p vk r/\rs[k]?=some r/\zC bs rs/\(∀ b∈bs,zu b.1 b.2)/\(∀ r∈rs,r.ok)/\jJ bs rs st.cells /\
 ∀ l H',Same H H'->H l=none->H' l=some (.lst ((qu rs st.cells r).map hdV))->Q (.ref l) H'
theorem zc9 {a:Ad} {vs:List V} {H:Hp} {Q:VK} {E:XK} (vw vs' vk:V) (bs:List (Int × Int)) (rs:List Row) (st:PSt) (k:Nat) (r:Row) (p q:Addr->Prop) (q0:vs=[vw,vs',vk]) (q1:Rep H p vw (zX a bs rs)) (q2:Rep H q vs' (Zf a st)) (q3:KnP a H p vk r) (q4:rs[k]?=some r) (q5:zC bs rs) (q6:(∀ b∈bs,zu b.1 b.2)) (q7:(∀ r∈rs,r.ok)) (q8:jJ bs rs st.cells) (q9:∀ l H',Same H H'->H l=none->H' l=some (.lst ((qu rs st.cells r).map hdV))->Q (.ref l) H'):Wz a vs H Q E:=⟨vw,vs',vk,bs,rs,st,k,r,p,q,q0,q1,q2,q3,q4,q5,q6,q7,q8,q9⟩
theorem zae (T:Txt K mg a) (F:Fun K "heads_of" "heads_of" jA f fd):FnOk P w K mg base (CXr P w) 2 f fd ["work","state","knot"] (Wz a):=by
 refine F.okx VW ?_ ?_
 ·walk_at "i"
 walk_at "j";obtain ⟨vw,vs',vk,bs,rs,st,kn,r,p,q,rfl,hw,hs,hk,hr',wok,bo,ro,co,k⟩:=h;obtain ⟨y,dx,fs,lc,ls,lg,ucs,ugs,rfl,hy,e1,e2,e3,e4,hc,rc,hsd,hg,rg⟩:=zcB hs;obtain ⟨y1,dx1,m1,m2,m3,fs1,rfl,_,_,_,_,g0,f1,f2,_,g1,g2,_,_⟩:=hk.inv;have rl:=wJ (ro r (mem_of_getElem? hr'));walk_at "T";refine ⟨_,(zi (JJ (i:=3) VW.nd rfl (Or.inl rfl) (vars:=["belt"]) (caps:=[1]) (N:=["belt","state"]) (ON:=["work","state","knot","ends"]) (osc:=ze jA) rfl rfl (by first|decide +kernel|kernel_rfl) rfl rfl (qd (zl (pq 2) rfl)) (λ s H fp pins=>(qr 0 (show (["belt","state"]:List Str).Nodup from by decide +kernel))) (λ s H fp pins=>z8) (λ s H fp pins=>(zv (zv (zl (pq 1) rfl) (pq 0)) (V8 Jn zd))))  (zg (zk (xj (vars:=["ware"]) (caps:=[0]) (N:=["ware","work"]) (ON:=["work","state","knot","ends"]) (osc:=ze jA) rfl rfl (by first|decide +kernel|kernel_rfl) rfl rfl (qd (pq 3)) (λ s H fp pins=>(qr 0 (show (["ware","work"]:List Str).Nodup from by decide +kernel))) (λ s H fp pins=>z8) (λ s H fp pins=>(xk (zq ji (pq 0) zy (zw _)) zy (vX hr (za (pq 1) (za (pq 0) zc))))))))),?_⟩;walk_at "go";walk_at "lc";walk_at "go";refine ra g0 (CT T _) (NI T _) f1 ⟨m1,rfl,.inl ⟨⟨_,SqL.of g1⟩,λ _ _ _ _ acc hacc=>?_⟩⟩;let M1_:Nat->St->Hp->Prop:=λ i σ H'=>∃ (v0:Option V) (us:List V),σ=[v0,some (.ref y)]/\Same H H'/\H' acc=some (.lst us)/\Reps H q us ((r.ins.take i).map λ b=>zZ (XT (z6 st.cells b)));refine qR (K:=K) (a:=m1) (xs:=iv r.ins) M1_ ⟨_,[],rfl,zf hacc,upd_same,by rw [take_zero];exact .nil⟩ (λ i σ H' _ h=>by obtain ⟨_,_,_,s,_⟩:=h;exact SqL.of (s _ _ g1)) ?_ ?_
 ·rintro i x σ H2 hi ⟨v0,us,rfl,s2,ha,ru⟩;obtain ⟨b,hb,rfl⟩:=Xe hi;have hil:=(List.getElem?_eq_some_iff.mp hb).1;obtain ⟨j,rfl,hj,ej,nej,_⟩:=wp co bo (Jh wok hr' (mem_of_getElem? hb));obtain ⟨li,vi,hu,hli,ri⟩:=zew rc (i:=j) (ds:=(z6 st.cells j).map zZ) (by rw [zS,getElem?_map,ej];rfl);obtain ⟨ve,he,re⟩:=zf5 ri (zb7 (d:=.non) (by simpa using nej));rw [zao] at re;walk_at "go";refine ra (s2 _ _ hy) T.C_State T.N_State_cells e2 (zt (SqL.of (s2 _ _ hc)) (zJ hu) ?_);walk_at "go";refine zt (SqL.of (s2 _ _ hli)) he ?_;refine ⟨_,ha,zj (by rw [ru.len,length_map,length_take];omega),_,us ++ [ve],rfl,(λ b o hb=>by rw [upd_ne (ne_of_none hb hacc)];exact s2 b o hb),upd_same,?_⟩;rw [take_add_one,hb,map_append];exact ru.append (.one re)
 rintro σ H2 ⟨v0,us,rfl,s2,ha,ru⟩;rw [zD,take_length] at ru;have lu:us.length=r.ins.length:=by rw [ru.len,length_map]
 walk_at "go";walk_at "lc";walk_at "go";refine ⟨acc,rfl,.inl ⟨⟨_,SqL.of ha⟩,λ _ _ _ _ ac2 hac2=>?_⟩⟩;let M2_:Nat->St->Hp->Prop:=λ i σ H'=>∃ (v0:Option V),σ=[v0,some vw]/\Same H2 H'/\H' ac2=some (.lst ((((qu rs st.cells r).take i).map hdV)));refine qR (K:=K) (a:=acc) (xs:=us) M2_ ⟨_,rfl,zf hac2,by rw [take_zero];exact upd_same⟩ (λ i σ H' _ h=>by obtain ⟨_,_,s,_⟩:=h;exact SqL.of (s _ _ ha)) ?_ ?_
 ·rintro i x σ H3 hi ⟨v0,rfl,s3,ha3⟩;obtain ⟨d,hd,rx⟩:=ru.at hi;rw [getElem?_map,Option.map_eq_some_iff] at hd;obtain ⟨b,hb,rfl⟩:=hd;have hil:=(List.getElem?_eq_some_iff.mp hb).1;obtain ⟨j,rfl,hj,ej,nej,wk⟩:=wp co bo (Jh wok hr' (mem_of_getElem? hb));have hwk:=wk _ (zci nej);have hh:(qu rs st.cells r)[i]?=some (zb8 rs (XT (z6 st.cells j))):=by rw [qu,getElem?_map,hb];rfl
  have s23:=s2.trans s3;have fin:∀ u:V,u=hdV (zb8 rs (XT (z6 st.cells j)))->∃ ys,H3 ac2=some (.lst ys)/\ys.length < sizeLine/\∃ (v0:Option V),([some x,some vw]:St)=[v0,some vw]/\Same H2 (upd H3 ac2 (.lst (ys ++ [u])))/\upd H3 ac2 (.lst (ys ++ [u])) ac2=some (.lst ((((qu rs st.cells r).take (i + 1)).map hdV))):=by
   rintro u rfl;refine ⟨_,ha3,zj (by rw [length_map,length_take];omega),_,rfl,(λ b o hb=>by rw [upd_ne (ne_of_none hb hac2)];exact s3 b o hb),?_⟩;rw [upd_same,take_add_one,hh,map_append]
   rfl
  walk_at "go";cases hE:XT (z6 st.cells j) with
  | none =>
   rw [hE] at rx fin;cases rx;rw [if_pos rfl];exact fin _ rfl
  | some wr =>
   obtain ⟨sr,nr⟩:=wr;rw [hE] at rx fin hwk;obtain ⟨j0,r0,rfl,hr0,hw0,_⟩:=hwk _ _ rfl;have ok0:=ro r0 (mem_of_getElem? hr0);have kp:0 < r0.kinds.length:=by
    obtain ⟨wd,ins,outs,pc,ks⟩:=r0;simp only at hw0;subst hw0;exact ok0.2.2.2.2.1
   obtain ⟨tw,rfl,htw⟩:=VC rx;rw [if_neg (by intro z;cases z)];refine uc (Wn T).mono ⟨vw,_,bs,rs,p,q,j0,nr,r0,rfl,jM hw s23,jM rx s23,hr0,hw0,kp,?_⟩;exact fin _ (by simp [zb8,hr0,hdV])
 ·rintro σ H3 ⟨v0,rfl,s3,ha3⟩;rw [lu,take_of_length_le (by simp [qu])] at ha3;walk_at "go";exact k _ _ (s2.trans s3) (zA s2 hac2) ha3
theorem zbO (T:Txt K mg a):Cal P w K mg base "heads_of" 2 ["work","state","knot"] [] (Wz a):=T.h_heads_of.cal (zae T)
def VQ (K:PySem.W.Frag):Sp:=λ vs H Q _=>∃ (l:Addr) (ns:List Int) (o:Option Nat),vs=[.ref l,vB o]/\H l=some (.lst (iv ns))/\(∀ j,o=some j->j < ns.length)/\Q (hdV (o.bind λ j=>ns[j]?)) H
theorem zbg (T:Txt K mg a) (F:Fun K "belt_at" "belt_at" w9 f fd):FnOk P w K mg base (CXr P w) 1 f fd ["belts","place"] (VQ K):=by
 refine F.okx zaU ?_ ?_
 ·walk_at "i"
 walk_at "j";obtain ⟨l,ns,o,rfl,hl,ho,k⟩:=h;walk_at "T";refine ⟨_,(zg (zk (xk (zq ji (pq 1) zy (zw _)) zy (zv (pq 0) (pq 1))))),?_⟩;walk_at "go";cases o with
 | none=>exact zL (λ _=>k) (λ b=>absurd rfl b)
 | some j =>
  have hj:=ho j rfl;refine zL (λ b=>by cases b) (λ _=>?_);refine zt (SqL.of hl) (zJ (xI (getElem?_eq_getElem hj))) ?_;have e:hdV ((some j).bind λ j=>ns[j]?)=.int ns[j]:=by simp [hj,hdV]
  rw [e] at k;exact k
theorem Wo (T:Txt K mg a):Cal P w K mg base "belt_at" 1 ["belts","place"] [] (VQ K):=T.h_belt_at.cal (zbg T)
theorem zhI (T:Txt K mg a) (wd:Wd):PySem.W.kitOne K (.ref (wo a wd)) (.ref a.Joiner)=some (decide (wd=.joiner)):=by
 cases wd
 ·exact T.k1_Source_Joiner
 ·exact T.k1_Drain_Joiner
 ·exact T.k1_Parter_Joiner
 ·exact T.k1_FirstParter_Joiner
 ·exact T.k1_Sieve_Joiner
 ·exact T.k1_Joiner_Joiner
def xp (r:Row) (ch:Option Nat × Option Nat × Nat):Nat:=if r.wd=.joiner then ch.1.getD 0 else ch.2.1.getD 0
def ZW (a:Ad):Sp:=λ vs H Q _=>∃ (vk:V) (t:Addr) (r:Row) (ch:Option Nat × Option Nat × Nat) (p:Addr->Prop),vs=[vk,.ref t]/\KnP a H p vk r/\H t=some (.tup (chV ch))/\(r.wd=.joiner->∃ j,ch.1=some j)/\Q (.int (xp r ch)) H
theorem zau {a:Ad} {vs:List V} {H:Hp} {Q:VK} {E:XK} (vk:V) (t:Addr) (r:Row) (ch:Option Nat × Option Nat × Nat) (p:Addr->Prop) (q0:vs=[vk,.ref t]) (q1:KnP a H p vk r) (q2:H t=some (.tup (chV ch))) (q3:(r.wd=.joiner->∃ j,ch.1=some j)) (q4:Q (.int (xp r ch)) H):ZW a vs H Q E:=⟨vk,t,r,ch,p,q0,q1,q2,q3,q4⟩
theorem Qa (T:Txt K mg a) (F:Fun K "counted_place" "counted_place" qX f fd):FnOk P w K mg base (CXr P w) 1 f fd ["knot","chosen"] (ZW a):=by
 refine F.okx ZX ?_ ?_
 ·walk_at "i"
 walk_at "j";obtain ⟨vk,t,r,ch,p,rfl,hk,ht,hj,k⟩:=h;obtain ⟨y1,dx1,m1,m2,m3,fs1,rfl,_,_,_,_,g0,f1,f2,_,g1,g2,_,_⟩:=hk.inv;walk_at "T";refine ⟨_,(zh (zG (qT (zQ wW qb (za (pq 0) (za xT zc))) (λ _=>rfl))  (zg (zk (zv (pq 1) zd)))  zp)  (zg (zk (xk (zq ji (zv (pq 1) zd) zy (zw _)) zd (zv (pq 1) zd))))),?_⟩;walk_at "go";refine ⟨.ref a.Joiner,_,T.g_Joiner,rfl,_,_,_,_,rfl,(WT T r.wd).ty (CT T r.wd) g0,.inl ⟨_,rfl,zhI T r.wd⟩,?_⟩;walk_at "go";unfold xp at k;refine zL (λ b=>?_) (λ b=>?_)
 ·rw [if_pos b] at k;obtain ⟨j,ej⟩:=hj b;walk_at "go";refine rd_ixT ht at0 ?_;rw [ej] at k ⊢;exact k
 ·rw [if_neg b] at k;walk_at "go";refine rd_ixT ht (show atI (chV ch) 1=some (vB ch.2.1) from rfl) ?_;walk_at "go";cases e:ch.2.1 with
  | none =>
   rw [e] at k;exact zL (λ _=>k) (λ b=>absurd rfl b)
  | some j =>
   rw [e] at k;refine zL (λ b=>by cases b) (λ _=>?_);refine rd_ixT ht (show atI (chV ch) 1=some (vB ch.2.1) from rfl) ?_;rw [e];exact k
theorem Q6 (T:Txt K mg a):Cal P w K mg base "counted_place" 1 ["knot","chosen"] [] (ZW a):=T.h_counted_place.cal (Qa T)
section
variable {H:Hp} {y:Addr} {n:SN} {st:PSt}
theorem StO.nds (h:StO a H y n st):n.ls ∉ n.lc :: n.lg :: (n.acs ++ n.ags)/\n.lc ∉ n.lg :: (n.acs ++ n.ags)/\n.lg ∉ n.acs ++ n.ags/\∀ x∈n.acs,x ∉ n.ags:=by
 have nd:=h.nd;unfold SN.all at nd;rw [nodup_cons,nodup_cons,nodup_cons,nodup_append] at nd;exact ⟨nd.1,nd.2.1,nd.2.2.1,λ x hx hy=>nd.2.2.2.2.2 x hx x hy rfl⟩
theorem Q7 {x:Addr} {us vs:List V} (hx:H x=some (.lst us)) {b:Addr} (h:zN H b):zN (upd H x (.lst vs)) b:=by
 obtain ⟨xs,hb⟩:=h;exact ⟨xs,by rw [upd_ne (λ z=>by rw [z,hx] at hb;cases hb)];exact hb⟩
theorem StO.putC {i:Nat} {b:Addr} {c':List zR} {vs:List V} (h:StO a H y n st) (e:n.acs[i]?=some b) (r:Reps H (zN H) vs (c'.map zZ)):StO a (upd H b (.lst vs)) y n { st with cells:=st.cells.set i c' }:=by
 have hb:=mem_of_getElem? e;obtain ⟨us,hu⟩:=h.hc.isl (mem_cons_of_mem _ hb);obtain ⟨n1,n2,n3,n4⟩:=h.nds;have k:∀ c o,c≠b->H c=some o->upd H b (.lst vs) c=some o:=λ c o nc hc=>by rw [upd_ne nc];exact hc
 have ntb:¬ zN H b:=λ ⟨xs,hx⟩=>by rw [hu] at hx;cases hx
 refine ⟨k _ _ (λ z=>by rw [<- z,h.hy] at hu;cases hu) h.hy,?_,k _ _ (λ z=>n1 (by rw [z];simp [hb])) h.hs,h.hg.tup λ c o hz hc=>k c o (λ z=>?_) hc,h.nd⟩
 ·have:=h.hc.put (vs:=vs) (ys:=c'.map zZ) e ntb r;rw [show zS (st.cells.set i c')=(zS st.cells).set i (c'.map zZ) by simp [zS,map_set]];exact this.keep (λ _ _ _ hc=>hc) λ c hc _=>Q7 hu hc
 ·subst z;rcases hz with rfl|hz|hz
  ·exact n3 (mem_append_left _ hb)
  ·exact n4 c hb hz
  ·exact ntb hz
theorem StO.putG {i:Nat} {b:Addr} {g':List Int} (h:StO a H y n st) (e:n.ags[i]?=some b):StO a (upd H b (.lst (iv g'))) y n { st with gone:=st.gone.set i g' }:=by
 have hb:=mem_of_getElem? e;obtain ⟨us,hu⟩:=h.hg.isl (mem_cons_of_mem _ hb);obtain ⟨n1,n2,n3,n4⟩:=h.nds;have k:∀ c o,c≠b->H c=some o->upd H b (.lst (iv g')) c=some o:=λ c o nc hc=>by rw [upd_ne nc];exact hc
 have ntb:¬ zN H b:=λ ⟨xs,hx⟩=>by rw [hu] at hx;cases hx
 refine ⟨k _ _ (λ z=>by rw [<- z,h.hy] at hu;cases hu) h.hy,h.hc.tup λ c o hz hc=>k c o (λ z=>?_) hc,k _ _ (λ z=>n1 (by rw [z];simp [hb])) h.hs,?_,h.nd⟩
 ·subst z;rcases hz with rfl|hz|hz
  ·exact n2 (mem_cons_of_mem _ (mem_append_right _ hb))
  ·exact n4 c hz hb
  ·exact ntb hz
 ·have:=h.hg.put (vs:=iv g') (ys:=g'.map D.int) e ntb reps_ints;rw [show qk (st.gone.set i g')=(qk st.gone).set i (g'.map D.int) by simp [qk,map_set]];exact this.keep (λ _ _ _ hc=>hc) λ c hc _=>Q7 hu hc
theorem StO.putS {s':List Int} (h:StO a H y n st):StO a (upd H n.ls (.lst (iv s'))) y n { st with sides:=s' }:=by
 obtain ⟨n1,n2,n3,n4⟩:=h.nds;have k:∀ c o,c≠n.ls->H c=some o->upd H n.ls (.lst (iv s')) c=some o:=λ c o nc hc=>by rw [upd_ne nc];exact hc
 have kt:∀ c,zN H c->c≠n.ls:=λ c ⟨xs,hx⟩ z=>by rw [z,h.hs] at hx;cases hx
 refine ⟨k _ _ (λ z=>by have:=h.hy;rw [z,h.hs] at this;cases this) h.hy,h.hc.tup λ c o hz hc=>k c o (λ z=>?_) hc,upd_same,h.hg.tup λ c o hz hc=>k c o (λ z=>?_) hc,h.nd⟩
 ·rcases hz with rfl|hz|hz
  ·exact n1 (by rw [<- z];simp)
  ·exact n1 (by rw [<- z];simp [hz])
  ·exact kt c hz z
 ·rcases hz with rfl|hz|hz
  ·exact n1 (by rw [<- z];simp)
  ·exact n1 (by rw [<- z];simp [hz])
  ·exact kt c hz z
theorem StO.cell {i:Nat} {c:List zR} (h:StO a H y n st) (e:st.cells[i]?=some c):∃ b vs,n.acs[i]?=some b/\H b=some (.lst vs)/\Reps H (zN H) vs (c.map zZ):=h.hc.at (by rw [zS,getElem?_map,e];rfl)
theorem StO.goneL {i:Nat} {g:List Int} (h:StO a H y n st) (e:st.gone[i]?=some g):∃ b,n.ags[i]?=some b/\H b=some (.lst (iv g)):=by
 obtain ⟨b,vs,h1,h2,h3⟩:=h.hg.at (i:=i) (xs:=g.map D.int) (by rw [qk,getElem?_map,e];rfl);rw [Jg h3] at h2;exact ⟨b,h1,h2⟩
theorem sff_l {t:Int} {lc ls lg:Addr}:(sff t lc ls lg).lookup ("cells":Str)=some (.ref lc)/\(sff t lc ls lg).lookup ("sides":Str)=some (.ref ls)/\(sff t lc ls lg).lookup ("gone":Str)=some (.ref lg)/\(sff t lc ls lg).lookup ("turn":Str)=some (.int t):=by
 unfold sff;refine ⟨(zE (by decide +kernel)).trans qK,(zE (by decide +kernel)).trans ((zE (by decide +kernel)).trans qK),(zE (by decide +kernel)).trans ((zE (by decide +kernel)).trans ((zE (by decide +kernel)).trans qK)),qK⟩
theorem ZS {i:Nat} {b:Addr} (e:n.acs[i]?=some b):(n.acs.map V.ref)[i]?=some (.ref b):=by rw [getElem?_map,e];rfl
theorem zcu {i:Nat} {b:Addr} (e:n.ags[i]?=some b):(n.ags.map V.ref)[i]?=some (.ref b):=by rw [getElem?_map,e];rfl
theorem Vy {b:Addr} {i:Nat} (e:n.acs[i]?=some b):b∈y :: n.all:=by simp [SN.all,mem_of_getElem? e]
theorem zfN {b:Addr} {i:Nat} (e:n.ags[i]?=some b):b∈y :: n.all:=by simp [SN.all,mem_of_getElem? e]
end
def Jy (c:List zR):List zR:=c.set (c.length - 1) none
def qw (st:PSt) (k:Nat):Option Int->zR × PSt
 | none=>(some ((k:Int),(st.gone.getD k []).headD 0),st)
 | some b=>(XT (z6 st.cells b),{ st with cells:=st.cells.set b.toNat (Jy (z6 st.cells b)) })
theorem Reps.set {H:Hp} {p:Addr->Prop} {vs:List V} {ds:List D} {v:V} {d:D} (h:Reps H p vs ds) (i:Nat) (r:Rep H p v d):Reps H p (vs.set i v) (ds.set i d):=by
 refine ⟨by rw [length_set,length_set,h.len],λ j u e h1 h2=>?_⟩;by_cases hj:j=i
 ·subst hj;have hl:j < vs.length:=by have:=(List.getElem?_eq_some_iff.mp h1).1;rw [length_set] at this;exact this
  rw [getElem?_set_self hl] at h1;rw [getElem?_set_self (by rw [<- h.len];exact hl)] at h2;cases h1;cases h2;exact r
 ·rw [getElem?_set_ne (Ne.symm hj)] at h1 h2;exact h.g j u e h1 h2
def Wx (a:Ad):Sp:=λ vs H Q _=>∃ (y:Addr) (n:SN) (st:PSt) (k:Nat) (fb:Option Int) (g0:Int) (gs:List Int),vs=[.ref y,.int k,hdV fb]/\StO a H y n st/\st.gone[k]?=some (g0 :: gs)/\(∀ b,fb=some b->∃ i:Nat,b=i/\st.cells[i]?=some (z6 st.cells b)/\z6 st.cells b≠[]) /\
 ∀ v H',Fr (y :: n.all) H H'->StO a H' y n (qw st k fb).2->Rep H' (zN H') v (zZ (qw st k fb).1)->Q v H'
theorem zc8 {a:Ad} {vs:List V} {H:Hp} {Q:VK} {E:XK} (y:Addr) (n:SN) (st:PSt) (k:Nat) (fb:Option Int) (g0:Int) (gs:List Int) (q0:vs=[.ref y,.int k,hdV fb]) (q1:StO a H y n st) (q2:st.gone[k]?=some (g0 :: gs)) (q3:(∀ b,fb=some b->∃ i:Nat,b=i/\st.cells[i]?=some (z6 st.cells b)/\z6 st.cells b≠[])) (q4:∀ v H',Fr (y :: n.all) H H'->StO a H' y n (qw st k fb).2->Rep H' (zN H') v (zZ (qw st k fb).1)->Q v H'):Wx a vs H Q E:=⟨y,n,st,k,fb,g0,gs,q0,q1,q2,q3,q4⟩
theorem XD (T:Txt K mg a) (F:Fun K "taken_ware" "taken_ware" jV f fd):FnOk P w K mg base (CXr P w) 1 f fd ["state","number","from_belt"] (Wx a):=by
 refine F.okx Xq ?_ ?_
 ·walk_at "i"
 walk_at "j";obtain ⟨y,n,st,kn,fb,g0,gs,rfl,so,hg,hf,k⟩:=h;obtain ⟨lk1,lk2,lk3,lk4⟩:=sff_l (t:=st.turn) (lc:=n.lc) (ls:=n.ls) (lg:=n.lg);walk_at "T";refine ⟨_,(zh (zG (zq ji (pq 2) zy (zw _))  (zg (zk (qI (za (pq 1) (za (zv (zv (zl (pq 0) rfl) (pq 1)) zd) zc)))))  zp)  (zh (zo 3 Xq.nd (zv (zv (zl (pq 0) rfl) (pq 2)) (V8 Jn zd)))  (zh (Z4 zy (JN (zv (zl (pq 0) rfl) (pq 2)) (V8 Jn zd) xM))  (zg (zk (pq 3)))))),?_⟩;walk_at "go";cases fb with
 | none =>
  refine zL (λ _=>?_) (λ b=>absurd rfl b);obtain ⟨bG,hbG,hgG⟩:=so.goneL hg;walk_at "go";refine ra so.hy T.C_State T.N_State_gone lk3 (zt (SqL.of so.hg.out) (zJ (zcu hbG)) (zt (SqL.of hgG) at0 ?_));walk_at "go";intro t ht;refine k _ _ (zbE ht) (so.same (zf ht)) ?_;have e:(st.gone.getD kn []).headD 0=g0:=by simp [List.getD,hg]
  show Rep _ _ _ (D.tup [.int kn,.int ((st.gone.getD kn []).headD 0)])
  rw [e];exact Reps.mkT (vs:=[.int kn,.int g0]) (.cons .int (.cons .int .nil)) ⟨_,upd_same⟩ upd_same
 | some b =>
  obtain ⟨i,rfl,hc,nc⟩:=hf b rfl;obtain ⟨bC,vs,hbC,hvC,rvC⟩:=so.cell hc;have lv:vs.length=(z6 st.cells i).length:=by rw [rvC.len,length_map]
  have lp:0 < vs.length:=by rw [lv];exact List.length_pos_iff.mpr nc
  obtain ⟨ve,he,re⟩:=zf5 rvC (zb7 (d:=.non) (by simpa using nc));rw [zao] at re;refine zL (λ b=>by cases b) (λ _=>?_);walk_at "go";refine ra so.hy T.C_State T.N_State_cells lk1 (zt (SqL.of so.hc.out) (zJ (ZS hbC)) ?_);walk_at "go";refine zt (SqL.of hvC) he ?_;walk_at "go";refine ra so.hy T.C_State T.N_State_cells lk1 (zt (SqL.of so.hc.out) (zJ (ZS hbC)) ?_);walk_at "go";refine vo (j:=vs.length - 1) hvC ?_ ?_
  ·unfold ixN;rw [if_neg (by decide),if_pos (by omega)]
   congr 1
   omega
  have e2:(Jy (z6 st.cells i)).map zZ=((z6 st.cells i).map zZ).set (vs.length - 1) .non:=by
   unfold Jy;rw [map_set,lv]
   rfl
  have r2:Reps H (zN H) (vs.set (vs.length - 1) .non) ((Jy (z6 st.cells i)).map zZ):=by rw [e2];exact Reps.set rvC _ .non
  refine k _ _ (jB (Vy hbC)) ?_ ?_
  ·have:=so.putC hbC r2;simpa [qw] using this
  ·refine Rep.keep (λ c o pc hc=>⟨Q7 hvC pc,?_⟩) re;obtain ⟨xs,hx⟩:=pc;rw [upd_ne (λ z=>by rw [z,hvC] at hx;cases hx)];exact hc
theorem Vt (T:Txt K mg a):Cal P w K mg base "taken_ware" 1 ["state","number","from_belt"] [] (Wx a):=T.h_taken_ware.cal (XD T)
structure Move where
 k:Nat
 ware:zR
 fr:Option Int
 to:Option Int
def zgN:Option Int->D
 | none=>.non
 | some b=>.int b
theorem zb1 {H:Hp} {p:Addr->Prop} (o:Option Int):Rep H p (hdV o) (zgN o):=by
 cases o
 ·exact .non
 ·exact .int
def QH (m:Move):D:=.tup [.int m.k,zZ m.ware,zgN m.fr,zgN m.to]
def zeJ:Option Move->D
 | none=>.non
 | some m=>QH m
def Z6 (st:PSt) (x:zR):Option Int->PSt
 | none=>st
 | some b=>{ st with cells:=st.cells.set b.toNat ((z6 st.cells b).set 0 x) }
def XW (g:List Int) (j:Nat):List Int:=g.set j (g.getD j 0 + 1)
def xf (r:Row) (ch:Option Nat × Option Nat × Nat):Option Int:=ch.1.bind λ j=>r.ins[j]?
def ZU (r:Row) (ch:Option Nat × Option Nat × Nat):Option Int:=ch.2.1.bind λ j=>r.outs[j]?
def movedF (r:Row) (st:PSt) (k:Nat) (ch:Option Nat × Option Nat × Nat):PSt:=Z6 (qw st k (xf r ch)).2 (qw st k (xf r ch)).1 (ZU r ch)
def zay (r:Row) (st:PSt) (k:Nat) (ch:Option Nat × Option Nat × Nat):PSt × Move :=
 ({ movedF r st k ch with sides:=(movedF r st k ch).sides.set k ch.2.2,gone:=(movedF r st k ch).gone.set k (XW ((movedF r st k ch).gone.getD k []) (xp r ch)) },⟨k,(qw st k (xf r ch)).1,xf r ch,ZU r ch⟩)
def qW (rs:List Row) (st:PSt) (k:Nat):PSt × Option Move:=match rs[k]? with
 | none=>(st,none)
 | some r=>match qm r (qu rs st.cells r) (jO st.cells r) st.turn (st.sides.getD k 0).toNat with
  | none=>(st,none)
  | some ch=>((zay r st k ch).1,some (zay r st k ch).2)
theorem Qo {bs:List (Int × Int)} {rs:List Row} {cs:List (List zR)} (h:jJ bs rs cs) {i:Nat} {c c':List zR} (e:cs[i]?=some c) (l:c'.length=c.length) (k:∀ x∈c',vP rs x):jJ bs rs (cs.set i c'):=by
 refine ⟨by rw [length_set];exact h.1,λ j b d h1 h2=>?_⟩;by_cases hj:j=i
 ·subst hj;rw [getElem?_set_self (List.getElem?_eq_some_iff.mp e).1] at h2;cases h2;exact ⟨by rw [l];exact (h.2 j b c h1 e).1,k⟩
 ·rw [getElem?_set_ne (Ne.symm hj)] at h2;exact h.2 j b d h1 h2
theorem ZT {rs:List Row}:vP rs none:=λ _ _ z=>nomatch z
theorem wO {α:Type} {xs:List α} {i:Nat} {x y:α} (h:y∈xs.set i x):y∈xs\/y=x:=List.mem_or_eq_of_mem_set h
theorem Qn {r:Row} {hs:List (Option Int)} {bs:List Bool} {t:Int} {side:Nat} {ch:Option Nat × Option Nat × Nat} (ok:r.ok) (hl:hs.length=r.ins.length) (bl:bs.length=r.outs.length) (sd:vT r side) (h:qm r hs bs t side=some ch) :
  (∀ j,ch.1=some j->j < r.ins.length)/\(∀ j,ch.2.1=some j->j < r.outs.length)/\(r.wd=.joiner->∃ j,ch.1=some j)/\(ch.1=none->r.wd=.source)/\vT r ch.2.2/\xp r ch < (qv r).length:=by
 obtain ⟨wd,ins,outs,pace,kinds⟩:=r;have cp:=ZL ok;unfold qm at h;cases wd with
 | source =>
  simp only at h;obtain ⟨h1,⟨o,h2⟩,_⟩:=ok;simp only at h1 h2;subst h1 h2
  split at h
  ·cases h;exact ⟨(λ j z=>nomatch z),λ j z=>by cases z;simp,(λ z=>nomatch z),λ _=>rfl,sd,by simp [xp];omega⟩
  ·cases h
 | drain =>
  simp only at h;obtain ⟨⟨o,h1⟩,h2,_⟩:=ok;simp only at h1 h2;subst h1 h2
  split at h
  ·cases h
  ·cases h;exact ⟨λ j z=>by cases z;simp,(λ j z=>nomatch z),(λ z=>nomatch z),(λ z=>nomatch z),sd,by simp [xp];omega⟩
 | parter =>
  simp only at h;obtain ⟨⟨o,h1⟩,h2,h3⟩:=ok;simp only at h1 h2 h3 bl;subst h1
  split at h
  ·cases h
  ·rw [Option.map_eq_some_iff] at h;obtain ⟨q,hq,rfl⟩:=h;have hlt:=xY hq;refine ⟨λ j z=>by cases z;simp,λ j z=>by cases z;show q < outs.length;omega,(λ z=>nomatch z),(λ z=>nomatch z),⟨Int.natCast_nonneg _,λ _=>?_,(λ z=>nomatch z),λ z=>absurd rfl z⟩,?_⟩
   ·have:=Nat.mod_lt (q + 1) (show 0 < bs.length by omega);show (((q + 1) % bs.length:Nat):Int) < outs.length
    omega
   ·simp only [xp,Option.getD_some];rw [if_neg (by decide)];show q < (List.replicate (max 1 outs.length) 0).length
    rw [length_replicate];omega
 | first =>
  simp only at h;obtain ⟨⟨o,h1⟩,h2,h3⟩:=ok;simp only at h1 h2 h3 bl;subst h1
  split at h
  ·cases h
  ·rw [Option.map_eq_some_iff] at h;obtain ⟨q,hq,rfl⟩:=h;have hlt:=xY hq;refine ⟨λ j z=>by cases z;simp,λ j z=>by cases z;show q < outs.length;omega,(λ z=>nomatch z),(λ z=>nomatch z),sd,?_⟩;simp only [xp,Option.getD_some];rw [if_neg (by decide)];show q < (List.replicate (max 1 outs.length) 0).length
   rw [length_replicate];omega
 | sieve =>
  simp only at h;obtain ⟨⟨o,h1⟩,h2,_⟩:=ok;simp only at h1 h2 bl;subst h1
  split at h
  ·cases h
  ·generalize (if hs.getD 0 none=some (kinds.headD 0) then 0 else 1)=q at h;have q2:q=q:=rfl
   split at h
   ·rename_i hb;cases h;have hlt:q < outs.length:=by
     rcases Nat.lt_or_ge q bs.length with z|z
     ·omega
     ·rw [getD_eq_getElem?_getD,getElem?_eq_none z] at hb;cases hb
    refine ⟨λ j z=>by cases z;simp,λ j z=>by cases z;exact hlt,(λ z=>nomatch z),(λ z=>nomatch z),sd,?_⟩;simp only [xp,Option.getD_some];rw [if_neg (by decide)];show q < (List.replicate (max 1 outs.length) 0).length
    rw [length_replicate];omega
   ·cases h
 | joiner =>
  simp only at h;obtain ⟨⟨o,h1⟩,h2,h3⟩:=ok;simp only at h1 h2 h3 hl;subst h1
  split at h
  ·rw [Option.map_eq_some_iff] at h;obtain ⟨q,hq,rfl⟩:=h;have hlt:=xY hq;rw [length_map] at hlt;refine ⟨λ j z=>by cases z;show q < ins.length;omega,λ j z=>by cases z;simp,λ _=>⟨q,rfl⟩,(λ z=>nomatch z),⟨Int.natCast_nonneg _,(λ z=>nomatch z),λ _=>?_,λ _ z=>absurd rfl z⟩,?_⟩
   ·have:=Nat.mod_lt (q + 1) (show 0 < hs.length by omega);show (((q + 1) % hs.length:Nat):Int) < ins.length
    omega
   ·simp only [xp,Option.getD_some];rw [if_pos trivial];show q < (List.replicate (max ins.length 1) 0).length
    rw [length_replicate];omega
  ·cases h
theorem VE {bs:List (Int × Int)} {rs:List Row} {st:PSt} {k:Nat} {r:Row} {fb:Option Int} (wf:stWf bs rs st) (wok:zC bs rs) (bo:∀ b∈bs,zu b.1 b.2) (ro:∀ r∈rs,r.ok) (hr:rs[k]?=some r) (hf:∀ b,fb=some b->b∈rgI bs.length) (hn:fb=none->r.wd=.source) :
  stWf bs rs (qw st k fb).2/\vP rs (qw st k fb).1:=by
 cases fb with
 | none =>
  refine ⟨wf,λ s n z=>?_⟩;have z:((k:Int),(st.gone.getD k []).headD 0)=(s,n):=Option.some.inj z;cases z;refine ⟨k,r,rfl,hr,hn rfl,?_⟩;have hk:=(List.getElem?_eq_some_iff.mp hr).1;have hg:st.gone[k]?=some (st.gone.getD k []):=by
   rw [getD_eq_getElem?_getD,getElem?_eq_getElem (by rw [wf.go.1];exact hk)]
   rfl
  obtain ⟨q1,q2⟩:=wf.go.2 k r _ hr hg;have cp:=ZL (ro r (mem_of_getElem? hr));cases e:st.gone.getD k [] with
  | nil=>rw [e] at q1;simp at q1;omega
  | cons x xs=>exact q2 x (by rw [e];simp)
 | some b =>
  obtain ⟨i,rfl,hi,ei,ne,wk⟩:=wp wf.co bo (hf b rfl);refine ⟨⟨?_,wf.so,wf.go⟩,wk _ (zci ne)⟩;show jJ bs rs (st.cells.set _ _)
  rw [Int.toNat_natCast];refine Qo wf.co ei (by simp [Jy]) λ x hx=>?_;rcases wO hx with h|h
  ·exact wk x h
  ·rw [h];exact ZT
theorem V6 {bs:List (Int × Int)} {rs:List Row} {st:PSt} {x:zR} {tb:Option Int} (wf:stWf bs rs st) (bo:∀ b∈bs,zu b.1 b.2) (hf:∀ b,tb=some b->b∈rgI bs.length) (hx:vP rs x):stWf bs rs (Z6 st x tb):=by
 cases tb with
 | none=>exact wf
 | some b =>
  obtain ⟨i,rfl,hi,ei,ne,wk⟩:=wp wf.co bo (hf b rfl);refine ⟨?_,wf.so,wf.go⟩;show jJ bs rs (st.cells.set _ _)
  rw [Int.toNat_natCast];refine Qo wf.co ei (by simp) λ z hz=>?_;rcases wO hz with h|h
  ·exact wk z h
  ·rw [h];exact hx
theorem zdN {rs:List Row} {sds:List Int} {k:Nat} {r:Row} {s:Int} (h:WE rs sds) (hr:rs[k]?=some r) (hs:vT r s):WE rs (sds.set k s):=by
 refine ⟨by rw [length_set];exact h.1,λ j r2 s2 h1 h2=>?_⟩;by_cases hj:j=k
 ·subst hj;rw [getElem?_set_self (by rw [h.1];exact (List.getElem?_eq_some_iff.mp h1).1)] at h2;cases h2;rw [hr] at h1;cases h1;exact hs
 ·rw [getElem?_set_ne (Ne.symm hj)] at h2;exact h.2 j r2 s2 h1 h2
theorem qQ {α:Type} {xs:List α} {k:Nat} {d:α} (h:k < xs.length):xs[k]?=some (xs.getD k d):=by
 rw [getD_eq_getElem?_getD,getElem?_eq_getElem h];rfl
theorem zcs {g:List Int} {j:Nat} (h:∀ x∈g,0<=x):(XW g j).length=g.length/\∀ x∈XW g j,0<=x:=by
 refine ⟨by simp [XW],λ x hx=>?_⟩;rcases wO hx with z|z
 ·exact h x z
 ·rw [z];have:0<=g.getD j 0:=by
   rw [getD_eq_getElem?_getD];cases e:g[j]? with
   | none=>simp
   | some v=>exact h v (mem_of_getElem? e)
  omega
theorem zfO {bs:List (Int × Int)} {rs:List Row} {st:PSt} {k:Nat} (wf:stWf bs rs st) (wok:zC bs rs) (bo:∀ b∈bs,zu b.1 b.2) (ro:∀ r∈rs,r.ok):stWf bs rs (qW rs st k).1:=by
 unfold qW;cases hr:rs[k]? with
 | none=>exact wf
 | some r =>
  simp only;have hk:=(List.getElem?_eq_some_iff.mp hr).1;have ok:=ro r (mem_of_getElem? hr);have hsd:=wf.so.2 k r _ hr (qQ (d:=0) (by rw [wf.so.1];exact hk));have hsd':vT r ((st.sides.getD k 0).toNat:Int):=by rw [Int.toNat_of_nonneg hsd.1];exact hsd
  cases hc:qm r (qu rs st.cells r) (jO st.cells r) st.turn (st.sides.getD k 0).toNat with
  | none=>exact wf
  | some ch =>
   obtain ⟨c1,c2,c3,c4,c5,c6⟩:=Qn ok (by simp [qu]) (by simp [jO]) hsd' hc;have hfb:∀ b,xf r ch=some b->b∈rgI bs.length:=λ b hb=>by
    unfold xf at hb;obtain ⟨j,hj1,hj2⟩:=Option.bind_eq_some_iff.mp hb;exact Jh wok hr (mem_of_getElem? hj2)
   have htb:∀ b,ZU r ch=some b->b∈rgI bs.length:=λ b hb=>by
    unfold ZU at hb;obtain ⟨j,hj1,hj2⟩:=Option.bind_eq_some_iff.mp hb;exact JO wok hr (mem_of_getElem? hj2)
   have hfn:xf r ch=none->r.wd=.source:=λ hb=>by
    cases e:ch.1 with
    | none=>exact c4 e
    | some j =>
     unfold xf at hb;rw [e] at hb;simp at hb;have:=c1 j e;omega
   obtain ⟨w1,w2⟩:=VE wf wok bo ro hr hfb hfn;have w3:=V6 w1 bo htb w2;refine ⟨w3.co,zdN w3.so hr c5,?_⟩;have hg:=qQ (xs:=(movedF r st k ch).gone) (k:=k) (d:=[]) (by rw [show (movedF r st k ch).gone.length=rs.length from w3.go.1];exact hk);obtain ⟨q1,q2⟩:=w3.go.2 k r _ hr hg;exact zey w3.go hg (zcs q2).1 (zcs q2).2
theorem KnP.no {H:Hp} {p:Addr->Prop} {y C dx:Addr} {fs:List (Str × V)} {r:Row} {f:Str} (h:KnP a H p (.ref y) r) (hy:H y=some (.ins C dx fs)) (h1:f≠"ins") (h2:f≠"outs") (h3:f≠"pace") (h4:f≠"kinds") (h5:f≠"kind"):fs.lookup f=none:=by
 obtain ⟨y',dx',fs',e,_,hy',_,g⟩:=Rep.ob' h;cases e;rw [hy] at hy';cases hy';exact g f (zeo h1 h2 h3 h4 h5)
theorem StO.offT {H:Hp} {y:Addr} {n:SN} {st:PSt} (h:StO a H y n st) {b:Addr} (t:zN H b):b ∉ y :: n.all:=by
 obtain ⟨xs,hx⟩:=t;intro hb;have no:∀ us,H b≠some (.lst us):=λ us e=>by rw [hx] at e;cases e
 unfold SN.all at hb;rcases List.mem_cons.mp hb with rfl|hb
 ·rw [h.hy] at hx;cases hx
 rcases List.mem_cons.mp hb with rfl|hb
 ·exact no _ h.hs
 rcases List.mem_cons.mp hb with rfl|hb
 ·exact no _ h.hc.out
 rcases List.mem_cons.mp hb with rfl|hb
 ·exact no _ h.hg.out
 rcases List.mem_append.mp hb with hb|hb
 ·obtain ⟨us,e⟩:=h.hc.isl (mem_cons_of_mem _ hb);exact no _ e
 ·obtain ⟨us,e⟩:=h.hg.isl (mem_cons_of_mem _ hb);exact no _ e
theorem StO.repT {H H':Hp} {y:Addr} {n:SN} {st:PSt} (h:StO a H y n st) (s:Fr (y :: n.all) H H') {v:V} {d:D} (r:Rep H (zN H) v d):Rep H' (zN H') v d :=
 Rep.keep (λ b o hp hb=>⟨by obtain ⟨xs,hx⟩:=hp;exact ⟨xs,s _ _ (h.offT ⟨xs,hx⟩) hx⟩,s _ _ (h.offT hp) hb⟩) r
theorem zer (ns:List Int) (k:Nat) (x:Int):(iv ns).set k (.int x)=iv (ns.set k x):=by simp [iv]
theorem zcL {H H':Hp} {v:V} {d:D} (r:Rep H (zN H) v d) (s:Same H H'):Rep H' (zN H') v d:=Rep.keep (λ b o ⟨xs,hx⟩ hb=>⟨⟨xs,s _ _ hx⟩,s _ _ hb⟩) r
def zdM (a:Ad):Sp:=λ vs H Q _=>∃ (vw:V) (y:Addr) (n:SN) (st:PSt) (k:Nat) (bs:List (Int × Int)) (rs:List Row),vs=[vw,.ref y,.int k]/\Rep H (Off (y :: n.all)) vw (zX a bs rs)/\StO a H y n st/\stWf bs rs st/\zC bs rs/\(∀ b∈bs,zu b.1 b.2)/\(∀ r∈rs,r.ok)/\k < rs.length /\
 ∀ v H',Fr (y :: n.all) H H'->StO a H' y n (qW rs st k).1->Rep H' (zN H') v (zeJ (qW rs st k).2)->Q v H'
theorem zfz {a:Ad} {vs:List V} {H:Hp} {Q:VK} {E:XK} (vw:V) (y:Addr) (n:SN) (st:PSt) (k:Nat) (bs:List (Int × Int)) (rs:List Row) (q0:vs=[vw,.ref y,.int k]) (q1:Rep H (Off (y :: n.all)) vw (zX a bs rs)) (q2:StO a H y n st) (q3:stWf bs rs st) (q4:zC bs rs) (q5:(∀ b∈bs,zu b.1 b.2)) (q6:(∀ r∈rs,r.ok)) (q7:k < rs.length) (q8:∀ v H',Fr (y :: n.all) H H'->StO a H' y n (qW rs st k).1->Rep H' (zN H') v (zeJ (qW rs st k).2)->Q v H'):zdM a vs H Q E:=⟨vw,y,n,st,k,bs,rs,q0,q1,q2,q3,q4,q5,q6,q7,q8⟩
theorem zgs (T:Txt K mg a) (F:Fun K "act" "act" VY f fd):FnOk P w K mg base (CXr P w) 4 f fd ["work","state","number"] (zdM a):=by
 refine F.okx zgc ?_ ?_
 ·walk_at "i"
 walk_at "j";obtain ⟨vw,y,n,st,kn,bs,rs,rfl,hw,so,wf,wok,bo,ro,hk,k⟩:=h;obtain ⟨yw,dw,fw,l1,l2,bvs,kvs,rfl,hyw,ew1,ew2,hl1,hl2,hB,hK,no⟩:=jo hw;obtain ⟨r,hr'⟩:∃ r,rs[kn]?=some r:=⟨rs[kn],getElem?_eq_getElem hk⟩;have ok:=ro r (mem_of_getElem? hr');have rl:=wJ ok;obtain ⟨kv,hkv,hKn⟩:=Vh hK hr';obtain ⟨y1,dx1,m1,m2,m3,fs1,rfl,_,_,_,_,g0,f1,f2,_,g1,g2,_,_⟩:=hKn.inv;have fno:=hKn.no (f:="choice") g0 (by decide +kernel) (by decide +kernel) (by decide +kernel) (by decide +kernel) (by decide +kernel);have hsd:=wf.so.2 kn r _ hr' (qQ (d:=0) (by rw [wf.so.1];exact hk));obtain ⟨side,esd⟩:∃ sd:Nat,st.sides.getD kn 0=sd:=⟨(st.sides.getD kn 0).toNat,(Int.toNat_of_nonneg hsd.1).symm⟩;have hside:st.sides[kn]?=some (side:Int):=by rw [<- esd];exact qQ (by rw [wf.so.1];exact hk)
 have hsd':vT r (side:Int):=by rw [<- esd];exact hsd
 have esd':(st.sides.getD kn 0).toNat=side:=by rw [esd];rfl
 obtain ⟨lk1,lk2,lk3,lk4⟩:=sff_l (t:=st.turn) (lc:=n.lc) (ls:=n.ls) (lg:=n.lg);have hAct:∀ x,qm r (qu rs st.cells r) (jO st.cells r) st.turn side=x->qW rs st kn=match x with|none=>(st,none)|some ch=>((zay r st kn ch).1,some (zay r st kn ch).2):=λ x e=>by
  unfold qW;rw [hr'];simp only;rw [esd',e]
  all_goals (cases x <;> rfl)
 walk_at "T";refine ⟨_,(zi (zo 3 zgc.nd (zv (zl (pq 0) rfl) (pq 2)))  (zi (JJ (i:=4) zgc.nd rfl (Or.inl rfl) (vars:=["belt"]) (caps:=[1]) (N:=["belt","state"]) (ON:=["work","state","number","knot","free","chosen","from_belt","to_belt","ware"]) (osc:=ze VY) rfl rfl (by first|decide +kernel|kernel_rfl) rfl rfl (qd (zl (pq 3) rfl)) (λ s H fp pins=>(qr 0 (show (["belt","state"]:List Str).Nodup from by decide +kernel))) (λ s H fp pins=>z8) (λ s H fp pins=>(wj op_isN (zv (zv (zl (pq 1) rfl) (pq 0)) zd) zy (zw _))))  (zi (zo 5 zgc.nd (zd8 ⟨rfl,rfl,rfl⟩ hr (pq 3) (za (zm ⟨rfl,rfl,rfl⟩ hr (za (pq 0) (za (pq 1) (za (pq 3) zc)))) (za (pq 4) (za (zl (pq 1) rfl) (za (zv (zl (pq 1) rfl) (pq 2)) zc))))))  (zi (zG (zq ji (pq 5) zy (zw _))  (zg (zk zy))  zp)  (zi (zo 6 zgc.nd (zm ⟨rfl,rfl,rfl⟩ hr (za (zl (pq 3) rfl) (za (zv (pq 5) zd) zc))))  (zi (zo 7 zgc.nd (zm ⟨rfl,rfl,rfl⟩ hr (za (zl (pq 3) rfl) (za (zv (pq 5) zd) zc))))  (zi (zo 8 zgc.nd (zm ⟨rfl,rfl,rfl⟩ hr (za (pq 1) (za (pq 2) (za (pq 6) zc)))))  (jd (zG (zq Zx (pq 7) zy (zw _))  (zg (Z4 (pq 8) (JN (zv (zl (pq 1) rfl) (pq 7)) zd xM)))  zp)  (zi (Z4 (zv (pq 5) zd) (JN (zl (pq 1) rfl) (pq 2) xM))  (zi (zfi (zv (zl (pq 1) rfl) (pq 2)) (zm ⟨rfl,rfl,rfl⟩ hr (za (pq 3) (za (pq 5) zc))) zeA zd zgI xM)  (zg (zk (qI (za (pq 2) (za (pq 8) (za (pq 6) (za (pq 7) zc))))))))))))))))),?_⟩;walk_at "go";refine ra hyw T.C_Work T.N_Work_knots ew2 (zt (SqL.of hl2) (zJ hkv) ?_);walk_at "go";walk_at "lc";walk_at "go";refine ra g0 (CT T _) (NO T _) f2 ⟨m2,rfl,.inl ⟨⟨_,SqL.of g2⟩,λ _ _ _ _ acc hacc=>?_⟩⟩;refine qR (K:=K) (a:=m2) (xs:=iv r.outs) (λ i σ H'=>∃ (v0:Option V),σ=[v0,some (.ref y)]/\Same H H'/\H' acc=some (.lst (((jO st.cells r).take i).map V.bl))) ⟨_,rfl,zf hacc,by rw [take_zero];exact upd_same⟩ (λ i σ H' _ h=>by obtain ⟨_,_,s,_⟩:=h;exact SqL.of (s _ _ g2)) ?_ ?_
 ·rintro i x σ H2 hi ⟨v0,rfl,s2,ha⟩;obtain ⟨b,hb,rfl⟩:=Xe hi;have hil:=(List.getElem?_eq_some_iff.mp hb).1;obtain ⟨j,rfl,hj,ej,nej,_⟩:=wp wf.co bo (JO wok hr' (mem_of_getElem? hb));obtain ⟨bC,vs,hbC,hvC,rvC⟩:=so.cell ej;obtain ⟨c0,cs,ec⟩:∃ c0 cs,z6 st.cells j=c0 :: cs:=exists_cons_of_ne_nil nej;have hfr:(jO st.cells r)[i]?=some (decide (c0=none)):=by rw [jO,getElem?_map,hb];simp [ec,zht]
  rw [ec] at rvC;obtain ⟨v1,hv1,rv1⟩:=rvC.of (i:=0) (d:=zZ c0) rfl;walk_at "go";refine ra (s2 _ _ so.hy) T.C_State T.N_State_cells lk1 (zt (SqL.of (s2 _ _ so.hc.out)) (zJ (ZS hbC)) (zt (SqL.of (s2 _ _ hvC)) (zJ (j:=0) hv1) ?_));walk_at "go";have ev:decide (v1=V.non)=decide (c0=none):=by
   cases c0 with
   | none=>cases rv1;rfl
   | some x=>obtain ⟨t,us,rfl,_⟩:=Rep.tup' rv1;rfl
  rw [ev];refine ⟨_,ha,zj (by rw [length_map,length_take];omega),_,rfl,(λ b o hb=>by rw [upd_ne (ne_of_none hb hacc)];exact s2 b o hb),?_⟩;rw [upd_same,take_add_one,hfr,map_append]
  rfl
 rintro σ H2 ⟨v0,rfl,s2,ha⟩;rw [zD,take_of_length_le (by simp [jO])] at ha;walk_at "go";refine ⟨y1,wo a r.wd,dx1,fs1,_,_,_,rfl,s2 _ _ g0,fno,(zej T r.wd).mono,?_⟩;refine uc (zbO T).mono (zc9 _ _ _ bs rs st kn r _ _ rfl (jM hw s2) ((so.same s2).rep) (jM hKn s2) hr' wok bo ro wf.co (λ hl H3 s3 nhl hhl=>?_));have s23:=s2.trans s3;refine ra (s23 _ _ so.hy) T.C_State T.N_State_turn lk4 ?_;refine ra (s23 _ _ so.hy) T.C_State T.N_State_sides lk2 (zt (SqL.of (s23 _ _ so.hs)) (zJ (xI hside)) ?_);refine ⟨y1,hl,acc,r,_,qu rs st.cells r,jO st.cells r,st.turn,side,rfl,jM hKn s23,rfl,ok,hhl,s3 _ _ ha,by simp [qu],by simp [jO],λ vc H4 s4 tc=>?_⟩;have s24:=s23.trans s4;have so4:=so.same s24;have hKn4:=jM hKn s24;walk_at "go";cases hc:qm r (qu rs st.cells r) (jO st.cells r) st.turn side with
 | none =>
  rw [hc] at tc;have tc:vc=.non:=tc;subst tc;have e:=hAct _ hc;refine zL (λ _=>?_) (λ b=>absurd rfl b);walk_at "go";refine k _ _ s24.fr ?_ ?_
  ·rw [e];exact so4
  ·rw [e];exact .non
 | some ch =>
  rw [hc] at tc;obtain ⟨ct,rfl,hct⟩:=tc;have e:=hAct _ hc;obtain ⟨c1,c2,c3,c4,c5,c6⟩:=Qn ok (by simp [qu]) (by simp [jO]) hsd' hc;have hfb:∀ b,xf r ch=some b->b∈rgI bs.length:=λ b hb=>by
   unfold xf at hb;obtain ⟨j,hj1,hj2⟩:=Option.bind_eq_some_iff.mp hb;exact Jh wok hr' (mem_of_getElem? hj2)
  have htb:∀ b,ZU r ch=some b->b∈rgI bs.length:=λ b hb=>by
   unfold ZU at hb;obtain ⟨j,hj1,hj2⟩:=Option.bind_eq_some_iff.mp hb;exact JO wok hr' (mem_of_getElem? hj2)
  have hfn:xf r ch=none->r.wd=.source:=λ hb=>by
   cases e:ch.1 with
   | none=>exact c4 e
   | some j =>
    unfold xf at hb;rw [e] at hb;simp at hb;have:=c1 j e;omega
  obtain ⟨w1,w2⟩:=VE wf wok bo ro hr' hfb hfn;have w3:=V6 w1 bo htb w2;have hg0:=qQ (xs:=st.gone) (k:=kn) (d:=[]) (by rw [wf.go.1];exact hk);obtain ⟨q1,q2⟩:=wf.go.2 kn r _ hr' hg0;have cp:=ZL ok;obtain ⟨g0',gs,eg⟩:∃ g0 gs,st.gone.getD kn []=g0 :: gs:=exists_cons_of_ne_nil λ z=>by rw [z] at q1;simp at q1;omega
  rw [eg] at hg0;refine zL (λ b=>by cases b) (λ _=>?_);walk_at "go";refine uc (Wo T).mono (ra (s24 _ _ g0) (CT T _) (NI T _) f1 (rd_ixT hct at0 ?_));refine ⟨m1,r.ins,ch.1,rfl,s24 _ _ g1,c1,?_⟩;walk_at "go";refine uc (Wo T).mono (ra (s24 _ _ g0) (CT T _) (NO T _) f2 (rd_ixT hct (show atI (chV ch) 1=some (vB ch.2.1) from rfl) ?_));refine ⟨m2,r.outs,ch.2.1,rfl,s24 _ _ g2,c2,?_⟩;walk_at "go";refine uc (Vt T).mono (zc8 y n st kn (xf r ch) g0' gs rfl so4 hg0 (λ b hb=>?_) (λ v5 H5 f5 so5 rv5=>?_))
  ·obtain ⟨i,e1,_,e2,e3,_⟩:=wp wf.co bo (hfb b hb);exact ⟨i,e1,e2,e3⟩
  have hct5:=f5 _ _ (so4.offT ⟨_,hct⟩) hct;have hKn5:=hKn4.fr f5;have fr5:=(s24.fr (ms:=y :: n.all)).trans f5;rw [show (ch.1.bind λ j=>r.ins[j]?)=xf r ch from rfl,show (ch.2.1.bind λ j=>r.outs[j]?)=ZU r ch from rfl];walk_at "go";refine cut (λ σ' H'=>σ'=[some (.ref yw),some (.ref y),some (.int kn),some (.ref y1),some (.ref acc),some (.ref ct),some (hdV (xf r ch)),some (hdV (ZU r ch)),some v5]/\Fr (y :: n.all) H5 H'/\StO a H' y n (movedF r st kn ch)) ?_ ?_
  ·have w4:=λ b (hb:ZU r ch=some b)=>wp w1.co bo (htb b hb);unfold movedF;generalize ZU r ch=tb at w4 ⊢;walk_at "go";cases tb with
   | none =>
    refine zL (λ b=>absurd rfl b) (λ _=>?_);walk_at "go";exact ⟨.refl,so5⟩
   | some b =>
    obtain ⟨i,rfl,_,e2,e3,_⟩:=w4 b rfl;obtain ⟨bC,vs,hbC,hvC,rvC⟩:=so5.cell e2;have lv:vs.length=(z6 (qw st kn (xf r ch)).2.cells i).length:=by rw [rvC.len,length_map]
    have lp:0 < vs.length:=by rw [lv];exact List.length_pos_iff.mpr e3
    refine zL (λ _=>?_) (λ b=>absurd (λ z=>by cases z) b);walk_at "go";refine ra so5.hy T.C_State T.N_State_cells sff_l.1 (zt (SqL.of so5.hc.out) (zJ (ZS hbC)) ?_);walk_at "go";refine vo (j:=0) hvC (Xd (by decide) (by simpa using lp)) ?_;refine ⟨jB (Vy hbC),?_⟩;have:=so5.putC hbC (c':=(z6 (qw st kn (xf r ch)).2.cells i).set 0 (qw st kn (xf r ch)).1) (by rw [map_set];exact Reps.set rvC 0 rv5);simpa [Z6] using this
  rintro σ H6 ⟨rfl,f6,so6⟩;have hct6:=f6 _ _ (so5.offT ⟨_,hct5⟩) hct5;have hKn6:=hKn5.fr f6;have rv6:=so5.repT f6 rv5;have fr6:=fr5.trans f6;walk_at "go";refine rd_ixT hct6 (show atI (chV ch) 2=some (.int ch.2.2) from rfl) ?_;walk_at "go";refine ra so6.hy T.C_State T.N_State_sides sff_l.2.1 (vo so6.hs (Xd (Int.natCast_nonneg _) (by rw [zD,show (movedF r st kn ch).sides.length=rs.length from w3.so.1];exact Int.ofNat_lt.mpr hk)) ?_);rw [Int.toNat_natCast,zer];have so7:=so6.putS (s':=(movedF r st kn ch).sides.set kn ch.2.2);have f7:Fr (y :: n.all) H6 (upd H6 n.ls (.lst (iv ((movedF r st kn ch).sides.set kn ch.2.2)))):=jB (by simp [SN.all]);have hct7:=f7 _ _ (so6.offT ⟨_,hct6⟩) hct6;have hKn7:=hKn6.fr f7;have rv7:=so6.repT f7 rv6;have fr7:=fr6.trans f7;generalize upd H6 n.ls (.lst (iv ((movedF r st kn ch).sides.set kn ch.2.2)))=H7 at so7 hct7 hKn7 rv7 fr7 ⊢;have hg7:=qQ (xs:=(movedF r st kn ch).gone) (k:=kn) (d:=[]) (by rw [show (movedF r st kn ch).gone.length=rs.length from w3.go.1];exact hk);obtain ⟨p1,p2⟩:=w3.go.2 kn r _ hr' hg7;obtain ⟨bG,hbG,hgG⟩:=so7.goneL hg7;have e0:zay r st kn ch=({ movedF r st kn ch with sides:=(movedF r st kn ch).sides.set kn ch.2.2,gone:=(movedF r st kn ch).gone.set kn (XW ((movedF r st kn ch).gone.getD kn []) (xp r ch)) },⟨kn,(qw st kn (xf r ch)).1,xf r ch,ZU r ch⟩):=rfl;have so8:=so7.putG (g':=XW ((movedF r st kn ch).gone.getD kn []) (xp r ch)) hbG;generalize (movedF r st kn ch).gone.getD kn []=g at *;have hcp:xp r ch < g.length:=by rw [p1];exact c6
  walk_at "go";unfold zfT;walk_at "go";refine ra so7.hy T.C_State T.N_State_gone sff_l.2.2.1 (zt (SqL.of so7.hg.out) (zJ (zcu hbG)) ?_);walk_at "go";refine uc (Q6 T).mono (zau _ ct r ch _ rfl hKn7 hct7 c3 ?_);refine ⟨bG,_,xp r ch,_,rfl,rfl,SqL.of hgG,Int.natCast_nonneg _,zJ (xI (qQ (d:=0) hcp)),?_⟩;walk_at "go";refine vo hgG (Xd (Int.natCast_nonneg _) (by rw [zD];exact Int.ofNat_lt.mpr hcp)) ?_;rw [Int.toNat_natCast,zer];have f8:Fr (y :: n.all) H7 (upd H7 bG (.lst (iv (g.set (xp r ch) (g.getD (xp r ch) 0 + 1))))):=jB (zfN hbG);have rv8:=so7.repT f8 rv7;change StO a (upd H7 bG (.lst (iv (g.set (xp r ch) (g.getD (xp r ch) 0 + 1))))) y n _ at so8;have fr8:=fr7.trans f8;generalize e8:upd H7 bG (.lst (iv (g.set (xp r ch) (g.getD (xp r ch) 0 + 1))))=H8 at so8 f8 rv8 fr8 ⊢;walk_at "go";intro t ht;refine k _ _ (fr8.trans (zbE ht)) ?_ ?_
  ·rw [e];simp only;rw [e0];exact so8.same (zf ht)
  ·rw [e];simp only;rw [e0];exact Reps.mkT (vs:=[.int kn,v5,hdV (xf r ch),hdV (ZU r ch)]) (.cons .int (.cons (zcL rv8 (zf ht)) (.cons (zb1 _) (.cons (zb1 _) .nil)))) ⟨_,upd_same⟩ upd_same
theorem zhr (T:Txt K mg a):Cal P w K mg base "act" 4 ["work","state","number"] [] (zdM a):=T.h_act.cal (zgs T)
def zr (rs:List Row) (st:PSt):Nat->PSt × List Move
 | 0=>(st,[])
 | i + 1=>((qW rs (zr rs st i).1 i).1,(zr rs st i).2 ++ (qW rs (zr rs st i).1 i).2.toList)
theorem x6 {bs:List (Int × Int)} {rs:List Row} {st:PSt} (wf:stWf bs rs st) (wok:zC bs rs) (bo:∀ b∈bs,zu b.1 b.2) (ro:∀ r∈rs,r.ok):∀ i,stWf bs rs (zr rs st i).1
 | 0=>wf
 | i + 1=>zfO (x6 wf wok bo ro i) wok bo ro
theorem Xn (rs:List Row) (st:PSt):∀ i,(zr rs st i).2.length<=i
 | 0=>Nat.le_refl _
 | i + 1=>by
  have:=Xn rs st i;show ((zr rs st i).2 ++ (qW rs (zr rs st i).1 i).2.toList).length<=i + 1
  rw [length_append];cases (qW rs (zr rs st i).1 i).2 with
  | none=>exact Nat.le_succ_of_le this
  | some _=>exact Nat.succ_le_succ this
section
variable {H H':Hp} {y:Addr} {n:SN} {st:PSt}
theorem StO.offN (h:StO a H y n st) {b:Addr} (e:H b=none):b ∉ y :: n.all:=by
 have no:∀ o,H b≠some o:=λ o z=>by rw [e] at z;cases z
 intro hb;unfold SN.all at hb;rcases List.mem_cons.mp hb with rfl|hb
 ·exact no _ h.hy
 rcases List.mem_cons.mp hb with rfl|hb
 ·exact no _ h.hs
 rcases List.mem_cons.mp hb with rfl|hb
 ·exact no _ h.hc.out
 rcases List.mem_cons.mp hb with rfl|hb
 ·exact no _ h.hg.out
 rcases List.mem_append.mp hb with hb|hb
 ·obtain ⟨us,z⟩:=h.hc.isl (mem_cons_of_mem _ hb);exact no _ z
 ·obtain ⟨us,z⟩:=h.hg.isl (mem_cons_of_mem _ hb);exact no _ z
theorem StO.out {M:Addr} {us vs:List V} (h:StO a H y n st) (e:H M=some (.lst us)) (nM:M ∉ y :: n.all):StO a (upd H M (.lst vs)) y n st:=by
 have k:∀ c o,c≠M->H c=some o->upd H M (.lst vs) c=some o:=λ c o nc hc=>by rw [upd_ne nc];exact hc
 have kt:∀ c,zN H c->c≠M:=λ c ⟨xs,hx⟩ z=>by rw [z,e] at hx;cases hx
 refine ⟨k _ _ (λ z=>nM (by rw [<- z];simp)) h.hy,h.hc.tup λ c o hz hc=>k c o (λ z=>?_) hc,k _ _ (λ z=>nM (by rw [<- z];simp [SN.all])) h.hs,h.hg.tup λ c o hz hc=>k c o (λ z=>?_) hc,h.nd⟩
 ·rcases hz with rfl|hz|hz
  ·exact nM (by rw [<- z];simp [SN.all])
  ·exact nM (by rw [<- z];simp [SN.all,hz])
  ·exact kt c hz z
 ·rcases hz with rfl|hz|hz
  ·exact nM (by rw [<- z];simp [SN.all])
  ·exact nM (by rw [<- z];simp [SN.all,hz])
  ·exact kt c hz z
theorem StO.repsT (h:StO a H y n st) (s:Fr (y :: n.all) H H') {vs:List V} {ds:List D} (r:Reps H (zN H) vs ds):Reps H' (zN H') vs ds :=
 ⟨r.len,λ i v d h1 h2=>h.repT s (r.g i v d h1 h2)⟩
theorem V1 {M:Addr} {us vs:List V} (e:H M=some (.lst us)) {v:V} {d:D} (r:Rep H (zN H) v d):Rep (upd H M (.lst vs)) (zN (upd H M (.lst vs))) v d :=
 Rep.keep (λ b o hp hb=>⟨Q7 e hp,by obtain ⟨xs,hx⟩:=hp;rw [upd_ne (λ z=>by rw [z,e] at hx;cases hx)];exact hb⟩) r
theorem zcK {M:Addr} {us vs:List V} (e:H M=some (.lst us)) {ws:List V} {ds:List D} (r:Reps H (zN H) ws ds):Reps (upd H M (.lst vs)) (zN (upd H M (.lst vs))) ws ds :=
 ⟨r.len,λ i v d h1 h2=>V1 e (r.g i v d h1 h2)⟩
end
def Jw (a:Ad):Sp:=λ vs H Q _=>∃ (vw:V) (y:Addr) (n:SN) (st:PSt) (bs:List (Int × Int)) (rs:List Row),vs=[vw,.ref y]/\Rep H (Off (y :: n.all)) vw (zX a bs rs)/\StO a H y n st/\stWf bs rs st/\zC bs rs/\(∀ b∈bs,zu b.1 b.2)/\(∀ r∈rs,r.ok) /\
 ∀ l us H',Fr (y :: n.all) H H'->StO a H' y n (zr rs st rs.length).1->H l=none->l ∉ y :: n.all->H' l=some (.lst us)->Reps H' (zN H') us ((zr rs st rs.length).2.map QH)->Q (.ref l) H'
theorem zbB {a:Ad} {vs:List V} {H:Hp} {Q:VK} {E:XK} (vw:V) (y:Addr) (n:SN) (st:PSt) (bs:List (Int × Int)) (rs:List Row) (q0:vs=[vw,.ref y]) (q1:Rep H (Off (y :: n.all)) vw (zX a bs rs)) (q2:StO a H y n st) (q3:stWf bs rs st) (q4:zC bs rs) (q5:(∀ b∈bs,zu b.1 b.2)) (q6:(∀ r∈rs,r.ok)) (q7:∀ l us H',Fr (y :: n.all) H H'->StO a H' y n (zr rs st rs.length).1->H l=none->l ∉ y :: n.all->H' l=some (.lst us)->Reps H' (zN H') us ((zr rs st rs.length).2.map QH)->Q (.ref l) H'):Jw a vs H Q E:=⟨vw,y,n,st,bs,rs,q0,q1,q2,q3,q4,q5,q6,q7⟩
theorem zbh (T:Txt K mg a) (F:Fun K "act_all" "act_all" va f fd):FnOk P w K mg base (CXr P w) 5 f fd ["work","state"] (Jw a):=by
 refine F.okx zaV ?_ ?_
 ·walk_at "i"
 walk_at "j";obtain ⟨vw,y,n,st,bs,rs,rfl,hw,so,wf,wok,bo,ro,k⟩:=h;obtain ⟨yw,dw,fw,l1,l2,bvs,kvs,rfl,hyw,ew1,ew2,hl1,hl2,hB,hK,no⟩:=jo hw;have lk:kvs.length=rs.length:=hK.len;have r24:=wok.1.2.2;walk_at "T";refine ⟨_,(zh (zo 2 zaV.nd (zz zc))  (jd (jh jS rfl (we (za (zQ zV zU (za (zl (pq 0) rfl) zc)) zc)) (qr 3 zaV.nd)  (zh (zo 4 zaV.nd (zm ⟨rfl,rfl,rfl⟩ hr (za (pq 0) (za (pq 1) (za (pq 3) zc)))))  (zg (zG (zq Zx (pq 4) zy (zw _))  (zg (zx (qJ PySem.F.plainAttrs_list PySem.F.slot_list_append PySem.F.type_list_append zK (pq 2) (za (pq 4) zc))))  zp))))  (zg (zk (pq 2))))),?_⟩;walk_at "go";intro M hM;have nM:=so.offN hM;have s1:=zf (o:=.lst []) hM;have hM1:upd H M (.lst []) M=some (.lst []):=upd_same;generalize upd H M (.lst [])=H1 at s1 hM1 ⊢;walk_at "go";refine cut (λ σ' H'=>∃ (v3 v4:Option V) (us:List V),σ'=[some (.ref yw),some (.ref y),some (.ref M),v3,v4]/\Fr (y :: n.all) H H'/\StO a H' y n (zr rs st rs.length).1/\H' M=some (.lst us)/\Reps H' (zN H') us ((zr rs st rs.length).2.map QH)) ?_ ?_
 ·walk_at "for";walk_at "go";refine ra (s1 _ _ hyw) T.C_Work T.N_Work_knots ew2 ?_;refine ⟨_,.inl ⟨_,SqL.of (s1 _ _ hl2),rfl⟩,?_⟩;rw [lk];walk_at "go";refine ⟨by omega,by omega,?_⟩;refine ZI (n:=(rs.length:Int).toNat) (λ i σ H'=>∃ (v3 v4:Option V) (us:List V),σ=[some (.ref yw),some (.ref y),some (.ref M),v3,v4]/\Fr (y :: n.all) H H'/\StO a H' y n (zr rs st i).1/\H' M=some (.lst us)/\Reps H' (zN H') us ((zr rs st i).2.map QH)) ⟨_,_,_,rfl,s1.fr,so.same s1,hM1,.nil⟩ ?_ (λ σ H' h=>?_)
  ·rintro i σ H2 hi ⟨v3,v4,us,rfl,f2,so2,hM2,r2⟩;have hi:i < rs.length:=by simpa using hi
   have al:=Xn rs st i;have lu:us.length=(zr rs st i).2.length:=by rw [r2.len,length_map]
   walk_at "go";simp only [Int.zero_add];refine uc (zhr T).mono (zfz (.ref yw) y n _ i bs rs rfl (hw.fr f2) so2 (x6 wf wok bo ro i) wok bo ro hi (λ v H3 f3 so3 rv=>?_));have f23:=f2.trans f3;have hM3:=f3 _ _ nM hM2;have r3:=so2.repsT f3 r2;have eA:zr rs st (i + 1)=((qW rs (zr rs st i).1 i).1,(zr rs st i).2 ++ (qW rs (zr rs st i).1 i).2.toList):=rfl;walk_at "go";cases e:(qW rs (zr rs st i).1 i).2 with
   | none =>
    rw [e] at rv eA;cases rv;refine zL (λ b=>absurd rfl b) (λ _=>?_);rw [eA];exact ⟨_,_,_,rfl,f23,so3,hM3,by rw [show (none:Option Move).toList=[] from rfl,append_nil];exact r3⟩
   | some m =>
    rw [e] at rv eA;refine zL (λ _=>?_) (λ b=>?_)
    ·walk_at "go";refine ⟨.inl ⟨rfl,_,SqL.of hM3⟩,M,_,_,rfl,rfl,hM3,zj (by omega),_,_,_,rfl,λ b o nb hb=>by rw [upd_ne (ne_of_none hb hM)];exact f23 b o nb hb,?_,upd_same,?_⟩
     ·rw [eA];exact so3.out hM3 nM
     ·rw [eA];show Reps _ _ _ (List.map QH ((zr rs st i).2 ++ [m]))
      rw [map_append];exact (zcK hM3 r3).append (Reps.one (V1 hM3 rv))
    ·exfalso;refine b λ z=>?_;subst z;cases rv
  ·have e:((rs.length:Int)).toNat=rs.length:=by simp
   rw [e] at h;exact h
 rintro σ' H2 ⟨v3,v4,us,rfl,f2,so2,hM2,r2⟩;walk_at "go";exact k _ _ _ f2 so2 hM nM hM2 r2
theorem Wp (T:Txt K mg a):Cal P w K mg base "act_all" 5 ["work","state"] [] (Jw a):=T.h_act_all.cal (zbh T)
def xn (c:List zR) (p:Nat):List zR:=if c.getD (p + 1) none=none then (c.set (p + 1) (c.getD p none)).set p none else c
def ZB (c:List zR):Nat->List zR
 | 0=>c
 | k + 1=>xn (ZB c k) (c.length - 2 - k)
def zal (c:List zR):List zR:=ZB c (c.length - 1)
theorem zbr {c:List zR} {p:Nat}:(xn c p).length=c.length:=by
 unfold xn
 split <;> simp
theorem ZA {c:List zR}:∀ k,(ZB c k).length=c.length
 | 0=>rfl
 | k + 1=>by rw [ZB,zbr,ZA k]
theorem zbq {c:List zR} {p:Nat} {x:zR} (h:x∈xn c p):x∈c\/x=none:=by
 unfold xn at h
 split at h
 ·rcases wO h with h|h
  ·rcases wO h with h|h
   ·exact .inl h
   ·rw [getD_eq_getElem?_getD] at h;cases e:c[p]? with
    | none=>rw [e] at h;exact .inr h
    | some y=>rw [e] at h;exact .inl (by rw [h];exact mem_of_getElem? e)
  ·exact .inr h
 ·exact .inl h
theorem zak {c:List zR} {x:zR}:∀ k,x∈ZB c k->x∈c\/x=none
 | 0=>λ h=>.inl h
 | k + 1=>λ h=>by
  rcases zbq h with h|h
  ·exact zak k h
  ·exact .inr h
theorem zdB {H:Hp} {b:Addr} {o:HO} (h:H b=some o):upd H b o=H:=by
 funext x
 by_cases e:x=b
 ·rw [e,upd_same,h]
 ·rw [upd_ne e]
theorem VB {H:Hp} {p:Addr->Prop} {v:V} {x:zR} (r:Rep H p v (zZ x)):v=.non ↔ x=none:=by
 cases x with
 | none=>cases r;simp
 | some x=>obtain ⟨t,us,rfl,_⟩:=Rep.tup' r;simp
theorem atD {xs:List zR} {p:Nat} (h:p < xs.length):xs[p]?=some (xs.getD p none):=qQ h
def Jt:Sp:=λ vs H Q _=>∃ (b:Addr) (us:List V) (c:List zR),vs=[.ref b]/\H b=some (.lst us)/\Reps H (zN H) us (c.map zZ)/\c.length<=100/\∀ us',Reps H (zN H) us' ((zal c).map zZ)->Q .non (upd H b (.lst us'))
theorem WZ (T:Txt K mg a) (F:Fun K "move_belt" "move_belt" xv f fd):FnOk P w K mg base (CXr P w) 1 f fd ["cells"] Jt:=by
 refine F.okx WH ?_ ?_
 ·walk_at "i"
 walk_at "j";obtain ⟨b,us,c,rfl,hb,rb,lc,k⟩:=h;have lu:us.length=c.length:=by rw [rb.len,length_map]
 walk_at "T";refine ⟨_,(zg (jh jS rfl (zgl (za (zH WW (zQ zV zU (za (pq 0) zc)) zd) (za (V8 Jn zd) (za (V8 Jn zd) zc)))) (qr 1 WH.nd)  (zg (zG (zq ji (zv (pq 0) (zH z9 (pq 1) zd)) zy (zw _))  (zh (Z4 (zv (pq 0) (pq 1)) (JN (pq 0) (zH z9 (pq 1) zd) xM))  (zg (Z4 zy (JN (pq 0) (pq 1) xM))))  zp)))),?_⟩;walk_at "go";walk_at "for";walk_at "go";refine ⟨_,.inl ⟨_,SqL.of hb,rfl⟩,?_⟩;rw [lu];walk_at "go";refine ⟨_,_,rfl,⟨by omega,by omega,by omega,by omega⟩,?_⟩;rw [show ((c.length:Int) - 2 - -1).toNat=c.length - 1 by omega];refine zhj (K:=K) (λ i σ H'=>∃ (v1:Option V) (us':List V),σ=[some (.ref b),v1]/\H'=upd H b (.lst us')/\Reps H (zN H) us' ((ZB c i).map zZ)) ⟨_,us,rfl,(zdB hb).symm,rb⟩ ?_ ?_
 ·rintro i σ H' hi ⟨v1,us',rfl,rfl,r1⟩;have lm:=ZA (c:=c) i;have l1:us'.length=c.length:=by rw [r1.len,length_map,lm]
  obtain ⟨p,hp⟩:∃ p,c.length - 2 - i=p:=⟨_,rfl⟩;have ep:(c.length:Int) - 2 - i=p:=by omega
  have hp1:p + 1 < c.length:=by omega
  rw [ep];have eS:ZB c (i + 1)=xn (ZB c i) p:=by rw [ZB,hp]
  rw [eS];generalize ZB c i=m at r1 lm ⊢;have m0:m[p]?=some (m.getD p none):=atD (by omega);have m1:m[p + 1]?=some (m.getD (p + 1) none):=atD (by omega);obtain ⟨u0,hu0,ru0⟩:=r1.of (i:=p) (d:=zZ (m.getD p none)) (by rw [getElem?_map,m0];rfl);obtain ⟨u1,hu1,ru1⟩:=r1.of (i:=p + 1) (d:=zZ (m.getD (p + 1) none)) (by rw [getElem?_map,m1];rfl);have e1:((p:Int) + 1)=((p + 1:Nat):Int):=by omega
  walk_at "go";rw [e1];refine zt (SqL.of upd_same) (zJ hu1) ?_;walk_at "go";refine zL (λ z=>?_) (λ z=>?_)
  ·have z:=(VB ru1).mp z;walk_at "go";refine zt (SqL.of upd_same) (zJ hu0) ?_;walk_at "go";refine vo upd_same (Xd (by omega) (by omega)) ?_;walk_at "go";refine vo upd_same (Xd (by omega) (by simp;omega)) ?_;rw [Zk,Zk];refine ⟨_,_,rfl,rfl,?_⟩;unfold xn;rw [if_pos z,map_set,map_set,Int.toNat_natCast,Int.toNat_natCast];exact Reps.set (Reps.set r1 _ ru0) _ .non
  ·have z:m.getD (p + 1) none≠none:=λ y=>z ((VB ru1).mpr y);walk_at "go";refine ⟨_,us',rfl,rfl,?_⟩;unfold xn;rw [if_neg z];exact r1
 ·rintro σ H' ⟨v1,us',rfl,rfl,r1⟩;exact k _ r1
theorem zaH (T:Txt K mg a):Cal P w K mg base "move_belt" 1 ["cells"] [] Jt:=T.h_move_belt.cal (WZ T)
def qg (bs:List (Int × Int)) (t:Int) (cs:List (List zR)):Nat->List (List zR)
 | 0=>cs
 | i + 1=>if t % (bs.getD i (0,1)).2=0 then (qg bs t cs i).set i (zal ((qg bs t cs i).getD i [])) else qg bs t cs i
theorem Zi {bs:List (Int × Int)} {rs:List Row} {t:Int} {cs:List (List zR)} (h:jJ bs rs cs):∀ i,jJ bs rs (qg bs t cs i)
 | 0=>h
 | i + 1=>by
  have ih:=Zi h i (t:=t);rw [qg]
  split
  ·generalize qg bs t cs i=ds at ih ⊢;cases e:ds[i]? with
   | none=>rw [set_eq_of_length_le (List.getElem?_eq_none_iff.mp e)];exact ih
   | some c =>
    have ec:ds.getD i []=c:=by rw [getD_eq_getElem?_getD,e];rfl
    rw [ec];have hi:i < bs.length:=by rw [<- ih.1];exact (List.getElem?_eq_some_iff.mp e).1
    refine Qo ih e (ZA _) λ x hx=>?_;rcases zak _ hx with hx|hx
    ·exact (ih.2 i _ c (getElem?_eq_getElem hi) e).2 x hx
    ·rw [hx];exact ZT
  ·exact ih
def passF (bs:List (Int × Int)) (rs:List Row) (st:PSt):PSt × List Move:=({ (zr rs st rs.length).1 with turn:=(zr rs st rs.length).1.turn + 1,cells:=qg bs (zr rs st rs.length).1.turn (zr rs st rs.length).1.cells bs.length },(zr rs st rs.length).2)
theorem zeb {bs:List (Int × Int)} {rs:List Row} {st:PSt} (wf:stWf bs rs st) (wok:zC bs rs) (bo:∀ b∈bs,zu b.1 b.2) (ro:∀ r∈rs,r.ok):stWf bs rs (passF bs rs st).1:=by
 have w:=x6 wf wok bo ro rs.length;exact ⟨Zi w.co _,w.so,w.go⟩
theorem StO.ney {H:Hp} {y:Addr} {n:SN} {st:PSt} (h:StO a H y n st):y ∉ n.all:=λ z=>by
 have hy:=h.hy;have c:∀ vs,H y≠some (.lst vs):=λ vs z=>by rw [hy] at z;cases z
 simp only [SN.all,mem_cons,mem_append] at z;rcases z with z|z|z|z|z
 ·exact c _ (by rw [z];exact h.hs)
 ·exact c _ (by rw [z];exact h.hc.out)
 ·exact c _ (by rw [z];exact h.hg.out)
 ·obtain ⟨vs,hv⟩:=h.hc.isl (mem_cons_of_mem _ z);exact c _ hv
 ·obtain ⟨vs,hv⟩:=h.hg.isl (mem_cons_of_mem _ z);exact c _ hv
theorem StO.putT {H:Hp} {y:Addr} {n:SN} {st:PSt} {t:Int} (h:StO a H y n st):StO a (upd H y (.ins a.State n.dx (sff t n.lc n.ls n.lg))) y n { st with turn:=t }:=by
 have ny:=h.ney;have tn:∀ b,zN H b->b≠y:=λ b ⟨xs,hx⟩ z=>by rw [z,h.hy] at hx;cases hx
 simp only [SN.all,mem_cons,mem_append,not_or] at ny;obtain ⟨n1,n2,n3,n4,n5⟩:=ny;refine ⟨upd_same,h.hc.tup λ b o c hb=>?_,?_,h.hg.tup λ b o c hb=>?_,h.nd⟩
 ·rw [upd_ne ?_]
  ·exact hb
  ·rcases c with rfl|c|c
   ·exact Ne.symm n2
   ·exact λ z=>n4 (by rw [<- z];exact c)
   ·exact tn b c
 ·rw [upd_ne (Ne.symm n1)];exact h.hs
 ·rw [upd_ne ?_]
  ·exact hb
  ·rcases c with rfl|c|c
   ·exact Ne.symm n3
   ·exact λ z=>n5 (by rw [<- z];exact c)
   ·exact tn b c
theorem zaL {H:Hp} {p:Addr->Prop} {v:V} {bs:List (Int × Int)} {rs:List Row} (h:Rep H p v (zX a bs rs)):∃ y dx fs l1 bvs,v=.ref y/\p y/\H y=some (.ins a.Work dx fs)/\fs.lookup ("belts":Str)=some (.ref l1)/\p l1/\H l1=some (.lst bvs)/\Bts a H p bvs bs:=by
 obtain ⟨y,dx,fs,rfl,py,hy,g1,g2⟩:=Rep.ob' h;obtain ⟨u1,e1,r1⟩:=g1 _ _ VA;obtain ⟨l1,bvs,rfl,pl,h1,b1⟩:=r1.lst';exact ⟨y,dx,fs,l1,bvs,rfl,py,hy,e1,pl,h1,.of b1⟩
theorem zg1 {t u:Int} {lc ls lg:Addr}:z7 "turn" (.int u) (sff t lc ls lg)=sff u lc ls lg:=rfl
def zdG (a:Ad):Sp:=λ vs H Q _=>∃ (vw:V) (y:Addr) (n:SN) (st:PSt) (bs:List (Int × Int)) (rs:List Row),vs=[vw,.ref y]/\Rep H (Off (y :: n.all)) vw (zX a bs rs)/\StO a H y n st/\stWf bs rs st/\zC bs rs/\(∀ b∈bs,zu b.1 b.2)/\(∀ r∈rs,r.ok) /\
 ∀ l us H',Fr (y :: n.all) H H'->StO a H' y n (passF bs rs st).1->H l=none->l ∉ y :: n.all->H' l=some (.lst us)->Reps H' (zN H') us ((passF bs rs st).2.map QH)->Q (.ref l) H'
theorem WX (T:Txt K mg a) (F:Fun K "pass_turn" "pass_turn" xt f fd):FnOk P w K mg base (CXr P w) 6 f fd ["work","state"] (zdG a):=by
 refine F.okx WF ?_ ?_
 ·walk_at "i"
 walk_at "j";obtain ⟨vw,y,n,st,bs,rs,rfl,hw,so,wf,wok,bo,ro,k⟩:=h;have b24:=wok.1.1.2;walk_at "T";refine ⟨_,(zi (zo 2 WF.nd (zm ⟨rfl,rfl,rfl⟩ hr (za (pq 0) (za (pq 1) zc))))  (jd (jh jS rfl (wg (za (zl (pq 0) rfl) zc)) (JM (n:=2) rfl (qU (qr 3 WF.nd) (qU (qr 4 WF.nd) Zv)))  (zg (zG (zq (wv hr.units1) (zH jw (zl (pq 1) rfl) (zl (pq 4) rfl)) zd (zw _))  (zg (zx (zm ⟨rfl,rfl,rfl⟩ hr (za (zv (zl (pq 1) rfl) (pq 3)) zc))))  zp)))  (zi (zcP (pq 1) zd zgJ)  (zg (zk (pq 2)))))),?_⟩;walk_at "go";refine uc (Wp T).mono (zbB vw y n st bs rs rfl hw so wf wok bo ro (λ l us H1 f1 so1 nl nl' hl rl=>?_));have wA:=x6 wf wok bo ro rs.length;have hw1:=hw.fr f1;obtain ⟨yw,dw,fw,l1,bvs,rfl,_,hyw,ew1,pl1,hl1,hB⟩:=zaL hw1;have lb:bvs.length=bs.length:=hB.len;generalize hA:zr rs st rs.length=A at so1 rl wA;obtain ⟨lk1,lk2,lk3,lk4⟩:=sff_l (t:=A.1.turn) (lc:=n.lc) (ls:=n.ls) (lg:=n.lg);walk_at "go";let M1_:St->Hp->Prop:=λ σ' H'=>∃ (v3 v4:Option V),σ'=[some (.ref yw),some (.ref y),some (.ref l),v3,v4]/\Fr (y :: n.all) H1 H'/\StO a H' y n { A.1 with cells:=qg bs A.1.turn A.1.cells bs.length };refine cut M1_ ?_ ?_
 ·walk_at "for";walk_at "go";refine ra hyw T.C_Work T.N_Work_belts ew1 ⟨l1,_,rfl,hl1,?_⟩;let M2_:Nat->St->Hp->Prop:=λ i σ H'=>∃ (v3 v4:Option V),σ=[some (.ref yw),some (.ref y),some (.ref l),v3,v4]/\Fr (y :: n.all) H1 H'/\StO a H' y n { A.1 with cells:=qg bs A.1.turn A.1.cells i };refine zeD (K:=K) (a:=l1) (xs:=bvs) M2_ ⟨_,_,rfl,Fr.refl,so1⟩ (λ i σ H' _ h=>by obtain ⟨_,_,_,f,_⟩:=h;exact SqL.of (f _ _ pl1 hl1)) ?_ ?_
  ·rintro i x t σ H2 hi ht ⟨v3,v4,rfl,f2,so2⟩;obtain ⟨b,hb',hBt⟩:=hB.at hi;obtain ⟨y1,dx1,fs1,rfl,py1,g0,_,e2⟩:=hBt.inv;have g02:=f2 _ _ py1 g0;have hil:=(List.getElem?_eq_some_iff.mp hb').1;have bk:=bo b (mem_of_getElem? hb');have f3:=f2.trans (zbE (ms:=y :: n.all) (o:=.tup [.int i,.ref y1]) ht);have so3:=so2.same (zf (o:=.tup [.int i,.ref y1]) ht);have g03:=upd_keep (o:=.tup [.int i,.ref y1]) g02 ht;refine un2 upd_same ?_;generalize upd H2 t (.tup [.int i,.ref y1])=H3 at f3 so3 g03 ⊢;have eb:bs.getD i (0,1)=b:=by rw [getD_eq_getElem?_getD,hb'];rfl
   have co:=Zi (t:=A.1.turn) wA.co i;have hc:=qQ (xs:=qg bs A.1.turn A.1.cells i) (d:=[]) (show i < _ by rw [co.1];exact hil);obtain ⟨bC,vs,hbC,hvC,rvC⟩:=so3.cell hc;have lc:=(co.2 i b _ hb' hc).1;have b1:=bk.1;have b2:=bk.2.1;have b3:=bk.2.2.1;walk_at "go";refine ra so3.hy T.C_State T.N_State_turn lk4 ?_;refine ra g03 T.C_Belt T.N_Belt_pace e2 ?_;walk_at "go";refine zL (λ z=>?_) (λ z=>?_)
   ·walk_at "go";refine uc (zaH T).mono ?_;refine ra so3.hy T.C_State T.N_State_cells lk1 (zt (SqL.of so3.hc.out) (zJ (ZS hbC)) ?_);refine ⟨bC,vs,_,rfl,hvC,rvC,by omega,λ us' r'=>?_⟩;refine ⟨_,_,rfl,f3.trans (jB (Vy hbC)),?_⟩;have:=so3.putC hbC r';rw [qg,eb,if_pos z];exact this
   ·refine ⟨_,_,rfl,f3,?_⟩;rw [qg,eb,if_neg z];exact so3
  ·rintro σ H2 ⟨v3,v4,rfl,f2,so2⟩;rw [lb] at so2;exact ⟨_,_,rfl,f2,so2⟩
 rintro σ' H2 ⟨v3,v4,rfl,f2,so2⟩;walk_at "go";refine ⟨y,?_⟩;refine ⟨a.State,n.dx,_,_,rfl,so2.hy,T.C_State,T.N_State_turn,lk4,?_⟩;refine ⟨_,1,rfl,rfl,n.dx,_,so2.hy,(show 4 < 1000 by decide),?_⟩;rw [zg1];have f3:=f2.trans (jB (x:=y) (o:=.ins a.State n.dx (sff (A.1.turn + 1) n.lc n.ls n.lg)) (by simp));walk_at "go";refine k l us _ (f1.trans f3) (by rw [passF,hA];exact so2.putT) nl nl' (f3 _ _ nl' hl) (by rw [passF,hA];exact so1.repsT f3 rl)
theorem zaF (T:Txt K mg a):Cal P w K mg base "pass_turn" 6 ["work","state"] [] (zdG a):=T.h_pass_turn.cal (WX T)
def VO (a:Ad):Sp:=λ vs H Q _=>∃ (v:V) (st:PSt) (p:Addr->Prop),vs=[v]/\Rep H p v (Zf a st)/\st.cells.length<=100/\st.gone.length<=100/\∀ v' H',Same H H'->zcv a H H' v' st->Q v' H'
theorem QS (T:Txt K mg a) (F:Fun K "copied_state" "copied_state" jq f fd):FnOk P w K mg base (CXr P w) 3 f fd ["state"] (VO a):=by
 refine F.okx QM ?_ ?_
 ·walk_at "i"
 walk_at "j";obtain ⟨v,st,p,rfl,hs,lc,lg,k⟩:=h;obtain ⟨y,dx,fs,rfl,py,hy,g1,g2⟩:=Rep.ob' hs;obtain ⟨u1,e1,r1⟩:=g1 _ _ (VH st);obtain ⟨u2,e2,r2⟩:=g1 _ _ (X2 st);obtain ⟨u3,e3,r3⟩:=g1 _ _ (X1 st);obtain ⟨u4,e4,r4⟩:=g1 _ _ (VI st);cases r1;walk_at "T";refine ⟨_,(zg (zk (zW (x:="State") ⟨rfl,rfl,rfl⟩ hr (za (zl (pq 0) rfl) (za (zl (pq 0) rfl) (za (zl (pq 0) rfl) (za (zl (pq 0) rfl) zc))))))),?_⟩;walk_at "go";refine ⟨a.State,_,_,_,(zb9 T).mono,y,a.State,dx,fs,_,rfl,hy,T.C_State,T.N_State_turn,e1,?_⟩;refine ra hy T.C_State T.N_State_cells e2 ?_;refine ra hy T.C_State T.N_State_sides e3 ?_;refine ra hy T.C_State T.N_State_gone e4 ?_;exact zan T (st:=st) r2 r3 r4 lc lg λ y' H' s' sn=>k _ _ s' sn
theorem wV (T:Txt K mg a):Cal P w K mg base "copied_state" 3 ["state"] [] (VO a):=T.h_copied_state.cal (QS T)
def X3 (a:Ad):Sp:=λ vs H Q _=>∃ (vw v:V) (st:PSt) (bs:List (Int × Int)) (rs:List Row) (p:Addr->Prop),vs=[vw,v]/\Rep H (Off []) vw (zX a bs rs)/\Rep H p v (Zf a st)/\stWf bs rs st/\zC bs rs/\(∀ b∈bs,zu b.1 b.2)/\(∀ r∈rs,r.ok) /\
 ∀ v' H',Same H H'->zcv a H H' v' (passF bs rs st).1->Q v' H'
theorem zab (T:Txt K mg a) (F:Fun K "one_turn" "one_turn" wa f fd):FnOk P w K mg base (CXr P w) 7 f fd ["work","state"] (X3 a):=by
 refine F.okx VT ?_ ?_
 ·walk_at "i"
 walk_at "j";obtain ⟨vw,v,st,bs,rs,p,rfl,hw,hv,wf,wok,bo,ro,k⟩:=h;have b24:=wok.1.1.2;have r24:=wok.1.2.2;walk_at "T";refine ⟨_,(zh (zo 2 VT.nd (zm ⟨rfl,rfl,rfl⟩ hr (za (pq 1) zc)))  (zh (zx (zm ⟨rfl,rfl,rfl⟩ hr (za (pq 0) (za (pq 2) zc))))  (zg (zk (pq 2))))),?_⟩;walk_at "go";refine uc (wV T).mono ⟨v,st,p,rfl,hv,by rw [wf.co.1];omega,by rw [wf.go.1];omega,λ v' H1 s1 sn=>?_⟩;obtain ⟨y,n,rfl,so1,ny,nd,nn⟩:=sn;have na:∀ b∈y :: n.all,H b=none:=λ b hb=>by
  rcases List.mem_cons.mp hb with rfl|hb
  ·exact ny
  ·exact nn b hb
 have hw1:Rep H1 (Off (y :: n.all)) vw (zX a bs rs):=jM (hw.more (ns:=y :: n.all) λ b hb=>.inr (na b hb)) s1;walk_at "go";refine uc (zaF T).mono ⟨vw,y,n,st,bs,rs,rfl,hw1,so1,wf,wok,bo,ro,λ l us H2 f2 so2 _ _ _ _=>?_⟩;walk_at "go";exact k _ _ (λ b o hb=>f2 b o (λ z=>by rw [na b z] at hb;cases hb) (s1 b o hb)) ⟨y,n,rfl,so2,ny,nd,nn⟩
theorem Xm (T:Txt K mg a):Cal P w K mg base "one_turn" 7 ["work","state"] [] (X3 a):=T.h_one_turn.cal (zab T)
def X4 (a:Ad):Sp:=λ vs H Q _=>∃ (vw v:V) (st:PSt) (bs:List (Int × Int)) (rs:List Row) (p:Addr->Prop),vs=[vw,v]/\Rep H (Off []) vw (zX a bs rs)/\Rep H p v (Zf a st)/\stWf bs rs st/\zC bs rs/\(∀ b∈bs,zu b.1 b.2)/\(∀ r∈rs,r.ok) /\
 ∀ l us H',Same H H'->H l=none->H' l=some (.lst us)->Reps H' (zN H') us ((zr rs st rs.length).2.map QH)->Q (.ref l) H'
theorem zac (T:Txt K mg a) (F:Fun K "moves_of" "moves_of" wb f fd):FnOk P w K mg base (CXr P w) 6 f fd ["work","state"] (X4 a):=by
 refine F.okx VU ?_ ?_
 ·walk_at "i"
 walk_at "j";obtain ⟨vw,v,st,bs,rs,p,rfl,hw,hv,wf,wok,bo,ro,k⟩:=h;have b24:=wok.1.1.2;have r24:=wok.1.2.2;walk_at "T";refine ⟨_,(zg (zk (zm ⟨rfl,rfl,rfl⟩ hr (za (pq 0) (za (zm ⟨rfl,rfl,rfl⟩ hr (za (pq 1) zc)) zc))))),?_⟩;walk_at "go";refine uc (Wp T).mono (uc (wV T).mono ⟨v,st,p,rfl,hv,by rw [wf.co.1];omega,by rw [wf.go.1];omega,λ v' H1 s1 sn=>?_⟩);obtain ⟨y,n,rfl,so1,ny,_,nn⟩:=sn;have na:∀ b∈y :: n.all,H b=none:=λ b hb=>by
  rcases List.mem_cons.mp hb with rfl|hb
  ·exact ny
  ·exact nn b hb
 have hw1:Rep H1 (Off (y :: n.all)) vw (zX a bs rs):=jM (hw.more (ns:=y :: n.all) λ b hb=>.inr (na b hb)) s1;refine ⟨vw,y,n,st,bs,rs,rfl,hw1,so1,wf,wok,bo,ro,λ l us H2 f2 _ nl _ hl r2=>?_⟩;refine k l us H2 (λ b o hb=>f2 b o (λ z=>by rw [na b z] at hb;cases hb) (s1 b o hb)) ?_ hl r2;cases e:H l with
 | none=>rfl
 | some o=>rw [s1 _ _ e] at nl;cases nl
theorem zbM (T:Txt K mg a):Cal P w K mg base "moves_of" 6 ["work","state"] [] (X4 a):=T.h_moves_of.cal (zac T)
def zn (bs:List (Int × Int)) (rs:List Row):Nat->PSt
 | 0=>qA bs rs
 | n + 1=>(passF bs rs (zn bs rs n)).1
theorem zeG {bs:List (Int × Int)} {rs:List Row} (ro:∀ r∈rs,r.ok):stWf bs rs (qA bs rs):=by
 refine ⟨⟨by simp [qA],λ i b c h1 h2=>?_⟩,⟨by simp [qA],λ i r s h1 h2=>?_⟩,⟨by simp [qA],λ i r g h1 h2=>?_⟩⟩
 ·simp only [qA,getElem?_map,h1,Option.map_some,Option.some.injEq] at h2;subst h2;refine ⟨by simp,λ x hx=>?_⟩;rw [(List.mem_replicate.mp hx).2];exact ZT
 ·have hs:=mem_of_getElem? h2;have e:s=0:=(List.mem_replicate.mp hs).2;subst e;have ok:=ro r (mem_of_getElem? h1);obtain ⟨wd,ins,outs,pc,ks⟩:=r;refine ⟨by decide,λ hw=>?_,λ hw=>?_,λ _ _=>rfl⟩
  ·simp only at hw;subst hw;have:=ok.2.1;simp only at this ⊢;omega
  ·simp only at hw;subst hw;have:=ok.2.1;simp only at this ⊢;omega
 ·simp only [qA,getElem?_map,h1,Option.map_some,Option.some.injEq] at h2;subst h2;refine ⟨rfl,λ n hn=>?_⟩;rw [(List.mem_replicate.mp hn).2];decide
theorem qc {bs:List (Int × Int)} {rs:List Row} (wok:zC bs rs) (bo:∀ b∈bs,zu b.1 b.2) (ro:∀ r∈rs,r.ok):∀ n,stWf bs rs (zn bs rs n)
 | 0=>zeG ro
 | n + 1=>zeb (qc wok bo ro n) wok bo ro
def VP:Sp:=λ vs H Q _=>∃ a b:Int,vs=[.int a,.int b]/\0<=a/\0<=b/\Q (.int (Int.gcd a b:Int)) H
theorem zcV (F:Fun K "common" "common" Zn f fd):FnOk P w K mg base (CXr P w) 1 f fd ["one","other"] VP:=by
 refine F.okx zcD ?_ ?_
 ·walk_at "i"
 walk_at "k";obtain ⟨a,b,rfl,ha,hb,k⟩:=h;refine ⟨_,(zh (zo 2 zcD.nd (pq 0))  (zh (zo 3 zcD.nd (pq 1))  (zh (zdY jS (zq QB (pq 3) zd (zw _))  (zh (zo 4 zcD.nd (zH jw (pq 2) (pq 3)))  (zh (zo 2 zcD.nd (pq 3))  (zg (zo 3 zcD.nd (pq 4))))))  (zg (zk (pq 2)))))),?_⟩;walk_at "r";refine ⟨λ m σ H'=>∃ p r v,σ=[some (.int a),some (.int b),some (.int p),some (.int r),v]/\H'=H/\0<=p/\0<=r/\Int.gcd p r=Int.gcd a b/\m=r.toNat,⟨_,a,b,none,rfl,rfl,ha,hb,rfl,rfl⟩,?_⟩;rintro m σ H' ⟨p,r,v,rfl,rfl,hp,hr',hg,rfl⟩;walk_at "r";refine zL (λ h=>?_) (λ h=>?_)
 ·refine zhE ?_;have h1:=Int.emod_nonneg p (show r≠0 by omega);have h2:=Int.emod_lt_of_pos p h;exact ⟨h,_,by omega,r,p % r,_,rfl,rfl,hr',h1,(zeB hp h).trans hg,rfl⟩
 ·have e:r=0:=by omega
  subst e;have e2:=zfB hp;rw [hg] at e2;rw [<- e2];exact k
def Pac (ns:List Int):Prop:=∀ n∈ns,0 < n/\n<=1000000000000
theorem Pac.nil:Pac []:=λ _ h=>nomatch h
theorem Pac.snoc {ns:List Int} {n:Int} (h:Pac ns) (h1:0 < n) (h2:n<=1000000000000):Pac (ns ++ [n]):=λ k hk=>by
 rcases List.mem_append.mp hk with z|z
 ·exact h k z
 ·rw [List.mem_singleton.mp z];exact ⟨h1,h2⟩
theorem Pac.at {ns:List Int} (h:Pac ns) {i:Nat} {x:V} (e:(ns.map V.int)[i]?=some x):∃ n,x=.int n/\0 < n/\n<=1000000000000/\n∈ns/\ns.take (i + 1)=ns.take i ++ [n]:=by
 rw [getElem?_map,Option.map_eq_some_iff] at e;obtain ⟨n,hn,rfl⟩:=e;have hm:=mem_of_getElem? hn;refine ⟨n,rfl,(h n hm).1,(h n hm).2,hm,?_⟩;rw [take_succ,hn]
 rfl
def X5 (K:PySem.W.Frag):Sp:=λ vs H Q _=>∃ (l:Addr) (ns:List Int),vs=[.ref l]/\SqL K H l (ns.map V.int)/\Pac ns/\∀ L,IsLcm ns L->Q (.int L) H
theorem zeN (T:Txt K mg a):Cal P w K mg base "common" 1 ["one","other"] [] VP:=T.h_common.cal zcV
theorem zbe (T:Txt K mg a) (F:Fun K "lasting" "lasting" wZ f fd):FnOk P w K mg base (CXr P w) 2 f fd ["paces"] (X5 K):=by
 refine F.okx zaS ?_ ?_
 ·walk_at "i"
 walk_at "k";obtain ⟨l,ns,rfl,hl,hn,k⟩:=h;refine ⟨_,(zh (zo 1 zaS.nd zd)  (zh (jh jS rfl (qd (pq 0)) (qr 2 zaS.nd)  (zg (zo 1 zaS.nd (zH Vf (zH zfo (pq 1) (zm ⟨rfl,rfl,rfl⟩ hr (za (pq 1) (za (pq 2) zc)))) (pq 2)))))  (zg (zk (pq 1))))),?_⟩;walk_at "go";walk_at "for";refine ⟨l,rfl,.inl ⟨⟨_,hl⟩,?_⟩⟩;refine qR (K:=K) (a:=l) (xs:=ns.map V.int) (λ i σ H'=>∃ (m:Int) (v:Option V),σ=[some (V.ref l),some (V.int m),v]/\H'=H/\IsLcm (ns.take i) m) ⟨1,none,rfl,rfl,IsLcm.nil⟩ (λ i σ H' _ ⟨_,_,_,e,_⟩=>e ▸ hl) ?_ ?_
 ·rintro i x σ H1 hi ⟨m,v,rfl,rfl,hm⟩;obtain ⟨p,rfl,p0,p1,_,ht⟩:=hn.at hi;walk_at "r";have g0:(0:Int) < (Int.gcd m p:Int):=by have:=zce (a:=m) (b:=p) (by omega);omega
  have g1:(Int.gcd m p:Int)<=p:=Vm p0;refine ⟨_,_,_,zeN T,m,p,rfl,Int.le_of_lt hm.pos,Int.le_of_lt p0,?_⟩;walk_at "r";refine ⟨fd_ok g0 ?_,mul_okR (by omega) (by omega),?_⟩
  ·have:(1000000000000:Nat) < 2 ^ 8999:=by decide +kernel
   omega
  ·rw [fdiv_pos g0,ht];exact ⟨_,_,rfl,hm.step p0⟩
 ·rintro σ H1 ⟨m,v,rfl,rfl,hm⟩;rw [length_map,take_length] at hm;walk_at "r";exact k m hm
theorem zdn (T:Txt K mg a):Cal P w K mg base "lasting" 2 ["paces"] [] (X5 K):=T.h_lasting.cal (zbe T)
theorem IsLcm.ex:∀ {ns:List Int},Pac ns->∃ L,IsLcm ns L:=λ {ns} h=>by
 have:∀ k,k<=ns.length->∃ L,IsLcm (ns.take k) L:=λ k=>by
  induction k with
  | zero=>exact λ _=>⟨1,IsLcm.nil⟩
  | succ k ih =>
   intro hk;obtain ⟨L,hL⟩:=ih (by omega);have e:ns.take (k + 1)=ns.take k ++ [ns[k]]:=by rw [take_succ,getElem?_eq_getElem (by omega)];rfl
   rw [e];exact ⟨_,hL.step (h _ (getElem_mem _)).1⟩
 have:=this ns.length (Nat.le_refl _)
 rwa [take_length] at this
theorem zhJ (T:Txt K mg a) (wd:Wd):PySem.W.kitOne K (.ref (wo a wd)) (.ref a.Drain)=some (decide (wd=.drain)):=by
 cases wd
 ·exact T.k1_Source_Drain
 ·exact T.k1_Drain_Drain
 ·exact T.k1_Parter_Drain
 ·exact T.k1_FirstParter_Drain
 ·exact T.k1_Sieve_Drain
 ·exact T.k1_Joiner_Drain
theorem zhH (T:Txt K mg a) (wd:Wd):PySem.W.kitOne K (.ref (wo a wd)) (.ref a.Source)=some (decide (wd=.source)):=by
 cases wd
 ·exact T.k1_Source_Source
 ·exact T.k1_Drain_Source
 ·exact T.k1_Parter_Source
 ·exact T.k1_FirstParter_Source
 ·exact T.k1_Sieve_Source
 ·exact T.k1_Joiner_Source
def jk (wd:Wd) (rs:List Row) (n:Nat):List Int:=((List.range n).filter λ i=>decide (rs[i]?.map Row.wd=some wd)).map λ (i:Nat)=>(i:Int)
theorem xA {wd:Wd} {rs:List Row} {n:Nat} {r:Row} (h:rs[n]?=some r):jk wd rs (n + 1)=jk wd rs n ++ if r.wd=wd then [(n:Int)] else []:=by
 unfold jk;rw [range_succ,List.filter_append,map_append]
 congr 1
 by_cases e:r.wd=wd <;> simp [h,e]
def zI (wd:Wd) (rs:List Row):List Int:=jk wd rs rs.length
theorem xm (wd:Wd) (rs:List Row) (n:Nat):(jk wd rs n).length<=n:=by
 unfold jk;rw [length_map];exact Nat.le_trans (List.length_filter_le _ _) (by simp)
theorem ZC {wd:Wd} {rs:List Row} {m:Int} (h:m∈zI wd rs):∃ (i:Nat) (r:Row),m=i/\rs[i]?=some r/\r.wd=wd:=by
 unfold zI jk at h;obtain ⟨i,hi,rfl⟩:=List.mem_map.mp h;rw [List.mem_filter] at hi;have h2:=of_decide_eq_true hi.2;rw [Option.map_eq_some_iff] at h2;obtain ⟨r,h3,h4⟩:=h2;exact ⟨i,r,rfl,h3,h4⟩
theorem zai {wd:Wd} {rs:List Row} {i:Nat} {r:Row} (h:rs[i]?=some r) (hw:r.wd=wd):(i:Int)∈zI wd rs:=by
 unfold zI jk;refine List.mem_map.mpr ⟨i,List.mem_filter.mpr ⟨List.mem_range.mpr (List.getElem?_eq_some_iff.mp h).1,?_⟩,rfl⟩;rw [h];exact decide_eq_true (by rw [<- hw];rfl)
def Wy (a:Ad) (wd:Wd):Sp:=λ vs H Q _=>∃ (v:V) (bs:List (Int × Int)) (rs:List Row) (p:Addr->Prop),vs=[v]/\Rep H p v (zX a bs rs)/\rs.length<=100/\∀ q H',Same H H'->H q=none->H' q=some (.lst (iv (zI wd rs)))->Q (.ref q) H'
theorem JS (T:Txt K mg a) (F:Fun K "drains" "Work.drains" qS f fd):FnOk P w K mg base (CXr P w) 1 f fd ["self"] (Wy a .drain):=by
 refine F.okx JD ?_ ?_
 ·walk_at "i"
 walk_at "j";obtain ⟨v,bs,rs,p,rfl,hv,l100,k⟩:=h;obtain ⟨y,dx,fs,l1,l2,bvs,kvs,rfl,hy,e1,e2,h1,h2,hB,hK,no⟩:=jo hv;walk_at "T";refine ⟨_,(zg (zk (xj (vars:=["number","knot"]) (caps:=[]) (N:=["number","knot"]) (ON:=["self"]) (osc:=ze qS) rfl rfl (by first|decide +kernel|kernel_rfl) rfl rfl (wg (za (zl (pq 0) rfl) zc)) (λ s H fp pins=>(JM (n:=2) rfl (qU (qr 0 (show (["number","knot"]:List Str).Nodup from by decide +kernel)) (qU (qr 1 (show (["number","knot"]:List Str).Nodup from by decide +kernel)) Zv)))) (λ s H fp pins=>(zb3 (qT (zQ wW qb (za (pq 1) (za xT zc))) (λ _=>rfl)))) (λ s H fp pins=>(pq 0))))),?_⟩;walk_at "go";walk_at "lc";walk_at "go";refine ra hy T.C_Work T.N_Work_knots e2 ⟨l2,_,rfl,h2,λ _ _ _ _ acc hacc=>?_⟩;refine zeD (K:=K) (a:=l2) (xs:=kvs) (λ i σ H'=>∃ (v0 v1:Option V),σ=[v0,v1]/\Same H H'/\H' acc=some (.lst (iv (jk .drain rs i)))) ⟨_,_,rfl,zf hacc,upd_same⟩ (λ i σ H' _ h=>by obtain ⟨_,_,_,s,_⟩:=h;exact SqL.of (s _ _ h2)) ?_ ?_
 ·rintro i x t σ H' hi ht ⟨v0,v1,rfl,s7,e1'⟩;obtain ⟨r,hr',hKn⟩:=hK.at hi;obtain ⟨y1,dx1,m1,m2,m3,fs1,rfl,_,_,_,_,g0,f1,f2,_,g1,g2,_,_⟩:=hKn.inv;have hil:=(List.getElem?_eq_some_iff.mp hr').1;have s8:=s7.trans (zf (o:=.tup [.int i,.ref y1]) ht);have e8:=upd_keep (o:=.tup [.int i,.ref y1]) e1' ht;refine un2 upd_same ?_;generalize upd H' t (.tup [.int i,.ref y1])=H8 at s8 e8 ⊢;walk_at "go";refine ⟨.ref a.Drain,_,T.g_Drain,rfl,_,_,_,_,rfl,(WT T r.wd).ty (CT T r.wd) (s8 _ _ g0),.inl ⟨_,rfl,zhJ T r.wd⟩,?_⟩;walk_at "go";refine zL (λ b=>?_) (λ b=>?_)
  ·refine ⟨_,e8,zj (by have:=xm .drain rs i;rw [zD];omega),_,_,rfl,(λ b o hb=>by rw [upd_ne (ne_of_none hb hacc)];exact s8 b o hb),?_⟩;rw [upd_same,xA hr',if_pos b,jf]
  ·exact ⟨_,_,rfl,s8,by rw [xA hr',if_neg b,append_nil];exact e8⟩
 rintro σ H2 ⟨v0,v1,rfl,s2,ha⟩;rw [hK.len] at ha;exact k _ _ s2 hacc ha
theorem XR (T:Txt K mg a):MCal P w K mg base a.Work "drains" 1 ["self"] [] (Wy a .drain):=T.h_Work_drains.cal T.C_Work (JS T)
theorem QT (T:Txt K mg a) (F:Fun K "sources" "Work.sources" qF f fd):FnOk P w K mg base (CXr P w) 1 f fd ["self"] (Wy a .source):=by
 refine F.okx QN ?_ ?_
 ·walk_at "i"
 walk_at "j";obtain ⟨v,bs,rs,p,rfl,hv,l100,k⟩:=h;obtain ⟨y,dx,fs,l1,l2,bvs,kvs,rfl,hy,e1,e2,h1,h2,hB,hK,no⟩:=jo hv;walk_at "T";refine ⟨_,(zg (zk (xj (vars:=["number","knot"]) (caps:=[]) (N:=["number","knot"]) (ON:=["self"]) (osc:=ze qF) rfl rfl (by first|decide +kernel|kernel_rfl) rfl rfl (wg (za (zl (pq 0) rfl) zc)) (λ s H fp pins=>(JM (n:=2) rfl (qU (qr 0 (show (["number","knot"]:List Str).Nodup from by decide +kernel)) (qU (qr 1 (show (["number","knot"]:List Str).Nodup from by decide +kernel)) Zv)))) (λ s H fp pins=>(zb3 (qT (zQ wW qb (za (pq 1) (za xT zc))) (λ _=>rfl)))) (λ s H fp pins=>(pq 0))))),?_⟩;walk_at "go";walk_at "lc";walk_at "go";refine ra hy T.C_Work T.N_Work_knots e2 ⟨l2,_,rfl,h2,λ _ _ _ _ acc hacc=>?_⟩;refine zeD (K:=K) (a:=l2) (xs:=kvs) (λ i σ H'=>∃ (v0 v1:Option V),σ=[v0,v1]/\Same H H'/\H' acc=some (.lst (iv (jk .source rs i)))) ⟨_,_,rfl,zf hacc,upd_same⟩ (λ i σ H' _ h=>by obtain ⟨_,_,_,s,_⟩:=h;exact SqL.of (s _ _ h2)) ?_ ?_
 ·rintro i x t σ H' hi ht ⟨v0,v1,rfl,s7,e1'⟩;obtain ⟨r,hr',hKn⟩:=hK.at hi;obtain ⟨y1,dx1,m1,m2,m3,fs1,rfl,_,_,_,_,g0,f1,f2,_,g1,g2,_,_⟩:=hKn.inv;have hil:=(List.getElem?_eq_some_iff.mp hr').1;have s8:=s7.trans (zf (o:=.tup [.int i,.ref y1]) ht);have e8:=upd_keep (o:=.tup [.int i,.ref y1]) e1' ht;refine un2 upd_same ?_;generalize upd H' t (.tup [.int i,.ref y1])=H8 at s8 e8 ⊢;walk_at "go";refine ⟨.ref a.Source,_,T.g_Source,rfl,_,_,_,_,rfl,(WT T r.wd).ty (CT T r.wd) (s8 _ _ g0),.inl ⟨_,rfl,zhH T r.wd⟩,?_⟩;walk_at "go";refine zL (λ b=>?_) (λ b=>?_)
  ·refine ⟨_,e8,zj (by have:=xm .source rs i;rw [zD];omega),_,_,rfl,(λ b o hb=>by rw [upd_ne (ne_of_none hb hacc)];exact s8 b o hb),?_⟩;rw [upd_same,xA hr',if_pos b,jf]
  ·exact ⟨_,_,rfl,s8,by rw [xA hr',if_neg b,append_nil];exact e8⟩
 rintro σ H2 ⟨v0,v1,rfl,s2,ha⟩;rw [hK.len] at ha;exact k _ _ s2 hacc ha
theorem wP (T:Txt K mg a):MCal P w K mg base a.Work "sources" 1 ["self"] [] (Wy a .source):=T.h_Work_sources.cal T.C_Work (QT T)
def Vz (bs:List (Int × Int)) (rs:List Row) (n:Int):Prop:=(∃ b∈bs,b.2=n)\/∃ r∈rs,(r.wd=.source\/r.wd=.drain)/\r.pace=n/\0 < n
theorem zdQ {r:Row} (h:r.ok) (hw:r.wd=.source\/r.wd=.drain):0<=r.pace/\r.pace<=4:=by
 obtain ⟨wd,ins,outs,pc,ks⟩:=r;rcases hw with hw|hw
 ·simp only at hw;subst hw;have h1:=h.2.2.1;have h2:=h.2.2.2.1;simp only at h1 h2;exact ⟨by show 0<=pc;omega,h2⟩
 ·simp only at hw;subst hw;exact ⟨h.2.2.1,h.2.2.2⟩
def zdL (a:Ad):Sp:=λ vs H Q _=>∃ (v:V) (bs:List (Int × Int)) (rs:List Row) (p:Addr->Prop),vs=[v]/\Rep H p v (zX a bs rs)/\bs.length<=100/\rs.length<=100/\(∀ b∈bs,zu b.1 b.2)/\(∀ r∈rs,r.ok) /\
 ∀ L ns H',IsLcm ns L->(∀ n,n∈ns ↔ Vz bs rs n)->Same H H'->Q (.int L) H'
theorem Vb (T:Txt K mg a) (F:Fun K "beat" "Work.beat" jL f fd):FnOk P w K mg base (CXr P w) 3 f fd ["self"] (zdL a):=by
 refine F.okx WL ?_ ?_
 ·walk_at "i"
 walk_at "j";obtain ⟨v,bs,rs,p,rfl,hv,lb,lr,bo,ro,k⟩:=h;have hv0:=hv;obtain ⟨y,dx,fs,l1,l2,bvs,kvs,rfl,hy,e1,e2,h1,h2,hB,hK,no⟩:=jo hv;walk_at "T";refine ⟨_,(zh (JJ (i:=1) WL.nd rfl (Or.inl rfl) (vars:=["belt"]) (caps:=[]) (N:=["belt"]) (ON:=["self","paces","number","pace"]) (osc:=ze jL) rfl rfl (by first|decide +kernel|kernel_rfl) rfl rfl (qd (zl (pq 0) rfl)) (λ s H fp pins=>(qr 0 (show (["belt"]:List Str).Nodup from by decide +kernel))) (λ s H fp pins=>z8) (λ s H fp pins=>(zl (pq 0) rfl)))  (zh (jh jS rfl (qd (zH z9 (Je ⟨rfl,rfl,rfl⟩ hr (pq 0)) (Je ⟨rfl,rfl,rfl⟩ hr (pq 0)))) (qr 2 WL.nd)  (zh (zo 3 WL.nd (zl (zv (zl (pq 0) rfl) (pq 2)) rfl))  (zg (zG (zq QB (pq 3) zd (zw _))  (zg (zx (qJ PySem.F.plainAttrs_list PySem.F.slot_list_append PySem.F.type_list_append zK (pq 1) (za (pq 3) zc))))  zp))))  (zg (zk (zm ⟨rfl,rfl,rfl⟩ hr (za (pq 1) zc)))))),?_⟩;walk_at "go";walk_at "lc";walk_at "go";refine ra hy T.C_Work T.N_Work_belts e1 ⟨l1,rfl,.inl ⟨⟨_,SqL.of h1⟩,λ _ _ _ _ acc hacc=>?_⟩⟩;refine qR (K:=K) (a:=l1) (xs:=bvs) (λ i σ H'=>∃ (v0:Option V),σ=[v0]/\Same H H'/\H' acc=some (.lst (iv ((bs.take i).map (·.2))))) ⟨_,rfl,zf hacc,by rw [take_zero];exact upd_same⟩ (λ i σ H' _ h=>by obtain ⟨_,_,s,_⟩:=h;exact SqL.of (s _ _ h1)) ?_ ?_
 ·rintro i x σ H' hi ⟨v0,rfl,s7,e7⟩;obtain ⟨b,hr',hBt⟩:=hB.at hi;obtain ⟨y1,dx1,fs1,rfl,_,g0,f1,f2⟩:=hBt.inv;have hil:=(List.getElem?_eq_some_iff.mp hr').1;walk_at "go";refine ra (s7 _ _ g0) T.C_Belt T.N_Belt_pace f2 ?_;refine ⟨_,e7,zj (by rw [zD,length_map,length_take];omega),_,rfl,(λ b o hb=>by rw [upd_ne (ne_of_none hb hacc)];exact s7 b o hb),?_⟩;rw [upd_same,take_add_one,hr',map_append,jf]
  rfl
 rintro σ H2 ⟨v0,rfl,s2,ha⟩;rw [hB.len,take_length] at ha;walk_at "go";walk_at "for";walk_at "go";refine ⟨y,a.Work,dx,fs,_,_,_,rfl,s2 _ _ hy,no _ (by decide +kernel) (by decide +kernel),(wP T).mono,?_⟩;refine ⟨_,bs,rs,p,rfl,hv0.keep λ b o pb hb=>⟨pb,s2 _ _ hb⟩,lr,λ q1 H3 s3 n1 hq1=>?_⟩;refine ⟨y,a.Work,dx,fs,_,_,_,rfl,s3 _ _ (s2 _ _ hy),no _ (by decide +kernel) (by decide +kernel),(XR T).mono,?_⟩;refine ⟨_,bs,rs,p,rfl,hv0.keep λ b o pb hb=>⟨pb,s3 _ _ (s2 _ _ hb)⟩,lr,λ q2 H4 s4 n2 hq2=>?_⟩;have l3:=xm .source rs rs.length;have l4:=xm .drain rs rs.length;refine Zt (SqL.of (s4 _ _ hq1)) (SqL.of hq2) (xr (by rw [zD,zD];show (jk _ _ _).length + (jk _ _ _).length<=_;omega)) λ q3 hq3=>?_;rw [zbw];have s5:Same H (upd H4 q3 (.lst (iv (zI .source rs ++ zI .drain rs)))):=((s2.trans s3).trans s4).trans (zf hq3);have ha5:upd H4 q3 (.lst (iv (zI .source rs ++ zI .drain rs))) acc=some (.lst (iv (bs.map (·.2)))):=upd_keep (s4 _ _ (s3 _ _ ha)) hq3;have hq5:upd H4 q3 (.lst (iv (zI .source rs ++ zI .drain rs))) q3=some (.lst (iv (zI .source rs ++ zI .drain rs))):=upd_same;have nq:q3≠acc:=(ne_of_none (s4 _ _ (s3 _ _ ha)) hq3).symm;have hq0:H q3=none:=zA ((s2.trans s3).trans s4) hq3;generalize upd H4 q3 (.lst (iv (zI .source rs ++ zI .drain rs)))=H5 at s5 ha5 hq5 ⊢;refine ⟨q3,rfl,.inl ⟨⟨_,SqL.of hq5⟩,?_⟩⟩;refine qR (K:=K) (a:=q3) (xs:=iv (zI .source rs ++ zI .drain rs)) (λ i σ H'=>∃ (v2 v3:Option V) (ns:List Int),σ=[some (.ref y),some (.ref acc),v2,v3]/\Same H H'/\H' q3=some (.lst (iv (zI .source rs ++ zI .drain rs)))/\H' acc=some (.lst (iv ns))/\Pac ns/\ns.length<=bs.length + i/\∀ n,n∈ns ↔ n∈bs.map (·.2)\/∃ (m:Nat) (r:Row),(m:Int)∈(zI .source rs ++ zI .drain rs).take i/\rs[m]?=some r/\r.pace=n/\0 < n)
  ⟨_,_,bs.map (·.2),rfl,s5,hq5,ha5,?_,by simp,?_⟩ (λ i σ H' _ h=>by obtain ⟨_,_,_,_,_,h,_⟩:=h;exact SqL.of h) ?_ ?_
 ·intro n hn;obtain ⟨b,hb,rfl⟩:=List.mem_map.mp hn;have:=bo b hb;exact ⟨by have:=this.2.2.1;omega,by have:=this.2.2.2;omega⟩
 ·intro n;simp
 ·rintro i x σ H6 hi ⟨v2,v3,ns,rfl,s6,hq6,ha6,pn,ln,mem⟩;obtain ⟨m,hm,rfl⟩:=Xe hi;have hmm:=mem_of_getElem? hm;have hil:=(List.getElem?_eq_some_iff.mp hm).1;have hlen:(zI .source rs ++ zI .drain rs).length<=200:=by
   rw [length_append];show (jk _ _ _).length + (jk _ _ _).length<=_
   omega
  obtain ⟨j,r,rfl,hr',hw⟩:∃ (j:Nat) (r:Row),m=j/\rs[j]?=some r/\(r.wd=.source\/r.wd=.drain):=by
   rcases List.mem_append.mp hmm with z|z
   ·obtain ⟨j,r,q1,q2,q3⟩:=ZC z;exact ⟨j,r,q1,q2,.inl q3⟩
   ·obtain ⟨j,r,q1,q2,q3⟩:=ZC z;exact ⟨j,r,q1,q2,.inr q3⟩
  have hp:=zdQ (ro r (mem_of_getElem? hr')) hw;obtain ⟨kv,hkv,hKn⟩:∃ kv,kvs[j]?=some kv/\KnP a H p kv r:=by
   have hj:=(List.getElem?_eq_some_iff.mp hr').1;have e:kvs[j]?=some (kvs[j]'(by rw [hK.len];exact hj)):=getElem?_eq_getElem _;exact ⟨_,e,hK.g j _ r e hr'⟩
  obtain ⟨y1,dx1,m1,m2,m3,fs1,rfl,_,_,_,_,g0,_,_,_,_,_,_,fp⟩:=hKn.inv;walk_at "go";refine ra (s6 _ _ hy) T.C_Work T.N_Work_knots e2 (zt (SqL.of (s6 _ _ h2)) (zJ hkv) ?_);have NP:NoAttr K (wo a r.wd) "pace":=by
   rcases hw with z|z
   ·rw [z];exact T.N_Source_pace
   ·rw [z];exact T.N_Drain_pace
  refine ⟨y1,wo a r.wd,dx1,fs1,_,rfl,s6 _ _ g0,CT T _,NP,fp hw,?_⟩;walk_at "go";have tk:(zI .source rs ++ zI .drain rs).take (i + 1)=(zI .source rs ++ zI .drain rs).take i ++ [(j:Int)]:=by rw [take_add_one,hm];rfl
  refine zL (λ b=>?_) (λ b=>?_)
  ·walk_at "go";refine ⟨.inl ⟨rfl,_,SqL.of ha6⟩,acc,_,_,rfl,rfl,ha6,zj (by rw [zD];omega),?_⟩;rw [jf];refine ⟨_,_,ns ++ [r.pace],rfl,(λ b o hb=>by rw [upd_ne (ne_of_none hb hacc)];exact s6 b o hb),by rw [upd_ne nq];exact hq6,upd_same,pn.snoc b (by omega),by simp;omega,λ n=>?_⟩;rw [mem_append,mem n,List.mem_singleton,tk];constructor
   ·rintro ((h|⟨m',r',h1,h2,h3,h4⟩)|h)
    ·exact .inl h
    ·exact .inr ⟨m',r',mem_append_left _ h1,h2,h3,h4⟩
    ·subst h;exact .inr ⟨j,r,mem_append_right _ (List.mem_singleton.mpr rfl),hr',rfl,b⟩
   ·rintro (h|⟨m',r',h1,h2,h3,h4⟩)
    ·exact .inl (.inl h)
    ·rcases List.mem_append.mp h1 with h1|h1
     ·exact .inl (.inr ⟨m',r',h1,h2,h3,h4⟩)
     ·have e:m'=j:=by have:=List.mem_singleton.mp h1;omega
      subst e;rw [hr'] at h2;cases h2;exact .inr h3.symm
  ·refine ⟨_,_,ns,rfl,s6,hq6,ha6,pn,by omega,λ n=>?_⟩;rw [mem n,tk];constructor
   ·rintro (h|⟨m',r',h1,h2,h3,h4⟩)
    ·exact .inl h
    ·exact .inr ⟨m',r',mem_append_left _ h1,h2,h3,h4⟩
   ·rintro (h|⟨m',r',h1,h2,h3,h4⟩)
    ·exact .inl h
    ·rcases List.mem_append.mp h1 with h1|h1
     ·exact .inr ⟨m',r',h1,h2,h3,h4⟩
     ·have e:m'=j:=by have:=List.mem_singleton.mp h1;omega
      subst e;rw [hr'] at h2;cases h2;omega
 ·rintro σ H6 ⟨v2,v3,ns,rfl,s6,hq6,ha6,pn,ln,mem⟩;rw [zD,take_length] at mem;walk_at "go";refine uc (zdn T).mono ⟨acc,ns,rfl,SqL.of ha6,pn,λ L hL=>k L ns _ hL (λ n=>?_) s6⟩;rw [mem n];unfold Vz;constructor
  ·rintro (h|⟨m',r',h1,h2,h3,h4⟩)
   ·obtain ⟨b,hb,e⟩:=List.mem_map.mp h;exact .inl ⟨b,hb,e⟩
   ·refine .inr ⟨r',mem_of_getElem? h2,?_,h3,h4⟩;rcases List.mem_append.mp h1 with z|z
    ·obtain ⟨j,r,q1,q2,q3⟩:=ZC z;have e:m'=j:=by omega
     subst e;rw [h2] at q2;cases q2;exact .inl q3
    ·obtain ⟨j,r,q1,q2,q3⟩:=ZC z;have e:m'=j:=by omega
     subst e;rw [h2] at q2;cases q2;exact .inr q3
  ·rintro (⟨b,hb,e⟩|⟨r,hr',hw,h3,h4⟩)
   ·exact .inl (List.mem_map.mpr ⟨b,hb,e⟩)
   ·obtain ⟨m',hm'⟩:=getElem?_of_mem hr';refine .inr ⟨m',r,?_,hm',h3,h4⟩;rcases hw with hw|hw
    ·exact mem_append_left _ (zai hm' hw)
    ·exact mem_append_right _ (zai hm' hw)
theorem zaq (T:Txt K mg a):MCal P w K mg base a.Work "beat" 3 ["self"] [] (zdL a):=T.h_Work_beat.cal T.C_Work (Vb T)
theorem Vl {H:Hp} {p:Addr->Prop} {G:Addr} {ags:List Addr} {gss:List (List Int)} {i:Nat} {g:List Int} (h:NL H p G ags (qk gss)) (e:gss[i]?=some g):∃ b,ags[i]?=some b/\H b=some (.lst (iv g)):=by
 obtain ⟨b,vs,h1,h2,h3⟩:=h.at (i:=i) (xs:=g.map D.int) (by rw [qk,getElem?_map,e];rfl);rw [Jg h3] at h2;exact ⟨b,h1,h2⟩
def kdW (rs:List Row) (x:Int × Int):Int:=Xb ((rs[x.1.toNat]?.map Row.kinds).getD []) x.2
def qt (rs:List Row) (c:List zR):List (Option Int):=c.map λ wr=>wr.map (kdW rs)
def X6 (a:Ad):Sp:=λ vs H Q _=>∃ (vw:V) (cb:Addr) (us:List V) (bs:List (Int × Int)) (rs:List Row) (c:List zR) (p q:Addr->Prop),vs=[vw,.ref cb]/\Rep H p vw (zX a bs rs)/\H cb=some (.lst us)/\Reps H q us (c.map zZ)/\(∀ wr∈c,vP rs wr)/\(∀ r∈rs,r.ok)/\c.length<=6/\∀ t H',Same H H'->H t=none->H' t=some (.tup ((qt rs c).map oiV))->Q (.ref t) H'
theorem zad (T:Txt K mg a) (F:Fun K "kinds_in" "kinds_in" xg f fd):FnOk P w K mg base (CXr P w) 2 f fd ["work","cells"] (X6 a):=by
 refine F.okx VV ?_ ?_
 ·walk_at "i"
 walk_at "j";obtain ⟨vw,cb,us,bs,rs,c,p,q,rfl,hw,hcb,rus,wk,ro,c6,k⟩:=h;have lu:us.length=c.length:=by rw [rus.len,length_map]
 walk_at "T";refine ⟨_,(zg (zk (wL ZQ ZR (za (xj (vars:=["ware"]) (caps:=[0]) (N:=["ware","work"]) (ON:=["work","cells"]) (osc:=ze xg) rfl rfl (by first|decide +kernel|kernel_rfl) rfl rfl (qd (pq 1)) (λ s H fp pins=>(qr 0 (show (["ware","work"]:List Str).Nodup from by decide +kernel))) (λ s H fp pins=>z8) (λ s H fp pins=>(xk (zq ji (pq 0) zy (zw _)) zy (vX hr (za (pq 1) (za (pq 0) zc)))))) zc)))),?_⟩;walk_at "lc";walk_at "go";refine ⟨cb,rfl,.inl ⟨⟨_,SqL.of hcb⟩,λ _ _ _ _ acc hacc=>?_⟩⟩;refine qR (K:=K) (a:=cb) (xs:=us) (λ j σ H'=>∃ (v0:Option V),σ=[v0,some vw]/\Same H H'/\H' acc=some (.lst ((qt rs (c.take j)).map oiV))) ⟨_,rfl,zf hacc,upd_same⟩ (λ i σ H' _ h=>by obtain ⟨_,_,s,_⟩:=h;exact SqL.of (s _ _ hcb)) ?_ ?_
 ·rintro j v σ H1 hj ⟨v0,rfl,s1,ha⟩;obtain ⟨d,hd,rv⟩:=rus.at hj;rw [getElem?_map,Option.map_eq_some_iff] at hd;obtain ⟨wr,hwr,rfl⟩:=hd;have hjl:=(List.getElem?_eq_some_iff.mp hwr).1;have e:(qt rs (c.take (j + 1))).map oiV=(qt rs (c.take j)).map oiV ++ [oiV (wr.map (kdW rs))]:=by
   rw [take_add_one,hwr];simp [qt]
  have lk:((qt rs (c.take j)).map oiV).length<=6:=by simp [qt];omega
  have sn:∀ (x:V),Same H (upd H1 acc (.lst ((qt rs (c.take j)).map oiV ++ [x]))):=λ x b o hb=>by rw [upd_ne (ne_of_none hb hacc)];exact s1 b o hb
  cases wr with
  | none =>
   have rv:Rep H q v .non:=rv;cases rv;walk_at "go";exact ⟨_,ha,zj (by omega),_,rfl,sn _,by rw [upd_same,e];rfl⟩
  | some x =>
   obtain ⟨tx,rfl,htx⟩:=wM (b:=x) rv;obtain ⟨jj,r,e1,hr',hs,_⟩:=wk _ (mem_of_getElem? hwr) x.1 x.2 rfl;have kp:0 < r.kinds.length:=by
    have ok:=ro r (mem_of_getElem? hr');unfold Row.ok at ok;rw [hs] at ok;have:=ok.2.2.2.2.1;omega
   have hw1:Rep H1 p vw (zX a bs rs):=hw.keep λ b o hb ho=>⟨hb,s1 _ _ ho⟩;have rx:Rep H1 q (.ref tx) (.tup [.int jj,.int x.2]):=by
    have:=rv.keep (H':=H1) (q:=q) λ b o hb ho=>⟨hb,s1 _ _ ho⟩;have e2:zZ (some x)=.tup [.int x.1,.int x.2]:=rfl;rw [e2,e1] at this;exact this
   walk_at "go";refine uc (Wn T).mono ⟨vw,.ref tx,bs,rs,p,q,jj,x.2,r,rfl,hw1,rx,hr',hs,kp,?_⟩;refine ⟨_,ha,zj (by omega),_,rfl,sn _,?_⟩;rw [upd_same,e];show _=some (HO.lst (_ ++ [V.int (kdW rs x)]))
   unfold kdW;rw [e1,Int.toNat_natCast,hr']
   rfl
 rintro σ H1 ⟨v0,rfl,s1,ha⟩;rw [lu,take_length] at ha;refine ⟨acc,_,rfl,.inl ⟨SqL.of ha,λ t ht=>?_⟩⟩;exact k t _ (s1.trans (zf ht)) (zA s1 ht) upd_same
theorem zbN (T:Txt K mg a):Cal P w K mg base "kinds_in" 2 ["work","cells"] [] (X6 a):=T.h_kinds_in.cal (zad T)
def Xo (bs:List (Int × Int)) (rs:List Row) (L:Int):Prop:=∃ ns,IsLcm ns L/\∀ n,n∈ns ↔ Vz bs rs n
theorem zeS {bs:List (Int × Int)} {rs:List Row} {L L':Int} (h:Xo bs rs L) (h':Xo bs rs L'):L=L':=by
 obtain ⟨ns,i,m⟩:=h;obtain ⟨ns',i',m'⟩:=h';have d:L ∣ L':=i.least _ λ n hn=>i'.dv n ((m' n).mpr ((m n).mp hn));have d':L' ∣ L:=i'.least _ λ n hn=>i.dv n ((m n).mpr ((m' n).mp hn));exact Int.dvd_antisymm (Int.le_of_lt i.pos) (Int.le_of_lt i'.pos) d d'
open Classical in
noncomputable def beatL (bs:List (Int × Int)) (rs:List Row):Int:=if h:∃ L,Xo bs rs L then Classical.choose h else 1
theorem zeT {bs:List (Int × Int)} {rs:List Row} {L:Int} (h:Xo bs rs L):L=beatL bs rs:=by
 unfold beatL;rw [dif_pos ⟨L,h⟩];exact zeS h (Classical.choose_spec (⟨L,h⟩:∃ L,Xo bs rs L))
def xH (rs:List Row) (st:PSt) (j:Int):Int:=match rs[j.toNat]? with
 | some r=>(st.gone.getD j.toNat []).headD 0 % (r.kinds.length:Int)
 | none=>0
noncomputable def shapeF (bs:List (Int × Int)) (rs:List Row) (st:PSt):ShK:=(some (st.turn % beatL bs rs),st.cells.map (qt rs),st.sides.map some,(zI .source rs).map λ j=>some (xH rs st j))
def Qv (a:Ad):Sp:=λ vs H Q _=>∃ (vw:V) (y:Addr) (n:SN) (j:Nat) (bs:List (Int × Int)) (rs:List Row) (st:PSt) (r:Row) (p:Addr->Prop),vs=[vw,.ref y,.int j]/\Rep H p vw (zX a bs rs)/\StO a H y n st/\rs[j]?=some r/\r.wd=.source/\r.ok/\stWf bs rs st/\Q (.int (xH rs st j)) H
theorem XF (T:Txt K mg a) (F:Fun K "kind_place" "kind_place" jX f fd):FnOk P w K mg base (CXr P w) 1 f fd ["work","state","number"] (Qv a):=by
 refine F.okx Xt ?_ ?_
 ·walk_at "i"
 walk_at "j";obtain ⟨vw,y,n,j,bs,rs,st,r,p,rfl,hv,so,hr',hs,ok,wf,k⟩:=h;obtain ⟨yw,dx,fs,l1,l2,bvs,kvs,rfl,hy,e1,e2,h1,h2,hB,hK,no⟩:=jo hv;obtain ⟨kv,hkv,hKn⟩:=Vh hK hr';obtain ⟨y1,dx1,m1,m2,m3,fs1,rfl,_,_,_,_,g0,_,_,_,_,_,g3,_⟩:=hKn.inv;obtain ⟨g3a,g3b⟩:=g3 hs;have kp:0 < r.kinds.length:=by
  unfold Row.ok at ok;rw [hs] at ok;have:=ok.2.2.2.2.1;omega
 have hj:=(List.getElem?_eq_some_iff.mp hr').1;obtain ⟨g,hg⟩:∃ g,st.gone[j]?=some g:=⟨_,getElem?_eq_getElem (by rw [wf.go.1];exact hj)⟩;have q1:=(wf.go.2 j r g hr' hg).1;have cp:=ZL ok;obtain ⟨gh,gs,rfl⟩:=exists_cons_of_ne_nil (ne_nil_of_length_pos (by omega:0 < g.length));obtain ⟨bG,hbG,hgG⟩:=Vl so.hg hg;have hmap:(n.ags.map V.ref)[j]?=some (.ref bG):=by rw [getElem?_map,hbG];rfl
 have ek:xH rs st j=gh % (r.kinds.length:Int):=by
  unfold xH;rw [Int.toNat_natCast,hr',getD_eq_getElem?_getD,hg]
  rfl
 rw [ek] at k;walk_at "T";refine ⟨_,(zg (zk (zH jw (zv (zv (zl (pq 1) rfl) (pq 2)) zd) (zQ zV zU (za (zl (zv (zl (pq 0) rfl) (pq 2)) rfl) zc))))),?_⟩;walk_at "go";refine ra so.hy T.C_State T.N_State_gone rfl (zt (SqL.of so.hg.out) (zJ hmap) (zt (SqL.of hgG) at0 ?_));walk_at "go";refine ra hy T.C_Work T.N_Work_knots e2 (zt (SqL.of h2) (zJ hkv) ?_);refine ⟨y1,wo a r.wd,dx1,fs1,_,rfl,g0,CT T _,by rw [hs];exact T.N_Source_kinds,g3a,?_⟩;refine ⟨_,.inl ⟨_,SqL.of g3b,rfl⟩,?_⟩;rw [zD];walk_at "go";exact ⟨by omega,k⟩
theorem Vu (T:Txt K mg a):Cal P w K mg base "kind_place" 1 ["work","state","number"] [] (Qv a):=T.h_kind_place.cal (XF T)
theorem WP {H:Hp} {p:Addr->Prop}:∀ c:List (Option Int),Reps H p (c.map oiV) (c.map oiD)
 | []=>.nil
 | none :: c=>.cons .non (WP c)
 | some n :: c=>.cons .int (WP c)
theorem za5 {H:Hp} {t:Addr} {c:List (Option Int)} (h:H t=some (.tup (c.map oiV))):Rep H (zN H) (.ref t) (.tup (c.map oiD)):=(WP c).mkT ⟨_,h⟩ h
theorem Jo {H H':Hp} {v:V} {d:D} (r:Rep H (zN H) v d) (s:Same H H'):Rep H' (zN H') v d:=r.keep λ b o ⟨xs,hx⟩ hb=>⟨⟨xs,s _ _ hx⟩,s _ _ hb⟩
theorem XZ {H H':Hp} {vs:List V} {ds:List D} (r:Reps H (zN H) vs ds) (s:Same H H'):Reps H' (zN H') vs ds:=r.keep λ b o ⟨xs,hx⟩ hb=>⟨⟨xs,s _ _ hx⟩,s _ _ hb⟩
theorem zee {wd:Wd} {rs:List Row} {m:Int} (h:m∈zI wd rs):∃ (j:Nat) (r:Row),m=j/\rs[j]?=some r/\r.wd=wd:=by
 unfold zI jk at h;obtain ⟨j,hj,rfl⟩:=List.mem_map.mp h;obtain ⟨h1,h2⟩:=List.mem_filter.mp hj;have h2:=of_decide_eq_true h2;obtain ⟨r,hr,e⟩:=Option.map_eq_some_iff.mp h2;exact ⟨j,r,rfl,hr,e⟩
def zbT (a:Ad):Sp:=λ vs H Q _=>∃ (vw:V) (y:Addr) (n:SN) (bs:List (Int × Int)) (rs:List Row) (st:PSt) (p:Addr->Prop),vs=[vw,.ref y]/\Rep H p vw (zX a bs rs)/\StO a H y n st/\stWf bs rs st/\bs.length<=24/\rs.length<=24/\(∀ b∈bs,zu b.1 b.2)/\(∀ r∈rs,r.ok)/\∀ t H',Same H H'->Rep H' (zN H') (.ref t) (shD (shapeF bs rs st))->Q (.ref t) H'
theorem V9 (T:Txt K mg a) (F:Fun K "shape_of" "shape_of" jz f fd):FnOk P w K mg base (CXr P w) 4 f fd ["work","state"] (zbT a):=by
 refine F.okx VR ?_ ?_
 ·walk_at "i"
 walk_at "j";obtain ⟨vw,y,n,bs,rs,st,p,rfl,hv,so,wf,b24,r24,bo,ro,k⟩:=h;obtain ⟨yw,dx,fs,l1,l2,bvs,kvs,rfl,hy,e1,e2,h1,h2,hB,hK,no⟩:=jo hv;walk_at "T";refine ⟨_,(zh (zo 2 VR.nd (zH jw (zl (pq 1) rfl) (Je ⟨rfl,rfl,rfl⟩ hr (pq 0))))  (zh (zo 3 VR.nd (wL ZQ ZR (za (xj (vars:=["cells"]) (caps:=[0]) (N:=["cells","work"]) (ON:=["work","state","beat_place","kinds","places"]) (osc:=ze jz) rfl rfl (by first|decide +kernel|kernel_rfl) rfl rfl (qd (zl (pq 1) rfl)) (λ s H fp pins=>(qr 0 (show (["cells","work"]:List Str).Nodup from by decide +kernel))) (λ s H fp pins=>z8) (λ s H fp pins=>(vX hr (za (pq 1) (za (pq 0) zc))))) zc)))  (zh (zo 4 VR.nd (wL ZQ ZR (za (xj (vars:=["number"]) (caps:=[0,1]) (N:=["number","work","state"]) (ON:=["work","state","beat_place","kinds","places"]) (osc:=ze jz) rfl rfl (by first|decide +kernel|kernel_rfl) rfl rfl (qd (Je ⟨rfl,rfl,rfl⟩ hr (pq 0))) (λ s H fp pins=>(qr 0 (show (["number","work","state"]:List Str).Nodup from by decide +kernel))) (λ s H fp pins=>z8) (λ s H fp pins=>(vX hr (za (pq 1) (za (pq 2) (za (pq 0) zc)))))) zc)))  (zg (zk (qI (za (pq 2) (za (pq 3) (za (wL ZQ ZR (za (zl (pq 1) rfl) zc)) (za (pq 4) zc)))))))))),?_⟩;walk_at "go";refine ra so.hy T.C_State T.N_State_turn rfl ?_;refine ⟨yw,a.Work,dx,fs,_,_,_,rfl,hy,no _ (by decide +kernel) (by decide +kernel),(zaq T).mono,?_⟩;refine ⟨.ref yw,bs,rs,p,rfl,hv,by omega,by omega,bo,ro,λ L ns H1 il im s1=>?_⟩;have lp:=il.pos;have eL:=zeT ⟨ns,il,im⟩;walk_at "go";rw [eL];clear il im lp eL;have so1:=so.same s1;have hv1:Rep H1 p (.ref yw) (zX a bs rs):=hv.keep λ b o hb ho=>⟨hb,s1 _ _ ho⟩;have lc:n.acs.length=st.cells.length:=by rw [so.hc.len,zS,length_map]
 have lcb:st.cells.length=bs.length:=wf.co.1;walk_at "lc";walk_at "go";refine ra so1.hy T.C_State T.N_State_cells rfl ⟨n.lc,rfl,.inl ⟨⟨_,SqL.of so1.hc.out⟩,λ _ _ _ _ acc hacc=>?_⟩⟩;refine qR (K:=K) (a:=n.lc) (xs:=n.acs.map V.ref) (λ i σ H'=>∃ (v0:Option V) (us:List V),σ=[v0,some (.ref yw)]/\Same H1 H'/\H' acc=some (.lst us)/\us.length=i/\Reps H' (zN H') us ((st.cells.take i).map λ c=>.tup ((qt rs c).map oiD))) ⟨_,[],rfl,zf hacc,upd_same,rfl,.nil⟩ (λ i σ H' _ h=>by obtain ⟨_,_,_,s,_⟩:=h;exact SqL.of (s _ _ so1.hc.out)) ?_ ?_
 ·rintro i x σ H2 hi ⟨v0,us,rfl,s2,ha,lu,ru⟩;rw [getElem?_map,Option.map_eq_some_iff] at hi;obtain ⟨cb,hcb,rfl⟩:=hi;have hil:i < st.cells.length:=by rw [<- lc];exact (List.getElem?_eq_some_iff.mp hcb).1
  obtain ⟨c,ec⟩:∃ c,st.cells[i]?=some c:=⟨_,getElem?_eq_getElem hil⟩;obtain ⟨vs,hvs,rvs⟩:=so1.hc.g i cb _ hcb (show (zS st.cells)[i]?=some (c.map zZ) by rw [zS,getElem?_map,ec];rfl);obtain ⟨b,hb⟩:∃ b,bs[i]?=some b:=⟨_,getElem?_eq_getElem (by rw [<- wf.co.1];exact hil)⟩;obtain ⟨lc6,wk⟩:=wf.co.2 i b c hb ec;have bk:=(bo b (mem_of_getElem? hb)).2.1;walk_at "go";refine uc (zbN T).mono ⟨.ref yw,cb,vs,bs,rs,c,p,_,rfl,hv1.keep (λ b o hb ho=>⟨hb,s2 _ _ ho⟩),s2 _ _ hvs,rvs.keep (λ b o hb ho=>⟨hb,s2 _ _ ho⟩),wk,ro,by omega,λ t H3 s3 nt ht=>?_⟩;have nta:∀ b,zN H3 b->b≠acc:=λ b ⟨xs,hx⟩ z=>by rw [z,s3 _ _ ha] at hx;cases hx
  refine ⟨_,s3 _ _ ha,zj (by omega),_,us ++ [.ref t],rfl,(λ b o hb=>by rw [upd_ne (ne_of_none hb hacc)];exact s3 _ _ (s2 b o hb)),upd_same,by simp [lu],?_⟩;rw [take_add_one,ec,map_append];refine ((XZ ru s3).append (.one (za5 ht))).keep λ b o tb hb=>?_;have ne:=nta b tb;obtain ⟨xs,hx⟩:=tb;exact ⟨⟨xs,by rw [upd_ne ne];exact hx⟩,by rw [upd_ne ne];exact hb⟩
 rintro σ H2 ⟨v0,us,rfl,s2,ha,lu,ru⟩;rw [length_map,lc,take_length] at ru;refine ⟨acc,_,rfl,.inl ⟨SqL.of ha,λ t1 ht1=>?_⟩⟩;have s3:=zf (o:=.tup us) ht1;have ru3:=XZ ru s3;have hT1:upd H2 t1 (.tup us) t1=some (.tup us):=upd_same;have s13:=s2.trans s3;generalize upd H2 t1 (.tup us)=H3 at s3 ru3 hT1 s13 ⊢;have r1:Rep H3 (zN H3) (.ref t1) (.tup ((st.cells.map (qt rs)).map λ r=>.tup (r.map oiD))):=by
  rw [map_map];exact ru3.mkT ⟨_,hT1⟩ hT1
 clear ru ru3 ha hT1 s2 s3;have so3:=so1.same s13;have hv3:Rep H3 p (.ref yw) (zX a bs rs):=hv1.keep λ b o hb ho=>⟨hb,s13 _ _ ho⟩;walk_at "go";refine ⟨yw,a.Work,dx,fs,_,_,_,rfl,s13 _ _ (s1 _ _ hy),no _ (by decide +kernel) (by decide +kernel),(wP T).mono,?_⟩;refine ⟨.ref yw,bs,rs,p,rfl,hv3,by omega,λ q H4 s4 nq hq=>?_⟩;have ln:=xm .source rs rs.length;have so4:=so3.same s4;have hv4:Rep H4 p (.ref yw) (zX a bs rs):=hv3.keep λ b o hb ho=>⟨hb,s4 _ _ ho⟩;refine ⟨q,rfl,.inl ⟨⟨_,SqL.of hq⟩,λ _ _ _ _ ac2 hac2=>?_⟩⟩;refine qR (K:=K) (a:=q) (xs:=iv (zI .source rs)) (λ i σ H'=>∃ (v0:Option V),σ=[v0,some (.ref yw),some (.ref y)]/\Same H4 H'/\H' ac2=some (.lst ((((zI .source rs).take i).map λ j=>some (xH rs st j)).map oiV))) ⟨_,rfl,zf hac2,upd_same⟩ (λ i σ H' _ h=>by obtain ⟨_,_,s,_⟩:=h;exact SqL.of (s _ _ hq)) ?_ ?_
 ·rintro i x σ H5 hi ⟨v0,rfl,s5,ha⟩;obtain ⟨m,hm,rfl⟩:=Xe hi;have hil:=(List.getElem?_eq_some_iff.mp hm).1;obtain ⟨jj,r,rfl,hr',hs⟩:=zee (mem_of_getElem? hm);have ln:(zI .source rs).length<=rs.length:=ln;walk_at "go";refine uc (Vu T).mono ⟨.ref yw,y,n,jj,bs,rs,st,r,p,rfl,hv4.keep (λ b o hb ho=>⟨hb,s5 _ _ ho⟩),so4.same s5,hr',hs,ro r (mem_of_getElem? hr'),wf,?_⟩;refine ⟨_,ha,zj (by rw [length_map,length_map,length_take];omega),_,rfl,(λ b o hb=>by rw [upd_ne (ne_of_none hb hac2)];exact s5 b o hb),?_⟩;rw [upd_same,take_add_one,hm];simp [oiV]
 rintro σ H5 ⟨v0,rfl,s5,ha⟩;rw [zD,take_length] at ha;refine ⟨ac2,_,rfl,.inl ⟨SqL.of ha,λ t2 ht2=>?_⟩⟩;have s6:=zf (o:=.tup (((zI .source rs).map λ j=>some (xH rs st j)).map oiV)) ht2;have hT2:upd H5 t2 (.tup (((zI .source rs).map λ j=>some (xH rs st j)).map oiV)) t2=some (.tup (((zI .source rs).map λ j=>some (xH rs st j)).map oiV)):=upd_same;have s36:=(s4.trans s5).trans s6;generalize upd H5 t2 (.tup (((zI .source rs).map λ j=>some (xH rs st j)).map oiV))=H6 at s36 hT2 ⊢;have so6:=so3.same s36;walk_at "go";refine ra so6.hy T.C_State T.N_State_sides rfl ⟨n.ls,_,rfl,.inl ⟨SqL.of so6.hs,λ t3 ht3=>?_⟩⟩;intro t4 ht4;have s7:=zf (o:=.tup (iv st.sides)) ht3;have hT3:upd H6 t3 (.tup (iv st.sides)) t3=some (.tup ((st.sides.map some).map oiV)):=by rw [upd_same,map_map];rfl
 generalize upd H6 t3 (.tup (iv st.sides))=H7 at s7 hT3 ht4 ⊢;have s8:=zf (o:=.tup [.int (st.turn % beatL bs rs),.ref t1,.ref t3,.ref t2]) ht4;have hT4:upd H7 t4 (.tup [.int (st.turn % beatL bs rs),.ref t1,.ref t3,.ref t2]) t4=some (.tup [.int (st.turn % beatL bs rs),.ref t1,.ref t3,.ref t2]):=upd_same;generalize upd H7 t4 (.tup [.int (st.turn % beatL bs rs),.ref t1,.ref t3,.ref t2])=H8 at s8 hT4 ⊢;refine k t4 H8 ((s1.trans s13).trans (s36.trans (s7.trans s8))) ?_;exact Reps.mkT (vs:=[.int (st.turn % beatL bs rs),.ref t1,.ref t3,.ref t2]) (.cons .int (.cons (Jo r1 (s36.trans (s7.trans s8))) (.cons (Jo (za5 hT3) s8) (.cons (Jo (za5 hT2) (s7.trans s8)) .nil)))) ⟨_,hT4⟩ hT4
theorem zbK (T:Txt K mg a):Cal P w K mg base "shape_of" 4 ["work","state"] [] (zbT a):=T.h_shape_of.cal (V9 T)
noncomputable abbrev shapeN (bs:List (Int × Int)) (rs:List Row) (i:Nat):ShK:=shapeF bs rs (zn bs rs i)
structure RoundAt (bs:List (Int × Int)) (rs:List Row) (lim i j:Nat):Prop where
 lt:i < j
 le:j<=lim
 eq:shapeN bs rs i=shapeN bs rs j
 fst:∀ x y,x < y->y < j->shapeN bs rs x≠shapeN bs rs y
def wu (bs:List (Int × Int)) (rs:List Row) (lim:Nat):Prop:=∀ x y,x < y->y<=lim->shapeN bs rs x≠shapeN bs rs y
theorem RoundAt.one {bs:List (Int × Int)} {rs:List Row} {lim lim' i j i' j':Nat} (h:RoundAt bs rs lim i j) (h':RoundAt bs rs lim' i' j'):i=i'/\j=j':=by
 have ej:j=j':=by
  rcases Nat.lt_trichotomy j j' with z|z|z
  ·exact absurd h.eq (h'.fst i j h.lt z)
  ·exact z
  ·exact absurd h'.eq (h.fst i' j' h'.lt z)
 subst ej;refine ⟨?_,rfl⟩;rcases Nat.lt_trichotomy i i' with z|z|z
 ·exact absurd (h.eq.trans h'.eq.symm) (h.fst i i' z h'.lt)
 ·exact z
 ·exact absurd (h'.eq.trans h.eq.symm) (h.fst i' i z h.lt)
theorem RoundAt.no {bs:List (Int × Int)} {rs:List Row} {lim i j:Nat} (h:RoundAt bs rs lim i j):¬ wu bs rs lim:=λ z=>z i j h.lt h.le h.eq
def Nxt (H H':Hp):Prop:=∀ b u,H b=some u->(∀ φ,u≠.ext φ)->H' b=some u
theorem Same.nxt {H H':Hp} (s:Same H H'):Nxt H H':=λ b u hb _=>s b u hb
theorem Nxt.trans {H H' H2:Hp} (a:Nxt H H') (b:Nxt H' H2):Nxt H H2:=λ c u hc n=>b c u (a c u hc n) n
theorem zfq {H:Hp} {D:Addr} {φ:Heap->Prop} {o:HO} (h:H D=some (.ext φ)):Nxt H (upd H D o):=λ b u hb n=>by
 rw [upd_ne (λ z=>by rw [z,h] at hb;cases hb;exact n φ rfl)];exact hb
theorem zeg {H H':Hp} {G:Addr} {as:List Addr} {xss:List (List D)} (h:NL H (zN H) G as xss) (s:Nxt H H'):NL H' (zN H') G as xss:=by
 refine h.tup λ b o c hb=>s b o hb λ φ z=>?_;subst z;rcases c with c|c|⟨xs,c⟩
 ·rw [c,h.out] at hb;cases hb
 ·obtain ⟨vs,hv⟩:=h.isl (mem_cons_of_mem _ c);rw [hv] at hb;cases hb
 ·rw [c] at hb;cases hb
theorem StO.nxt {H H':Hp} {y:Addr} {n:SN} {st:PSt} (h:StO a H y n st) (s:Nxt H H'):StO a H' y n st:=⟨s _ _ h.hy (λ φ z=>by cases z),zeg h.hc s,s _ _ h.hs (λ φ z=>by cases z),zeg h.hg s,h.nd⟩
theorem ze1 {H H':Hp} {v:V} {d:D} (r:Rep H (zN H) v d) (s:Nxt H H'):Rep H' (zN H') v d:=r.keep λ b o ⟨xs,hx⟩ hb=>by
 have e:=s b _ hx (λ φ z=>by cases z);rw [hx] at hb;cases hb;exact ⟨⟨xs,e⟩,e⟩
structure SD (a:Ad) (H:Hp) (bs:List (Int × Int)) (rs:List Row) (xs:List (ShK × Addr × Addr)) (t:Nat):Prop where
 len:xs.length=t
 at':∀ (i:Nat) x,xs[i]?=some x->x.1=shapeN bs rs i/\Rep H (zN H) (.ref x.2.1) (shD x.1)/\∃ n,StO a H x.2.2 n (zn bs rs i)
 fst:∀ x y,x < y->y < t->shapeN bs rs x≠shapeN bs rs y
theorem SD.nxt {H H':Hp} {bs:List (Int × Int)} {rs:List Row} {xs:List (ShK × Addr × Addr)} {t:Nat} (h:SD a H bs rs xs t) (s:Nxt H H'):SD a H' bs rs xs t:=⟨h.len,λ i x e=>by
 obtain ⟨e1,r,n,so⟩:=h.at' i x e;exact ⟨e1,ze1 r s,n,so.nxt s⟩,h.fst⟩
theorem SD.keys {H:Hp} {bs:List (Int × Int)} {rs:List Row} {xs:List (ShK × Addr × Addr)} {t:Nat} (h:SD a H bs rs xs t):keysOk H xs:=λ x hx=>by
 obtain ⟨i,hi⟩:=getElem?_of_mem hx;exact ⟨_,(h.at' i x hi).2.1⟩
theorem SD.look {H:Hp} {bs:List (Int × Int)} {rs:List Row} {xs:List (ShK × Addr × Addr)} {t:Nat} {k:ShK} {y:Addr} (h:SD a H bs rs xs t) (e:xB xs k=some y):∃ i n,i < t/\shapeN bs rs i=k/\StO a H y n (zn bs rs i):=by
 unfold xB at e;obtain ⟨x,hx,rfl⟩:=Option.map_eq_some_iff.mp e;have hk:x.1=k:=by
  have:=List.find?_some hx;simpa using this
 obtain ⟨i,hi⟩:=getElem?_of_mem (List.mem_of_find?_eq_some hx);obtain ⟨e1,_,n,so⟩:=h.at' i x hi;exact ⟨i,n,by rw [<- h.len];exact (List.getElem?_eq_some_iff.mp hi).1,e1.symm.trans hk,so⟩
theorem SD.new {H:Hp} {bs:List (Int × Int)} {rs:List Row} {xs:List (ShK × Addr × Addr)} {t:Nat} {k:ShK} (h:SD a H bs rs xs t) (e:xB xs k=none):∀ i,i < t->shapeN bs rs i≠k:=λ i hi z=>by
 obtain ⟨x,hx⟩:∃ x,xs[i]?=some x:=⟨_,getElem?_eq_getElem (by rw [h.len];exact hi)⟩;unfold xB at e;rw [Option.map_eq_none_iff,List.find?_eq_none] at e;exact e x (mem_of_getElem? hx) (decide_eq_true ((h.at' i x hx).1.trans z))
theorem SD.add {H:Hp} {bs:List (Int × Int)} {rs:List Row} {xs:List (ShK × Addr × Addr)} {t:Nat} {b y:Addr} {n:SN} (h:SD a H bs rs xs t) (e:xB xs (shapeN bs rs t)=none) (r:Rep H (zN H) (.ref b) (shD (shapeN bs rs t))) (so:StO a H y n (zn bs rs t)):SD a H bs rs (xs ++ [(shapeN bs rs t,b,y)]) (t + 1):=by
 refine ⟨by simp [h.len],λ i x hx=>?_,λ u v huv hv=>?_⟩
 ·by_cases hi:i < xs.length
  ·rw [getElem?_append_left hi] at hx;exact h.at' i x hx
  ·rw [getElem?_append_right (by omega)] at hx;have hz:=(List.getElem?_eq_some_iff.mp hx).1;have:i=t:=by simp at hz;have:=h.len;omega
   subst this;rw [h.len,Nat.sub_self] at hx;cases hx;exact ⟨rfl,r,n,so⟩
 ·rcases Nat.lt_or_ge v t with z|z
  ·exact h.fst u v huv z
  ·have:v=t:=by omega
   subst this;exact h.new e u huv
def Qu (a:Ad):Sp:=λ vs H Q E=>∃ (vw:V) (lim:Nat) (bs:List (Int × Int)) (rs:List Row),vs=[vw,.int lim]/\Rep H (Off []) vw (zX a bs rs)/\zC bs rs/\(∀ b∈bs,zu b.1 b.2)/\(∀ r∈rs,r.ok)/\lim<=1000 /\
 (∀ i j t y0 y1 n0 n1 H',RoundAt bs rs lim i j->Same H H'->H' t=some (.tup [.ref y0,.ref y1])->StO a H' y0 n0 (zn bs rs i)->StO a H' y1 n1 (zn bs rs j)->Q (.ref t) H') /\
 (wu bs rs lim->∀ H',Same H H'->E (.ref a.TooLong) none H')
theorem XE (T:Txt K mg a) (F:Fun K "round_ends" "round_ends" jW f fd):FnOk P w K mg base (CXr P w) 8 f fd ["work","limit"] (Qu a):=by
 refine F.okx Xs ?_ ?_
 ·walk_at "i"
 walk_at "j";obtain ⟨vw,lim,bs,rs,rfl,hv,wok,bo,ro,l1000,kQ,kE⟩:=h;have b24:=wok.1.1.2;have r24:=wok.1.2.2;walk_at "T";refine ⟨_,(zi (zo 2 Xs.nd (zm ⟨rfl,rfl,rfl⟩ hr (za (pq 0) zc)))  (zi (zo 3 Xs.nd zfj)  (jd (jh jS rfl (we (za (zH z9 (pq 1) zd) zc)) (qr 4 Xs.nd)  (zi (zo 5 Xs.nd (zm ⟨rfl,rfl,rfl⟩ hr (za (pq 0) (za (pq 2) zc))))  (zi (zG (zgi (zgo hr.units1 (pq 5) (pq 3)) (by with_unfolding_all rfl))  (zg (zk (qI (za (zfk hr.units1 (pq 3) (pq 5) (λ _ _=>rfl)) (za (pq 2) zc)))))  zp)  (zi (zfh hr.units1 (pq 3) (pq 5) (pq 2) rfl)  (zg (zo 2 Xs.nd (zm ⟨rfl,rfl,rfl⟩ hr (za (pq 0) (za (pq 2) zc)))))))))  (zg (qH ⟨rfl,rfl,rfl⟩ rfl (za xi zc)))))),?_⟩;walk_at "go";refine uc (vO T).mono ⟨vw,bs,rs,_,rfl,hv,b24,r24,bo,ro,λ v' H1 s1 sn=>?_⟩;obtain ⟨y,nn,rfl,so,_,_,_⟩:=sn;walk_at "go";intro D hD;have sD:=zf (o:=sdO P w D []) hD;have nD:H D=none:=zA s1 hD;have s2:=s1.trans sD;have so2:=so.same sD;have hD2:upd H1 D (sdO P w D []) D=some (sdO P w D []):=upd_same;generalize upd H1 D (sdO P w D [])=H2 at s2 so2 hD2 ⊢;clear so s1 sD hD;walk_at "go";let M1_:St->Hp->Prop:=λ σ' H'=>∃ (v2 v4 v5:Option V),σ'=[some vw,some (.int lim),v2,some (.ref D),v4,v5]/\Same H H'/\wu bs rs lim;refine cut M1_ ?_ ?_
 ·walk_at "for";walk_at "go";refine ⟨by omega,by omega,?_⟩;refine ZI (n:=((lim:Int) + 1).toNat) (λ t σ H'=>∃ (v4 v5:Option V) (y:Addr) (n:SN) (xs:List (ShK × Addr × Addr)),σ=[some vw,some (.int lim),some (.ref y),some (.ref D),v4,v5]/\Same H H'/\H' D=some (sdO P w D xs)/\StO a H' y n (zn bs rs t)/\SD a H' bs rs xs t) ⟨_,_,y,nn,[],rfl,s2,hD2,so2,rfl,λ i x e=>by simp at e,λ x y _ z=>absurd z (Nat.not_lt_zero _)⟩ ?_ ?_
  ·clear so2 hD2 s2;rintro t σ H3 ht ⟨v4,v5,y,n,xs,rfl,s3,hD3,so3,sd3⟩;have ht':t<=lim:=by omega
   have lx:=sd3.len;walk_at "go";refine uc (zbK T).mono ⟨vw,y,n,bs,rs,zn bs rs t,_,rfl,hv.same s3,so3,qc wok bo ro t,b24,r24,bo,ro,λ b H4 s4 r4=>?_⟩;have hD4:=s4 _ _ hD3;have so4:=so3.same s4;have sd4:=sd3.nxt (Same.nxt s4);have s04:=s3.trans s4;clear hD3 so3 sd3 s3 s4;walk_at "go";refine ⟨D,b,xs,_,_,rfl,rfl,hD4,sd4.keys,r4,?_⟩;cases el:xB xs (shapeN bs rs t) with
   | some y0 =>
    obtain ⟨i,n0,hi,ei,so0⟩:=sd4.look el;walk_at "go";refine ⟨D,b,xs,_,_,y0,rfl,rfl,hD4,sd4.keys,r4,el,λ q hq=>?_⟩;have sq:=zf (o:=.tup [.ref y0,.ref y]) hq;exact kQ i t q y0 y n0 n _ ⟨hi,ht',ei,sd4.fst⟩ (s04.trans sq) upd_same (so0.same sq) (so4.same sq)
   | none =>
    walk_at "go";refine ⟨D,b,xs,_,_,y,rfl,rfl,rfl,hD4,sd4.keys,r4,el,zj (by omega),?_⟩;have nx:Nxt H4 (upd H4 D (sdO P w D (xs ++ [(shapeN bs rs t,b,y)]))):=zfq hD4;have so5:=so4.nxt nx;have sd5:=(sd4.add el r4 so4).nxt nx;have hD5:upd H4 D (sdO P w D (xs ++ [(shapeN bs rs t,b,y)])) D=some (sdO P w D (xs ++ [(shapeN bs rs t,b,y)])):=upd_same;have s5:Same H (upd H4 D (sdO P w D (xs ++ [(shapeN bs rs t,b,y)]))):=λ c u hc=>by rw [upd_ne (ne_of_none hc nD)];exact s04 c u hc
    generalize upd H4 D (sdO P w D (xs ++ [(shapeN bs rs t,b,y)]))=H5 at so5 sd5 hD5 s5 ⊢;walk_at "go";refine uc (Xm T).mono ⟨vw,.ref y,zn bs rs t,bs,rs,_,rfl,hv.same s5,so5.rep,qc wok bo ro t,wok,bo,ro,λ v' H6 s6 sn=>?_⟩;obtain ⟨y2,n2,rfl,so6,_⟩:=sn;exact ⟨_,_,y2,n2,_,rfl,s5.trans s6,s6 _ _ hD5,so6,sd5.nxt (Same.nxt s6)⟩
  ·rintro σ H3 ⟨v4,v5,y,n,xs,rfl,s3,hD3,so3,sd3⟩;exact ⟨_,_,_,rfl,s3,λ x y hxy hy=>sd3.fst x y hxy (by omega)⟩
 rintro σ' H3 ⟨v2,v4,v5,rfl,s3,nr⟩;walk_at "go";exact ⟨a.TooLong,T.g_TooLong,T.X_TooLong,kE nr H3 s3⟩
theorem ZN (T:Txt K mg a):Cal P w K mg base "round_ends" 8 ["work","limit"] [] (Qu a):=T.h_round_ends.cal (XE T)
def vK (old new:List Int):List Int:=(List.range old.length).map λ p=>new.getD p 0 - old.getD p 0
def xD (gs0 gs1:List (List Int)):List (List Int):=List.zipWith vK gs0 gs1
theorem zdf {gs0 gs1:List (List Int)} {i:Nat} {g0 g1:List Int} (h0:gs0[i]?=some g0) (h1:gs1[i]?=some g1):xD (gs0.take (i + 1)) (gs1.take (i + 1))=xD (gs0.take i) (gs1.take i) ++ [vK g0 g1]:=by
 unfold xD;rw [take_add_one,take_add_one,h0,h1];have l0:=(List.getElem?_eq_some_iff.mp h0).1;have l1:=(List.getElem?_eq_some_iff.mp h1).1;rw [List.zipWith_append (by rw [length_take,length_take];omega)]
 rfl
def VN (a:Ad):Sp:=λ vs H Q _=>∃ (y0 y1:Addr) (n0 n1:SN) (s0 s1:PSt),vs=[.ref y0,.ref y1]/\StO a H y0 n0 s0/\StO a H y1 n1 s1/\s0.gone.length=s1.gone.length/\s0.gone.length<=24/\(∀ (i:Nat) g0 g1,s0.gone[i]?=some g0->s1.gone[i]?=some g1->g0.length=g1.length/\g0.length<=4) /\
 ∀ l as H',Same H H'->NL H' (zN H') l as (qk (xD s0.gone s1.gone))->(∀ b∈l :: as,H b=none)->Q (.ref l) H'
theorem W0 (T:Txt K mg a) (F:Fun K "growth_of" "growth_of" jK f fd):FnOk P w K mg base (CXr P w) 1 f fd ["before","after"] (VN a):=by
 refine F.okx WJ ?_ ?_
 ·walk_at "i"
 walk_at "j";obtain ⟨y0,y1,n0,n1,s0,s1,rfl,so0,so1,le,l24,lg,k⟩:=h;have la0:n0.ags.length=s0.gone.length:=by rw [so0.hg.len,qk,length_map]
 have la1:n1.ags.length=s0.gone.length:=by rw [so1.hg.len,qk,length_map,le]
 walk_at "T";refine ⟨_,(zh (zo 2 WJ.nd (zz zc))  (zh (jh jS rfl (zgk (za (zl (pq 0) rfl) (za (zl (pq 1) rfl) zc))) (JM (n:=2) rfl (qU (WU (i:=3) WJ.nd rfl (Or.inr rfl)) (qU (WU (i:=4) WJ.nd rfl (Or.inr rfl)) Zv)))  (zg (zx (qJ PySem.F.plainAttrs_list PySem.F.slot_list_append PySem.F.type_list_append zK (pq 2) (za (xj (vars:=["place"]) (caps:=[4,3]) (N:=["place","new","old"]) (ON:=["before","after","growth","old","new"]) (osc:=ze jK) rfl rfl (by first|decide +kernel|kernel_rfl) rfl rfl (we (za (zQ zV zU (za (pq 3) zc)) zc)) (λ s H fp pins=>(qr 0 (show (["place","new","old"]:List Str).Nodup from by decide +kernel))) (λ s H fp pins=>z8) (λ s H fp pins=>(zH WW (zv (pq 1) (pq 0)) (zv (pq 2) (pq 0))))) zc)))))  (zg (zk (pq 2))))),?_⟩;walk_at "go";intro l hl;have sl:=zf (o:=.lst []) hl;have nl0:NL (upd H l (.lst [])) (zN (upd H l (.lst []))) l [] (qk (xD (s0.gone.take 0) (s1.gone.take 0))):=zbp upd_same;generalize upd H l (.lst [])=H1 at sl nl0 ⊢;have so10:=so0.same sl;have so11:=so1.same sl;walk_at "for";walk_at "go";refine ra so10.hy T.C_State T.N_State_gone rfl (ra so11.hy T.C_State T.N_State_gone rfl ⟨true,true,n0.lg,n1.lg,_,_,rfl,SqL.of so10.hg.out,SqL.of so11.hg.out,?_⟩);refine zhh (K:=K) (xs:=n0.ags.map V.ref) (ys:=n1.ags.map V.ref) (λ i σ H'=>∃ (v3 v4:Option V) (as:List Addr),σ=[some (.ref y0),some (.ref y1),some (.ref l),v3,v4]/\Same H H'/\NL H' (zN H') l as (qk (xD (s0.gone.take i) (s1.gone.take i)))/\∀ b∈as,H b=none) ⟨_,_,[],rfl,sl,nl0,by simp⟩ (λ i σ H' _ h=>by obtain ⟨_,_,_,_,s,_⟩:=h;exact ⟨SqL.of (s _ _ so0.hg.out),SqL.of (s _ _ so1.hg.out)⟩) ?_ ?_
 ·rintro i x z t σ H2 hi hj ht ⟨v3,v4,as,rfl,s2,nl2,fa⟩;rw [getElem?_map,Option.map_eq_some_iff] at hi hj;obtain ⟨b0,hb0,rfl⟩:=hi;obtain ⟨b1,hb1,rfl⟩:=hj;have hil:i < s0.gone.length:=by rw [<- la0];exact (List.getElem?_eq_some_iff.mp hb0).1
  obtain ⟨g0,e0⟩:∃ g,s0.gone[i]?=some g:=⟨_,getElem?_eq_getElem hil⟩;obtain ⟨g1,e1⟩:∃ g,s1.gone[i]?=some g:=⟨_,getElem?_eq_getElem (by rw [<- le];exact hil)⟩;obtain ⟨lg1,lg4⟩:=lg i g0 g1 e0 e1;obtain ⟨c0,q0,h0⟩:=Vl so0.hg e0;obtain ⟨c1,q1,h1⟩:=Vl so1.hg e1;rw [hb0] at q0;cases q0;rw [hb1] at q1;cases q1;have st:=zf (o:=.tup [.ref b0,.ref b1]) ht;have s3:=s2.trans st;have nl3:=nl2.tup (H':=upd H2 t (.tup [.ref b0,.ref b1])) λ b o _ hb=>st b o hb;refine un2 upd_same ?_;generalize upd H2 t (.tup [.ref b0,.ref b1])=H3 at s3 nl3 ⊢;have las:as.length<=24:=by rw [nl3.len,qk,length_map,xD,List.length_zipWith,length_take,length_take];omega
  walk_at "go";refine ⟨.inl ⟨rfl,_,SqL.of nl3.out⟩,?_⟩;walk_at "lc";walk_at "go";refine ⟨_,.inl ⟨_,SqL.of (s3 _ _ h0),rfl⟩,?_⟩;rw [zD];walk_at "go";refine ⟨by omega,by omega,λ _ _ _ _ acc hacc=>?_⟩;refine ZI (n:=((g0.length:Int)).toNat) (λ j σ H'=>∃ (v0:Option V),σ=[v0,some (.ref b1),some (.ref b0)]/\Same H3 H'/\H' acc=some (.lst (iv ((List.range j).map λ p=>g1.getD p 0 - g0.getD p 0)))) ⟨_,rfl,zf hacc,upd_same⟩ ?_ ?_
  ·rintro j σ H4 hj ⟨v0,rfl,s4,ha⟩;have hjl:j < g0.length:=by omega
   walk_at "go";simp only [Int.zero_add];refine zt (SqL.of (s4 _ _ (s3 _ _ h1))) (zJ (xI (qQ (d:=0) (by omega:j < g1.length)))) (zt (SqL.of (s4 _ _ (s3 _ _ h0))) (zJ (xI (qQ (d:=0) hjl))) ?_);walk_at "go";refine ⟨_,ha,zj (by rw [zD,length_map,List.length_range];omega),_,rfl,(λ b o hb=>by rw [upd_ne (ne_of_none hb hacc)];exact s4 b o hb),?_⟩;rw [upd_same,jf,range_succ,map_append]
   rfl
  rintro σ H4 ⟨v0,rfl,s4,ha⟩;rw [show ((g0.length:Int)).toNat=g0.length by omega] at ha;have nl4:=nl3.tup (H':=H4) λ b o _ hb=>s4 b o hb;have nb:acc ∉ as:=λ z=>by
   obtain ⟨vs,h⟩:=nl3.isl (mem_cons_of_mem _ z);rw [hacc] at h;cases h
  have nG:acc≠l:=λ z=>by rw [z,nl3.out] at hacc;cases hacc
  have ntG:¬ zN H4 l:=λ ⟨xs,hx⟩=>by rw [nl4.out] at hx;cases hx
  refine ⟨l,_,_,rfl,rfl,nl4.out,zj (by rw [length_map];omega),?_⟩;have np:=nl4.push (b:=acc) (vs:=iv (vK g0 g1)) (ys:=(vK g0 g1).map D.int) ha nb nG ntG reps_ints;refine ⟨_,_,as ++ [acc],rfl,(λ b o hb=>by rw [upd_ne (ne_of_none hb hl)];exact s4 _ _ (s3 _ _ hb)),?_,λ b hb=>?_⟩
  ·rw [zdf e0 e1,show qk (xD (s0.gone.take i) (s1.gone.take i) ++ [vK g0 g1])=qk (xD (s0.gone.take i) (s1.gone.take i)) ++ [(vK g0 g1).map D.int] by simp [qk]];refine np.keep (λ _ _ _ hc=>hc) λ c hc _=>?_;obtain ⟨xs,hx⟩:=hc;exact ⟨xs,by rw [upd_ne (λ z=>by rw [z,nl4.out] at hx;cases hx)];exact hx⟩
  ·rcases List.mem_append.mp hb with hb|hb
   ·exact fa b hb
   ·rw [List.mem_singleton.mp hb];exact zA s3 hacc
 ·rintro σ H2 ⟨v3,v4,as,rfl,s2,nl2,fa⟩;rw [length_map,length_map,la0,la1,Nat.min_self,take_length,show List.take s0.gone.length s1.gone=s1.gone by rw [le];exact take_length] at nl2;walk_at "go";refine k l as _ s2 nl2 λ b hb=>?_;rcases List.mem_cons.mp hb with rfl|hb
  ·exact hl
  ·exact fa b hb
theorem zaI (T:Txt K mg a):Cal P w K mg base "growth_of" 1 ["before","after"] [] (VN a):=T.h_growth_of.cal (W0 T)
theorem VF {st:PSt} {k:Nat} {fb:Option Int}:(qw st k fb).2.turn=st.turn/\(qw st k fb).2.sides=st.sides/\(qw st k fb).2.gone=st.gone:=by
 cases fb <;> exact ⟨rfl,rfl,rfl⟩
theorem V7 {st:PSt} {x:zR} {tb:Option Int}:(Z6 st x tb).turn=st.turn/\(Z6 st x tb).sides=st.sides/\(Z6 st x tb).gone=st.gone:=by
 cases tb <;> exact ⟨rfl,rfl,rfl⟩
theorem movedF_keep {r:Row} {st:PSt} {k:Nat} {ch:Option Nat × Option Nat × Nat}:(movedF r st k ch).turn=st.turn/\(movedF r st k ch).sides=st.sides/\(movedF r st k ch).gone=st.gone:=by
 obtain ⟨a1,a2,a3⟩:=VF (st:=st) (k:=k) (fb:=xf r ch);obtain ⟨b1,b2,b3⟩:=V7 (st:=(qw st k (xf r ch)).2) (x:=(qw st k (xf r ch)).1) (tb:=ZU r ch);exact ⟨b1.trans a1,b2.trans a2,b3.trans a3⟩
theorem qL {α:Type} {xs:List α} {k j:Nat} {x d:α} (h:k≠j):(xs.set k x).getD j d=xs.getD j d:=by
 rw [getD_eq_getElem?_getD,getD_eq_getElem?_getD,getElem?_set_ne h]
theorem zdx (rs:List Row) (st:PSt) (k:Nat):(qW rs st k).1.turn=st.turn/\∀ j,k < j->(qW rs st k).1.sides.getD j 0=st.sides.getD j 0/\(qW rs st k).1.gone.getD j []=st.gone.getD j []:=by
 unfold qW;cases rs[k]? with
 | none=>exact ⟨rfl,λ _ _=>⟨rfl,rfl⟩⟩
 | some r =>
  simp only;cases qm r (qu rs st.cells r) (jO st.cells r) st.turn (st.sides.getD k 0).toNat with
  | none=>exact ⟨rfl,λ _ _=>⟨rfl,rfl⟩⟩
  | some ch =>
   obtain ⟨c1,c2,c3⟩:=movedF_keep (r:=r) (st:=st) (k:=k) (ch:=ch);refine ⟨c1,λ j hj=>⟨?_,?_⟩⟩
   ·show ((movedF r st k ch).sides.set k _).getD j 0=_
    rw [qL (by omega),c2]
   ·show ((movedF r st k ch).gone.set k _).getD j []=_
    rw [qL (by omega),c3]
theorem QK (rs:List Row) (st:PSt):∀ i,(zr rs st i).1.turn=st.turn/\∀ j,i<=j->(zr rs st i).1.sides.getD j 0=st.sides.getD j 0/\(zr rs st i).1.gone.getD j []=st.gone.getD j []
 | 0=>⟨rfl,λ _ _=>⟨rfl,rfl⟩⟩
 | i + 1=>by
  obtain ⟨h1,h2⟩:=QK rs st i;obtain ⟨g1,g2⟩:=zdx rs (zr rs st i).1 i;refine ⟨g1.trans h1,λ j hj=>?_⟩;obtain ⟨a1,a2⟩:=h2 j (by omega);obtain ⟨b1,b2⟩:=g2 j (by omega);exact ⟨b1.trans a1,b2.trans a2⟩
theorem jn (bs:List (Int × Int)) (rs:List Row):∀ n,(zn bs rs n).turn=n
 | 0=>rfl
 | n + 1=>by
  show (zr rs (zn bs rs n) rs.length).1.turn + 1=_
  rw [(QK rs (zn bs rs n) rs.length).1,jn bs rs n]
  rfl
theorem zfI (g:List Int) (j p:Nat):g.getD p 0<=(XW g j).getD p 0:=by
 unfold XW;by_cases e:j=p
 ·subst e;by_cases h:j < g.length
  ·rw [getD_eq_getElem?_getD (l:=g.set _ _),getElem?_set_self h];show _<=g.getD j 0 + 1
   omega
  ·rw [set_eq_of_length_le (by omega)];exact Int.le_refl _
 ·rw [qL e];exact Int.le_refl _
theorem zaJ (rs:List Row) (st:PSt) (k i p:Nat):(st.gone.getD i []).getD p 0<=((qW rs st k).1.gone.getD i []).getD p 0:=by
 unfold qW;cases rs[k]? with
 | none=>exact Int.le_refl _
 | some r =>
  simp only;cases qm r (qu rs st.cells r) (jO st.cells r) st.turn (st.sides.getD k 0).toNat with
  | none=>exact Int.le_refl _
  | some ch =>
   obtain ⟨c1,c2,c3⟩:=movedF_keep (r:=r) (st:=st) (k:=k) (ch:=ch);show _<=(((movedF r st k ch).gone.set k _).getD i []).getD p 0
   rw [c3];by_cases e:k=i
   ·subst e;by_cases h:k < st.gone.length
    ·rw [getD_eq_getElem?_getD (l:=st.gone.set _ _),getElem?_set_self h];exact zfI _ _ _
    ·rw [set_eq_of_length_le (by omega)];exact Int.le_refl _
   ·rw [qL e];exact Int.le_refl _
theorem Qq (rs:List Row) (st:PSt) (i p:Nat):∀ m,(st.gone.getD i []).getD p 0<=((zr rs st m).1.gone.getD i []).getD p 0
 | 0=>Int.le_refl _
 | m + 1=>Int.le_trans (Qq rs st i p m) (zaJ rs _ m i p)
theorem Z5 (bs:List (Int × Int)) (rs:List Row) (n i p:Nat):∀ m,((zn bs rs n).gone.getD i []).getD p 0<=((zn bs rs (n + m)).gone.getD i []).getD p 0
 | 0=>Int.le_refl _
 | m + 1=>Int.le_trans (Z5 bs rs n i p m) (Qq rs (zn bs rs (n + m)) i p rs.length)
def xS (bs:List (Int × Int)) (rs:List Row) (i j:Nat):List (List Int):=xD (zn bs rs i).gone (zn bs rs j).gone
theorem zdg {bs:List (Int × Int)} {rs:List Row} {s0 s1:PSt} (ro:∀ r∈rs,r.ok) (w0:stWf bs rs s0) (w1:stWf bs rs s1):s0.gone.length=s1.gone.length/\∀ (i:Nat) g0 g1,s0.gone[i]?=some g0->s1.gone[i]?=some g1->g0.length=g1.length/\g0.length<=4:=by
 refine ⟨by rw [w0.go.1,w1.go.1],λ i g0 g1 e0 e1=>?_⟩;have hi:=(List.getElem?_eq_some_iff.mp e0).1;obtain ⟨r,hr⟩:∃ r,rs[i]?=some r:=⟨_,getElem?_eq_getElem (by rw [<- w0.go.1];exact hi)⟩;have q0:=(w0.go.2 i r g0 hr e0).1;have q1:=(w1.go.2 i r g1 hr e1).1;have rl:=wJ (ro r (mem_of_getElem? hr));refine ⟨by omega,?_⟩;rw [q0];have:=length_replicate (n:=max r.ins.length r.outs.length) (a:=(0:Int));show (qv r).length<=4
 unfold qv;rw [length_replicate];omega
def Jq (a:Ad) (R:List (Int × Int)->List Row->Nat->Nat->Hp->V->Hp->Prop):Sp:=λ vs H Q E=>∃ (vw:V) (lim:Nat) (bs:List (Int × Int)) (rs:List Row),vs=[vw,.int lim]/\Rep H (Off []) vw (zX a bs rs)/\zC bs rs/\(∀ b∈bs,zu b.1 b.2)/\(∀ r∈rs,r.ok)/\lim<=1000 /\
 (∀ i j v H',RoundAt bs rs lim i j->Same H H'->R bs rs i j H v H'->Q v H')/\(wu bs rs lim->∀ H',Same H H'->E (.ref a.TooLong) none H')
def rOf (_:List (Int × Int)) (_:List Row) (i j:Nat) (_:Hp) (v:V) (H':Hp):Prop:=∃ t,v=.ref t/\H' t=some (.tup [.int i,.int ((j:Int) - i)])
theorem zaa (T:Txt K mg a) (F:FunD K "round_of" "round_of" jg f fd):FnOk P w K mg base (CXr P w) 9 f fd ["work","limit"] (Jq a rOf):=by
 refine F.okx VS ?_ ?_
 ·walk_at "i"
 walk_at "j";obtain ⟨vw,lim,bs,rs,rfl,hv,wok,bo,ro,l1000,kQ,kE⟩:=h;walk_at "T";refine ⟨_,(zh (zo 2 VS.nd (zm ⟨rfl,rfl,rfl⟩ hr (za (pq 0) (za (pq 1) zc))))  (zg (zk (qI (za (zl (zv (pq 2) zd) rfl) (za (zH WW (zl (zv (pq 2) zd) rfl) (zl (zv (pq 2) zd) rfl)) zc)))))),?_⟩;walk_at "go";refine uc (ZN T).mono ⟨vw,lim,bs,rs,rfl,hv,wok,bo,ro,l1000,λ i j t y0 y1 n0 n1 H1 rnd s1 ht so0 so1=>?_,kE⟩;walk_at "go";refine rd_ixT ht at0 (ra so0.hy T.C_State T.N_State_turn rfl ?_);refine rd_ixT ht (show atI _ 1=some (.ref y1) from rfl) (ra so1.hy T.C_State T.N_State_turn rfl ?_);refine rd_ixT ht at0 (ra so0.hy T.C_State T.N_State_turn rfl ?_);walk_at "go";intro t2 ht2;rw [jn,jn];exact kQ i j _ _ rnd (s1.trans (zf ht2)) ⟨t2,rfl,upd_same⟩
theorem zbL (T:Txt K mg a):Cal P w K mg base "round_of" 9 ["work","limit"] [] (Jq a rOf):=T.h_round_of.cal (zaa T)
def jy (ns:List Int) (k:Nat):Int:=ns.getD k 0
def zdJ (K:PySem.W.Frag):Sp:=λ vs H Q _=>∃ (l:Addr) (ns:List Int) (k:Nat),vs=[.ref l,.int k]/\SqL K H l (iv ns)/\Q (.int (jy ns k)) H
theorem zcZ (T:Txt K mg a) (F:Fun K "_law_cell" "_law_cell" Zq f fd):FnOk P w K mg base (CXr P w) 1 f fd ["_law_cells","_law_k"] (zdJ K):=by
 refine F.okx zcH ?_ ?_
 ·walk_at "i"
 walk_at "k";obtain ⟨l,ns,n,rfl,hl,k⟩:=h;walk_at "T";refine ⟨_,(zh (zG (zq zfY (pq 1) (zQ zV zU (za (pq 0) zc)) (zw _))  (zg (zk (zv (pq 0) (pq 1))))  zp)  (zg (zk zd))),?_⟩;walk_at "go";refine ⟨_,.inl ⟨_,hl,rfl⟩,?_⟩;walk_at "r";rw [zD];refine zL (λ h=>?_) (λ h=>?_)
 ·have h:n < ns.length:=by omega
  refine zt hl (zJ (xI (getElem?_eq_getElem h))) ?_;have e:ns[n]=jy ns n:=by simp [jy,h]
  rw [e];exact k
 ·have e:jy ns n=0:=by
   have h:ns.length<=n:=by omega
   simp [jy,h]
  rw [e] at k;walk_at "r";exact k
theorem qV (T:Txt K mg a):Cal P w K mg base "_law_cell" 1 ["_law_cells","_law_k"] [] (zdJ K):=T.h_L_cell.cal (zcZ T)
def zdF:Sp:=λ vs H Q _=>∃ n p m:Int,vs=[.int n,.int p,.int m]/\0 < p/\0 < m/\∀ r,0<=r->r < m->Q (.int r) H
theorem zcX (T:Txt K mg a) (F:Fun K "_law_some" "_law_some" Zp f fd):FnOk P w K mg base (CXr P w) 1 f fd ["_law_number","_law_prime","_law_many"] zdF:=by
 refine F.okx zcF ?_ ?_
 ·walk_at "i"
 walk_at "k";obtain ⟨n,p,m,rfl,p0,m0,k⟩:=h;walk_at "T";refine ⟨_,(zg (zk (zH jw (zH jw (zH Vf (Z8 (zH z9 (pq 0) zd)) zd) (pq 1)) (pq 2)))),?_⟩;walk_at "r";exact ⟨mul_okR (by decide) (by decide),p0,m0,k _ (Int.emod_nonneg _ (by omega)) (Int.emod_lt_of_pos _ m0)⟩
theorem qf (T:Txt K mg a):Cal P w K mg base "_law_some" 1 ["_law_number","_law_prime","_law_many"] [] zdF:=T.h_L_some.cal (zcX T)
theorem Jd {ns:List Int} {r:Int} (h0:0<=r) (h1:r < ns.length):∃ x∈ns,atI (iv ns) r=some (.int x):=by
 obtain ⟨j,rfl⟩:∃ j:Nat,r=j:=⟨r.toNat,by omega⟩;have hj:j < ns.length:=by omega
 exact ⟨_,getElem_mem hj,zJ (xI (getElem?_eq_getElem hj))⟩
def zdK (a:Ad):Sp:=λ vs H Q _=>∃ n:Int,vs=[.int n]/\∀ z H' b,Same H H'->zu b.1 b.2->BtP a H' (New H) (.ref z) b->Q (.ref z) H'
theorem zc0 (T:Txt K mg a) (F:Fun K "_law_belt" "_law_belt" Zr f fd):FnOk P w K mg base (CXr P w) 3 f fd ["_law_number"] (zdK a):=by
 refine F.okx zcI ?_ ?_
 ·walk_at "i"
 walk_at "j";obtain ⟨n,rfl,k⟩:=h;walk_at "T";refine ⟨_,(zg (zk (zW (x:="Belt") ⟨rfl,rfl,rfl⟩ hr (za (zv (zz (za zd (za zd (za zd (za zd zc))))) (zm ⟨rfl,rfl,rfl⟩ hr (za (pq 0) (za zd (za zd zc))))) (za (zv (zz (za zd (za zd (za zd (za zd (za zd zc)))))) (zm ⟨rfl,rfl,rfl⟩ hr (za (pq 0) (za zd (za zd zc))))) zc))))),?_⟩;walk_at "go";refine ⟨a.Belt,_,_,_,(Zd T).mono,λ p hp=>(uc (qf T).mono ⟨n,10007,4,rfl,by decide,by decide,λ r r0 r1=>?_⟩)⟩;obtain ⟨x,hx,ex⟩:=Jd (ns:=[1,1,2,3]) r0 r1;have s1:=zf (o:=.lst (iv [1,1,2,3])) hp;refine zt (SqL.of upd_same) ex λ q hq=>(uc (qf T).mono ⟨n,10009,5,rfl,by decide,by decide,λ r' r0' r1'=>?_⟩);obtain ⟨y,hy,ey⟩:=Jd (ns:=[1,1,1,2,3]) r0' r1';have s2:=s1.trans (zf (o:=.lst (iv [1,1,1,2,3])) hq);refine zt (SqL.of upd_same) ey ?_;have bo:zu x y:=by
  simp only [mem_cons,not_mem_nil,or_false] at hx hy;exact ⟨by omega,by omega,by omega,by omega⟩
 clear ex ey hx hy;intro z dz hz hdz _;exact vv hz hdz bo λ H3 s3 q3=>⟨rfl,k z H3 (x,y) (s2.trans s3) bo (q3.keep λ b o hb ho=>⟨zA s2 hb,ho⟩)⟩
theorem xo (T:Txt K mg a):Cal P w K mg base "_law_belt" 3 ["_law_number"] [] (zdK a):=T.h_L_belt.cal (zc0 T)
def zbX (K:PySem.W.Frag):Sp:=λ vs H Q _=>∃ (l:Addr) (ns:List Int),vs=[.ref l]/\SqL K H l (iv ns)/\∀ kl ks H',Same H H'->H' kl=some (.lst (iv ks))->1<=ks.length->ks.length<=3->x8 ks->Q (.ref kl) H'
theorem zbm (T:Txt K mg a) (F:Fun K "_law_kinds" "_law_kinds" vj f fd):FnOk P w K mg base (CXr P w) 2 f fd ["_law_cells"] (zbX K):=by
 refine F.okx za0 ?_ ?_
 ·walk_at "i"
 walk_at "j";obtain ⟨l,ns,rfl,hl,k⟩:=h;walk_at "T";refine ⟨_,(zh (zo 1 za0.nd (Z7 (zm ⟨rfl,rfl,rfl⟩ hr (za (pq 0) (za zd zc)))))  (zh (zo 2 za0.nd (Z7 (zm ⟨rfl,rfl,rfl⟩ hr (za (pq 0) (za zd zc)))))  (zg (zk (zv (zz (za (zz (za (pq 1) zc)) (za (zz (za (pq 1) (za (pq 2) zc))) (za (zz (za (pq 1) (za (pq 2) (za (pq 1) zc)))) zc)))) (zm ⟨rfl,rfl,rfl⟩ hr (za (zm ⟨rfl,rfl,rfl⟩ hr (za (pq 0) (za zd zc))) (za zd (za zd zc))))))))),?_⟩;walk_at "go";refine uc (qV T).mono ⟨l,ns,2,rfl,hl,?_⟩;walk_at "go";refine uc (qV T).mono ⟨l,ns,3,rfl,hl,?_⟩;walk_at "go";have x0:=Int.emod_nonneg (jy ns 2) (show (1000000000000000000000000000000:Int)≠0 by decide);have x1:=Int.emod_lt_of_pos (jy ns 2) (show (0:Int) < 1000000000000000000000000000000 by decide);have y0:=Int.emod_nonneg (jy ns 3) (show (1000000000000000000000000000000:Int)≠0 by decide);have y1:=Int.emod_lt_of_pos (jy ns 3) (show (0:Int) < 1000000000000000000000000000000 by decide);generalize jy ns 2 % 1000000000000000000000000000000=x at x0 x1 ⊢;generalize jy ns 3 % 1000000000000000000000000000000=y at y0 y1 ⊢;intro p1 h1 p2 h2 p3 h3 p4 h4;have s1:=zf (o:=.lst [.int x]) h1;have s2:=zf (o:=.lst [.int x,.int y]) h2;have s3:=zf (o:=.lst [.int x,.int y,.int x]) h3;have s4:=zf (o:=.lst [.ref p1,.ref p2,.ref p3]) h4;have g1:=s4 _ _ (s3 _ _ (s2 _ _ upd_same));have g2:=s4 _ _ (s3 _ _ upd_same);have g3:=s4 _ _ upd_same;have g4:upd (upd (upd (upd H p1 (.lst [.int x])) p2 (.lst [.int x,.int y])) p3 (.lst [.int x,.int y,.int x])) p4 (.lst [.ref p1,.ref p2,.ref p3]) p4=some (.lst [.ref p1,.ref p2,.ref p3]):=upd_same;have sA:=((s1.trans s2).trans s3).trans s4;generalize upd (upd (upd (upd H p1 (.lst [.int x])) p2 (.lst [.int x,.int y])) p3 (.lst [.int x,.int y,.int x])) p4 (.lst [.ref p1,.ref p2,.ref p3])=H4 at sA g1 g2 g3 g4 ⊢;clear s1 s2 s3 s4 h1 h2 h3 h4;refine uc (qf T).mono (uc (qV T).mono ⟨l,ns,1,rfl,xJ sA hl,_,10037,3,rfl,by decide,by decide,λ r r0 r3=>?_⟩);have kk:x8 [x,y,x]:=λ z hz=>by
  simp only [mem_cons,not_mem_nil,or_false] at hz;rcases hz with rfl|rfl|rfl
  ·exact ⟨x0,x1⟩
  ·exact ⟨y0,y1⟩
  ·exact ⟨x0,x1⟩
 rcases (by omega:r=0\/r=1\/r=2) with rfl|rfl|rfl
 ·exact zt (SqL.of g4) at0 (k p1 [x] H4 sA g1 (by simp) (by simp) λ z hz=>kk z (by simp at hz;simp [hz]))
 ·exact zt (SqL.of g4) (show atI _ 1=some (.ref p2) from rfl) (k p2 [x,y] H4 sA g2 (by simp) (by simp) λ z hz=>kk z (by simp at hz;rcases hz with rfl|rfl <;> simp))
 ·exact zt (SqL.of g4) (show atI _ 2=some (.ref p3) from rfl) (k p3 [x,y,x] H4 sA g3 (by simp) (by simp) kk)
theorem zds (T:Txt K mg a):Cal P w K mg base "_law_kinds" 2 ["_law_cells"] [] (zbX K):=T.h_L_kinds.cal (zbm T)
def zbS (a:Ad):Sp:=λ vs H Q _=>∃ (n y kk o1 o2:Int) (O:Addr),vs=[.int n,.int y,.ref O,.int kk]/\H O=some (.lst (iv [o1,o2]))/\0<=kk/\kk < qP/\∀ z H' r,Same H H'->r.ins=[y]->r.outs=[o1,o2]->r.ok->KnP a H' (New H) (.ref z) r->Q (.ref z) H'
theorem zbi (T:Txt K mg a) (F:Fun K "_law_split" "_law_split" vb f fd):FnOk P w K mg base (CXr P w) 4 f fd ["_law_number","_law_into","_law_outs","_law_kind"] (zbS a):=by
 refine F.okx zaW ?_ ?_
 ·walk_at "i"
 walk_at "j";obtain ⟨n,y,kk,o1,o2,O,rfl,hO,k0,k1,k⟩:=h;walk_at "T";refine ⟨_,(zh (zo 4 zaW.nd (zm ⟨rfl,rfl,rfl⟩ hr (za (pq 0) (za zd (za zd zc)))))  (zh (zG (zq (wv hr.units1) (pq 4) zd (zw _))  (zg (zk (zW (x:="Parter") ⟨rfl,rfl,rfl⟩ hr (za (pq 1) (za (pq 2) zc)))))  zp)  (zh (zG (zq (wv hr.units1) (pq 4) zd (zw _))  (zg (zk (zW (x:="FirstParter") ⟨rfl,rfl,rfl⟩ hr (za (pq 1) (za (pq 2) zc)))))  zp)  (zg (zk (zW (x:="Sieve") ⟨rfl,rfl,rfl⟩ hr (za (pq 1) (za (pq 2) (za (pq 3) zc))))))))),?_⟩;walk_at "go";refine uc (qf T).mono ⟨n,10039,3,rfl,by decide,by decide,λ pk _ _=>?_⟩;walk_at "go";refine zL (λ _=>?_) (λ _=>?_)
 ·walk_at "go";refine ⟨a.Parter,_,_,_,(ZF T).mono,?_⟩;intro z dz hz hdz hne;exact Qi hz hdz hO (by simp) (by simp) λ H1 s1 q1=>⟨rfl,k _ _ ⟨.parter,[y],[o1,o2],0,[]⟩ s1 rfl rfl ⟨⟨_,rfl⟩,by simp,by simp⟩ q1⟩
 walk_at "go";refine zL (λ _=>?_) (λ _=>?_)
 ·walk_at "go";refine ⟨a.FirstParter,_,_,_,(jI T).mono,?_⟩;intro z dz hz hdz hne;exact JZ hz hdz hO (by simp) (by simp) λ H1 s1 q1=>⟨rfl,k _ _ ⟨.first,[y],[o1,o2],0,[]⟩ s1 rfl rfl ⟨⟨_,rfl⟩,by simp,by simp⟩ q1⟩
 walk_at "go";refine ⟨a.Sieve,_,_,_,(zca T).mono,?_⟩;intro z dz hz hdz hne;exact zeh hz hdz hO rfl k0 k1 λ H1 s1 q1=>⟨rfl,k _ _ ⟨.sieve,[y],[o1,o2],0,[kk]⟩ s1 rfl rfl ⟨⟨_,rfl⟩,rfl,kk,rfl,k0,k1⟩ q1⟩
theorem zdo (T:Txt K mg a):Cal P w K mg base "_law_split" 4 ["_law_number","_law_into","_law_outs","_law_kind"] [] (zbS a):=T.h_L_split.cal (zbi T)
theorem zeu {A C X Y:Prop} [Decidable A] [Decidable C] (x:A->C->X) (y:Y):if A then (if C then X else Y) else Y:=by
 split
 ·split
  ·rename_i a c;exact x a c
  ·exact y
 ·exact y
theorem zfy {A W Z:Prop} [Decidable A] (z:Z) (w:A->Z->W):if A then W else Z:=by
 by_cases h:A
 ·rw [if_pos h];exact w h z
 ·rw [if_neg h];exact z
abbrev stG (L R E:Addr) (v3:V) (c kk:Int) (v6 v7 v8 v9:Option V):St:=[some (.ref L),some (.ref R),some (.ref E),some v3,some (.int c),some (.int kk),v6,v7,v8,v9]
def zbY (a:Ad):Sp:=λ vs H Q _=>∃ (L R E:Addr) (bs:List (Int × Int)) (rs:List Row) (es:List Int) (lp:Option Int) (c kk:Int),vs=[.ref L,.ref R,.ref E,oiV lp,.int c,.int kk]/\GS a H H L R E bs rs es/\WInv bs rs es lp.toList/\0<=kk/\kk < qP/\bs.length<=20/\rs.length<=20/\es.length<=20/\1<=es.length /\
 ∀ H' bs' rs' es' lp',GS a H H' L R E bs' rs' es'->WInv bs' rs' es' lp'.toList->1<=es'.length->bs.length + 1<=bs'.length->bs'.length<=bs.length + 2->rs'.length=rs.length + 1->Q (oiV lp') H'
theorem zbn (T:Txt K mg a) (F:Fun K "_law_grown" "_law_grown" vm f fd):FnOk P w K mg base (CXr P w) 5 f fd ["_law_belts","_law_knots","_law_loose","_law_loop","_law_number","_law_kind"] (zbY a):=by
 refine F.okx za1 ?_ ?_
 ·walk_at "i"
 walk_at "j";obtain ⟨L,R,E,bs,rs,es,lp,c,kk,rfl,W,I,k0,k1,lb,lr,le,le1,k⟩:=h;obtain ⟨bv,hL,rL⟩:=W.hL;have lL:bv.length=bs.length:=by rw [rL.len,length_map]
 walk_at "T";refine ⟨_,(zi (zo 6 za1.nd (zQ zV zU (za (pq 0) zc)))  (zi (zx (qJ PySem.F.plainAttrs_list PySem.F.slot_list_append PySem.F.type_list_append zK (pq 0) (za (zm ⟨rfl,rfl,rfl⟩ hr (za (pq 4) zc)) zc)))  (zi (zo 7 za1.nd (zm ⟨rfl,rfl,rfl⟩ hr (za (pq 4) (za zd (za zd zc)))))  (zi (zG (zq (wv hr.units1) (pq 7) zd (zw _))  (zi (zx (qJ PySem.F.plainAttrs_list PySem.F.slot_list_append PySem.F.type_list_append zK (pq 1) (za (zW (x:="Source") ⟨rfl,rfl,rfl⟩ hr (za (pq 6) (za (zH z9 zd (zm ⟨rfl,rfl,rfl⟩ hr (za (pq 4) (za zd (za zd zc))))) (za (zz (za (pq 5) (za (Z7 (pq 4)) zc))) zc)))) zc)))  (zi (zx (qJ PySem.F.plainAttrs_list PySem.F.slot_list_append PySem.F.type_list_append zK (pq 2) (za (pq 6) zc)))  (zg (zk (pq 3)))))  zp)  (zi (zo 8 za1.nd (qJ PySem.F.plainAttrs_list PySem.F.slot_list_pop PySem.F.type_list_pop JY (pq 2) (za (zm ⟨rfl,rfl,rfl⟩ hr (za (pq 4) (za zd (za (zQ zV zU (za (pq 2) zc)) zc)))) zc)))  (zi (zG (PW.pt (pw_and (zq (wv hr.units1) (pq 7) zd (zw _)) (pw_and1 (zq QB (zQ zV zU (za (pq 2) zc)) zd (zw _)))))  (zi (zx (qJ PySem.F.plainAttrs_list PySem.F.slot_list_append PySem.F.type_list_append zK (pq 1) (za (zW (x:="Joiner") ⟨rfl,rfl,rfl⟩ hr (za (zz (za (pq 8) (za (qJ PySem.F.plainAttrs_list PySem.F.slot_list_pop PySem.F.type_list_pop JY (pq 2) (za zd zc)) zc))) (za (pq 6) zc))) zc)))  (zi (zx (qJ PySem.F.plainAttrs_list PySem.F.slot_list_append PySem.F.type_list_append zK (pq 2) (za (pq 6) zc)))  (zg (zk (pq 3)))))  zp)  (zi (zo 9 za1.nd (zz (za (pq 6) (za (zH z9 (pq 6) zd) zc))))  (jd (zG (PW.pt (pw_and (zq Zx (pq 3) zy (zw _)) (pw_and1 (zq QB (pq 7) zd (zw _)))))  (zi (zo 9 za1.nd (zz (za (pq 3) (za (pq 6) zc))))  (zg (zo 3 za1.nd zy)))  (zi (zx (qJ PySem.F.plainAttrs_list PySem.F.slot_list_append PySem.F.type_list_append zK (pq 0) (za (zm ⟨rfl,rfl,rfl⟩ hr (za (Z9 (pq 4)) zc)) zc)))  (zg (zx (qJ PySem.F.plainAttrs_list PySem.F.slot_list_append PySem.F.type_list_append zK (pq 2) (za (zH z9 (pq 6) zd) zc))))))  (zi (zx (qJ PySem.F.plainAttrs_list PySem.F.slot_list_append PySem.F.type_list_append zK (pq 2) (za (pq 6) zc)))  (jd (zG (zq (wv hr.units1) (zm ⟨rfl,rfl,rfl⟩ hr (za (pq 4) (za zd (za zd zc)))) zd (zw _))  (zg (zo 9 za1.nd (zz (za (zv (pq 9) zd) (za (zv (pq 9) zd) zc)))))  zp)  (zi (zx (qJ PySem.F.plainAttrs_list PySem.F.slot_list_append PySem.F.type_list_append zK (pq 1) (za (zm ⟨rfl,rfl,rfl⟩ hr (za (pq 4) (za (pq 8) (za (pq 9) (za (pq 5) zc))))) zc)))  (zg (zk (pq 3)))))))))))))),?_⟩;walk_at "go";refine ⟨_,.inl ⟨_,SqL.of hL,rfl⟩,?_⟩;rw [lL];walk_at "go";refine ⟨.inl ⟨rfl,_,SqL.of hL⟩,_,_,_,(xo T).mono,c,rfl,λ zb H1 b s1 ob q1=>?_⟩;obtain ⟨W1,_⟩:=W.addL hL s1 q1;have I1:=I.belt ob;refine ⟨L,_,_,rfl,rfl,s1 _ _ hL,zj (by omega),?_⟩;generalize upd H1 L _=H2 at W1 ⊢;have lb1:(bs ++ [b]).length=bs.length + 1:=by simp
 clear W I hL rL q1 s1;walk_at "go";refine uc (qf T).mono ⟨c,10061,7,rfl,by decide,by decide,λ pk p0 p7=>?_⟩;obtain ⟨rv,hR,rR⟩:=W1.hR;have lR:rv.length=rs.length:=by rw [rR.len,length_map]
 walk_at "go";refine zL (λ _=>?_) (λ _=>?_)
 ·walk_at "go";refine ⟨.inl ⟨rfl,_,SqL.of hR⟩,?_⟩;refine ⟨a.Source,_,_,_,(xX T).mono,_,_,_,(qf T).mono,c,10069,4,rfl,by decide,by decide,λ r r0 r4=>?_⟩;walk_at "go";intro p hp;have x0:=Int.emod_nonneg c (show (1000000000000000000000000000000:Int)≠0 by decide);have x1:=Int.emod_lt_of_pos c (show (0:Int) < 1000000000000000000000000000000 by decide);generalize c % 1000000000000000000000000000000=x at x0 x1 ⊢;have s3:=zf (o:=.lst [.int kk,.int x]) hp;have g3:upd H2 p (.lst [.int kk,.int x]) p=some (.lst (iv [kk,x])):=upd_same;generalize upd H2 p (.lst [.int kk,.int x])=H3 at s3 g3 ⊢;have kd:x8 [kk,x]:=λ z hz=>by
   simp only [mem_cons,not_mem_nil,or_false] at hz;rcases hz with rfl|rfl
   ·exact ⟨k0,k1⟩
   ·exact ⟨x0,x1⟩
  intro z dz hz hdz _;refine xV hz hdz g3 (by omega) (by omega) (by simp) (by simp) kd λ H4 s4 q4=>⟨rfl,?_⟩;obtain ⟨W4,_⟩:=(W1.same s3).addR (s3 _ _ hR) s4 q4;refine ⟨R,_,_,rfl,rfl,s4 _ _ (s3 _ _ hR),zj (by omega),?_⟩;generalize upd H4 R _=H5 at W4 ⊢;walk_at "go";refine ⟨.inl ⟨rfl,_,SqL.of W4.hE⟩,E,_,_,rfl,rfl,W4.hE,zj (by rw [zD];omega),?_⟩;rw [jf];have W5:=W4.setE (es ++ [(bs.length:Int)]);generalize upd H5 E _=H6 at W5 ⊢;walk_at "go";refine k _ _ _ _ lp W5 (I1.knot (r:=⟨.source,[],[(bs.length:Int)],1 + r,[kk,x]⟩) (List.Perm.refl _) perm_append_comm ⟨rfl,⟨_,rfl⟩,show (1:Int)<=1 + r by omega,show 1 + r<=4 by omega,by simp,by simp,kd⟩) (by simp) (by omega) (by omega) (by simp)
 walk_at "go";refine ⟨.inl ⟨rfl,_,SqL.of W1.hE⟩,_,_,_,(qf T).mono,m_len,_,.inl ⟨_,SqL.of W1.hE,rfl⟩,c,10067,_,rfl,by decide,by rw [zD];omega,λ jj v0 v1=>?_⟩;rw [zD] at v1;obtain ⟨y,hy⟩:∃ y,es[jj.toNat]?=some y:=⟨es[jj.toNat]'(by omega),getElem?_eq_getElem _⟩;refine ⟨E,iv es,jj,jj.toNat,.int y,rfl,rfl,W1.hE,by omega,by omega,JK v0 (by rw [zD];exact v1),xI hy,?_⟩;rw [zet];have W2:=W1.setE (es.eraseIdx jj.toNat);have pp:=V5 hy;have pl:=pp.length_eq;rw [length_cons] at pl;have I2:=I1.perm (pp.append_right [(bs.length:Int)]) (List.Perm.refl _);generalize upd H2 E (.lst (iv (es.eraseIdx jj.toNat)))=H3 at W2 ⊢;generalize es.eraseIdx jj.toNat=es1 at pp pl W2 I2 ⊢;clear W1 I1 pp hR rR lR hy v0 v1;obtain ⟨rv,hR,rR⟩:=W2.hR;have lR:rv.length=rs.length:=by rw [rR.len,length_map]
 walk_at "go";refine zfy ?_ (λ _ z=>⟨m_len,_,.inl ⟨_,SqL.of W2.hE,rfl⟩,zL (λ w1=>?_) (λ _=>z)⟩)
 rotate_left
 ·rw [zD] at w1;obtain ⟨x,es2,rfl⟩:∃ x es2,es1=x :: es2:=by cases es1 with|nil=>simp at w1|cons x es2=>exact ⟨x,es2,rfl⟩
  walk_at "go";refine ⟨.inl ⟨rfl,_,SqL.of hR⟩,a.Joiner,_,_,_,(ZG T).mono,.inl ⟨rfl,_,SqL.of W2.hE⟩,E,iv (x :: es2),0,0,.int x,rfl,rfl,W2.hE,by decide,by decide,JK (by decide) (by simp [iv]),rfl,?_⟩;show ∀ p:Addr,upd H3 E (.lst (iv es2)) p=none->∀ z dz:Addr,upd (upd H3 E (.lst (iv es2))) p (.lst [.int y,.int x]) z=none->upd (upd H3 E (.lst (iv es2))) p (.lst [.int y,.int x]) dz=none->dz≠z->jp K a.Joiner a.BadKnot [.ref z,.ref p,.int bs.length] (upd (upd (upd (upd H3 E (.lst (iv es2))) p (.lst [.int y,.int x])) dz (.own z)) z (.ins a.Joiner dz [])) _ _
  have W3:=W2.setE es2;have hR3:upd H3 E (.lst (iv es2)) R=some (.lst rv):=by rw [upd_ne W2.nRE];exact hR
  generalize upd H3 E (.lst (iv es2))=H4 at W3 hR3 ⊢;intro p hp;have s5:=zf (o:=.lst [.int y,.int x]) hp;have g5:upd H4 p (.lst [.int y,.int x]) p=some (.lst (iv [y,x])):=upd_same;generalize upd H4 p (.lst [.int y,.int x])=H5 at s5 g5 ⊢;intro z dz hz hdz _;refine Qj hz hdz g5 (by simp) (by simp) λ H6 s6 q6=>⟨rfl,?_⟩;obtain ⟨W6,_⟩:=(W3.same s5).addR (s5 _ _ hR3) s6 q6;refine ⟨R,_,_,rfl,rfl,s6 _ _ (s5 _ _ hR3),zj (by omega),?_⟩;generalize upd H6 R _=H7 at W6 ⊢;walk_at "go";simp only [length_cons] at pl;refine ⟨.inl ⟨rfl,_,SqL.of W6.hE⟩,E,_,_,rfl,rfl,W6.hE,zj (by rw [zD];omega),?_⟩;rw [jf];have W7:=W6.setE (es2 ++ [(bs.length:Int)]);generalize upd H7 E _=H8 at W7 ⊢;walk_at "go";exact k _ _ _ _ lp W7 (I2.knot (r:=⟨.joiner,[y,x],[(bs.length:Int)],0,[]⟩) (List.Perm.refl _) perm_append_comm ⟨⟨_,rfl⟩,by simp,by simp⟩) (by simp) (by omega) (by omega) (by simp)
 walk_at "go";intro O hO;have W3:=W2.same (zf (o:=.lst [V.int bs.length,.int (bs.length + 1)]) hO);have nO:=W2.off hO;have gO:upd H3 O (.lst [V.int bs.length,.int (bs.length + 1)]) O=some (.lst (iv [(bs.length:Int),bs.length + 1])):=upd_same;generalize upd H3 O (.lst [V.int bs.length,.int (bs.length + 1)])=H4 at W3 gO ⊢;clear W2 hR rR;walk_at "go";refine cut (λ σ' H'=>∃ (lp':Option Int) (bs':List (Int × Int)) (es':List Int) (o1 o2:Int) (O':Addr),σ'=stG L R E (oiV lp') c kk (some (.int bs.length)) (some (.int pk)) (some (.int y)) (some (.ref O'))/\GS a H H' L R E bs' rs es'/\O' ∉ ms3 L R E/\H' O'=some (.lst (iv [o1,o2]))/\WInv bs' rs ([y] ++ (es' ++ [(bs.length:Int)])) ([o1,o2] ++ lp'.toList)/\bs.length + 1<=bs'.length/\bs'.length<=bs.length + 2/\es'.length<=30) ?_ ?_
 ·walk_at "go";refine zeu (λ x1 _=>?_) ?_
  ·obtain ⟨x,rfl⟩:∃ x,lp=some x:=by cases lp with|none=>exact absurd rfl x1|some x=>exact ⟨x,rfl⟩
   walk_at "go";intro O2 hO2;walk_at "go";exact ⟨none,_,es1,x,_,O2,rfl,W3.same (zf hO2),W3.off hO2,upd_same,I2,by omega,by omega,by omega⟩
  obtain ⟨bv,hL,rL⟩:=W3.hL;have lL:bv.length=(bs ++ [b]).length:=by rw [rL.len,length_map]
  walk_at "go";refine ⟨.inl ⟨rfl,_,SqL.of hL⟩,_,_,_,(xo T).mono,_,rfl,λ zb2 H5 b2 s5 ob2 q5=>?_⟩;obtain ⟨W5,_⟩:=W3.addL hL s5 q5;have I5:=I2.belt ob2;refine ⟨L,_,_,rfl,rfl,s5 _ _ hL,zj (by omega),?_⟩;have g5:=s5 _ _ gO;have nOL:O≠L:=λ z=>nO (by simp [z]);have nOE:O≠E:=λ z=>nO (by simp [z]);have g5:upd H5 L (.lst (bv ++ [.ref zb2])) O=some (.lst (iv [(bs.length:Int),bs.length + 1])):=by rw [upd_ne nOL];exact g5
  generalize upd H5 L _=H6 at W5 g5 ⊢;walk_at "go";refine ⟨.inl ⟨rfl,_,SqL.of W5.hE⟩,E,_,_,rfl,rfl,W5.hE,zj (by rw [zD];omega),?_⟩;rw [jf];have W6:=W5.setE (es1 ++ [(bs.length:Int) + 1]);refine ⟨lp,_,_,_,_,O,rfl,W6,nO,by rw [upd_ne nOE];exact g5,?_,by simp,by simp,by simp;omega⟩;refine I5.perm ?_ ?_
  ·rw [lb1];show (y :: (es1 ++ [((bs.length:Int) + 1)] ++ [(bs.length:Int)])).Perm (y :: es1 ++ [(bs.length:Int)] ++ [((bs.length + 1:Nat):Int)])
   rw [show ((bs.length + 1:Nat):Int)=(bs.length:Int) + 1 from rfl,cons_append,cons_append,append_assoc,append_assoc];exact List.Perm.cons _ (List.Perm.append_left _ (List.Perm.swap ..))
  ·rw [lb1,append_assoc];exact perm_append_comm (l₁:=[(bs.length:Int),(bs.length:Int) + 1]) (l₂:=lp.toList)
 clear W3 I2 gO nO;rintro σ' H5 ⟨lp',bs',es',o1,o2,O',rfl,W5,nO,gO,I5,b1,b2,le'⟩;walk_at "go";refine ⟨.inl ⟨rfl,_,SqL.of W5.hE⟩,E,_,_,rfl,rfl,W5.hE,zj (by rw [zD];omega),?_⟩;rw [jf];have W6:=W5.setE (es' ++ [(bs.length:Int)]);have nOE:O'≠E:=λ z=>nO (by simp [z]);have gO:upd H5 E (.lst (iv (es' ++ [(bs.length:Int)]))) O'=some (.lst (iv [o1,o2])):=by rw [upd_ne nOE];exact gO
 generalize upd H5 E _=H6 at W6 gO ⊢;walk_at "go";refine cut (λ σ' H'=>∃ (p1 p2:Int) (O2:Addr),σ'=stG L R E (oiV lp') c kk (some (.int bs.length)) (some (.int pk)) (some (.int y)) (some (.ref O2))/\Same H6 H'/\H' O2=some (.lst (iv [p1,p2]))/\[p1,p2].Perm [o1,o2]) ?_ ?_
 ·walk_at "go";refine uc (qf T).mono ⟨c,10069,2,rfl,by decide,by decide,λ r _ _=>?_⟩;walk_at "go";refine zL (λ _=>?_) (λ _=>⟨o1,o2,O',rfl,Same.refl _,gO,List.Perm.refl _⟩);walk_at "go";refine zt (SqL.of gO) (show atI _ 1=some (.int o2) from rfl) (zt (SqL.of gO) at0 λ O2 hO2=>?_);exact ⟨o2,o1,O2,rfl,zf hO2,upd_same,List.Perm.swap ..⟩
 rintro σ' H7 ⟨p1,p2,O2,rfl,s7,g7,pm⟩;have W7:=W6.same s7;obtain ⟨rv,hR,rR⟩:=W7.hR;walk_at "go";refine ⟨.inl ⟨rfl,_,SqL.of hR⟩,_,_,_,(zdo T).mono,c,y,kk,p1,p2,O2,rfl,g7,k0,k1,λ z H8 r s8 r1 r2 r3 q8=>?_⟩;obtain ⟨W8,lR⟩:=W7.addR hR s8 q8;refine ⟨R,_,_,rfl,rfl,s8 _ _ hR,zj (by omega),?_⟩;generalize upd H8 R _=H9 at W8 ⊢;walk_at "go";exact k _ _ _ _ lp' W8 (I5.knot (r:=r) (by rw [r1]) (by rw [r2];exact pm.append_right _) r3) (by simp) (by omega) (by omega) (by simp)
theorem zdt (T:Txt K mg a):Cal P w K mg base "_law_grown" 5 ["_law_belts","_law_knots","_law_loose","_law_loop","_law_number","_law_kind"] [] (zbY a):=T.h_L_grown.cal (zbn T)
abbrev stK (l:Addr) (tp c:Int) (kl:Addr) (v4 v5 v6 v7 v8 v9 v10 v11:Option V):St:=[some (.ref l),some (.int tp),some (.int c),some (.ref kl),v4,v5,v6,v7,v8,v9,v10,v11]
def VJ (K:PySem.W.Frag) (a:Ad):Sp:=λ vs H Q _=>∃ (l:Addr) (ns:List Int),vs=[.ref l,.int 8]/\SqL K H l (iv ns)/\∀ vw H' bs rs,Same H H'->Rep H' (Off []) vw (zX a bs rs)->zC bs rs->(∀ b∈bs,zu b.1 b.2)->(∀ r∈rs,r.ok)->Q vw H'
theorem WInv.el {bs:List (Int × Int)} {rs:List Row} {es ks:List Int} (h:WInv bs rs es ks):es.length<=bs.length:=by
 have:=h.tk.length_eq;rw [length_append,Ja] at this;omega
theorem WInv.em {bs:List (Int × Int)} {rs:List Row} {es ks:List Int} (h:WInv bs rs es ks) {x:Int} (hx:x∈es):0<=x/\x < bs.length:=by
 obtain ⟨i,hi,rfl⟩:=List.mem_map.mp (h.tk.mem_iff.mp (mem_append_right _ hx));have:=List.mem_range.mp hi;exact ⟨Int.natCast_nonneg _,by show (i:Int) < _;omega⟩
theorem zfF (ns:List Int):∃ cs:List Int,Xk (iv ns) (some 1) none=iv cs:=by
 unfold Xk;rw [show (some (1:Int))=some ((1:Nat):Int) from rfl,HT.sIx_nat,HT.sIx_none,zD];exact ⟨(ns.drop (min 1 ns.length)).take (ns.length - min 1 ns.length),by simp [iv]⟩
theorem winv0:WInv [] [] [] []:=⟨List.Perm.refl _,List.Perm.refl _,(λ _ z=>nomatch z),(λ _ z=>nomatch z)⟩
theorem zcW (T:Txt K mg a) (F:Fun K "_law_work" "_law_work" Zo f fd):FnOk P w K mg base (CXr P w) 7 f fd ["_law_cells","_law_top"] (VJ K a):=by
 refine F.okx zcE ?_ ?_
 ·walk_at "i"
 walk_at "j";obtain ⟨l,ns,rfl,hl,k⟩:=h;walk_at "T";refine ⟨_,(zi (zo 2 zcE.nd (zm ⟨rfl,rfl,rfl⟩ hr (za (pq 0) (za zd zc))))  (zi (zo 3 zcE.nd (zm ⟨rfl,rfl,rfl⟩ hr (za (pq 0) zc)))  (zi (zo 4 zcE.nd (zz (za (zm ⟨rfl,rfl,rfl⟩ hr (za (pq 2) zc)) zc)))  (zi (zo 5 zcE.nd zd)  (zi (zo 6 zcE.nd (zz (za zd zc)))  (zi (zo 7 zcE.nd zy)  (jd (zG (zq QB (zm ⟨rfl,rfl,rfl⟩ hr (za (pq 2) (za zd (za zd zc)))) zd (zw _))  (zi (zo 5 zcE.nd (zm ⟨rfl,rfl,rfl⟩ hr (za (pq 2) (za zd (za zd zc)))))  (zi (zo 4 zcE.nd (zH z9 (pq 4) (zz (za (zm ⟨rfl,rfl,rfl⟩ hr (za (Z9 (pq 2)) zc)) (za (zm ⟨rfl,rfl,rfl⟩ hr (za (Z9 (pq 2)) zc)) zc)))))  (zi (zo 6 zcE.nd (zz (za zd zc)))  (zg (zo 7 zcE.nd (zH WW zd (pq 5)))))))  zp)  (zi (zo 8 zcE.nd (zz (za (zW (x:="Source") ⟨rfl,rfl,rfl⟩ hr (za (pq 5) (za (zH z9 zd (zm ⟨rfl,rfl,rfl⟩ hr (za (pq 2) (za zd (za zd zc))))) (za (pq 3) zc)))) zc)))  (jd (zG (zq Zx (pq 7) zy (zw _))  (zg (zx (qJ PySem.F.plainAttrs_list PySem.F.slot_list_append PySem.F.type_list_append zK (pq 8) (za (zW (x:="Joiner") ⟨rfl,rfl,rfl⟩ hr (za (zz (za (pq 5) (za (pq 7) zc))) (za zd zc))) zc))))  zp)  (jd (jh jS rfl (qd (Zw WD (pq 0) (Jb zd) Jc)) (qr 9 zcE.nd)  (zi (zG (zq QB (zH z9 (zQ zV zU (za (pq 4) zc)) zd) (pq 1) (zw _))  (zg zd0)  zp)  (zg (zo 7 zcE.nd (zm ⟨rfl,rfl,rfl⟩ hr (za (pq 4) (za (pq 8) (za (pq 6) (za (pq 7) (za (pq 9) (za (zv (pq 3) zd) zc)))))))))))  (jd (zG (zq Zx (pq 7) zy (zw _))  (zi (zx (qJ PySem.F.plainAttrs_list PySem.F.slot_list_append PySem.F.type_list_append zK (pq 8) (za (zW (x:="Parter") ⟨rfl,rfl,rfl⟩ hr (za (qJ PySem.F.plainAttrs_list PySem.F.slot_list_pop PySem.F.type_list_pop JY (pq 6) (za zd zc)) (za (zz (za (pq 7) (za (zQ zV zU (za (pq 4) zc)) zc))) zc))) zc)))  (zi (zx (qJ PySem.F.plainAttrs_list PySem.F.slot_list_append PySem.F.type_list_append zK (pq 6) (za (zQ zV zU (za (pq 4) zc)) zc)))  (zg (zx (qJ PySem.F.plainAttrs_list PySem.F.slot_list_append PySem.F.type_list_append zK (pq 4) (za (zm ⟨rfl,rfl,rfl⟩ hr (za (Z9 (pq 2)) zc)) zc))))))  zp)  (jd (jh jS rfl (qd (pq 6)) (qr 10 zcE.nd)  (zg (zx (qJ PySem.F.plainAttrs_list PySem.F.slot_list_append PySem.F.type_list_append zK (pq 8) (za (zW (x:="Drain") ⟨rfl,rfl,rfl⟩ hr (za (pq 10) (za (zv (zz (za zd (za zd (za zd (za zd (za zd (za zd zc))))))) (zm ⟨rfl,rfl,rfl⟩ hr (za (zH z9 (pq 2) (zH Vf (zH Vf (pq 10) (pq 10)) zd)) (za zd (za zd zc))))) zc))) zc)))))  (zi (zo 11 zcE.nd (zm ⟨rfl,rfl,rfl⟩ hr (za (pq 2) (za zd (za (zQ zV zU (za (pq 8) zc)) zc)))))  (zg (zk (zW (x:="Work") ⟨rfl,rfl,rfl⟩ hr (za (pq 4) (za (zH z9 (Zw WD (pq 8) (Jb (pq 11)) Jc) (Zw WD (pq 8) Jc (Jb (pq 11)))) zc)))))))))))))))))),?_⟩;walk_at "go";refine uc (qV T).mono ⟨l,ns,0,rfl,hl,?_⟩;generalize jy ns 0=c;walk_at "go";refine uc (zds T).mono ⟨l,ns,rfl,hl,λ kl ks H1 s1 g1 k1 k3 kk=>?_⟩;have hl1:=xJ s1 hl;clear hl;walk_at "go";refine uc (xo T).mono ⟨c,rfl,λ z0 H2 b0 s2 o0 q0=>?_⟩;intro L hL;have s3:=zf (o:=.lst [.ref z0]) hL;have gL:upd H2 L (.lst [.ref z0]) L=some (.lst [.ref z0]):=upd_same;have r2:Reps H2 (Off []) [.ref z0] ([b0].map (jU a)):=.one (q0.keep λ b o _ ho=>⟨(λ z=>nomatch z),ho⟩);have w0:WInv [b0] [] [0] [0]:=winv0.belt o0;generalize upd H2 L (.lst [.ref z0])=H3 at s3 gL ⊢;walk_at "go";walk_at "go";intro E hE;have s4:=zf (o:=.lst [.int 0]) hE;have gE:upd H3 E (.lst [.int 0]) E=some (.lst (iv [0])):=upd_same;have gL4:=s4 _ _ gL;have s24:=s3.trans s4;have hE2:=zA s3 hE;have nLE:L≠E:=λ z=>by rw [<- z,gL] at hE;cases hE
 generalize upd H3 E (.lst [.int 0])=H4 at gE gL4 s24 ⊢;clear s4 s3;walk_at "go";walk_at "go";refine cut (λ σ' H'=>∃ (L E:Addr) (Hx:Hp) (bvs:List V) (bs:List (Int × Int)) (es:List Int) (fi:Int) (lp:Option Int),σ'=stK l 8 c kl (some (.ref L)) (some (.int fi)) (some (.ref E)) (some (oiV lp)) none none none none/\Same H1 Hx/\Reps Hx (Off []) bvs (bs.map (jU a))/\Same Hx H'/\Hx L=none/\Hx E=none/\L≠E/\H' L=some (.lst bvs)/\H' E=some (.lst (iv es)) /\
  ((bs.length=1/\WInv bs [] [0] [0]/\fi=0/\lp=none/\es=[0])\/(bs.length=3/\WInv bs [] [0,1,2] [0,1,2]/\(fi=0\/fi=1)/\lp=some (1 - fi)/\es=[2]))) ?_ ?_
 ·walk_at "go";refine uc (qf T).mono ⟨c,10091,3,rfl,by decide,by decide,λ r _ _=>?_⟩;walk_at "go";refine zL (λ _=>?_) (λ _=>⟨L,E,H2,_,[b0],[0],0,none,rfl,s2,r2,s24,hL,hE2,nLE,gL4,gE,.inl ⟨rfl,w0,rfl,rfl,rfl⟩⟩);walk_at "go";refine uc (qf T).mono ⟨c,10133,2,rfl,by decide,by decide,λ fi f0 f1=>?_⟩;walk_at "go";refine uc (xo T).mono ⟨_,rfl,λ z1 H5 b1 s5 o1 q1=>(uc (xo T).mono ⟨_,rfl,λ z2 H6 b2 s6 o2 q2=>λ p hp=>?_⟩)⟩;have s7:=zf (o:=.lst [.ref z1,.ref z2]) hp;have gp:upd H6 p (.lst [.ref z1,.ref z2]) p=some (.lst [.ref z1,.ref z2]):=upd_same;generalize upd H6 p (.lst [.ref z1,.ref z2])=H7 at s7 gp ⊢;have s57:=s6.trans s7;have s47:=s5.trans s57;have r7:Reps H7 (Off []) [.ref z0,.ref z1,.ref z2] ([b0,b1,b2].map (jU a)):=(r2.same (s24.trans s47)).append (.cons (q1.keep λ b o _ ho=>⟨(λ z=>nomatch z),s57 _ _ ho⟩) (.one (q2.keep λ b o _ ho=>⟨(λ z=>nomatch z),s7 _ _ ho⟩)));refine Zt (SqL.of (s47 _ _ gL4)) (SqL.of gp) (xr (by simp)) λ Lw hL2=>?_;rw [show [V.ref z0] ++ [V.ref z1,.ref z2]=[.ref z0,.ref z1,.ref z2] from rfl];have s8:=zf (o:=.lst [.ref z0,.ref z1,.ref z2]) hL2;have g8:upd H7 Lw (.lst [.ref z0,.ref z1,.ref z2]) Lw=some (.lst [.ref z0,.ref z1,.ref z2]):=upd_same;generalize upd H7 Lw (.lst [.ref z0,.ref z1,.ref z2])=H8 at s8 g8 ⊢;walk_at "go";intro E2 hE2;have s9:=zf (o:=.lst [.int 2]) hE2;walk_at "go";exact ⟨Lw,E2,H7,_,[b0,b1,b2],[2],fi,some (1 - fi),rfl,(s2.trans s24).trans s47,r7,s8.trans s9,hL2,zA s8 hE2,(λ z=>by rw [<- z,g8] at hE2;cases hE2),s9 _ _ g8,upd_same,.inr ⟨rfl,(w0.belt o1).belt o2,by omega,rfl,rfl⟩⟩
 clear r2 s24 hL hE2 nLE gL4 gE w0 s2 gL q0 o0 hE;rintro σ' H5 ⟨L,E,Hx,bvs,bs,es,fi,lp,rfl,s1x,rx,sx,xL,xE,nLE,gL,gE,st⟩;walk_at "go";refine ⟨a.Source,_,_,_,(xX T).mono,_,_,_,(qf T).mono,c,10079,2,rfl,by decide,by decide,λ r r0 r2=>?_⟩;walk_at "go";intro z dz hz hdz _;refine xV hz hdz (sx _ _ (s1x _ _ g1)) (by omega) (by omega) k1 (by omega) kk λ H6 s6 q6=>⟨rfl,λ R hR=>?_⟩;have s7:=zf (o:=.lst [.ref z]) hR;have xR:Hx R=none:=zA (sx.trans s6) hR;have sx7:=(sx.trans s6).trans s7;have W:GS a (upd H6 R (.lst [.ref z])) (upd H6 R (.lst [.ref z])) L R E bs [⟨.source,[],[fi],1 + r,ks⟩] es:=by
  have n1:R≠L:=λ e=>by rw [e,s6 _ _ gL] at hR;cases hR
  have n2:R≠E:=λ e=>by rw [e,s6 _ _ gE] at hR;cases hR
  refine ⟨Fr.refl,n1.symm,nLE,n2,⟨bvs,s7 _ _ (s6 _ _ gL),?_⟩,⟨_,upd_same,.one (q6.keep λ b o hb ho=>⟨λ e=>?_,s7 _ _ ho⟩)⟩,s7 _ _ (s6 _ _ gE)⟩
  ·refine (rx.more (ns:=ms3 L R E) λ b hb=>.inr ?_).same sx7;simp only [mem_cons,not_mem_nil,or_false] at hb;rcases hb with rfl|rfl|rfl
   ·exact xL
   ·exact xR
   ·exact xE
  ·have hb:H5 b=none:=hb;simp only [mem_cons,not_mem_nil,or_false] at e;rcases e with rfl|rfl|rfl
   ·rw [gL] at hb;cases hb
   ·rw [hR] at ho;cases ho
   ·rw [gE] at hb;cases hb
 have n1:∀ b∈ms3 L R E,H1 b=none:=λ b hb=>by
  simp only [mem_cons,not_mem_nil,or_false] at hb;rcases hb with rfl|rfl|rfl
  ·exact zA s1x xL
  ·exact zA s1x xR
  ·exact zA s1x xE
 have s17:=s1x.trans sx7;generalize upd H6 R (.lst [.ref z])=H7 at W s17 ⊢;clear rx sx xL xE nLE gL gE q6 s6 s7 xR sx7 hR hz hdz;walk_at "go";let M1_:St->Hp->Prop:=λ σ' H'=>∃ rs,σ'=stK l 8 c kl (some (.ref L)) (some (.int fi)) (some (.ref E)) (some (oiV lp)) (some (.ref R)) none none none/\GS a H7 H' L R E bs rs es/\WInv bs rs es lp.toList/\rs.length<=bs.length/\bs.length<=3/\es.length=1;refine cut M1_ ?_ ?_
 ·have ok:Row.ok ⟨.source,[],[fi],1 + r,ks⟩:=⟨rfl,⟨_,rfl⟩,show (1:Int)<=1 + r by omega,show 1 + r<=4 by omega,k1,show ks.length<=6 by omega,kk⟩;rcases st with ⟨l1,I,rfl,rfl,rfl⟩|⟨l3,I,hf,rfl,rfl⟩
  ·walk_at "go";exact ⟨_,rfl,W,I.knot (r:=⟨.source,[],[0],1 + r,ks⟩) (List.Perm.refl _) (List.Perm.refl _) ok,by simp [l1],by omega,rfl⟩
  ·walk_at "go";refine zL (λ _=>?_) (λ z=>absurd (λ q=>nomatch q) z);obtain ⟨rv,hR,rR⟩:=W.hR;have lR:rv.length=1:=by rw [rR.len];rfl
   refine ⟨.inl ⟨rfl,_,SqL.of hR⟩,a.Joiner,_,_,_,(ZG T).mono,λ p hp=>?_⟩;have s8:=zf (o:=.lst [.int fi,.int (1 - fi)]) hp;have g8:upd H7 p (.lst [.int fi,.int (1 - fi)]) p=some (.lst (iv [fi,1 - fi])):=upd_same;show ∀ z dz:Addr,upd H7 p (.lst [.int fi,.int (1 - fi)]) z=none->upd H7 p (.lst [.int fi,.int (1 - fi)]) dz=none->dz≠z->jp K a.Joiner a.BadKnot [.ref z,.ref p,.int 2] (upd (upd (upd H7 p (.lst [.int fi,.int (1 - fi)])) dz (.own z)) z (.ins a.Joiner dz [])) _ _
   generalize upd H7 p (.lst [.int fi,.int (1 - fi)])=H8 at s8 g8 ⊢;intro z dz hz hdz _;refine Qj hz hdz g8 (by simp) (by simp) λ H9 s9 q9=>⟨rfl,?_⟩;obtain ⟨W9,_⟩:=(W.same s8).addR (s8 _ _ hR) s9 q9;have pf:[fi,1 - fi,2].Perm [0,1,2]:=by rcases hf with rfl|rfl <;> decide
   have I2:WInv bs [⟨.source,[],[fi],1 + r,ks⟩] [0,1,2] [1 - fi,2]:=I.knot (r:=⟨.source,[],[fi],1 + r,ks⟩) (List.Perm.refl _) pf ok;exact ⟨R,_,_,rfl,rfl,s9 _ _ (s8 _ _ hR),zj (by omega),_,rfl,W9,I2.knot (r:=⟨.joiner,[fi,1 - fi],[2],0,[]⟩) pf (List.Perm.swap ..) ⟨⟨_,rfl⟩,by simp,by simp⟩,by simp [l3],by omega,rfl⟩
 clear W st;rintro σ' H8 ⟨rs,rfl,W,I,lr,lb,le⟩;have s8:Same H1 H8:=(s17.fr.trans W.f).same n1;walk_at "go";let M2_:St->Hp->Prop:=λ σ' H'=>∃ (v9:Option V) (lp:Option Int) (bs:List (Int × Int)) (rs:List Row) (es:List Int),σ'=stK l 8 c kl (some (.ref L)) (some (.int fi)) (some (.ref E)) (some (oiV lp)) (some (.ref R)) v9 none none/\GS a H7 H' L R E bs rs es/\WInv bs rs es lp.toList/\rs.length<=bs.length/\bs.length<=7/\1<=es.length;refine cut M2_ ?_ ?_
 ·walk_at "for";walk_at "go";refine WQ (xJ s8 hl1) λ p hp=>?_;obtain ⟨cs,ecs⟩:=zfF ns;rw [ecs];have W1:=W.same (zf (o:=.lst (iv cs)) hp);have np:=W.off hp;have gp:upd H8 p (.lst (iv cs)) p=some (.lst (iv cs)):=upd_same;generalize upd H8 p (.lst (iv cs))=H9 at W1 gp ⊢;refine ⟨p,rfl,.inl ⟨⟨_,SqL.of gp⟩,?_⟩⟩;let M3_:Nat->St->Hp->Prop:=λ i σ' H'=>∃ (v9:Option V) (lp:Option Int) (bs:List (Int × Int)) (rs:List Row) (es:List Int),σ'=stK l 8 c kl (some (.ref L)) (some (.int fi)) (some (.ref E)) (some (oiV lp)) (some (.ref R)) v9 none none/\GS a H7 H' L R E bs rs es/\WInv bs rs es lp.toList/\rs.length<=bs.length/\bs.length<=7/\1<=es.length/\H' p=some (.lst (iv cs));refine qR (K:=K) (a:=p) (xs:=iv cs) M3_ ⟨_,lp,bs,rs,es,rfl,W1,I,lr,by omega,by omega,gp⟩ (λ i σ H' _ h=>by obtain ⟨_,_,_,_,_,_,_,_,_,_,_,g⟩:=h;exact SqL.of g) ?_ ?_
  ·clear W1 gp W I lr lb le s8;rintro i x σ' H10 hi ⟨v9,lp,bs,rs,es,rfl,W,I,lr,lb,le,gp⟩;obtain ⟨y,hy,rfl⟩:=Xe hi;obtain ⟨bv,hL,rL⟩:=W.hL;have lL:bv.length=bs.length:=by rw [rL.len,length_map]
   have el:=I.el;have s10:Same H1 H10:=(s17.fr.trans W.f).same n1;obtain ⟨k0,hk0⟩:∃ k0,ks[0]?=some k0:=⟨ks[0]'(by omega),getElem?_eq_getElem _⟩;have hk:=kk k0 (mem_of_getElem? hk0);walk_at "go";refine ⟨_,.inl ⟨_,SqL.of hL,rfl⟩,?_⟩;rw [lL];walk_at "go";refine zL (λ _=>⟨_,lp,bs,rs,es,rfl,W,I,lr,lb,le⟩) (λ lt=>?_);walk_at "go";refine uc (zdt T).mono (zt (SqL.of (s10 _ _ g1)) (show atI (iv ks) ((0:Nat):Int)=some (.int k0) from zJ (xI hk0)) ?_);refine ⟨L,R,E,bs,rs,es,lp,y,k0,rfl,W.here,I,hk.1,hk.2,by omega,by omega,by omega,le,λ H11 bs2 rs2 es2 lp2 W2 I2 a1 a2 a3 a4=>?_⟩;exact ⟨_,lp2,bs2,rs2,es2,rfl,W.trans W2,I2,by omega,by omega,a1,W2.f _ _ np gp⟩
  ·rintro σ' H10 ⟨v9,lp,bs,rs,es,rfl,W,I,lr,lb,le,gp⟩;exact ⟨_,lp,bs,rs,es,rfl,W,I,lr,lb,le⟩
 clear W I lr lb le s8;rintro σ' H8 ⟨v9,lp,bs,rs,es,rfl,W,I,lr,lb,le⟩;walk_at "go";let M4_:St->Hp->Prop:=λ σ' H'=>∃ (bs:List (Int × Int)) (rs:List Row) (es:List Int),σ'=stK l 8 c kl (some (.ref L)) (some (.int fi)) (some (.ref E)) (some (oiV lp)) (some (.ref R)) v9 none none/\GS a H7 H' L R E bs rs es/\WInv bs rs es []/\rs.length<=8/\bs.length<=8/\1<=es.length;refine cut M4_ ?_ ?_
 ·walk_at "go";cases lp with
  | none=>exact zL (λ z=>absurd rfl z) (λ _=>⟨bs,rs,es,rfl,W,I,by omega,by omega,le⟩)
  | some x =>
   refine zL (λ _=>?_) (λ z=>absurd (λ q=>nomatch q) z);obtain ⟨y,es2,rfl⟩:∃ y es2,es=y :: es2:=by cases es with|nil=>simp at le|cons x es2=>exact ⟨x,es2,rfl⟩
   obtain ⟨rv,hR,rR⟩:=W.hR;have lR:rv.length=rs.length:=by rw [rR.len,length_map]
   have el:=I.el;rw [length_cons] at el;walk_at "go";refine ⟨.inl ⟨rfl,_,SqL.of hR⟩,a.Parter,_,_,_,(ZF T).mono,.inl ⟨rfl,_,SqL.of W.hE⟩,E,iv (y :: es2),0,0,.int y,rfl,rfl,W.hE,by decide,by decide,JK (by decide) (by simp [iv]),rfl,?_⟩;have W2:=W.setE es2;obtain ⟨bv,hL,rL⟩:=W2.hL;have lL:bv.length=bs.length:=by rw [rL.len,length_map]
   have hR2:upd H8 E (.lst (iv es2)) R=some (.lst rv):=by rw [upd_ne W.nRE];exact hR
   refine ⟨m_len,_,.inl ⟨_,SqL.of hL,rfl⟩,?_⟩;rw [lL];show ∀ p:Addr,upd H8 E (.lst (iv es2)) p=none->∀ z dz:Addr,upd (upd H8 E (.lst (iv es2))) p (.lst [.int x,.int bs.length]) z=none->upd (upd H8 E (.lst (iv es2))) p (.lst [.int x,.int bs.length]) dz=none->dz≠z->qx K a.Parter a.BadKnot [.ref z,.int y,.ref p] (upd (upd (upd (upd H8 E (.lst (iv es2))) p (.lst [.int x,.int bs.length])) dz (.own z)) z (.ins a.Parter dz [])) _ _
   generalize upd H8 E (.lst (iv es2))=H9 at W2 hR2 hL ⊢;intro p hp;have s3:=zf (o:=.lst [.int x,.int bs.length]) hp;have g3:upd H9 p (.lst [.int x,.int bs.length]) p=some (.lst (iv [x,bs.length])):=upd_same;generalize upd H9 p (.lst [.int x,.int bs.length])=H10 at s3 g3 ⊢;intro z dz hz hdz _;refine Qi hz hdz g3 (by simp) (by simp) λ H11 s4 q4=>⟨rfl,?_⟩;obtain ⟨W4,_⟩:=(W2.same s3).addR (s3 _ _ hR2) s4 q4;refine ⟨R,_,_,rfl,rfl,s4 _ _ (s3 _ _ hR2),zj (by omega),?_⟩;generalize upd H11 R _=H12 at W4 ⊢;obtain ⟨bv,hL,rL⟩:=W4.hL;have lL:bv.length=bs.length:=by rw [rL.len,length_map]
   walk_at "go";refine ⟨.inl ⟨rfl,_,SqL.of W4.hE⟩,m_len,_,.inl ⟨_,SqL.of hL,rfl⟩,E,_,_,rfl,rfl,W4.hE,zj (by rw [zD];omega),?_⟩;rw [lL,jf];have W5:=W4.setE (es2 ++ [(bs.length:Int)]);have hL5:upd H12 E (.lst (iv (es2 ++ [(bs.length:Int)]))) L=some (.lst bv):=by rw [upd_ne W4.nLE];exact hL
   generalize upd H12 E _=H13 at W5 hL5 ⊢;walk_at "go";refine ⟨.inl ⟨rfl,_,SqL.of hL5⟩,_,_,_,(xo T).mono,_,rfl,λ zb H14 b s6 ob q6=>?_⟩;obtain ⟨W6,_⟩:=W5.addL hL5 s6 q6;exact ⟨L,_,_,rfl,rfl,s6 _ _ hL5,zj (by omega),_,_,_,rfl,W6,(I.belt ob).knot (r:=⟨.parter,[y],[x,bs.length],0,[]⟩) (List.Perm.refl _) (List.Perm.refl _) ⟨⟨_,rfl⟩,by simp,by simp⟩,by simp;omega,by simp;omega,by simp⟩
 clear W I lr lb le;rintro σ' H8 ⟨bs,rs,es,rfl,W,I,lr,lb,le⟩;have el:=I.el;have em:∀ x∈es,0<=x/\x < 8:=λ x hx=>by have:=I.em hx;omega
 walk_at "go";let M5_:St->Hp->Prop:=λ σ' H'=>∃ (v10:Option V) (rs:List Row),σ'=stK l 8 c kl (some (.ref L)) (some (.int fi)) (some (.ref E)) (some (oiV lp)) (some (.ref R)) v9 v10 none/\GS a H7 H' L R E bs rs es/\WInv bs rs [] []/\rs.length<=16/\1<=rs.length;refine cut M5_ ?_ ?_
 ·walk_at "for";walk_at "go";refine ⟨E,rfl,.inl ⟨⟨_,SqL.of W.hE⟩,?_⟩⟩;let M6_:Nat->St->Hp->Prop:=λ i σ' H'=>∃ (v10:Option V) (rs':List Row),σ'=stK l 8 c kl (some (.ref L)) (some (.int fi)) (some (.ref E)) (some (oiV lp)) (some (.ref R)) v9 v10 none/\GS a H7 H' L R E bs rs' es/\WInv bs rs' (es.drop i) []/\rs'.length=rs.length + i;refine qR (K:=K) (a:=E) (xs:=iv es) M6_ ⟨_,rs,rfl,W,I,rfl⟩ (λ i σ H' _ h=>by obtain ⟨_,_,_,W,_⟩:=h;exact SqL.of W.hE) ?_ ?_
  ·clear W I;rintro i x σ' H9 hi ⟨v10,rs',rfl,W,I,lr'⟩;obtain ⟨y,hy,rfl⟩:=Xe hi;have hil:=(List.getElem?_eq_some_iff.mp hy).1;obtain ⟨y0,y8⟩:=em y (mem_of_getElem? hy);obtain ⟨rv,hR,rR⟩:=W.hR;have lR:rv.length=rs'.length:=by rw [rR.len,length_map]
   walk_at "go";refine ⟨.inl ⟨rfl,_,SqL.of hR⟩,a.Drain,_,_,_,(wm T).mono,λ p hp=>(uc (qf T).mono ⟨mul_okR (by omega) (by omega),mul_okR (by decide) (by decide),_,10093,6,rfl,by decide,by decide,λ r r0 r6=>?_⟩)⟩;obtain ⟨pc,hpc,ep⟩:=Jd (ns:=[1,0,2,0,3,0]) r0 r6;have s2:=zf (o:=.lst (iv [1,0,2,0,3,0])) hp;refine zt (SqL.of upd_same) ep ?_;have pb:0<=pc/\pc<=4:=by
    simp only [mem_cons,not_mem_nil,or_false] at hpc;omega
   clear ep hpc;show ∀ z dz:Addr,upd H9 p (.lst (iv [1,0,2,0,3,0])) z=none->upd H9 p (.lst (iv [1,0,2,0,3,0])) dz=none->dz≠z->xq a.Drain a.BadKnot [.ref z,.int y,.int pc] (upd (upd (upd H9 p (.lst (iv [1,0,2,0,3,0]))) dz (.own z)) z (.ins a.Drain dz [])) _ _
   generalize upd H9 p (.lst (iv [1,0,2,0,3,0]))=H10 at s2 ⊢;intro z dz hz hdz _;refine xW hz hdz pb.1 pb.2 λ H11 s3 q3=>⟨rfl,?_⟩;obtain ⟨W3,_⟩:=(W.same s2).addR (s2 _ _ hR) s3 q3;refine ⟨R,_,_,rfl,rfl,s3 _ _ (s2 _ _ hR),zj (by omega),_,_,rfl,W3,I.knot (r:=⟨.drain,[y],[],pc,[]⟩) ?_ (List.Perm.refl _) ⟨⟨_,rfl⟩,rfl,pb⟩,by simp;omega⟩;rw [List.drop_eq_getElem_cons hil,(List.getElem?_eq_some_iff.mp hy).2];exact List.Perm.refl _
  ·rintro σ' H9 ⟨v10,rs',rfl,W,I,lr'⟩;rw [zD] at lr' I;rw [List.drop_length] at I;exact ⟨_,rs',rfl,W,I,by omega,by omega⟩
 clear W I lr le el em;rintro σ' H8 ⟨v10,rs,rfl,W,I,lr,lr1⟩;have s8:Same H1 H8:=(s17.fr.trans W.f).same n1;obtain ⟨bv,hL,rL⟩:=W.hL;obtain ⟨rv,hR,rR⟩:=W.hR;have lR:rv.length=rs.length:=by rw [rR.len,length_map]
 walk_at "go";refine uc (qf T).mono ⟨m_len,_,.inl ⟨_,SqL.of hR,rfl⟩,c,10099,_,rfl,by decide,by omega,λ ctI ct0 ct1=>?_⟩;obtain ⟨ct,rfl⟩:∃ m:Nat,ctI=m:=⟨ctI.toNat,by omega⟩;walk_at "go";refine ⟨a.Work,_,_,_,(Vi T).mono,WQ (SqL.of hR) λ q1 hq1=>?_⟩;rw [zaz rv ct (by omega)];have a1:=zf (o:=.lst (rv.drop ct)) hq1;refine WQ (SqL.of (a1 _ _ hR)) λ q2 hq2=>?_;rw [zeK rv ct];have a2:=zf (o:=.lst (rv.take ct)) hq2;refine Zt (SqL.of (a2 _ _ upd_same)) (SqL.of upd_same) (xr (by rw [length_drop,length_take];omega)) λ q3 hq3=>?_;have a3:=zf (o:=.lst (rv.drop ct ++ rv.take ct)) hq3;have sA:=(a1.trans a2).trans a3;have g3:upd (upd (upd H8 q1 (.lst (rv.drop ct))) q2 (.lst (rv.take ct))) q3 (.lst (rv.drop ct ++ rv.take ct)) q3=some (.lst (rv.drop ct ++ rv.take ct)):=upd_same;generalize upd (upd (upd H8 q1 (.lst (rv.drop ct))) q2 (.lst (rv.take ct))) q3 _=H9 at sA g3 ⊢;clear a1 a2 a3 hq1 hq2 hq3;have tr:∀ {H1 H2:Hp} {p:Addr->Prop} {vs:List V} {ds:List D},Reps H1 p vs ds->Same H1 H2->Reps H2 (λ _=>True) vs ds:=λ r s=>r.keep λ b o _ hb=>⟨trivial,s b o hb⟩;have b2:=tr ((rR.drop ct).append (rR.take ct)) sA;rw [<- List.map_drop,<- List.map_take,<- map_append] at b2;have pm:=zdR rs ct;generalize rs.drop ct ++ rs.take ct=rs3 at b2 pm;generalize rv.drop ct ++ rv.take ct=rv3 at b2 g3;obtain ⟨wok,ro⟩:=I.work pm (by omega) (by omega) (by omega);intro z dz hz hdz _;exact Jf hz hdz (sA _ _ hL) g3 (tr rL sA) b2 wok I.bo ro λ H11 s11 r11=>⟨rfl,k _ _ _ _ (((s1.trans s8).trans sA).trans s11) r11 wok I.bo ro⟩
theorem zeO (T:Txt K mg a):Cal P w K mg base "_law_work" 7 ["_law_cells","_law_top"] [] (VJ K a):=T.h_L_work.cal (zcW T)
theorem zfu {k1 k2:List Int} (a1:1<=k1.length) (a6:k1.length<=6) (ak:x8 k1) (b1:1<=k2.length) (b6:k2.length<=6) (bk:x8 k2):zC [(1,1),(1,1)] [⟨.source,[],[0],3,k1⟩,⟨.source,[],[1],4,k2⟩,⟨.drain,[0],[],1,[]⟩,⟨.drain,[1],[],1,[]⟩]/\(∀ b∈[((1:Int),(1:Int)),(1,1)],zu b.1 b.2)/\∀ r∈([⟨.source,[],[0],3,k1⟩,⟨.source,[],[1],4,k2⟩,⟨.drain,[0],[],1,[]⟩,⟨.drain,[1],[],1,[]⟩]:List Row),r.ok:=by
 refine ⟨⟨⟨⟨by simp,by simp⟩,by simp,by simp⟩,?_,?_⟩,λ b hb=>?_,λ r hr=>?_⟩
 ·show List.Perm [0,1] [0,1]
  exact List.Perm.refl _
 ·show List.Perm [0,1] [0,1]
  exact List.Perm.refl _
 ·simp only [mem_cons,not_mem_nil,or_false] at hb;rcases hb with rfl|rfl <;> exact ⟨by decide,by decide,by decide,by decide⟩
 ·simp only [mem_cons,not_mem_nil,or_false] at hr;rcases hr with rfl|rfl|rfl|rfl
  ·exact ⟨rfl,⟨_,rfl⟩,show (1:Int)<=3 by decide,show (3:Int)<=4 by decide,a1,a6,ak⟩
  ·exact ⟨rfl,⟨_,rfl⟩,show (1:Int)<=4 by decide,show (4:Int)<=4 by decide,b1,b6,bk⟩
  ·exact ⟨⟨_,rfl⟩,rfl,by decide,by decide⟩
  ·exact ⟨⟨_,rfl⟩,rfl,by decide,by decide⟩
theorem Zs {H1 H2:Hp} {p:Addr->Prop} {vs:List V} {ds:List D} (r:Reps H1 p vs ds) (s:Same H1 H2):Reps H2 (λ _=>True) vs ds:=r.keep λ b o _ hb=>⟨trivial,s b o hb⟩
theorem xG {H1 H2:Hp} {p:Addr->Prop} {v:V} {d:D} (r:Rep H1 p v d) (s:Same H1 H2):Rep H2 (λ _=>True) v d:=r.keep λ b o _ hb=>⟨trivial,s b o hb⟩
theorem ze8 {bs:List (Int × Int)} (h:bs.length=3):zC bs [⟨.parter,[0],[1,2],0,[]⟩,⟨.joiner,[1,2],[0],0,[]⟩]/\∀ r∈([⟨.parter,[0],[1,2],0,[]⟩,⟨.joiner,[1,2],[0],0,[]⟩]:List Row),r.ok:=by
 refine ⟨⟨⟨⟨by omega,by omega⟩,by simp,by simp⟩,?_,?_⟩,λ r hr=>?_⟩
 ·rw [h];show List.Perm [1,2,0] [0,1,2]
  decide
 ·rw [h];exact List.Perm.refl _
 ·simp only [mem_cons,not_mem_nil,or_false] at hr;rcases hr with rfl|rfl
  ·exact ⟨⟨_,rfl⟩,by simp,by simp⟩
  ·exact ⟨⟨_,rfl⟩,by simp,by simp⟩
def ze3 (K:PySem.W.Frag) (a:Ad):Sp:=λ vs H Q _=>∃ (l:Addr) (ns:List Int),vs=[.ref l]/\SqL K H l (iv ns)/\∀ vw H' bs rs,Same H H'->Rep H' (Off []) vw (zX a bs rs)->zC bs rs->(∀ b∈bs,zu b.1 b.2)->(∀ r∈rs,r.ok)->Q vw H'
theorem zaf (T:Txt K mg a) (F:Fun K "_law_closed" "_law_closed" xh f fd):FnOk P w K mg base (CXr P w) 7 f fd ["_law_cells"] (ze3 K a):=by
 refine F.okx VX ?_ ?_
 ·walk_at "i"
 walk_at "j";obtain ⟨l,ns,rfl,hl,k⟩:=h;walk_at "T";refine ⟨_,(zh (JJ (i:=1) VX.nd rfl (Or.inl rfl) (vars:=["_law_k"]) (caps:=[0]) (N:=["_law_k","_law_cells"]) (ON:=["_law_cells","_law_belts"]) (osc:=ze xh) rfl rfl (by first|decide +kernel|kernel_rfl) rfl rfl (we (za zd zc)) (λ s H fp pins=>(qr 0 (show (["_law_k","_law_cells"]:List Str).Nodup from by decide +kernel))) (λ s H fp pins=>z8) (λ s H fp pins=>(vX hr (za (vX hr (za (pq 1) (za (pq 0) zc))) zc))))  (zg (zk (zW (x:="Work") ⟨rfl,rfl,rfl⟩ hr (za (pq 1) (za (zz (za (zW (x:="Parter") ⟨rfl,rfl,rfl⟩ hr (za zd (za (zz (za zd (za zd zc))) zc))) (za (zW (x:="Joiner") ⟨rfl,rfl,rfl⟩ hr (za (zz (za zd (za zd zc))) (za zd zc))) zc))) zc)))))),?_⟩;walk_at "lc";walk_at "go";refine λ _ _ _ _ acc hacc=>?_;refine ZI (n:=(3:Int).toNat) (λ j σ H'=>∃ (v:Option V) (ws:List V) (bs:List (Int × Int)),σ=[v,some (.ref l)]/\Same H H'/\H' acc=some (.lst ws)/\Reps H' (Off [acc]) ws (bs.map (jU a))/\bs.length=j/\∀ b∈bs,zu b.1 b.2) ⟨_,[],[],rfl,zf hacc,upd_same,.nil,rfl,(λ _ z=>nomatch z)⟩ ?_ ?_
 ·rintro j σ H2 hj ⟨v,ws,bs,rfl,s2,ha,rw2,lb,bo⟩;have lw:ws.length=bs.length:=by rw [rw2.len,length_map]
  have hj:j < 3:=hj;walk_at "go";simp only [Int.zero_add];refine uc (xo T).mono (uc (qV T).mono ⟨l,ns,j,rfl,xJ s2 hl,_,rfl,λ z H3 b s3 ob q3=>?_⟩);have f3:Fr [acc] H3 (upd H3 acc (.lst (ws ++ [.ref z]))):=jB (by simp);refine ⟨ws,s3 _ _ ha,zj (by omega),_,ws ++ [.ref z],bs ++ [b],rfl,(λ b o hb=>by rw [upd_ne (ne_of_none hb hacc)];exact s3 _ _ (s2 b o hb)),upd_same,?_,by simp [lb],λ x hx=>?_⟩
  ·rw [map_append];exact ((rw2.same s3).fr f3).append (.one (Rep.fr (q3.keep λ b o hb ho=>⟨(λ e=>by have hb:H2 b=none:=hb;rw [List.mem_singleton.mp e,ha] at hb;cases hb),ho⟩) f3))
  ·rcases List.mem_append.mp hx with hx|hx
   ·exact bo x hx
   ·rw [List.mem_singleton.mp hx];exact ob
 rintro σ H2 ⟨v,ws,bs,rfl,s2,ha,rw2,lb,bo⟩;walk_at "go";refine ⟨a.Work,_,_,_,(Vi T).mono,a.Parter,_,_,_,(ZF T).mono,λ p hp=>?_⟩;have s3:=zf (o:=.lst [.int 1,.int 2]) hp;have g3:upd H2 p (.lst [.int 1,.int 2]) p=some (.lst (iv [1,2])):=upd_same;generalize upd H2 p (.lst [.int 1,.int 2])=H3 at s3 g3 ⊢;intro k1 e1 hk1 he1 _;refine Qi hk1 he1 g3 (by simp) (by simp) λ H4 s4 q4=>⟨rfl,a.Joiner,_,_,_,(ZG T).mono,λ p2 hp2=>?_⟩;have s5:=zf (o:=.lst [.int 1,.int 2]) hp2;have g5:upd H4 p2 (.lst [.int 1,.int 2]) p2=some (.lst (iv [1,2])):=upd_same;generalize upd H4 p2 (.lst [.int 1,.int 2])=H5 at s5 g5 ⊢;intro k2 e2 hk2 he2 _;refine Qj hk2 he2 g5 (by simp) (by simp) λ H6 s6 q6=>⟨rfl,λ R hR=>?_⟩;have s7:=zf (o:=.lst [.ref k1,.ref k2]) hR;have g7:upd H6 R (.lst [.ref k1,.ref k2]) R=some (.lst [.ref k1,.ref k2]):=upd_same;generalize upd H6 R (.lst [.ref k1,.ref k2])=H7 at s7 g7 ⊢;have t47:=(s5.trans s6).trans s7;have t27:=(s3.trans s4).trans t47;obtain ⟨wok,ro⟩:=ze8 (bs:=bs) lb;intro z dz hz hdz _;exact Jf hz hdz (t27 _ _ ha) g7 (Zs rw2 t27) (.cons (xG q4 t47) (.one (xG q6 s7))) wok bo ro λ H8 s8 r8=>⟨rfl,k _ _ _ _ ((s2.trans t27).trans s8) r8 wok bo ro⟩
theorem zbP (T:Txt K mg a):Cal P w K mg base "_law_closed" 7 ["_law_cells"] [] (ze3 K a):=T.h_L_closed.cal (zaf T)
def zbW (K:PySem.W.Frag) (a:Ad):Sp:=λ vs H Q _=>∃ (l:Addr) (ns:List Int) (pk:Int),vs=[.ref l,.int pk]/\SqL K H l (iv ns)/\0<=pk/\pk < 2/\∀ vw H' bs rs,Same H H'->Rep H' (Off []) vw (zX a bs rs)->zC bs rs->(∀ b∈bs,zu b.1 b.2)->(∀ r∈rs,r.ok)->Q vw H'
theorem zbl (T:Txt K mg a) (F:Fun K "_law_lanes" "_law_lanes" xQ f fd):FnOk P w K mg base (CXr P w) 7 f fd ["_law_cells","_law_pick"] (zbW K a):=by
 refine F.okx zaZ ?_ ?_
 ·walk_at "i"
 walk_at "j";obtain ⟨l,ns,pk,rfl,hl,p0,p2,k⟩:=h;walk_at "T";refine ⟨_,(zh (zdZ (i:=2) zaZ.nd rfl (Or.inr rfl) (Z7 (zm ⟨rfl,rfl,rfl⟩ hr (za (pq 0) (za zd zc)))))  (zh (JJ (i:=3) zaZ.nd rfl (Or.inl rfl) (vars:=["_law_many"]) (caps:=[2]) (N:=["_law_many","_law_first"]) (ON:=["_law_cells","_law_pick","_law_first","_law_kinds_here","_law_lanes_here"]) (osc:=ze xQ) rfl rfl (by first|decide +kernel|kernel_rfl) rfl rfl (qd (zv (zz (za (qI (za zd (za zd zc))) (za (qI (za zd (za zd zc))) zc))) (pq 1))) (λ s H fp pins=>(qr 0 (show (["_law_many","_law_first"]:List Str).Nodup from by decide +kernel))) (λ s H fp pins=>z8) (λ s H fp pins=>(xj (vars:=["_law_j"]) (caps:=[1]) (N:=["_law_j","_law_first"]) (ON:=["_law_many","_law_first"]) (osc:=_) rfl rfl (by first|decide +kernel|kernel_rfl) rfl rfl (we (za (pq 0) zc)) (λ s H fp pins=>(qr 0 (show (["_law_j","_law_first"]:List Str).Nodup from by decide +kernel))) (λ s H fp pins=>z8) (λ s H fp pins=>(zH z9 (pq 1) (pq 0))))))  (zh (zo 4 zaZ.nd (zz (za (zW (x:="Source") ⟨rfl,rfl,rfl⟩ hr (za zd (za zd (za (zv (pq 3) zd) zc)))) (za (zW (x:="Source") ⟨rfl,rfl,rfl⟩ hr (za zd (za zd (za (zv (pq 3) zd) zc)))) (za (zW (x:="Drain") ⟨rfl,rfl,rfl⟩ hr (za zd (za zd zc))) (za (zW (x:="Drain") ⟨rfl,rfl,rfl⟩ hr (za zd (za zd zc))) zc))))))  (zg (zk (zW (x:="Work") ⟨rfl,rfl,rfl⟩ hr (za (zz (za (zW (x:="Belt") ⟨rfl,rfl,rfl⟩ hr (za zd (za zd zc))) (za (zW (x:="Belt") ⟨rfl,rfl,rfl⟩ hr (za zd (za zd zc))) zc))) (za (pq 4) zc)))))))),?_⟩;walk_at "go";refine uc (qV T).mono ⟨l,ns,0,rfl,hl,?_⟩;walk_at "go";have x0:=Int.emod_nonneg (jy ns 0) (show (100000000000000000000000000000:Int)≠0 by decide);have x1:=Int.emod_lt_of_pos (jy ns 0) (show (0:Int) < 100000000000000000000000000000 by decide);generalize jy ns 0 % 100000000000000000000000000000=c at x0 x1 ⊢;walk_at "lc";walk_at "go";intro p hp p1 hp1 p2 hp2;have sA:=((zf (o:=.tup [V.int 5,.int 4]) hp).trans (zf (o:=.tup [V.int 3,.int 5]) hp1)).trans (zf (o:=.lst [V.ref p,.ref p1]) hp2);have g1:=upd_keep (o:=.lst [V.ref p,.ref p1]) (upd_keep (o:=.tup [V.int 3,.int 5]) (upd_same (H:=H) (a:=p) (o:=.tup [V.int 5,.int 4])) hp1) hp2;have g2:=upd_keep (o:=.lst [V.ref p,.ref p1]) (upd_same (H:=upd H p (.tup [V.int 5,.int 4])) (a:=p1) (o:=.tup [V.int 3,.int 5])) hp2;have g3:upd (upd (upd H p (.tup [V.int 5,.int 4])) p1 (.tup [V.int 3,.int 5])) p2 (.lst [V.ref p,.ref p1]) p2=some (.lst [V.ref p,.ref p1]):=upd_same;generalize upd (upd (upd H p (.tup [V.int 5,.int 4])) p1 (.tup [V.int 3,.int 5])) p2 (.lst [V.ref p,.ref p1])=H1 at sA g1 g2 g3 ⊢;obtain ⟨tc,u1,u2,etc,htc,a1,a6,b1,b6⟩:∃ (tc:Addr) (u1 u2:Int),atI [V.ref p,.ref p1] (pk)=some (.ref tc)/\H1 tc=some (.tup [.int u1,.int u2])/\1<=u1/\u1<=6/\1<=u2/\u2<=6:=by
  have h:pk=0\/pk=1:=by omega
  rcases h with h|h <;> rw [h]
  ·exact ⟨p,5,4,rfl,g1,by decide,by decide,by decide,by decide⟩
  ·exact ⟨p1,3,5,rfl,g2,by decide,by decide,by decide,by decide⟩
 refine zt (SqL.of g3) etc ?_;clear g1 g2 g3 etc hp hp1 hp2;refine ⟨tc,rfl,.inr ⟨⟨_,SqT.of htc⟩,λ _ _ _ _ acc hacc=>?_⟩⟩;refine zhi (K:=K) (a:=tc) (xs:=[.int u1,.int u2]) (λ i σ H'=>∃ (v:Option V) (as:List Addr),σ=[v,some (.int c)]/\Same H1 H'/\H' acc=some (.lst (as.map V.ref))/\as.length=i/\∀ (j:Nat) b,as[j]?=some b->b≠acc/\∃ kd:List Int,H' b=some (.lst (iv kd))/\1<=kd.length/\kd.length<=6/\x8 kd) ⟨_,[],rfl,zf hacc,upd_same,rfl,λ j b h=>by simp at h⟩ (λ i σ H' _ ⟨_,_,_,s,_⟩=>SqT.of (s _ _ htc)) ?_ ?_
 ·rintro i x σ H2 hi ⟨v,as,rfl,s2,ha,la,hk⟩;obtain ⟨u,rfl,ub,u6⟩:∃ u:Int,x=.int u/\1<=u/\u<=6:=by
   match i,hi with
   | 0,hi=>cases hi;exact ⟨u1,rfl,a1,a6⟩
   | 1,hi=>cases hi;exact ⟨u2,rfl,b1,b6⟩
  have la2:i < 2:=(List.getElem?_eq_some_iff.mp hi).1;walk_at "lc";walk_at "go";refine ⟨by omega,by omega,λ _ _ _ _ ac2 hac2=>?_⟩;refine ZI (n:=u.toNat) (λ j σ H'=>∃ v ks,σ=[v,some (.int c)]/\Same H2 H'/\ks.length=j/\x8 ks/\H' ac2=some (.lst (iv ks))) ⟨_,[],rfl,zf hac2,rfl,(λ _ z=>nomatch z),upd_same⟩ ?_ ?_
  ·rintro j σ H3 hj ⟨v,ks,rfl,s3,lk,hkk,ha3⟩;walk_at "go";obtain ⟨kk,ek,y0,y1⟩:∃ kk,c + (0 + (j:Int))=kk/\0<=kk/\kk < qP:=⟨_,rfl,by omega,by unfold qP;omega⟩;rw [ek];refine ⟨_,ha3,zj (by rw [zD];omega),_,ks ++ [kk],rfl,(λ b o hb=>by rw [upd_ne (ne_of_none hb hac2)];exact s3 b o hb),by simp [lk],?_,by rw [upd_same,jf]⟩;intro z hz;rcases List.mem_append.mp hz with hz|hz
   ·exact hkk z hz
   ·rw [List.mem_singleton.mp hz];exact ⟨y0,y1⟩
  rintro σ H3 ⟨v,ks,rfl,s3,lk,hkk,ha3⟩;have nac:ac2≠acc:=(ne_of_none ha hac2).symm;refine ⟨_,s3 _ _ ha,zj (by rw [length_map];omega),_,as ++ [ac2],rfl,(λ b o hb=>by rw [upd_ne (ne_of_none hb hacc)];exact s3 _ _ (s2 b o hb)),by rw [upd_same];simp,by simp [la],λ j b h=>?_⟩;by_cases hj:j < as.length
  ·rw [getElem?_append_left hj] at h;obtain ⟨n1,kd,h1,h2⟩:=hk j b h;exact ⟨n1,kd,by rw [upd_ne n1];exact s3 _ _ h1,h2⟩
  ·rw [getElem?_append_right (by omega)] at h;have:=(List.getElem?_eq_some_iff.mp h).1;rw [show j - as.length=0 by simp at this;omega] at h;cases h;exact ⟨nac,ks,by rw [upd_ne nac];exact ha3,by omega,by omega,hkk⟩
 rintro σ H2 ⟨v,as,rfl,s2,ha,la,hk⟩;obtain ⟨q1,q2,rfl⟩:∃ q1 q2,as=[q1,q2]:=by
  match as,la with
  | [x,y],_=>exact ⟨x,y,rfl⟩
 obtain ⟨_,kd1,h1,k11,k16,kk1⟩:=hk 0 q1 rfl;obtain ⟨_,kd2,h2,k21,k26,kk2⟩:=hk 1 q2 rfl;have ha:H2 acc=some (.lst [V.ref q1,.ref q2]):=ha;clear hk la htc hacc;walk_at "go";refine ⟨a.Source,_,_,_,(xX T).mono,zt (SqL.of ha) at0 ?_⟩;intro z1 d1 hz1 hd1 _;refine xV hz1 hd1 h1 (by decide) (by decide) k11 k16 kk1 λ H3 s3 w1=>⟨rfl,?_⟩;refine ⟨a.Source,_,_,_,(xX T).mono,zt (SqL.of (s3 _ _ ha)) (show atI _ 1=some (.ref q2) from rfl) ?_⟩;intro z2 d2 hz2 hd2 _;refine xV hz2 hd2 (s3 _ _ h2) (by decide) (by decide) k21 k26 kk2 λ H4 s4 w2=>⟨rfl,?_⟩;refine ⟨a.Drain,_,_,_,(wm T).mono,?_⟩;intro z3 d3 hz3 hd3 _;refine xW hz3 hd3 (by decide) (by decide) λ H5 s5 w3=>⟨rfl,?_⟩;refine ⟨a.Drain,_,_,_,(wm T).mono,?_⟩;intro z4 d4 hz4 hd4 _;refine xW hz4 hd4 (by decide) (by decide) λ H6 s6 w4=>⟨rfl,?_⟩;intro R hR;have s7:=zf (o:=.lst [V.ref z1,.ref z2,.ref z3,.ref z4]) hR;have hR7:upd H6 R (.lst [V.ref z1,.ref z2,.ref z3,.ref z4]) R=some (.lst [V.ref z1,.ref z2,.ref z3,.ref z4]):=upd_same;generalize upd H6 R (.lst [V.ref z1,.ref z2,.ref z3,.ref z4])=H7 at s7 hR7 ⊢;walk_at "go";refine ⟨a.Work,_,_,_,(Vi T).mono,⟨a.Belt,_,_,_,(Zd T).mono,?_⟩⟩;intro b1 f1 hb1 hf1 _;refine vv hb1 hf1 ⟨by decide,by decide,by decide,by decide⟩ λ H8 s8 r1=>⟨rfl,?_⟩;refine ⟨a.Belt,_,_,_,(Zd T).mono,?_⟩;intro b2 f2 hb2 hf2 _;refine vv hb2 hf2 ⟨by decide,by decide,by decide,by decide⟩ λ H9 s9 r2=>⟨rfl,?_⟩;intro L hL;have s10:=zf (o:=.lst [V.ref b1,.ref b2]) hL;have hL10:upd H9 L (.lst [V.ref b1,.ref b2]) L=some (.lst [V.ref b1,.ref b2]):=upd_same;generalize upd H9 L (.lst [V.ref b1,.ref b2])=H10 at s10 hL10 ⊢;have tr:∀ {H1 H2:Hp} {p:Addr->Prop} {v:V} {d:D},Rep H1 p v d->Same H1 H2->Rep H2 (λ _=>True) v d:=λ r s=>r.keep λ b o _ hb=>⟨trivial,s b o hb⟩;have t7:=(s8.trans s9).trans s10;have t6:=s7.trans t7;have t5:=s6.trans t6;have t4:=s5.trans t5;have t3:=s4.trans t4;obtain ⟨o1,o2,o3⟩:=zfu k11 k16 kk1 k21 k26 kk2;intro z dz hz hdz _;refine Jf (p:=λ _=>True) (q:=λ _=>True) (bs:=[(1,1),(1,1)]) (rs:=[⟨.source,[],[0],3,kd1⟩,⟨.source,[],[1],4,kd2⟩,⟨.drain,[0],[],1,[]⟩,⟨.drain,[1],[],1,[]⟩]) hz hdz hL10 (t7 _ _ hR7) (.cons (tr r1 (s9.trans s10)) (.cons (tr r2 s10) .nil)) (.cons (tr w1 t3) (.cons (tr w2 t4) (.cons (tr w3 t5) (.cons (tr w4 t6) .nil)))) o1 o2 o3 λ H11 s11 r11=>⟨rfl,k _ _ _ _ (((sA.trans s2).trans (s3.trans t3)).trans s11) r11 o1 o2 o3⟩
theorem zdr (T:Txt K mg a):Cal P w K mg base "_law_lanes" 7 ["_law_cells","_law_pick"] [] (zbW K a):=T.h_L_lanes.cal (zbl T)
theorem zfs {bs:List (Int × Int)} {kk:Int} (h:bs.length=5) (k0:0<=kk) (k1:kk < qP):zC bs [⟨.source,[],[0],4,[kk]⟩,⟨.first,[0],[1,3],0,[]⟩,⟨.first,[1],[2,4],0,[]⟩,⟨.drain,[2],[],0,[]⟩,⟨.drain,[3],[],0,[]⟩,⟨.drain,[4],[],0,[]⟩]/\∀ r∈([⟨.source,[],[0],4,[kk]⟩,⟨.first,[0],[1,3],0,[]⟩,⟨.first,[1],[2,4],0,[]⟩,⟨.drain,[2],[],0,[]⟩,⟨.drain,[3],[],0,[]⟩,⟨.drain,[4],[],0,[]⟩]:List Row),r.ok:=by
 refine ⟨⟨⟨⟨by omega,by omega⟩,by simp,by simp⟩,?_,?_⟩,λ r hr=>?_⟩
 ·rw [h];show List.Perm [0,1,3,2,4] [0,1,2,3,4]
  decide
 ·rw [h];exact List.Perm.refl _
 ·simp only [mem_cons,not_mem_nil,or_false] at hr;rcases hr with rfl|rfl|rfl|rfl|rfl|rfl
  ·exact ⟨rfl,⟨_,rfl⟩,show (1:Int)<=4 by decide,show (4:Int)<=4 by decide,by simp,by simp,λ z hz=>by rw [List.mem_singleton.mp hz];exact ⟨k0,k1⟩⟩
  ·exact ⟨⟨_,rfl⟩,by simp,by simp⟩
  ·exact ⟨⟨_,rfl⟩,by simp,by simp⟩
  ·exact ⟨⟨_,rfl⟩,rfl,by decide,by decide⟩
  ·exact ⟨⟨_,rfl⟩,rfl,by decide,by decide⟩
  ·exact ⟨⟨_,rfl⟩,rfl,by decide,by decide⟩
theorem zcY (T:Txt K mg a) (F:Fun K "_law_long" "_law_long" wI f fd):FnOk P w K mg base (CXr P w) 7 f fd ["_law_cells"] (ze3 K a):=by
 refine F.okx zcG ?_ ?_
 ·walk_at "i"
 walk_at "j";obtain ⟨l,ns,rfl,hl,k⟩:=h;walk_at "T";refine ⟨_,(zh (zo 1 zcG.nd (zH z9 (xj (vars:=["_law_k"]) (caps:=[]) (N:=["_law_k"]) (ON:=["_law_cells","_law_belts","_law_knots"]) (osc:=ze wI) rfl rfl (by first|decide +kernel|kernel_rfl) rfl rfl (we (za zd zc)) (λ s H fp pins=>(qr 0 (show (["_law_k"]:List Str).Nodup from by decide +kernel))) (λ s H fp pins=>z8) (λ s H fp pins=>(zd9 (x:="Belt") hr (za zd (za zd zc))))) (zz (za (zW (x:="Belt") ⟨rfl,rfl,rfl⟩ hr (za zd (za zd zc))) (za (zW (x:="Belt") ⟨rfl,rfl,rfl⟩ hr (za zd (za zd zc))) zc)))))  (zh (zo 2 zcG.nd (zz (za (zW (x:="Source") ⟨rfl,rfl,rfl⟩ hr (za zd (za zd (za (zz (za (Z7 (zm ⟨rfl,rfl,rfl⟩ hr (za (pq 0) (za zd zc)))) zc)) zc)))) (za (zW (x:="FirstParter") ⟨rfl,rfl,rfl⟩ hr (za zd (za (zz (za zd (za zd zc))) zc))) (za (zW (x:="FirstParter") ⟨rfl,rfl,rfl⟩ hr (za zd (za (zz (za zd (za zd zc))) zc))) zc)))))  (zg (zk (zW (x:="Work") ⟨rfl,rfl,rfl⟩ hr (za (pq 1) (za (zH z9 (pq 2) (zz (za (zW (x:="Drain") ⟨rfl,rfl,rfl⟩ hr (za zd (za zd zc))) (za (zW (x:="Drain") ⟨rfl,rfl,rfl⟩ hr (za zd (za zd zc))) (za (zW (x:="Drain") ⟨rfl,rfl,rfl⟩ hr (za zd (za zd zc))) zc))))) zc))))))),?_⟩;walk_at "lc";walk_at "go";refine λ _ _ _ _ acc hacc=>?_;refine ZI (n:=(3:Int).toNat) (λ j σ H'=>∃ (v:Option V) (ws:List V) (bs:List (Int × Int)),σ=[v]/\Same H H'/\H' acc=some (.lst ws)/\Reps H' (Off [acc]) ws (bs.map (jU a))/\bs.length=j/\∀ b∈bs,zu b.1 b.2) ⟨_,[],[],rfl,zf hacc,upd_same,.nil,rfl,(λ _ z=>nomatch z)⟩ ?_ ?_
 ·rintro j σ H2 hj ⟨v,ws,bs,rfl,s2,ha,rw2,lb,bo⟩;have lw:ws.length=bs.length:=by rw [rw2.len,length_map]
  have hj:j < 3:=hj;walk_at "go";refine ⟨a.Belt,_,_,_,(Zd T).mono,?_⟩;intro z dz hz hdz _;have ob:zu 6 4:=⟨by decide,by decide,by decide,by decide⟩;refine vv hz hdz ob λ H3 s3 q3=>⟨rfl,?_⟩;have f3:Fr [acc] H3 (upd H3 acc (.lst (ws ++ [.ref z]))):=jB (by simp);refine ⟨ws,s3 _ _ ha,zj (by omega),_,ws ++ [.ref z],bs ++ [(6,4)],rfl,(λ b o hb=>by rw [upd_ne (ne_of_none hb hacc)];exact s3 _ _ (s2 b o hb)),upd_same,?_,by simp [lb],λ x hx=>?_⟩
  ·rw [map_append];exact ((rw2.same s3).fr f3).append (.one (Rep.fr (q3.keep λ b o hb ho=>⟨(λ e=>by have hb:H2 b=none:=hb;rw [List.mem_singleton.mp e,ha] at hb;cases hb),ho⟩) f3))
  ·rcases List.mem_append.mp hx with hx|hx
   ·exact bo x hx
   ·rw [List.mem_singleton.mp hx];exact ob
 rintro σ H2 ⟨v,ws,bs,rfl,s2,ha,rw2,lb,bo⟩;have lw:ws.length=3:=by rw [rw2.len,length_map,lb];rfl
 have oo:zu 1 1:=⟨by decide,by decide,by decide,by decide⟩;walk_at "go";refine ⟨a.Belt,_,_,_,(Zd T).mono,?_⟩;intro z1 d1 hz1 hd1 _;refine vv hz1 hd1 oo λ H3 s3 q3=>⟨rfl,a.Belt,_,_,_,(Zd T).mono,?_⟩;intro z2 d2 hz2 hd2 _;refine vv hz2 hd2 oo λ H4 s4 q4=>⟨rfl,λ p hp=>?_⟩;have s5:=zf (o:=.lst [.ref z1,.ref z2]) hp;have g5:upd H4 p (.lst [.ref z1,.ref z2]) p=some (.lst [.ref z1,.ref z2]):=upd_same;generalize upd H4 p (.lst [.ref z1,.ref z2])=H5 at s5 g5 ⊢;have t35:=s4.trans s5;have t25:=s3.trans t35;refine Zt (SqL.of (t25 _ _ ha)) (SqL.of g5) (xr (by simp;omega)) λ L hL=>?_;have s6:=zf (o:=.lst (ws ++ [.ref z1,.ref z2])) hL;have g6:upd H5 L (.lst (ws ++ [.ref z1,.ref z2])) L=some (.lst (ws ++ [.ref z1,.ref z2])):=upd_same;have r6:Reps (upd H5 L (.lst (ws ++ [.ref z1,.ref z2]))) (λ _=>True) (ws ++ [.ref z1,.ref z2]) ((bs ++ [(1,1),(1,1)]).map (jU a)):=by
  rw [map_append];exact (Zs rw2 (t25.trans s6)).append (.cons (xG q3 (t35.trans s6)) (.one (xG q4 (s5.trans s6))))
 have bo6:∀ b∈bs ++ [(1,1),(1,1)],zu b.1 b.2:=λ x hx=>by
  rcases List.mem_append.mp hx with hx|hx
  ·exact bo x hx
  ·simp only [mem_cons,not_mem_nil,or_false] at hx;rcases hx with rfl|rfl <;> exact oo
 have lb6:(bs ++ [((1:Int),(1:Int)),(1,1)]).length=5:=by rw [length_append,lb];rfl
 have t06:=(s2.trans t25).trans s6;generalize upd H5 L (.lst (ws ++ [.ref z1,.ref z2]))=H6 at g6 r6 t06 ⊢;generalize ws ++ [.ref z1,.ref z2]=bvs at g6 r6;generalize bs ++ [((1:Int),(1:Int)),(1,1)]=bs6 at r6 bo6 lb6;clear s3 s4 s5 s6 t35 t25 rw2 q3 q4 ha g5 hL hp;walk_at "go";refine ⟨a.Source,_,_,_,(xX T).mono,_,_,_,(qV T).mono,l,ns,0,rfl,xJ t06 hl,?_⟩;have x0:=Int.emod_nonneg (jy ns 0) (show (1000000000000000000000000000000:Int)≠0 by decide);have x1:=Int.emod_lt_of_pos (jy ns 0) (show (0:Int) < 1000000000000000000000000000000 by decide);walk_at "go";generalize jy ns 0 % 1000000000000000000000000000000=x at x0 x1 ⊢;intro p hp;have s7:=zf (o:=.lst [.int x]) hp;have g7:upd H6 p (.lst [.int x]) p=some (.lst (iv [x])):=upd_same;generalize upd H6 p (.lst [.int x])=H7 at s7 g7 ⊢;intro k1 e1 hk1 he1 _;refine xV hk1 he1 g7 (by decide) (by decide) (by simp) (by simp) (λ z hz=>by rw [List.mem_singleton.mp hz];exact ⟨x0,x1⟩) λ H8 s8 q8=>⟨rfl,a.FirstParter,_,_,_,(jI T).mono,λ p hp=>?_⟩;have s9:=zf (o:=.lst [.int 1,.int 3]) hp;have g9:upd H8 p (.lst [.int 1,.int 3]) p=some (.lst (iv [1,3])):=upd_same;generalize upd H8 p (.lst [.int 1,.int 3])=H9 at s9 g9 ⊢;intro k2 e2 hk2 he2 _;refine JZ hk2 he2 g9 (by simp) (by simp) λ H10 s10 q10=>⟨rfl,a.FirstParter,_,_,_,(jI T).mono,λ p hp=>?_⟩;have s11:=zf (o:=.lst [.int 2,.int 4]) hp;have g11:upd H10 p (.lst [.int 2,.int 4]) p=some (.lst (iv [2,4])):=upd_same;generalize upd H10 p (.lst [.int 2,.int 4])=H11 at s11 g11 ⊢;intro k3 e3 hk3 he3 _;refine JZ hk3 he3 g11 (by simp) (by simp) λ H12 s12 q12=>⟨rfl,λ R hR=>?_⟩;have s13:=zf (o:=.lst [.ref k1,.ref k2,.ref k3]) hR;have g13:upd H12 R (.lst [.ref k1,.ref k2,.ref k3]) R=some (.lst [.ref k1,.ref k2,.ref k3]):=upd_same;have b13:Reps (upd H12 R (.lst [.ref k1,.ref k2,.ref k3])) (λ _=>True) [.ref k1,.ref k2,.ref k3] ([⟨.source,[],[0],4,[x]⟩,⟨.first,[0],[1,3],0,[]⟩,⟨.first,[1],[2,4],0,[]⟩].map (wT a)):=.cons (xG q8 ((s9.trans s10).trans ((s11.trans s12).trans s13))) (.cons (xG q10 ((s11.trans s12).trans s13)) (.one (xG q12 s13)));have t13:=(s7.trans s8).trans ((s9.trans s10).trans ((s11.trans s12).trans s13));have g6:=t13 _ _ g6;have r6:=Zs r6 t13;have t0:=t06.trans t13;generalize upd H12 R (.lst [.ref k1,.ref k2,.ref k3])=H13 at g13 b13 g6 r6 t0 ⊢;clear s7 s8 s9 s10 s11 s12 s13 t13 t06 q8 q10 q12 g7 g9 g11 hR;walk_at "go";refine ⟨a.Work,_,_,_,(Vi T).mono,a.Drain,_,_,_,(wm T).mono,?_⟩;intro k4 e4 hk4 he4 _;refine xW hk4 he4 (by decide) (by decide) λ H14 s14 q14=>⟨rfl,a.Drain,_,_,_,(wm T).mono,?_⟩;intro k5 e5 hk5 he5 _;refine xW hk5 he5 (by decide) (by decide) λ H15 s15 q15=>⟨rfl,a.Drain,_,_,_,(wm T).mono,?_⟩;intro k6 e6 hk6 he6 _;refine xW hk6 he6 (by decide) (by decide) λ H16 s16 q16=>⟨rfl,λ p hp=>?_⟩;have s17:=zf (o:=.lst [.ref k4,.ref k5,.ref k6]) hp;have g17:upd H16 p (.lst [.ref k4,.ref k5,.ref k6]) p=some (.lst [.ref k4,.ref k5,.ref k6]):=upd_same;generalize upd H16 p (.lst [.ref k4,.ref k5,.ref k6])=H17 at s17 g17 ⊢;have t17:=s14.trans ((s15.trans s16).trans s17);refine Zt (SqL.of (t17 _ _ g13)) (SqL.of g17) (xr (by simp)) λ R2 hR2=>?_;have s18:=zf (o:=.lst ([.ref k1,.ref k2,.ref k3] ++ [.ref k4,.ref k5,.ref k6])) hR2;have t18:=t17.trans s18;obtain ⟨wok,ro⟩:=zfs lb6 x0 x1;intro z dz hz hdz _;exact Jf hz hdz (t18 _ _ g6) upd_same (Zs r6 t18) ((Zs b13 t18).append (.cons (xG q14 (((s15.trans s16).trans s17).trans s18)) (.cons (xG q15 ((s16.trans s17).trans s18)) (.one (xG q16 (s17.trans s18)))))) wok bo6 ro λ H19 s19 r19=>⟨rfl,k _ _ _ _ ((t0.trans t18).trans s19) r19 wok bo6 ro⟩
theorem zeP (T:Txt K mg a):Cal P w K mg base "_law_long" 7 ["_law_cells"] [] (ze3 K a):=T.h_L_long.cal (zcY T)
def WA (K:PySem.W.Frag) (a:Ad):Sp:=λ vs H Q _=>∃ (l:Addr) (ns:List Int),vs=[.ref l]/\SqL K H l (iv ns)/\∀ t vw (lim:Nat) H' bs rs,Same H H'->H' t=some (.tup [vw,.int lim])->lim<=1000->Rep H' (Off []) vw (zX a bs rs)->zC bs rs->(∀ b∈bs,zu b.1 b.2)->(∀ r∈rs,r.ok)->Q (.ref t) H'
theorem zda {K:PySem.W.Frag} {a:Ad} {vs:List V} {H:Hp} {Q:VK} {E:XK} (l:Addr) (ns:List Int) (q0:vs=[.ref l]) (q1:SqL K H l (iv ns)) (q2:∀ t vw (lim:Nat) H' bs rs,Same H H'->H' t=some (.tup [vw,.int lim])->lim<=1000->Rep H' (Off []) vw (zX a bs rs)->zC bs rs->(∀ b∈bs,zu b.1 b.2)->(∀ r∈rs,r.ok)->Q (.ref t) H'):WA K a vs H Q E:=⟨l,ns,q0,q1,q2⟩
theorem zbo (T:Txt K mg a) (F:Fun K "_law_built" "_law_built" vn f fd):FnOk P w K mg base (CXr P w) 8 f fd ["_law_cells"] (WA K a):=by
 refine F.okx za2 ?_ ?_
 ·walk_at "i"
 walk_at "j";obtain ⟨l,ns,rfl,hl,k⟩:=h;have kk:∀ t vw (lim:Int) H1 H' bs rs,Same H H1->H1 t=none->H'=upd H1 t (.tup [vw,.int lim])->0<=lim->lim<=1000->Rep H1 (Off []) vw (zX a bs rs)->zC bs rs->(∀ b∈bs,zu b.1 b.2)->(∀ r∈rs,r.ok)->Q (.ref t) H':=λ t vw lim H1 H' bs rs s1 ht e l0 l1 r1 wok bo ro=>by
  obtain ⟨m,rfl⟩:∃ m:Nat,lim=m:=⟨lim.toNat,by omega⟩;subst e;have s2:=zf (o:=.tup [vw,.int m]) ht;exact k t vw m _ bs rs (s1.trans s2) upd_same (by omega) (r1.same s2) wok bo ro
 clear k;walk_at "T";refine ⟨_,(zh (zo 1 za2.nd (zm ⟨rfl,rfl,rfl⟩ hr (za (zm ⟨rfl,rfl,rfl⟩ hr (za (pq 0) (za zd zc))) (za zd (za zd zc)))))  (zh (zo 2 za2.nd (Z8 (zm ⟨rfl,rfl,rfl⟩ hr (za (pq 0) (za zd zc)))))  (zh (zG (zq (wv hr.units1) (pq 2) zd (zw _))  (zg (zk (qI (za (zm ⟨rfl,rfl,rfl⟩ hr (za (pq 0) (za (Z8 (pq 1)) zc))) (za (zv (zz (za zd (za (zH z9 zd (Z8 (Z9 (pq 1)))) zc))) (Z8 (Z9 (pq 1)))) zc)))))  zp)  (zh (zG (zq (wv hr.units1) (pq 2) zd (zw _))  (zg (zk (qI (za (zm ⟨rfl,rfl,rfl⟩ hr (za (pq 0) zc)) (za (zH z9 zd (Z8 (pq 1))) zc)))))  zp)  (zh (zo 3 za2.nd (zH z9 zd (zm ⟨rfl,rfl,rfl⟩ hr (za (zm ⟨rfl,rfl,rfl⟩ hr (za (pq 0) (za zd zc))) (za zd (za zd zc))))))  (zh (zG (zq (wv hr.units1) (pq 2) zd (zw _))  (zg (zk (qI (za (zm ⟨rfl,rfl,rfl⟩ hr (za (pq 0) zc)) (za (pq 3) zc)))))  zp)  (zg (zk (qI (za (zm ⟨rfl,rfl,rfl⟩ hr (za (pq 0) (za zd zc))) (za (pq 3) zc))))))))))),?_⟩;walk_at "go";refine uc (qf T).mono (uc (qV T).mono ⟨l,ns,1,rfl,hl,_,10111,9108,rfl,by decide,by decide,λ nu n0 n1=>?_⟩);walk_at "go";refine uc (qV T).mono ⟨l,ns,1,rfl,hl,?_⟩;generalize jy ns 1 % 9=pk;walk_at "go";refine zL (λ _=>?_) (λ _=>?_)
 ·walk_at "go";refine uc (zdr T).mono ⟨l,ns,_,rfl,hl,by omega,by omega,λ vw H1 bs rs s1 r1 wok bo ro p hp=>?_⟩;have s2:=zf (o:=.lst [.int 200,.int (242 + nu / 4 % 759)]) hp;obtain ⟨lim,hx,ex⟩:=Jd (ns:=[200,242 + nu / 4 % 759]) (r:=nu / 2 % 2) (by omega) (by show nu / 2 % 2 < 2;omega);refine zt (SqL.of upd_same) ex λ t ht=>?_;simp only [mem_cons,not_mem_nil,or_false] at hx;exact kk t vw lim _ _ bs rs (s1.trans s2) ht rfl (by omega) (by omega) (r1.same s2) wok bo ro
 walk_at "go";refine zL (λ _=>?_) (λ _=>?_)
 ·walk_at "go";exact uc (zeP T).mono ⟨l,ns,rfl,hl,λ vw H1 bs rs s1 r1 wok bo ro t ht=>kk t vw _ H1 _ bs rs s1 ht rfl (by omega) (by omega) r1 wok bo ro⟩
 walk_at "go";refine uc (qf T).mono (uc (qV T).mono ⟨l,ns,1,rfl,hl,_,10103,40,rfl,by decide,by decide,λ r r0 r1=>?_⟩);walk_at "go";refine zL (λ _=>?_) (λ _=>?_)
 ·exact uc (zbP T).mono ⟨l,ns,rfl,hl,λ vw H1 bs rs s1 r1 wok bo ro t ht=>kk t vw _ H1 _ bs rs s1 ht rfl (by omega) (by omega) r1 wok bo ro⟩
 ·exact uc (zeO T).mono ⟨l,ns,rfl,hl,λ vw H1 bs rs s1 r1 wok bo ro t ht=>kk t vw _ H1 _ bs rs s1 ht rfl (by omega) (by omega) r1 wok bo ro⟩
theorem zdu (T:Txt K mg a):Cal P w K mg base "_law_built" 8 ["_law_cells"] [] (WA K a):=T.h_L_built.cal (zbo T)
theorem zdS {bs:List (Int × Int)} {rs:List Row} (wok:zC bs rs) (bo:∀ b∈bs,zu b.1 b.2) (ro:∀ r∈rs,r.ok) (i j:Nat):(xS bs rs i j).length=rs.length/\∀ (k:Nat) r g,rs[k]?=some r->(xS bs rs i j)[k]?=some g->g.length=(qv r).length:=by
 have w0:=qc wok bo ro i;have w1:=qc wok bo ro j;refine ⟨by unfold xS xD;rw [List.length_zipWith,w0.go.1,w1.go.1,Nat.min_self],λ k r g hr hg=>?_⟩;have hk:=(List.getElem?_eq_some_iff.mp hr).1;have a0:=getElem?_eq_getElem (l:=(zn bs rs i).gone) (i:=k) (by rw [w0.go.1];exact hk);have a1:=getElem?_eq_getElem (l:=(zn bs rs j).gone) (i:=k) (by rw [w1.go.1];exact hk);unfold xS xD at hg;rw [getElem?_zipWith,a0,a1] at hg;cases hg;unfold vK;rw [length_map,List.length_range];exact (w0.go.2 k r _ hr a0).1
theorem zfG {r:Row} (ok:r.ok):0 < (qv r).length:=by
 have:1<=r.ins.length\/1<=r.outs.length:=by
  obtain ⟨wd,ins,outs,pc,kd⟩:=r;cases wd
  ·obtain ⟨_,⟨o,q⟩,_⟩:=ok;simp only at q;subst q;simp
  ·obtain ⟨⟨o,q⟩,_⟩:=ok;simp only at q;subst q;simp
  ·obtain ⟨⟨o,q⟩,_⟩:=ok;simp only at q;subst q;simp
  ·obtain ⟨⟨o,q⟩,_⟩:=ok;simp only at q;subst q;simp
  ·obtain ⟨⟨o,q⟩,_⟩:=ok;simp only at q;subst q;simp
  ·obtain ⟨⟨o,q⟩,_⟩:=ok;simp only at q;subst q;simp
 unfold qv;rw [length_replicate];omega
def wC (G:List (List Int)):Prop:=∀ g∈G,∀ n∈g,n<=0
def zgf (a:Ad) (bs:List (Int × Int)) (rs:List Row) (i j:Nat) (_:Hp) (v:V) (H':Hp):Prop:=(wC (xS bs rs i j)/\∃ y n,v=.ref y/\StO a H' y n (zn bs rs i))\/(¬ wC (xS bs rs i j)/\v=.non)
theorem JP (T:Txt K mg a) (F:Fun K "still_state" "still_state" jD f fd):FnOk P w K mg base (CXr P w) 9 f fd ["work","limit"] (Jq a (zgf a)):=by
 refine F.okx JA ?_ ?_
 ·walk_at "i"
 walk_at "j";obtain ⟨vw,lim,bs,rs,rfl,hv,wok,bo,ro,l1000,kQ,kE⟩:=h;walk_at "T";refine ⟨_,(zh (zo 2 JA.nd (zm ⟨rfl,rfl,rfl⟩ hr (za (pq 0) (za (pq 1) zc))))  (zh (jh jS rfl (qd (zm ⟨rfl,rfl,rfl⟩ hr (za (zv (pq 2) zd) (za (zv (pq 2) zd) zc)))) (qr 3 JA.nd)  (zg (zG (zq QB (zQ (zfK rfl) zeR (za (pq 3) zc)) zd (zw _))  (zg (zk zy))  zp)))  (zg (zk (zv (pq 2) zd))))),?_⟩;walk_at "go";refine uc (ZN T).mono ⟨vw,lim,bs,rs,rfl,hv,wok,bo,ro,l1000,λ i j t y0 y1 n0 n1 H1 rnd s1 ht so0 so1=>?_,kE⟩;obtain ⟨le,lg⟩:=zdg ro (qc wok bo ro i) (qc wok bo ro j);have l24:(zn bs rs i).gone.length<=24:=by rw [(qc wok bo ro i).go.1];exact wok.1.2.2
 obtain ⟨lG,lr⟩:=zdS wok bo ro i j;walk_at "for";walk_at "go";refine uc (zaI T).mono (rd_ixT ht at0 (rd_ixT ht (show atI _ 1=some (.ref y1) from rfl) ?_));refine ⟨y0,y1,n0,n1,_,_,rfl,so0,so1,le,l24,lg,λ gl gs H2 s2 ng _=>?_⟩;have ng:NL H2 (zN H2) gl gs (qk (xS bs rs i j)):=ng;have lgs:gs.length=(xS bs rs i j).length:=by rw [ng.len,qk,length_map]
 have kQ:∀ v,zgf a bs rs i j H v H2->Q v H2:=λ v r=>kQ i j v H2 rnd (s1.trans s2) r;refine ⟨gl,rfl,.inl ⟨⟨_,SqL.of ng.out⟩,?_⟩⟩;refine qR (K:=K) (a:=gl) (xs:=gs.map V.ref) (λ m σ H'=>∃ (v3:Option V),σ=[some vw,some (.int lim),some (.ref t),v3]/\H'=H2/\∀ g∈(xS bs rs i j).take m,∀ n∈g,n<=0) ⟨_,rfl,rfl,by simp⟩ (λ m σ H' _ h=>by obtain ⟨_,_,rfl,_⟩:=h;exact SqL.of ng.out) ?_ ?_
 ·rintro m x σ H3 hm ⟨v3,rfl,rfl,hs⟩;rw [getElem?_map,Option.map_eq_some_iff] at hm;obtain ⟨b,hb,rfl⟩:=hm;have hml:m < (xS bs rs i j).length:=by rw [<- lgs];exact (List.getElem?_eq_some_iff.mp hb).1
  obtain ⟨g,eg⟩:∃ g,(xS bs rs i j)[m]?=some g:=⟨_,getElem?_eq_getElem hml⟩;obtain ⟨b',hb',hg⟩:=Vl ng eg;rw [hb] at hb';cases hb';obtain ⟨r,hr'⟩:∃ r,rs[m]?=some r:=⟨_,getElem?_eq_getElem (by rw [<- lG];exact hml)⟩;have gp:0 < g.length:=by rw [lr m r g hr' eg];exact zfG (ro r (mem_of_getElem? hr'))
  walk_at "go";refine ⟨b,g,rfl,SqL.of hg,gp,λ mx hx hmx=>?_⟩;walk_at "go";refine zL (λ z=>kQ _ (.inr ⟨λ st=>?_,rfl⟩)) (λ z=>⟨_,rfl,λ g' hg' n hn=>?_⟩)
  ·have:=st g (mem_of_getElem? eg) mx hx;omega
  ·rw [take_add_one,eg] at hg';rcases List.mem_append.mp hg' with h|h
   ·exact hs g' h n hn
   ·have e:g'=g:=by simpa using h
    subst e;have:=hmx n hn;omega
 ·rintro σ H3 ⟨v3,rfl,rfl,hs⟩;rw [length_map,lgs,take_length] at hs;walk_at "go";exact rd_ixT (s2 _ _ ht) at0 (kQ _ (.inl ⟨hs,y0,n0,rfl,so0.same s2⟩))
theorem XV (T:Txt K mg a):Cal P w K mg base "still_state" 9 ["work","limit"] [] (Jq a (zgf a)):=T.h_still_state.cal (JP T)
def zfc (bs:List (Int × Int)) (rs:List Row) (i j:Nat) (_:Hp) (v:V) (_:Hp):Prop:=(wC (xS bs rs i j)/\v=.int i)\/(¬ wC (xS bs rs i j)/\v=.non)
theorem vH (T:Txt K mg a) (F:FunD K "still_from" "still_from" qy f fd):FnOk P w K mg base (CXr P w) 10 f fd ["work","limit"] (Jq a zfc):=by
 refine F.okx Xr ?_ ?_
 ·walk_at "i"
 walk_at "j";obtain ⟨vw,lim,bs,rs,rfl,hv,wok,bo,ro,l1000,kQ,kE⟩:=h;walk_at "T";refine ⟨_,(zh (zo 2 Xr.nd (zm ⟨rfl,rfl,rfl⟩ hr (za (pq 0) (za (pq 1) zc))))  (zg (zk (xk (zq ji (pq 2) zy (zw _)) zy (zl (pq 2) rfl))))),?_⟩;walk_at "go";refine uc (XV T).mono ⟨vw,lim,bs,rs,rfl,hv,wok,bo,ro,l1000,λ i j v H1 rnd s1 r=>?_,kE⟩;rcases r with ⟨st,y,n,rfl,so⟩|⟨st,rfl⟩
 ·walk_at "go";refine ra so.hy T.C_State T.N_State_turn rfl ?_;rw [jn];exact kQ i j _ _ rnd s1 (.inl ⟨st,rfl⟩)
 ·walk_at "go";exact kQ i j _ _ rnd s1 (.inr ⟨st,rfl⟩)
theorem ZM (T:Txt K mg a):Cal P w K mg base "still_from" 10 ["work","limit"] [] (Jq a zfc):=T.h_still_from.cal (vH T)
theorem ZK (T:Txt K mg a):Cal P w K mg base "still_from" 10 ["work","limit"] [.int 200] (Jq a zfc):=T.h_still_from.cald (vH T)
def zg0 (a:Ad) (R:List (Int × Int)->List Row->Nat->Hp->V->Hp->Prop):Sp:=λ vs H Q _=>∃ (vw:V) (lim:Nat) (bs:List (Int × Int)) (rs:List Row),vs=[vw,.int lim]/\Rep H (Off []) vw (zX a bs rs)/\zC bs rs/\(∀ b∈bs,zu b.1 b.2)/\(∀ r∈rs,r.ok)/\lim<=1000/\∀ v H',Same H H'->R bs rs lim H v H'->Q v H'
def zdV (bs:List (Int × Int)) (rs:List Row) (lim:Nat) (_:Hp) (v:V) (H':Hp):Prop:=(wu bs rs lim/\v=.non)\/∃ i j t,RoundAt bs rs lim i j/\v=.ref t/\H' t=some (.tup [.int i,.int ((j:Int) - i)])
theorem zbj (T:Txt K mg a) (F:Fun K "_law_round" "_law_round" vd f fd):FnOk P w K mg base (CXr P w) 10 f fd ["_law_work_here","_law_limit"] (zg0 a zdV):=by
 refine F.okx zaX ?_ ?_
 ·walk_at "i"
 walk_at "j";obtain ⟨vw,lim,bs,rs,rfl,hv,wok,bo,ro,l1000,k⟩:=h;walk_at "T";refine ⟨_,(zh (zo 2 zaX.nd zy)  (zh (zgj ⟨rfl,rfl,rfl⟩ rfl (λ pn G=>(zg (zo 2 zaX.nd (zm ⟨rfl,rfl,rfl⟩ hr (za (pq 0) (za (pq 1) zc)))))) (λ pn a=>(zg (zo 2 zaX.nd zy))))  (zg (zk (pq 2))))),?_⟩;walk_at "go";unfold zfR;walk_at "go";refine ⟨a.TooLong,T.g_TooLong,T.S_TooLong,λ pn=>?_⟩;exact uc (zbL T).mono ⟨vw,lim,bs,rs,rfl,hv,wok,bo,ro,l1000,λ i j v H1 rnd s1 ⟨t,e,ht⟩=>k v H1 s1 (.inr ⟨i,j,t,rnd,e,ht⟩),λ nr H1 s1=>⟨a.TooLong,rfl,T.E_TooLong_TooLong,λ _ _=>k _ _ s1 (.inl ⟨nr,rfl⟩)⟩⟩
theorem zdp (T:Txt K mg a):Cal P w K mg base "_law_round" 10 ["_law_work_here","_law_limit"] [] (zg0 a zdV):=T.h_L_round.cal (zbj T)
def ZV (a:Ad):Sp:=λ vs H Q _=>∃ (vw:V) (lim:Nat) (bs:List (Int × Int)) (rs:List Row),vs=[vw,.int lim]/\Rep H (Off []) vw (zX a bs rs)/\zC bs rs/\(∀ b∈bs,zu b.1 b.2)/\(∀ r∈rs,r.ok)/\lim<=1000/\wu bs rs lim/\∀ H',Same H H'->Q (.bl true) H'
theorem QF {a:Ad} {vs:List V} {H:Hp} {Q:VK} {E:XK} (vw:V) (lim:Nat) (bs:List (Int × Int)) (rs:List Row) (q0:vs=[vw,.int lim]) (q1:Rep H (Off []) vw (zX a bs rs)) (q2:zC bs rs) (q3:(∀ b∈bs,zu b.1 b.2)) (q4:(∀ r∈rs,r.ok)) (q5:lim<=1000) (q6:wu bs rs lim) (q7:∀ H',Same H H'->Q (.bl true) H'):ZV a vs H Q E:=⟨vw,lim,bs,rs,q0,q1,q2,q3,q4,q5,q6,q7⟩
theorem Vc (T:Txt K mg a) (F:Fun K "_law_refused" "_law_refused" xw f fd):FnOk P w K mg base (CXr P w) 11 f fd ["_law_work_here","_law_limit"] (ZV a):=by
 refine F.okx WM ?_ ?_
 ·walk_at "i"
 walk_at "j";obtain ⟨vw,lim,bs,rs,rfl,hv,wok,bo,ro,l1000,nr,k⟩:=h;walk_at "T";refine ⟨_,(zh (zo 2 WM.nd zy)  (zh (zcO (i:=3) ⟨rfl,rfl,rfl⟩ rfl WM.nd rfl rfl (λ pn G=>(zg (zG (zq (wv hr.units1) (pq 1) zd (zw _))  (zg (zx (zm ⟨rfl,rfl,rfl⟩ hr (za (pq 0) zc))))  (zg (zx (zm ⟨rfl,rfl,rfl⟩ hr (za (pq 0) (za (pq 1) zc)))))))) (λ pn a=>(zg (zo 2 WM.nd (pq 3)))))  (zg (zk (WV (zQ wW qb (za (pq 2) (za xT zc))) (WV (zQ wW qb (za (pq 2) (za (zd4 XX) zc))) (zba (zd6 (zQ wW qb (za (pq 2) (za xT zc))))))))))),?_⟩;walk_at "go";have ex:∀ (H1:Hp) (e:Addr),Same H H1->H1 e=none->WR K [V.ref e,.ref a.WorkError] (upd H1 e (zbH e (Value.ref a.TooLong))) λ x H2=>bq x λ c=>if c=true then mg "isinstance"=none/\mg "ValueError"=none/\WR K [V.ref e,.ty "ValueError"] H2 λ x H3=>bq x λ c=>if c=true then mg "isinstance"=none/\∃ v u,mg "Moving"=some u/\RelV v u/\WR K [V.ref e,v] H3 λ x H4=>bq x λ c=>Q (.bl !c) H4 else Q (.bl false) H3 else Q (.bl false) H2:=λ H1 e s1 he =>
  Vj upd_same T.XI_TooLong rfl T.k1_TooLong_WorkError ⟨m_isinstance,m_ValueError,Vj upd_same T.XI_TooLong rfl T.k1_TooLong_ValueError ⟨m_isinstance,.ref a.Moving,_,T.g_Moving,rfl,Vj upd_same T.XI_TooLong rfl T.k1_TooLong_Moving (k _ (s1.trans (zf he)))⟩⟩
 refine ⟨a.TooLong,T.g_TooLong,T.S_TooLong,λ pn=>zL (λ e=>?_) (λ _=>?_)⟩
 ·have e:lim=200:=by omega
  subst e;exact ⟨_,_,_,(ZK T).mono,vw,200,bs,rs,rfl,hv,wok,bo,ro,l1000,λ i j v H1 rnd=>absurd nr rnd.no,λ _ H1 s1=>⟨a.TooLong,rfl,T.E_TooLong_TooLong,λ e he=>⟨m_isinstance,.ref a.WorkError,_,T.g_WorkError,rfl,ex H1 e s1 he⟩⟩⟩
 ·exact uc (ZM T).mono ⟨vw,lim,bs,rs,rfl,hv,wok,bo,ro,l1000,λ i j v H1 rnd=>absurd nr rnd.no,λ _ H1 s1=>⟨a.TooLong,rfl,T.E_TooLong_TooLong,λ e he=>⟨m_isinstance,.ref a.WorkError,_,T.g_WorkError,rfl,ex H1 e s1 he⟩⟩⟩
theorem QI (T:Txt K mg a):Cal P w K mg base "_law_refused" 11 ["_law_work_here","_law_limit"] [] (ZV a):=T.h_L_refused.cal (Vc T)
def zdH (a:Ad):Sp:=λ vs H Q _=>∃ (vw v:V) (lim i j:Nat) (bs:List (Int × Int)) (rs:List Row),vs=[vw,.int j,v]/\Rep H (Off []) vw (zX a bs rs)/\zC bs rs/\(∀ b∈bs,zu b.1 b.2)/\(∀ r∈rs,r.ok)/\RoundAt bs rs lim i j/\zfc bs rs i j H v H/\∀ H',Same H H'->Q (.bl true) H'
theorem XO (T:Txt K mg a) (F:Fun K "_law_left_out" "_law_left_out" j8 f fd):FnOk P w K mg base (CXr P w) 12 f fd ["_law_work_here","_law_ending","_law_told"] (zdH a):=by
 refine F.okx XA ?_ ?_
 ·walk_at "i"
 walk_at "j";obtain ⟨vw,v,lim,i,j,bs,rs,rfl,hv,wok,bo,ro,rd,rf,k⟩:=h;walk_at "T";refine ⟨_,(zh (zG (zq QB (pq 1) zd (zw _))  (zg (zk (zm ⟨rfl,rfl,rfl⟩ hr (za (pq 0) (za zd zc)))))  zp)  (zg (zk (wj (zec hr.units1) (zm ⟨rfl,rfl,rfl⟩ hr (za (pq 0) zc)) (pq 2) (zw _))))),?_⟩;walk_at "go";refine zL (λ z=>?_) (λ z=>?_)
 ·walk_at "go";exact uc (QI T).mono (QF vw 200 bs rs rfl hv wok bo ro (by decide) (λ x y xy yl=>rd.fst x y xy (by omega)) k)
 have rd2:RoundAt bs rs 200 i j:={ rd with le:=by omega };walk_at "go";refine ⟨_,_,_,(ZK T).mono,vw,200,bs,rs,rfl,hv,wok,bo,ro,by decide,λ i' j' v' H1 rd' s1 rf'=>?_,λ nr=>absurd nr rd2.no⟩;obtain ⟨e1,e2⟩:=rd2.one rd';subst e1 e2;have k:=k _ s1;rcases rf with ⟨st,rfl⟩|⟨st,rfl⟩ <;> rcases rf' with ⟨st',rfl⟩|⟨st',rfl⟩
 ·walk_at "go";simpa using k
 ·exact absurd st st'
 ·exact absurd st' st
 ·walk_at "go";exact .inl ⟨rfl,by rw [decide_eq_true rfl];exact k⟩
theorem Vw (T:Txt K mg a):Cal P w K mg base "_law_left_out" 12 ["_law_work_here","_law_ending","_law_told"] [] (zdH a):=T.h_L_left_out.cal (XO T)
def gAt (gs:List (List Int)) (i j:Nat):Int:=(gs.getD i []).getD j 0
theorem zeC {gs:List (List Int)} {k p i j:Nat} (hk:k < gs.length) (hp:p < (gs.getD k []).length):gAt (gs.set k (XW (gs.getD k []) p)) i j=gAt gs i j + if i=k/\j=p then 1 else 0:=by
 unfold gAt;by_cases e:k=i
 ·subst e;rw [getD_eq_getElem?_getD (l:=gs.set _ _),getElem?_set_self hk,Option.getD_some];unfold XW;by_cases z:p=j
  ·subst z;rw [getD_eq_getElem?_getD (l:=List.set _ _ _),getElem?_set_self hp,if_pos ⟨rfl,rfl⟩]
   rfl
  ·rw [qL z,if_neg (λ q=>z q.2.symm)];omega
 ·rw [qL e,if_neg (λ q=>e q.1.symm)];omega
def jR:Nat->List zR->Int
 | _,[]=>0
 | p,x :: xs=>(if x=none then 0 else (p:Int)) + jR (p + 1) xs
theorem WS {x:zR}:∀ {c:List zR} {p i:Nat},i < c.length->jR p (c.set i x)=jR p c + (if x=none then 0 else ((p + i:Nat):Int)) - (if c.getD i none=none then 0 else ((p + i:Nat):Int))
 | [],_,_,h=>by simp at h
 | y :: ys,p,0,_=>by
  show (if x=none then 0 else (p:Int)) + jR (p + 1) ys=(if y=none then 0 else (p:Int)) + jR (p + 1) ys + (if x=none then 0 else ((p + 0:Nat):Int)) - (if y=none then 0 else ((p + 0:Nat):Int))
  rw [Nat.add_zero];generalize (if x=none then (0:Int) else (p:Int))=u;generalize (if y=none then (0:Int) else (p:Int))=z;omega
 | y :: ys,p,i + 1,h=>by
  have ih:=WS (x:=x) (c:=ys) (p:=p + 1) (i:=i) (by simpa using h);rw [show p + 1 + i=p + (i + 1) by omega] at ih;show (if y=none then 0 else (p:Int)) + jR (p + 1) (ys.set i x)=(if y=none then 0 else (p:Int)) + jR (p + 1) ys + _ - (if ys.getD i none=none then 0 else ((p + (i + 1):Nat):Int))
  rw [ih];generalize (if x=none then (0:Int) else ((p + (i + 1):Nat):Int))=u;generalize (if ys.getD i none=none then (0:Int) else ((p + (i + 1):Nat):Int))=v;generalize (if y=none then (0:Int) else (p:Int))=z;omega
theorem zd1 {c:List zR} {p:Nat} (h:p + 1 < c.length):xn c p=c\/jR 0 c < jR 0 (xn c p):=by
 unfold xn
 split
 ·rename_i e;by_cases z:c.getD p none=none
  ·have self:∀ {c:List zR} {i:Nat},i < c.length->c.getD i none=none->c.set i none=c:=λ {c i} hi e=>by
    rw [getD_eq_getElem?_getD,getElem?_eq_getElem hi] at e;have e:c[i]=none:=e;rw [<- e];exact List.set_getElem_self hi
   rw [z,self h e,self (by omega) z];exact .inl rfl
  ·refine .inr ?_;have e2:(c.set (p + 1) (c.getD p none)).getD p none=c.getD p none:=by
    rw [getD_eq_getElem?_getD,getElem?_set_ne (by omega),<- getD_eq_getElem?_getD]
   rw [WS (by simp;omega),WS h,e2,e,if_pos rfl,if_pos rfl,if_neg z,if_neg z];omega
 ·exact .inl rfl
theorem zd3 {c:List zR}:∀ k,k + 1<=c.length->ZB c k=c\/jR 0 c < jR 0 (ZB c k)
 | 0,_=>.inl rfl
 | k + 1,h=>by
  have ih:=zd3 (c:=c) k (by omega);have st:=zd1 (c:=ZB c k) (p:=c.length - 2 - k) (by rw [ZA];omega);rw [ZB];rcases ih with e|l
  ·rw [e] at st ⊢;exact st
  ·rcases st with e|l2
   ·rw [e];exact .inr l
   ·exact .inr (Int.lt_trans l l2)
theorem V4 (c:List zR):zal c=c\/jR 0 c < jR 0 (zal c):=by
 unfold zal;cases c with
 | nil=>exact .inl rfl
 | cons x xs=>exact zd3 _ (by simp)
theorem zd2 {bs:List (Int × Int)} {t:Int} {cs:List (List zR)} (b:Nat):∀ i,(qg bs t cs i).getD b []=cs.getD b []\/jR 0 (cs.getD b []) < jR 0 ((qg bs t cs i).getD b [])
 | 0=>.inl rfl
 | i + 1=>by
  have ih:=zd2 (bs:=bs) (t:=t) (cs:=cs) b i;rw [qg]
  split
  ·generalize qg bs t cs i=ds at ih ⊢;by_cases e:i=b
   ·subst e;by_cases h:i < ds.length
    ·rw [getD_eq_getElem?_getD (l:=ds.set _ _),getElem?_set_self h,Option.getD_some];rcases ih with e|l
     ·rw [e];rcases V4 (cs.getD i []) with q|q
      ·exact .inl q
      ·exact .inr q
     ·rcases V4 (ds.getD i []) with q|q
      ·rw [q];exact .inr l
      ·exact .inr (Int.lt_trans l q)
    ·rw [set_eq_of_length_le (by omega)];exact ih
   ·rw [qL e];exact ih
  ·exact ih
theorem Wa {rs:List Row}:∀ {c d:List zR} (p:Nat),qt rs c=qt rs d->jR p c=jR p d
 | [],[],_,_=>rfl
 | [],_ :: _,_,h=>by simp [qt] at h
 | _ :: _,[],_,h=>by simp [qt] at h
 | x :: xs,y :: ys,p,h=>by
  unfold qt at h;rw [map_cons,map_cons,List.cons.injEq] at h;rw [jR,jR,Wa (p + 1) h.2];have:x=none ↔ y=none:=by
   have:=h.1;cases x <;> cases y <;> simp at this ⊢
  simp only [this]
theorem zeW {rs:List Row} {st:PSt} {k:Nat} (h:(qW rs st k).2=none):(qW rs st k).1=st:=by
 unfold qW at h ⊢;cases e:rs[k]? with
 | none=>rfl
 | some r =>
  rw [e] at h;simp only at h ⊢;cases e2:qm r (qu rs st.cells r) (jO st.cells r) st.turn (st.sides.getD k 0).toNat with
  | none=>rfl
  | some ch=>rw [e2] at h;cases h
theorem Qp {rs:List Row} {st:PSt}:∀ m,(zr rs st m).2=[]->(zr rs st m).1=st
 | 0,_=>rfl
 | m + 1,h=>by
  obtain ⟨h1,h2⟩:=List.append_eq_nil_iff.mp (show (zr rs st m).2 ++ (qW rs (zr rs st m).1 m).2.toList=[] from h);show (qW rs (zr rs st m).1 m).1=st
  rw [zeW (by cases e:(qW rs (zr rs st m).1 m).2 with|none=>rfl|some x=>rw [e] at h2;cases h2)];exact Qp m h1
theorem zeV {bs:List (Int × Int)} {rs:List Row} {st:PSt} (w:stWf bs rs st) (ro:∀ r∈rs,r.ok) {k:Nat} (h:(qW rs st k).2≠none):∃ p r,rs[k]?=some r/\p < (qv r).length/\gAt st.gone k p < gAt (qW rs st k).1.gone k p:=by
 unfold qW at h ⊢;cases hr:rs[k]? with
 | none=>rw [hr] at h;exact absurd rfl h
 | some r =>
  rw [hr] at h;simp only at h ⊢;cases hc:qm r (qu rs st.cells r) (jO st.cells r) st.turn (st.sides.getD k 0).toNat with
  | none=>rw [hc] at h;exact absurd rfl h
  | some ch =>
   have ok:=ro r (mem_of_getElem? hr);have hk:=(List.getElem?_eq_some_iff.mp hr).1;have sd:=w.so.2 k r _ hr (qQ (d:=0) (by rw [w.so.1];exact hk));have sd':vT r ((st.sides.getD k 0).toNat:Int):=by rw [Int.toNat_of_nonneg sd.1];exact sd
   obtain ⟨_,_,_,_,_,c6⟩:=Qn ok (by simp [qu]) (by simp [jO]) sd' hc;have hg:=w.go.2 k r _ hr (qQ (xs:=st.gone) (d:=[]) (by rw [w.go.1];exact hk));refine ⟨xp r ch,r,rfl,c6,?_⟩;show _ < gAt ((movedF r st k ch).gone.set k _) k _
   rw [movedF_keep.2.2,zeC (by rw [w.go.1];exact hk) (by rw [hg.1];exact c6),if_pos ⟨rfl,rfl⟩];omega
section
variable {bs:List (Int × Int)} {rs:List Row} (wok:zC bs rs) (bo:∀ b∈bs,zu b.1 b.2) (ro:∀ r∈rs,r.ok)
include wok bo ro
theorem Wu {st:PSt} (w:stWf bs rs st):∀ m,(zr rs st m).2≠[]->∃ k p r,rs[k]?=some r/\p < (qv r).length/\gAt st.gone k p < gAt (zr rs st m).1.gone k p
 | 0,h=>absurd rfl h
 | m + 1,h=>by
  by_cases e:(zr rs st m).2=[]
  ·have h2:(qW rs (zr rs st m).1 m).2≠none:=λ z=>h (by show (zr rs st m).2 ++ (qW rs (zr rs st m).1 m).2.toList=[];rw [e,z];rfl);obtain ⟨p,r,hr,hp,hl⟩:=zeV (x6 w wok bo ro m) ro h2;refine ⟨m,p,r,hr,hp,Int.lt_of_le_of_lt (Qq rs st m p m) hl⟩
  ·obtain ⟨k,p,r,hr,hp,hl⟩:=Wu w m e;exact ⟨k,p,r,hr,hp,Int.lt_of_lt_of_le hl (zaJ rs _ m k p)⟩
def mvd (bs:List (Int × Int)) (rs:List Row) (n:Nat):Bool:=!((zr rs (zn bs rs n) rs.length).2.isEmpty) || decide ((zn bs rs (n + 1)).cells≠(zn bs rs n).cells)
omit wok bo ro in
theorem zgv {n:Nat} (h:mvd bs rs n=false):(zr rs (zn bs rs n) rs.length).1=zn bs rs n/\(zn bs rs (n + 1)).cells=(zn bs rs n).cells:=by
 unfold mvd at h;rw [Bool.or_eq_false_iff] at h;exact ⟨Qp _ (by simpa using h.1),by simpa using h.2⟩
omit wok bo ro in
theorem stay {n:Nat} (h:mvd bs rs n=false):(zn bs rs (n + 1)).cells=(zn bs rs n).cells/\(zn bs rs (n + 1)).sides=(zn bs rs n).sides/\(zn bs rs (n + 1)).gone=(zn bs rs n).gone:=by
 obtain ⟨h1,h2⟩:=zgv h;refine ⟨h2,?_,?_⟩
 ·show (zr rs (zn bs rs n) rs.length).1.sides=_
  rw [h1]
 ·show (zr rs (zn bs rs n) rs.length).1.gone=_
  rw [h1]
omit wok bo ro in
theorem zdE {i:Nat}:∀ m,(∀ n,i<=n->n < i + m->mvd bs rs n=false)->(zn bs rs (i + m)).cells=(zn bs rs i).cells/\(zn bs rs (i + m)).sides=(zn bs rs i).sides/\(zn bs rs (i + m)).gone=(zn bs rs i).gone
 | 0,_=>⟨rfl,rfl,rfl⟩
 | m + 1,h=>by
  obtain ⟨a1,a2,a3⟩:=zdE (i:=i) m λ n h1 h2=>h n h1 (by omega);obtain ⟨b1,b2,b3⟩:=stay (h (i + m) (by omega) (by omega));exact ⟨b1.trans a1,b2.trans a2,b3.trans a3⟩
theorem zhg {i j:Nat} (hij:i<=j) (h:¬ wC (xS bs rs i j)):∃ n,i<=n/\n < j/\mvd bs rs n=true:=by
 refine Classical.byContradiction λ no=>h λ g hg x hx=>?_;have e:=(zdE (bs:=bs) (rs:=rs) (i:=i) (j - i) λ n h1 h2=>by
  cases z:mvd bs rs n with
  | false=>rfl
  | true=>exact absurd ⟨n,h1,by omega,z⟩ no).2.2
 rw [show i + (j - i)=j by omega] at e;obtain ⟨q,hq⟩:=getElem?_of_mem hg;unfold xS xD at hq;rw [e,getElem?_zipWith] at hq;cases e0:(zn bs rs i).gone[q]? with
 | none=>rw [e0] at hq;simp at hq
 | some g0 =>
  rw [e0] at hq;have hq:vK g0 g0=g:=by simpa using hq
  subst hq;unfold vK at hx;obtain ⟨p,_,rfl⟩:=List.mem_map.mp hx;omega
theorem wB {lim i j:Nat} (rd:RoundAt bs rs lim i j) (h:wC (xS bs rs i j)) (n:Nat) (h1:i<=n) (h2:n < j):mvd bs rs n=false:=by
 have hg:∀ k p r,rs[k]?=some r->p < (qv r).length->gAt (zn bs rs j).gone k p<=gAt (zn bs rs i).gone k p:=λ k p r hr hp=>by
  have w0:=qc wok bo ro i;have w1:=qc wok bo ro j;have hk:=(List.getElem?_eq_some_iff.mp hr).1;obtain ⟨g0,a0⟩:∃ g,(zn bs rs i).gone[k]?=some g:=⟨_,getElem?_eq_getElem (by rw [w0.go.1];exact hk)⟩;obtain ⟨g1,a1⟩:∃ g,(zn bs rs j).gone[k]?=some g:=⟨_,getElem?_eq_getElem (by rw [w1.go.1];exact hk)⟩;have l0:=(w0.go.2 k r _ hr a0).1;have m:vK g0 g1∈xS bs rs i j:=by
   refine mem_of_getElem? (i:=k) ?_;unfold xS xD;rw [getElem?_zipWith,a0,a1]
  have:=h _ m (g1.getD p 0 - g0.getD p 0) (List.mem_map.mpr ⟨p,List.mem_range.mpr (by rw [l0];exact hp),rfl⟩);unfold gAt;rw [getD_eq_getElem?_getD (l:=(zn bs rs j).gone),getD_eq_getElem?_getD (l:=(zn bs rs i).gone),a0,a1];show g1.getD p 0<=g0.getD p 0
  omega
 have nm:∀ n,i<=n->n < j->(zr rs (zn bs rs n) rs.length).2=[]:=λ n h1 h2=>by
  refine Classical.byContradiction λ no=>?_;obtain ⟨k,p,r,hr,hp,hl⟩:=Wu wok bo ro (qc wok bo ro n) rs.length no;have m1:=Z5 bs rs i k p (n - i);have m2:=Z5 bs rs (n + 1) k p (j - (n + 1));rw [show i + (n - i)=n by omega] at m1;rw [show n + 1 + (j - (n + 1))=j by omega] at m2;have m3:=hg k p r hr hp;have hl:gAt (zn bs rs n).gone k p < gAt (zn bs rs (n + 1)).gone k p:=hl;unfold gAt at hl m3;omega
 have on:∀ n,i<=n->n < j->∀ b,(zn bs rs (n + 1)).cells.getD b []=(zn bs rs n).cells.getD b []\/jR 0 ((zn bs rs n).cells.getD b []) < jR 0 ((zn bs rs (n + 1)).cells.getD b []):=λ n h1 h2 b=>by
  have e:=Qp _ (nm n h1 h2);have:(zn bs rs (n + 1)).cells=qg bs (zn bs rs n).turn (zn bs rs n).cells bs.length:=by
   show qg bs (zr rs (zn bs rs n) rs.length).1.turn (zr rs (zn bs rs n) rs.length).1.cells bs.length=_
   rw [e]
  rw [this];rcases zd2 (bs:=bs) (t:=(zn bs rs n).turn) (cs:=(zn bs rs n).cells) b bs.length with q|q
  ·exact .inl q
  ·exact .inr q
 have up:∀ b i' m,i<=i'->i' + m<=j->jR 0 ((zn bs rs i').cells.getD b [])<=jR 0 ((zn bs rs (i' + m)).cells.getD b []):=λ b i' m=>by
  induction m with
  | zero=>exact λ _ _=>Int.le_refl _
  | succ m ih =>
   intro h1 h2;have:=ih h1 (by omega);rcases on (i' + m) (by omega) (by omega) b with q|q
   ·rw [show i' + (m + 1)=i' + m + 1 from rfl,q];exact this
   ·exact Int.le_trans this (Int.le_of_lt q)
 have ends:∀ b,jR 0 ((zn bs rs i).cells.getD b [])=jR 0 ((zn bs rs j).cells.getD b []):=λ b=>by
  have e:(zn bs rs i).cells.map (qt rs)=(zn bs rs j).cells.map (qt rs):=congrArg (λ z:ShK=>z.2.1) rd.eq;have hh:∀ cs:List (List zR),qt rs (cs.getD b [])=(cs.map (qt rs)).getD b []:=λ cs=>by
   rw [getD_eq_getElem?_getD,getD_eq_getElem?_getD,getElem?_map];cases cs[b]? <;> rfl
  exact Wa 0 (by rw [hh,hh,e])
 have same:∀ b,(zn bs rs (n + 1)).cells.getD b []=(zn bs rs n).cells.getD b []:=λ b=>by
  rcases on n h1 h2 b with q|q
  ·exact q
  ·have u1:=up b i (n - i) (Nat.le_refl _) (by omega);have u2:=up b (n + 1) (j - (n + 1)) (by omega) (by omega);rw [show i + (n - i)=n by omega] at u1;rw [show n + 1 + (j - (n + 1))=j by omega] at u2;have:=ends b;omega
 have ce:(zn bs rs (n + 1)).cells=(zn bs rs n).cells:=by
  have l1:=(qc wok bo ro (n + 1)).co.1;have l2:=(qc wok bo ro n).co.1;refine List.ext_getElem (by rw [l1,l2]) λ b hb1 hb2=>?_;have:=same b;rw [getD_eq_getElem?_getD,getD_eq_getElem?_getD,getElem?_eq_getElem hb1,getElem?_eq_getElem hb2] at this;exact this
 unfold mvd;rw [nm n h1 h2,ce];simp
theorem VG {lim i j:Nat} (rd:RoundAt bs rs lim (i + 1) j) (h:wC (xS bs rs (i + 1) j)):mvd bs rs i=true:=by
 cases z:mvd bs rs i with
 | true=>rfl
 | false =>
  have lt:=rd.lt;obtain ⟨m,rfl⟩:∃ m,j=i + m + 1:=⟨j - i - 1,by omega⟩;have st:=λ n h1 h2=>wB wok bo ro rd h n h1 h2;obtain ⟨a1,a2,a3⟩:=zdE (bs:=bs) (rs:=rs) (i:=i) m λ n h1 h2=>by
   rcases Nat.eq_or_lt_of_le h1 with e|e
   ·rw [<- e];exact z
   ·exact st n e (by omega)
  refine absurd ?_ (rd.fst i (i + m) (by omega) (by omega));have et:(zn bs rs (i + 1)).turn % beatL bs rs=(zn bs rs (i + m + 1)).turn % beatL bs rs:=Option.some.inj (congrArg (λ z:ShK=>z.1) rd.eq);rw [jn,jn] at et;have e1:(zn bs rs i).turn % beatL bs rs=(zn bs rs (i + m)).turn % beatL bs rs:=by
   rw [jn,jn];have:=Int.emod_emod_of_dvd;have d:=Int.emod_sub_cancel_right (m:=(((i + 1:Nat):Int))) (n:=beatL bs rs) (k:=(((i + m + 1:Nat):Int))) 1;have:=d.mpr et;rw [show ((i + 1:Nat):Int) - 1=i by omega,show ((i + m + 1:Nat):Int) - 1=((i + m:Nat):Int) by omega] at this;exact this
  unfold shapeN shapeF;rw [e1,a1,a2]
  congr 3
  refine List.map_congr_left λ q _=>?_;unfold xH;rw [a3]
end
def zax (bs:List (Int × Int)) (rs:List Row):Nat->Nat
 | 0=>0
 | n + 1=>if mvd bs rs n then n + 1 else zax bs rs n
theorem zgL {bs:List (Int × Int)} {rs:List Row} (wok:zC bs rs) (bo:∀ b∈bs,zu b.1 b.2) (ro:∀ r∈rs,r.ok) {lim i j:Nat} (rd:RoundAt bs rs lim i j) (h:wC (xS bs rs i j)):zax bs rs j=i:=by
 have st:=λ n h1 h2=>wB wok bo ro rd h n h1 h2;have up:∀ m,i + m<=j->zax bs rs (i + m)=zax bs rs i:=λ m=>by
  induction m with
  | zero=>exact λ _=>rfl
  | succ m ih =>
   intro hm;show (if mvd bs rs (i + m) then _ else zax bs rs (i + m))=_
   rw [st (i + m) (by omega) (by omega)];exact ih (by omega)
 have lt:=rd.lt;have:=up (j - i) (by omega);rw [show i + (j - i)=j by omega] at this;rw [this];cases i with
 | zero=>rfl
 | succ i=>show (if mvd bs rs i then _ else _)=_;rw [VG wok bo ro rd h];rfl
theorem zhp {H:Hp} {p q:Addr->Prop} {x y:zR} {u v:V} (h1:Rep H p u (zZ x)) (h2:Rep H q v (zZ y)):DE K H 1 u v (decide (x=y)):=by
 cases x with
 | none =>
  cases h1;cases y with
  | none=>cases h2;exact .flat rfl rfl
  | some y =>
   obtain ⟨t,rfl,ht⟩:=wM (b:=y) h2;exact .nt (SqT.of ht)
 | some x =>
  obtain ⟨t,rfl,ht⟩:=wM (b:=x) h1;cases y with
  | none=>cases h2;exact .tn (SqT.of ht)
  | some y =>
   obtain ⟨t2,rfl,ht2⟩:=wM (b:=y) h2;by_cases e:t=t2
   ·subst e;rw [ht] at ht2;simp only [Option.some.injEq,HO.tup.injEq,List.cons.injEq,V.int.injEq,and_true] at ht2;rw [decide_eq_true (congrArg some (Prod.ext ht2.1 ht2.2))];exact .same
   ·have:=DE.tuples (K:=K) (n:=0) (e:=λ j=>match j with|0=>decide (x.1=y.1)|_=>decide (x.2=y.2)) e (SqT.of ht) (SqT.of ht2) λ j a b ha hb=>by
     match j,ha,hb with
     | 0,ha,hb =>
      cases ha;cases hb;have:DE K H 0 (.int x.1) (.int y.1) (eqV (.int x.1) (.int y.1)):=.flat rfl rfl;rw [show eqV (.int x.1) (.int y.1)=decide (x.1=y.1) by simp [eqV];rfl] at this;exact this
     | 1,ha,hb =>
      cases ha;cases hb;have:DE K H 0 (.int x.2) (.int y.2) (eqV (.int x.2) (.int y.2)):=.flat rfl rfl;rw [show eqV (.int x.2) (.int y.2)=decide (x.2=y.2) by simp [eqV];rfl] at this;exact this
    have e2:((decide (x.1=y.1) && (decide (x.2=y.2) && true)) && true)=decide (some x=some y):=by
     obtain ⟨x1,x2⟩:=x;obtain ⟨y1,y2⟩:=y;simp
    rw [<- e2];exact this
theorem zct {α:Type} [DecidableEq α] {xs ys:List α} (h:xs.length=ys.length):(List.range xs.length).all (λ j=>decide (xs[j]?=ys[j]?))=decide (xs=ys):=by
 have:=zeU (xs:=xs) (ys:=ys);rw [<- h,Nat.min_self] at this;simpa using this
theorem zge {H:Hp} {Q:VK} {p q:Addr->Prop} {G G':Addr} {as as':List Addr} {cs cs':List (List zR)} (h1:NL H p G as (zS cs)) (h2:NL H q G' as' (zS cs')) (dj:∀ b∈G :: as,b ∉ G' :: as') (hl:cs.length=cs'.length) (hc:∀ (j:Nat) c c',cs[j]?=some c->cs'[j]?=some c'->c.length=c'.length) (k:Q (.bl (decide (cs≠cs'))) H):za7 K (.ref G) (.ref G') H Q:=by
 have la:as.length=cs.length:=by rw [h1.len,zS,length_map]
 have lb:as'.length=cs'.length:=by rw [h2.len,zS,length_map]
 refine .inr (.inr ⟨G,G',_,_,2,λ j=>decide (cs[j]?=cs'[j]?),rfl,rfl,by decide,λ j x y hx hy=>?_,.inl ⟨SqL.of h1.out,SqL.of h2.out,by simp;omega,?_⟩⟩)
 ·rw [getElem?_map,Option.map_eq_some_iff] at hx hy;obtain ⟨b,hb,rfl⟩:=hx;obtain ⟨b',hb',rfl⟩:=hy;have j1:j < cs.length:=by rw [<- la];exact (List.getElem?_eq_some_iff.mp hb).1
  have e1:=getElem?_eq_getElem j1;have e2:=getElem?_eq_getElem (l:=cs') (i:=j) (by omega);obtain ⟨us,hu,ru⟩:=h1.g j b _ hb (show (zS cs)[j]?=some (cs[j].map zZ) by rw [zS,getElem?_map,e1];rfl);obtain ⟨vs,hv,rv⟩:=h2.g j b' _ hb' (show (zS cs')[j]?=some (cs'[j].map zZ) by rw [zS,getElem?_map,e2];rfl);have lu:us.length=cs[j].length:=by rw [ru.len,length_map]
  have lv:vs.length=cs'[j].length:=by rw [rv.len,length_map]
  have cl:=hc j _ _ e1 e2;have:=DE.lists (K:=K) (n:=1) (e:=λ i=>decide (cs[j][i]?=cs'[j][i]?)) (λ z=>dj b (mem_cons_of_mem _ (mem_of_getElem? hb)) (by rw [z];exact mem_cons_of_mem _ (mem_of_getElem? hb'))) (SqL.of hu) (SqL.of hv) (by omega) λ i x y hx hy=>by
   obtain ⟨d,hd,r1⟩:=ru.at hx;obtain ⟨d',hd',r2⟩:=rv.at hy;rw [getElem?_map,Option.map_eq_some_iff] at hd hd';obtain ⟨w1,q1,rfl⟩:=hd;obtain ⟨w2,q2,rfl⟩:=hd';show DE K H 1 x y (decide (cs[j][i]?=cs'[j][i]?))
   rw [q1,q2,show decide (some w1=some w2)=decide (w1=w2) by simp];exact zhp r1 r2
  rw [lu,zct cl] at this;show DE K H 2 _ _ (decide (cs[j]?=cs'[j]?))
  rw [e1,e2,show decide (some cs[j]=some cs'[j])=decide (cs[j]=cs'[j]) by simp];exact this
 ·rw [length_map,la,zct hl,if_pos rfl];rw [show decide (cs≠cs')=!decide (cs=cs') by simp] at k;exact k
def zbV (a:Ad):Sp:=λ vs H Q _=>∃ (vw:V) (n:Nat) (bs:List (Int × Int)) (rs:List Row),vs=[vw,.int n]/\Rep H (Off []) vw (zX a bs rs)/\zC bs rs/\(∀ b∈bs,zu b.1 b.2)/\(∀ r∈rs,r.ok)/\n<=1000/\∀ l H',Same H H'->H' l=some (.lst (((List.range n).map (mvd bs rs)).map V.bl))->Q (.ref l) H'
theorem zbk (T:Txt K mg a) (F:Fun K "_law_moved" "_law_moved" vh f fd):FnOk P w K mg base (CXr P w) 8 f fd ["_law_work_here","_law_turns"] (zbV a):=by
 refine F.okx zaY ?_ ?_
 ·walk_at "i"
 walk_at "j";obtain ⟨vw,n,bs,rs,rfl,hv,wok,bo,ro,n1000,k⟩:=h;have b24:=wok.1.1.2;have r24:=wok.1.2.2;walk_at "T";refine ⟨_,(zh (zo 2 zaY.nd (zm ⟨rfl,rfl,rfl⟩ hr (za (pq 0) zc)))  (zh (zo 3 zaY.nd (zz zc))  (zh (jh jS rfl (we (za (pq 1) zc)) (qr 4 zaY.nd)  (zh (zo 5 zaY.nd (zm ⟨rfl,rfl,rfl⟩ hr (za (pq 0) (za (pq 2) zc))))  (zh (zx (qJ PySem.F.plainAttrs_list PySem.F.slot_list_append PySem.F.type_list_append zK (pq 3) (za (zg9 (wj zhd (zQ zV zU (za (zm ⟨rfl,rfl,rfl⟩ hr (za (pq 0) (za (pq 2) zc))) zc)) zd (zw _)) (zba (wj (zfZ hr.units1) (zl (pq 5) rfl) (zl (pq 2) rfl) (zw _)))) zc)))  (zg (zo 2 zaY.nd (pq 5))))))  (zg (zk (pq 3)))))),?_⟩;walk_at "go";refine uc (vO T).mono ⟨vw,bs,rs,_,rfl,hv,b24,r24,bo,ro,λ v0 H1 s1 sn=>?_⟩;obtain ⟨y0,n0,rfl,so0,_⟩:=sn;walk_at "go";intro M hM;have sM:=zf (o:=.lst []) hM;have gM:upd H1 M (.lst []) M=some (.lst ([]:List V)):=upd_same;have so1:=so0.same sM;have nM:=so0.offN hM;have nM0:H M=none:=zA s1 hM;have s2:=s1.trans sM;generalize upd H1 M (.lst [])=H2 at gM so1 s2 ⊢;clear so0 sM hM s1;walk_at "for";walk_at "go";refine ⟨by omega,by omega,?_⟩;refine ZI (n:=((n:Nat):Int).toNat) (λ m σ H'=>∃ (v4 v5:Option V) (y:Addr) (nn:SN),σ=[some vw,some (.int n),some (.ref y),some (.ref M),v4,v5]/\Same H H'/\H' M=some (.lst (((List.range m).map (mvd bs rs)).map V.bl))/\StO a H' y nn (zn bs rs m)/\M ∉ y :: nn.all) ⟨_,_,y0,n0,rfl,s2,gM,so1,nM⟩ ?_ ?_
 ·clear gM so1 nM s2;rintro m σ H3 hm ⟨v4,v5,y,nn,rfl,s3,gM,so,nM⟩;have wf:=qc wok bo ro m;walk_at "go";refine uc (Xm T).mono ⟨vw,_,_,bs,rs,_,rfl,hv.same s3,so.rep,wf,wok,bo,ro,λ v4' H4 s4 sn=>?_⟩;obtain ⟨y4,n4,rfl,so4,ny4,_,nn4⟩:=sn;have so4:StO a H4 y4 n4 (zn bs rs (m + 1)):=so4;have soo:=so.same s4;walk_at "go";refine ⟨.inl ⟨rfl,_,SqL.of (s4 _ _ gM)⟩,m_len,_,_,_,(zbM T).mono,vw,_,_,bs,rs,_,rfl,(hv.same s3).same s4,soo.rep,wf,wok,bo,ro,λ ml us H5 s5 _ gl ru=>⟨_,.inl ⟨_,SqL.of gl,rfl⟩,?_⟩⟩;have lu:us.length=(zr rs (zn bs rs m) rs.length).2.length:=by rw [ru.len,length_map]
  have so5:=so4.same s5;have soo5:=soo.same s5;have g5:=s5 _ _ (s4 _ _ gM);have nM4:M ∉ y4 :: n4.all:=λ z=>by
   rcases List.mem_cons.mp z with z|z
   ·rw [z,ny4] at gM;cases gM
   ·rw [nn4 M z] at gM;cases gM
  have s05:=(s3.trans s4).trans s5;have lm:(((List.range m).map (mvd bs rs)).map V.bl).length=m:=by simp
  have fin:∀ b,mvd bs rs m=b->Same H (upd H5 M (.lst (((List.range m).map (mvd bs rs)).map V.bl ++ [.bl b])))/\upd H5 M (.lst (((List.range m).map (mvd bs rs)).map V.bl ++ [.bl b])) M=some (.lst (((List.range (m + 1)).map (mvd bs rs)).map V.bl))/\StO a (upd H5 M (.lst (((List.range m).map (mvd bs rs)).map V.bl ++ [.bl b]))) y4 n4 (zn bs rs (m + 1)):=λ b e=>by
   subst e;refine ⟨λ c o hc=>by rw [upd_ne (ne_of_none hc nM0)];exact s05 c o hc,?_,so5.out g5 nM4⟩;rw [upd_same,range_succ,map_append,map_append]
   rfl
  refine zL (λ z=>?_) (λ z=>?_)
  ·have e:mvd bs rs m=true:=by
    unfold mvd;rw [List.isEmpty_eq_false_iff.mpr (ne_nil_of_length_pos (by omega))]
    rfl
   obtain ⟨f1,f2,f3⟩:=fin true e;exact ⟨M,_,_,rfl,rfl,g5,zj (by omega),_,_,y4,n4,rfl,f1,f2,f3,nM4⟩
  ·have e:mvd bs rs m=decide ((zn bs rs (m + 1)).cells≠(zn bs rs m).cells):=by
    unfold mvd;rw [List.isEmpty_iff.mpr (List.length_eq_zero_iff.mp (by omega))]
    rfl
   obtain ⟨f1,f2,f3⟩:=fin _ e;have wf4:=qc wok bo ro (m + 1);refine ra so5.hy T.C_State T.N_State_cells rfl (ra soo5.hy T.C_State T.N_State_cells rfl ?_);refine zge so5.hc soo5.hc (λ b hb z=>?_) (by rw [wf4.co.1,wf.co.1]) (λ q c c' h1 h2=>?_) ?_
   ·have hn:H3 b=none:=nn4 b (by
     rcases List.mem_cons.mp hb with e|hb
     ·rw [e];simp [SN.all]
     ·simp [SN.all,hb])
    obtain ⟨vs,hb3⟩:=so.hc.isl z;rw [hn] at hb3;cases hb3
   ·have hq:=(List.getElem?_eq_some_iff.mp h1).1;have hb:=getElem?_eq_getElem (l:=bs) (i:=q) (by rw [<- wf4.co.1];exact hq);rw [(wf4.co.2 q _ c hb h1).1,(wf.co.2 q _ c' hb h2).1]
   ·exact ⟨M,_,_,rfl,rfl,g5,zj (by omega),_,_,y4,n4,rfl,f1,f2,f3,nM4⟩
 ·rintro σ H3 ⟨v4,v5,y,nn,rfl,s3,gM,so,nM⟩;walk_at "go";rw [Int.toNat_natCast] at gM;exact k M H3 s3 gM
theorem zdq (T:Txt K mg a):Cal P w K mg base "_law_moved" 8 ["_law_work_here","_law_turns"] [] (zbV a):=T.h_L_moved.cal (zbk T)
def VL (K:PySem.W.Frag):Sp:=λ vs H Q _=>∃ (l:Addr) (ns:List Int),vs=[.ref l]/\SqL K H l (ns.map V.int)/\ns.length<=63/\∀ H',Q (.bl true) H'
theorem zgr (T:Txt K mg a) (F:Fun K "law" "law" QA f fd):FnOk P w K mg base (CXr P w) 13 f fd ["_law_script"] (VL K):=by
 refine F.okx zgb ?_ ?_
 ·walk_at "i"
 walk_at "j";obtain ⟨l,ns,rfl,hl,hn,k⟩:=h;walk_at "T";refine ⟨_,(zi (JJ (i:=1) zgb.nd rfl (Or.inl rfl) (vars:=["_law_cell_here"]) (caps:=[]) (N:=["_law_cell_here"]) (ON:=["_law_script","_law_cells","_law_work_here","_law_limit","_law_found","_law_moved_here","_law_told","_law_due","_law_k"]) (osc:=ze QA) rfl rfl (by first|decide +kernel|kernel_rfl) rfl rfl (qd (pq 0)) (λ s H fp pins=>(qr 0 (show (["_law_cell_here"]:List Str).Nodup from by decide +kernel))) (λ s H fp pins=>z8) (λ s H fp pins=>(Z7 (pq 0))))  (zi (Z4 (zm ⟨rfl,rfl,rfl⟩ hr (za (pq 1) zc)) (JM (n:=2) rfl (qU (qr 2 zgb.nd) (qU (qr 3 zgb.nd) Zv))))  (zi (zo 4 zgb.nd (zm ⟨rfl,rfl,rfl⟩ hr (za (pq 2) (za (pq 3) zc))))  (zi (zG (zq ji (pq 4) zy (zw _))  (zg (zk (zm ⟨rfl,rfl,rfl⟩ hr (za (pq 2) (za (pq 3) zc)))))  zp)  (zi (zo 5 zgb.nd (zm ⟨rfl,rfl,rfl⟩ hr (za (pq 2) (za (zH z9 (zv (pq 4) zd) (zv (pq 4) zd)) zc))))  (zi (zo 6 zgb.nd (zm ⟨rfl,rfl,rfl⟩ hr (za (pq 2) (za (pq 3) zc))))  (zi (zG (jQ (qT (zm ⟨rfl,rfl,rfl⟩ hr (za (pq 2) (za (zH z9 (zv (pq 4) zd) (zv (pq 4) zd)) (za (pq 6) zc)))) (λ _=>rfl)))  (zg (zk zhb))  zp)  (zi (zG (qT (zQ (zgS rfl) zgQ (za (Zw WD (pq 5) (Jb (zv (pq 4) zd)) Jc) zc)) (λ _=>rfl))  (zg (zk (wj op_isN (pq 6) zy (zw _))))  zp)  (zi (zo 7 zgb.nd zd)  (jd (jh jS rfl (we (za (zQ zV zU (za (pq 5) zc)) zc)) (qr 8 zgb.nd)  (zg (zG (qT (zv (pq 5) (pq 8)) (λ _=>rfl))  (zg (zo 7 zgb.nd (zH z9 (pq 8) zd)))  zp)))  (zg (zk (WV (zQ wW qb (za (pq 6) (za (zd4 zgP) zc))) (WV (zd6 (zQ wW qb (za (pq 6) (za (zd4 zfJ) zc)))) (zba (wj (zec hr.units1) (pq 6) (pq 7) (zw _))))))))))))))))),?_⟩;walk_at "go";walk_at "lc";walk_at "go";refine ⟨l,rfl,.inl ⟨⟨_,hl⟩,λ _ _ _ _ acc hacc=>?_⟩⟩;refine qR (K:=K) (a:=l) (xs:=iv ns) (λ q σ H'=>∃ (v0:Option V) (cs:List Int),σ=[v0]/\Same H H'/\H' acc=some (.lst (iv cs))/\cs.length=q) ⟨_,[],rfl,zf hacc,upd_same,rfl⟩ (λ q σ H' _ h=>by obtain ⟨_,_,_,s,_⟩:=h;exact xJ s hl) ?_ ?_
 ·rintro q x σ H1 hq ⟨v0,cs,rfl,s1,ha,lc⟩;obtain ⟨c,hc,rfl⟩:=Xe hq;have hql:=(List.getElem?_eq_some_iff.mp hc).1;walk_at "go";exact ⟨_,ha,zj (by rw [zD];omega),_,cs ++ [_],rfl,(λ b o hb=>by rw [upd_ne (ne_of_none hb hacc)];exact s1 b o hb),by rw [upd_same,jf],by simp [lc]⟩
 rintro σ H1 ⟨v0,cs,rfl,s1,ha,_⟩;walk_at "go";refine uc (zdu T).mono (zda acc cs rfl (SqL.of ha) (λ t vw lim H2 bs rs s2 ht l1000 rw2 wok bo ro=>?_));clear s1 s2 ha hl hacc;walk_at "go";refine un2 ht ?_;walk_at "go";refine uc (zdp T).mono ⟨vw,lim,bs,rs,rfl,rw2,wok,bo,ro,l1000,λ v H3 s3 r3=>?_⟩;have rw3:=rw2.same s3;clear rw2 s3 ht;rcases r3 with ⟨nr,rfl⟩|⟨i,j,tf,rd,rfl,htf⟩
 ·walk_at "go";exact uc (QI T).mono (QF vw lim bs rs rfl rw3 wok bo ro l1000 nr (λ H4 _=>k _))
 have hij:=rd.lt;have hj:=rd.le;have e1:(i:Int) + ((j:Int) - i)=j:=by omega
 walk_at "go";refine uc (zdq T).mono (rd_ixT htf at0 (rd_ixT htf (show atI _ 1=some (.int ((j:Int) - i)) from rfl) ?_));walk_at "go";rw [e1];refine ⟨vw,j,bs,rs,rfl,rw3,wok,bo,ro,by omega,λ ml H4 s4 gm=>?_⟩;have rw4:=rw3.same s4;have ht4:=s4 _ _ htf;clear rw3 s4 htf;walk_at "go";refine uc (ZM T).mono ⟨vw,lim,bs,rs,rfl,rw4,wok,bo,ro,l1000,λ i' j' v H5 rd' s5 rf=>?_,λ nr=>absurd nr rd.no⟩;obtain ⟨ei,ej⟩:=rd.one rd';subst ei ej;have rw5:=rw4.same s5;have ht5:=s5 _ _ ht4;have gm5:=s5 _ _ gm;clear rw4 s5 ht4 gm rd';walk_at "go";refine uc (Vw T).mono (rd_ixT ht5 at0 (rd_ixT ht5 (show atI _ 1=some (.int ((j:Int) - i)) from rfl) ?_));walk_at "go";rw [e1];refine ⟨vw,v,lim,i,j,bs,rs,rfl,rw5,wok,bo,ro,rd,rf,λ H6 s6=>?_⟩;have ht6:=s6 _ _ ht5;have gm6:=s6 _ _ gm5;clear rw5 s6 ht5 gm5;walk_at "go";refine rd_ixT ht6 at0 ?_;walk_at "go";have lm:(((List.range j).map (mvd bs rs)).map V.bl).length=j:=by simp
 refine WQ (SqL.of gm6) λ p hp=>?_;rw [zaz _ i (by omega),<- List.map_drop];have gm7:=zf (o:=.lst ((((List.range j).map (mvd bs rs)).drop i).map V.bl)) hp _ _ gm6;refine ⟨p,_,rfl,upd_same,?_⟩;generalize upd H6 p (.lst ((((List.range j).map (mvd bs rs)).drop i).map V.bl))=H7 at gm7 ⊢;have at_:∀ q,(((List.range j).map (mvd bs rs)).drop i)[q]?=if i + q < j then some (mvd bs rs (i + q)) else none:=λ q=>by
  rw [List.getElem?_drop,getElem?_map]
  split
  ·rename_i h;rw [List.getElem?_range h];rfl
  ·rename_i h;rw [getElem?_eq_none (by simp;omega)];rfl
 clear gm6 ht6 hp;rcases rf with ⟨st,rfl⟩|⟨st,rfl⟩
 ·have no:(((List.range j).map (mvd bs rs)).drop i).any id=false:=by
   rw [List.any_eq_false];intro x hx;obtain ⟨q,hq⟩:=getElem?_of_mem hx;rw [at_] at hq
   split at hq
   ·rename_i h;cases hq;rw [wB wok bo ro rd st (i + q) (by omega) h];simp
   ·cases hq
  rw [if_neg (by rw [no];simp)];walk_at "go";walk_at "go";let M1_:St->Hp->Prop:=λ σ' H'=>∃ (v8:Option V),σ'=[some (.ref l),some (.ref acc),some vw,some (.int lim),some (.ref tf),some (.ref ml),some (.int i),some (.int i),v8];refine cut M1_ ?_ ?_
  ·walk_at "for";walk_at "go";refine ⟨_,.inl ⟨_,SqL.of gm7,rfl⟩,?_⟩;rw [lm];refine ⟨by omega,by omega,?_⟩;let M2_:Nat->St->Hp->Prop:=λ m σ H'=>∃ (v8:Option V),σ=[some (.ref l),some (.ref acc),some vw,some (.int lim),some (.ref tf),some (.ref ml),some (.int i),some (.int (zax bs rs m)),v8]/\H'=H7;refine ZI (n:=((j:Nat):Int).toNat) M2_ ⟨_,rfl,rfl⟩ ?_ ?_
   ·rintro m σ H8 hm ⟨v8,rfl,rfl⟩;walk_at "go";simp only [Int.zero_add];refine zt (SqL.of gm7) (zJ (show _=some (V.bl (mvd bs rs m)) by rw [getElem?_map,getElem?_map,List.getElem?_range (by omega)];rfl)) ?_;cases e:mvd bs rs m with
    | true =>
     walk_at "go";exact ⟨_,by rw [zax,e];rfl,rfl⟩
    | false =>
     walk_at "go";exact ⟨_,by rw [zax,e];rfl,rfl⟩
   ·rintro σ H8 ⟨v8,rfl,rfl⟩;rw [Int.toNat_natCast,zgL wok bo ro rd st];exact ⟨_,rfl⟩
  rintro σ' H8 ⟨v8,rfl⟩;walk_at "go";exact k _
 ·obtain ⟨n,n1,n2,e⟩:=zhg wok bo ro (Nat.le_of_lt hij) st;have yes:(((List.range j).map (mvd bs rs)).drop i).any id=true:=by
   rw [any_eq_true];refine ⟨true,mem_of_getElem? (i:=n - i) ?_,rfl⟩;rw [at_,if_pos (by omega),show i + (n - i)=n by omega,e]
  rw [if_pos yes];exact k _
theorem top_ok (T:Txt K mg a) (F:Fun K "law" "law" QA f fd):FnOk P w K mg base (CXr P w) 13 f fd ["_law_script"] (VL K):=zgr T F
end
theorem zdi {α:Type} {n:Nat} {P:List α->Prop} (us:List α) (hl:us.length=n + 1) (h:∀ a vs,vs.length=n->P (a :: vs)):P us:=by
 cases us with
 | nil=>cases hl
 | cons a vs=>exact h a vs (Nat.succ.inj hl)
theorem ey0 {α:Type} {P:List α->Prop} (us:List α) (hl:us.length=0) (h:P []):P us:=by
 cases us with
 | nil=>exact h
 | cons=>cases hl
theorem ey1 {α:Type} {P:List α->Prop} (us:List α) (hl:us.length=1) (h:∀ a0,P [a0]):P us:=zdi us hl λ a0 _ l=>ey0 (P:=λ z=>P (a0 :: z)) _ l (h a0)
theorem ex1 {fn:FuncData} {ps:List Str} (us:List Value) (hl:us.length=1) (h:∀ a0,bindArgs fn ⟨[a0],[]⟩=pure (ps.zip [a0])):bindArgs fn ⟨us,[]⟩=pure (ps.zip us):=ey1 (P:=λ z=>bindArgs fn ⟨z,[]⟩=pure (ps.zip z)) us hl h
theorem ey2 {α:Type} {P:List α->Prop} (us:List α) (hl:us.length=2) (h:∀ a0 a1,P [a0,a1]):P us:=zdi us hl λ a0 _ l=>ey1 (P:=λ z=>P (a0 :: z)) _ l λ a1=>h a0 a1
theorem ex2 {fn:FuncData} {ps:List Str} (us:List Value) (hl:us.length=2) (h:∀ a0 a1,bindArgs fn ⟨[a0,a1],[]⟩=pure (ps.zip [a0,a1])):bindArgs fn ⟨us,[]⟩=pure (ps.zip us):=ey2 (P:=λ z=>bindArgs fn ⟨z,[]⟩=pure (ps.zip z)) us hl h
theorem ey3 {α:Type} {P:List α->Prop} (us:List α) (hl:us.length=3) (h:∀ a0 a1 a2,P [a0,a1,a2]):P us:=zdi us hl λ a0 _ l=>ey2 (P:=λ z=>P (a0 :: z)) _ l λ a1 a2=>h a0 a1 a2
theorem ex3 {fn:FuncData} {ps:List Str} (us:List Value) (hl:us.length=3) (h:∀ a0 a1 a2,bindArgs fn ⟨[a0,a1,a2],[]⟩=pure (ps.zip [a0,a1,a2])):bindArgs fn ⟨us,[]⟩=pure (ps.zip us):=ey3 (P:=λ z=>bindArgs fn ⟨z,[]⟩=pure (ps.zip z)) us hl h
theorem ey4 {α:Type} {P:List α->Prop} (us:List α) (hl:us.length=4) (h:∀ a0 a1 a2 a3,P [a0,a1,a2,a3]):P us:=zdi us hl λ a0 _ l=>ey3 (P:=λ z=>P (a0 :: z)) _ l λ a1 a2 a3=>h a0 a1 a2 a3
theorem ex4 {fn:FuncData} {ps:List Str} (us:List Value) (hl:us.length=4) (h:∀ a0 a1 a2 a3,bindArgs fn ⟨[a0,a1,a2,a3],[]⟩=pure (ps.zip [a0,a1,a2,a3])):bindArgs fn ⟨us,[]⟩=pure (ps.zip us):=ey4 (P:=λ z=>bindArgs fn ⟨z,[]⟩=pure (ps.zip z)) us hl h
theorem ey5 {α:Type} {P:List α->Prop} (us:List α) (hl:us.length=5) (h:∀ a0 a1 a2 a3 a4,P [a0,a1,a2,a3,a4]):P us:=zdi us hl λ a0 _ l=>ey4 (P:=λ z=>P (a0 :: z)) _ l λ a1 a2 a3 a4=>h a0 a1 a2 a3 a4
theorem ex5 {fn:FuncData} {ps:List Str} (us:List Value) (hl:us.length=5) (h:∀ a0 a1 a2 a3 a4,bindArgs fn ⟨[a0,a1,a2,a3,a4],[]⟩=pure (ps.zip [a0,a1,a2,a3,a4])):bindArgs fn ⟨us,[]⟩=pure (ps.zip us):=ey5 (P:=λ z=>bindArgs fn ⟨z,[]⟩=pure (ps.zip z)) us hl h
theorem ey6 {α:Type} {P:List α->Prop} (us:List α) (hl:us.length=6) (h:∀ a0 a1 a2 a3 a4 a5,P [a0,a1,a2,a3,a4,a5]):P us:=zdi us hl λ a0 _ l=>ey5 (P:=λ z=>P (a0 :: z)) _ l λ a1 a2 a3 a4 a5=>h a0 a1 a2 a3 a4 a5
theorem ex6 {fn:FuncData} {ps:List Str} (us:List Value) (hl:us.length=6) (h:∀ a0 a1 a2 a3 a4 a5,bindArgs fn ⟨[a0,a1,a2,a3,a4,a5],[]⟩=pure (ps.zip [a0,a1,a2,a3,a4,a5])):bindArgs fn ⟨us,[]⟩=pure (ps.zip us):=ey6 (P:=λ z=>bindArgs fn ⟨z,[]⟩=pure (ps.zip z)) us hl h
abbrev FHy (K:PySem.W.Frag) (x:Str) (st:Stmt):Prop:=∃ (f:Addr) (oc:Value) (od an:Option Addr) (osl:Array (Option Value)) (kV doc pm cdv ct:Value),PySem.W.nsIn K mainGlobals x=some (some (.ref f))/\K.lookup f=some ⟨oc,od,.func (PySem.W.fnOf x x (zM st) (zF st) (ze st) .none kV doc pm an cdv ct),osl⟩/\PySem.W.codeIn K cdv x=true/\PySem.W.keepIn K (.ref f)=true
theorem fhy {K:PySem.W.Frag} {x:Str} {st:Stmt} {f:Addr} {oc:Value} {od an:Option Addr} {osl:Array (Option Value)} {kV doc pm cdv ct:Value} (a:PySem.W.nsIn K mainGlobals x=some (some (.ref f))) (l:K.lookup f=some ⟨oc,od,.func (PySem.W.fnOf x x (zM st) (zF st) (ze st) .none kV doc pm an cdv ct),osl⟩) (c:PySem.W.codeIn K cdv x=true) (k:PySem.W.keepIn K (.ref f)=true):FHy K x st:=⟨_,_,_,_,_,_,_,_,_,_,a,l,c,k⟩
theorem ql {K:PySem.W.Frag} {mg:Str->Option Value} {h:Heap} {x:Str} {st:Stmt} {ps:List Str} (X:K.In h) (G:h.Ns mainGlobals mg) (y:FHy K x st) (hb:∀ (kV doc pm:Value) (an:Option Addr) (cdv ct:Value) (us:List Value),us.length=ps.length->bindArgs (PySem.W.fnOf x x (zM st) (zF st) (ze st) .none kV doc pm an cdv ct) ⟨us,[]⟩=pure (ps.zip us)):FA K mg x st ps:=by
 obtain ⟨_,_,_,_,_,_,_,_,_,_,a,l,c,k⟩:=y;exact zho X G a l c k hb
abbrev CHy (K:PySem.W.Frag) (C:Addr):Prop:=PySem.W.plainGet K C Str.empty=true/\PySem.W.hasDictIn K C=true/\plainOver K C=true/\PySem.W.findIn K (.ref C) "__setattr__"=some (some (.builtin "object.__setattr__"))/\PySem.W.makesIn K C=true/\PySem.W.keepIn K (.ref C)=true/\PySem.W.findIn K (.ref C) "__class__"=some (some (.builtin "object.__class__"))/\mroIn K C (.type "object")=some true
theorem CHy.c {K:PySem.W.Frag} {C:Addr} (h:CHy K C):Cls K C:=⟨h.1,h.2.1,h.2.2.1,h.2.2.2.1⟩
theorem CHy.w {K:PySem.W.Frag} {C:Addr} (h:CHy K C) (g:PySem.W.specialIn K (.builtin "object.__class__") "__get__"=some (some (.builtin "getset_descriptor.__get__"))) (t:PySem.W.takesIn K (.builtin "object.__class__")=some true):WI K C:=⟨h.2.2.2.2.2.2.1,h.2.2.2.2.2.2.2,g,t⟩
abbrev MHy (K:PySem.W.Frag) (C:Addr) (m q:Str) (st:Stmt):Prop:=∃ (f:Addr) (oc:Value) (od an:Option Addr) (osl:Array (Option Value)) (kV doc pm cdv ct:Value),PySem.W.findIn K (.ref C) m=some (some (.ref f))/\PySem.W.isFn K (.ref f)=true/\K.lookup f=some ⟨oc,od,.func (PySem.W.fnOf m q (zM st) (zF st) (ze st) .none kV doc pm an cdv ct),osl⟩/\PySem.W.codeIn K cdv q=true/\PySem.W.keepIn K (.ref f)=true
theorem mhy {K:PySem.W.Frag} {C:Addr} {m q:Str} {st:Stmt} {f:Addr} {oc:Value} {od an:Option Addr} {osl:Array (Option Value)} {kV doc pm cdv ct:Value} (a:PySem.W.findIn K (.ref C) m=some (some (.ref f))) (i:PySem.W.isFn K (.ref f)=true) (l:K.lookup f=some ⟨oc,od,.func (PySem.W.fnOf m q (zM st) (zF st) (ze st) .none kV doc pm an cdv ct),osl⟩) (c:PySem.W.codeIn K cdv q=true) (k:PySem.W.keepIn K (.ref f)=true):MHy K C m q st:=⟨_,_,_,_,_,_,_,_,_,_,a,i,l,c,k⟩
theorem vD {K:PySem.W.Frag} {C:Addr} {m q:Str} {st:Stmt} {ps:List Str} (y:MHy K C m q st) (hb:∀ (kV doc pm:Value) (an:Option Addr) (cdv ct:Value) (us:List Value),us.length=ps.length->bindArgs (PySem.W.fnOf m q (zM st) (zF st) (ze st) .none kV doc pm an cdv ct) ⟨us,[]⟩=pure (ps.zip us)):FM K C m q st ps:=by
 obtain ⟨_,_,_,_,_,_,_,_,_,_,a,i,l,c,k⟩:=y;exact zhk a i l c k hb
theorem Vp {K:PySem.W.Frag} {C:Addr} {q:Str} {st:Stmt} {ps:List Str} (z:CHy K C) (y:MHy K C "__init__" q st) (hb:∀ (kV doc pm:Value) (an:Option Addr) (cdv ct:Value) (us:List Value),us.length=ps.length->bindArgs (PySem.W.fnOf "__init__" q (zM st) (zF st) (ze st) .none kV doc pm an cdv ct) ⟨us,[]⟩=pure (ps.zip us)):FK K C q st ps:=by
 obtain ⟨_,_,_,_,_,_,_,_,_,_,a,i,l,c,k⟩:=y;exact zhl z.2.2.2.2.1 z.2.2.2.2.2.1 a i l c k hb
theorem all_mk {l:PySem.W.OpenLaw} {w:World} {K:PySem.W.Frag} {h:Heap} {mg:Str->Option Value} {fa fL f24 ya f27 yb yc yd ye yf yg yh yi yj yk ym yn yo yp yq yr yt yu:Addr} (X:K.In h) (G:h.Ns mainGlobals mg) (hfa:mg "law"=some (.ref fa))
  {yv yx yy yz odL anL yA yB:Option Addr} {yC yD slL yE:Array (Option Value)} {yF yG yH yI yJ yK yL yM yN yO yP yQ ocL kVL dcL pmL cdL ctL yR yS yT yU yV yW:Value}
  {yX yY:Value} {yZ y9:Option Addr} {Ya Yb:Nat} {Yc Yd:Array (Option Value)} {Ye Yf:Tok}
  {Yg Yh Yi Yj Yk Yl Ym:Tok}
  (h1:FHy K "check_pace" j5)
  (h2:FHy K "check_kind" j6)
  (h3:FHy K "check_ways" jY)
  (h4:FHy K "first_place" jE)
  (h5:FHy K "place_for_ware" qN)
  (h6:FHy K "kind_of" w6)
  (h7:FHy K "no_counts" xu)
  (h8:FHy K "empty_state" qC)
  (h9:FHy K "copied_state" jq)
  (h10:FHy K "kinds_in" xg)
  (h11:FHy K "kind_place" jX)
  (h12:FHy K "shape_of" jz)
  (h13:FHy K "heads_of" jA)
  (h14:FHy K "taken_ware" jV)
  (h15:FHy K "belt_at" w9)
  (h16:FHy K "counted_place" qX)
  (h17:FHy K "act" VY)
  (h18:FHy K "act_all" va)
  (h19:FHy K "move_belt" xv)
  (h20:FHy K "pass_turn" xt)
  (h21:FHy K "one_turn" wa)
  (h22:FHy K "moves_of" wb)
  (h23:FHy K "round_ends" jW)
  (a24:PySem.W.nsIn K mainGlobals "round_of"=some (some (.ref f24))) (l24:K.lookup f24=some ⟨yF,yv,.func (PySem.W.fnOf "round_of" "round_of" (zM jg) (zF jg) (ze jg) (.ref ya) yG yH yI yx yJ yK),yC⟩) (c24:PySem.W.codeIn K yJ "round_of"=true) (k24:PySem.W.keepIn K (.ref f24)=true)
  (Yn:K.lookup ya=some ⟨yX,yZ,.seq #[.int 200 Ye] Ya,Yc⟩)
  (h25:FHy K "growth_of" jK)
  (h26:FHy K "still_state" jD)
  (a27:PySem.W.nsIn K mainGlobals "still_from"=some (some (.ref f27))) (l27:K.lookup f27=some ⟨yL,yy,.func (PySem.W.fnOf "still_from" "still_from" (zM qy) (zF qy) (ze qy) (.ref yb) yM yN yO yz yP yQ),yD⟩) (c27:PySem.W.codeIn K yP "still_from"=true) (k27:PySem.W.keepIn K (.ref f27)=true)
  (Yo:K.lookup yb=some ⟨yY,y9,.seq #[.int 200 Yf] Yb,Yd⟩)
  (h28:FHy K "common" Zn)
  (h29:FHy K "lasting" wZ)
  (h30:FHy K "check_size" jZ)
  (h31:FHy K "check_each_once" qD)
  (h32:FHy K "_law_cell" Zq)
  (h33:FHy K "_law_some" Zp)
  (h34:FHy K "_law_belt" Zr)
  (h35:FHy K "_law_kinds" vj)
  (h36:FHy K "_law_split" vb)
  (h37:FHy K "_law_grown" vm)
  (h38:FHy K "_law_work" Zo)
  (h39:FHy K "_law_round" vd)
  (h40:FHy K "_law_moved" vh)
  (h41:FHy K "_law_refused" xw)
  (h42:FHy K "_law_left_out" j8)
  (h43:FHy K "_law_closed" xh)
  (h44:FHy K "_law_lanes" xQ)
  (h45:FHy K "_law_long" wI)
  (h46:FHy K "_law_built" vn)
  (aL:PySem.W.nsIn K mainGlobals "law"=some (some (.ref fL))) (lL:K.lookup fL=some ⟨ocL,odL,.func (PySem.W.fnOf "law" "law" (zM QA) (zF QA) (ze QA) .none kVL dcL pmL anL cdL ctL),slL⟩) (cL:PySem.W.codeIn K cdL "law"=true) (kL:PySem.W.keepIn K (.ref fL)=true)
  (Yp:PySem.W.nsIn K mainGlobals "len"=some none)
  (Yq:PySem.W.nsIn K mainGlobals "range"=some none)
  (Yr:PySem.W.nsIn K mainGlobals "list"=some none)
  (Ys:PySem.W.nsIn K mainGlobals "max"=some none)
  (Yt:PySem.W.nsIn K mainGlobals "tuple"=some none)
  (Yu:PySem.W.nsIn K mainGlobals "isinstance"=some none)
  (Yv:PySem.W.nsIn K mainGlobals "enumerate"=some none)
  (Yw:PySem.W.nsIn K mainGlobals "zip"=some none)
  (Yx:PySem.W.nsIn K mainGlobals "sorted"=some none)
  (Yy:PySem.W.nsIn K mainGlobals "ValueError"=some none)
  (Yz:PySem.W.nsIn K mainGlobals "any"=some none)
  (YA:PySem.W.nsIn K mainGlobals "int"=some none)
  (YB:PySem.W.nsIn K mainGlobals "bool"=some none)
  (YC:PySem.W.nsIn K mainGlobals "WorkError"=some (some (.ref yc)))
  (YD:PySem.W.nsIn K mainGlobals "BadBelt"=some (some (.ref yd)))
  (YE:PySem.W.nsIn K mainGlobals "BadKnot"=some (some (.ref ye)))
  (YF:PySem.W.nsIn K mainGlobals "BadWork"=some (some (.ref yf)))
  (YG:PySem.W.nsIn K mainGlobals "TooLong"=some (some (.ref yg)))
  (YH:PySem.W.nsIn K mainGlobals "Moving"=some (some (.ref yh)))
  (YI:PySem.W.nsIn K mainGlobals "Belt"=some (some (.ref yi)))
  (YJ:PySem.W.nsIn K mainGlobals "Knot"=some (some (.ref yj)))
  (YK:PySem.W.nsIn K mainGlobals "Source"=some (some (.ref yk)))
  (YL:PySem.W.nsIn K mainGlobals "Drain"=some (some (.ref ym)))
  (YM:PySem.W.nsIn K mainGlobals "Parter"=some (some (.ref yn)))
  (YN:PySem.W.nsIn K mainGlobals "FirstParter"=some (some (.ref yo)))
  (YO:PySem.W.nsIn K mainGlobals "Sieve"=some (some (.ref yp)))
  (YQ:PySem.W.nsIn K mainGlobals "Joiner"=some (some (.ref yq)))
  (YR:PySem.W.nsIn K mainGlobals "State"=some (some (.ref yr)))
  (YS:PySem.W.nsIn K mainGlobals "Work"=some (some (.ref yt)))
  (YT:CHy K yi)
  (YU:NoAttr K yi "room")
  (YV:NoAttr K yi "pace")
  (YW:MHy K yi "__init__" "Belt.__init__" xz)
  (YX:PySem.W.findIn K (.ref yj) "__init__"=some (some (.ref yu))) (YY:PySem.W.isFn K (.ref yu)=true) (YZ:K.lookup yu=some ⟨yR,yA,.func (PySem.W.fnOf "__init__" "Knot.__init__" (zM qG) (zF qG) (ze qG) .none yS yT yU yB yV yW),yE⟩) (Y0:PySem.W.codeIn K yV "Knot.__init__"=true) (Y1:PySem.W.keepIn K (.ref yu)=true)
  (Y2:PySem.W.specialIn K (.ref yj) "__getattribute__"=some (some (.builtin "type.__getattribute__")))
  (Y3:readsIn K yj (.type "type")=true)
  (Y4:findCls K (.ref yj) (.type "type") "__init__"=some (.val (.ref yu)))
  (Y5:CHy K yk)
  (Y6:NoAttr K yk "pace")
  (Y7:NoAttr K yk "kinds")
  (Y8:NoAttr K yk "ins")
  (Y9:NoAttr K yk "outs")
  (yaa:MHy K yk "__init__" "Source.__init__" jF)
  (yba:MHy K yk "choice" "Source.choice" qZ)
  (yca:MHy K yk "copied" "Source.copied" qY)
  (yda:CHy K ym)
  (yea:NoAttr K ym "pace")
  (yfa:NoAttr K ym "ins")
  (yga:NoAttr K ym "outs")
  (yha:MHy K ym "__init__" "Drain.__init__" j9)
  (yia:MHy K ym "choice" "Drain.choice" ju)
  (yja:MHy K ym "copied" "Drain.copied" jt)
  (yka:CHy K yn)
  (yla:NoAttr K yn "ins")
  (yma:NoAttr K yn "outs")
  (yna:MHy K yn "__init__" "Parter.__init__" jG)
  (yoa:MHy K yn "choice" "Parter.choice" jb)
  (ypa:MHy K yn "copied" "Parter.copied" ja)
  (yqa:CHy K yo)
  (yra:NoAttr K yo "ins")
  (ysa:NoAttr K yo "outs")
  (yta:MHy K yo "__init__" "FirstParter.__init__" qz)
  (yua:MHy K yo "choice" "FirstParter.choice" qi)
  (yva:MHy K yo "copied" "FirstParter.copied" qh)
  (ywa:CHy K yp)
  (yxa:NoAttr K yp "kind")
  (yya:NoAttr K yp "ins")
  (yza:NoAttr K yp "outs")
  (yAa:MHy K yp "__init__" "Sieve.__init__" j7)
  (yBa:MHy K yp "choice" "Sieve.choice" js)
  (yCa:MHy K yp "place_for" "Sieve.place_for" qE)
  (yDa:MHy K yp "copied" "Sieve.copied" jr)
  (yEa:CHy K yq)
  (yFa:NoAttr K yq "ins")
  (yGa:NoAttr K yq "outs")
  (yHa:MHy K yq "__init__" "Joiner.__init__" jH)
  (yIa:MHy K yq "choice" "Joiner.choice" qB)
  (yJa:MHy K yq "copied" "Joiner.copied" jc)
  (yKa:CHy K yr)
  (yLa:NoAttr K yr "turn")
  (yMa:NoAttr K yr "cells")
  (yNa:NoAttr K yr "sides")
  (yOa:NoAttr K yr "gone")
  (yPa:MHy K yr "__init__" "State.__init__" qO)
  (yQa:CHy K yt)
  (yRa:NoAttr K yt "belts")
  (ySa:NoAttr K yt "knots")
  (yTa:MHy K yt "__init__" "Work.__init__" jm)
  (yUa:MHy K yt "drains" "Work.drains" qS)
  (yVa:MHy K yt "sources" "Work.sources" qF)
  (yWa:MHy K yt "beat" "Work.beat" jL)
  (wgn:PySem.W.specialIn K (.builtin "object.__class__") "__get__"=some (some (.builtin "getset_descriptor.__get__"))) (wtk:PySem.W.takesIn K (.builtin "object.__class__")=some true)
  (yXa:PySem.W.nsIn K mainGlobals "MOST_ROOM"=some (some (.int 6 Yg)))
  (yYa:PySem.W.nsIn K mainGlobals "MOST_PACE"=some (some (.int 4 Yh)))
  (yZa:PySem.W.nsIn K mainGlobals "MOST_KINDS"=some (some (.int 6 Yi)))
  (y0a:PySem.W.nsIn K mainGlobals "FEWEST_WAYS"=some (some (.int 2 Yj)))
  (y1a:PySem.W.nsIn K mainGlobals "MOST_WAYS"=some (some (.int 4 Yk)))
  (y2a:PySem.W.nsIn K mainGlobals "MOST_BELTS"=some (some (.int 24 Yl)))
  (y3a:PySem.W.nsIn K mainGlobals "MOST_KNOTS"=some (some (.int 24 Ym)))
  (y4a:excIn K yd bmV "ValueError.__new__"=true)
  (y5a:excIn K ye bmV "ValueError.__new__"=true)
  (y6a:excIn K yg bmV "ValueError.__new__"=true)
  (y7a:PySem.W.findIn K (.ref yg) "__getattribute__"=some (some (.builtin "BaseException.__getattribute__")))
  (y8a:PySem.W.findIn K (.ref yg) "__getattr__"=some none)
  (y9a:PySem.W.findIn K (.ref yg) "__class__"=some (some (.builtin "object.__class__")))
  (Yaa:PySem.W.hasDictIn K yg=true)
  (Yba:mroIn K yg (.type "object")=some true)
  (Yca:PySem.W.subIn K (.ref yg) (.type "BaseException")=some true)
  (Yda:excIn K yf bmV "ValueError.__new__"=true)
  (xgn:PySem.W.specialIn K (.builtin "object.__class__") "__get__"=some (some (.builtin "getset_descriptor.__get__")))
  (xtk:PySem.W.takesIn K (.builtin "object.__class__")=some true)
  (Yea:PySem.W.subIn K (.ref yg) (.type "BaseException")=some true)
  (Yfa:PySem.W.hasDictIn K yg=true)
  (Yga:PySem.W.typeIn K (.ref yg)=some (.type "type"))
  (Yha:PySem.W.subIn K (.ref yg) (.ref yg)=some true)
  (Yia:PySem.W.kitOne K (.ref yk) (.ref yq)=some false)
  (Yja:PySem.W.kitOne K (.ref ym) (.ref yq)=some false)
  (Yka:PySem.W.kitOne K (.ref yn) (.ref yq)=some false)
  (Yla:PySem.W.kitOne K (.ref yo) (.ref yq)=some false)
  (Yma:PySem.W.kitOne K (.ref yp) (.ref yq)=some false)
  (Yna:PySem.W.kitOne K (.ref yq) (.ref yq)=some true)
  (Yoa:PySem.W.kitOne K (.ref yk) (.ref ym)=some false)
  (Ypa:PySem.W.kitOne K (.ref ym) (.ref ym)=some true)
  (Yqa:PySem.W.kitOne K (.ref yn) (.ref ym)=some false)
  (Yra:PySem.W.kitOne K (.ref yo) (.ref ym)=some false)
  (Ysa:PySem.W.kitOne K (.ref yp) (.ref ym)=some false)
  (Yta:PySem.W.kitOne K (.ref yq) (.ref ym)=some false)
  (Yua:PySem.W.kitOne K (.ref yk) (.ref yk)=some true)
  (Yva:PySem.W.kitOne K (.ref ym) (.ref yk)=some false)
  (Ywa:PySem.W.kitOne K (.ref yn) (.ref yk)=some false)
  (Yxa:PySem.W.kitOne K (.ref yo) (.ref yk)=some false)
  (Yya:PySem.W.kitOne K (.ref yp) (.ref yk)=some false)
  (Yza:PySem.W.kitOne K (.ref yq) (.ref yk)=some false)
  (YAa:PySem.W.kitOne K (.ref yg) (.ref yc)=some true)
  (YBa:PySem.W.kitOne K (.ref yg) (.type "ValueError")=some true)
  (YCa:PySem.W.kitOne K (.ref yg) (.ref yh)=some false)
  : ∃ fd:FuncData,(∀ (s:Shared) (v:Value),BindsTo s fd ⟨[v],[]⟩ [("_law_script",v)])/\∀ base:Heap,K.In base->base.Ns mainGlobals mg->FnOk l.prog w K mg base (CXr l.prog w) 13 fa fd ["_law_script"] (VL K):=by
 have e:=hfa.symm.trans (mg_of X G aL);cases e;have T:Txt K mg ⟨yc,yd,ye,yf,yg,yh,yi,yj,yk,ym,yn,yo,yp,yq,yr,yt⟩:={
  h_check_pace:=ql X G h1 λ _ _ _ _ _ _ us hl=>ex2 us hl λ _ _=>rfl
  h_check_kind:=ql X G h2 λ _ _ _ _ _ _ us hl=>ex1 us hl λ _=>rfl
  h_check_ways:=ql X G h3 λ _ _ _ _ _ _ us hl=>ex1 us hl λ _=>rfl
  h_first_place:=ql X G h4 λ _ _ _ _ _ _ us hl=>ex2 us hl λ _ _=>rfl
  h_place_for_ware:=ql X G h5 λ _ _ _ _ _ _ us hl=>ex3 us hl λ _ _ _=>rfl
  h_kind_of:=ql X G h6 λ _ _ _ _ _ _ us hl=>ex2 us hl λ _ _=>rfl
  h_no_counts:=ql X G h7 λ _ _ _ _ _ _ us hl=>ex1 us hl λ _=>rfl
  h_empty_state:=ql X G h8 λ _ _ _ _ _ _ us hl=>ex1 us hl λ _=>rfl
  h_copied_state:=ql X G h9 λ _ _ _ _ _ _ us hl=>ex1 us hl λ _=>rfl
  h_kinds_in:=ql X G h10 λ _ _ _ _ _ _ us hl=>ex2 us hl λ _ _=>rfl
  h_kind_place:=ql X G h11 λ _ _ _ _ _ _ us hl=>ex3 us hl λ _ _ _=>rfl
  h_shape_of:=ql X G h12 λ _ _ _ _ _ _ us hl=>ex2 us hl λ _ _=>rfl
  h_heads_of:=ql X G h13 λ _ _ _ _ _ _ us hl=>ex3 us hl λ _ _ _=>rfl
  h_taken_ware:=ql X G h14 λ _ _ _ _ _ _ us hl=>ex3 us hl λ _ _ _=>rfl
  h_belt_at:=ql X G h15 λ _ _ _ _ _ _ us hl=>ex2 us hl λ _ _=>rfl
  h_counted_place:=ql X G h16 λ _ _ _ _ _ _ us hl=>ex2 us hl λ _ _=>rfl
  h_act:=ql X G h17 λ _ _ _ _ _ _ us hl=>ex3 us hl λ _ _ _=>rfl
  h_act_all:=ql X G h18 λ _ _ _ _ _ _ us hl=>ex2 us hl λ _ _=>rfl
  h_move_belt:=ql X G h19 λ _ _ _ _ _ _ us hl=>ex1 us hl λ _=>rfl
  h_pass_turn:=ql X G h20 λ _ _ _ _ _ _ us hl=>ex2 us hl λ _ _=>rfl
  h_one_turn:=ql X G h21 λ _ _ _ _ _ _ us hl=>ex2 us hl λ _ _=>rfl
  h_moves_of:=ql X G h22 λ _ _ _ _ _ _ us hl=>ex2 us hl λ _ _=>rfl
  h_round_ends:=ql X G h23 λ _ _ _ _ _ _ us hl=>ex2 us hl λ _ _=>rfl
  h_round_of:=zf2 (st:=jg) (ps:=["work","limit"]) X G a24 l24 c24 k24 Yn (.cons ⟨_,rfl⟩ (.nil)) (λ s us hK hl=>match us,hl with | [_,_],_=>binds_K hK rfl Yn rfl rfl rfl) (λ s us hK hl=>match us,(show us.length=1 by simp at hl;omega) with | [_],_=>binds_K hK rfl Yn rfl rfl rfl)
  h_growth_of:=ql X G h25 λ _ _ _ _ _ _ us hl=>ex2 us hl λ _ _=>rfl
  h_still_state:=ql X G h26 λ _ _ _ _ _ _ us hl=>ex2 us hl λ _ _=>rfl
  h_still_from:=zf2 (st:=qy) (ps:=["work","limit"]) X G a27 l27 c27 k27 Yo (.cons ⟨_,rfl⟩ (.nil)) (λ s us hK hl=>match us,hl with | [_,_],_=>binds_K hK rfl Yo rfl rfl rfl) (λ s us hK hl=>match us,(show us.length=1 by simp at hl;omega) with | [_],_=>binds_K hK rfl Yo rfl rfl rfl)
  h_common:=ql X G h28 λ _ _ _ _ _ _ us hl=>ex2 us hl λ _ _=>rfl
  h_lasting:=ql X G h29 λ _ _ _ _ _ _ us hl=>ex1 us hl λ _=>rfl
  h_check_size:=ql X G h30 λ _ _ _ _ _ _ us hl=>ex2 us hl λ _ _=>rfl
  h_check_each_once:=ql X G h31 λ _ _ _ _ _ _ us hl=>ex2 us hl λ _ _=>rfl
  h_L_cell:=ql X G h32 λ _ _ _ _ _ _ us hl=>ex2 us hl λ _ _=>rfl
  h_L_some:=ql X G h33 λ _ _ _ _ _ _ us hl=>ex3 us hl λ _ _ _=>rfl
  h_L_belt:=ql X G h34 λ _ _ _ _ _ _ us hl=>ex1 us hl λ _=>rfl
  h_L_kinds:=ql X G h35 λ _ _ _ _ _ _ us hl=>ex1 us hl λ _=>rfl
  h_L_split:=ql X G h36 λ _ _ _ _ _ _ us hl=>ex4 us hl λ _ _ _ _=>rfl
  h_L_grown:=ql X G h37 λ _ _ _ _ _ _ us hl=>ex6 us hl λ _ _ _ _ _ _=>rfl
  h_L_work:=ql X G h38 λ _ _ _ _ _ _ us hl=>ex2 us hl λ _ _=>rfl
  h_L_round:=ql X G h39 λ _ _ _ _ _ _ us hl=>ex2 us hl λ _ _=>rfl
  h_L_moved:=ql X G h40 λ _ _ _ _ _ _ us hl=>ex2 us hl λ _ _=>rfl
  h_L_refused:=ql X G h41 λ _ _ _ _ _ _ us hl=>ex2 us hl λ _ _=>rfl
  h_L_left_out:=ql X G h42 λ _ _ _ _ _ _ us hl=>ex3 us hl λ _ _ _=>rfl
  h_L_closed:=ql X G h43 λ _ _ _ _ _ _ us hl=>ex1 us hl λ _=>rfl
  h_L_lanes:=ql X G h44 λ _ _ _ _ _ _ us hl=>ex2 us hl λ _ _=>rfl
  h_L_long:=ql X G h45 λ _ _ _ _ _ _ us hl=>ex1 us hl λ _=>rfl
  h_L_built:=ql X G h46 λ _ _ _ _ _ _ us hl=>ex1 us hl λ _=>rfl
  m_len:=mg_none_of X G Yp
  m_range:=mg_none_of X G Yq
  m_list:=mg_none_of X G Yr
  m_max:=mg_none_of X G Ys
  m_tuple:=mg_none_of X G Yt
  m_isinstance:=mg_none_of X G Yu
  m_enumerate:=mg_none_of X G Yv
  m_zip:=mg_none_of X G Yw
  m_sorted:=mg_none_of X G Yx
  m_ValueError:=mg_none_of X G Yy
  m_any:=mg_none_of X G Yz
  m_int:=mg_none_of X G YA
  m_bool:=mg_none_of X G YB
  g_WorkError:=mg_of X G YC
  g_BadBelt:=mg_of X G YD
  g_BadKnot:=mg_of X G YE
  g_BadWork:=mg_of X G YF
  g_TooLong:=mg_of X G YG
  g_Moving:=mg_of X G YH
  g_Belt:=mg_of X G YI
  g_Source:=mg_of X G YK
  g_Drain:=mg_of X G YL
  g_Parter:=mg_of X G YM
  g_FirstParter:=mg_of X G YN
  g_Sieve:=mg_of X G YO
  g_Joiner:=mg_of X G YQ
  g_State:=mg_of X G YR
  g_Work:=mg_of X G YS
  C_Belt:=YT.c
  N_Belt_room:=YU
  N_Belt_pace:=YV
  h_Belt_init:=Vp YT YW λ _ _ _ _ _ _ us hl=>ex3 us hl λ _ _ _=>rfl
  b_Knot_init:=zhm (st:=qG) (ps:=["self","ins","outs"]) (mg_of X G YJ) Y2 Y3 Y4 YZ Y0 Y1 λ _ _ _ _ _ _ us hl=>ex3 us hl λ _ _ _=>rfl
  C_Source:=Y5.c
  N_Source_pace:=Y6
  N_Source_kinds:=Y7
  N_Source_ins:=Y8
  N_Source_outs:=Y9
  W_Source:=Y5.w wgn wtk
  h_Source_init:=Vp Y5 yaa λ _ _ _ _ _ _ us hl=>ex4 us hl λ _ _ _ _=>rfl
  h_Source_choice:=vD yba λ _ _ _ _ _ _ us hl=>ex5 us hl λ _ _ _ _ _=>rfl
  h_Source_copied:=vD yca λ _ _ _ _ _ _ us hl=>ex1 us hl λ _=>rfl
  C_Drain:=yda.c
  N_Drain_pace:=yea
  N_Drain_ins:=yfa
  N_Drain_outs:=yga
  W_Drain:=yda.w wgn wtk
  h_Drain_init:=Vp yda yha λ _ _ _ _ _ _ us hl=>ex3 us hl λ _ _ _=>rfl
  h_Drain_choice:=vD yia λ _ _ _ _ _ _ us hl=>ex5 us hl λ _ _ _ _ _=>rfl
  h_Drain_copied:=vD yja λ _ _ _ _ _ _ us hl=>ex1 us hl λ _=>rfl
  C_Parter:=yka.c
  N_Parter_ins:=yla
  N_Parter_outs:=yma
  W_Parter:=yka.w wgn wtk
  h_Parter_init:=Vp yka yna λ _ _ _ _ _ _ us hl=>ex3 us hl λ _ _ _=>rfl
  h_Parter_choice:=vD yoa λ _ _ _ _ _ _ us hl=>ex5 us hl λ _ _ _ _ _=>rfl
  h_Parter_copied:=vD ypa λ _ _ _ _ _ _ us hl=>ex1 us hl λ _=>rfl
  C_FirstParter:=yqa.c
  N_FirstParter_ins:=yra
  N_FirstParter_outs:=ysa
  W_FirstParter:=yqa.w wgn wtk
  h_FirstParter_init:=Vp yqa yta λ _ _ _ _ _ _ us hl=>ex3 us hl λ _ _ _=>rfl
  h_FirstParter_choice:=vD yua λ _ _ _ _ _ _ us hl=>ex5 us hl λ _ _ _ _ _=>rfl
  h_FirstParter_copied:=vD yva λ _ _ _ _ _ _ us hl=>ex1 us hl λ _=>rfl
  C_Sieve:=ywa.c
  N_Sieve_kind:=yxa
  N_Sieve_ins:=yya
  N_Sieve_outs:=yza
  W_Sieve:=ywa.w wgn wtk
  h_Sieve_init:=Vp ywa yAa λ _ _ _ _ _ _ us hl=>ex4 us hl λ _ _ _ _=>rfl
  h_Sieve_choice:=vD yBa λ _ _ _ _ _ _ us hl=>ex5 us hl λ _ _ _ _ _=>rfl
  h_Sieve_place_for:=vD yCa λ _ _ _ _ _ _ us hl=>ex2 us hl λ _ _=>rfl
  h_Sieve_copied:=vD yDa λ _ _ _ _ _ _ us hl=>ex1 us hl λ _=>rfl
  C_Joiner:=yEa.c
  N_Joiner_ins:=yFa
  N_Joiner_outs:=yGa
  W_Joiner:=yEa.w wgn wtk
  h_Joiner_init:=Vp yEa yHa λ _ _ _ _ _ _ us hl=>ex3 us hl λ _ _ _=>rfl
  h_Joiner_choice:=vD yIa λ _ _ _ _ _ _ us hl=>ex5 us hl λ _ _ _ _ _=>rfl
  h_Joiner_copied:=vD yJa λ _ _ _ _ _ _ us hl=>ex1 us hl λ _=>rfl
  C_State:=yKa.c
  N_State_turn:=yLa
  N_State_cells:=yMa
  N_State_sides:=yNa
  N_State_gone:=yOa
  h_State_init:=Vp yKa yPa λ _ _ _ _ _ _ us hl=>ex5 us hl λ _ _ _ _ _=>rfl
  C_Work:=yQa.c
  N_Work_belts:=yRa
  N_Work_knots:=ySa
  h_Work_init:=Vp yQa yTa λ _ _ _ _ _ _ us hl=>ex3 us hl λ _ _ _=>rfl
  h_Work_drains:=vD yUa λ _ _ _ _ _ _ us hl=>ex1 us hl λ _=>rfl
  h_Work_sources:=vD yVa λ _ _ _ _ _ _ us hl=>ex1 us hl λ _=>rfl
  h_Work_beat:=vD yWa λ _ _ _ _ _ _ us hl=>ex1 us hl λ _=>rfl
  g_MOST_ROOM:=⟨_,mg_of X G yXa⟩
  g_MOST_PACE:=⟨_,mg_of X G yYa⟩
  g_MOST_KINDS:=⟨_,mg_of X G yZa⟩
  g_FEWEST_WAYS:=⟨_,mg_of X G y0a⟩
  g_MOST_WAYS:=⟨_,mg_of X G y1a⟩
  g_MOST_BELTS:=⟨_,mg_of X G y2a⟩
  g_MOST_KNOTS:=⟨_,mg_of X G y3a⟩
  X_BadBelt:=⟨y4a⟩
  X_BadKnot:=⟨y5a⟩
  X_TooLong:=⟨y6a⟩
  XI_TooLong:=⟨y7a,y8a,y9a,Yaa,xgn,xtk,Yba,Yca⟩
  X_BadWork:=⟨Yda⟩
  S_TooLong:=Yea
  E_TooLong_TooLong:=zc5 Yfa Yga Yha
  k1_Source_Joiner:=Yia
  k1_Drain_Joiner:=Yja
  k1_Parter_Joiner:=Yka
  k1_FirstParter_Joiner:=Yla
  k1_Sieve_Joiner:=Yma
  k1_Joiner_Joiner:=Yna
  k1_Source_Drain:=Yoa
  k1_Drain_Drain:=Ypa
  k1_Parter_Drain:=Yqa
  k1_FirstParter_Drain:=Yra
  k1_Sieve_Drain:=Ysa
  k1_Joiner_Drain:=Yta
  k1_Source_Source:=Yua
  k1_Drain_Source:=Yva
  k1_Parter_Source:=Ywa
  k1_FirstParter_Source:=Yxa
  k1_Sieve_Source:=Yya
  k1_Joiner_Source:=Yza
  k1_TooLong_WorkError:=YAa
  k1_TooLong_ValueError:=YBa
  k1_TooLong_Moving:=YCa
 }
 exact ⟨_,λ s v=>.of_eq rfl,λ base _ _=>top_ok T (wn (st:=QA) lL cL kL)⟩
theorem walk {l:PySem.W.OpenLaw} {q:Program} {loose:List Str} {XP:(Str->Option Value)->Heap->Prop} {YP:World->Heap->Prop} {d:DefRec} {K:Params->PySem.W.Frag} (hn:l.most=some 63) (hdf:d.params.defaults=[])
  (hY:∀ (w:World) (h:Heap),YP w h->(K w.params).In h)
  (F:∀ (w:World) (mg:Str->Option Value) (fa:Addr) (h:Heap),(K w.params).In h->h.Ns mainGlobals mg->mg d.name=some (.ref fa) ->
   ∃ fd:FuncData,(∀ (s:Shared) (u:Value),BindsTo s fd ⟨[u],[]⟩ [("_law_script",u)])/\∀ base:Heap,(K w.params).In base->base.Ns mainGlobals mg->FnOk l.prog w (K w.params) mg base (CXr l.prog w) 13 fa fd ["_law_script"] (VL (K w.params))) :
  PySem.W.WalkO q loose XP YP l.row.toRowW d [] (λ f vs=>PySem.call f vs) :=
 L2.walk_of (n:=63) (k:=13) (x:="_law_script") (CX:=λ w=>CXr l.prog w) (sp:=λ w=>VL (K w.params)) hn (by decide) hdf ⟨rfl,by decide,by decide⟩ hY F (λ _ _ a ns hl _ hS=>⟨a,ns,rfl,hS,hl,λ _=>rfl⟩) λ _ _ _ _ _ z=>zdj z
end K40
set_option Elab.async false
namespace PySem.W.Fast
def tw12928893512712870440:=()
def tw9523175734899114428:=()
def tw9417141001487343042:=()
def tw6811730071330737557:=()
def tw7917183187066759959:=()
def tw6993305186694475082:=()
def tw14416697677001200388:=()
def tw11330009567204862961:=()
def tw13721571242851142697:=()
def tw16107235175978973936:=()
def tw1718804547802204137:=()
def tw9387015369695674905:=()
def tw9870748109860843456:=()
def tw15910105861576043823:=()
def tw5008489046601805054:=()
def tw8116839198589309602:=()
def tw3736132141945003904:=()
def tw5956267811587455465:=()
def tw14614236975810235749:=()
def tw3387847204527511565:=()
def tw7595168709260628301:=()
def tw16380966092369296576:=()
def tw5312953667676506555:=()
def tw11299480243986464103:=()
def tw11597152193546420636:=()
def tw9255083026869543235:=()
def tw4545333982195985216:=()
def tw5644032024722554953:=()
def tw5148043662530834201:=()
def tw12731448560829901605:=()
def tw5432768264962975247:=()
def tw15771936702682924267:=()
def tw9365231043594289710:=()
def tw18151370555171683944:=()
def tw8425662537456204300:=()
def tw9152522370625774605:=()
def tw16284159105989390737:=()
def tw13719977190029657087:=()
def tw11031286512941066593:=()
def tw2985676882555586048:=()
def tw10855435985048430337:=()
def tw14059780734917151325:=()
def tw16144853162097573343:=()
def tw6398002153973349872:=()
def tw10416927208324084985:=()
def tw6066740655964340214:=()
def tw13894907719014372687:=()
def tw5849829097306520992:=()
def tw1540293868343145850:=()
def tw17128656784232292097:=()
def tw13903041366682761635:=()
def tw16710334205570540301:=()
def tw15246441485712107405:=()
def tw10761907058567483738:=()
def tw18027322602848639214:=()
def tw18323068637654106333:=()
def tw2601003617691973079:=()
def tw390611774342581236:=()
def tw3840071560780773420:=()
def tw16704414751438505745:=()
def tw8191692065855970553:=()
def tw13720241537105752724:=()
def tw10643931053397487292:=()
def tw9073389961032463168:=()
def tw17041832868579667495:=()
def tw10458689862817432366:=()
def tw10963903578276961138:=()
def tw11852314120859949282:=()
def tw4739074765347217354:=()
def tw1015880399445939113:=()
def tw9435820938960036000:=()
def tw11918202973595356558:=()
def tw4072791436330993020:=()
def tw13612564470495917804:=()
def tw791921850486922046:=()
def tw4820202594581627254:=()
def tw7193897841403793201:=()
def tw14105559854877693764:=()
def tw12341172519006830798:=()
def tw17795254815936070041:=()
def tw18195994746104638325:=()
def tw5428033346560726234:=()
def tw10137215594956055554:=()
def tw1327246963847958053:=()
def tw18275967368877825849:=()
def tw4680318759223017345:=()
def tw5975385649204187826:=()
def tw17152226299786732394:=()
def tw11653723356159934485:=()
def tw1694458074429176188:=()
def tw14202498876392053701:=()
def tw7278307324123786742:=()
def tw5333680614563333229:=()
def tw4018621055315756115:=()
def tw2306926886496154114:=()
def tw13732380595484002049:=()
def tw16444222625264763134:=()
def tw14484008408708492151:=()
def tw11363342901208479109:=()
def tw9190617826825013298:=()
def tw17381338249156273157:=()
def tw6868015463326683899:=()
def tw1812061432837245478:=()
def tw5952772529963421031:=()
def tw15177243389388927618:=()
def tw1942087217716235180:=()
def tw18401318834632769417:=()
def tw11640577018916241356:=()
def tw17329526658693511505:=()
def tw1864605318115927384:=()
def tw5337635534869392256:=()
def tw1437346643430512201:=()
def tw5561227230111751754:=()
def tw6612822986166381731:=()
def tw7644298497174836730:=()
def tw10358452320154509737:=()
def tw7252205518267910489:=()
def tw11553403444725125432:=()
def tw2989447373772894081:=()
def tw8479656380944045622:=()
def tw10016342064122976769:=()
def tw7345741149334489207:=()
def tw14752289908185526293:=()
def tw229820740306265344:=()
def tw16399700163017366895:=()
def tw12802761739144440286:=()
def tw11862894105443474996:=()
def tw6917969180766570463:=()
def tw10711705505374563478:=()
def tw10208305248405377071:=()
def tw1441202439372813140:=()
def tw65945189454295827:=()
def tw6601024185907617310:=()
def tw16152108052094560994:=()
def tw2484451773646011384:=()
def tw1230352492274649273:=()
def tw7918868196261271912:=()
def tw12947529622541738644:=()
def tw10113898690384265891:=()
def tw14842847559084625941:=()
def tw5463219494859771803:=()
def tw13419474334314829135:=()
def tw14736313329054412504:=()
def tw11909170720565892095:=()
def tw4440176632217331509:=()
def tw12258936609332361259:=()
def tw3607540454869589649:=()
def tw1956807099846749978:=()
def tw15307135388394864286:=()
def tw16790218570820615180:=()
def tw11104139582024475129:=()
def tw1745202023273659179:=()
def tw8492670274927711371:=()
def tw6476182951189123159:=()
def tw9713415169111991550:=()
def tw6725848934961159449:=()
def tw6440635673641581163:=()
def tw2889559486038451919:=()
def tw13469130694951171655:=()
def tw13355416318416669099:=()
def tw5819923314826851112:=()
def tw15736019277900086005:=()
def tw11813881237979823358:=()
def tw15154249518228353678:=()
def tw12193809417128801187:=()
def tw3152382822736828052:=()
def tw9550812678752768693:=()
def tw5618603654317678638:=()
def tw805062621353078526:=()
def tw10631869068080135986:=()
def tw1323423091016374134:=()
def tw8908493795213051946:=()
def tw13152461954732541931:=()
def tw18433737360871358357:=()
def tw1259830354383956809:=()
def tw14873938567289031890:=()
def tw208731967573574245:=()
def tw3906250589088493479:=()
def tw8037419004338064422:=()
def tw10509451283240462346:=()
def tw14304307273099308397:=()
def tw4557835923811866697:=()
def tw4732554180595053109:=()
def tw8592679204445593249:=()
def tw4766554637798659069:=()
def tw10249777821190176139:=()
def tw15262739349477399027:=()
def tw3851720519116733052:=()
def tw18401237298846349921:=()
def tw16653226285435222273:=()
def tw17137455285527337274:=()
def tw933269737562755546:=()
def tw17258241816948261040:=()
def tw7498706873716562187:=()
def tw13901977217406658829:=()
def tw10554877915224868386:=()
def tw195501070897555421:=()
def tw12212429282957102371:=()
def tw15628456937631426832:=()
def tw9029306172826846473:=()
def tw7368696564816852865:=()
def tw17388891760918162562:=()
def tw11412097362764535155:=()
def tw11157522353675635988:=()
def tw5020248687829859313:=()
def tw17949645922860140723:=()
def tw17077184134570740614:=()
def tw9924134667930829735:=()
def tw11415055696576815797:=()
def tw11018562260950523954:=()
def tw6969254761837804172:=()
def tw10919384655286440947:=()
def tw7828539667342032009:=()
def tw2996665103218502000:=()
def tw5844215519380369897:=()
def tw14449602908969337585:=()
def tw13106389186410155776:=()
def tw9056483429239928192:=()
def tw15734499351264103340:=()
def tw5467651986185254691:=()
def tw5372845440656105361:=()
def tw13386269078811652202:=()
def tw12535010211133909520:=()
def tw11126390688958448119:=()
def tw3721959011451177302:=()
def tw10289733570598526199:=()
def tw17121053715924241345:=()
def tw17295237127768735954:=()
def tw16424485110013629315:=()
def tw15418738423187269321:=()
def tw14707480528305449198:=()
def tw681715573062018631:=()
def tw12721697394544855387:=()
def tw13566536763447157216:=()
def tw5847663234742087591:=()
def tw17094468917493132103:=()
def tw17898269200280180503:=()
def tw11927503037220792642:=()
def tw7711715908006638019:=()
def tw15080953081302055642:=()
def tw15965528637824775716:=()
def tw17987021549224570302:=()
def tw10866223772519141989:=()
def tw13326574714900398673:=()
def tw2069646697896846412:=()
def tw6290910311999202515:=()
def tw14599278799457660240:=()
def tw15314044278611981503:=()
def tw10533636323980665976:=()
def tw16957240864542297199:=()
def tw8906119391027299955:=()
def tw12615408862453858039:=()
def tw16478045899692610272:=()
def tw13126895248676847776:=()
def tw7994783499675328164:=()
def tw15138701098466849553:=()
def tw18111566971016852015:=()
def tw4535856908718475663:=()
def tw11052556763520643915:=()
def tw5103711247991969467:=()
def tw1364969963763443283:=()
def tw12135304210087354410:=()
def tw12942929494651427133:=()
def tw12673180837925409288:=()
def tw10115701459040833149:=()
def tw338725612372024694:=()
def tw11555229014331534755:=()
def tw14602313884609246763:=()
def tw1387704997218272390:=()
def tw3735650188827129238:=()
def tw8209557207344832742:=()
def tw619252482589485368:=()
def tw338665743667395401:=()
def tw5646319360354246329:=()
def tw13489578764536314269:=()
def tw12984052411163441216:=()
def tw11252724942899517311:=()
def tw17016167165979764335:=()
def tw8143828753249866900:=()
def tw9435837972212052816:=()
def tw8445904181816166174:=()
def tw14938099659344531176:=()
def tw14571194274643939768:=()
def tw7195851815061695703:=()
def tw6501344942896864467:=()
def tw12403663999549745637:=()
def tw9671448845395132789:=()
def tw15958821012653623243:=()
def tw16988428686314759729:=()
def tw5939930107715069561:=()
def tw7447720012059246542:=()
def tw367547365084255414:=()
def tw5675942300120036084:=()
def tw3763623611321270365:=()
def tw10582339019674731160:=()
def tw8924645208532255992:=()
def tw8049613657514435337:=()
def tw17948698240224169173:=()
def tw1893645851763912396:=()
def tw17745598829688186166:=()
def tw8550930067041629582:=()
def tw10575375087723788874:=()
def tw14786245135305192559:=()
def tw2882273235959508345:=()
def tw16067748638613396982:=()
def tw6297670275582758581:=()
def tw12048721516143702495:=()
def tw11694137683582040309:=()
def tw8469436231993634288:=()
def tw12872976771084911104:=()
def tw1669061217357649710:=()
def tw5673227718838845289:=()
def tw1142788177300921368:=()
def tw7298678937381813460:=()
def tw7851082597049412807:=()
def tw15532199720432339318:=()
def tw12374286380467740314:=()
def tw13248329443121125069:=()
def tw7949606827196175951:=()
def tw3300118631996883927:=()
def tw1491715123364400407:=()
def tw14762014482204504463:=()
def tw12304160659901343227:=()
def tw12432048063631994434:=()
def tw13474210460221514940:=()
def tw3457262828786767555:=()
def tw6195762221555582385:=()
def tw11027050321913772232:=()
def tw10981474291201529652:=()
def tw17826503132156063714:=()
def tw11301528441736951864:=()
def tw13781658397224783813:=()
def tw13653949996483706283:=()
def tw13083831901801954998:=()
def tw7247081420750523917:=()
def tw11472029443700693168:=()
def tw11381899446461232276:=()
def tw1697018757057011037:=()
def tw6228947616692916529:=()
def tw13898033167417115290:=()
def tw7863682741773515730:=()
def tw17481412580510143577:=()
def tw6570756805363608135:=()
def tw13850816061420958087:=()
def tw16512099478336798850:=()
def tw15951121721984168064:=()
def tw15225461062046921537:=()
def tw8720691324104950884:=()
def tw9068681572776336095:=()
def tw7445634057490966189:=()
def tw5118685523330263354:=()
end PySem.W.Fast
open PySem PySem.W PyProof.Rows
set_option maxRecDepth 100000 in
set_option maxHeartbeats 0 in
theorem PySem.Challenge.cw_beltshares_k40_still_from_holds : PySem.Challenge.rw_beltshares_k40_still_from.Holds := by
 w_on;o_law;k_head;(case hw=>w_witness2)
 k_fill
 refine K40.walk (l:=PySem.Challenge.rw_beltshares_k40_still_from) rfl rfl (λ w h Y=>PySem.W.kIn_of Y) ?F
 case F =>
  intro w mg fa h KX G hmg;refine' K40.all_mk KX G hmg ?h1 ?h2 ?h3 ?h4 ?h5 ?h6 ?h7 ?h8 ?h9 ?h10 ?h11 ?h12 ?h13 ?h14 ?h15 ?h16 ?h17 ?h18 ?h19 ?h20 ?h21 ?h22 ?h23 ?a24 ?l24 ?c24 ?k24 ?Yn ?h25 ?h26 ?a27 ?l27 ?c27 ?k27 ?Yo ?h28 ?h29 ?h30 ?h31 ?h32 ?h33 ?h34 ?h35 ?h36 ?h37 ?h38 ?h39 ?h40 ?h41 ?h42 ?h43 ?h44 ?h45 ?h46 ?aL ?lL ?cL ?kL ?Yp ?Yq ?Yr ?Ys ?Yt ?Yu ?Yv ?Yw ?Yx ?Yy ?Yz ?YA ?YB ?YC ?YD ?YE ?YF ?YG ?YH ?YI ?YJ ?YK ?YL ?YM ?YN ?YO ?YQ ?YR ?YS ?YT ?YU ?YV ?YW ?YX ?YY ?YZ ?Y0 ?Y1 ?Y2 ?Y3 ?Y4 ?Y5 ?Y6 ?Y7 ?Y8 ?Y9 ?yaa ?yba ?yca ?yda ?yea ?yfa ?yga ?yha ?yia ?yja ?yka ?yla ?yma ?yna ?yoa ?ypa ?yqa ?yra ?ysa ?yta ?yua ?yva ?ywa ?yxa ?yya ?yza ?yAa ?yBa ?yCa ?yDa ?yEa ?yFa ?yGa ?yHa ?yIa ?yJa ?yKa ?yLa ?yMa ?yNa ?yOa ?yPa ?yQa ?yRa ?ySa ?yTa ?yUa ?yVa ?yWa ?wgn ?wtk ?yXa ?yYa ?yZa ?y0a ?y1a ?y2a ?y3a ?y4a ?y5a ?y6a ?y7a ?y8a ?y9a ?Yaa ?Yba ?Yca ?Yda ?xgn ?xtk ?Yea ?Yfa ?Yga ?Yha ?Yia ?Yja ?Yka ?Yla ?Yma ?Yna ?Yoa ?Ypa ?Yqa ?Yra ?Ysa ?Yta ?Yua ?Yva ?Ywa ?Yxa ?Yya ?Yza ?YAa ?YBa ?YCa
  (case h1|h2|h3|h4|h5|h6|h7|h8|h9|h10|h11|h12|h13|h14|h15|h16|h17|h18|h19|h20|h21|h22|h23=>(refine' K40.fhy ?a ?l ?c ?k;(case a=>k_is);(case l=>k_is);(case c=>k_is);(case k=>k_is)))
  (case a24|l24|c24|k24|Yn=>k_is)
  (case h25|h26=>(refine' K40.fhy ?a ?l ?c ?k;(case a=>k_is);(case l=>k_is);(case c=>k_is);(case k=>k_is)))
  (case a27|l27|c27|k27|Yo=>k_is)
  (case h28|h29|h30|h31|h32|h33|h34|h35|h36|h37|h38|h39|h40|h41|h42|h43|h44|h45|h46=>(refine' K40.fhy ?a ?l ?c ?k;(case a=>k_is);(case l=>k_is);(case c=>k_is);(case k=>k_is)))
  (case aL|lL|cL|kL|Yp|Yq|Yr|Ys|Yt|Yu|Yv|Yw|Yx|Yy|Yz|YA|YB|YC|YD|YE|YF|YG|YH|YI|YJ|YK|YL|YM|YN|YO|YQ|YR|YS=>k_is)
  (case YT=>(refine ⟨?_,?_,?_,?_,?_,?_,?_,?_⟩ <;> k_is))
  (case YU|YV=>(show PySem.W.findIn _ _ _=_;k_is))
  (case YW=>(refine' K40.mhy ?a ?i ?l ?c ?k;(case a=>k_is);(case i=>k_is);(case l=>k_is);(case c=>k_is);(case k=>k_is)))
  (case YX|YY|YZ|Y0|Y1|Y2|Y3|Y4=>k_is)
  (case Y5=>(refine ⟨?_,?_,?_,?_,?_,?_,?_,?_⟩ <;> k_is))
  (case Y6|Y7|Y8|Y9=>(show PySem.W.findIn _ _ _=_;k_is))
  (case yaa|yba|yca=>(refine' K40.mhy ?a ?i ?l ?c ?k;(case a=>k_is);(case i=>k_is);(case l=>k_is);(case c=>k_is);(case k=>k_is)))
  (case yda=>(refine ⟨?_,?_,?_,?_,?_,?_,?_,?_⟩ <;> k_is))
  (case yea|yfa|yga=>(show PySem.W.findIn _ _ _=_;k_is))
  (case yha|yia|yja=>(refine' K40.mhy ?a ?i ?l ?c ?k;(case a=>k_is);(case i=>k_is);(case l=>k_is);(case c=>k_is);(case k=>k_is)))
  (case yka=>(refine ⟨?_,?_,?_,?_,?_,?_,?_,?_⟩ <;> k_is))
  (case yla|yma=>(show PySem.W.findIn _ _ _=_;k_is))
  (case yna|yoa|ypa=>(refine' K40.mhy ?a ?i ?l ?c ?k;(case a=>k_is);(case i=>k_is);(case l=>k_is);(case c=>k_is);(case k=>k_is)))
  (case yqa=>(refine ⟨?_,?_,?_,?_,?_,?_,?_,?_⟩ <;> k_is))
  (case yra|ysa=>(show PySem.W.findIn _ _ _=_;k_is))
  (case yta|yua|yva=>(refine' K40.mhy ?a ?i ?l ?c ?k;(case a=>k_is);(case i=>k_is);(case l=>k_is);(case c=>k_is);(case k=>k_is)))
  (case ywa=>(refine ⟨?_,?_,?_,?_,?_,?_,?_,?_⟩ <;> k_is))
  (case yxa|yya|yza=>(show PySem.W.findIn _ _ _=_;k_is))
  (case yAa|yBa|yCa|yDa=>(refine' K40.mhy ?a ?i ?l ?c ?k;(case a=>k_is);(case i=>k_is);(case l=>k_is);(case c=>k_is);(case k=>k_is)))
  (case yEa=>(refine ⟨?_,?_,?_,?_,?_,?_,?_,?_⟩ <;> k_is))
  (case yFa|yGa=>(show PySem.W.findIn _ _ _=_;k_is))
  (case yHa|yIa|yJa=>(refine' K40.mhy ?a ?i ?l ?c ?k;(case a=>k_is);(case i=>k_is);(case l=>k_is);(case c=>k_is);(case k=>k_is)))
  (case yKa=>(refine ⟨?_,?_,?_,?_,?_,?_,?_,?_⟩ <;> k_is))
  (case yLa|yMa|yNa|yOa=>(show PySem.W.findIn _ _ _=_;k_is))
  (case yPa=>(refine' K40.mhy ?a ?i ?l ?c ?k;(case a=>k_is);(case i=>k_is);(case l=>k_is);(case c=>k_is);(case k=>k_is)))
  (case yQa=>(refine ⟨?_,?_,?_,?_,?_,?_,?_,?_⟩ <;> k_is))
  (case yRa|ySa=>(show PySem.W.findIn _ _ _=_;k_is))
  (case yTa|yUa|yVa|yWa=>(refine' K40.mhy ?a ?i ?l ?c ?k;(case a=>k_is);(case i=>k_is);(case l=>k_is);(case c=>k_is);(case k=>k_is)))
  (case wgn|wtk|yXa|yYa|yZa|y0a|y1a|y2a|y3a=>k_is)
  (case y4a|y5a|y6a=>k_exc)
  (case y7a|y8a|y9a|Yaa|Yba|Yca=>k_is)
  (case Yda=>k_exc)
  (case xgn|xtk|Yea|Yfa|Yga|Yha=>k_is)
  (case Yia|Yja|Yka|Yla|Yma|Yna|Yoa|Ypa|Yqa|Yra|Ysa|Yta|Yua|Yva|Ywa|Yxa|Yya|Yza|YAa|YBa|YCa=>kit_is)
