import PyProof.Rows.All
import Wide.All
import KE.KLam
import KE.KMinKey
import KE.KSortTup
import Wide.FinOn
import Lean
import PyProof.EqAt
import PyProof.EqKinds
import PyProof.TupleCall
import OpenK.KOwn
import KE.KIsAll
import PyProof.ExcArgsOwn
import PyProof.ExcAttrAll.ValueError
import KE.KRevIter
import PyProof.WalksEnum
import PyProof.ZipIter
import PyProof.ConsumeWalk
import PyProof.LayNew
import PyProof.ExcClass2
import PyProof.InstStoreFacts
import PyProof.Rows.SortWalk
import PyProof.NeKinds
import OpenK.AllK
import PySem.Challenge.RW_fewpegs_k05_the_pile
set_option Elab.async false
set_option linter.all false
set_option maxRecDepth 100000
namespace L2
open PySem PySem.Spec PyProof.Rows

abbrev Key:=Sum Int Str
def keyIs : Key → Value → Bool
  | .inl k,v => Value.isInt k v
  | .inr x,v => Value.isStrOf x v
def keyH (w : World) : Key → Int
  | .inl k => hashInt k
  | .inr x => hashStr w x
theorem keyIs_shape : ∀ {k : Key} {v : Value},keyIs k v = true → (∃ i t,k = Sum.inl i ∧ v = Value.int i t) ∨ (∃ x t,k = Sum.inr x ∧ v = Value.str x t)
  | .inl i,v,h => by
    obtain ⟨t,e⟩:=Value.isInt_shape (k:=i) (v:=v) h
    exact .inl ⟨i,t,rfl,e⟩
  | .inr x,v,h => by
    obtain ⟨t,e⟩:=Value.isStrOf_shape (x:=x) (v:=v) h
    exact .inr ⟨x,t,rfl,e⟩
theorem key_ll (a b : Int) : decide ((Sum.inl a : Key) = Sum.inl b) = (a == b):=by
  by_cases e : a = b
  · subst e; simp
  · have h : ¬ (Sum.inl a : Key) = Sum.inl b:=fun q => e (Sum.inl.inj q)
    rw [decide_eq_false h]
    exact (beq_eq_false_iff_ne.mpr e).symm
theorem key_rr (a b : Str) : decide ((Sum.inr a : Key) = Sum.inr b) = decide (a = b):=by
  by_cases e : a = b
  · subst e; simp
  · have h : ¬ (Sum.inr a : Key) = Sum.inr b:=fun q => e (Sum.inr.inj q)
    rw [decide_eq_false h,decide_eq_false e]
theorem key_lr (a : Int) (b : Str) : decide ((Sum.inl a : Key) = Sum.inr b) = false:=decide_eq_false (fun q => nomatch q)
theorem key_rl (a : Str) (b : Int) : decide ((Sum.inr a : Key) = Sum.inl b) = false:=decide_eq_false (fun q => nomatch q)

def mixKind (prog : Program) (w : World) : PySem.KeyKind prog w Key where
  is:=keyIs
  hash:=keyH w
  inj:=fun v a b ha hb => by
    rcases keyIs_shape ha with ⟨i,t,rfl,rfl⟩ | ⟨x,t,rfl,rfl⟩
    · rcases keyIs_shape hb with ⟨j,u,rfl,e⟩ | ⟨y,u,rfl,e⟩
      · injection e with e1 _; rw [e1]
      · exact nomatch e
    · rcases keyIs_shape hb with ⟨j,u,rfl,e⟩ | ⟨y,u,rfl,e⟩
      · exact nomatch e
      · injection e with e1 _; rw [e1]
  byValue:=fun k v h => by
    rcases keyIs_shape h with ⟨i,t,rfl,rfl⟩ | ⟨x,t,rfl,rfl⟩ <;> rfl
  pyHash:=fun hv h => by
    rcases keyIs_shape hv with ⟨i,t,rfl,rfl⟩ | ⟨x,t,rfl,rfl⟩
    · exact wpAny_pyHash_int h
    · exact wpAny_pyHash_str h
  eqBool:=fun hu hv h => by
    rcases keyIs_shape hu with ⟨i,t,rfl,rfl⟩ | ⟨x,t,rfl,rfl⟩
    · rcases keyIs_shape hv with ⟨j,u,rfl,rfl⟩ | ⟨y,u,rfl,rfl⟩
      · rw [key_ll] at h; exact wpAny_eqBool_int h
      · rw [key_lr] at h; exact SeqAt.EqAt.int_str i t y u _ _ _ _ h
    · rcases keyIs_shape hv with ⟨j,u,rfl,rfl⟩ | ⟨y,u,rfl,rfl⟩
      · rw [key_rl] at h; exact SeqAt.EqAt.str_int x t j u _ _ _ _ h
      · rw [key_rr] at h; exact wpAny_eqBool_str h
  «strs»:=fun k x t v h => by
    rcases keyIs_shape h with ⟨i,u,rfl,e⟩ | ⟨y,u,rfl,e⟩
    · exact nomatch e
    · injection e with e1 _
      subst e1
      cases v <;> rfl

end L2

namespace L2
open PySem PySem.Spec PyProof.Rows

inductive V where
  | non | bl (b : Bool) | int (i : Int) | str (x : Str) | byt (b : Array UInt8) | flt (b : UInt64) | ref (a : Addr) | ty (n : String)
  deriving DecidableEq

def RelV : V → Value → Prop
  | .non,u => u = Value.none
  | .bl b,u => u = Value.bool b
  | .int i,u => ∃ t,u = Value.int i t
  | .str x,u => ∃ t,u = Value.str x t
  | .byt b,u => ∃ t,u = Value.bytes b t
  | .flt b,u => ∃ t,u = Value.float b t
  | .ref a,u => u = Value.ref a
  | .ty n,u => u = Value.type n

abbrev Vals : List V → List Value → Prop:=Paired RelV
theorem Vals.length {xs : List V} {us : List Value} (r : Vals xs us) : xs.length = us.length:=Paired.length r
theorem Vals.get : ∀ {xs : List V} {us : List Value} {i : Nat} {x : V},Vals xs us → xs[i]? = some x → ∃ u,us[i]? = some u ∧ RelV x u
  | _,_,_,_,.nil,e => by simp at e
  | _,_,0,_,.cons r _,e => by simp at e; subst e; exact ⟨_,rfl,r⟩
  | _,_,i + 1,x,.cons _ t,e => by
    obtain ⟨u,h1,h2⟩:=Vals.get (i:=i) (x:=x) t (by simpa using e)
    exact ⟨u,by simpa using h1,h2⟩
theorem Vals.set {x : V} {u : Value} (r : RelV x u) : ∀ {xs : List V} {us : List Value} (i : Nat),Vals xs us → Vals (xs.set i x) (us.set i u)
  | _,_,_,.nil => .nil
  | _,_,0,.cons _ t => .cons r t
  | _,_,i + 1,.cons q t => .cons q (Vals.set r i t)
theorem Vals.append : ∀ {xs ys : List V} {us ws : List Value},Vals xs us → Vals ys ws → Vals (xs ++ ys) (us ++ ws)
  | _,_,_,_,.nil,s => s
  | _,_,_,_,.cons r t,s => .cons r (Vals.append t s)
theorem Vals.take : ∀ {xs : List V} {us : List Value} (n : Nat),Vals xs us → Vals (xs.take n) (us.take n)
  | _,_,0,_ => .nil
  | _,_,_ + 1,.nil => .nil
  | _,_,n + 1,.cons r t => .cons r (Vals.take n t)
theorem Vals.drop : ∀ {xs : List V} {us : List Value} (n : Nat),Vals xs us → Vals (xs.drop n) (us.drop n)
  | _,_,0,r => r
  | _,_,_ + 1,.nil => .nil
  | _,_,n + 1,.cons _ t => Vals.drop n t
theorem Vals.none_of : ∀ {xs : List V} {us : List Value} {i : Nat},Vals xs us → xs[i]? = none → us[i]? = none:=fun {xs us i} r e => by
  have h1:=r.length
  have h2 : xs.length ≤ i:=List.getElem?_eq_none_iff.mp e
  exact List.getElem?_eq_none_iff.mpr (by omega)

def RelO : Option V → Option Value → Prop
  | some v,some u => RelV v u
  | none,none => True
  | _,_ => False
def KV {κ : Type} : List (κ × V) → List (κ × Value) → Prop:=Paired fun (p : κ × V) (q : κ × Value) => p.1 = q.1 ∧ RelV p.2 q.2

def kV : Key → V
  | .inl i => .int i
  | .inr x => .str x

inductive HO where
    | lst (xs : List V)
    | tup (xs : List V)
    | dK (kvs : List (Key × V)) | dT (kvs : List (List Key × V))
    | set (S : Int → Bool) (n : Nat)
    | ins (C dx : Addr) (fs : List (Str × V))
    | own (x : Addr)
    | xd (fs : List (Str × V))
    | met (f x : Addr)
    | rng (lo hi : Int)
    | frz (o : Obj) (u : HO)
    | tbl (ps : Array Value)
    | ext (φ : Heap → Prop)

abbrev Hp:=Addr → Option HO
def upd (H : Hp) (a : Addr) (o : HO) : Hp:=fun b => if b = a then some o else H b
theorem upd_same {H : Hp} {a : Addr} {o : HO} : upd H a o a = some o:=by unfold upd; rw [if_pos rfl]
theorem upd_ne {H : Hp} {a b : Addr} {o : HO} (h : b ≠ a) : upd H a o b = H b:=by unfold upd; rw [if_neg h]
theorem ne_of {H : Hp} {a b : Addr} {o u : HO} (h : H a = some o) (h' : H b = some u) (d : o ≠ u) : a ≠ b:=by
  intro e; subst e; rw [h] at h'; exact d (Option.some.inj h')
theorem ne_of_none {H : Hp} {a b : Addr} {o : HO} (h : H a = some o) (h' : H b = none) : a ≠ b:=by
  intro e; subst e; rw [h] at h'; cases h'

section
variable (P : Program) (w : World)
def ObjOk (H : Hp) (h : Heap) (a : Addr) : HO → Prop
  | .lst xs => xs.length ≤ sizeLine ∧ ∃ (its : List Value) (n : Nat),Vals xs its ∧ h.get? a = some { cls:=.type "list",data:=.seq its.toArray n }
  | .tup xs => xs.length ≤ sizeLine ∧ ∃ its : List Value,Vals xs its ∧ IsTup h a its.toArray
  | .dK kvs => kvs.length ≤ sizeLine ∧ (a == sysModules) = false ∧ ∃ vs,KV kvs vs ∧ h.DictOf (mixKind P w) a vs
  | .dT kvs => kvs.length ≤ sizeLine ∧ (a == sysModules) = false ∧ ∃ xs : List (List Key × Addr × Value),
      Paired (fun (p : List Key × V) (q : List Key × Addr × Value) => p.1 = q.1 ∧ H q.2.1 = some (.tup (p.1.map kV)) ∧ RelV p.2 q.2.2) kvs xs ∧
      ∃ o es ep,h.get? a = some o ∧ o.ExactDict ∧ o.data = .dict es ep ∧ es.toList = xs.map (entryOfKey (tupleKind (mixKind P w))) ∧ (xs.map (·.1)).Nodup
  | .set S n => h.SetOf (intKind P w) a S n
  | .ins C dx fs => H dx = some (.own a) ∧ fs.length ≤ 1000 ∧ dx ≠ a ∧ h.get? a = some (PySem.W.instObj C dx) ∧
      ∃ mA,h.Ns1 dx mA ∧ (∀ f,RelO (fs.lookup f) (mA f)) ∧ PySem.Within mA (fs.map (·.1))
  | .own _ => ∃ o,h.get? a = some o
  | .xd fs => ∃ mA,h.Ns1 a mA ∧ ∀ f,RelO (fs.lookup f) (mA f)
  | .rng lo hi => ∃ t u v,h.get? a = some { cls:=.type "range",data:=.fields #[.int lo t,.int hi u,.int 1 v] }
  | .frz o u => h.get? a = some o ∧ ObjOk H h a u
  | .tbl ps => h.get? a = some { cls:=.none,data:=.fields ps }
  | .met f x => h.get? a = some (PySem.W.methodObj (.ref f) (.ref x))
  | .ext φ => φ h ∧ (∃ o,h.get? a = some o) ∧ ∀ h1 h2 : Heap,φ h1 → (∀ o,h1.get? a = some o → h2.get? a = some o) → φ h2
def HOk (H : Hp) (h : Heap) : Prop:=∀ a o,H a = some o → ObjOk P w H h a o
end

section
variable {P : Program} {w : World} {H H' : Hp} {h h' : Heap} {a : Addr} {o : HO}
theorem ObjOk.lt (x : ObjOk P w H h a o) : a < h.objs.size:=by
  cases o with
  | lst xs => obtain ⟨_,_,_,_,e⟩:=x; exact Heap.lt_size e
  | tup xs => obtain ⟨_,_,_,p⟩:=x; exact p.lt
  | dK kvs => obtain ⟨_,_,_,_,o,_,_,e,_⟩:=x; exact Heap.lt_size e
  | dT kvs => obtain ⟨_,_,_,_,o,_,_,e,_⟩:=x; exact Heap.lt_size e
  | set S n => obtain ⟨o,_,_,_,e,_⟩:=x; exact Heap.lt_size e
  | ins C dx fs => obtain ⟨_,_,_,e,_⟩:=x; exact Heap.lt_size e
  | own y => obtain ⟨_,e⟩:=x; exact Heap.lt_size e
  | xd fs => obtain ⟨_,⟨_,_,_,e,_⟩,_⟩:=x; exact Heap.lt_size e
  | rng lo hi => obtain ⟨_,_,_,e⟩:=x; exact Heap.lt_size e
  | frz ob u => obtain ⟨e,_⟩:=x; exact Heap.lt_size e
  | tbl ps => exact Heap.lt_size (show h.get? a = some _ from x)
  | met f y => exact Heap.lt_size (show h.get? a = some _ from x)
  | ext φ => obtain ⟨_,⟨_,e⟩,_⟩:=x; exact Heap.lt_size e
theorem Paired.mapP {α β : Type} {F G : α → β → Prop} : ∀ {l₁ : List α} {l₂ : List β},Paired F l₁ l₂ → (∀ a b,F a b → G a b) → Paired G l₁ l₂
  | _,_,.nil,_ => .nil
  | _,_,.cons r t,f => .cons (f _ _ r) (Paired.mapP t f)
theorem ObjOk.stay (x : ObjOk P w H h a o) (k : ∀ b u,(b = a ∨ H b = some (.own a)) → h.get? b = some u → h'.get? b = some u)
    (ho : ∀ b,H b = some (.own a) → H' b = some (.own a)) (ht : ∀ b xs,H b = some (.tup xs) → H' b = some (.tup xs)) : ObjOk P w H' h' a o:=by
  induction o with
  | lst xs => obtain ⟨z,its,n,r,e⟩:=x; exact ⟨z,its,n,r,k _ _ (.inl rfl) e⟩
  | tup xs => obtain ⟨z,its,r,ob,e,c⟩:=x; exact ⟨z,its,r,ob,k _ _ (.inl rfl) e,c⟩
  | dK kvs => obtain ⟨z,y,vs,r,ob,es,ep,e,c⟩:=x; exact ⟨z,y,vs,r,ob,es,ep,k _ _ (.inl rfl) e,c⟩
  | dT kvs =>
    obtain ⟨z,y,xs,r,ob,es,ep,e,c⟩:=x
    exact ⟨z,y,xs,Paired.mapP r fun p q z => ⟨z.1,ht _ _ z.2.1,z.2.2⟩,ob,es,ep,k _ _ (.inl rfl) e,c⟩
  | set S n => obtain ⟨ob,es,ep,t,e,c⟩:=x; exact ⟨ob,es,ep,t,k _ _ (.inl rfl) e,c⟩
  | ins C dx fs =>
    obtain ⟨d,z,ne,e,mA,⟨od,es,ep,e2,c⟩,r⟩:=x
    exact ⟨ho _ d,z,ne,k _ _ (.inl rfl) e,mA,⟨od,es,ep,k _ _ (.inr d) e2,c⟩,r⟩
  | own y => obtain ⟨ob,e⟩:=x; exact ⟨ob,k _ _ (.inl rfl) e⟩
  | xd fs => obtain ⟨mA,⟨od,es,ep,e,c⟩,r⟩:=x; exact ⟨mA,⟨od,es,ep,k _ _ (.inl rfl) e,c⟩,r⟩
  | rng lo hi => obtain ⟨t,u,v,e⟩:=x; exact ⟨t,u,v,k _ _ (.inl rfl) e⟩
  | frz ob u ih => obtain ⟨e,q⟩:=x; exact ⟨k _ _ (.inl rfl) e,ih q⟩
  | tbl ps =>
    have e : h.get? a = some { cls:=.none,data:=.fields ps }:=x
    show h'.get? a = some { cls:=.none,data:=.fields ps }
    exact k a _ (.inl rfl) e
  | met f y =>
    have e : h.get? a = some (PySem.W.methodObj (.ref f) (.ref y)):=x
    show h'.get? a = some (PySem.W.methodObj (.ref f) (.ref y))
    exact k a _ (.inl rfl) e
  | ext φ => obtain ⟨p,⟨o,e⟩,st⟩:=x; exact ⟨st _ _ p fun o q => k _ _ (.inl rfl) q,⟨o,k _ _ (.inl rfl) e⟩,st⟩
theorem HOk.lt (x : HOk P w H h) (e : H a = some o) : a < h.objs.size:=(x a o e).lt
theorem HOk.fresh (x : HOk P w H h) (e : h.objs.size ≤ a) : H a = none:=by
  cases q : H a with
  | none => rfl
  | some u => exact absurd (Nat.lt_of_lt_of_le (x.lt q) e) (Nat.lt_irrefl _)
theorem HOk.kept (x : HOk P w H h) (k : ∀ b u,h.get? b = some u → h'.get? b = some u) : HOk P w H h':=fun a o e =>
  (x a o e).stay (fun b u _ q => k b u q) (fun _ q => q) fun _ _ q => q
theorem HOk.laid (x : HOk P w H h) (k : ∀ b u,h.get? b = some u → h'.get? b = some u) (hp : h.objs.size ≤ a) (new : ObjOk P w (upd H a o) h' a o) : HOk P w (upd H a o) h':=fun b u e => by
  have hn:=x.fresh hp
  by_cases hb : b = a
  · subst hb; rw [upd_same] at e; cases e; exact new
  · rw [upd_ne hb] at e
    exact (x b u e).stay (fun c v _ q => k c v q) (fun c q => by rw [upd_ne (ne_of_none q hn)]; exact q) fun c xs q => by rw [upd_ne (ne_of_none q hn)]; exact q
end

def Rd (H : Hp) (a : Addr) (u : HO) : Prop:=H a = some u ∨ ∃ o,H a = some (.frz o u)
theorem Rd.of {H : Hp} {a : Addr} {u : HO} (h : H a = some u) : Rd H a u:=.inl h
theorem Rd.ok {P : Program} {w : World} {H : Hp} {h : Heap} {a : Addr} {u : HO} (r : Rd H a u) (x : HOk P w H h) : ObjOk P w H h a u:=by
  rcases r with r | ⟨o,r⟩
  · exact x a u r
  · obtain ⟨_,q⟩:=x a _ r
    exact q
def Mut : Option HO → Prop
  | some (.lst _) => True
  | some (.dK _) => True
  | some (.dT _) => True
  | some (.set _ _) => True
  | some (.ins _ _ _) => True
  | some (.ext _) => True
  | _ => False
section
variable {P : Program} {w : World} {H : Hp} {h h' : Heap} {x e : Addr} {o' : HO}
theorem HOk.write (ok : HOk P w H h) (mu : Mut (H x)) (he : e = x ∨ H e = some (.own x)) (k : ∀ b u,b ≠ e → h.get? b = some u → h'.get? b = some u) (heo : ∃ u,h'.get? e = some u)
    (new : ObjOk P w (upd H x o') h' x o') : HOk P w (upd H x o') h':=fun b u q => by
  have nown : ∀ c y,H c = some (.own y) → c ≠ x:=fun c y r z => by subst z; rw [r] at mu; exact mu
  have ntup : ∀ c xs,H c = some (.tup xs) → c ≠ x:=fun c xs r z => by subst z; rw [r] at mu; exact mu
  by_cases hb : b = x
  · subst hb; rw [upd_same] at q; cases q; exact new
  · rw [upd_ne hb] at q
    by_cases hbe : b = e
    · have q' : H b = some (.own x):=by
        rcases he with z | z
        · exact absurd (hbe.trans z) hb
        · rw [hbe]; exact z
      rw [q] at q'; cases q'
      obtain ⟨v,hv⟩:=heo
      exact ⟨v,by rw [hbe]; exact hv⟩
    · refine (ok b u q).stay (fun c v hc r => k c v ?_ r) (fun c r => by rw [upd_ne (nown c b r)]; exact r) fun c xs r => by rw [upd_ne (ntup c xs r)]; exact r
      rcases hc with rfl | hc
      · exact hbe
      · rintro rfl
        rcases he with z | z
        · exact nown c b hc z
        · rw [hc] at z; cases z; exact hb rfl
end

structure Un (fs ex : List Addr) (H H' : Hp) (h h' : Heap) : Prop where
  keep : ∀ b o,h.get? b = some o → H b = none → b ∉ fs → b ∉ ex → h'.get? b = some o
  slot : ∀ b o,h.get? b = some o → H b = none → b ∈ fs → b ∉ ex → ∃ sl,h'.get? b = some { o with slots:=sl }
  free : ∀ b o,h.get? b = some o → H b = none → b ∉ ex → H' b = none
  there : ∀ b o,h.get? b = some o → b ∉ ex → ∃ o',h'.get? b = some o'
  tups : ∀ b xs,H b = some (.tup xs) → H' b = some (.tup xs)
  frzs : ∀ b o u,H b = some (.frz o u) → H' b = some (.frz o u)
  tbls : ∀ b ps,H b = some (.tbl ps) → ∃ more,H' b = some (.tbl (ps ++ more))
section
variable {fs fs' ex ex' : List Addr} {H H1 H2 : Hp} {h h1 h2 h' : Heap} {a x e : Addr} {o : HO}
theorem Un.any (u : Un fs ex H H1 h h1) {b : Addr} {ob : Obj} (q : h.get? b = some ob) (n : H b = none) (hx : b ∉ ex) : ∃ sl,h1.get? b = some { ob with slots:=sl }:=by
  by_cases hb : b ∈ fs
  · exact u.slot b ob q n hb hx
  · exact ⟨ob.slots,u.keep b ob q n hb hx⟩
theorem Un.trans (a : Un fs ex H H1 h h1) (b : Un fs ex H1 H2 h1 h2) : Un fs ex H H2 h h2 where
  keep:=fun c ob q n hc hx => b.keep c ob (a.keep c ob q n hc hx) (a.free c ob q n hx) hc hx
  slot:=fun c ob q n hc hx => by
    obtain ⟨sl,e1⟩:=a.slot c ob q n hc hx
    obtain ⟨sl',e2⟩:=b.slot c _ e1 (a.free c ob q n hx) hc hx
    exact ⟨sl',e2⟩
  free:=fun c ob q n hx => by
    obtain ⟨o',e1⟩:=a.there c ob q hx
    exact b.free c o' e1 (a.free c ob q n hx) hx
  there:=fun c ob q hx => by
    obtain ⟨o',e1⟩:=a.there c ob q hx
    exact b.there c o' e1 hx
  tups:=fun c xs q => b.tups c xs (a.tups c xs q)
  frzs:=fun c ob xs q => b.frzs c ob xs (a.frzs c ob xs q)
  tbls:=fun c ps q => by
    obtain ⟨m1,e1⟩:=a.tbls c ps q
    obtain ⟨m2,e2⟩:=b.tbls c _ e1
    exact ⟨m1 ++ m2,by rw [e2,Array.append_assoc]⟩
theorem Un.kept (k : ∀ b u,h.get? b = some u → h'.get? b = some u) : Un fs ex H H h h' :=
  ⟨fun b ob q _ _ _ => k b ob q,fun b ob q _ _ _ => ⟨ob.slots,k b ob q⟩,fun _ _ _ n _ => n,fun b ob q _ => ⟨ob,k b ob q⟩,fun _ _ q => q,fun _ _ _ q => q,fun _ ps q => ⟨#[],by rw [q]; simp⟩⟩
theorem Un.refl : Un fs ex H H h h:=Un.kept fun _ _ q => q
theorem Un.laid (k : ∀ b u,h.get? b = some u → h'.get? b = some u) (hp : h.objs.size ≤ a) (hn : H a = none) : Un fs ex H (upd H a o) h h' where
  keep:=fun b u q _ _ _ => k b u q
  slot:=fun b u q _ _ _ => ⟨u.slots,k b u q⟩
  free:=fun b u q n _ => by rw [upd_ne (Nat.ne_of_lt (Nat.lt_of_lt_of_le (Heap.lt_size q) hp))]; exact n
  there:=fun b u q _ => ⟨u,k b u q⟩
  tups:=fun b xs q => by rw [upd_ne (ne_of_none q hn)]; exact q
  frzs:=fun b u xs q => by rw [upd_ne (ne_of_none q hn)]; exact q
  tbls:=fun b ps q => ⟨#[],by rw [upd_ne (ne_of_none q hn),q]; simp⟩
theorem Un.write (mu : Mut (H x)) (he : e = x ∨ H e = some (.own x)) (k : ∀ b u,b ≠ e → h.get? b = some u → h'.get? b = some u) (heo : ∃ u,h'.get? e = some u) : Un fs ex H (upd H x o) h h':=by
  have hx : ∀ b,H b = none → b ≠ x:=fun b n z => by subst z; rw [n] at mu; exact mu
  have hb : ∀ b,H b = none → b ≠ e:=fun b n z => by
    subst z
    rcases he with r | r
    · exact hx b n r
    · rw [n] at r; cases r
  have hm : ∀ b u,H b = some u → ¬ Mut (some u) → b ≠ x:=fun b u q nm z => by subst z; rw [q] at mu; exact nm mu
  refine ⟨fun b u q n _ _ => k b u (hb b n) q,fun b u q n _ _ => ⟨u.slots,k b u (hb b n) q⟩,fun b u q n _ => by rw [upd_ne (hx b n)]; exact n,fun b u q _ => ?_,
    fun b xs q => by rw [upd_ne (hm b _ q fun z => z)]; exact q,fun b u xs q => by rw [upd_ne (hm b _ q fun z => z)]; exact q,fun b ps q => ⟨#[],by rw [upd_ne (hm b _ q fun z => z),q]; simp⟩⟩
  by_cases hbe : b = e
  · subst hbe; exact heo
  · exact ⟨u,k b u hbe q⟩
theorem Un.mono (u : Un fs ex H H1 h h1) (hs : ∀ b ∈ fs,b ∈ fs') (hx : ∀ b ∈ ex,b ∈ ex') : Un fs' ex' H H1 h h1 :=
  ⟨fun b ob q n hb he => u.keep b ob q n (fun z => hb (hs b z)) fun z => he (hx b z),fun _ _ q n _ he => u.any q n fun z => he (hx _ z),fun b ob q n he => u.free b ob q n fun z => he (hx b z),fun b ob q he => u.there b ob q fun z => he (hx b z),u.tups,u.frzs,u.tbls⟩
end

def trk (h : Heap) (H : Hp) : List Addr:=(List.range h.objs.size).filter fun a => (H a).isSome
def hidT (h : Heap) (H : Hp) : Heap:=PySem.W.hideAll h (trk h H)
theorem hidT_size (h : Heap) (H : Hp) : (hidT h H).objs.size = h.objs.size:=PySem.W.hideAll_size _ _
theorem hidT_get {h : Heap} {H : Hp} {b : Addr} {o : Obj} (e : h.get? b = some o) (n : H b = none) : (hidT h H).get? b = some o :=
  PySem.W.hideAll_get _ e fun hm => by
    have q : (H b).isSome = true:=(List.mem_filter.mp hm).2
    rw [n] at q; simp at q
theorem of_hidT {h : Heap} {H : Hp} {b : Addr} {o : Obj} (e : (hidT h H).get? b = some o) : h.get? b = some o ∧ H b = none:=by
  have e' : h.get? b = some o:=PySem.W.of_hideAll (trk h H) e
  refine ⟨e',?_⟩
  cases q : H b with
  | none => rfl
  | some x =>
    have hm : b ∈ trk h H:=List.mem_filter.mpr ⟨List.mem_range.mpr (Heap.lt_size e'),by simp [q]⟩
    have z : (hidT h H).get? b = none:=PySem.W.hideAll_none (trk h H) hm
    rw [z] at e; cases e

def allNews (g h : Heap) (L : Addr) : List (Addr × Obj):=(List.range h.objs.size).filterMap fun a => if a = L ∨ (g.get? a).isSome = true then none else (h.get? a).map fun o => (a,o)
def rest (g h : Heap) (L d : Addr) : List (Addr × Obj):=(allNews g h L).filter fun p => decide (p.1 ≠ d)
end L2

namespace L2
open PySem PySem.Spec PyProof.Rows

structure Mod (K : PySem.W.Frag) (mg : Str → Option Value) (base : Heap) : Prop where
  kin : K.In base
  glob : base.Ns mainGlobals mg
  blt : ∃ mb,base.Ns builtinsNs mb ∧ ∀ x : Str,x ≠ "__name__" → mb x = bootBuiltins x
  nolimit : base.NoLimit

structure Cx where
  prog : Program
  w : World
  K : PySem.W.Frag
  mg : Str → Option Value
  base : Heap
  A : Around
  N : List Str
  s₀ : Shared
  H₀ : Hp
  env : Env
  outer : List Env
  stack : List Env
  ex : List Addr
  fn : Str → Bool
  calm : Bool
  pn : List (Addr × Obj)
  xe : Value → Shared → Prop
def frs (l : List Env) : List Addr:=l.filterMap (·.frame)
abbrev Cx.fs (X : Cx) : List Addr:=frs X.outer

def Vis (sc : Scope) (x : Str) : Prop:=sc.names.lookup x = some .local ∨ sc.names.lookup x = some .cell ∨ sc.names.lookup x = some .free
def Loc (sc : Scope) (x : Str) : Prop:=sc.names.lookup x = some .local ∨ sc.names.lookup x = some .cell
def Look (env : Env) (h : Heap) (m : Str → Option Value) (x : Str) (u : Value) : Prop :=
  (env.kindOf x = some .local ∧ m x = some u) ∨ ((env.kindOf x = some .cell ∨ env.kindOf x = some .free) ∧ ∃ c,env.cells.lookup x = some c ∧ h.IsCell c (some u))

structure Cx.Ok (X : Cx) : Prop where
  mod : Mod X.K X.mg X.base
  kind : X.env.scope.kind = .function
  glob : X.env.globals = mainGlobals
  blt : X.env.builtins = builtinsNs
  above : X.s₀.heap.objs.size ≤ X.env.locals
  inj : ∀ x y c,X.env.cells.lookup x = some c → X.env.cells.lookup y = some c → x = y
  has : ∀ x,(X.env.kindOf x = some .cell ∨ X.env.kindOf x = some .free) → ∃ c,X.env.cells.lookup x = some c
  cab : ∀ x c,X.fn x = true → X.env.cells.lookup x = some c → X.s₀.heap.objs.size ≤ c
  hd : X.calm = true → X.A.handled = none
  frames : X.A.frames = some X.stack
  stk : X.stack = X.outer ∨ (X.stack = X.env :: X.outer ∧ X.env.frame = some X.env.locals)
  exf : ∀ b ∈ X.ex,b ≠ X.env.locals ∧ ∀ x c,X.env.cells.lookup x = some c → c ≠ b
  bs : ∀ b o,X.base.get? b = some o → X.s₀.heap.get? b = some o ∧ X.H₀ b = none
  bsz : X.base.objs.size ≤ X.s₀.heap.objs.size
  noex : ∀ b o,X.base.get? b = some o → b ∉ X.ex
  exfs : ∀ b ∈ X.ex,b ∉ X.fs
  funs : X.s₀.heap.FunFrames X.base X.outer
  frf : ∀ b ∈ X.fs,X.H₀ b = none

structure Inv (X : Cx) (pins : List (Addr × Obj)) (σ : List (Option V)) (H : Hp) (s : Shared) : Prop where
  ok : X.Ok
  os : s.os = X.s₀.os
  bare : AllBare s.gens
  base : Un X.fs X.ex X.H₀ H X.s₀.heap s.heap
  loc : ∃ m,s.heap.Ns X.env.locals m ∧ ∀ (i : Nat) (x : Str) (v : V),X.N[i]? = some x → σ[i]? = some (some v) → Vis X.env.scope x → ∃ u,RelV v u ∧ Look X.env s.heap m x u
  cell : ∀ x c,X.env.cells.lookup x = some c → ∃ v,s.heap.IsCell c v
  free : H X.env.locals = none
  freeC : ∀ x c,X.env.cells.lookup x = some c → H c = none
  pin : ∀ p ∈ X.pn ++ pins,s.heap.get? p.1 = some p.2 ∧ H p.1 = none ∧ p.1 ≠ X.env.locals ∧ p.1 ∉ X.fs ∧ ∀ v,p.2.data ≠ .cell v
  hok : HOk X.prog X.w H s.heap
  len : σ.length = X.N.length

section
variable {X : Cx} {pins : List (Addr × Obj)} {σ : List (Option V)} {H H' : Hp} {s : Shared} {h' : Heap}

theorem Cx.Ok.nofr (ok : X.Ok) {b : Addr} {o : Obj} (e : X.base.get? b = some o) : b ∉ X.fs:=fun hb => by
  have:=(ok.funs.mem hb).1
  rw [e] at this; cases this
theorem Inv.bs (I : Inv X pins σ H s) : ∀ b o,X.base.get? b = some o → s.heap.get? b = some o ∧ H b = none:=fun b o e =>
  ⟨I.base.keep b o (I.ok.bs b o e).1 (I.ok.bs b o e).2 (I.ok.nofr e) (I.ok.noex b o e),I.base.free b o (I.ok.bs b o e).1 (I.ok.bs b o e).2 (I.ok.noex b o e)⟩
theorem Inv.bk (I : Inv X pins σ H s) : ∀ b o,X.base.get? b = some o → s.heap.get? b = some o:=fun b o e => (I.bs b o e).1
theorem Inv.mod (I : Inv X pins σ H s) : Mod X.K X.mg X.base:=I.ok.mod
theorem Inv.kIn (I : Inv X pins σ H s) : X.K.In s.heap:=I.ok.mod.kin.keeps I.bk
theorem Inv.nolimit (I : Inv X pins σ H s) : s.heap.NoLimit:=I.ok.mod.nolimit.keeps I.bk
theorem Inv.fr (I : Inv X pins σ H s) : ∃ m,Fr X.base X.env.locals s.heap m :=
  let ⟨m,hn,_⟩:=I.loc
  ⟨m,hn,I.bk,Nat.le_trans I.ok.bsz I.ok.above⟩
theorem Inv.lt (I : Inv X pins σ H s) : X.env.locals < s.heap.objs.size:=let ⟨_,hn,_⟩:=I.loc; hn.lt
theorem Inv.sz (I : Inv X pins σ H s) : X.s₀.heap.objs.size ≤ s.heap.objs.size:=Nat.le_trans I.ok.above (Nat.le_of_lt I.lt)
theorem Inv.nofs (I : Inv X pins σ H s) {a : Addr} (h : s.heap.objs.size ≤ a) : a ∉ X.fs:=fun hb => by
  obtain ⟨_,o,ho,_⟩:=I.ok.funs.mem hb
  exact absurd (Nat.lt_of_lt_of_le (Heap.lt_size ho) (Nat.le_trans I.sz h)) (Nat.lt_irrefl _)
theorem Inv.cne (I : Inv X pins σ H s) : ∀ x c,X.env.cells.lookup x = some c → c ≠ X.env.locals:=fun x c e z => by
  obtain ⟨v,o,ho,hd⟩:=I.cell x c e
  obtain ⟨m,⟨o',es,ep,ho',hd',_⟩,_⟩:=I.loc
  rw [z,ho'] at ho; cases ho; rw [hd'] at hd; cases hd
theorem Inv.funs (I : Inv X pins σ H s) : s.heap.FunFrames X.base X.outer:=by
  have all : ∀ (l : List Env),(∀ b ∈ frs l,b ∈ X.fs) → X.s₀.heap.FunFrames X.base l → s.heap.FunFrames X.base l:=by
    intro l
    induction l with
    | nil => intro _ _; trivial
    | cons env r ih =>
      intro hs hl
      obtain ⟨hk,⟨L,o,hf,hn,ho,hd⟩,hr⟩:=hl
      have hL : L ∈ X.fs:=hs L (by unfold frs; rw [List.filterMap_cons,hf]; exact List.mem_cons_self)
      obtain ⟨sl,e⟩:=I.base.slot L o ho (I.ok.frf L hL) hL fun z => I.ok.exfs L z hL
      exact ⟨hk,⟨L,_,hf,hn,e,hd⟩,ih (fun b hb => hs b (by unfold frs; rw [List.filterMap_cons,hf]; exact List.mem_cons_of_mem _ hb)) hr⟩
  exact all X.outer (fun _ hb => hb) I.ok.funs

theorem Inv.stack (I : Inv X pins σ H s) : s.heap.FunFrames X.base X.stack:=by
  rcases I.ok.stk with e | ⟨e,hf⟩
  · rw [e]; exact I.funs
  · rw [e]
    obtain ⟨m,hn,_⟩:=I.loc
    refine .cons (by rw [I.ok.kind]; decide) hf hn ?_ I.funs
    exact Heap.get?_none_of_le (Nat.le_trans I.ok.bsz I.ok.above)
theorem Inv.stkSub (I : Inv X pins σ H s) : ∀ b ∈ frs X.stack,b ∈ X.env.locals :: X.fs:=fun b hb => by
  rcases I.ok.stk with e | ⟨e,hf⟩
  · rw [e] at hb; exact List.mem_cons_of_mem _ hb
  · rw [e] at hb
    unfold frs at hb
    rw [List.filterMap_cons,hf] at hb
    exact hb
theorem Inv.stkFree (I : Inv X pins σ H s) : ∀ b ∈ frs X.stack,H b = none:=fun b hb => by
  rcases List.mem_cons.mp (I.stkSub b hb) with e | hb
  · rw [e]; exact I.free
  · obtain ⟨_,o,ho,_⟩:=I.ok.funs.mem hb
    exact I.base.free b o ho (I.ok.frf b hb) fun z => I.ok.exfs b z hb

theorem Inv.step {g' : Array GenState} {t' : Nat} {d' : Drawn} {ch : List Addr} (I : Inv X pins σ H s)
    (hch : ∀ b ∈ ch,(b ∈ X.ex ∨ X.s₀.heap.objs.size ≤ b) ∧ b ≠ X.env.locals ∧ (∀ x c,X.env.cells.lookup x = some c → c ≠ b) ∧ ∀ p ∈ X.pn ++ pins,p.1 ≠ b)
    (keep : ∀ b o,b ≠ X.env.locals → b ∉ X.fs → b ∉ ch → s.heap.get? b = some o → H b = none → h'.get? b = some o)
    (slot : ∀ b o,b ≠ X.env.locals → b ∈ X.fs → b ∉ ch → s.heap.get? b = some o → H b = none → ∃ sl,h'.get? b = some { o with slots:=sl }) (free : ∀ b o,b ∉ ch → s.heap.get? b = some o → H b = none → H' b = none)
    (there : ∀ b o,b ∉ ch → s.heap.get? b = some o → ∃ o',h'.get? b = some o')
    (tups : ∀ b xs,H b = some (.tup xs) → H' b = some (.tup xs)) (frzs : ∀ b o u,H b = some (.frz o u) → H' b = some (.frz o u)) (tbls : ∀ b ps,H b = some (.tbl ps) → ∃ more,H' b = some (.tbl (ps ++ more)))
    (ns : ∀ m,s.heap.Ns X.env.locals m → h'.Ns X.env.locals m) (hok : HOk X.prog X.w H' h') (hg : AllBare g') :
    Inv X pins σ H' { s with heap:=h',gens:=g',drawn:=d',toks:=t' }:=by
  have neL : ∀ b o,X.s₀.heap.get? b = some o → b ≠ X.env.locals:=fun b o e => Nat.ne_of_lt (Nat.lt_of_lt_of_le (Heap.lt_size e) I.ok.above)
  have neC : ∀ b o,X.s₀.heap.get? b = some o → b ∉ X.ex → b ∉ ch:=fun b o e hx hb => by
    rcases (hch b hb).1 with z | z
    · exact hx z
    · exact absurd (Nat.lt_of_lt_of_le (Heap.lt_size e) z) (Nat.lt_irrefl _)
  have cellK : ∀ x c,X.env.cells.lookup x = some c → ∀ v,s.heap.IsCell c v → h'.IsCell c v:=fun x c e v ⟨o,ho,hd⟩ => by
    have nch : c ∉ ch:=fun z => (hch c z).2.2.1 x c e rfl
    by_cases hc : c ∈ X.fs
    · obtain ⟨sl,q⟩:=slot c o (I.cne x c e) hc nch ho (I.freeC x c e)
      exact ⟨_,q,hd⟩
    · exact ⟨o,keep c o (I.cne x c e) hc nch ho (I.freeC x c e),hd⟩
  refine ⟨I.ok,I.os,hg,⟨fun b o e n hb hx => ?_,fun b o e n hb hx => ?_,fun b o e n hx => ?_,fun b o e hx => ?_,fun b xs e => tups b xs (I.base.tups b xs e),fun b o xs e => frzs b o xs (I.base.frzs b o xs e),fun b ps e => ?_⟩,?_,fun x c e => ?_,?_,fun x c e => ?_,fun p hp => ?_,hok,I.len⟩
  · exact keep b o (neL b o e) hb (neC b o e hx) (I.base.keep b o e n hb hx) (I.base.free b o e n hx)
  · obtain ⟨sl,e1⟩:=I.base.slot b o e n hb hx
    obtain ⟨sl',e2⟩:=slot b _ (neL b o e) hb (neC b o e hx) e1 (I.base.free b o e n hx)
    exact ⟨sl',e2⟩
  · obtain ⟨o',e1⟩:=I.base.there b o e hx
    exact free b o' (neC b o e hx) e1 (I.base.free b o e n hx)
  · obtain ⟨o',e1⟩:=I.base.there b o e hx
    exact there b o' (neC b o e hx) e1
  · obtain ⟨m1,e1⟩:=I.base.tbls b ps e
    obtain ⟨m2,e2⟩:=tbls b _ e1
    exact ⟨m1 ++ m2,by rw [e2,Array.append_assoc]⟩
  · obtain ⟨m,hn,hl⟩:=I.loc
    refine ⟨m,ns m hn,fun i x v e1 e2 e3 => ?_⟩
    obtain ⟨u,r,l⟩:=hl i x v e1 e2 e3
    refine ⟨u,r,?_⟩
    rcases l with l | ⟨k,c,e,z⟩
    · exact .inl l
    · exact .inr ⟨k,c,e,cellK x c e _ z⟩
  · obtain ⟨v,z⟩:=I.cell x c e
    exact ⟨v,cellK x c e v z⟩
  · obtain ⟨m,⟨o,_,_,ho,_⟩,_⟩:=I.loc
    exact free _ o (fun z => (hch _ z).2.1 rfl) ho I.free
  · obtain ⟨v,o,ho,hd⟩:=I.cell x c e
    exact free c o (fun z => (hch c z).2.2.1 x c e rfl) ho (I.freeC x c e)
  · obtain ⟨e,n,ne,nf,d⟩:=I.pin p hp
    have nch : p.1 ∉ ch:=fun z => (hch p.1 z).2.2.2 p hp rfl
    exact ⟨keep p.1 p.2 ne nf nch e n,free p.1 p.2 nch e n,ne,nf,d⟩
theorem Inv.un {t' : Nat} (I : Inv X pins σ H s) (u : Un X.fs [] H H' s.heap h') (hok : HOk X.prog X.w H' h') : Inv X pins σ H' { s with heap:=h',toks:=t' }:=by
  obtain ⟨m,⟨o,es,ep,ho,r⟩,_⟩:=id I.loc
  obtain ⟨sl,hL⟩:=u.any ho I.free (by simp)
  exact I.step (g':=s.gens) (d':=s.drawn) (ch:=[]) (fun _ z => nomatch z) (fun b o _ hb _ e n => u.keep b o e n hb (by simp)) (fun b o _ hb _ e n => u.slot b o e n hb (by simp)) (fun b o _ e n => u.free b o e n (by simp)) (fun b o _ e => u.there b o e (by simp)) u.tups u.frzs u.tbls (fun m' hm => by
    obtain ⟨o',es',ep',ho',r'⟩:=hm
    rw [ho] at ho'; cases ho'
    exact ⟨_,es',ep',hL,r'⟩) hok I.bare
theorem Inv.call {g' : Array GenState} {t' : Nat} {d' : Drawn} {ch : List Addr} (I : Inv X pins σ H s) (u : Un (frs X.stack) ch H H' s.heap h') (hok : HOk X.prog X.w H' h') (hg : AllBare g')
    (hch : ∀ b ∈ ch,(b ∈ X.ex ∨ X.s₀.heap.objs.size ≤ b) ∧ b ≠ X.env.locals ∧ (∀ x c,X.env.cells.lookup x = some c → c ≠ b) ∧ ∀ p ∈ X.pn ++ pins,p.1 ≠ b) :
    Inv X pins σ H' { s with heap:=h',gens:=g',drawn:=d',toks:=t' }:=by
  obtain ⟨m,⟨o,es,ep,ho,r⟩,_⟩:=id I.loc
  obtain ⟨sl,hL⟩:=u.any ho I.free fun z => (hch _ z).2.1 rfl
  exact I.step (ch:=ch) hch (fun b o hL hb hc e n => u.keep b o e n (fun z => (List.mem_cons.mp (I.stkSub b z)).elim hL hb) hc) (fun b o _ _ hc e n => u.any e n hc) (fun b o hc e n => u.free b o e n hc) (fun b o hc e => u.there b o e hc) u.tups u.frzs u.tbls (fun m' hm => by
    obtain ⟨o',es',ep',ho',r'⟩:=hm
    rw [ho] at ho'; cases ho'
    exact ⟨_,es',ep',hL,r'⟩) hok hg
theorem Inv.turned {t' : Nat} {it : Addr} (I : Inv X pins σ H s) (k : ∀ b o,b ≠ it → s.heap.get? b = some o → h'.get? b = some o) (hn : H it = none) (hL : it ≠ X.env.locals)
    (h1 : it ∈ X.ex ∨ X.s₀.heap.objs.size ≤ it) (h2 : ∀ x c,X.env.cells.lookup x = some c → c ≠ it) (h3 : ∀ p ∈ X.pn ++ pins,p.1 ≠ it) : Inv X pins σ H { s with heap:=h',toks:=t' }:=by
  have nit : ∀ b u,H b = some u → b ≠ it:=fun b u e z => by rw [z,hn] at e; cases e
  refine I.step (g':=s.gens) (d':=s.drawn) (ch:=[it]) (fun b hb => ?_) (fun b o _ _ hc e _ => k b o (fun z => hc (by simp [z])) e) (fun b o _ _ hc e _ => ⟨o.slots,k b o (fun z => hc (by simp [z])) e⟩) (fun _ _ _ _ n => n)
    (fun b o hc e => ⟨o,k b o (fun z => hc (by simp [z])) e⟩) (fun _ _ e => e) (fun _ _ _ e => e) (fun b ps e => ⟨#[],by rw [e]; simp⟩) (fun m hm => ?_) (fun b u e => ?_) I.bare
  · have e : b = it:=by simpa using hb
    subst e
    exact ⟨h1,hL,h2,h3⟩
  · obtain ⟨o,es,ep,ho,r⟩:=hm
    exact ⟨o,es,ep,k _ o (Ne.symm hL) ho,r⟩
  · refine (I.hok b u e).stay (fun c v hc q => k c v ?_ q) (fun _ q => q) fun _ _ q => q
    rcases hc with z | z
    · rw [z]; exact nit b u e
    · exact nit c _ z
theorem Inv.tok (I : Inv X pins σ H s) (t : Nat) : Inv X pins σ H { s with toks:=t }:=I.un (h':=s.heap) (t':=t) Un.refl I.hok
theorem Inv.kept {t' : Nat} (I : Inv X pins σ H s) (k : ∀ b u,s.heap.get? b = some u → h'.get? b = some u) : Inv X pins σ H { s with heap:=h',toks:=t' }:=I.un (Un.kept k) (I.hok.kept k)
theorem Inv.laid {a : Addr} {o : HO} {t' : Nat} (I : Inv X pins σ H s) (k : ∀ b u,s.heap.get? b = some u → h'.get? b = some u) (hp : s.heap.objs.size ≤ a) (new : ObjOk X.prog X.w (upd H a o) h' a o) :
    Inv X pins σ (upd H a o) { s with heap:=h',toks:=t' }:=I.un (Un.laid k hp (I.hok.fresh hp)) (I.hok.laid k hp new)
theorem Inv.write {x e : Addr} {o : HO} {t' : Nat} (I : Inv X pins σ H s) (mu : Mut (H x)) (he : e = x ∨ H e = some (.own x)) (k : ∀ b u,b ≠ e → s.heap.get? b = some u → h'.get? b = some u) (heo : ∃ u,h'.get? e = some u)
    (new : ObjOk X.prog X.w (upd H x o) h' x o) : Inv X pins σ (upd H x o) { s with heap:=h',toks:=t' }:=I.un (Un.write mu he k heo) (I.hok.write mu he k heo new)
theorem Inv.weak {σ' : List (Option V)} (I : Inv X pins σ H s) (hl : σ'.length = σ.length) (w : ∀ (i : Nat) v,σ'[i]? = some (some v) → σ[i]? = some (some v)) : Inv X pins σ' H s :=
  ⟨I.ok,I.os,I.bare,I.base,let ⟨m,hn,hl'⟩:=I.loc; ⟨m,hn,fun i x v e1 e2 e3 => hl' i x v e1 (w i v e2) e3⟩,I.cell,I.free,I.freeC,I.pin,I.hok,hl.trans I.len⟩
theorem Inv.pins_of {pins' : List (Addr × Obj)} (I : Inv X pins σ H s) (h : ∀ p ∈ pins',s.heap.get? p.1 = some p.2 ∧ H p.1 = none ∧ p.1 ≠ X.env.locals ∧ p.1 ∉ X.fs ∧ ∀ v,p.2.data ≠ .cell v) : Inv X pins' σ H s :=
  ⟨I.ok,I.os,I.bare,I.base,I.loc,I.cell,I.free,I.freeC,fun p hp => (List.mem_append.mp hp).elim (fun z => I.pin p (List.mem_append_left _ z)) (h p),I.hok,I.len⟩

theorem nodup_ix {N : List Str} (hN : N.Nodup) {i j : Nat} {x : Str} (a : N[i]? = some x) (b : N[j]? = some x) : i = j:=by
  obtain ⟨h1,e1⟩:=List.getElem?_eq_some_iff.mp a
  obtain ⟨h2,e2⟩:=List.getElem?_eq_some_iff.mp b
  exact (List.getElem_inj hN).mp (e1.trans e2.symm)

theorem store_ok2 {M : Model} {A : Around} {E : Value → Shared → Prop} {i : Nat} {x : Str} {v : V} {u : Value} {Q : Unit → Shared → Prop} (I : Inv X pins σ H s) (hN : X.N.Nodup) (hi : X.N[i]? = some x) (hx : Loc X.env.scope x) (r : RelV v u)
    (h : ∀ s',Inv X pins (σ.set i (some v)) H s' → (∃ a,Heap.SameBut a s.heap s'.heap ∧ (a = X.env.locals ∨ X.env.cells.lookup x = some a)) → Q () s') (hf : X.fn x = true ∨ X.env.scope.names.lookup x = some .local:=by first | exact .inl rfl | exact .inr rfl | assumption) : wpAny M A (storeName X.env x u) Q E s:=by
  obtain ⟨m,hn,hl⟩:=id I.loc
  have hcls : (X.env.scope.kind == .class || (X.env.scope.kind == .module && X.env.locals != X.env.globals)) = false:=by rw [I.ok.kind]; rfl
  have hiσ : i < σ.length:=by rw [I.len]; exact (List.getElem?_eq_some_iff.mp hi).1
  have cne:=I.cne
  have tracked : ∀ {a : Addr} {h' : Heap},(∃ o,s.heap.get? a = some o ∧ H a = none) → Heap.SameBut a s.heap h' → HOk X.prog X.w H h':=fun {a h'} ha hs b ob e => by
    obtain ⟨_,_,hfree⟩:=ha
    refine (I.hok b ob e).stay (fun c w' hc q => (hs.2 c ?_).trans q) (fun _ q => q) fun _ _ q => q
    rintro rfl
    rcases hc with rfl | hc
    · rw [hfree] at e; cases e
    · rw [hfree] at hc; cases hc
  rcases hx with hk | hk
  · refine wpAny_storeName_local hk hn (fun h' hn' hs => ?_) hcls
    obtain ⟨oL,_,_,hoL,_⟩:=id hn
    refine h _ ⟨I.ok,I.os,I.bare,⟨fun b o e n hb hx => ?_,fun b o e n hb hx => ?_,I.base.free,fun b o e hx => ?_,I.base.tups,I.base.frzs,I.base.tbls⟩,⟨_,hn',fun j y v' e1 e2 e3 => ?_⟩,fun y c e => ?_,I.free,I.freeC,fun p hp => ?_,tracked ⟨oL,hoL,I.free⟩ hs,by simpa using I.len⟩ ⟨_,hs,.inl rfl⟩
    · exact (hs.2 b (Nat.ne_of_lt (Nat.lt_of_lt_of_le (Heap.lt_size e) I.ok.above))).trans (I.base.keep b o e n hb hx)
    · obtain ⟨sl,e1⟩:=I.base.slot b o e n hb hx
      exact ⟨sl,(hs.2 b (Nat.ne_of_lt (Nat.lt_of_lt_of_le (Heap.lt_size e) I.ok.above))).trans e1⟩
    · obtain ⟨o',e1⟩:=I.base.there b o e hx
      exact ⟨o',(hs.2 b (Nat.ne_of_lt (Nat.lt_of_lt_of_le (Heap.lt_size e) I.ok.above))).trans e1⟩
    · by_cases hj : j = i
      · subst hj
        rw [hi] at e1; cases e1
        rw [List.getElem?_set_self hiσ] at e2
        cases e2
        exact ⟨u,r,.inl ⟨hk,by simp⟩⟩
      · rw [List.getElem?_set_ne (Ne.symm hj)] at e2
        obtain ⟨u',r',q⟩:=hl j y v' e1 e2 e3
        refine ⟨u',r',?_⟩
        rcases q with ⟨k,e⟩ | ⟨k,c,e,z⟩
        · refine .inl ⟨k,?_⟩
          have : y ≠ x:=fun e => hj (nodup_ix hN e1 (e ▸ hi))
          simp [this,e]
        · exact .inr ⟨k,c,e,z.sameBut hs (cne y c e)⟩
    · obtain ⟨w',z⟩:=I.cell y c e
      exact ⟨w',z.sameBut hs (cne y c e)⟩
    · obtain ⟨e,n,ne,nf,d⟩:=I.pin p hp
      exact ⟨(hs.2 p.1 ne).trans e,n,ne,nf,d⟩
  · have hfn : X.fn x = true:=by
      rcases hf with z | z
      · exact z
      · rw [z] at hk; cases hk
    obtain ⟨c,hc⟩:=I.ok.has x (.inl hk)
    obtain ⟨w',z⟩:=I.cell x c hc
    refine wpAny_storeName_cell I.ok.kind hk hc z (fun h' hc' hs => ?_)
    obtain ⟨oc,hoc,hocd⟩:=id z
    refine h { s with heap:=h' } ⟨I.ok,I.os,I.bare,⟨fun b o e n hb hx => ?_,fun b o e n hb hx => ?_,I.base.free,fun b o e hx => ?_,I.base.tups,I.base.frzs,I.base.tbls⟩,⟨m,hn.sameBut hs (Ne.symm (cne x c hc)),fun j y v' e1 e2 e3 => ?_⟩,fun y c' e => ?_,I.free,I.freeC,fun p hp => ?_,tracked ⟨oc,hoc,I.freeC x c hc⟩ hs,by simpa using I.len⟩ ⟨c,hs,.inr hc⟩
    · exact (hs.2 b (Nat.ne_of_lt (Nat.lt_of_lt_of_le (Heap.lt_size e) (I.ok.cab x c hfn hc)))).trans (I.base.keep b o e n hb hx)
    · obtain ⟨sl,e1⟩:=I.base.slot b o e n hb hx
      exact ⟨sl,(hs.2 b (Nat.ne_of_lt (Nat.lt_of_lt_of_le (Heap.lt_size e) (I.ok.cab x c hfn hc)))).trans e1⟩
    · obtain ⟨o',e1⟩:=I.base.there b o e hx
      exact ⟨o',(hs.2 b (Nat.ne_of_lt (Nat.lt_of_lt_of_le (Heap.lt_size e) (I.ok.cab x c hfn hc)))).trans e1⟩
    · by_cases hj : j = i
      · subst hj
        rw [hi] at e1; cases e1
        rw [List.getElem?_set_self hiσ] at e2
        cases e2
        exact ⟨u,r,.inr ⟨.inl hk,c,hc,hc'⟩⟩
      · rw [List.getElem?_set_ne (Ne.symm hj)] at e2
        obtain ⟨u',r',q⟩:=hl j y v' e1 e2 e3
        refine ⟨u',r',?_⟩
        rcases q with q | ⟨k,c',e,z'⟩
        · exact .inl q
        · refine .inr ⟨k,c',e,z'.sameBut hs ?_⟩
          rintro rfl
          exact hj (nodup_ix hN e1 (I.ok.inj _ _ _ e hc ▸ hi))
    · by_cases hcc : c' = c
      · subst hcc; exact ⟨_,hc'⟩
      · obtain ⟨w2,z2⟩:=I.cell y c' e
        exact ⟨w2,z2.sameBut hs hcc⟩
    · obtain ⟨e,n,ne,nf,d⟩:=I.pin p hp
      refine ⟨(hs.2 p.1 ?_).trans e,n,ne,nf,d⟩
      intro q
      rw [q,hoc] at e
      have q' : oc = p.2:=Option.some.inj e
      exact d w' (by rw [← q']; exact hocd)
theorem store_ok {M : Model} {A : Around} {E : Value → Shared → Prop} {i : Nat} {x : Str} {v : V} {u : Value} {Q : Unit → Shared → Prop} (I : Inv X pins σ H s) (hN : X.N.Nodup) (hi : X.N[i]? = some x) (hx : Loc X.env.scope x) (r : RelV v u)
    (h : ∀ s',Inv X pins (σ.set i (some v)) H s' → Q () s') (hf : X.fn x = true ∨ X.env.scope.names.lookup x = some .local:=by first | exact .inl rfl | exact .inr rfl | assumption) : wpAny M A (storeName X.env x u) Q E s :=
  store_ok2 I hN hi hx r (fun s' I' _ => h s' I') hf
theorem Inv.call' {s' : Shared} {ch : List Addr} (I : Inv X pins σ H s) (ho : s'.os = s.os) (u : Un (frs X.stack) ch H H' s.heap s'.heap) (hok : HOk X.prog X.w H' s'.heap) (hg : AllBare s'.gens)
    (hch : ∀ b ∈ ch,(b ∈ X.ex ∨ X.s₀.heap.objs.size ≤ b) ∧ b ≠ X.env.locals ∧ (∀ x c,X.env.cells.lookup x = some c → c ≠ b) ∧ ∀ p ∈ X.pn ++ pins,p.1 ≠ b) : Inv X pins σ H' s':=by
  obtain ⟨h',g',d',t',o'⟩:=s'
  have e : o' = s.os:=ho
  subst e
  exact I.call (g':=g') (t':=t') (d':=d') u hok hg hch
end

abbrev XK:=Value → Option Addr → Hp → Prop
abbrev St:=List (Option V)
abbrev VK:=V → Hp → Prop
abbrev TE:=St → Hp → VK → Prop
abbrev TT:=St → Hp → (Bool → Hp → Prop) → Prop
abbrev TA:=St → Hp → (List V → Hp → Prop) → Prop
structure Ends where
  nx : St → Hp → Prop
  rt : VK
  bk : St → Hp → Prop:=fun _ _ => False
  ct : St → Hp → Prop:=fun _ _ => False
abbrev TS:=Ends → St → Hp → Prop

def EP (X : Cx) (pins : List (Addr × Obj)) (σ : St) (Q : VK) (u : Value) (s' : Shared) : Prop:=∃ v H',Inv X pins σ H' s' ∧ RelV v u ∧ Q v H'
def TP (X : Cx) (pins : List (Addr × Obj)) (σ : St) (Q : Bool → Hp → Prop) (b : Bool) (s' : Shared) : Prop:=∃ H',Inv X pins σ H' s' ∧ Q b H'
def AP (X : Cx) (pins : List (Addr × Obj)) (σ : St) (Q : List V → Hp → Prop) (us : List Value) (s' : Shared) : Prop:=∃ vs H',Inv X pins σ H' s' ∧ Vals vs us ∧ Q vs H'
def SP (X : Cx) (pins : List (Addr × Obj)) (D : Ends) (f : Flow) (s' : Shared) : Prop :=
  match f with
  | .next => ∃ σ' H',Inv X pins σ' H' s' ∧ D.nx σ' H'
  | .brk => ∃ σ' H',Inv X pins σ' H' s' ∧ D.bk σ' H'
  | .cont => ∃ σ' H',Inv X pins σ' H' s' ∧ D.ct σ' H'
  | .ret u => ∃ v σ' H',Inv X pins σ' H' s' ∧ RelV v u ∧ D.rt v H'

def PE (X : Cx) (e : Expr) (t : TE) : Prop :=
  ∀ (pins : List (Addr × Obj)) (s : Shared) (σ : St) (H : Hp) (Q : VK),Inv X pins σ H s → t σ H Q → wpAny (model X.prog X.w) X.A (eval e X.env) (EP X pins σ Q) X.xe s
def PT (X : Cx) (e : Expr) (t : TT) : Prop :=
  ∀ (pins : List (Addr × Obj)) (s : Shared) (σ : St) (H : Hp) (Q : Bool → Hp → Prop),Inv X pins σ H s → t σ H Q → wpAny (model X.prog X.w) X.A (isTrue e X.env (eval e X.env)) (TP X pins σ Q) X.xe s
def PW (X : Cx) (e : Expr) (t : TT) : Prop :=
  ∀ (whole : Sem Value) (pins : List (Addr × Obj)) (s : Shared) (σ : St) (H : Hp) (Q : Bool → Hp → Prop),Inv X pins σ H s → t σ H Q → wpAny (model X.prog X.w) X.A (isTrue e X.env whole) (TP X pins σ Q) X.xe s
theorem PW.pt {X : Cx} {e : Expr} {t : TT} (h : PW X e t) : PT X e t:=h _
def PA (X : Cx) (es : List Expr) (t : TA) : Prop :=
  ∀ (pos : Pos) (pins : List (Addr × Obj)) (s : Shared) (σ : St) (H : Hp) (Q : List V → Hp → Prop),Inv X pins σ H s → t σ H Q → wpAny (model X.prog X.w) X.A (spliced (backTo pos (starEach es X.env))) (AP X pins σ Q) X.xe s
def PS (X : Cx) (st : Stmt) (t : TS) : Prop :=
  ∀ (pins : List (Addr × Obj)) (s : Shared) (σ : St) (H : Hp) (D : Ends),Inv X pins σ H s → t D σ H → wpAny (model X.prog X.w) X.A (exec st X.env) (SP X pins D) X.xe s
def PSs (X : Cx) (st : List Stmt) (t : TS) : Prop :=
  ∀ (pins : List (Addr × Obj)) (s : Shared) (σ : St) (H : Hp) (D : Ends),Inv X pins σ H s → t D σ H → wpAny (model X.prog X.w) X.A (execs st X.env) (SP X pins D) X.xe s
theorem thn {α : Type} {t : Sem α} {Q Q' : α → Shared → Prop} {M : Model} {A : Around} {E : Value → Shared → Prop} {s : Shared} (h : wpAny M A t Q E s) (hQ : ∀ a s,Q a s → Q' a s) : wpAny M A t Q' E s:=wpAny_mono h hQ fun _ _ x => x
end L2

namespace L2
open PySem PySem.Spec PyProof.Rows
section
variable {X : Cx}

theorem bin {a b : Expr} {ta tb : TE} (ha : PE X a ta) (hb : PE X b tb) {pins : List (Addr × Obj)} {s : Shared} {σ : St} {H : Hp} {R : V → V → Hp → Prop} (I : Inv X pins σ H s) (h : ta σ H fun x H1 => tb σ H1 fun y H2 => R x y H2)
    {α : Type} {Q : α → Shared → Prop} {f : Value → Value → Sem α}
    (hf : ∀ v u s2 x y H2,Inv X pins σ H2 s2 → RelV x v → RelV y u → R x y H2 → wpAny (model X.prog X.w) X.A (f v u) Q X.xe s2) :
    wpAny (model X.prog X.w) X.A (eval a X.env) (fun v s₁ => wpAny (model X.prog X.w) X.A (eval b X.env) (fun u s₂ => wpAny (model X.prog X.w) X.A (f v u) Q X.xe s₂) X.xe s₁) X.xe s:=by
  refine thn (ha pins s σ H _ I h) fun v s1 ⟨x,H1,I1,r1,q1⟩ => ?_
  refine thn (hb pins s1 σ H1 _ I1 q1) fun u s2 ⟨y,H2,I2,r2,q2⟩ => ?_
  exact hf v u s2 x y H2 I2 r1 r2 q2

def tVar (i : Nat) : TE:=fun σ H Q => ∃ v,σ[i]? = some (some v) ∧ Q v H
def tC (v : V) : TE:=fun _ H Q => Q v H
theorem pe_var {i : Nat} {x : Str} {pos : Pos} (hN : X.N[i]? = some x) (hv : Vis X.env.scope x) (hd : (x == ("__debug__" : Str)) = false:=by decide) (hcd : (x == ("__classdict__" : Str)) = false:=by decide) : PE X (.Name x pos) (tVar i):=by
  intro pins s σ H Q I h
  obtain ⟨v,e,h⟩:=h
  obtain ⟨m,hn,hl⟩:=I.loc
  obtain ⟨u,r,l⟩:=hl i x v hN e hv
  have fin : EP X pins σ Q u s:=⟨v,H,I,r,h⟩
  rcases l with ⟨hk,hm⟩ | ⟨hk,c,hc,hcell⟩
  · exact wpAny_Name (wpAny_loadName_local I.ok.kind hk hn hm fin) hd
  · rcases hk with hk | hk
    · exact wpAny_Name (wpAny_loadName_cell I.ok.kind hk hc hcell fin) hd
    · exact wpAny_Name (wpAny_loadName_free I.ok.kind hk hc hcell fin hcd) hd
theorem pe_int {i j pos} : PE X (.Constant (.int i) j pos) (tC (.int i)):=fun _ _ _ H _ I h => wpAny_Constant_int ⟨.int i,H,I.tok _,⟨_,rfl⟩,h⟩
theorem pe_bl {b j pos} : PE X (.Constant (.bool b) j pos) (tC (.bl b)):=fun _ _ _ H _ I h => Constant_bool ⟨.bl b,H,I,rfl,h⟩
theorem pe_non {j pos} : PE X (.Constant .none j pos) (tC .non):=fun _ _ _ H _ I h => Constant_none ⟨.non,H,I,rfl,h⟩
theorem pe_str {x j pos} : PE X (.Constant (.str x) j pos) (tC (.str x)):=fun _ _ _ H _ I h => Calls.Constant_str ⟨.str x,H,I.tok _,⟨_,rfl⟩,h⟩

def Gl (X : Cx) (x : Str) : Prop:=X.env.kindOf x = some .globalImplicit
theorem ld_glob {E : Value → Shared → Prop} {pins : List (Addr × Obj)} {s : Shared} {σ : St} {H : Hp} {x : Str} {u : Value} {pos : Pos} {Q : Value → Shared → Prop} (I : Inv X pins σ H s) (hg : Gl X x) (hm : X.mg x = some u) (h : Q u s)
    (hd : (x == ("__debug__" : Str)) = false:=by decide) : wpAny (model X.prog X.w) X.A (eval (.Name x pos) X.env) Q E s :=
  Calls.Name_function_global I.ok.kind hg (Calls.loadGlobal_global (by rw [I.ok.glob]; exact I.mod.glob.keeps I.bk) hm h) hd
theorem ld_blt {E : Value → Shared → Prop} {pins : List (Addr × Obj)} {s : Shared} {σ : St} {H : Hp} {x : Str} {u : Value} {pos : Pos} {Q : Value → Shared → Prop} (I : Inv X pins σ H s) (hg : Gl X x) (hm : X.mg x = none) (hv : bootBuiltins x = some u) (h : Q u s)
    (hn : x ≠ "__name__" := by decide) (hd : (x == ("__debug__" : Str)) = false:=by decide) : wpAny (model X.prog X.w) X.A (eval (.Name x pos) X.env) Q E s:=by
  obtain ⟨mb,h1,h2⟩:=I.mod.blt
  exact Calls.Name_function_global I.ok.kind hg (Calls.loadGlobal_builtin (by rw [I.ok.glob]; exact I.mod.glob.keeps I.bk) hm (by rw [I.ok.blt]; exact h1.keeps I.bk) ((h2 x hn).trans hv) h) hd
theorem pe_glob {x : Str} {v : V} {u : Value} {pos : Pos} (hg : Gl X x) (hm : X.mg x = some u) (r : RelV v u) (hd : (x == ("__debug__" : Str)) = false:=by decide) : PE X (.Name x pos) (tC v) :=
  fun _ _ _ H _ I h => ld_glob I hg hm ⟨v,H,I,r,h⟩ hd
theorem pe_bltn {x : Str} {v : V} {u : Value} {pos : Pos} (hg : Gl X x) (hm : X.mg x = none) (hv : bootBuiltins x = some u) (r : RelV v u) (hn : x ≠ "__name__" := by decide) (hd : (x == ("__debug__" : Str)) = false:=by decide) : PE X (.Name x pos) (tC v) :=
  fun _ _ _ H _ I h => ld_blt I hg hm hv ⟨v,H,I,r,h⟩ hn hd

variable {a b : Expr} {ta tb : TE} {pos : Pos}
def PC (X : Cx) (op : CmpOp) (a b : Expr) (t : TE) : Prop :=
  ∀ (pins : List (Addr × Obj)) (s : Shared) (σ : St) (H : Hp) (Q : VK),Inv X pins σ H s → t σ H Q →
    wpAny (model X.prog X.w) X.A (eval a X.env) (fun v s₁ => wpAny (model X.prog X.w) X.A (eval b X.env) (fun u s₂ => wpAny (model X.prog X.w) X.A (compareOp op v u) (EP X pins σ Q) X.xe s₂) X.xe s₁) X.xe s
theorem nobehind (b : Expr) {op : CmpOp} (h : op ≠ .In) (h2 : op ≠ .NotIn) : behindInMarks op b = false:=by
  have e1 : (op == CmpOp.In) = false:=by cases op <;> first | rfl | exact absurd rfl h
  have e2 : (op == CmpOp.NotIn) = false:=by cases op <;> first | rfl | exact absurd rfl h2
  cases b <;> simp [behindInMarks,e1,e2]
def tIsN (ta : TE) : TE:=fun σ H Q => ta σ H fun x H1 => Q (.bl (decide (x = .non))) H1
def tNotN (ta : TE) : TE:=fun σ H Q => ta σ H fun x H1 => Q (.bl (!decide (x = .non))) H1
theorem RelV.none_iff {x : V} {v : Value} (r : RelV x v) : (v == Value.none) = decide (x = .non):=by
  cases x with
  | non => cases r; rfl
  | bl _ => cases r; rfl
  | int _ => obtain ⟨t,rfl⟩:=r; rfl
  | str _ => obtain ⟨t,rfl⟩:=r; rfl
  | byt _ => obtain ⟨t,rfl⟩:=r; rfl
  | flt _ => obtain ⟨t,rfl⟩:=r; rfl
  | ref _ => cases r; rfl
  | ty _ => cases r; rfl
theorem pc_isN {j pos'} (ha : PE X a ta) : PC X .Is a (.Constant .none j pos') (tIsN ta):=by
  intro pins s σ H Q I h
  refine thn (ha pins s σ H _ I h) fun v s1 ⟨x,H1,I1,r1,q1⟩ => ?_
  exact Constant_none (is_none_gen ⟨.bl _,H1,I1,by rw [r1.none_iff]; rfl,q1⟩)
theorem pc_notN {j pos'} (ha : PE X a ta) : PC X .IsNot a (.Constant .none j pos') (tNotN ta):=by
  intro pins s σ H Q I h
  refine thn (ha pins s σ H _ I h) fun v s1 ⟨x,H1,I1,r1,q1⟩ => ?_
  exact Constant_none (isnot_none_gen ⟨.bl _,H1,I1,by rw [r1.none_iff]; rfl,q1⟩)
def tB (t : TE) : TT:=fun σ H Q => t σ H fun x H1 => ∃ c,x = .bl c ∧ Q c H1
theorem pe_cmp {op : CmpOp} {t : TE} (h : PC X op a b t) (h1 : behindInMarks op b = false:=by first | exact nobehind _ (by decide) (by decide) | rfl) : PE X (.Compare a [op] [b] pos) t:=fun pins s σ H Q I hw => wpAny_Compare1 (h pins s σ H Q I hw) h1
theorem pt_cmp {op : CmpOp} {t : TE} (h : PC X op a b t) (h1 : behindInMarks op b = false:=by first | exact nobehind _ (by decide) (by decide) | rfl) : PT X (.Compare a [op] [b] pos) (tB t):=by
  intro pins s σ H Q I hw
  refine wpAny_isTrue_Compare1 (thn (h pins s σ H _ I hw) fun v s1 h1 => thn h1 fun u s2 h2 => thn h2 fun c s3 ⟨x,H1,I1,r1,q1⟩ => ?_) h1
  obtain ⟨d,rfl,q⟩:=q1
  cases r1
  exact wpAny_truthy_bool ⟨H1,I1,q⟩
theorem pt_val {e : Expr} {t : TE} (h : PE X e t) (he : ∀ whole,isTrue e X.env whole = (do let v ← whole; standAt e.pos; holding [v] (truthy v)):=by intro _; rfl) : PT X e (tB t):=by
  intro pins s σ H Q I hw
  refine isTrue_plain (thn (h pins s σ H _ I hw) fun v s1 ⟨x,H1,I1,r1,q1⟩ => ?_) (he _)
  obtain ⟨d,rfl,q⟩:=q1
  cases r1
  exact wpAny_truthy_bool ⟨H1,I1,q⟩

variable {tA tB' : TT} {rest : List Expr}
def tAnd (t u : TT) : TT:=fun σ H Q => t σ H fun c H1 => if c = true then u σ H1 Q else Q false H1
def tOr (t u : TT) : TT:=fun σ H Q => t σ H fun c H1 => if c = true then Q true H1 else u σ H1 Q
def tNot (t : TT) : TT:=fun σ H Q => t σ H fun c H1 => Q (!c) H1
theorem pw_and1 (ha : PT X a tA) : PW X (.BoolOp .And [a] pos) tA:=by
  intro wh pins s σ H Q I h
  refine isTrue_and (thn (ha pins s σ H Q I h) fun c s1 e => ?_)
  cases c with
  | true => exact isTrue_and_nil e
  | false => exact e
theorem pw_or1 (ha : PT X a tA) : PW X (.BoolOp .Or [a] pos) tA:=by
  intro wh pins s σ H Q I h
  refine isTrue_or (thn (ha pins s σ H Q I h) fun c s1 e => ?_)
  cases c with
  | false => exact isTrue_or_nil e
  | true => exact e
theorem pw_and (ha : PT X a tA) (hb : PW X (.BoolOp .And (b :: rest) pos) tB') : PW X (.BoolOp .And (a :: b :: rest) pos) (tAnd tA tB'):=by
  intro wh pins s σ H Q I h
  refine isTrue_and (thn (ha pins s σ H _ I h) fun c s1 ⟨H1,I1,q1⟩ => ?_)
  cases c with
  | true => exact hb wh pins s1 σ H1 Q I1 q1
  | false => exact ⟨H1,I1,q1⟩
theorem pw_or (ha : PT X a tA) (hb : PW X (.BoolOp .Or (b :: rest) pos) tB') : PW X (.BoolOp .Or (a :: b :: rest) pos) (tOr tA tB'):=by
  intro wh pins s σ H Q I h
  refine isTrue_or (thn (ha pins s σ H _ I h) fun c s1 ⟨H1,I1,q1⟩ => ?_)
  cases c with
  | true => exact ⟨H1,I1,q1⟩
  | false => exact hb wh pins s1 σ H1 Q I1 q1
theorem pt_not (ha : PT X a tA) : PT X (.UnaryOp .Not a pos) (tNot tA):=by
  intro pins s σ H Q I h
  exact isTrue_not (ha pins s σ H (fun c H1 => Q (!c) H1) I h)
def tAndV (ta tb : TE) : TE:=fun σ H Q => ta σ H fun x H1 => ∃ c,x = .bl c ∧ if c = true then tb σ H1 Q else Q (.bl false) H1
def tOrV (ta tb : TE) : TE:=fun σ H Q => ta σ H fun x H1 => ∃ c,x = .bl c ∧ if c = true then Q (.bl true) H1 else tb σ H1 Q
def tNotV (ta : TE) : TE:=fun σ H Q => ta σ H fun x H1 => ∃ c,x = .bl c ∧ Q (.bl (!c)) H1
theorem pe_one {op} {t : TE} (h : PE X a t) : PE X (.BoolOp op [a] pos) t:=fun pins s σ H Q I hw => BoolOp_one (h pins s σ H Q I hw)
theorem pe_and (ha : PE X a ta) (hb : PE X (.BoolOp .And (b :: rest) pos) tb) : PE X (.BoolOp .And (a :: b :: rest) pos) (tAndV ta tb):=by
  intro pins s σ H Q I h
  refine BoolOp_and (thn (ha pins s σ H _ I h) fun v s1 ⟨x,H1,I1,r1,q1⟩ => ?_)
  obtain ⟨c,rfl,q1⟩:=q1
  cases r1
  refine wpAny_truthy_bool ?_
  cases c with
  | true => exact hb pins s1 σ H1 Q I1 q1
  | false => exact ⟨.bl false,H1,I1,rfl,q1⟩
theorem pe_or (ha : PE X a ta) (hb : PE X (.BoolOp .Or (b :: rest) pos) tb) : PE X (.BoolOp .Or (a :: b :: rest) pos) (tOrV ta tb):=by
  intro pins s σ H Q I h
  refine BoolOp_or (thn (ha pins s σ H _ I h) fun v s1 ⟨x,H1,I1,r1,q1⟩ => ?_)
  obtain ⟨c,rfl,q1⟩:=q1
  cases r1
  refine wpAny_truthy_bool ?_
  cases c with
  | false => exact hb pins s1 σ H1 Q I1 q1
  | true => exact ⟨.bl true,H1,I1,rfl,q1⟩
theorem pe_not (ha : PE X a ta) : PE X (.UnaryOp .Not a pos) (tNotV ta):=by
  intro pins s σ H Q I h
  refine UnaryOp_ (thn (ha pins s σ H _ I h) fun v s1 ⟨x,H1,I1,r1,q1⟩ => ?_)
  obtain ⟨c,rfl,q1⟩:=q1
  cases r1
  exact not_of (wpAny_truthy_bool ⟨.bl (!c),H1,I1,rfl,q1⟩)
def tIf (t : TT) (ta tb : TE) : TE:=fun σ H Q => t σ H fun c H1 => if c = true then ta σ H1 Q else tb σ H1 Q
theorem pe_ifExp {c : Expr} (hc : PT X c tA) (ha : PE X a ta) (hb : PE X b tb) : PE X (.IfExp c a b pos) (tIf tA ta tb):=by
  intro pins s σ H Q I h
  refine wpAny_IfExp (thn (hc pins s σ H _ I h) fun d s1 ⟨H1,I1,q1⟩ => ?_)
  cases d with
  | true => exact ha pins s1 σ H1 Q I1 q1
  | false => exact hb pins s1 σ H1 Q I1 q1
end
end L2

namespace L2
open PySem PySem.Spec PyProof.Rows

def SqL (K : PySem.W.Frag) (H : Hp) (a : Addr) (xs : List V) : Prop :=
  Rd H a (.lst xs) ∨
    ∃ (o : Obj) (its : Array Value) (n : Nat),K.lookup a = some o ∧ o.cls = .type "list" ∧ o.dict = none ∧ o.data = .seq its n ∧ its.size ≤ sizeLine ∧ Vals xs its.toList
def SqT (K : PySem.W.Frag) (H : Hp) (a : Addr) (xs : List V) : Prop :=
  Rd H a (.tup xs) ∨
    ∃ (o : Obj) (its : Array Value) (n : Nat),K.lookup a = some o ∧ o.cls = .type "tuple" ∧ o.data = .seq its n ∧ its.size ≤ sizeLine ∧ Vals xs its.toList
def absV : Value → Option V
  | .none => some .non
  | .bool b => some (.bl b)
  | .int i _ => some (.int i)
  | .str x _ => some (.str x)
  | .bytes b _ => some (.byt b)
  | .float b _ => some (.flt b)
  | .ref a => some (.ref a)
  | .type n => some (.ty n)
  | _ => none
theorem RelV.abs {x : V} {u : Value} (r : RelV x u) : absV u = some x:=by
  cases x with
  | non => cases r; rfl
  | bl _ => cases r; rfl
  | int _ => obtain ⟨t,rfl⟩:=r; rfl
  | str _ => obtain ⟨t,rfl⟩:=r; rfl
  | byt _ => obtain ⟨t,rfl⟩:=r; rfl
  | flt _ => obtain ⟨t,rfl⟩:=r; rfl
  | ref _ => cases r; rfl
  | ty _ => cases r; rfl
theorem RelV.inj {x y : V} {u : Value} (r : RelV x u) (q : RelV y u) : x = y:=Option.some.inj (r.abs.symm.trans q.abs)
theorem Vals.inj : ∀ {xs ys : List V} {us : List Value},Vals xs us → Vals ys us → xs = ys
  | _,_,_,.nil,.nil => rfl
  | _,_,_,.cons r t,.cons r' t' => by rw [r.inj r',Vals.inj t t']
section
variable {X : Cx} {pins : List (Addr × Obj)} {σ : St} {H : Hp} {s : Shared} {a : Addr} {xs ys : List V}
theorem SqL.of {K : PySem.W.Frag} (h : H a = some (.lst xs)) : SqL K H a xs:=.inl (.inl h)
theorem SqT.of {K : PySem.W.Frag} (h : H a = some (.tup xs)) : SqT K H a xs:=.inl (.inl h)
theorem Inv.list (I : Inv X pins σ H s) (h : SqL X.K H a xs) : ∃ its : List Value,Vals xs its ∧ PlainL s.heap a its.toArray ∧ xs.length ≤ sizeLine:=by
  rcases h with h | ⟨o,its,n,hk,hc,hd,hs,hz,r⟩
  · obtain ⟨z,its,n,r,e⟩:=h.ok I.hok
    exact ⟨its,r,⟨_,n,e,rfl,rfl,rfl⟩,z⟩
  · refine ⟨its.toList,r,⟨o,n,I.kIn a o hk,hc,hd,by simpa using hs⟩,?_⟩
    have e:=r.length
    simp only [Array.length_toList] at e
    omega
theorem Inv.tuple (I : Inv X pins σ H s) (h : SqT X.K H a xs) : ∃ its : List Value,Vals xs its ∧ IsTup s.heap a its.toArray ∧ xs.length ≤ sizeLine:=by
  rcases h with h | ⟨o,its,n,hk,hc,hs,hz,r⟩
  · obtain ⟨z,its,r,p⟩:=h.ok I.hok
    exact ⟨its,r,p,z⟩
  · refine ⟨its.toList,r,⟨o,I.kIn a o hk,hc,n,by simpa using hs⟩,?_⟩
    have e:=r.length
    simp only [Array.length_toList] at e
    omega
theorem Inv.list_inj (I : Inv X pins σ H s) (h : SqL X.K H a xs) (h' : SqL X.K H a ys) : xs = ys:=by
  obtain ⟨its,r,⟨o,n,e,_,_,d⟩,_⟩:=I.list h
  obtain ⟨its',r',⟨o',n',e',_,_,d'⟩,_⟩:=I.list h'
  rw [e] at e'; cases e'
  rw [d] at d'
  injection d' with d1 _
  have : its = its':=by simpa using congrArg Array.toList d1
  subst this
  exact r.inj r'
end

abbrev Cx.wish (X : Cx) (E : Value → Shared → Prop) : Cx:={ X with xe:=E }
abbrev Cx.nox (X : Cx) : Cx:=X.wish fun _ _ => False
theorem Cx.Ok.wish {X : Cx} (ok : X.Ok) (E : Value → Shared → Prop) : (X.wish E).Ok :=
  ⟨ok.mod,ok.kind,ok.glob,ok.blt,ok.above,ok.inj,ok.has,ok.cab,ok.hd,ok.frames,ok.stk,ok.exf,ok.bs,ok.bsz,ok.noex,ok.exfs,ok.funs,ok.frf⟩
theorem Cx.Ok.unwish {X : Cx} {E : Value → Shared → Prop} (ok : (X.wish E).Ok) : X.Ok :=
  ⟨ok.mod,ok.kind,ok.glob,ok.blt,ok.above,ok.inj,ok.has,ok.cab,ok.hd,ok.frames,ok.stk,ok.exf,ok.bs,ok.bsz,ok.noex,ok.exfs,ok.funs,ok.frf⟩
section
variable {X : Cx} {pins : List (Addr × Obj)} {σ : St} {H : Hp} {s : Shared} {E : Value → Shared → Prop}
theorem Inv.wish (I : Inv X pins σ H s) (E : Value → Shared → Prop) : Inv (X.wish E) pins σ H s:=⟨I.ok.wish E,I.os,I.bare,I.base,I.loc,I.cell,I.free,I.freeC,I.pin,I.hok,I.len⟩
theorem Inv.unwish (I : Inv (X.wish E) pins σ H s) : Inv X pins σ H s:=⟨I.ok.unwish,I.os,I.bare,I.base,I.loc,I.cell,I.free,I.freeC,I.pin,I.hok,I.len⟩
theorem SP.unwish {D : Ends} {f : Flow} {s' : Shared} (h : SP (X.wish E) pins D f s') : SP X pins D f s':=by
  cases f with
  | next => obtain ⟨σ',H',I,q⟩:=h; exact ⟨σ',H',I.unwish,q⟩
  | brk => obtain ⟨σ',H',I,q⟩:=h; exact ⟨σ',H',I.unwish,q⟩
  | cont => obtain ⟨σ',H',I,q⟩:=h; exact ⟨σ',H',I.unwish,q⟩
  | ret u => obtain ⟨v,σ',H',I,r,q⟩:=h; exact ⟨v,σ',H',I.unwish,r,q⟩
theorem PE.nox {e : Expr} {t : TE} (h : PE X.nox e t) : PE X e t:=fun pins s σ H Q I hw =>
  wpAny_mono (h pins s σ H Q (I.wish _) hw) (fun _ _ ⟨v,H',I',r,q⟩ => ⟨v,H',I'.unwish,r,q⟩) fun _ _ z => False.elim z
theorem PT.nox {e : Expr} {t : TT} (h : PT X.nox e t) : PT X e t:=fun pins s σ H Q I hw =>
  wpAny_mono (h pins s σ H Q (I.wish _) hw) (fun _ _ ⟨H',I',q⟩ => ⟨H',I'.unwish,q⟩) fun _ _ z => False.elim z
theorem PSs.nox {st : List Stmt} {t : TS} (h : PSs X.nox st t) : PSs X st t:=fun pins s σ H D I hw =>
  wpAny_mono (h pins s σ H D (I.wish _) hw) (fun _ _ q => q.unwish) fun _ _ z => False.elim z
end

section
variable {X : Cx} {st : Stmt} {rest : List Stmt} {t u : TS} {e : Expr} {te : TE} {pos : Pos}
def tNext : TS:=fun D σ H => D.nx σ H
def tSeq (t u : TS) : TS:=fun D σ H => t { D with nx:=u D } σ H
theorem pss_nil : PSs X [] tNext:=fun _ _ σ H _ I h => wpAny_execs_nil ⟨σ,H,I,h⟩
theorem pss_cons (h1 : PS X st t) (h2 : PSs X rest u) : PSs X (st :: rest) (tSeq t u):=by
  intro pins s σ H D I h
  refine wpAny_execs_cons (thn (h1 pins s σ H { D with nx:=u D } I h) fun f s1 q => ?_)
  cases f with
  | next =>
    obtain ⟨σ',H',I',q⟩:=q
    exact h2 pins s1 σ' H' D I' q
  | ret v => exact q
  | brk => exact q
  | cont => exact q
theorem pss_one (h1 : PS X st t) : PSs X [st] t:=by
  intro pins s σ H D I h
  refine wpAny_execs_cons (thn (h1 pins s σ H D I h) fun f s1 q => ?_)
  cases f with
  | next => exact wpAny_execs_nil q
  | ret v => exact q
  | brk => exact q
  | cont => exact q
theorem ps_pass : PS X (.Pass pos) tNext:=fun _ _ σ H _ I h => wpAny_Pass ⟨σ,H,I,h⟩
theorem Inv.quiet {pins : List (Addr × Obj)} {σ : St} {H : Hp} {s : Shared} (I : Inv X pins σ H s) : interactive X.env = false:=by simp [interactive,I.ok.kind]
def tDrop (te : TE) : TS:=fun D σ H => te σ H fun _ H1 => D.nx σ H1
theorem ps_expr (he : PE X e te) (hs : swapsWith e none pos.line X.env = pure false:=by rfl) : PS X (.Expr e pos) (tDrop te):=by
  intro pins s σ H D I h
  exact wpAny_Expr_any (thn (he pins s σ H _ I h) fun v s1 ⟨x,H1,I1,r1,q1⟩ => ⟨σ,H1,I1,q1⟩) I.quiet hs
def tRet (te : TE) : TS:=fun D σ H => te σ H D.rt
theorem ps_ret (he : PE X e te) : PS X (.Return (some e) pos) (tRet te):=by
  intro pins s σ H D I h
  exact wpAny_Return_some (thn (he pins s σ H _ I h) fun v s1 ⟨x,H1,I1,r1,q1⟩ => ⟨x,σ,H1,I1,r1,q1⟩)
def tIfS (c : TT) (t u : TS) : TS:=fun D σ H => c σ H fun b H1 => if b = true then t D σ H1 else u D σ H1
theorem ps_if {c : Expr} {a b : List Stmt} {tc : TT} (hc : PT X c tc) (ha : PSs X a t) (hb : PSs X b u) : PS X (.If c a b pos) (tIfS tc t u):=by
  intro pins s σ H D I h
  refine wpAny_If (thn (hc pins s σ H _ I h) fun d s1 ⟨H1,I1,q1⟩ => ?_)
  cases d with
  | true => exact ha pins s1 σ H1 D I1 q1
  | false => exact hb pins s1 σ H1 D I1 q1
def tNever : TS:=fun _ _ _ => False
theorem ps_never : PS X st tNever:=fun _ _ _ _ _ _ h => h.elim
theorem pss_never {sts : List Stmt} : PSs X sts tNever:=fun _ _ _ _ _ _ h => h.elim
end

abbrev TG:=V → St → Hp → (St → Hp → Prop) → Prop
abbrev TGs:=List V → St → Hp → (St → Hp → Prop) → Prop
def PG (X : Cx) (target : Expr) (t : TG) : Prop :=
  ∀ (pins : List (Addr × Obj)) (s : Shared) (σ : St) (H : Hp) (v : V) (u : Value) (Q : St → Hp → Prop),Inv X pins σ H s → RelV v u → t v σ H Q →
    wpAny (model X.prog X.w) X.A (assign target X.env u) (fun _ s' => ∃ σ' H',Inv X pins σ' H' s' ∧ Q σ' H') X.xe s
def PGs (X : Cx) (ts : List Expr) (t : TGs) : Prop :=
  ∀ (pins : List (Addr × Obj)) (s : Shared) (σ : St) (H : Hp) (vs : List V) (us : List Value) (Q : St → Hp → Prop),Inv X pins σ H s → Vals vs us → t vs σ H Q →
    wpAny (model X.prog X.w) X.A (assignInOrder ((assignEach ts X.env).map (·.2)) us) (fun _ s' => ∃ σ' H',Inv X pins σ' H' s' ∧ Q σ' H') X.xe s
abbrev TSet:=V → V → V → Hp → (Hp → Prop) → Prop
def PSet (X : Cx) (t : TSet) : Prop :=
  ∀ (pins : List (Addr × Obj)) (s : Shared) (σ : St) (H : Hp) (o i v : V) (ov iv u : Value) (Q : Hp → Prop),Inv X pins σ H s → RelV o ov → RelV i iv → RelV v u → t o i v H Q →
    wpAny (model X.prog X.w) X.A (setItem ov iv u) (fun _ s' => ∃ H',Inv X pins σ H' s' ∧ Q H') X.xe s
section
variable {X : Cx} {pos : Pos}
def gName (i : Nat) : TG:=fun v σ H Q => Q (σ.set i (some v)) H
theorem pg_name {i : Nat} {x : Str} (hN : X.N.Nodup) (hi : X.N[i]? = some x) (hx : Loc X.env.scope x) (hf : X.fn x = true ∨ X.env.scope.names.lookup x = some .local:=by first | exact .inl rfl | exact .inr rfl | assumption) : PG X (.Name x pos) (gName i):=by
  intro pins s σ H v u Q I r h
  exact wpAny_assign_Name (store_ok I hN hi hx r (fun s' I' => ⟨_,H,I',h⟩) hf)
def gNil : TGs:=fun vs σ H Q => vs = [] ∧ Q σ H
def gCons (t : TG) (u : TGs) : TGs:=fun vs σ H Q => ∃ v r,vs = v :: r ∧ t v σ H fun σ' H' => u r σ' H' Q
theorem pgs_nil : PGs X [] gNil:=by
  intro pins s σ H vs us Q I r h
  obtain ⟨e,h⟩:=h
  subst e
  cases r
  exact assignInOrder_nil ⟨σ,H,I,h⟩
theorem pgs_cons {e : Expr} {es : List Expr} {t : TG} {u : TGs} (h1 : PG X e t) (h2 : PGs X es u)
    (hs : (assignEach (e :: es) X.env).map (·.2) = assign e X.env :: (assignEach es X.env).map (·.2):=by rfl) : PGs X (e :: es) (gCons t u):=by
  intro pins s σ H vs us Q I r h
  obtain ⟨v,vr,e1,h⟩:=h
  subst e1
  cases r with
  | cons r rr =>
    rw [hs]
    refine assignInOrder_cons (thn (h1 pins s σ H _ _ _ I r h) fun _ s1 ⟨σ1,H1,I1,q1⟩ => ?_)
    exact h2 pins s1 σ1 H1 _ _ Q I1 rr q1
def gTup (K : PySem.W.Frag) (n : Nat) (t : TGs) : TG:=fun v σ H Q => ∃ a xs,v = .ref a ∧ SqT K H a xs ∧ xs.length = n ∧ t xs σ H Q
theorem pg_tup {es : List Expr} {k : Nat} {t : TGs} {n : Nat} (hc : X.calm = true) (h : PGs X es t)
    (hn : (assignEach es X.env).length = n:=by rfl) (hst : (assignEach es X.env).findIdx? (·.1) = none:=by rfl) : PG X (.Tuple es k pos) (gTup X.K n t):=by
  intro pins s σ H v u Q I r hw
  obtain ⟨a,xs,e1,hq,hl,hw⟩:=hw
  subst e1
  cases r
  obtain ⟨its,rv,ht,hz⟩:=I.tuple hq
  refine assign_Tuple_tuple (I.ok.hd hc) ht (by simp [hn,← hl,rv.length]) hst fun h' hx => ?_
  have I1 : Inv X pins σ H { s with heap:=h' }:=I.kept (t':=s.toks) fun b o e => hx b o (Nat.ne_of_lt (Heap.lt_size e)) e
  exact h pins _ σ H xs _ Q I1 (by simpa using rv) hw
def gSub (to ti : TE) (t : TSet) : TG:=fun v σ H Q => to σ H fun o H1 => ti σ H1 fun i H2 => t o i v H2 fun H3 => Q σ H3
theorem pg_sub {o i : Expr} {to ti : TE} {t : TSet} (ho : PE X o to) (hi : PE X i ti) (hs : PSet X t)
    (ha : ∀ v,assign (.Subscript o i pos) X.env v = (do
      let ov ← holding [v] (eval o X.env)
      let iv ← holding [v,ov] (eval i X.env)
      standAt pos
      holding [v,ov,iv] (setItem ov iv v)
      release [v,ov,iv] []):=by intro _; rfl) : PG X (.Subscript o i pos) (gSub to ti t):=by
  intro pins s σ H v u Q I r h
  rw [ha]
  refine wpAny_bind (wpAny_holding (thn (ho pins s σ H _ I h) fun ov s1 ⟨x,H1,I1,r1,q1⟩ => ?_))
  refine wpAny_bind (wpAny_holding (thn (hi pins s1 σ H1 _ I1 q1) fun iv s2 ⟨y,H2,I2,r2,q2⟩ => ?_))
  refine wpAny_bind (wpAny_standAt (wpAny_bind (wpAny_holding (thn (hs pins s2 σ H2 x y v ov iv u _ I2 r1 r2 r q2) fun _ s3 ⟨H3,I3,q3⟩ => ?_))))
  exact wpAny_release ⟨σ,H3,I3,q3⟩
def tAsg (te : TE) (g : TG) : TS:=fun D σ H => te σ H fun x H1 => g x σ H1 D.nx
theorem ps_asg {tg e : Expr} {te : TE} {g : TG} (he : PE X e te) (hg : PG X tg g) (hs : swapsWithSole [tg] e pos.line X.env = pure false:=by rfl) (hw : swappedStores [tg] e X.env = pure none:=by rfl)
    (h1 : (assignEach [tg] X.env).map (·.2) = [assign tg X.env]:=by rfl) : PS X (.Assign [tg] e pos) (tAsg te g):=by
  intro pins s σ H D I h
  refine wpAny_Assign_stores (thn (he pins s σ H _ I h) fun v s1 ⟨x,H1,I1,r1,q1⟩ => ?_) hs hw
  rw [h1]
  exact thn (hg pins s1 σ H1 x v _ I1 r1 q1) fun _ s2 q => q
theorem ps_set {i : Nat} {x : Str} {e : Expr} {te : TE} {pos' : Pos} (hN : X.N.Nodup) (hi : X.N[i]? = some x) (hx : Loc X.env.scope x) (he : PE X e te) (hs : swapsWith e (some (.Name x pos')) pos.line X.env = pure false:=by rfl) (hf : X.fn x = true ∨ X.env.scope.names.lookup x = some .local:=by first | exact .inl rfl | exact .inr rfl | assumption) :
    PS X (.Assign [.Name x pos'] e pos) (tAsg te (gName i)):=by
  intro pins s σ H D I h
  refine wpAny_Assign_Name (thn (he pins s σ H _ I h) fun v s1 ⟨y,H1,I1,r1,q1⟩ => ?_) hs
  exact store_ok I1 hN hi hx r1 (fun s2 I2 => ⟨_,H1,I2,q1⟩) hf
end

section
variable {X : Cx} {pos : Pos}
def tWhile (c : TT) (tb : TS) : TS:=fun D σ H => ∃ W : Nat → St → Hp → Prop,(∃ m,W m σ H) ∧ ∀ m σ H,W m σ H →
  c σ H fun b H1 => if b = true then ∃ N : St → Hp → Prop,(∀ σ' H',N σ' H' → ∃ m',m' < m ∧ W m' σ' H') ∧ tb { D with nx:=N,ct:=N,bk:=D.nx } σ H1 else D.nx σ H1
theorem ps_while {c : Expr} {body : List Stmt} {tc : TT} {tb : TS} (hp : PassesOwn (model X.prog X.w) X.A X.env X.xe) (hc : PT X c tc) (hb : PSs X body tb) : PS X (.While c body [] pos) (tWhile tc tb):=by
  intro pins s σ H D I h
  obtain ⟨W,⟨m0,w0⟩,turn⟩:=h
  refine wpAny_While (codeAny_whileLoop (fun n s' => ∃ σ' H',Inv X pins σ' H' s' ∧ W n σ' H') ?_ m0 ⟨σ,H,I,w0⟩)
  rintro n s1 ⟨σ1,H1,I1,w1⟩
  refine wpAny_passesOwn hp (thn (hc pins s1 σ1 H1 _ I1 (turn n σ1 H1 w1)) fun b s2 ⟨H2,I2,q2⟩ => ?_)
  cases b with
  | true =>
    obtain ⟨N,hN,q2⟩:=q2
    rw [if_pos rfl]
    refine wpAny_passesOwn hp (thn (hb pins s2 σ1 H2 _ I2 q2) fun f s3 q3 => ?_)
    cases f with
    | next =>
      obtain ⟨σ3,H3,I3,n3⟩:=q3
      obtain ⟨m',hm,w3⟩:=hN σ3 H3 n3
      exact ⟨m',hm,σ3,H3,I3,w3⟩
    | cont =>
      obtain ⟨σ3,H3,I3,n3⟩:=q3
      obtain ⟨m',hm,w3⟩:=hN σ3 H3 n3
      exact ⟨m',hm,σ3,H3,I3,w3⟩
    | brk => exact q3
    | ret v => exact q3
  | false =>
    rw [if_neg Bool.false_ne_true]
    exact wpAny_execs_nil ⟨σ1,H2,I2,q2⟩
end

structure It where
  go : Nat → Hp → Prop
  yld : Nat → Hp → V → Hp → Prop
  stop : Nat → Hp → Prop
def FpOk (X : Cx) (pins : List (Addr × Obj)) (H : Hp) (b : Addr) : Prop :=
  H b = none ∧ b ≠ X.env.locals ∧ b ∉ X.fs ∧ (b ∈ X.ex ∨ X.s₀.heap.objs.size ≤ b) ∧ (∀ x c,X.env.cells.lookup x = some c → c ≠ b) ∧ ∀ p ∈ X.pn ++ pins,p.1 ≠ b
theorem Inv.fpOk {X : Cx} {pins : List (Addr × Obj)} {σ : St} {H H' : Hp} {s : Shared} {b : Addr} (I : Inv X pins σ H s) (hb : s.heap.objs.size ≤ b) (hn : H' b = none) : FpOk X pins H' b:=by
  refine ⟨hn,Nat.ne_of_gt (Nat.lt_of_lt_of_le I.lt hb),I.nofs hb,.inr (Nat.le_trans I.sz hb),fun x c e z => ?_,fun p hp z => ?_⟩
  · obtain ⟨v,q⟩:=I.cell x c e
    exact absurd (Nat.lt_of_lt_of_le q.lt (by rw [z]; exact hb)) (Nat.lt_irrefl _)
  · exact absurd (Nat.lt_of_lt_of_le (Heap.lt_size (I.pin p hp).1) (by rw [z]; exact hb)) (Nat.lt_irrefl _)
structure Turn (P : Program) (w : World) (K : PySem.W.Frag) (tg : Expr) (J : It) (fp : List Addr) (it : Addr) (tn : Nat → Heap → Prop) : Prop where
  mem : it ∈ fp
  obj : ∀ i h,tn i h → ∀ b ∈ fp,∃ o,h.get? b = some o ∧ ∀ v,o.data ≠ .cell v
  keep : ∀ i h h',tn i h → (∀ b ∈ fp,∀ o,h.get? b = some o → h'.get? b = some o) → tn i h'
  item : ∀ (X : Cx),X.prog = P → X.w = w → X.K = K → X.calm = true → ∀ (i : Nat) (pins : List (Addr × Obj)) (s : Shared) (σ : St) (H : Hp) (E : Value → Shared → Prop),Inv X pins σ H s → (∀ b ∈ fp,FpOk X pins H b) → tn i s.heap → J.go i H →
    wpAny (model P w) X.A (pyNext (.ref it)) (fun r s1 => ∃ u,r = some u ∧
      wpAny (model P w) X.A (letOwnedTupleGo tg (.ref it) u) (fun _ s2 => ∃ x H',Inv X pins σ H' s2 ∧ RelV x u ∧ J.yld i H x H' ∧ tn (i + 1) s2.heap ∧ ∀ b ∈ fp,H' b = none) E s1) E s
  done : ∀ (X : Cx),X.prog = P → X.w = w → X.K = K → X.calm = true → ∀ (i : Nat) (pins : List (Addr × Obj)) (s : Shared) (σ : St) (H : Hp) (E : Value → Shared → Prop),Inv X pins σ H s → (∀ b ∈ fp,FpOk X pins H b) → tn i s.heap → J.stop i H →
    wpAny (model P w) X.A (pyNext (.ref it)) (fun r s1 => r = none ∧ Inv X pins σ H s1) E s
  self : ∀ (A : Around) (i : Nat) (s : Shared) (Q : Value → Shared → Prop) (E : Value → Shared → Prop),tn i s.heap → Q (.ref it) s → wpAny (model P w) A (pyIter (.ref it)) Q E s
abbrev TI:=St → Hp → (It → Hp → Prop) → Prop
def PIE (X : Cx) (pins : List (Addr × Obj)) (σ : St) (tg : Expr) (R : It → Hp → Prop) (itv : Value) (s2 : Shared) : Prop :=
  ∃ (it : Addr) (fp : List Addr) (tn : Nat → Heap → Prop) (J : It) (H' : Hp),itv = .ref it ∧ Inv X pins σ H' s2 ∧ Turn X.prog X.w X.K tg J fp it tn ∧ tn 0 s2.heap ∧ (∀ b ∈ fp,FpOk X pins H' b) ∧ R J H'
def PI (X : Cx) (tg iter : Expr) (wi : TI) : Prop :=
  ∀ (pins : List (Addr × Obj)) (s : Shared) (σ : St) (H : Hp) (R : It → Hp → Prop),Inv X pins σ H s → wi σ H R →
    wpAny (model X.prog X.w) X.A (eval iter X.env) (fun v s1 => wpAny (model X.prog X.w) X.A (pyIter v) (PIE X pins σ tg R) X.xe s1) X.xe s

theorem go_of {M : Model} {A : Around} {E : Value → Shared → Prop} {s : Shared} {tg : Expr} {it : Addr} {u : Value} {o : Obj} {n : String} {vs : Array Value} {Q : Unit → Shared → Prop} (ho : s.heap.get? it = some o) (hc : o.cls = .type n) (hd : o.data = .fields vs)
    (hn : ["enumerate", "zip", "dict_itemiterator", "dict_reverseitemiterator", "odict_iterator", "itertools.zip_longest", "itertools.pairwise"].contains n = false) (hQ : Q () s) : wpAny M A (letOwnedTupleGo tg (.ref it) u) Q E s:=by
  unfold letOwnedTupleGo
  cases tg <;> first
    | exact wpAny_pure hQ
    | (cases u <;> first
        | exact wpAny_pure hQ
        | (refine wpAny_bind (wpAny_load ho ?_)
           rw [hc,hd]
           show wpAny M A (if (["enumerate", "zip", "dict_itemiterator", "dict_reverseitemiterator", "odict_iterator", "itertools.zip_longest", "itertools.pairwise"].contains n && vs[0]? == some (rawInt _)) = true then _ else _) Q E s
           rw [if_neg (by intro h; rw [hn,Bool.false_and] at h; cases h)]
           exact wpAny_pure hQ))

def Itl (K : PySem.W.Frag) (a : Addr) : It :=
  ⟨fun i H => ∃ xs x,SqL K H a xs ∧ xs[i]? = some x,fun i H x H' => H' = H ∧ ∀ xs,SqL K H a xs → xs[i]? = some x,fun i H => ∃ xs,SqL K H a xs ∧ xs.length ≤ i⟩
def Itr (lo : Int) (n : Nat) : It:=⟨fun i _ => i < n,fun i H x H' => H' = H ∧ x = .int (lo + i),fun i _ => n ≤ i⟩
theorem turn_list {P : Program} {w : World} {K : PySem.W.Frag} {tg : Expr} (a it : Addr) : Turn P w K tg (Itl K a) [it] it (fun i h => h.IsListIter it a i) where
  mem:=by simp
  obj:=fun i h st b hb => by
    have e : b = it:=by simpa using hb
    subst e
    obtain ⟨o,e,c,d⟩:=st
    exact ⟨o,e,fun v z => by rw [d] at z; cases z⟩
  keep:=fun i h h' st k => st.at fun o e => k it (by simp) o e
  item:=by
    intro X hP hw hK hc i pins s σ H E I hf st hg
    subst hP hw hK
    obtain ⟨xs,x,hq,hx⟩:=hg
    obtain ⟨its,rv,p,hz⟩:=I.list hq
    obtain ⟨u,hu,ru⟩:=rv.get hx
    obtain ⟨f0,f1,f2,f3,f4,f5⟩:=hf it (by simp)
    refine wpAny_pyNext_list_item st p.isList (x:=u) (by simpa using hu) fun h' st' sb => ?_
    have I1 : Inv X pins σ H { s with heap:=h' }:=I.turned (t':=s.toks) (fun b o hb e => (sb.2 b hb).trans e) f0 f1 f3 f4 f5
    obtain ⟨o,e,c,d⟩:=id st'
    exact ⟨u,rfl,go_of (s:={ s with heap:=h' }) e c d (by decide) ⟨x,H,I1,ru,⟨rfl,fun ys hy => by rw [I.list_inj hy hq]; exact hx⟩,st',fun b hb => (hf b hb).1⟩⟩
  done:=by
    intro X hP hw hK hc i pins s σ H E I hf st hg
    subst hP hw hK
    obtain ⟨xs,hq,hx⟩:=hg
    obtain ⟨its,rv,p,hz⟩:=I.list hq
    obtain ⟨f0,f1,f2,f3,f4,f5⟩:=hf it (by simp)
    have hl:=rv.length
    exact wpAny_pyNext_list_end (I.ok.hd hc) st p.isList (by simp; omega) fun h' eb => ⟨rfl,I.turned (t':=s.toks) (fun b o hb e => eb b o hb e) f0 f1 f3 f4 f5⟩
  self:=fun _ _ _ _ _ st h => wpAny_pyIter_listiter st h
theorem turn_range {P : Program} {w : World} {K : PySem.W.Frag} {tg : Expr} (it : Addr) (lo : Int) (n : Nat) : Turn P w K tg (Itr lo n) [it] it (fun i h => IsRangeIter h it (lo + (i : Nat) * 1) ((n : Int) - (i : Nat)) 1) where
  mem:=by simp
  obj:=fun i h st b hb => by
    have e : b = it:=by simpa using hb
    subst e
    exact ⟨_,st,fun v z => by
      have z' : Data.fields _ = Data.cell v:=z
      cases z'⟩
  keep:=fun i h h' st k => k it (by simp) _ st
  item:=by
    intro X hP hw hK hc i pins s σ H E I hf st hg
    subst hP hw hK
    obtain ⟨f0,f1,f2,f3,f4,f5⟩:=hf it (by simp)
    have W:=Walks.range (prog:=X.prog) (w:=X.w) (I.ok.hd hc) it lo 1 n
    refine W.item i s _ _ hg st fun v h' tk hv st' kk => ?_
    obtain ⟨t,rfl⟩:=hv
    have I1 : Inv X pins σ H { s with heap:=h',toks:=tk }:=I.turned (fun b o hb e => kk b o (by simpa using hb) e) f0 f1 f3 f4 f5
    refine ⟨_,rfl,go_of (s:={ s with heap:=h',toks:=tk }) (n := "range_iterator") st' rfl rfl (by decide) ⟨.int (lo + i),H,I1,⟨t,?_⟩,⟨rfl,rfl⟩,st',fun b hb => (hf b hb).1⟩⟩
    rw [Int.mul_one]
  done:=by
    intro X hP hw hK hc i pins s σ H E I hf st hg
    subst hP hw hK
    obtain ⟨f0,f1,f2,f3,f4,f5⟩:=hf it (by simp)
    exact wpAny_pyNext_range_end (I.ok.hd hc) st (by have : n ≤ i:=hg; omega) fun h' eb => ⟨rfl,I.turned (t':=s.toks) (fun b o hb e => eb b o hb e) f0 f1 f3 f4 f5⟩
  self:=fun _ _ _ _ _ st h => wpAny_pyIter_rangeiter st h
end L2

namespace L2
open PySem PySem.Spec PyProof.Rows
section
variable {X : Cx} {tg : Expr}
def iList (K : PySem.W.Frag) (tl : TE) : TI:=fun σ H R => tl σ H fun x H1 => ∃ a,x = .ref a ∧ (∃ xs,SqL K H1 a xs) ∧ R (Itl K a) H1
theorem pi_list {l : Expr} {tl : TE} (hl : PE X l tl) : PI X tg l (iList X.K tl):=by
  intro pins s σ H R I h
  refine thn (hl pins s σ H _ I h) fun v s1 ⟨x,H1,I1,r1,q1⟩ => ?_
  obtain ⟨a,e,⟨xs,hq⟩,q⟩:=q1
  subst e
  cases r1
  obtain ⟨its,rv,p,hz⟩:=I1.list hq
  refine wpAny_pyIter_list p.isList ?_
  refine ⟨s1.heap.objs.size,[s1.heap.objs.size],_,_,H1,rfl,I1.kept (t':=s1.toks) fun b o e => Heap.get?_push_of_some _ e,turn_list a _,⟨_,Heap.get?_push_size _ rfl,rfl,rfl⟩,fun b hb => ?_,q⟩
  have e : b = s1.heap.objs.size:=by simpa using hb
  subst e
  exact I1.fpOk (Nat.le_refl _) (I1.hok.fresh (Nat.le_refl _))
theorem range_it {pins : List (Addr × Obj)} {σ : St} {H : Hp} {s : Shared} {R : It → Hp → Prop} {E : Value → Shared → Prop} {lo hi : Int} {t u v : Tok} {tk : Nat} (I : Inv X pins σ H s) (h1 : -(2 ^ 62) ≤ lo) (h2 : lo < 2 ^ 62) (h3 : -(2 ^ 62) ≤ hi) (h4 : hi < 2 ^ 62)
    (q : R (Itr lo (hi - lo).toNat) H) : wpAny (model X.prog X.w) X.A (pyIter (.ref s.heap.objs.size)) (PIE X pins σ tg R) E { s with heap:=s.heap.push { cls:=.type "range",data:=.fields #[.int lo t,.int hi u,.int 1 v] },toks:=tk }:=by
  refine wpAny_pyIter_range (IsRange.new ..) (small_one h1 h2 h3 h4) ?_
  have I1 : Inv X pins σ H { s with heap:=s.heap.push { cls:=.type "range",data:=.fields #[.int lo t,.int hi u,.int 1 v] },toks:=tk }:=I.kept fun b o e => Heap.get?_push_of_some _ e
  refine ⟨(s.heap.push { cls:=.type "range",data:=.fields #[.int lo t,.int hi u,.int 1 v] }).objs.size,[(s.heap.push { cls:=.type "range",data:=.fields #[.int lo t,.int hi u,.int 1 v] }).objs.size],_,_,H,rfl,
    I1.kept (t':=tk) fun b o e => Heap.get?_push_of_some _ e,turn_range _ lo (hi - lo).toNat,?_,fun b hb => ?_,q⟩
  · have e1 : lo + ((0 : Nat) : Int) * 1 = lo:=by simp
    have e2 : (((hi - lo).toNat : Nat) : Int) - ((0 : Nat) : Int) = Builtin.Range.rangeSize lo hi 1:=by rw [rangeSize_one]; split <;> omega
    show IsRangeIter _ _ (lo + ((0 : Nat) : Int) * 1) ((((hi - lo).toNat : Nat) : Int) - ((0 : Nat) : Int)) 1
    rw [e1,e2]
    exact Heap.get?_push_size _ rfl
  · have e : b = (s.heap.push { cls:=.type "range",data:=.fields #[.int lo t,.int hi u,.int 1 v] }).objs.size:=by simpa using hb
    subst e
    exact I1.fpOk (Nat.le_refl _) (I1.hok.fresh (Nat.le_refl _))
def iRng1 (ta : TA) : TI:=fun σ H R => ta σ H fun vs H1 => ∃ j : Int,vs = [.int j] ∧ -(2 ^ 62) ≤ j ∧ j < 2 ^ 62 ∧ R (Itr 0 j.toNat) H1
theorem pi_range1 {a : Expr} {ta : TA} {p pos : Pos} (hg : Gl X "range") (hm : X.mg "range" = none) (ha : PA X [a] ta) (hs : starEach [a] X.env = [(false,eval a X.env)]:=by rfl) : PI X tg (.Call (.Name "range" p) [a] [] pos) (iRng1 ta):=by
  intro pins s σ H R I h
  refine Call_ (ld_blt I hg hm boot_range (PyProof.Rows.callWith_type1 (thn (ha pos pins s σ H _ I h) fun us s1 ⟨vs,H1,I1,r1,q1⟩ => ?_) hs rfl))
  obtain ⟨j,e,q1,q2,q⟩:=q1
  subst e
  cases r1 with
  | cons r rr =>
    cases rr
    obtain ⟨t,rfl⟩:=r
    exact call_range_1 (range_it I1 (by omega) (by omega) q1 q2 (by simpa using q))
def tFor (wi : TI) (g : TG) (tb : TS) : TS:=fun D σ H => wi σ H fun J H1 => ∃ W : Nat → Nat → St → Hp → Prop,(∃ m,W 0 m σ H1) ∧ ∀ i m σ H,W i m σ H →
  (J.stop i H ∧ D.nx σ H) ∨ (J.go i H ∧ ∃ N : St → Hp → Prop,(∀ σ' H',N σ' H' → ∃ m',m' < m ∧ W (i + 1) m' σ' H') ∧ ∀ x H',J.yld i H x H' → g x σ H' fun σ2 H2 => tb { D with nx:=N,ct:=N,bk:=D.nx } σ2 H2)
def pinsAt (fp : List Addr) (h : Heap) : List (Addr × Obj):=fp.filterMap fun b => (h.get? b).map fun o => (b,o)
theorem mem_pinsAt {fp : List Addr} {h : Heap} {b : Addr} {o : Obj} (hb : b ∈ fp) (e : h.get? b = some o) : (b,o) ∈ pinsAt fp h:=List.mem_filterMap.mpr ⟨b,hb,by rw [e]; rfl⟩
theorem of_pinsAt {fp : List Addr} {h : Heap} {p : Addr × Obj} (hp : p ∈ pinsAt fp h) : p.1 ∈ fp ∧ h.get? p.1 = some p.2:=by
  obtain ⟨b,hb,e⟩:=List.mem_filterMap.mp hp
  cases q : h.get? b with
  | none => rw [q] at e; cases e
  | some o =>
    rw [q] at e
    have e' : (b,o) = p:=Option.some.inj e
    subst e'
    exact ⟨hb,q⟩
theorem Inv.pinned {pins : List (Addr × Obj)} {σ : St} {H : Hp} {s : Shared} {fp : List Addr} (I : Inv X pins σ H s) (hf : ∀ b ∈ fp,FpOk X pins H b) (ho : ∀ b ∈ fp,∃ o,s.heap.get? b = some o ∧ ∀ v,o.data ≠ .cell v) : Inv X (pins ++ pinsAt fp s.heap) σ H s :=
  I.pins_of fun p hp => (List.mem_append.mp hp).elim (fun z => I.pin p (List.mem_append_right _ z)) fun z => by
    obtain ⟨hb,e⟩:=of_pinsAt z
    obtain ⟨f0,f1,f2,_⟩:=hf p.1 hb
    obtain ⟨o,e',d⟩:=ho p.1 hb
    rw [e] at e'; cases e'
    exact ⟨e,f0,f1,f2,d⟩
theorem Inv.unpinned {pins pl : List (Addr × Obj)} {σ : St} {H : Hp} {s : Shared} (I : Inv X (pins ++ pl) σ H s) : Inv X pins σ H s:=I.pins_of fun p hp => I.pin p (List.mem_append_right _ (List.mem_append_left _ hp))
theorem ps_for {iter : Expr} {body : List Stmt} {wi : TI} {g : TG} {tb : TS} {pos : Pos} (hp : PassesOwn (model X.prog X.w) X.A X.env X.xe) (hc : X.calm = true) (hi : PI X tg iter wi) (hg : PG X tg g) (hb : PSs X body tb)
    (hs : ∀ x,foldedSetIterable iter X.env x = pure x:=by intro _; rfl) : PS X (.For tg iter body [] pos) (tFor wi g tb):=by
  intro pins s σ H D I h
  refine wpAny_For (thn (hi pins s σ H _ I h) fun v s1 h1 => thn h1 fun itv s2 h2 => ?_) hs
  obtain ⟨it,fp,tn,J,H2,e,I2,T,st2,f2,W,⟨m0,w0⟩,turn⟩:=h2
  subst e
  have stat : ∀ {H' : Hp},(∀ b ∈ fp,H' b = none) → ∀ b ∈ fp,FpOk X pins H' b:=fun hn b hb => ⟨hn b hb,(f2 b hb).2⟩
  refine codeAny_forLoop_any (fun n s' => ∃ i σ' H',Inv X pins σ' H' s' ∧ tn i s'.heap ∧ (∀ b ∈ fp,H' b = none) ∧ W i n σ' H') ?_ m0 ⟨0,σ,H2,I2,st2,fun b hb => (f2 b hb).1,w0⟩
  rintro n s3 ⟨i,σ3,H3,I3,st3,fr3,w3⟩
  rcases turn i n σ3 H3 w3 with ⟨stop,qn⟩ | ⟨go,N,hN,step⟩
  · refine wpAny_passesOwn hp (thn (T.done X rfl rfl rfl hc i pins s3 σ3 H3 X.xe I3 (stat fr3) st3 stop) fun r s4 ⟨hr,I4⟩ => ?_)
    subst hr
    exact wpAny_execs_nil ⟨σ3,H3,I4,qn⟩
  · refine wpAny_passesOwn hp (thn (T.item X rfl rfl rfl hc i pins s3 σ3 H3 X.xe I3 (stat fr3) st3 go) fun r s4 ⟨u,hr,h4⟩ => ?_)
    subst hr
    refine wpAny_passesOwn hp (thn h4 fun _ s5 ⟨x,H5,I5,r5,y5,st5,fr5⟩ => ?_)
    have I5':=I5.pinned (stat fr5) (T.obj _ _ st5)
    refine wpAny_passesOwn hp (thn (hg _ s5 σ3 H5 x u _ I5' r5 (step x H5 y5)) fun _ s6 ⟨σ6,H6,I6,q6⟩ => ?_)
    refine wpAny_passesOwn hp (thn (hb _ s6 σ6 H6 _ I6 q6) fun f s7 q7 => ?_)
    have again : ∀ {σ7 : St} {H7 : Hp},Inv X (pins ++ pinsAt fp s5.heap) σ7 H7 s7 → N σ7 H7 → ∃ m,m < n ∧ ∃ i σ' H',Inv X pins σ' H' s7 ∧ tn i s7.heap ∧ (∀ b ∈ fp,H' b = none) ∧ W i m σ' H':=fun {σ7 H7} I7 n7 => by
      obtain ⟨m',hm,w7⟩:=hN σ7 H7 n7
      refine ⟨m',hm,i + 1,σ7,H7,I7.unpinned,T.keep _ _ _ st5 fun b hb o e => (I7.pin (b,o) (List.mem_append_right _ (List.mem_append_right _ (mem_pinsAt hb e)))).1,fun b hb => ?_,w7⟩
      obtain ⟨o,e,d⟩:=T.obj _ _ st5 b hb
      exact (I7.pin (b,o) (List.mem_append_right _ (List.mem_append_right _ (mem_pinsAt hb e)))).2.1
    cases f with
    | next => obtain ⟨σ7,H7,I7,n7⟩:=q7; exact again I7 n7
    | cont => obtain ⟨σ7,H7,I7,n7⟩:=q7; exact again I7 n7
    | brk => obtain ⟨σ7,H7,I7,q7⟩:=q7; exact ⟨σ7,H7,I7.unpinned,q7⟩
    | ret v => obtain ⟨x7,σ7,H7,I7,r7,q7⟩:=q7; exact ⟨x7,σ7,H7,I7.unpinned,r7,q7⟩
end

theorem for_list {K : PySem.W.Frag} {a : Addr} {xs : List V} {g : TG} {tb : TS} {D : Ends} {σ : St} {H : Hp} (Pv : Nat → St → Hp → Prop) (h0 : Pv 0 σ H) (hl : ∀ i σ H,i ≤ xs.length → Pv i σ H → SqL K H a xs)
    (hs : ∀ i x σ H,xs[i]? = some x → Pv i σ H → g x σ H fun σ2 H2 => tb { D with nx:=Pv (i + 1),ct:=Pv (i + 1),bk:=D.nx } σ2 H2) (hd : ∀ σ H,Pv xs.length σ H → D.nx σ H) :
    ∃ W : Nat → Nat → St → Hp → Prop,(∃ m,W 0 m σ H) ∧ ∀ i m σ H,W i m σ H →
      ((Itl K a).stop i H ∧ D.nx σ H) ∨ ((Itl K a).go i H ∧ ∃ N : St → Hp → Prop,(∀ σ' H',N σ' H' → ∃ m',m' < m ∧ W (i + 1) m' σ' H') ∧ ∀ x H',(Itl K a).yld i H x H' → g x σ H' fun σ2 H2 => tb { D with nx:=N,ct:=N,bk:=D.nx } σ2 H2):=by
  refine ⟨fun i m σ H => m = xs.length - i ∧ i ≤ xs.length ∧ Pv i σ H,⟨xs.length,by simp,Nat.zero_le _,h0⟩,?_⟩
  rintro i m σ H ⟨rfl,hi,p⟩
  have q:=hl i σ H hi p
  by_cases hlt : i < xs.length
  · refine .inr ⟨⟨xs,xs[i],q,by simp [hlt]⟩,Pv (i + 1),fun σ' H' p' => ⟨xs.length - (i + 1),by omega,rfl,hlt,p'⟩,fun x H' y => ?_⟩
    obtain ⟨e,y⟩:=y
    subst e
    exact hs i x σ _ (y xs q) p
  · have e : i = xs.length:=by omega
    subst e
    exact .inl ⟨⟨xs,q,Nat.le_refl _⟩,hd σ H p⟩
theorem for_range {lo : Int} {n : Nat} {g : TG} {tb : TS} {D : Ends} {σ : St} {H : Hp} (Pv : Nat → St → Hp → Prop) (h0 : Pv 0 σ H)
    (hs : ∀ i σ H,i < n → Pv i σ H → g (.int (lo + i)) σ H fun σ2 H2 => tb { D with nx:=Pv (i + 1),ct:=Pv (i + 1),bk:=D.nx } σ2 H2) (hd : ∀ σ H,Pv n σ H → D.nx σ H) :
    ∃ W : Nat → Nat → St → Hp → Prop,(∃ m,W 0 m σ H) ∧ ∀ i m σ H,W i m σ H →
      ((Itr lo n).stop i H ∧ D.nx σ H) ∨ ((Itr lo n).go i H ∧ ∃ N : St → Hp → Prop,(∀ σ' H',N σ' H' → ∃ m',m' < m ∧ W (i + 1) m' σ' H') ∧ ∀ x H',(Itr lo n).yld i H x H' → g x σ H' fun σ2 H2 => tb { D with nx:=N,ct:=N,bk:=D.nx } σ2 H2):=by
  refine ⟨fun i m σ H => m = n - i ∧ i ≤ n ∧ Pv i σ H,⟨n,by simp,Nat.zero_le _,h0⟩,?_⟩
  rintro i m σ H ⟨rfl,hi,p⟩
  by_cases hlt : i < n
  · refine .inr ⟨hlt,Pv (i + 1),fun σ' H' p' => ⟨n - (i + 1),by omega,rfl,hlt,p'⟩,fun x H' y => ?_⟩
    obtain ⟨e,y⟩:=y
    subst e y
    exact hs i σ _ hlt p
  · have e : i = n:=by omega
    subst e
    exact .inl ⟨Nat.le_refl _,hd σ H p⟩
end L2

namespace L2
open PySem PySem.Spec PyProof.Rows

abbrev R2:=V → V → Hp → VK → Prop
def OpR (X : Cx) (f : Value → Value → Sem Value) (r : R2) : Prop :=
  ∀ (pins : List (Addr × Obj)) (s : Shared) (σ : St) (H : Hp) (x y : V) (v u : Value) (Q : VK),Inv X pins σ H s → RelV x v → RelV y u → r x y H Q →
    wpAny (model X.prog X.w) X.A (f v u) (EP X pins σ Q) X.xe s
def UnR (X : Cx) (f : Value → Sem Value) (r : V → Hp → VK → Prop) : Prop :=
  ∀ (pins : List (Addr × Obj)) (s : Shared) (σ : St) (H : Hp) (x : V) (v : Value) (Q : VK),Inv X pins σ H s → RelV x v → r x H Q →
    wpAny (model X.prog X.w) X.A (f v) (EP X pins σ Q) X.xe s
def CallR (X : Cx) (f : Value) (r : List V → Hp → VK → Prop) : Prop :=
  ∀ (pins : List (Addr × Obj)) (s : Shared) (σ : St) (H : Hp) (xs : List V) (us : List Value) (Q : VK),Inv X pins σ H s → Vals xs us → r xs H Q →
    wpAny (model X.prog X.w) X.A (call f us) (EP X pins σ Q) X.xe s
def TruR (X : Cx) (r : V → Hp → (Bool → Hp → Prop) → Prop) : Prop :=
  ∀ (pins : List (Addr × Obj)) (s : Shared) (σ : St) (H : Hp) (x : V) (v : Value) (Q : Bool → Hp → Prop),Inv X pins σ H s → RelV x v → r x H Q →
    wpAny (model X.prog X.w) X.A (truthy v) (TP X pins σ Q) X.xe s

def tOp (r : R2) (ta tb : TE) : TE:=fun σ H Q => ta σ H fun x H1 => tb σ H1 fun y H2 => r x y H2 Q
def tUn (r : V → Hp → VK → Prop) (ta : TE) : TE:=fun σ H Q => ta σ H fun x H1 => r x H1 Q
def rI (C : Int → Int → Prop) (g : Int → Int → V) : R2:=fun x y H Q => ∃ i j,x = .int i ∧ y = .int j ∧ C i j ∧ Q (g i j) H
def rI0 (g : Int → Int → V) : R2:=fun x y H Q => ∃ i j,x = .int i ∧ y = .int j ∧ Q (g i j) H
def rU (g : Int → V) : V → Hp → VK → Prop:=fun x H Q => ∃ i,x = .int i ∧ Q (g i) H

section
variable {X : Cx} {a b c : Expr} {ta tb tc : TE} {pos : Pos}

theorem binT (ha : PE X a ta) (hb : PE X b tb) {pins : List (Addr × Obj)} {s : Shared} {σ : St} {H : Hp} {R : V → V → Hp → Prop} (I : Inv X pins σ H s)
    (h : ta σ H fun x H1 => tb σ H1 fun y H2 => R x y H2) {Q : Value → Shared → Prop} {f : Value → Value → Sem Value}
    (hf : ∀ v u s2 x y H2,Inv X pins σ H2 s2 → RelV x v → RelV y u → R x y H2 → wpAny (model X.prog X.w) X.A (f v u) Q X.xe s2) :
    wpAny (model X.prog X.w) X.A (eval a X.env) (fun v s₁ => wpAny (model X.prog X.w) X.A (eval b X.env) (fun u s₂ => wpAny (model X.prog X.w) X.A (f v u) Q X.xe s₂) X.xe s₁) X.xe s:=by
  refine thn (ha pins s σ H _ I h) fun v s1 ⟨x,H1,I1,r1,q1⟩ => ?_
  refine thn (hb pins s1 σ H1 _ I1 q1) fun u s2 ⟨y,H2,I2,r2,q2⟩ => ?_
  exact hf v u s2 x y H2 I2 r1 r2 q2

theorem pe_op {op : Operator} {r : R2} (ho : OpR X (binaryOp op) r) (ha : PE X a ta) (hb : PE X b tb) : PE X (.BinOp a op b pos) (tOp r ta tb):=by
  intro pins s σ H Q I h
  exact wpAny_BinOp (binT ha hb I h fun v u s2 x y H2 I2 rx ry q => ho pins s2 σ H2 x y v u Q I2 rx ry q)
theorem pe_un {op : UnaryOp} {r : V → Hp → VK → Prop} (ho : UnR X (unaryOp op) r) (ha : PE X a ta) : PE X (.UnaryOp op a pos) (tUn r ta):=by
  intro pins s σ H Q I h
  exact UnaryOp_ (thn (ha pins s σ H _ I h) fun v s1 ⟨x,H1,I1,r1,q1⟩ => ho pins s1 σ H1 x v Q I1 r1 q1)
theorem opI {f : Value → Value → Sem Value} {C : Int → Int → Prop} {g : Int → Int → Int}
    (rule : ∀ (i j : Int) (t u : Tok) (s : Shared) (Q : Value → Shared → Prop) (E : Value → Shared → Prop),C i j → Q (.int (g i j) s.toks) { s with toks:=s.toks + 1 } → wpAny (model X.prog X.w) X.A (f (.int i t) (.int j u)) Q E s) :
    OpR X f (rI C fun i j => .int (g i j)):=by
  intro pins s σ H x y v u Q I rx ry h
  obtain ⟨i,j,rfl,rfl,hc,q⟩:=h
  obtain ⟨t,rfl⟩:=rx
  obtain ⟨t',rfl⟩:=ry
  exact rule i j t t' s _ _ hc ⟨.int (g i j),H,I.tok _,⟨_,rfl⟩,q⟩
theorem opI0 {f : Value → Value → Sem Value} {g : Int → Int → Int}
    (rule : ∀ (i j : Int) (t u : Tok) (s : Shared) (Q : Value → Shared → Prop) (E : Value → Shared → Prop),Q (.int (g i j) s.toks) { s with toks:=s.toks + 1 } → wpAny (model X.prog X.w) X.A (f (.int i t) (.int j u)) Q E s) :
    OpR X f (rI0 fun i j => .int (g i j)):=by
  intro pins s σ H x y v u Q I rx ry h
  obtain ⟨i,j,rfl,rfl,q⟩:=h
  obtain ⟨t,rfl⟩:=rx
  obtain ⟨t',rfl⟩:=ry
  exact rule i j t t' s _ _ ⟨.int (g i j),H,I.tok _,⟨_,rfl⟩,q⟩
theorem opB0 {f : Value → Value → Sem Value} {g : Int → Int → Bool}
    (rule : ∀ (i j : Int) (t u : Tok) (s : Shared) (Q : Value → Shared → Prop) (E : Value → Shared → Prop),Q (.bool (g i j)) s → wpAny (model X.prog X.w) X.A (f (.int i t) (.int j u)) Q E s) :
    OpR X f (rI0 fun i j => .bl (g i j)):=by
  intro pins s σ H x y v u Q I rx ry h
  obtain ⟨i,j,rfl,rfl,q⟩:=h
  obtain ⟨t,rfl⟩:=rx
  obtain ⟨t',rfl⟩:=ry
  exact rule i j t t' s _ _ ⟨.bl (g i j),H,I,rfl,q⟩

def CDiv (i j : Int) : Prop:=0 < j ∧ j < 1073741824
def CPow (i j : Int) : Prop:=0 ≤ j ∧ j ≤ 1000000 ∧ i.natAbs < 2 ^ 64
def CMul (i j : Int) : Prop:=(-(2 ^ 64) < i ∧ i < 2 ^ 64) ∨ (-(2 ^ 64) < j ∧ j < 2 ^ 64)
theorem CMul.ok {i j : Int} (h : CMul i j) : IntMulOk i j:=by
  rcases h with ⟨h1,h2⟩ | ⟨h1,h2⟩
  · exact .of_left (intBits_le_64 h1 h2)
  · exact .of_right (intBits_le_64 h1 h2)
theorem op_add : OpR X (binaryOp .Add) (rI0 fun i j => .int (i + j)):=opI0 fun _ _ _ _ _ _ _ q => add_int q
theorem op_sub : OpR X (binaryOp .Sub) (rI0 fun i j => .int (i - j)):=opI0 fun _ _ _ _ _ _ _ q => sub_int q
theorem op_mul : OpR X (binaryOp .Mult) (rI CMul fun i j => .int (i * j)):=opI fun _ _ _ _ _ _ _ hc q => mul_int q hc.ok
theorem op_fdiv : OpR X (binaryOp .FloorDiv) (rI CDiv fun i j => .int (i / j)):=opI fun i j _ _ _ _ _ hc q => by
  have h1 : (0 : Int) < j:=hc.1
  have h2 : j < 1073741824:=hc.2
  exact floordiv_int (by omega) (by rw [Int.fdiv_eq_ediv_of_nonneg i (by omega)]; exact q) (.inl (PyProof.noPylong_small (by omega)))
theorem op_mod : OpR X (binaryOp .Mod) (rI (fun _ j => 0 < j) fun i j => .int (i % j)):=opI fun i j _ _ _ _ _ hc q => by
  have h1 : (0 : Int) < j:=hc
  exact mod_int' (by omega) (by rw [Int.fmod_eq_emod_of_nonneg i (by omega)]; exact q)
theorem op_pow : OpR X (binaryOp .Pow) (rI CPow fun i j => .int (i ^ j.toNat)):=opI fun _ _ _ _ _ _ _ hc q => pow_int_small hc.1 hc.2.1 hc.2.2 q
theorem unI {f : Value → Sem Value} {g : Int → Int}
    (rule : ∀ (i : Int) (t : Tok) (s : Shared) (Q : Value → Shared → Prop) (E : Value → Shared → Prop),Q (.int (g i) s.toks) { s with toks:=s.toks + 1 } → wpAny (model X.prog X.w) X.A (f (.int i t)) Q E s) :
    UnR X f (rU fun i => .int (g i)):=by
  intro pins s σ H x v Q I rx h
  obtain ⟨i,rfl,q⟩:=h
  obtain ⟨t,rfl⟩:=rx
  exact rule i t s _ _ ⟨.int (g i),H,I.tok _,⟨_,rfl⟩,q⟩
theorem un_neg : UnR X (unaryOp .USub) (rU fun i => .int (-i)):=unI fun _ _ _ _ _ q => neg_int q
end

def scal : V → V → Bool
  | .non,.non => true | .non,.int _ => true | .int _,.non => true | .non,.bl _ => true | .bl _,.non => true | .non,.str _ => true | .str _,.non => true
  | .int _,.int _ => true | .bl _,.bl _ => true | .str _,.str _ => true | .byt _,.byt _ => true
  | .int _,.str _ => true | .str _,.int _ => true | .bl _,.str _ => true | .str _,.bl _ => true
  | _,_ => false
def rEq : R2:=fun x y H Q => scal x y = true ∧ Q (.bl (decide (x = y))) H
def rNe : R2:=fun x y H Q => scal x y = true ∧ Q (.bl (!decide (x = y))) H

theorem dec_int {i j : Int} : decide (V.int i = V.int j) = (i == j):=by
  rw [Bool.eq_iff_iff]
  simp
theorem dec_bl {i j : Bool} : decide (V.bl i = V.bl j) = (i == j):=by
  rw [Bool.eq_iff_iff]
  simp
theorem dec_str {i j : Str} : decide (V.str i = V.str j) = (i == j):=by
  rw [Bool.eq_iff_iff]
  simp
theorem dec_byt {i j : Array UInt8} : decide (V.byt i = V.byt j) = (i.toList == j.toList):=by
  rw [Bool.eq_iff_iff]
  cases i
  cases j
  simp

section
variable {X : Cx} {a b c : Expr} {ta tb tc : TE} {pos : Pos}
theorem fin_bl {pins : List (Addr × Obj)} {σ : St} {H : Hp} {s : Shared} {Q : VK} {k k' : Bool} (I : Inv X pins σ H s) (q : Q (.bl k) H) (e : k = k') : EP X pins σ Q (.bool k') s:=by
  subst e
  exact ⟨.bl k,H,I,rfl,q⟩
theorem op_eq : OpR X (compareOp .Eq) rEq:=by
  intro pins s σ H x y v u Q I rx ry h
  obtain ⟨hs,q⟩:=h
  cases x with
  | non =>
    cases rx
    cases y with
    | non => cases ry; exact PySem.EqNone.eq_none_none (fin_bl I q (by simp))
    | bl j => cases ry; exact PySem.EqNone.eq_none_bool (fin_bl I q (by simp))
    | int j => obtain ⟨t',rfl⟩:=ry; exact PySem.EqNone.eq_none_int (fin_bl I q (by simp))
    | str j => obtain ⟨t',rfl⟩:=ry; exact PySem.EqNone.eq_none_str (fin_bl I q (by simp))
    | _ => exact absurd (show false = true from hs) Bool.false_ne_true
  | bl i =>
    cases rx
    cases y with
    | non => cases ry; exact PySem.EqNone.eq_bool_none (fin_bl I q (by simp))
    | bl j => cases ry; exact eq_bool (fin_bl I q dec_bl)
    | str j => obtain ⟨t',rfl⟩:=ry; exact PySem.EqMixed.eq_bool_str (fin_bl I q (by simp))
    | _ => exact absurd (show false = true from hs) Bool.false_ne_true
  | int i =>
    obtain ⟨t,rfl⟩:=rx
    cases y with
    | non => cases ry; exact PySem.EqNone.eq_int_none (fin_bl I q (by simp))
    | int j => obtain ⟨t',rfl⟩:=ry; exact eq_int (fin_bl I q dec_int)
    | str j => obtain ⟨t',rfl⟩:=ry; exact PySem.EqMixed.eq_int_str (fin_bl I q (by simp))
    | _ => exact absurd (show false = true from hs) Bool.false_ne_true
  | str i =>
    obtain ⟨t,rfl⟩:=rx
    cases y with
    | non => cases ry; exact PySem.EqNone.eq_str_none (fin_bl I q (by simp))
    | bl j => cases ry; exact PySem.EqMixed.eq_str_bool (fin_bl I q (by simp))
    | int j => obtain ⟨t',rfl⟩:=ry; exact PySem.EqMixed.eq_str_int (fin_bl I q (by simp))
    | str j => obtain ⟨t',rfl⟩:=ry; exact eq_str (fin_bl I q dec_str)
    | _ => exact absurd (show false = true from hs) Bool.false_ne_true
  | byt i =>
    obtain ⟨t,rfl⟩:=rx
    cases y with
    | byt j => obtain ⟨t',rfl⟩:=ry; exact PySem.W.eq_bytes (fin_bl I q dec_byt)
    | _ => exact absurd (show false = true from hs) Bool.false_ne_true
  | _ => cases y <;> exact absurd (show false = true from hs) Bool.false_ne_true
theorem op_ne : OpR X (compareOp .NotEq) rNe:=by
  intro pins s σ H x y v u Q I rx ry h
  obtain ⟨hs,q⟩:=h
  cases x with
  | non =>
    cases rx
    cases y with
    | non => cases ry; exact PySem.EqNone.ne_none_none (fin_bl I q (by simp))
    | bl j => cases ry; exact PySem.EqNone.ne_none_bool (fin_bl I q (by simp))
    | int j => obtain ⟨t',rfl⟩:=ry; exact PySem.EqNone.ne_none_int (fin_bl I q (by simp))
    | str j => obtain ⟨t',rfl⟩:=ry; exact PySem.EqNone.ne_none_str (fin_bl I q (by simp))
    | _ => exact absurd (show false = true from hs) Bool.false_ne_true
  | bl i =>
    cases rx
    cases y with
    | non => cases ry; exact PySem.EqNone.ne_bool_none (fin_bl I q (by simp))
    | bl j => cases ry; exact ne_bool (fin_bl I q (congrArg not dec_bl))
    | str j => obtain ⟨t',rfl⟩:=ry; exact PySem.EqMixed.ne_bool_str (fin_bl I q (by simp))
    | _ => exact absurd (show false = true from hs) Bool.false_ne_true
  | int i =>
    obtain ⟨t,rfl⟩:=rx
    cases y with
    | non => cases ry; exact PySem.EqNone.ne_int_none (fin_bl I q (by simp))
    | int j => obtain ⟨t',rfl⟩:=ry; exact ne_int (fin_bl I q (congrArg not dec_int))
    | str j => obtain ⟨t',rfl⟩:=ry; exact PySem.EqMixed.ne_int_str (fin_bl I q (by simp))
    | _ => exact absurd (show false = true from hs) Bool.false_ne_true
  | str i =>
    obtain ⟨t,rfl⟩:=rx
    cases y with
    | non => cases ry; exact PySem.EqNone.ne_str_none (fin_bl I q (by simp))
    | bl j => cases ry; exact PySem.EqMixed.ne_str_bool (fin_bl I q (by simp))
    | int j => obtain ⟨t',rfl⟩:=ry; exact PySem.EqMixed.ne_str_int (fin_bl I q (by simp))
    | str j => obtain ⟨t',rfl⟩:=ry; exact ne_str (fin_bl I q (congrArg not dec_str))
    | _ => exact absurd (show false = true from hs) Bool.false_ne_true
  | byt i =>
    obtain ⟨t,rfl⟩:=rx
    cases y with
    | byt j => obtain ⟨t',rfl⟩:=ry; exact PySem.W.ne_bytes (fin_bl I q (congrArg not dec_byt))
    | _ => exact absurd (show false = true from hs) Bool.false_ne_true
  | _ => cases y <;> exact absurd (show false = true from hs) Bool.false_ne_true

theorem op_lt : OpR X (compareOp .Lt) (rI0 fun i j => .bl (decide (i < j))):=opB0 fun _ _ _ _ _ _ _ q => lt_int q
theorem op_le : OpR X (compareOp .LtE) (rI0 fun i j => .bl (decide (i ≤ j))):=opB0 fun _ _ _ _ _ _ _ q => le_int q
theorem op_ge : OpR X (compareOp .GtE) (rI0 fun i j => .bl (decide (j ≤ i))):=opB0 fun _ _ _ _ _ _ _ q => ge_int q
theorem OpR.or {f : Value → Value → Sem Value} {r r' : R2} (h : OpR X f r) (h' : OpR X f r') : OpR X f (fun x y H Q => r x y H Q ∨ r' x y H Q):=by
  intro pins s σ H x y v u Q I rx ry q
  rcases q with q | q
  · exact h pins s σ H x y v u Q I rx ry q
  · exact h' pins s σ H x y v u Q I rx ry q

theorem nomark (b : Expr) {op : CmpOp} (h : op ≠ .In:=by decide) (h2 : op ≠ .NotIn:=by decide) : behindInMarks op b = false:=by
  have e1 : (op == CmpOp.In) = false:=by cases op <;> first | rfl | exact absurd rfl h
  have e2 : (op == CmpOp.NotIn) = false:=by cases op <;> first | rfl | exact absurd rfl h2
  cases b <;> simp [behindInMarks,e1,e2]
theorem pe_cmpR {op : CmpOp} {r : R2} (ho : OpR X (compareOp op) r) (ha : PE X a ta) (hb : PE X b tb) (hm : behindInMarks op b = false) : PE X (.Compare a [op] [b] pos) (tOp r ta tb):=by
  intro pins s σ H Q I h
  exact wpAny_Compare1 (binT ha hb I h fun v u s2 x y H2 I2 rx ry q => ho pins s2 σ H2 x y v u Q I2 rx ry q) hm
def tTest (t : TE) : TT:=fun σ H Q => t σ H fun x H' => ∃ k,x = .bl k ∧ Q k H'
theorem pt_cmpR {op : CmpOp} {r : R2} (ho : OpR X (compareOp op) r) (ha : PE X a ta) (hb : PE X b tb) (hm : behindInMarks op b = false) : PT X (.Compare a [op] [b] pos) (tTest (tOp r ta tb)):=by
  intro pins s σ H Q I h
  refine wpAny_isTrue_Compare1 (thn (ha pins s σ H _ I h) fun v s1 ⟨x,H1,I1,r1,q1⟩ => thn (hb pins s1 σ H1 _ I1 q1) fun u s2 ⟨y,H2,I2,r2,q2⟩ =>
    thn (ho pins s2 σ H2 x y v u _ I2 r1 r2 q2) fun c s3 ⟨z,H3,I3,r3,k,e,q3⟩ => ?_) hm
  subst e
  cases r3
  exact wpAny_truthy_bool ⟨H3,I3,q3⟩
def tChain (r r' : R2) (ta tb tc : TE) : TE:=fun σ H Q => ta σ H fun x H1 => tb σ H1 fun y H2 => r x y H2 fun z H3 => ∃ k,z = .bl k ∧
  (if k = true then tc σ H3 fun w' H4 => r' y w' H4 Q else Q (.bl false) H3)
theorem pe_chain {op op' : CmpOp} {r r' : R2} (ho : OpR X (compareOp op) r) (ho' : OpR X (compareOp op') r') (ha : PE X a ta) (hb : PE X b tb) (hc : PE X c tc)
    (hm : lastMarks [op,op'] [b,c] = false:=by with_unfolding_all rfl) : PE X (.Compare a [op,op'] [b,c] pos) (tChain r r' ta tb tc):=by
  intro pins s σ H Q I h
  refine Compare_chain (thn (ha pins s σ H _ I h) fun v s1 ⟨x,H1,I1,r1,q1⟩ => chain_link (thn (hb pins s1 σ H1 _ I1 q1) fun u s2 ⟨y,H2,I2,r2,q2⟩ =>
    thn (ho pins s2 σ H2 x y v u _ I2 r1 r2 q2) fun d s3 ⟨z,H3,I3,r3,k,e,q3⟩ => ?_)) hm
  subst e
  cases r3
  refine wpAny_truthy_bool ?_
  cases k with
  | false => exact ite_ff ⟨.bl false,H3,I3,rfl,q3⟩
  | true => exact ite_tt (chain_last (thn (hc pins s3 σ H3 _ I3 q3) fun w' s4 ⟨z',H4,I4,r4,q4⟩ => ho' pins s4 σ H4 y z' u w' Q I4 r2 r4 q4))
def TruV (K : PySem.W.Frag) (x : V) (H : Hp) (k : Bool) : Prop :=
  match x with
  | .non => k = false
  | .bl b => k = b
  | .int i => k = (i != 0)
  | .str y => y.length ≤ sizeLine ∧ k = ((y.length : Int) != 0)
  | .byt y => y.size ≤ sizeLine ∧ k = ((y.size : Int) != 0)
  | .ref p => (∃ xs,SqL K H p xs ∧ k = !xs.isEmpty) ∨ (∃ xs,SqT K H p xs ∧ k = !xs.isEmpty) ∨ ∃ kvs,H p = some (.dK kvs) ∧ k = !kvs.isEmpty
  | _ => False
theorem isEmpty_kv {κ : Type} {kvs : List (κ × V)} {vs : List (κ × Value)} (r : KV kvs vs) : (!vs.isEmpty) = !kvs.isEmpty:=by
  cases r <;> rfl
theorem isEmpty_of {xs : List V} {its : List Value} (r : Vals xs its) : (!its.toArray.isEmpty) = !xs.isEmpty:=by
  cases r <;> simp
theorem line63 : (sizeLine : Nat) < 2 ^ 63:=by rw [sizeLine_eq]; decide
theorem tru_ok : TruR X (fun x H Q => ∃ k,TruV X.K x H k ∧ Q k H):=by
  intro pins s σ H x v Q I rx h
  obtain ⟨k,e,q⟩:=h
  have hl:=line63
  have hs : sizeLine = 16777216:=sizeLine_eq
  cases x with
  | non =>
    cases rx
    have e' : k = false:=e
    subst e'
    exact truthy_none ⟨H,I,q⟩
  | bl b =>
    cases rx
    have e' : k = b:=e
    subst e'
    exact wpAny_truthy_bool ⟨H,I,q⟩
  | int i =>
    obtain ⟨t,rfl⟩:=rx
    have e' : k = (i != 0):=e
    subst e'
    exact PySem.P.truthy_int ⟨H,I,q⟩
  | str y =>
    obtain ⟨t,rfl⟩:=rx
    obtain ⟨hy,e'⟩ : y.length ≤ sizeLine ∧ k = ((y.length : Int) != 0):=e
    subst e'
    exact PySem.P.truthy_str (by omega) ⟨H,I.tok _,q⟩
  | byt y =>
    obtain ⟨t,rfl⟩:=rx
    obtain ⟨hy,e'⟩ : y.size ≤ sizeLine ∧ k = ((y.size : Int) != 0):=e
    subst e'
    exact PySem.W.truthy_bytes (by omega) ⟨H,I.tok _,q⟩
  | ref p =>
    cases rx
    have e' : (∃ xs,SqL X.K H p xs ∧ k = !xs.isEmpty) ∨ (∃ xs,SqT X.K H p xs ∧ k = !xs.isEmpty) ∨ ∃ kvs,H p = some (.dK kvs) ∧ k = !kvs.isEmpty:=e
    rcases e' with ⟨xs,hx,e'⟩ | ⟨xs,hx,e'⟩ | ⟨kvs,hx,e'⟩
    · subst e'
      obtain ⟨its,r,pl,hz⟩:=I.list hx
      have hlen:=r.length
      exact wpAny_truthy_list pl.isList (by simp only [List.size_toArray]; omega) ⟨H,I.tok _,by rw [isEmpty_of r]; exact q⟩
    · subst e'
      obtain ⟨its,r,pl,hz⟩:=I.tuple hx
      have hlen:=r.length
      exact truthy_tuple pl (by simp only [List.size_toArray]; omega) ⟨H,I.tok _,by rw [isEmpty_of r]; exact q⟩
    · subst e'
      obtain ⟨hz,hS,vs,r,m⟩ : kvs.length ≤ sizeLine ∧ (p == sysModules) = false ∧ ∃ vs,KV kvs vs ∧ s.heap.DictOf (mixKind X.prog X.w) p vs:=I.hok p _ hx
      have hlen : kvs.length = vs.length:=Paired.length r
      exact wpAny_truthy_dict hS m (by omega) ⟨H,I.tok _,by rw [isEmpty_kv r]; exact q⟩
  | _ => exact (show False from e).elim
theorem pt_truth (ha : PE X a ta) (he : ∀ whole,isTrue a X.env whole = (do let v ← whole; standAt a.pos; holding [v] (truthy v))) :
    PT X a (fun σ H Q => ta σ H fun x H' => ∃ k,TruV X.K x H' k ∧ Q k H'):=by
  intro pins s σ H Q I h
  exact isTrue_plain (thn (ha pins s σ H _ I h) fun v s1 ⟨x,H1,I1,r1,q1⟩ => tru_ok pins s1 σ H1 x v Q I1 r1 q1) (he _)

theorem vals1 {x : V} {us : List Value} (r : Vals [x] us) : ∃ u,us = [u] ∧ RelV x u:=by
  cases r with
  | cons r1 r2 => cases r2; exact ⟨_,rfl,r1⟩
theorem vals2 {x y : V} {us : List Value} (r : Vals [x,y] us) : ∃ u w',us = [u,w'] ∧ RelV x u ∧ RelV y w':=by
  cases r with
  | cons r1 r2 =>
    cases r2 with
    | cons r3 r4 => cases r4; exact ⟨_,_,rfl,r1,r3⟩
end
end L2

namespace L2
open PySem PySem.Spec PyProof.Rows

structure ObjM (h : Heap) (x dx C : Addr) (mA : Str → Option Value) : Prop where
  obj : h.get? x = some (PySem.W.instObj C dx)
  ns : h.Ns1 dx mA
  ne : dx ≠ x

theorem lookIn_ns {h : Heap} {dx : Addr} {mA : Str → Option Value} (n : h.Ns1 dx mA) : ∃ od,h.get? dx = some od ∧ ∀ name,PySem.W.lookIn name od = some (mA name):=by
  obtain ⟨o,es,ep,ho,hd,hk,_,hm⟩:=n
  refine ⟨o,ho,fun name => ?_⟩
  have e:=hm name
  unfold nsFind findBy at e
  rw [← Array.find?_toList] at e
  unfold PySem.W.lookIn
  rw [hd]
  dsimp only
  split
  · rename_i y q
    rw [q] at e
    exact congrArg some e
  · rename_i q
    rw [q] at e
    have a : es.toList.any (·.refKey) = false:=by
      rw [List.any_eq_false]
      intro y hy
      obtain ⟨z,t,hkey⟩:=hk y (Array.mem_toList_iff.mp hy)
      simp [DictEntry.refKey,hkey]
    have a' : ¬ es.toList.any (·.refKey) = true:=by rw [a]; exact Bool.false_ne_true
    rw [if_neg a']
    exact congrArg some e

theorem ObjM.look {h : Heap} {x dx C : Addr} {mA : Str → Option Value} (I : ObjM h x dx C mA) : ∃ od,PySem.W.InstAt h x (PySem.W.instObj C dx) C (some od) ∧ ∀ name,PySem.W.lookIn name od = some (mA name) :=
  let ⟨od,ho,hl⟩:=lookIn_ns I.ns
  ⟨od,⟨I.obj,rfl,rfl,ho⟩,hl⟩

section
variable {prog : Program} {w : World} {A : Around} {E : Value → Shared → Prop} {s : Shared} {K : PySem.W.Frag} {x dx C f : Addr} {mA : Str → Option Value} {name : Str} {v : Value}

theorem get_map {expr : Bool} {Q : Value → Shared → Prop} (X : K.In s.heap) (I : ObjM s.heap x dx C mA) (hg : PySem.W.plainGet K C name = true) (hh : PySem.W.hasDictIn K C = true)
    (ha : PySem.W.findIn K (.ref C) name = some none) (hv : mA name = some v) (hv' : PySem.W.handedIn v = true) (h : Q v { s with toks:=s.toks + 1 }) :
    wpAny (model prog w) A (getAttr (.ref x) name expr) Q E s:=by
  obtain ⟨od,J,hl⟩:=I.look
  exact PySem.W.get_value X J (PySem.W.plainGet_of hg).1 (PySem.W.findObj_own hh ha rfl (by rw [hl,hv])) hv' h

theorem get_meth {pl : Sem Bool} {Q : Value × List Value → Shared → Prop} (X : K.In s.heap) (I : ObjM s.heap x dx C mA) (hg : PySem.W.plainGet K C name = true)
    (hf : PySem.W.findIn K (.ref C) name = some (some (.ref f))) (ht : PySem.W.isFn K (.ref f) = true) (hv : mA name = none) (h : Q (.ref f,[.ref x]) s) :
    wpAny (model prog w) A (getMethod (.ref x) name pl) Q E s:=by
  obtain ⟨od,J,hl⟩:=I.look
  exact PySem.W.method_fn X J (PySem.W.plainGet_of hg).1 (PySem.W.plainGet_of hg).2 hf (beq_iff_eq.mp ht) (by show (PySem.W.lookIn name od).map (·.isSome) = some false; rw [hl,hv]; rfl) h

theorem set_map {ns : List Str} {Q : Unit → Shared → Prop} (X : K.In s.heap) (I : ObjM s.heap x dx C mA)
    (hs : PySem.W.findIn K (.ref C) "__setattr__" = some (some (.builtin "object.__setattr__"))) (hp : PySem.W.plainOver K C = true) (ht : PySem.W.takerIn K C name = some none) (hh : PySem.W.hasDictIn K C = true)
    (hw : PySem.Within mA ns) (hsz : ns.length ≤ sizeLine)
    (h : ∀ h',ObjM h' x dx C (fun y => if y = name then some v else mA y) → Heap.SameBut dx s.heap h' → Q () { s with heap:=h',toks:=s.toks + 2 }) :
    wpAny (model prog w) A (setAttr (.ref x) name v) Q E s:=by
  obtain ⟨od,J,hl⟩:=I.look
  refine PySem.W.set_plain X J hs (PySem.W.osa_open (s:={ s with toks:=s.toks + 1 }) (r:=none) X J hp ht fun b => ?_)
  obtain ⟨cd,hc,hd'⟩:=PySem.W.any_some hh
  have hx : s.heap.get? x = some ⟨.ref C,some dx,.plain,#[]⟩:=I.obj
  refine wpAny_bind (wpAny_pure (wpAny_bind (wpAny_bind (wpAny_loadPart hx (wpAny_bind (PySem.W.Looks.here (s:={ s with toks:=s.toks + 1 }) (PySem.W.looks_clsIn X hc) ?_))))))
  rw [hd']
  refine wpAny_pure (a:=some dx) (wpAny_bind (wpAny_pure (wpAny_bind ?_)))
  refine wpAny_nsSet1 (s:={ s with toks:=s.toks + 1 }) I.ns fun h' hn2 hs2 => ?_
  obtain ⟨oD,esD,epD,hoD,hdD,hcD⟩:=hn2.count (PySem.Within.cons name v hw)
  refine wpAny_bind (wpAny_lookBehind hoD (by rw [hdD]; exact pastItsLine_dict (Nat.le_trans hcD (by rw [List.length_cons]; omega))) ?_)
  exact wpAny_pure (h _ ⟨(hs2.2 _ (Ne.symm I.ne)).trans I.obj,hn2,I.ne⟩ hs2)

theorem make_map {R : Result → Shared → Prop} {vs : List Value} {kw : List (Str × Value)} (X : K.In s.heap) (hm : PySem.W.makesIn K C = true)
    (hi : PySem.W.findIn K (.ref C) "__init__" = some (some (.ref f))) (hf : PySem.W.typeIn K (.ref f) = some (.type "function"))
    (h : codeAny (model prog w) (A.under (.builtin "type.__call__" ⟨.ref C :: vs,kw⟩)) (.call (.ref f) ⟨.ref (s.heap.objs.size + 1) :: vs,kw⟩) (PySem.W.InitBack (s.heap.objs.size + 1) R)
      { s with heap:=(s.heap.push PySem.W.emptyDict).push (PySem.W.instObj C s.heap.objs.size) }) :
    codeAny (model prog w) A (.call (.ref C) ⟨vs,kw⟩) R s:=by
  obtain ⟨hh,g,d,t,os⟩:=s
  exact PySem.W.make_core (PySem.W.makes_of X hm) (PySem.W.looks_findIn X hi) (fun self => PySem.W.bind_fn X self hf) (.inl rfl) h
end

def putF (f : Str) (v : V) : List (Str × V) → List (Str × V)
  | [] => [(f,v)]
  | (g,x) :: r => if g = f then (g,v) :: r else (g,x) :: putF f v r
theorem lookup_putF (f g : Str) (v : V) : ∀ fs : List (Str × V),(putF f v fs).lookup g = if g = f then some v else fs.lookup g
  | [] => by
    show List.lookup g [(f,v)] = _
    by_cases h : g = f
    · have hb : (g == f) = true:=beq_iff_eq.mpr h
      simp only [List.lookup,hb,if_pos h]
    · have hb : (g == f) = false:=beq_eq_false_iff_ne.mpr h
      simp only [List.lookup,hb,if_neg h]
  | (k,x) :: r => by
    have ih:=lookup_putF f g v r
    rw [show putF f v ((k,x) :: r) = (if k = f then (k,v) :: r else (k,x) :: putF f v r) from rfl]
    by_cases hk : k = f
    · rw [if_pos hk]
      by_cases h : g = k
      · have hb : (g == k) = true:=beq_iff_eq.mpr h
        simp only [List.lookup,hb,if_pos (h.trans hk)]
      · have hb : (g == k) = false:=beq_eq_false_iff_ne.mpr h
        simp only [List.lookup,hb,if_neg (fun e : g = f => h (e.trans hk.symm))]
    · rw [if_neg hk]
      by_cases h : g = k
      · have hb : (g == k) = true:=beq_iff_eq.mpr h
        simp only [List.lookup,hb,if_neg (fun e : g = f => hk (h.symm.trans e))]
      · have hb : (g == k) = false:=beq_eq_false_iff_ne.mpr h
        simp only [List.lookup,hb]
        exact ih
theorem keys_putF (f : Str) (v : V) : ∀ fs : List (Str × V),f ∈ (putF f v fs).map (·.1) ∧ ∀ g,g ∈ fs.map (·.1) → g ∈ (putF f v fs).map (·.1)
  | [] => ⟨by simp [putF],fun g h => by simp at h⟩
  | (k,x) :: r => by
    obtain ⟨i1,i2⟩:=keys_putF f v r
    rw [show putF f v ((k,x) :: r) = (if k = f then (k,v) :: r else (k,x) :: putF f v r) from rfl]
    by_cases hk : k = f
    · rw [if_pos hk]
      subst hk
      exact ⟨by simp,fun g h => by simpa using h⟩
    · rw [if_neg hk]
      refine ⟨?_,fun g h => ?_⟩
      · rw [List.map_cons]
        exact List.mem_cons_of_mem _ i1
      · rw [List.map_cons] at h ⊢
        rcases List.mem_cons.mp h with e | e
        · exact List.mem_cons.mpr (.inl e)
        · exact List.mem_cons_of_mem _ (i2 g e)
theorem length_putF (f : Str) (v : V) : ∀ fs : List (Str × V),(putF f v fs).length ≤ fs.length + 1
  | [] => by simp [putF]
  | (k,x) :: r => by
    have ih:=length_putF f v r
    rw [show putF f v ((k,x) :: r) = (if k = f then (k,v) :: r else (k,x) :: putF f v r) from rfl]
    by_cases hk : k = f
    · rw [if_pos hk,List.length_cons,List.length_cons]; omega
    · rw [if_neg hk,List.length_cons,List.length_cons]; omega

theorem RelO.some_of {v : V} {o : Option Value} (r : RelO (some v) o) : ∃ u,o = some u ∧ RelV v u:=by
  cases o with
  | none => exact (show False from r).elim
  | some u => exact ⟨u,rfl,r⟩
theorem RelO.none_of {o : Option Value} (r : RelO none o) : o = none:=by
  cases o with
  | none => rfl
  | some u => exact (show False from r).elim
theorem handed_of {v : V} {u : Value} (r : RelV v u) : PySem.W.handedIn u = true:=by
  cases v with
  | non => cases (show u = Value.none from r); rfl
  | bl b => cases (show u = Value.bool b from r); rfl
  | int i => obtain ⟨t,e⟩:=(show ∃ t,u = Value.int i t from r); cases e; rfl
  | str x => obtain ⟨t,e⟩:=(show ∃ t,u = Value.str x t from r); cases e; rfl
  | byt b => obtain ⟨t,e⟩:=(show ∃ t,u = Value.bytes b t from r); cases e; rfl
  | flt b => obtain ⟨t,e⟩:=(show ∃ t,u = Value.float b t from r); cases e; rfl
  | ref a => cases (show u = Value.ref a from r); rfl
  | ty n => cases (show u = Value.type n from r); rfl

section
variable {P : Program} {w : World} {H H' : Hp} {h h' : Heap} {a C dx : Addr} {fs fs' : List (Str × V)}
theorem ins_get (hok : HOk P w H h) (e : H a = some (.ins C dx fs)) : ∃ mA,ObjM h a dx C mA ∧ (∀ f,RelO (fs.lookup f) (mA f)) ∧ PySem.Within mA (fs.map (·.1)) ∧ fs.length ≤ 1000 ∧ H dx = some (.own a):=by
  obtain ⟨d,z,ne,ob,mA,n,r,q⟩:=(show ObjOk P w H h a (.ins C dx fs) from hok a _ e)
  exact ⟨mA,⟨ob,n,ne⟩,r,q,z,d⟩
end

structure Cls (K : PySem.W.Frag) (C : Addr) : Prop where
  pg : PySem.W.plainGet K C Str.empty = true
  hd : PySem.W.hasDictIn K C = true
  po : PySem.W.plainOver K C = true
  sa : PySem.W.findIn K (.ref C) "__setattr__" = some (some (.builtin "object.__setattr__"))
theorem Cls.get {K : PySem.W.Frag} {C : Addr} (c : Cls K C) (f : Str) : PySem.W.plainGet K C f = true:=c.pg
def NoAttr (K : PySem.W.Frag) (C : Addr) (f : Str) : Prop:=PySem.W.findIn K (.ref C) f = some none
theorem NoAttr.taker {K : PySem.W.Frag} {C : Addr} {f : Str} (n : NoAttr K C f) : PySem.W.takerIn K C f = some none:=by
  unfold PySem.W.takerIn
  rw [show PySem.W.findIn K (.ref C) f = some none from n]
  rfl
structure Meth (K : PySem.W.Frag) (C : Addr) (m : Str) (f : Addr) : Prop where
  at_ : PySem.W.findIn K (.ref C) m = some (some (.ref f))
  fn : PySem.W.isFn K (.ref f) = true
  kp : PySem.W.keepIn K (.ref f) = true

section
variable {X : Cx} {pins : List (Addr × Obj)} {σ : St} {H : Hp} {s : Shared} {a C dx : Addr} {fs : List (Str × V)} {f : Str} {v : V} {A : Around} {E : Value → Shared → Prop}

theorem getattr_ok {b : Bool} {Q : Value → Shared → Prop} (I : Inv X pins σ H s) (e : H a = some (.ins C dx fs)) (c : Cls X.K C) (n : NoAttr X.K C f) (l : fs.lookup f = some v)
    (h : ∀ u s',Inv X pins σ H s' → RelV v u → Q u s') : wpAny (model X.prog X.w) A (getAttr (.ref a) f b) Q E s:=by
  obtain ⟨mA,O,r,_,_,_⟩:=ins_get I.hok e
  obtain ⟨u,hu,ru⟩:=RelO.some_of (v:=v) (o:=mA f) (by rw [← l]; exact r f)
  exact get_map I.kIn O (c.get f) c.hd n hu (handed_of ru) (h u _ (I.tok _) ru)

theorem getmeth_ok {m : Str} {g : Addr} {pl : Sem Bool} {Q : Value × List Value → Shared → Prop} (I : Inv X pins σ H s) (e : H a = some (.ins C dx fs)) (c : Cls X.K C) (k : Meth X.K C m g) (l : fs.lookup m = none)
    (h : Q (.ref g,[.ref a]) s) : wpAny (model X.prog X.w) A (getMethod (.ref a) m pl) Q E s:=by
  obtain ⟨mA,O,r,_,_,_⟩:=ins_get I.hok e
  have hn : mA m = none:=RelO.none_of (by rw [← l]; exact r m)
  exact get_meth I.kIn O (c.get m) k.at_ k.fn hn h

theorem setattr_ok {y : V} {u : Value} {Q : Unit → Shared → Prop} (I : Inv X pins σ H s) (e : H a = some (.ins C dx fs)) (c : Cls X.K C) (n : NoAttr X.K C f) (hl : fs.length < 1000) (ry : RelV y u)
    (h : ∀ s',Inv X pins σ (upd H a (.ins C dx (putF f y fs))) s' → Q () s') : wpAny (model X.prog X.w) A (setAttr (.ref a) f u) Q E s:=by
  obtain ⟨mA,O,r,wi,_,ho⟩:=ins_get I.hok e
  have hz : (fs.map (·.1)).length ≤ sizeLine:=by rw [List.length_map,sizeLine_eq]; omega
  refine set_map I.kIn O c.sa c.po n.taker c.hd wi hz fun h' O' sb => h _ ?_
  have hd : ∃ o,h'.get? dx = some o:=let ⟨o,_,_,e',_⟩:=O'.ns; ⟨o,e'⟩
  refine I.write (x:=a) (e:=dx) (by rw [e]; exact True.intro) (.inr ho) (fun b q hb z => (sb.2 b hb).trans z) hd ?_
  refine ⟨by rw [upd_ne O.ne]; exact ho,?_,O.ne,O'.obj,_,O'.ns,fun g => ?_,fun g hg => ?_⟩
  · have:=length_putF f y fs; omega
  · show RelO ((putF f y fs).lookup g) (if g = f then some u else mA g)
    rw [lookup_putF]
    by_cases q : g = f
    · rw [if_pos q,if_pos q]; exact ry
    · rw [if_neg q,if_neg q]; exact r g
  · by_cases q : g = f
    · rw [q]; exact (keys_putF f y fs).1
    · refine (keys_putF f y fs).2 g (wi g fun z => hg ?_)
      show (if g = f then some u else mA g) = none
      rw [if_neg q]; exact z

theorem Inv.made (I : Inv X pins σ H s) : Inv X pins σ (upd (upd H s.heap.objs.size (.own (s.heap.objs.size + 1))) (s.heap.objs.size + 1) (.ins C s.heap.objs.size []))
    { s with heap:=(s.heap.push PySem.W.emptyDict).push (PySem.W.instObj C s.heap.objs.size) }:=by
  have e1 : (s.heap.push PySem.W.emptyDict).get? s.heap.objs.size = some PySem.W.emptyDict:=Heap.get?_push_size s.heap rfl
  have e2 : ((s.heap.push PySem.W.emptyDict).push (PySem.W.instObj C s.heap.objs.size)).get? (s.heap.objs.size + 1) = some (PySem.W.instObj C s.heap.objs.size):=by
    have:=Heap.get?_push_size (s.heap.push PySem.W.emptyDict) (o:=PySem.W.instObj C s.heap.objs.size) rfl
    rwa [Heap.size_push] at this
  have e3 : (s.heap.push PySem.W.emptyDict).Ns s.heap.objs.size (fun _ => none):=⟨PySem.W.emptyDict,#[],_,e1,rfl,(fun e he => absurd he (by simp)),fun _ => rfl⟩
  have I1:=I.laid (a:=s.heap.objs.size) (o:=.own (s.heap.objs.size + 1)) (h':=s.heap.push PySem.W.emptyDict) (t':=s.toks) (fun b u q => Heap.get?_push_of_some _ q) (Nat.le_refl _) ⟨_,e1⟩
  refine I1.laid (a:=s.heap.objs.size + 1) (o:=.ins C s.heap.objs.size []) (t':=s.toks) (fun b u q => Heap.get?_push_of_some _ q) (Nat.le_of_eq (Heap.size_push _ _)) ?_
  have ne : s.heap.objs.size ≠ s.heap.objs.size + 1:=Nat.ne_of_lt (Nat.lt_succ_self _)
  refine ⟨by rw [upd_ne ne,upd_same],Nat.zero_le _,ne,e2,fun _ => none,(Heap.Ns1.of_empty e3).at fun o q => Heap.get?_push_of_some _ q,fun _ => True.intro,fun y hy => absurd rfl hy⟩

theorem attr_of {prog : Program} {w : World} {env : Env} {e : Expr} {f : Str} {pos : Pos} {s : Shared} {Q : Value → Shared → Prop} (hb : attributeBase e f env (eval e env) = eval e env)
    (h : wpAny (model prog w) A (eval e env) (fun o s₁ => wpAny (model prog w) A (getAttr o f true) Q E s₁) E s) : wpAny (model prog w) A (eval (.Attribute e f pos) env) Q E s :=
  Attribute_any_ h (by rw [arm_eval_Attribute,hb])
end

def tFld (K : PySem.W.Frag) (ta : TE) (f : Str) : TE:=fun σ H Q => ta σ H fun x H1 => ∃ a C dx fs v,x = .ref a ∧ H1 a = some (.ins C dx fs) ∧ Cls K C ∧ NoAttr K C f ∧ fs.lookup f = some v ∧ Q v H1
def sFld (K : PySem.W.Frag) (ta tv : TE) (f : Str) : TS:=fun D σ H => tv σ H fun y H1 => ta σ H1 fun x H2 => ∃ a C dx fs,x = .ref a ∧ H2 a = some (.ins C dx fs) ∧ Cls K C ∧ NoAttr K C f ∧ fs.length < 1000 ∧
  D.nx σ (upd H2 a (.ins C dx (putF f y fs)))
section
variable {X : Cx} {o e value : Expr} {f : Str} {pos pos' tpos : Pos} {ta tv : TE}
theorem pe_fld (he : PE X e ta) (hb : attributeBase e f X.env (eval e X.env) = eval e X.env) : PE X (.Attribute e f pos) (tFld X.K ta f):=by
  intro pins s σ H Q I h
  refine attr_of hb (thn (he pins s σ H _ I h) fun u s1 ⟨x,H1,I1,rx,a,C,dx,fs,v,ex,ea,c,n,l,q⟩ => ?_)
  subst ex
  obtain rfl : u = Value.ref a:=rx
  exact getattr_ok I1 ea c n l fun u' s2 I2 ru => ⟨v,H1,I2,ru,q⟩
theorem ps_fld (ha : PE X o ta) (hv : PE X value tv) (hs : swapsWith value (some (.Attribute o f pos')) pos.line X.env = pure false) : PS X (.Assign [.Attribute o f pos'] value pos) (sFld X.K ta tv f):=by
  intro pins s σ H D I h
  refine plainObj_wpAny_Assign_Attribute (thn (hv pins s σ H _ I h) fun u s1 ⟨y,H1,I1,ry,q⟩ => thn (ha pins s1 σ H1 _ I1 q) fun ov s2 ⟨x,H2,I2,rx,a,C,dx,fs,ex,ea,c,n,l,q2⟩ => ?_) hs
  subst ex
  obtain rfl : ov = Value.ref a:=rx
  exact setattr_ok I2 ea c n l ry fun s3 I3 => ⟨σ,_,I3,q2⟩
theorem methcall_of {pl : Sem Bool} {m : Str} {apos : Pos} {args : List Expr} {pins : List (Addr × Obj)} {s : Shared} {σ : St} {H : Hp} {Q : Value → Shared → Prop} {te : TE} (he : PE X e te) (I : Inv X pins σ H s)
    (h : te σ H fun x H1 => ∃ a C dx fs g,x = .ref a ∧ H1 a = some (.ins C dx fs) ∧ Cls X.K C ∧ Meth X.K C m g ∧ fs.lookup m = none ∧
      ∀ s1,Inv X pins σ H1 s1 → wpAny (model X.prog X.w) X.A (callWith pos (.ref g) [.ref a] (backTo pos (starEach args X.env)) (backToKw pos (keywordEach [] X.env))) Q X.xe s1)
    (ht : eval (.Call (.Attribute e m apos) args [] pos) X.env = (do
      let ov ← eval e X.env
      standAt apos.atName
      let (f,first) ← holding [ov] (getMethod ov m pl)
      callWith pos f first (backTo pos (starEach args X.env)) (backToKw pos (keywordEach [] X.env)))) :
    wpAny (model X.prog X.w) X.A (eval (.Call (.Attribute e m apos) args [] pos) X.env) Q X.xe s:=by
  refine PySem.W.methodCall_KW (pl:=pl) (thn (he pins s σ H _ I h) fun u s1 ⟨x,H1,I1,rx,a,C,dx,fs,g,ex,ea,c,k,l,q⟩ => ?_) ht
  subst ex
  obtain rfl : u = Value.ref a:=rx
  exact getmeth_ok I1 ea c k l (q s1 I1)
end

section
variable {X : Cx} {pins : List (Addr × Obj)} {σ : St} {H : Hp} {s : Shared} {A : Around} {E : Value → Shared → Prop} {Q : Value → Shared → Prop} {c : Value} {b : Bool}
inductive TyOf (K : PySem.W.Frag) (H : Hp) : V → Value → Prop where
  | non : TyOf K H .non (.type "NoneType")
  | bl (x : Bool) : TyOf K H (.bl x) (.type "bool")
  | int (i : Int) : TyOf K H (.int i) (.type "int")
  | str (x : Str) : TyOf K H (.str x) (.type "str")
  | flt (x : UInt64) : TyOf K H (.flt x) (.type "float")
  | lst {a : Addr} {xs : List V} (e : H a = some (.lst xs)) : TyOf K H (.ref a) (.type "list")
  | frz {a : Addr} {o : Obj} {xs : List V} (e : H a = some (.frz o (.lst xs))) : TyOf K H (.ref a) (.type "list")
  | tup {a : Addr} {xs : List V} (e : H a = some (.tup xs)) : TyOf K H (.ref a) (.type "tuple")
  | dK {a : Addr} {kvs : List (Key × V)} (e : H a = some (.dK kvs)) : TyOf K H (.ref a) (.type "dict")
  | dT {a : Addr} {kvs : List (List Key × V)} (e : H a = some (.dT kvs)) : TyOf K H (.ref a) (.type "dict")
  | ins {a C dx : Addr} {fs : List (Str × V)} (e : H a = some (.ins C dx fs)) (cl : Cls K C) (ha : PySem.W.findIn K (.ref C) "__class__" = some (some (.builtin "object.__class__")))
      (hn : PySem.W.specialIn K (.builtin "object.__class__") "__get__" = some (some (.builtin "getset_descriptor.__get__"))) (htk : PySem.W.takesIn K (.builtin "object.__class__") = some true)
      (hm : PySem.W.mroIn K C (.type "object") = some true) : TyOf K H (.ref a) (.ref C)
theorem isinst_ok {x : V} {u t : Value} (I : Inv X pins σ H s) (rx : RelV x u) (ty : TyOf X.K H x t) (e : PySem.W.kitOne X.K t c = some b) (h : ∀ tk,Q (.bool b) { s with toks:=tk }) :
    wpAny (model X.prog X.w) A (call (.builtin "isinstance") [u,c]) Q E s:=by
  cases ty with
  | non => cases (show u = Value.none from rx); exact PySem.W.kia_one PySem.W.kitx_none I.kIn True.intro e (fun z => nomatch z) h
  | bl y => cases (show u = Value.bool y from rx); exact PySem.W.kia_one PySem.W.kitx_bool I.kIn True.intro e (fun z => nomatch z) h
  | int i => obtain ⟨t,q⟩:=(show ∃ t,u = Value.int i t from rx); cases q; exact PySem.W.kia_one PySem.W.kitx_int I.kIn True.intro e (fun z => nomatch z) h
  | str y => obtain ⟨t,q⟩:=(show ∃ t,u = Value.str y t from rx); cases q; exact PySem.W.kia_one PySem.W.kitx_str I.kIn True.intro e (fun z => nomatch z) h
  | flt y => obtain ⟨t,q⟩:=(show ∃ t,u = Value.float y t from rx); cases q; exact PySem.W.kia_one PySem.W.kitx_float I.kIn True.intro e (fun z => nomatch z) h
  | @lst a xs ea =>
    cases (show u = Value.ref a from rx)
    obtain ⟨_,_,n,_,h1⟩:=(show ObjOk X.prog X.w H s.heap a (.lst xs) from I.hok a _ ea)
    exact PySem.W.kia_one PySem.W.kitx_list I.kIn ⟨_,h1,rfl⟩ e (fun z => nomatch z) h
  | @frz a ob xs ea =>
    cases (show u = Value.ref a from rx)
    obtain ⟨_,_,_,n,_,h1⟩:=(show ObjOk X.prog X.w H s.heap a (.frz ob (.lst xs)) from I.hok a _ ea)
    exact PySem.W.kia_one PySem.W.kitx_list I.kIn ⟨_,h1,rfl⟩ e (fun z => nomatch z) h
  | @tup a xs ea =>
    cases (show u = Value.ref a from rx)
    obtain ⟨_,_,_,p⟩:=(show ObjOk X.prog X.w H s.heap a (.tup xs) from I.hok a _ ea)
    obtain ⟨o,h1,h2,_⟩:=p
    exact PySem.W.kia_one PySem.W.kitx_tuple I.kIn ⟨o,h1,h2⟩ e (fun z => nomatch z) h
  | @dK a kvs ea =>
    cases (show u = Value.ref a from rx)
    obtain ⟨_,_,vs,_,p⟩:=(show ObjOk X.prog X.w H s.heap a (.dK kvs) from I.hok a _ ea)
    obtain ⟨o,es,ep,h1,h2,_⟩:=p
    exact PySem.W.kia_one PySem.W.kitx_dict I.kIn ⟨o,h1,h2.1⟩ e (fun z => nomatch z) h
  | @dT a kvs ea =>
    cases (show u = Value.ref a from rx)
    obtain ⟨_,_,xs,_,o,es,ep,h1,h2,_⟩:=(show ObjOk X.prog X.w H s.heap a (.dT kvs) from I.hok a _ ea)
    exact PySem.W.kia_one PySem.W.kitx_dict I.kIn ⟨o,h1,h2.1⟩ e (fun z => nomatch z) h
  | @ins a C dx fs ea cl ha hn htk hm =>
    cases (show u = Value.ref a from rx)
    obtain ⟨mA,O,_⟩:=ins_get I.hok ea
    obtain ⟨od,J,_⟩:=O.look
    exact PySem.W.kia_one (PySem.W.kitx_own (cl.get _) cl.hd ha hn htk hm) I.kIn J e (fun z => nomatch z) h
end
end L2

namespace L2
open PySem PySem.Spec PyProof.Rows

structure Room (k : Nat) (A : Around) : Prop where
  hd : A.handled = none
  dp : A.depth + 3 * k + 5 < recursionLimit
  un : A.units + 16 * k + 200 < cLine
theorem Room.mono {j k : Nat} {A : Around} (r : Room k A) (h : j ≤ k) : Room j A:=⟨r.hd,by have:=r.dp; omega,by have:=r.un; omega⟩
theorem Room.deeper {k : Nat} {A : Around} (r : Room (k + 1) A) (env : Env) : Room k (A.deeper env) :=
  ⟨r.hd,by have:=r.dp; show A.depth + 1 + 3 * k + 5 < _; omega,by have:=r.un; show A.units + 3 + 16 * k + 200 < _; omega⟩
theorem Room.in1 {k : Nat} {A : Around} (r : Room (k + 1) A) : Room k A.in1 :=
  ⟨r.hd,by have:=r.dp; show A.depth + 3 * k + 5 < _; omega,by have:=r.un; show A.units + 1 + 16 * k + 200 < _; omega⟩
theorem make_depth {A : Around} {C : Addr} {us : List Value} {kw : List (Str × Value)} : (A.under (.builtin "type.__call__" ⟨.ref C :: us,kw⟩)).depth = A.depth + 1:=by
  first | rfl | simp [Around.under,Code.weight,Code.isCreation,Code.isGuard,Code.isCaller,Code.frames,Code.isFrame,guardIds]
theorem make_units {A : Around} {C : Addr} {us : List Value} {kw : List (Str × Value)} : (A.under (.builtin "type.__call__" ⟨.ref C :: us,kw⟩)).units = A.units + 1:=by
  first | rfl | simp [Around.under,Code.cUnits,Code.frames,Code.isFrame]
theorem Room.make {k : Nat} {A : Around} (r : Room (k + 1) A) (C : Addr) (us : List Value) (kw : List (Str × Value)) : Room k (A.under (.builtin "type.__call__" ⟨.ref C :: us,kw⟩)) :=
  ⟨r.hd,by have:=r.dp; rw [make_depth]; omega,by have:=r.un; rw [make_units]; omega⟩
theorem Room.depth {k : Nat} {A : Around} (r : Room k A) : A.depth < recursionLimit:=by have:=r.dp; omega
theorem Room.units {k : Nat} {A : Around} (r : Room k A) : A.units + 64 < cLine:=by have:=r.un; omega
def tNil : TA:=fun _ H Q => Q [] H
def tCons (ta : TE) (tr : TA) : TA:=fun σ H Q => ta σ H fun x H1 => tr σ H1 fun xs H2 => Q (x :: xs) H2
section
variable {X : Cx} {e : Expr} {es : List Expr} {te : TE} {t : TA} {pos : Pos}
theorem pa_nil : PA X [] tNil:=fun _ _ _ _ H Q I h => Calls.spliced_nil ⟨[],H,I,.nil,h⟩
theorem pa_cons (ha : PE X e te) (hr : PA X es t) (hs : starEach (e :: es) X.env = (false,eval e X.env) :: starEach es X.env:=by rfl) : PA X (e :: es) (tCons te t):=by
  intro pos pins s σ H Q I h
  rw [hs]
  show wpAny _ _ (spliced ((false,eval e X.env) :: backTo pos (starEach es X.env))) _ _ s
  refine Calls.spliced_cons (thn (ha pins s σ H _ I h) fun u s1 ⟨x,H1,I1,r1,q1⟩ => ?_)
  exact thn (hr pos pins s1 σ H1 _ I1 q1) fun us s2 ⟨xs,H2,I2,r2,q2⟩ => ⟨x :: xs,H2,I2,.cons r1 r2,q2⟩

def tTup (t : TA) : TE:=fun σ H Q => t σ H fun xs H1 => xs.length ≤ sizeLine ∧ ∀ p,H1 p = none → Q (.ref p) (upd H1 p (.tup xs))
def tLst (t : TA) : TE:=fun σ H Q => t σ H fun xs H1 => xs.length ≤ sizeLine ∧ ∀ p,H1 p = none → Q (.ref p) (upd H1 p (.lst xs))
theorem pe_tup {x1} (h : PA X es t) : PE X (.Tuple es x1 pos) (tTup t):=by
  intro pins s σ H Q I hq
  refine wpAny_Tuple_spliced (thn (h pos pins s σ H _ I hq) fun us s1 ⟨xs,H1,I1,r,z,q⟩ => ⟨by rw [← r.length]; exact z,?_⟩)
  have hf : H1 s1.heap.objs.size = none:=I1.hok.fresh (Nat.le_refl _)
  refine ⟨.ref s1.heap.objs.size,upd H1 s1.heap.objs.size (.tup xs),I1.laid (t':=s1.toks) (fun b u e => Heap.get?_push_of_some _ e) (Nat.le_refl _) ?_,rfl,q _ hf⟩
  exact ⟨z,us,r,⟨_,Heap.get?_push_size _ rfl,rfl,_,rfl⟩⟩
theorem pe_lst (h : PA X es t) : PE X (.List es pos) (tLst t):=by
  intro pins s σ H Q I hq
  refine wpAny_List_spliced (thn (h pos pins s σ H _ I hq) fun us s1 ⟨xs,H1,I1,r,z,q⟩ => ⟨by rw [← r.length]; exact z,?_⟩)
  have hf : H1 s1.heap.objs.size = none:=I1.hok.fresh (Nat.le_refl _)
  refine ⟨.ref s1.heap.objs.size,upd H1 s1.heap.objs.size (.lst xs),I1.laid (t':=s1.toks) (fun b u e => Heap.get?_push_of_some _ e) (Nat.le_refl _) ?_,rfl,q _ hf⟩
  exact ⟨z,us,0,r,Heap.get?_push_size _ rfl⟩
end

abbrev Sp:=List V → Hp → VK → XK → Prop
abbrev CXT:=List Env → Hp → Shared → XK → Value → Shared → Prop

structure Env0 (P : Program) (w : World) (K : PySem.W.Frag) (mg : Str → Option Value) (base : Heap) (A : Around) (outer : List Env) (s : Shared) (H : Hp) : Prop where
  frames : A.frames = some outer
  mod : Mod K mg base
  bs : ∀ b o,base.get? b = some o → s.heap.get? b = some o ∧ H b = none
  bsz : base.objs.size ≤ s.heap.objs.size
  funs : s.heap.FunFrames base outer
  frf : ∀ b ∈ frs outer,H b = none
  hok : HOk P w H s.heap
  bare : AllBare s.gens
def CE (outer : List Env) (P : Program) (w : World) (H : Hp) (s : Shared) (Q : VK) (u : Value) (s' : Shared) : Prop :=
  ∃ v H',s'.os = s.os ∧ AllBare s'.gens ∧ Un (frs outer) [] H H' s.heap s'.heap ∧ HOk P w H' s'.heap ∧ RelV v u ∧ Q v H'
def CR (CX : CXT) (outer : List Env) (P : Program) (w : World) (H : Hp) (s : Shared) (Q : VK) (E : XK) (r : Result) (s' : Shared) : Prop :=
  match r with
  | .ok (.ret u) => CE outer P w H s Q u s'
  | .ok _ => False
  | .error e => CX outer H s E e s'
structure FnOk (P : Program) (w : World) (K : PySem.W.Frag) (mg : Str → Option Value) (base : Heap) (CX : CXT) (k : Nat) (f : Addr) (fd : FuncData) (ps : List Str) (sp : Sp) : Prop where
  len : ∀ vs H Q E,sp vs H Q E → vs.length = ps.length
  run : ∀ (A : Around) (outer : List Env) (s : Shared) (H : Hp) (args : Args) (us : List Value) (vs : List V) (Q : VK) (E : XK),Room k A → Env0 P w K mg base A outer s H → BindsTo s fd args (ps.zip us) → Vals vs us → sp vs H Q E →
    codeAny (model P w) A (.call (.ref f) args) (CR CX outer P w H s Q E) s
theorem FnOk.mono {P : Program} {w : World} {K : PySem.W.Frag} {mg : Str → Option Value} {base : Heap} {CX : CXT} {j k : Nat} {f : Addr} {fd : FuncData} {ps : List Str} {sp : Sp} (F : FnOk P w K mg base CX j f fd ps sp) (h : j ≤ k) :
    FnOk P w K mg base CX k f fd ps sp:=⟨F.len,fun A outer s H args us vs Q E hr => F.run A outer s H args us vs Q E (hr.mono h)⟩
theorem FnOk.imp {P : Program} {w : World} {K : PySem.W.Frag} {mg : Str → Option Value} {base : Heap} {CX : CXT} {k : Nat} {f : Addr} {fd : FuncData} {ps : List Str} {sp sp' : Sp} (F : FnOk P w K mg base CX k f fd ps sp)
    (h : ∀ vs H Q E,sp' vs H Q E → sp vs H Q E) : FnOk P w K mg base CX k f fd ps sp' :=
  ⟨fun vs H Q E q => F.len vs H Q E (h _ _ _ _ q),fun A outer s H args us vs Q E hr he hb hv hs => F.run A outer s H args us vs Q E hr he hb hv (h _ _ _ _ hs)⟩

theorem Env0.make {P : Program} {w : World} {K : PySem.W.Frag} {mg : Str → Option Value} {base : Heap} {A : Around} {outer : List Env} {s : Shared} {H : Hp} (e : Env0 P w K mg base A outer s H) (C : Addr) (us : List Value) (kw : List (Str × Value)) :
    Env0 P w K mg base (A.under (.builtin "type.__call__" ⟨.ref C :: us,kw⟩)) outer s H:=⟨by first | exact e.frames | (simpa [Around.under,Code.envs,Code.isFrame,pushEnvs] using e.frames),e.mod,e.bs,e.bsz,e.funs,e.frf,e.hok,e.bare⟩
theorem Env0.in1 {P : Program} {w : World} {K : PySem.W.Frag} {mg : Str → Option Value} {base : Heap} {A : Around} {outer : List Env} {s : Shared} {H : Hp} (e : Env0 P w K mg base A outer s H) :
    Env0 P w K mg base A.in1 outer s H:=⟨e.frames,e.mod,e.bs,e.bsz,e.funs,e.frf,e.hok,e.bare⟩

section
variable {X : Cx} {pins : List (Addr × Obj)} {σ : St} {H : Hp} {s s' : Shared}
theorem Inv.env0 (I : Inv X pins σ H s) : Env0 X.prog X.w X.K X.mg X.base X.A X.stack s H :=
  ⟨I.ok.frames,I.ok.mod,I.bs,Nat.le_trans I.ok.bsz I.sz,I.stack,I.stkFree,I.hok,I.bare⟩
theorem Inv.after {Q : VK} {u : Value} (I : Inv X pins σ H s) (h : CE X.stack X.prog X.w H s Q u s') : EP X pins σ Q u s':=by
  obtain ⟨v,H',os,bare,un,hok,r,q⟩:=h
  obtain ⟨hh,g,d,t,os'⟩:=s'
  obtain rfl : os' = s.os:=os
  exact ⟨v,H',I.call (h':=hh) (g':=g) (d':=d) (t':=t) (ch:=[]) un hok bare (fun b z => absurd z (by simp)),r,q⟩
end

def tCall (sp : Sp) (dvs : List V) (E : XK) (t : TA) : TE:=fun σ H Q => t σ H fun vs H1 => sp (vs ++ dvs) H1 Q E
def tMeth (C : Addr) (m : Str) (sp : Sp) (dvs : List V) (E : XK) (ta : TE) (t : TA) : TE:=fun σ H Q => ta σ H fun x H1 => ∃ a dx fs,x = .ref a ∧ H1 a = some (.ins C dx fs) ∧ fs.lookup m = none ∧
  t σ H1 fun vs H2 => sp (x :: (vs ++ dvs)) H2 Q E
def tMake (C : Addr) (sp : Sp) (dvs : List V) (E : XK) (t : TA) : TE:=fun σ H Q => t σ H fun vs H1 => ∀ x dx,H1 x = none → H1 dx = none → dx ≠ x →
  sp (.ref x :: (vs ++ dvs)) (upd (upd H1 dx (.own x)) x (.ins C dx [])) (fun v H2 => v = .non ∧ Q (.ref x) H2) E

def Binds (K : PySem.W.Frag) (fd : FuncData) (ps : List Str) (ds : List Value) : Prop :=
  ∀ (s : Shared) (us : List Value),K.In s.heap → (us ++ ds).length = ps.length → BindsTo s fd ⟨us,[]⟩ (ps.zip (us ++ ds))
theorem Binds.all {K : PySem.W.Frag} {fd : FuncData} {ps : List Str} (h : ∀ us : List Value,us.length = ps.length → bindArgs fd ⟨us,[]⟩ = pure (ps.zip us)) : Binds K fd ps []:=fun s us _ hl => by
  rw [List.append_nil] at hl ⊢
  exact .of_eq (h us hl)

def Passes (CX : CXT) (X : Cx) (E : XK) : Prop:=∀ (pins : List (Addr × Obj)) (σ : St) (H : Hp) (s : Shared) (e : Value) (s' : Shared),Inv X pins σ H s → CX X.stack H s E e s' → X.xe e s'

section
variable {X : Cx} {CX : CXT} {k : Nat} {f C : Addr} {fd : FuncData} {ps : List Str} {sp : Sp} {dvs : List V} {ds : List Value} {E : XK} {x m : Str} {p pos apos : Pos} {e o : Expr} {es : List Expr} {ta : TE} {t : TA}

theorem run_fn {pins : List (Addr × Obj)} {σ : St} {H : Hp} {s : Shared} {Q : VK} {us : List Value} {vs : List V} (F : FnOk X.prog X.w X.K X.mg X.base CX k f fd ps sp) (hr : Room k X.A) (hb : Binds X.K fd ps ds) (hd : Vals dvs ds) (hx : Passes CX X E)
    (I : Inv X pins σ H s) (r : Vals vs us) (h : sp (vs ++ dvs) H Q E) : wpAny (model X.prog X.w) X.A (call (.ref f) us) (EP X pins σ Q) X.xe s:=by
  have r2 : Vals (vs ++ dvs) (us ++ ds):=r.append hd
  have hl : (us ++ ds).length = ps.length:=by rw [← r2.length]; exact F.len _ _ _ _ h
  refine wpAny_call (codeAny_mono (F.run X.A X.stack s H ⟨us,[]⟩ (us ++ ds) (vs ++ dvs) Q E hr I.env0 (hb s us I.kIn hl) r2 h) fun r s' hq => ?_)
  cases r with
  | error e => exact hx pins σ H s e s' I hq
  | ok fl =>
    cases fl with
    | ret u => exact I.after hq
    | next => exact False.elim hq
    | brk => exact False.elim hq
    | cont => exact False.elim hq

theorem pe_call (F : FnOk X.prog X.w X.K X.mg X.base CX k f fd ps sp) (hr : Room k X.A) (hg : Gl X x) (hm : X.mg x = some (.ref f)) (hk : PySem.W.keepIn X.K (.ref f) = true) (hb : Binds X.K fd ps ds) (hd : Vals dvs ds) (hx : Passes CX X E)
    (ha : PA X (e :: es) t) (hdb : (x == ("__debug__" : Str)) = false:=by decide) (he : starEach (e :: es) X.env = (false,eval e X.env) :: starEach es X.env:=by rfl) (hpl : (backTo pos (starEach es X.env)).any (·.1) = false:=by rfl) :
    PE X (.Call (.Name x p) (e :: es) [] pos) (tCall sp dvs E t):=by
  intro pins s σ H Q I h
  refine wpAny_Call_Name_kw (ld_glob I hg hm ?_ hdb)
  refine PySem.W.callWith_K (h₀:=X.base) I.ok.mod.kin hk (thn (ha pos pins s σ H _ I h) fun us s1 ⟨vs,H1,I1,r,q⟩ => ⟨I1.kIn,?_⟩) he hpl
  exact run_fn F hr hb hd hx I1 r q
theorem pe_meth {pl : Sem Bool} (he : PE X o ta) (c : Cls X.K C) (hm : Meth X.K C m f) (F : FnOk X.prog X.w X.K X.mg X.base CX k f fd ps sp) (hr : Room k X.A) (hb : Binds X.K fd ps ds) (hd : Vals dvs ds) (hx : Passes CX X E) (ha : PA X (e :: es) t)
    (hst : starEach (e :: es) X.env = (false,eval e X.env) :: starEach es X.env:=by rfl) (hpl : (backTo pos (starEach es X.env)).any (·.1) = false:=by rfl)
    (ht : eval (.Call (.Attribute o m apos) (e :: es) [] pos) X.env = (do
      let ov ← eval o X.env
      standAt apos.atName
      let (f,first) ← holding [ov] (getMethod ov m pl)
      callWith pos f first (backTo pos (starEach (e :: es) X.env)) (backToKw pos (keywordEach [] X.env))):=by rfl) :
    PE X (.Call (.Attribute o m apos) (e :: es) [] pos) (tMeth C m sp dvs E ta t):=by
  intro pins s σ H Q I h
  refine PySem.W.methodCall_KW (pl:=pl) (thn (he pins s σ H _ I h) fun u s1 ⟨x,H1,I1,rx,a,dx,fs,ex,ea,l,q⟩ => ?_) ht
  subst ex
  obtain rfl : u = Value.ref a:=rx
  refine getmeth_ok I1 ea c hm l ?_
  refine PySem.W.callWith_K (first:=[.ref a]) (h₀:=X.base) I.ok.mod.kin hm.kp (thn (ha pos pins s1 σ H1 _ I1 q) fun us s2 ⟨vs,H2,I2,r,q2⟩ => ⟨I2.kIn,?_⟩) hst hpl
  exact run_fn (us:=.ref a :: us) (vs:=.ref a :: vs) F hr hb hd hx I2 (.cons rfl r) q2
theorem pe_meth0 {pl : Sem Bool} (he : PE X o ta) (c : Cls X.K C) (hm : Meth X.K C m f) (F : FnOk X.prog X.w X.K X.mg X.base CX k f fd ps sp) (hr : Room k X.A) (hb : Binds X.K fd ps ds) (hd : Vals dvs ds) (hx : Passes CX X E)
    (ht : eval (.Call (.Attribute o m apos) [] [] pos) X.env = (do
      let ov ← eval o X.env
      standAt apos.atName
      let (f,first) ← holding [ov] (getMethod ov m pl)
      callWith pos f first (backTo pos (starEach [] X.env)) (backToKw pos (keywordEach [] X.env))):=by rfl) :
    PE X (.Call (.Attribute o m apos) [] [] pos) (tMeth C m sp dvs E ta tNil):=by
  intro pins s σ H Q I h
  refine PySem.W.methodCall_KW (pl:=pl) (thn (he pins s σ H _ I h) fun u s1 ⟨x,H1,I1,rx,a,dx,fs,ex,ea,l,q⟩ => ?_) ht
  subst ex
  obtain rfl : u = Value.ref a:=rx
  refine getmeth_ok I1 ea c hm l ?_
  exact PySem.W.callWith_K0 (first:=[.ref a]) I1.kIn hm.kp (run_fn (us:=[.ref a]) (vs:=[.ref a]) F hr hb hd hx I1 (.cons rfl .nil) q)

structure Mk (K : PySem.W.Frag) (C f : Addr) : Prop where
  makes : PySem.W.makesIn K C = true
  init : PySem.W.findIn K (.ref C) "__init__" = some (some (.ref f))
  fn : PySem.W.isFn K (.ref f) = true
  kp : PySem.W.keepIn K (.ref C) = true

theorem run_make {pins : List (Addr × Obj)} {σ : St} {H : Hp} {s : Shared} {Q : VK} {us : List Value} {vs : List V} (M : Mk X.K C f) (F : FnOk X.prog X.w X.K X.mg X.base CX k f fd ps sp) (hr : Room (k + 1) X.A) (hb : Binds X.K fd ps ds) (hd : Vals dvs ds)
    (hx : Passes CX X E) (I : Inv X pins σ H s) (r : Vals vs us)
    (h : ∀ x dx,H x = none → H dx = none → dx ≠ x → sp (.ref x :: (vs ++ dvs)) (upd (upd H dx (.own x)) x (.ins C dx [])) (fun v H2 => v = .non ∧ Q (.ref x) H2) E) :
    wpAny (model X.prog X.w) X.A (call (.ref C) us) (EP X pins σ Q) X.xe s:=by
  have hq:=h (s.heap.objs.size + 1) s.heap.objs.size (I.hok.fresh (Nat.le_succ _)) (I.hok.fresh (Nat.le_refl _)) (Nat.ne_of_lt (Nat.lt_succ_self _))
  have I2:=Inv.made (C:=C) I
  have r2 : Vals (V.ref (s.heap.objs.size + 1) :: (vs ++ dvs)) (Value.ref (s.heap.objs.size + 1) :: (us ++ ds)):=.cons rfl (r.append hd)
  have hl : (Value.ref (s.heap.objs.size + 1) :: us ++ ds).length = ps.length:=by
    have e:=r2.length
    rw [F.len _ _ _ _ hq] at e
    exact e.symm
  refine wpAny_call (make_map (f:=f) I.kIn M.makes M.init (beq_iff_eq.mp M.fn) (codeAny_mono (F.run _ X.stack _ _ ⟨Value.ref (s.heap.objs.size + 1) :: us,[]⟩ (Value.ref (s.heap.objs.size + 1) :: (us ++ ds)) _ _ E (hr.make C us [])
    (I2.env0.make C us []) (hb _ (Value.ref (s.heap.objs.size + 1) :: us) I2.kIn hl) r2 hq) fun r s' hq' => ?_))
  cases r with
  | error e => exact hx pins σ _ _ e s' I2 hq'
  | ok fl =>
    cases fl with
    | ret u =>
      obtain ⟨v,H',I3,rv,ev,q3⟩:=I2.after hq'
      subst ev
      exact ⟨rv,⟨V.ref (s.heap.objs.size + 1),H',I3,rfl,q3⟩⟩
    | next => exact False.elim hq'
    | brk => exact False.elim hq'
    | cont => exact False.elim hq'
theorem pe_make (M : Mk X.K C f) (F : FnOk X.prog X.w X.K X.mg X.base CX k f fd ps sp) (hr : Room (k + 1) X.A) (hg : Gl X x) (hm : X.mg x = some (.ref C)) (hb : Binds X.K fd ps ds) (hd : Vals dvs ds) (hx : Passes CX X E)
    (ha : PA X (e :: es) t) (hdb : (x == ("__debug__" : Str)) = false:=by decide) (he : starEach (e :: es) X.env = (false,eval e X.env) :: starEach es X.env:=by rfl) (hpl : (backTo pos (starEach es X.env)).any (·.1) = false:=by rfl) :
    PE X (.Call (.Name x p) (e :: es) [] pos) (tMake C sp dvs E t):=by
  intro pins s σ H Q I h
  refine wpAny_Call_Name_kw (ld_glob I hg hm ?_ hdb)
  refine PySem.W.callWith_K (h₀:=X.base) I.ok.mod.kin M.kp (thn (ha pos pins s σ H _ I h) fun us s1 ⟨vs,H1,I1,r,q⟩ => ⟨I1.kIn,?_⟩) he hpl
  exact run_make M F hr hb hd hx I1 r q
end

section
variable {X : Cx} {CX : CXT} {k : Nat} {f C : Addr} {fd : FuncData} {ps ks : List Str} {sp : Sp} {E : XK} {x m : Str} {p pos apos kpos : Pos} {e o : Expr} {es : List Expr} {kws : List Keyword} {te ta : TE} {t tk : TA} {nm : Option Str}
variable {g : List Value → List Value → List Value} {gV : List V → List V → List V}
end

structure FnScope (N P : List Str) (sc : Scope) : Prop where
  kind : sc.kind = .function
  co : sc.isCoroutine = false
  gen : sc.isGenerator = false
  nd : N.Nodup
  pre : N.take P.length = P
  par : ∀ x ∈ P,sc.names.lookup x = some .local ∨ sc.names.lookup x = some .cell
  nofree : ∀ y ∈ sc.names,y.2 ≠ .free

theorem bindL_out {kindOf : Str → Option NameKind} {x : Str} : ∀ {binds : List (Str × Value)} {m : Str → Option Value},(∀ v,(x,v) ∉ binds) → bindL kindOf binds m x = m x
  | [],_,_ => rfl
  | (n,v) :: r,m,h => by
    unfold bindL
    rw [bindL_out fun w hw => h w (List.mem_cons_of_mem _ hw)]
    split
    · have : x ≠ n:=by rintro rfl; exact h v List.mem_cons_self
      simp [this]
    · rfl
theorem bindC_out {kindOf : Str → Option NameKind} {x : Str} : ∀ {binds : List (Str × Value)} {m : Str → Option Value},(∀ v,(x,v) ∉ binds) → bindC kindOf binds m x = m x
  | [],_,_ => rfl
  | (n,v) :: r,m,h => by
    unfold bindC
    rw [bindC_out fun w hw => h w (List.mem_cons_of_mem _ hw)]
    split
    · rfl
    · have : x ≠ n:=by rintro rfl; exact h v List.mem_cons_self
      simp [this]
theorem bindL_get {kindOf : Str → Option NameKind} {x : Str} {v : Value} : ∀ {P : List Str} {vs : List Value} {i : Nat} {m : Str → Option Value},P.Nodup → P[i]? = some x → vs[i]? = some v → kindOf x = some .local →
    bindL kindOf (P.zip vs) m x = some v
  | [],_,_,_,_,h,_,_ => by simp at h
  | _ :: _,[],_,_,_,_,h,_ => by simp at h
  | p :: P,w :: vs,0,m,nd,h1,h2,hk => by
    simp at h1 h2; subst h1; subst h2
    show bindL kindOf ((p,w) :: P.zip vs) m p = _
    unfold bindL
    rw [bindL_out fun v hv => (List.nodup_cons.mp nd).1 (List.of_mem_zip hv).1,if_pos hk]
    simp
  | p :: P,w :: vs,i + 1,m,nd,h1,h2,hk => by
    show bindL kindOf ((p,w) :: P.zip vs) m x = _
    unfold bindL
    exact bindL_get (i:=i) (List.nodup_cons.mp nd).2 (by simpa using h1) (by simpa using h2) hk
theorem bindC_get {kindOf : Str → Option NameKind} {x : Str} {v : Value} : ∀ {P : List Str} {vs : List Value} {i : Nat} {m : Str → Option Value},P.Nodup → P[i]? = some x → vs[i]? = some v → kindOf x ≠ some .local →
    bindC kindOf (P.zip vs) m x = some v
  | [],_,_,_,_,h,_,_ => by simp at h
  | _ :: _,[],_,_,_,_,h,_ => by simp at h
  | p :: P,w :: vs,0,m,nd,h1,h2,hk => by
    simp at h1 h2; subst h1; subst h2
    show bindC kindOf ((p,w) :: P.zip vs) m p = _
    unfold bindC
    rw [bindC_out fun v hv => (List.nodup_cons.mp nd).1 (List.of_mem_zip hv).1,if_neg hk]
    simp
  | p :: P,w :: vs,i + 1,m,nd,h1,h2,hk => by
    show bindC kindOf ((p,w) :: P.zip vs) m x = _
    unfold bindC
    exact bindC_get (i:=i) (List.nodup_cons.mp nd).2 (by simpa using h1) (by simpa using h2) hk

def start (N : List Str) (vs : List V) : St:=vs.map some ++ List.replicate (N.length - vs.length) none

def cxOf (CX : CXT) (P : Program) (w : World) (K : PySem.W.Frag) (mg : Str → Option Value) (base : Heap) (N : List Str) (qual : Str) (scope : Scope) (f : Addr) (cd : Value) (A : Around) (outer : List Env) (s : Shared) (H : Hp) (E : XK) : Cx where
  prog:=P
  w:=w
  K:=K
  mg:=mg
  base:=base
  A:=A.deeper (envOfC qual scope s.heap.objs.size f cd)
  N:=N
  s₀:=s
  H₀:=H
  env:=envOfC qual scope s.heap.objs.size f cd
  outer:=outer
  stack:=envOfC qual scope s.heap.objs.size f cd :: outer
  ex:=[]
  calm:=true
  fn:=fun _ => true
  pn:=[]
  xe:=fun e s' => wpAny (model P w) (A.deeper (envOfC qual scope s.heap.objs.size f cd)) (leaving (envOfC qual scope s.heap.objs.size f cd) e) (fun _ s'' => CX outer H s E e s'') (fun e' s'' => CX outer H s E e' s'') s'

theorem cell_has {sc : Scope} {n : Nat} {x : Str} (h : sc.names.lookup x = some .cell) : ∃ c,(cellsFrom n sc.names []).lookup x = some c:=by
  have q:=PySem.W.cellsFrom_some sc.names n [] (.inl h)
  exact Option.isSome_iff_exists.mp q

theorem inv_start {CX : CXT} {P : Program} {w : World} {K : PySem.W.Frag} {mg : Str → Option Value} {base : Heap} {N ps : List Str} {qual : Str} {scope : Scope} {f : Addr} {cd : Value} {A : Around} {outer : List Env} {s s1 : Shared} {H : Hp} {E : XK} {us : List Value} {vs : List V}
    (S : FnScope N ps scope) (hd : A.handled = none) (e0 : Env0 P w K mg base A outer s H) (hl : vs.length = ps.length) (r : Vals vs us)
    (x : InCallC s s.heap.objs.size (bindL (envOfC qual scope s.heap.objs.size f cd).kindOf (ps.zip us) fun _ => none) (cellsFrom (s.heap.objs.size + 1) scope.names []) (bindC (envOfC qual scope s.heap.objs.size f cd).kindOf (ps.zip us) fun _ => none) s1) :
    Inv (cxOf CX P w K mg base N qual scope f cd A outer s H E) [] (start N vs) H s1:=by
  have hpl : ps.length ≤ N.length:=by have:=congrArg List.length S.pre; rw [List.length_take] at this; omega
  obtain ⟨h1,tk,rfl,hk⟩:=x.done
  have noA : ∀ b : Addr,b ∉ (cxOf CX P w K mg base N qual scope f cd A outer s H E).ex:=fun b z => absurd (show b ∈ ([] : List Addr) from z) (by simp)
  refine ⟨⟨e0.mod,S.kind,rfl,rfl,Nat.le_refl _,fun y z c h1 h2 => ?_,fun y hy => ?_,fun y c _ h => ?_,fun _ => hd,Around.frames_deeper e0.frames,.inr ⟨rfl,rfl⟩,fun b z => absurd z (noA b),e0.bs,e0.bsz,fun b _ _ => noA b,fun b z => absurd z (noA b),e0.funs,e0.frf⟩,
    rfl,e0.bare,Un.kept hk,⟨_,x.toInCall.ns,fun i y v h1 h2 h3 => ?_⟩,fun y c h => ⟨_,x.cell y c h⟩,e0.hok.fresh (Nat.le_refl _),fun y c h => ?_,fun p hp => absurd (show p ∈ ([] : List (Addr × Obj)) from hp) (by simp),e0.hok.kept hk,?_⟩
  · exact name_of_addr x.apart (PySem.mem_of_lookup h1) (PySem.mem_of_lookup h2)
  · have hy : scope.names.lookup y = some .cell ∨ scope.names.lookup y = some .free:=hy
    rcases hy with hy | hy
    · exact cell_has hy
    · exact absurd rfl (S.nofree _ (PySem.mem_of_lookup hy))
  · exact Nat.le_of_lt (x.above y c (PySem.mem_of_lookup h))
  · have hi : i < vs.length:=by
      unfold start at h2
      by_cases hi : i < vs.length
      · exact hi
      · rw [List.getElem?_append_right (by simpa using hi)] at h2
        rw [List.getElem?_replicate] at h2
        split at h2 <;> cases h2
    have ha : vs[i]? = some v:=by
      unfold start at h2
      rw [List.getElem?_append_left (by simpa using hi),List.getElem?_map] at h2
      cases e : vs[i]? with
      | none => rw [e] at h2; cases h2
      | some a => rw [e] at h2; cases h2; rfl
    obtain ⟨u,hu,rv⟩:=r.get ha
    have hp : ps[i]? = some y:=by
      rw [← S.pre,List.getElem?_take_of_lt (by omega)]; exact h1
    have ndP : ps.Nodup:=by rw [← S.pre]; exact S.nd.sublist (List.take_sublist _ _)
    refine ⟨u,rv,?_⟩
    rcases S.par y (List.mem_of_getElem? hp) with k | k
    · exact .inl ⟨k,bindL_get ndP hp hu k⟩
    · obtain ⟨c,e⟩:=cell_has (n:=s.heap.objs.size + 1) k
      refine .inr ⟨.inl k,c,e,?_⟩
      have q:=x.cell y c e
      rw [bindC_get ndP hp hu (by show scope.names.lookup y ≠ _; rw [k]; decide)] at q
      exact q
  · exact e0.hok.fresh (Nat.le_of_lt (x.above y c (PySem.mem_of_lookup h)))
  · unfold start
    show _ = N.length
    rw [List.length_append,List.length_map,List.length_replicate]
    omega

theorem fn_of {CX : CXT} {P : Program} {w : World} {K : PySem.W.Frag} {mg : Str → Option Value} {base : Heap} {k : Nat} {f : Addr} {name qual : Str} {params : Arguments} {body : List Stmt} {scope : Scope} {dV kV doc pm cdv ct oc : Value} {an od : Option Addr}
    {osl : Array (Option Value)} {N ps : List Str} {sp : Sp} (lk : K.lookup f = some ⟨oc,od,.func (PySem.W.fnOf name qual params body scope dV kV doc pm an cdv ct),osl⟩) (hcd : PySem.W.codeIn K cdv qual = true) (S : FnScope N ps scope)
    (len : ∀ vs H Q E,sp vs H Q E → vs.length = ps.length)
    (hbody : ∀ (A : Around) (outer : List Env) (s : Shared) (H : Hp) (vs : List V) (Q : VK) (E : XK),Room k (A.deeper (envOfC qual scope s.heap.objs.size f cdv)) → sp vs H Q E →
      ∃ t,PSs (cxOf CX P w K mg base N qual scope f cdv A outer s H E) body t ∧ t { nx:=fun _ H' => Q .non H',rt:=Q } (start N vs) H) :
    FnOk P w K mg base CX (k + 1) f (PySem.W.fnOf name qual params body scope dV kV doc pm an cdv ct) ps sp:=by
  refine ⟨len,fun A outer s H args us vs Q E hr e0 hb r hsp => ?_⟩
  have hl:=len _ _ _ _ hsp
  have KX : K.In s.heap:=e0.mod.kin.keeps fun b o e => (e0.bs b o e).1
  have lim : s.heap.NoLimit:=e0.mod.nolimit.keeps fun b o e => (e0.bs b o e).1
  have hkind : ∀ y ∈ ps.zip us,scope.names.lookup y.1 = some .local ∨ (scope.names.lookup y.1 = some .cell ∧ ((cellsFrom (s.heap.objs.size + 1) scope.names []).lookup y.1).isSome = true):=fun ⟨n,v⟩ hy => by
    rcases S.par n (List.of_mem_zip hy).1 with q | q
    · exact .inl q
    · exact .inr ⟨q,PySem.W.cellsFrom_some _ _ _ (.inl q)⟩
  refine codeAny_call_function hr.depth (KX _ _ lk) rfl S.co S.gen rfl (PySem.W.codeRec_of KX hcd) (hb _ _ _ _ ?_)
  refine wpAny_newFunctionEnv_cells S.kind hkind fun env he s1 x => ?_
  subst he
  refine ⟨lim.keeps x.toInCall.keep,codeAny_func ?_⟩
  obtain ⟨t,ht,hq⟩:=hbody A outer s H vs Q E (hr.deeper _) hsp
  have I : Inv (cxOf CX P w K mg base N qual scope f cdv A outer s H E) [] (start N vs) H s1:=inv_start S hr.hd e0 hl r x
  refine wpAny_mono (ht [] s1 (start N vs) H _ I hq) (fun fl s' hs => ?_) fun e s' hs => hs
  have fin : ∀ {σ' : St} {H' : Hp} {v : V} {u : Value},Inv (cxOf CX P w K mg base N qual scope f cdv A outer s H E) [] σ' H' s' → RelV v u → Q v H' → CE outer P w H s Q u s' :=
    fun {σ' H' v u} J rv q => ⟨v,H',J.os,J.bare,J.base,J.hok,rv,q⟩
  cases fl with
  | ret u =>
    obtain ⟨v,σ',H',J,rv,q⟩:=hs
    exact fin J rv q
  | next =>
    obtain ⟨σ',H',J,q⟩:=hs
    exact fin (v:=V.non) (u:=Value.none) J rfl q
  | brk =>
    obtain ⟨_,_,_,q⟩:=hs
    exact False.elim q
  | cont =>
    obtain ⟨_,_,_,q⟩:=hs
    exact False.elim q
end L2

namespace L2
open PySem PySem.Spec PyProof.Rows
section
variable {X : Cx} {x : Str} {p pos : Pos} {e : Expr} {es : List Expr} {t : TA} {id T : String} {r : List V → Hp → VK → Prop}

def tCB (r : List V → Hp → VK → Prop) (t : TA) : TE:=fun σ H Q => t σ H fun vs H1 => r vs H1 Q
theorem pe_callB (hc : CallR X (.builtin id) r) (hg : Gl X x) (hm : X.mg x = none) (hv : bootBuiltins x = some (.builtin id)) (ha : PA X (e :: es) t) (hn : x ≠ "__name__" := by decide) (hdb : (x == ("__debug__" : Str)) = false:=by decide)
    (he : starEach (e :: es) X.env = (false,eval e X.env) :: starEach es X.env:=by rfl) (hpl : (backTo pos (starEach es X.env)).any (·.1) = false:=by rfl) : PE X (.Call (.Name x p) (e :: es) [] pos) (tCB r t):=by
  intro pins s σ H Q I h
  refine wpAny_Call_Name_kw (ld_blt I hg hm hv ?_ hn hdb)
  exact PyProof.Rows.callWith_builtin1 (thn (ha pos pins s σ H _ I h) fun us s1 ⟨vs,H1,I1,r1,q1⟩ => hc pins s1 σ H1 vs us Q I1 r1 q1) he hpl
theorem pe_callTy (hc : CallR X (.type T) r) (hg : Gl X x) (hm : X.mg x = none) (hv : bootBuiltins x = some (.type T)) (ha : PA X (e :: es) t) (hn : x ≠ "__name__" := by decide) (hdb : (x == ("__debug__" : Str)) = false:=by decide)
    (he : starEach (e :: es) X.env = (false,eval e X.env) :: starEach es X.env:=by rfl) (hpl : (backTo pos (starEach es X.env)).any (·.1) = false:=by rfl) : PE X (.Call (.Name x p) (e :: es) [] pos) (tCB r t):=by
  intro pins s σ H Q I h
  refine wpAny_Call_Name_kw (ld_blt I hg hm hv ?_ hn hdb)
  exact PyProof.Rows.callWith_type1 (thn (ha pos pins s σ H _ I h) fun us s1 ⟨vs,H1,I1,r1,q1⟩ => hc pins s1 σ H1 vs us Q I1 r1 q1) he hpl
end
end L2

namespace HT
open PySem PyProof.Rows

def lexLt : List Int → List Int → Bool
  | [],[] => false
  | [],_ :: _ => true
  | _ :: _,[] => false
  | x :: xs,y :: ys => if x = y then lexLt xs ys else decide (x < y)
theorem lexLt_cons (x y : Int) (xs ys : List Int) : lexLt (x :: xs) (y :: ys) = if x = y then lexLt xs ys else decide (x < y):=rfl
theorem lexLt_nil_nil : lexLt [] [] = false:=rfl
theorem lexLt_nil_cons (y : Int) (ys : List Int) : lexLt [] (y :: ys) = true:=rfl
theorem lexLt_cons_nil (x : Int) (xs : List Int) : lexLt (x :: xs) [] = false:=rfl

theorem eqAt_int (A : Around) (s : Shared) (a : Int) (t : Tok) (c : Int) (u : Tok) : ∃ e,SeqAt.EqAt A s (.int a t) (.int c u) e ∧ (e = true ↔ a = c) :=
  ⟨(a == c),SeqAt.EqAt.int_int a t c u,by simp⟩
theorem rcLt_int (A : Around) (s : Shared) (a : Int) (t : Tok) (c : Int) (u : Tok) (prog : Program) (w : World) (E : Value → Shared → Prop) (Q : Value → Shared → Prop) (h : Q (.bool (decide (a < c))) s) :
    wpAny (model prog w) A (richCompare .Lt (.int a t) (.int c u)) Q E s :=
  (PyProof.Rows.lt_int h : wpAny (model prog w) A (compareOp .Lt (.int a t) (.int c u)) Q E s)

section
open PySem.SeqAt
open PySem.AutoSeq1 (wpAny_loadPart')
open PySem.MeetsSeq PySem.MeetsSeq2 PySem.MeetsSeq3

theorem tuple_lt_ints (l b : Addr) (items items2 : Array Value) (n n2 : Nat) (dd dd2 : Option Addr) (sl sl2 : Array (Option Value)) (ns ms : List Int) (hi : IntsAre items.toList ns) (hj : IntsAre items2.toList ms) :
    Meets (Builtin.«tuple.__lt__» ⟨[.ref l,.ref b],[]⟩)
      (fun _ R s => s.heap.get? l = some { cls:=.type "tuple",dict:=dd,data:=.seq items n,slots:=sl } ∧ s.heap.get? b = some { cls:=.type "tuple",dict:=dd2,data:=.seq items2 n2,slots:=sl2 } ∧
        R (.ok (.ret (.bool (lexLt ns ms)))) s) :=
  .of_wp fun prog w A R s h => by
    obtain ⟨hp,g,d,tk,os⟩:=s; obtain ⟨hl,hb,h⟩:=h
    have f2:=AutoSeq1.sub_tuple_tuple
    have z1 : items.size = ns.length:=by rw [← hi.length]; simp
    have z2 : items2.size = ms.length:=by rw [← hj.length]; simp
    wp_walk using wpAny_loadPart' hl,wpAny_loadPart' hb,wpAny_forIn_list _ (fun rest b s' => b.1 = none ∧ s' = ⟨hp,g,d,tk,os⟩ ∧ ∃ (vs ws : List Value) (ns' ms' : List Int),rest = vs.zip ws ∧
      IntsAre vs ns' ∧ IntsAre ws ms' ∧ ns'.length + items2.size = ms'.length + items.size ∧ R (.ok (.ret (.bool (lexLt ns' ms')))) ⟨hp,g,d,tk,os⟩) _
    case turn =>
      rintro ⟨y,x⟩ rest b s' ⟨hb',rfl,vs,ws,ns',ms',hz,hvi,hwi,hlen,hR⟩
      cases hvi with
      | nil => rw [List.zip_nil_left] at hz; cases hz
      | cons a t hvi' =>
        cases hwi with
        | nil => rw [List.zip_nil_right] at hz; cases hz
        | cons c u hwi' =>
          rw [List.zip_cons_cons] at hz
          injection hz with hyx hrest
          injection hyx with hy hx
          subst hy hx
          rw [lexLt_cons] at hR
          simp only [List.length_cons] at hlen
          obtain ⟨e,he,hiff⟩:=eqAt_int A.in1 ⟨hp,g,d,tk,os⟩ a t c u
          refine wpAny_bind (he prog w _ _ ?_)
          cases e with
          | true =>
            rw [if_pos (hiff.mp rfl)] at hR
            wp_walk
            exact ⟨rfl,rfl,_,_,_,_,hrest,hvi',hwi',by omega,hR⟩
          | false =>
            rw [if_neg (fun q => absurd (hiff.mpr q) Bool.false_ne_true)] at hR
            have hri:=rcLt_int A.in1 ⟨hp,g,d,tk,os⟩ a t c u prog w
            wp_walk using hri
            exact ⟨_,rfl,by simpa using hR⟩
    case fin =>
      rintro ⟨b1,b2⟩ s' ⟨hb',rfl,vs,ws,ns',ms',hz,hvi,hwi,hlen,hR⟩
      simp only at hb'
      subst hb'
      have hv : lexLt ns' ms' = decide (items.size < items2.size):=by
        cases hvi with
        | nil =>
          cases hwi with
          | nil =>
            simp only [List.length_nil] at hlen
            rw [lexLt_nil_nil]
            exact (decide_eq_false (by omega)).symm
          | cons c u hw =>
            simp only [List.length_nil,List.length_cons] at hlen
            rw [lexLt_nil_cons]
            exact (decide_eq_true (by omega)).symm
        | cons a t hv =>
          cases hwi with
          | nil =>
            simp only [List.length_nil,List.length_cons] at hlen
            rw [lexLt_cons_nil]
            exact (decide_eq_false (by omega)).symm
          | cons c u hw =>
            rw [List.zip_cons_cons] at hz
            cases hz
      rw [hv] at hR
      wp_walk
      exact ⟨_,rfl,by simpa [Builtin.Tuple.tupleCompareSizes] using hR⟩
    case h =>
      exact ⟨rfl,rfl,items.toList,items2.toList,ns,ms,rfl,hi,hj,by omega,h⟩
end

section
variable {prog : Program} {w : World} {A : Around} {E : Value → Shared → Prop} {s : Shared}

theorem lt_tupInts {l b : Addr} {items items2 : Array Value} {ns ms : List Int} {Q : Value → Shared → Prop} (hl : IsTup s.heap l items) (hb : IsTup s.heap b items2) (hi : IntsAre items.toList ns) (hj : IntsAre items2.toList ms)
    (hu : A.units < cLine) (h : Q (.bool (lexLt ns ms)) s) : wpAny (model prog w) A (compareOp .Lt (.ref l) (.ref b)) Q E s:=by
  obtain ⟨⟨cls,dd,data,sl⟩,ho,hc,n,hd⟩:=id hl
  obtain ⟨⟨cls2,dd2,data2,sl2⟩,ho2,hc2,n2,hd2⟩:=id hb
  simp only at hc hd hc2 hd2
  subst hc hd hc2 hd2
  exact richCompare_meets_room (op:=.Lt) ⟨_,ho,rfl⟩ ⟨_,ho2,rfl⟩ PySem.F.slot_tuple_lt PySem.F.entry_tuple_lt (PySem.F.args_tuple_lt_2 _ _) (tuple_lt_ints l b items items2 n n2 dd dd2 sl sl2 ns ms hi hj)
    ⟨ho,ho2,show Value.bool (lexLt ns ms) ≠ Value.notImplemented ∧ Q (.bool (lexLt ns ms)) s from ⟨(fun x => nomatch x),h⟩⟩ hu

def sIx (n d : Nat) : Option Int → Nat
  | none => d
  | some v => if v < 0 then (v + (n : Int)).toNat else min v.toNat n
theorem sIx_none (n d : Nat) : sIx n d none = d:=rfl
theorem sIx_nat (n d k : Nat) : sIx n d (some (k : Int)) = min k n:=by
  show (if (k : Int) < 0 then ((k : Int) + (n : Int)).toNat else min (k : Int).toNat n) = min k n
  rw [if_neg (by omega),Int.toNat_natCast]
end
end HT

namespace L2
open PySem PySem.Spec PyProof.Rows

abbrev TO:=St → Hp → (Option Int → Hp → Prop) → Prop
def PO (X : Cx) (e : Option Expr) (t : TO) : Prop :=
  ∀ (pins : List (Addr × Obj)) (s : Shared) (σ : St) (H : Hp) (Q : Option Int → Hp → Prop),Inv X pins σ H s → t σ H Q →
    wpAny (model X.prog X.w) X.A (evalPart e X.env) (fun u s' => ∃ o H',Inv X pins σ H' s' ∧ IsPart u o ∧ Q o H') X.xe s
def tNoPart : TO:=fun _ H Q => Q none H
def tPart (t : TE) : TO:=fun σ H Q => t σ H fun x H1 => ∃ i,x = .int i ∧ Q (some i) H1

section
variable {X : Cx} {e : Expr} {te : TE} {lo hi : Option Expr} {tl th : TO} {pos p2 : Pos}

theorem po_none : PO X none tNoPart:=by
  intro pins s σ H Q I h
  rw [evalPart_none]
  exact wpAny_pure ⟨none,H,I,.none,h⟩
theorem po_some (h : PE X e te) : PO X (some e) (tPart te):=by
  intro pins s σ H Q I hw
  rw [evalPart_some]
  refine thn (h pins s σ H _ I hw) fun u s1 ⟨x,H1,I1,r1,q1⟩ => ?_
  obtain ⟨i,rfl,q⟩:=q1
  obtain ⟨t,rfl⟩:=r1
  exact ⟨some i,H1,I1,.int i t,q⟩

def SlR (X : Cx) (r : V → Option Int → Option Int → Hp → VK → Prop) : Prop :=
  ∀ (pins : List (Addr × Obj)) (s : Shared) (σ : St) (H : Hp) (x : V) (v vl vu : Value) (lo hi : Option Int) (sl : Addr) (Q : VK),Inv X pins σ H s → RelV x v → s.heap.IsSliceOf sl vl vu .none → IsPart vl lo → IsPart vu hi → r x lo hi H Q →
    ∃ T id,typeLookup (.type T) "__getitem__" = pure (some (.builtin id)) ∧ s.TypeIs v T ∧ wpAny (model X.prog X.w) X.A (getItem v (.ref sl)) (EP X pins σ Q) X.xe s
theorem SlR.or {r r' : V → Option Int → Option Int → Hp → VK → Prop} (h : SlR X r) (h' : SlR X r') : SlR X (fun x lo hi H Q => r x lo hi H Q ∨ r' x lo hi H Q):=by
  intro pins s σ H x v vl vu lo hi sl Q I rx hs pl pu q
  rcases q with q | q
  · exact h pins s σ H x v vl vu lo hi sl Q I rx hs pl pu q
  · exact h' pins s σ H x v vl vu lo hi sl Q I rx hs pl pu q
def tSl (r : V → Option Int → Option Int → Hp → VK → Prop) (te : TE) (tl th : TO) : TE:=fun σ H Q => te σ H fun x H1 => tl σ H1 fun l H2 => th σ H2 fun u H3 => r x l u H3 Q
theorem pe_slice {r : V → Option Int → Option Int → Hp → VK → Prop} (hr : SlR X r) (he : PE X e te) (hl : PO X lo tl) (hu : PO X hi th) : PE X (.Subscript e (.Slice lo hi none p2) pos) (tSl r te tl th):=by
  intro pins s σ H Q I h
  refine Subscript_ (thn (he pins s σ H _ I h) fun v s1 ⟨x,H1,I1,r1,q1⟩ => ?_)
  refine wpAny_Slice (thn (hl pins s1 σ H1 _ I1 q1) fun vl s2 ⟨l,H2,I2,pl,q2⟩ => thn (hu pins s2 σ H2 _ I2 q2) fun vu s3 ⟨u,H3,I3,pu,q3⟩ => ?_)
  rw [evalPart_none]
  refine wpAny_pure ?_
  have I4 : Inv X pins σ H3 { s3 with heap:=s3.heap.push { cls:=.type "slice",data:=.fields #[vl,vu,.none] } }:=I3.kept (t':=s3.toks) fun b ob q => Heap.get?_push_of_some _ q
  obtain ⟨T,id,hT,ht,hg⟩:=hr pins { s3 with heap:=s3.heap.push { cls:=.type "slice",data:=.fields #[vl,vu,.none] } } σ H3 x v vl vu l u s3.heap.objs.size Q I4 r1 (Heap.IsSliceOf.new ..) pl pu q3
  show wpAny (model X.prog X.w) X.A (subscriptTail e (.Slice lo hi none p2) v (.ref s3.heap.objs.size)) (EP X pins σ Q) X.xe { s3 with heap:=s3.heap.push { cls:=.type "slice",data:=.fields #[vl,vu,.none] } }
  exact tail_any (ops:=[.ref s3.heap.objs.size,v]) ht hT hg (by with_unfolding_all rfl)

def cutV (xs : List V) (lo hi : Option Int) : List V:=(xs.drop (HT.sIx xs.length 0 lo)).take (HT.sIx xs.length xs.length hi - HT.sIx xs.length 0 lo)
theorem cutV_length (xs : List V) (lo hi : Option Int) : (cutV xs lo hi).length ≤ xs.length:=by
  unfold cutV
  rw [List.length_take,List.length_drop]
  omega
end
end L2

namespace L2
open PySem PySem.Spec PyProof.Rows

def ixN (n : Nat) (i : Int) : Option Nat:=if 0 ≤ i then (if i < n then some i.toNat else none) else if -(n : Int) ≤ i then some (i + n).toNat else none
def atI {α : Type} (xs : List α) (i : Int) : Option α:=(ixN xs.length i).bind fun j => xs[j]?
theorem ixN_seq {n : Nat} {i : Int} {j : Nat} (h : ixN n i = some j) : seqIndex? i n = some j ∧ j < n ∧ -(n : Int) ≤ i ∧ i < n:=by
  unfold ixN at h
  by_cases h0 : 0 ≤ i
  · rw [if_pos h0] at h
    by_cases h1 : i < n
    · rw [if_pos h1] at h
      have e : i.toNat = j:=Option.some.inj h
      exact ⟨by rw [seqIndex_of h0 h1,e],by omega,by omega,h1⟩
    · rw [if_neg h1] at h; cases h
  · rw [if_neg h0] at h
    by_cases h1 : -(n : Int) ≤ i
    · rw [if_pos h1] at h
      have e : (i + n).toNat = j:=Option.some.inj h
      exact ⟨by rw [seqIndex_neg (by omega) h1,e],by omega,h1,by omega⟩
    · rw [if_neg h1] at h; cases h
theorem atI_get {α : Type} {xs : List α} {i : Int} {v : α} (h : atI xs i = some v) : ∃ j,seqIndex? i xs.length = some j ∧ xs[j]? = some v ∧ j < xs.length ∧ -(xs.length : Int) ≤ i ∧ i < xs.length:=by
  unfold atI at h
  cases e : ixN xs.length i with
  | none => rw [e] at h; cases h
  | some j =>
    rw [e] at h
    obtain ⟨h1,h2,h3,h4⟩:=ixN_seq e
    exact ⟨j,h1,h,h2,h3,h4⟩
theorem atI_nat {α : Type} {xs : List α} {j : Nat} {v : α} (h : xs[j]? = some v) : atI xs (j : Int) = some v:=by
  have hj : j < xs.length:=(List.getElem?_eq_some_iff.mp h).1
  have e : ixN xs.length (j : Int) = some j:=by
    unfold ixN
    rw [if_pos (by omega),if_pos (by omega)]; simp
  unfold atI; rw [e]; exact h
def PlainIx (b : Expr) : Prop:=∀ o i,subscripted b false o i = operate [o,i] (getItem o i)
def IxR (X : Cx) (r : R2) : Prop :=
  ∀ (value slice : Expr) (pins : List (Addr × Obj)) (s : Shared) (σ : St) (H : Hp) (x y : V) (v u : Value) (Q : VK),Inv X pins σ H s → RelV x v → RelV y u → r x y H Q →
    subscripted slice false v u = operate [v,u] (getItem v u) → wpAny (model X.prog X.w) X.A (subscriptTail value slice v u) (EP X pins σ Q) X.xe s
def MtR (X : Cx) (id : String) (r : V → List V → Hp → VK → Prop) : Prop :=
  ∀ (pins : List (Addr × Obj)) (s : Shared) (σ : St) (H : Hp) (x : V) (xs : List V) (v : Value) (us : List Value) (Q : VK),Inv X pins σ H s → RelV x v → Vals xs us → r x xs H Q →
    wpAny (model X.prog X.w) X.A (call (.builtin id) (v :: us)) (EP X pins σ Q) X.xe s
section
variable {X : Cx} {a b : Expr} {ta tb : TE} {pos : Pos}
theorem IxR.or {r r' : R2} (h : IxR X r) (h' : IxR X r') : IxR X (fun x y H Q => r x y H Q ∨ r' x y H Q):=by
  intro value slice pins s σ H x y v u Q I rx ry q hs
  rcases q with q | q
  · exact h value slice pins s σ H x y v u Q I rx ry q hs
  · exact h' value slice pins s σ H x y v u Q I rx ry q hs
theorem MtR.or {id : String} {r r' : V → List V → Hp → VK → Prop} (h : MtR X id r) (h' : MtR X id r') : MtR X id (fun x xs H Q => r x xs H Q ∨ r' x xs H Q):=by
  intro pins s σ H x xs v us Q I rx rs q
  rcases q with q | q
  · exact h pins s σ H x xs v us Q I rx rs q
  · exact h' pins s σ H x xs v us Q I rx rs q
theorem pe_ix {r : R2} (hr : IxR X r) (ha : PE X a ta) (hb : PE X b tb) (hs : PlainIx b) : PE X (.Subscript a b pos) (tOp r ta tb):=by
  intro pins s σ H Q I h
  exact Subscript_ (binT ha hb I h fun v u s2 x y H2 I2 rx ry q => hr a b pins s2 σ H2 x y v u Q I2 rx ry q (hs _ _))

def rIxL (K : PySem.W.Frag) : R2:=fun x y H Q => ∃ p xs i v,x = .ref p ∧ y = .int i ∧ SqL K H p xs ∧ atI xs i = some v ∧ Q v H
def rIxT (K : PySem.W.Frag) : R2:=fun x y H Q => ∃ p xs i v,x = .ref p ∧ y = .int i ∧ SqT K H p xs ∧ atI xs i = some v ∧ Q v H
theorem ix_list : IxR X (rIxL X.K):=by
  intro value slice pins s σ H x y v u Q I rx ry h hs
  obtain ⟨p,xs,i,z,rfl,rfl,hq,he,q⟩:=h
  cases rx
  obtain ⟨t,rfl⟩:=ry
  obtain ⟨its,r,pl,hz⟩:=I.list hq
  obtain ⟨j,h1,h2,h3,h4,h5⟩:=atI_get he
  obtain ⟨w,ew,rw'⟩:=r.get h2
  have hl:=r.length
  have hn:=line63
  have fin : EP X pins σ Q w s:=⟨z,H,I,rw',q⟩
  by_cases h0 : 0 ≤ i
  · have hj : i.toNat = j:=by
      rw [seqIndex_of h0 h5] at h1
      exact Option.some.inj h1
    exact item_listR pl.isList h0 (by omega) (by rw [hj]; simpa using ew) fin hs
  · have hj : (i + (its.toArray.size : Int)).toNat = j:=by
      rw [seqIndex_neg (by omega) h4] at h1
      rw [List.size_toArray,← hl]
      exact Option.some.inj h1
    exact subscriptTail_builtinR (x:=w) pl.isList.typeIs slot_list_getitem.lookup
      (wpAny_getItem_list_neg (Q:=fun r s' => r = w ∧ EP X pins σ Q r s') pl.isList (by omega) (by rw [List.size_toArray] <;> omega) (by omega) (by rw [hj]; simpa using ew) ⟨rfl,fin⟩) hs
theorem ix_tup : IxR X (rIxT X.K):=by
  intro value slice pins s σ H x y v u Q I rx ry h hs
  obtain ⟨p,xs,i,z,rfl,rfl,hq,he,q⟩:=h
  cases rx
  obtain ⟨t,rfl⟩:=ry
  obtain ⟨its,r,pl,hz⟩:=I.tuple hq
  obtain ⟨j,h1,h2,h3,h4,h5⟩:=atI_get he
  obtain ⟨w,ew,rw'⟩:=r.get h2
  have hl:=r.length
  have hn:=line63
  have fin : EP X pins σ Q w s:=⟨z,H,I,rw',q⟩
  exact subscriptTail_builtinR (x:=w) pl.typeIs slot_tuple_getitem.lookup
    (getItem_tuple (j:=j) (Q:=fun r s' => r = w ∧ EP X pins σ Q r s') pl (by omega) (by omega) (by rw [List.size_toArray,← hl]; exact h1) (by simpa using ew) ⟨rfl,fin⟩) hs
theorem mapSeq_set (its : List Value) (n j : Nat) (u : Value) : Obj.mapSeq (·.setIfInBounds j u) { cls:=.type "list",data:=.seq its.toArray n } = { cls:=.type "list",data:=.seq (its.set j u).toArray n }:=by
  simp [Obj.mapSeq]
theorem Inv.lst {pins : List (Addr × Obj)} {σ : St} {H : Hp} {s : Shared} {p : Addr} {xs : List V} (I : Inv X pins σ H s) (h : H p = some (.lst xs)) :
    ∃ (its : List Value) (n : Nat),Vals xs its ∧ s.heap.get? p = some { cls:=.type "list",data:=.seq its.toArray n } ∧ xs.length ≤ sizeLine:=by
  obtain ⟨z,its,n,r,e⟩:=I.hok p _ h
  exact ⟨its,n,r,e,z⟩
theorem Inv.lstUpd {pins : List (Addr × Obj)} {σ : St} {H : Hp} {s : Shared} {p : Addr} {xs ys : List V} {its its' : List Value} {n n' : Nat} {f : Obj → Obj} (I : Inv X pins σ H s) (h : H p = some (.lst xs))
    (ho : s.heap.get? p = some { cls:=.type "list",data:=.seq its.toArray n }) (hf : f { cls:=.type "list",data:=.seq its.toArray n } = { cls:=.type "list",data:=.seq its'.toArray n' }) (r : Vals ys its') (hz : ys.length ≤ sizeLine) (t : Nat) :
    Inv X pins σ (upd H p (.lst ys)) { s with heap:=s.heap.update p f,toks:=t }:=by
  have e : (s.heap.update p f).get? p = some { cls:=.type "list",data:=.seq its'.toArray n' }:=by
    rw [Heap.get?_update_self f ho (by rw [hf] <;> rfl),hf]
  refine I.write (x:=p) (e:=p) (by rw [h]; trivial) (.inl rfl) (fun b u hb q => (Heap.get?_update_other _ _ (Ne.symm hb)).trans q) ⟨_,e⟩ ?_
  exact ⟨hz,its',n',r,e⟩
def rSetL : V → V → V → Hp → (Hp → Prop) → Prop:=fun o i v H Q => ∃ p xs k j,o = .ref p ∧ i = .int k ∧ H p = some (.lst xs) ∧ ixN xs.length k = some j ∧ Q (upd H p (.lst (xs.set j v)))
theorem set_list : PSet X rSetL:=by
  intro pins s σ H o i v ov iv u Q I ro ri rv h
  obtain ⟨p,xs,k,j,rfl,rfl,hp,hj,q⟩:=h
  cases ro
  obtain ⟨t,rfl⟩:=ri
  obtain ⟨its,n,r,ho,hz⟩:=I.lst hp
  obtain ⟨h1,h2,h3,h4⟩:=ixN_seq hj
  have hl:=r.length
  have hn:=line63
  have I' : Inv X pins σ (upd H p (.lst (xs.set j v))) { s with heap:=s.heap.update p (Obj.mapSeq (·.setIfInBounds j u)) } :=
    I.lstUpd hp ho (mapSeq_set its n j u) (r.set rv j) (by rw [List.length_set]; exact hz) s.toks
  by_cases h0 : 0 ≤ k
  · have hk : k.toNat = j:=by
      rw [seqIndex_of h0 h4] at h1
      exact Option.some.inj h1
    exact PySem.W.ki_setAt ho h0 (by omega) (by rw [List.size_toArray,← hl]; exact h4) (by rw [hk]; exact ⟨_,I',q⟩)
  · have hk : (k + (its.toArray.size : Int)).toNat = j:=by
      rw [seqIndex_neg (by omega) h3] at h1
      rw [List.size_toArray,← hl]
      exact Option.some.inj h1
    exact PySem.W.ki_setBack ho (by omega) (by rw [List.size_toArray,← hl]; exact h3) (by omega) (by rw [hk]; exact ⟨_,I',q⟩)

theorem slice_bounds (lo hi : Option Int) (n : Nat) : (sliceBounds lo hi none n).1 = ((HT.sIx n 0 lo : Nat) : Int) ∧ (sliceBounds lo hi none n).2.1 = ((HT.sIx n n hi : Nat) : Int) ∧ (sliceBounds lo hi none n).2.2 = 1:=by
  refine ⟨?_,?_,rfl⟩
  · cases lo with
    | none => simp [sliceBounds,HT.sIx]
    | some i =>
      simp only [sliceBounds,HT.sIx,Option.getD_none,show (1 : Int) > 0 by decide,if_true]
      by_cases h : i < 0
      · simp only [h,if_true] <;> omega
      · simp only [h,if_false] <;> omega
  · cases hi with
    | none => simp [sliceBounds,HT.sIx]
    | some i =>
      simp only [sliceBounds,HT.sIx,Option.getD_none,show (1 : Int) > 0 by decide,if_true]
      by_cases h : i < 0
      · simp only [h,if_true] <;> omega
      · simp only [h,if_false] <;> omega
theorem slicePick_cut (its : List Value) (lo hi : Option Int) : slicePick its.toArray lo hi none = ((its.drop (HT.sIx its.length 0 lo)).take (HT.sIx its.length its.length hi - HT.sIx its.length 0 lo)).toArray:=by
  obtain ⟨h1,h2,h3⟩:=slice_bounds lo hi its.toArray.size
  unfold slicePick
  rw [h1,h2,h3]
  simp only [sliceRange_one,pick_run,List.size_toArray] <;> rfl
def rSlL (K : PySem.W.Frag) : V → Option Int → Option Int → Hp → VK → Prop:=fun x lo hi H Q => ∃ a xs,x = .ref a ∧ SqL K H a xs ∧ ∀ p,H p = none → Q (.ref p) (upd H p (.lst (cutV xs lo hi)))
theorem sl_list : SlR X (rSlL X.K):=by
  intro pins s σ H x v vl vu lo hi sl Q I rx hs pl pu h
  obtain ⟨a,xs,rfl,hx,q⟩:=h
  cases rx
  obtain ⟨its,r,ht,hz⟩:=I.list hx
  have hlen:=r.length
  refine ⟨"list",_,slot_list_getitem.lookup,ht.isList.typeIs,?_⟩
  refine wpAny_getItem_list_slice ht.isList hs pl pu .none (by simp) ?_ (by rw [List.size_toArray] <;> omega)
  rw [slicePick_cut,← hlen]
  refine ⟨.ref s.heap.objs.size,_,I.laid (t':=s.toks) (o:=.lst (cutV xs lo hi)) (fun b ob q => Heap.get?_push_of_some _ q) (Nat.le_refl _) ?_,rfl,q _ (I.hok.fresh (Nat.le_refl _))⟩
  exact ⟨Nat.le_trans (cutV_length xs lo hi) hz,_,0,(r.drop (HT.sIx xs.length 0 lo)).take (HT.sIx xs.length xs.length hi - HT.sIx xs.length 0 lo),Heap.get?_push_size _ rfl⟩

def flatV : V → Bool
  | .non => true
  | .bl _ => true
  | .int _ => true
  | .str _ => true
  | _ => false
def eqV : V → V → Bool
  | .non,.non => true
  | .bl a,.bl b => a == b
  | .bl a,.int b => (if a then 1 else 0) == b
  | .int a,.bl b => a == (if b then 1 else 0)
  | .int a,.int b => a == b
  | .str a,.str b => a == b
  | _,_ => false
theorem eqAt_V {A : Around} {s : Shared} {y x : V} {u v : Value} (ry : RelV y u) (rx : RelV x v) (fy : flatV y = true) (fx : flatV x = true) : SeqAt.EqAt A s u v (eqV y x):=by
  cases y with
  | non =>
    cases ry
    cases x with
    | non => cases rx; exact SeqAt.EqAt.same _
    | bl b => cases rx; exact SeqAt.EqAt.none_bool b
    | int b => obtain ⟨t,rfl⟩:=rx; exact SeqAt.EqAt.none_int b t
    | str b => obtain ⟨t,rfl⟩:=rx; exact SeqAt.EqAt.none_str b t
    | _ => exact absurd (show false = true from fx) Bool.false_ne_true
  | bl a =>
    cases ry
    cases x with
    | non => cases rx; exact SeqAt.EqAt.bool_none a
    | bl b => cases rx; exact SeqAt.EqAt.bool_bool a b
    | int b => obtain ⟨t,rfl⟩:=rx; exact SeqAt.EqAt.bool_int a b t
    | str b => obtain ⟨t,rfl⟩:=rx; exact SeqAt.EqAt.bool_str a b t
    | _ => exact absurd (show false = true from fx) Bool.false_ne_true
  | int a =>
    obtain ⟨t',rfl⟩:=ry
    cases x with
    | non => cases rx; exact SeqAt.EqAt.int_none a t'
    | bl b => cases rx; exact SeqAt.EqAt.int_bool a t' b
    | int b => obtain ⟨t,rfl⟩:=rx; exact SeqAt.EqAt.int_int a t' b t
    | str b => obtain ⟨t,rfl⟩:=rx; exact SeqAt.EqAt.int_str a t' b t
    | _ => exact absurd (show false = true from fx) Bool.false_ne_true
  | str a =>
    obtain ⟨t',rfl⟩:=ry
    cases x with
    | non => cases rx; exact SeqAt.EqAt.str_none a t'
    | bl b => cases rx; exact SeqAt.EqAt.str_bool a t' b
    | int b => obtain ⟨t,rfl⟩:=rx; exact SeqAt.EqAt.str_int a t' b t
    | str b => obtain ⟨t,rfl⟩:=rx; exact SeqAt.EqAt.str_str a t' b t
    | _ => exact absurd (show false = true from fx) Bool.false_ne_true
  | _ => exact absurd (show false = true from fy) Bool.false_ne_true
def eqU (x : V) (u : Value) : Bool:=match u with
  | .none => eqV .non x
  | .bool b => eqV (.bl b) x
  | .int i _ => eqV (.int i) x
  | .str z _ => eqV (.str z) x
  | _ => false
theorem eqU_of {x y : V} {u : Value} (r : RelV y u) (f : flatV y = true) : eqU x u = eqV y x:=by
  cases y with
  | non => cases r; rfl
  | bl b => cases r; rfl
  | int i => obtain ⟨t,rfl⟩:=r; rfl
  | str z => obtain ⟨t,rfl⟩:=r; rfl
  | _ => exact absurd (show false = true from f) Bool.false_ne_true
theorem any_eqU {x : V} : ∀ {xs : List V} {us : List Value},Vals xs us → xs.all flatV = true → us.any (eqU x) = xs.any fun y => eqV y x
  | _,_,.nil,_ => rfl
  | y :: xs,u :: us,.cons r t,f => by
    rw [List.all_cons,Bool.and_eq_true] at f
    rw [List.any_cons,List.any_cons,eqU_of r f.1,any_eqU t f.2]
theorem mem_eqAt {A : Around} {s : Shared} {x : V} {v : Value} (rx : RelV x v) (fx : flatV x = true) : ∀ {xs : List V} {us : List Value},Vals xs us → xs.all flatV = true → ∀ u ∈ us,SeqAt.EqAt A s u v (eqU x u)
  | _,_,.nil,_ => fun u hu => by cases hu
  | y :: xs,u :: us,.cons r t,f => fun u' hu => by
    rw [List.all_cons,Bool.and_eq_true] at f
    rcases List.mem_cons.mp hu with rfl | hu
    · rw [eqU_of r f.1]; exact eqAt_V r rx f.1 fx
    · exact mem_eqAt rx fx t f.2 u' hu
def inV (x : V) (xs : List V) : Bool:=xs.any fun y => eqV y x
def rIn (K : PySem.W.Frag) (neg : Bool) : R2:=fun x y H Q => ∃ p xs,y = .ref p ∧ (SqL K H p xs ∨ SqT K H p xs) ∧ flatV x = true ∧ xs.all flatV = true ∧ Q (.bl (if neg then !inV x xs else inV x xs)) H
theorem op_in_seq : OpR X (compareOp .In) (rIn X.K false):=by
  intro pins s σ H x y v u Q I rx ry h
  obtain ⟨p,xs,rfl,hq,fx,fs,q⟩:=h
  cases ry
  rcases hq with hq | hq
  · obtain ⟨its,r,pl,hz⟩:=I.list hq
    refine SeqAt.in_listAt (eqU x) pl.isList (fun w hw => mem_eqAt rx fx r fs w (by simpa using hw)) ⟨.bl _,H,I,rfl,?_⟩
    rw [show its.toArray.any (eqU x) = its.any (eqU x) by simp,any_eqU r fs]
    exact q
  · obtain ⟨its,r,pl,hz⟩:=I.tuple hq
    refine SeqAt.in_tupleAt (eqU x) pl (fun w hw => mem_eqAt rx fx r fs w (by simpa using hw)) ⟨.bl _,H,I,rfl,?_⟩
    rw [show its.toArray.any (eqU x) = its.any (eqU x) by simp,any_eqU r fs]
    exact q
theorem call_len_seq : CallR X (.builtin "len") (fun xs H Q => ∃ p ys,xs = [.ref p] ∧ (SqL X.K H p ys ∨ SqT X.K H p ys) ∧ Q (.int ys.length) H):=by
  intro pins s σ H xs us Q I r h
  obtain ⟨p,ys,rfl,hq,q⟩:=h
  obtain ⟨u,rfl,rx⟩:=vals1 r
  cases rx
  have hn:=line63
  rcases hq with hq | hq
  · obtain ⟨its,r',pl,hz⟩:=I.list hq
    have hlen:=r'.length
    exact Calls.call_len_list pl.isList (by simp only [List.size_toArray] <;> omega) ⟨.int ys.length,H,I.tok _,⟨s.toks + 1,by rw [List.size_toArray,hlen]⟩,q⟩
  · obtain ⟨its,r',pl,hz⟩:=I.tuple hq
    have hlen:=r'.length
    exact len_tuple pl (by simp only [List.size_toArray] <;> omega) ⟨.int ys.length,H,I.tok _,⟨s.toks + 1,by rw [List.size_toArray,hlen]⟩,q⟩
theorem CallR.or {f : Value} {r r' : List V → Hp → VK → Prop} (h : CallR X f r) (h' : CallR X f r') : CallR X f (fun xs H Q => r xs H Q ∨ r' xs H Q):=by
  intro pins s σ H xs us Q I rs q
  rcases q with q | q
  · exact h pins s σ H xs us Q I rs q
  · exact h' pins s σ H xs us Q I rs q
theorem call_list_of : CallR X (.type "list") (fun xs H Q => ∃ p ys,xs = [.ref p] ∧ (SqL X.K H p ys ∨ SqT X.K H p ys) ∧ ∀ l,H l = none → Q (.ref l) (upd H l (.lst ys))):=by
  intro pins s σ H xs us Q I r h
  obtain ⟨p,ys,rfl,hq,q⟩:=h
  obtain ⟨u,rfl,rx⟩:=vals1 r
  cases rx
  have fin : ∀ (its : List Value),Vals ys its → ys.length ≤ sizeLine → ∀ (h' : Heap) (c' : Nat),(∀ b o',s.heap.get? b = some o' → h'.get? b = some o') →
      h'.get? s.heap.objs.size = some { cls:=.type "list",dict:=none,data:=.seq its.toArray c',slots:=#[] } → EP X pins σ Q (.ref s.heap.objs.size) { s with heap:=h' }:=fun its r' hz h' c' kp e =>
    ⟨.ref s.heap.objs.size,_,I.laid (t':=s.toks) kp (Nat.le_refl _) (show ObjOk X.prog X.w _ h' _ (.lst ys) from ⟨hz,its,c',r',e⟩),rfl,q _ (I.hok.fresh (Nat.le_refl _))⟩
  rcases hq with hq | hq
  · obtain ⟨its,r',pl,hz⟩:=I.list hq
    have hlen:=r'.length
    obtain ⟨o,ho,hc,n,hd⟩:=pl.isList
    exact call_list_seq p (.inl rfl) ho hc hd (fun h' c' kp e => fin its r' hz h' c' kp e) (by simp only [List.size_toArray] <;> omega)
  · obtain ⟨its,r',pl,hz⟩:=I.tuple hq
    have hlen:=r'.length
    obtain ⟨o,ho,hc,n,hd⟩:=pl
    exact call_list_seq p (.inr rfl) ho hc hd (fun h' c' kp e => fin its r' hz h' c' kp e) (by simp only [List.size_toArray] <;> omega)
def tyV (K : PySem.W.Frag) (T : String) (x : V) (H : Hp) : Prop:=match x with
  | .str _ => T = "str"
  | .int _ => T = "int"
  | .ref p => (T = "list" ∧ ∃ xs,SqL K H p xs) ∨ (T = "tuple" ∧ ∃ o,K.lookup p = some o ∧ o.cls = .type "tuple" ∧ o.dict = none) ∨
      (T = "dict" ∧ ((∃ kvs,H p = some (.dK kvs)) ∨ ∃ kvs,H p = some (.dT kvs))) ∨ (T = "set" ∧ ∃ S n,H p = some (.set S n))
  | _ => False
theorem tyV_is {pins : List (Addr × Obj)} {σ : St} {H : Hp} {s : Shared} {T : String} {x : V} {v : Value} (I : Inv X pins σ H s) (r : RelV x v) (ty : tyV X.K T x H) :
    s.TypeIs v T ∧ ∀ a,v = .ref a → ∃ ob,s.heap.get? a = some ob ∧ ob.dict = none:=by
  cases x with
  | str z =>
    obtain ⟨t,rfl⟩:=r
    cases (show T = "str" from ty)
    exact ⟨typeIs_str s z t,fun _ e => nomatch e⟩
  | int i =>
    obtain ⟨t,rfl⟩:=r
    cases (show T = "int" from ty)
    exact ⟨typeIs_int s i t,fun _ e => nomatch e⟩
  | ref p =>
    cases r
    rcases ty with ⟨rfl,xs,hq⟩ | ⟨rfl,o,hk,hc,hd⟩ | ⟨rfl,hk⟩ | ⟨rfl,S,n,hk⟩
    · obtain ⟨its,_,pl,_⟩:=I.list hq
      refine ⟨pl.isList.typeIs,fun a e => ?_⟩
      cases e
      obtain ⟨o,n,e,c,hd,_⟩:=pl
      exact ⟨o,e,hd⟩
    · refine ⟨⟨o,I.kIn p o hk,hc⟩,fun a e => ?_⟩
      cases e
      exact ⟨o,I.kIn _ o hk,hd⟩
    · have z : ∃ o,s.heap.get? p = some o ∧ o.ExactDict:=by
        rcases hk with ⟨kvs,hk⟩ | ⟨kvs,hk⟩
        · obtain ⟨_,_,_,_,o,_,_,e,ex,_⟩:=I.hok p _ hk
          exact ⟨o,e,ex⟩
        · obtain ⟨_,_,_,_,o,_,_,e,ex,_⟩:=I.hok p _ hk
          exact ⟨o,e,ex⟩
      obtain ⟨o,e,ex⟩:=z
      refine ⟨⟨o,e,ex.1⟩,fun a e2 => ?_⟩
      cases e2
      exact ⟨o,e,ex.2.1⟩
    · obtain ⟨o,_,_,_,e,ex,_⟩:=I.hok p _ hk
      refine ⟨⟨o,e,ex.1⟩,fun a e2 => ?_⟩
      cases e2
      exact ⟨o,e,ex.2.1⟩
  | _ => exact False.elim ty
def tBM0 (K : PySem.W.Frag) (T : String) (r : V → List V → Hp → VK → Prop) (to : TE) : TE:=fun σ H Q => to σ H fun x H1 => tyV K T x H1 ∧ r x [] H1 Q
def tBM (K : PySem.W.Frag) (T : String) (r : V → List V → Hp → VK → Prop) (to : TE) (t : TA) : TE:=fun σ H Q => to σ H fun x H1 => tyV K T x H1 ∧ t σ H1 fun xs H2 => r x xs H2 Q
variable {o e : Expr} {es : List Expr} {to : TE} {t : TA} {name : Str} {apos cpos : Pos} {T id : String} {r : V → List V → Hp → VK → Prop}
theorem pe_bm0 (pa : PlainAttrs T) (slot : Slot T name id) (hty : typeOf (.builtin id) = pure (.type "method_descriptor")) (hm : MtR X id r) (ho : PE X o to)
    (hbase : attributeBase o name X.env (eval o X.env) = eval o X.env:=by rfl) (hline : (apos.endLine == cpos.line) = true:=by rfl) : PE X (.Call (.Attribute o name apos) [] [] cpos) (tBM0 X.K T r to):=by
  intro pins s σ H Q I h
  refine wpAny_Call_method0_late hbase hline (thn (ho pins s σ H _ I h) fun v s1 ⟨x,H1,I1,r1,ty,q1⟩ => ?_)
  obtain ⟨h1,h2⟩:=tyV_is I1 r1 ty
  exact ⟨T,id,pa,slot,hty,h1,h2,Calls.callWith_builtin rfl (PySem.evalArgs_none (hm pins s1 σ H1 x [] v [] Q I1 r1 .nil q1))⟩
theorem pe_bm (pa : PlainAttrs T) (slot : Slot T name id) (hty : typeOf (.builtin id) = pure (.type "method_descriptor")) (hm : MtR X id r) (ho : PE X o to) (ha : PA X (e :: es) t)
    (hbase : attributeBase o name X.env (eval o X.env) = eval o X.env:=by rfl)
    (hfew : ((backTo cpos (starEach (e :: es) X.env)).all (fun x => !x.1) && (backToKw cpos (keywordEach [] X.env)).all (fun x => x.1.isSome)
      && decide ((e :: es).length + ([] : List Keyword).length + (if ([] : List Keyword).isEmpty then 0 else 1) < 30)) = true:=by rfl)
    (hline : (apos.endLine == cpos.line) = true:=by rfl) (hs : starEach (e :: es) X.env = (false,eval e X.env) :: starEach es X.env:=by rfl) (hplain : (backTo cpos (starEach es X.env)).any (·.1) = false:=by rfl) :
    PE X (.Call (.Attribute o name apos) (e :: es) [] cpos) (tBM X.K T r to t):=by
  intro pins s σ H Q I h
  refine wpAny_Call_method_late hbase hfew hline rfl (thn (ho pins s σ H _ I h) fun v s1 ⟨x,H1,I1,r1,ty,q1⟩ => ?_)
  obtain ⟨h1,h2⟩:=tyV_is I1 r1 ty
  refine ⟨T,id,pa,slot,hty,h1,h2,?_⟩
  have hA:=ha cpos pins s1 σ H1 _ I1 q1
  rw [hs] at hA ⊢
  refine Calls.callWith_builtin (by show (false || (backTo cpos (starEach es X.env)).any (·.1)) = false; rw [hplain] <;> rfl) (Calls.evalArgs_plain ?_)
  exact thn hA fun us s2 ⟨vs,H2,I2,r2,q2⟩ => hm pins s2 σ H2 x vs v us Q I2 r1 r2 q2
/- xs.append(e),list.index on a module's tuple .. are MtR facts of 06m -/
end
end L2

namespace L2
open PySem PySem.Spec PyProof.Rows

def MtM (X : Cx) (id : String) (r : V → List V → Hp → VK → Prop) : Prop :=
  ∀ (pins : List (Addr × Obj)) (s : Shared) (σ : St) (H : Hp) (x : V) (xs : List V) (v : Value) (us : List Value) (Q : VK),Inv X pins σ H s → RelV x v → Vals xs us → r x xs H Q →
    wpAny (model X.prog X.w) X.A (call (.builtin id) (v :: us)) (EP X pins σ Q) X.xe s

theorem Vals.one : ∀ {x : V} {us : List Value},Vals [x] us → ∃ u,us = [u] ∧ RelV x u
  | _,_,.cons r .nil => ⟨_,rfl,r⟩
theorem Vals.two : ∀ {x y : V} {us : List Value},Vals [x,y] us → ∃ u v,us = [u,v] ∧ RelV x u ∧ RelV y v
  | _,_,_,.cons r (.cons q .nil) => ⟨_,_,rfl,r,q⟩
theorem Vals.zero : ∀ {us : List Value},Vals [] us → us = []
  | _,.nil => rfl
theorem Vals.dropLast {xs : List V} {us : List Value} (h : Vals xs us) : Vals xs.dropLast us.dropLast:=by
  induction h with
  | nil => exact .nil
  | cons r t ih =>
    cases t with
    | nil => exact .nil
    | cons q t' => exact .cons r ih
theorem Vals.eraseIdx : ∀ {xs : List V} {us : List Value} (i : Nat),Vals xs us → Vals (xs.eraseIdx i) (us.eraseIdx i)
  | _,_,_,.nil => .nil
  | _,_,0,.cons _ t => t
  | _,_,i + 1,.cons r t => .cons r (Vals.eraseIdx i t)
theorem Vals.reverse {xs : List V} {us : List Value} (h : Vals xs us) : Vals xs.reverse us.reverse:=by
  induction h with
  | nil => exact .nil
  | cons r t ih => rw [List.reverse_cons,List.reverse_cons]; exact Vals.append ih (.cons r .nil)
theorem Vals.rep {xs : List V} {us : List Value} (h : Vals xs us) : ∀ k : Nat,Vals (List.replicate k xs).flatten (List.replicate k us).flatten
  | 0 => .nil
  | k + 1 => by
    rw [List.replicate_succ,List.replicate_succ,List.flatten_cons,List.flatten_cons]
    exact Vals.append h (Vals.rep h k)
theorem erase_last {α : Type} (l : List α) : l.eraseIdx (l.length - 1) = l.dropLast:=by
  induction l with
  | nil => rfl
  | cons a r ih =>
    cases r with
    | nil => rfl
    | cons b r =>
      have e : (a :: b :: r).length - 1 = ((b :: r).length - 1) + 1:=by
        have h1 : (a :: b :: r).length = r.length + 2:=rfl
        have h2 : (b :: r).length = r.length + 1:=rfl
        omega
      rw [e,List.eraseIdx_cons_succ,ih]
      all_goals rfl
theorem foldl_rep (its : List Value) : ∀ (k : Nat) (acc : List Value),
    List.foldl (fun x1 x2 => x1 ++ x2) acc.toArray (List.replicate k its.toArray) = (acc ++ (List.replicate k its).flatten).toArray
  | 0,acc => by simp
  | k + 1,acc => by
    have e : acc.toArray ++ its.toArray = (acc ++ its).toArray:=by simp
    have e2 : (acc ++ its) ++ (List.replicate k its).flatten = acc ++ (List.replicate (k + 1) its).flatten:=by
      rw [List.replicate_succ,List.flatten_cons,List.append_assoc]
    rw [← e2,← foldl_rep its k (acc ++ its),← e,List.replicate_succ,List.foldl_cons]

section
variable {X : Cx} {pins : List (Addr × Obj)} {σ : St} {H : Hp} {s : Shared} {l b : Addr} {xs ys zs : List V}

theorem Inv.lset {its its' : List Value} {n : Nat} {f : Array Value → Array Value} {t' : Nat} (I : Inv X pins σ H s) (hH : H l = some (.lst xs))
    (e : s.heap.get? l = some { cls:=.type "list",data:=.seq its.toArray n }) (hf : f its.toArray = its'.toArray) (hv : Vals ys its') (hz : ys.length ≤ sizeLine) :
    Inv X pins σ (upd H l (.lst ys)) { s with heap:=s.heap.update l (Obj.mapSeq f),toks:=t' }:=by
  have q:=PySem.IsL.update e f
  rw [hf] at q
  refine I.write (x:=l) (e:=l) (by rw [hH]; exact trivial) (.inl rfl) (fun b' u hb hu => (Heap.get?_update_other s.heap (Obj.mapSeq f) (Ne.symm hb)).trans hu) ⟨_,q⟩ ?_
  exact ⟨hz,its',_,hv,q⟩
theorem Inv.lnew {its : List Value} {t' : Nat} (I : Inv X pins σ H s) (hv : Vals ys its) (hz : ys.length ≤ sizeLine) :
    Inv X pins σ (upd H s.heap.objs.size (.lst ys)) { s with heap:=s.heap.push { cls:=.type "list",data:=.seq its.toArray },toks:=t' } :=
  I.laid (fun _ _ q => Heap.get?_push_of_some _ q) (Nat.le_refl _) ⟨hz,its,0,hv,Heap.get?_push_size _ rfl⟩
theorem Inv.fresh (I : Inv X pins σ H s) : H s.heap.objs.size = none:=I.hok.fresh (Nat.le_refl _)
theorem Inv.lstM (I : Inv X pins σ H s) (hH : H l = some (.lst xs)) : xs.length ≤ sizeLine ∧ ∃ (its : List Value) (n : Nat),Vals xs its ∧ xs.length = its.length ∧ s.heap.get? l = some { cls:=.type "list",data:=.seq its.toArray n }:=by
  obtain ⟨z,its,n,r,e⟩:=I.hok l _ hH
  exact ⟨z,its,n,r,r.length,e⟩

theorem notLongL {n : Nat} (h : n ≤ sizeLine) : Builtin.List.listTooLong n = false:=by
  unfold Builtin.List.listTooLong
  exact decide_eq_false (by omega)
end

section
variable {X : Cx}

def rAppend : V → List V → Hp → VK → Prop:=fun x vs H Q => ∃ l xs y,x = .ref l ∧ vs = [y] ∧ H l = some (.lst xs) ∧ xs.length < sizeLine ∧ Q .non (upd H l (.lst (xs ++ [y])))
theorem mt_append : MtM X "list.append" rAppend:=by
  intro pins s σ H x vs v us Q I rx rv h
  obtain ⟨l,xs,y,rfl,rfl,hH,hz,q⟩:=h
  cases rx
  obtain ⟨u,rfl,ru⟩:=rv.one
  obtain ⟨z,its,n,r,hl,e⟩:=I.lstM hH
  refine call_meets F.slot_list_append ⟨_,e,rfl⟩ F.entry_list_append (F.args_list_append_2 _ _) (PySem.list_append l its.toArray n u (by rw [List.size_toArray]; omega)) ⟨e,?_⟩
  refine ⟨.non,_,I.lset (its':=its ++ [u]) hH e (by simp) (r.append (.cons ru .nil)) ?_,rfl,q⟩
  rw [List.length_append,List.length_singleton]
  omega

def rExtend : V → List V → Hp → VK → Prop:=fun x vs H Q => ∃ l b xs zs,x = .ref l ∧ vs = [.ref b] ∧ H l = some (.lst xs) ∧ H b = some (.lst zs) ∧ xs.length + zs.length ≤ sizeLine ∧ Q .non (upd H l (.lst (xs ++ zs)))
theorem mt_extend : MtM X "list.extend" rExtend:=by
  intro pins s σ H x vs v us Q I rx rv h
  obtain ⟨l,b,xs,zs,rfl,rfl,hH,hB,hz,q⟩:=h
  cases rx
  obtain ⟨u,rfl,ru⟩:=rv.one
  cases ru
  obtain ⟨z,its,n,r,hl,e⟩:=I.lstM hH
  obtain ⟨z2,its2,n2,r2,hl2,e2⟩:=I.lstM hB
  have hsz : its.toArray.size + its2.toArray.size ≤ sizeLine:=by rw [List.size_toArray,List.size_toArray]; omega
  have hlong : ¬ (!its.toArray.isEmpty && Builtin.List.listTooLong (its.toArray.size + its2.toArray.size)) = true:=by
    rw [notLongL hsz,Bool.and_false]
    exact Bool.false_ne_true
  refine call_meets F.slot_list_extend ⟨_,e,rfl⟩ F.entry_list_extend (F.args_list_extend_2 _ _)
    (AutoSeq1.list_extend_list_list_0 l its.toArray n b its2.toArray n2 hlong (by rw [List.size_toArray]; omega) (by omega)) ⟨e,e2,?_⟩
  refine ⟨.non,_,I.lset (its':=its ++ its2) hH e (by simp) (r.append r2) ?_,rfl,q⟩
  rw [List.length_append]
  omega

def rPop : V → List V → Hp → VK → Prop:=fun x vs H Q => ∃ l xs y,x = .ref l ∧ vs = [] ∧ H l = some (.lst xs) ∧ xs[xs.length - 1]? = some y ∧ Q y (upd H l (.lst xs.dropLast))
theorem mt_pop : MtM X "list.pop" rPop:=by
  intro pins s σ H x vs v us Q I rx rv h
  obtain ⟨l,xs,y,rfl,rfl,hH,hy,q⟩:=h
  cases rx
  have hus:=rv.zero
  subst hus
  obtain ⟨z,its,n,r,hl,e⟩:=I.lstM hH
  obtain ⟨u,hu,ru⟩:=r.get hy
  have hy' : its.toArray[its.toArray.size - 1]? = some u:=by
    show its.toArray[its.length - 1]? = some u
    rw [← Array.getElem?_toList,← hl]
    exact hu
  refine call_meets F.slot_list_pop ⟨_,e,rfl⟩ F.entry_list_pop (F.args_list_pop_1 _) (MeetsSeq.list_pop_last l its.toArray n u hy' (by rw [List.size_toArray]; omega)) ⟨e,?_⟩
  refine ⟨y,_,I.lset (its':=its.dropLast) hH e ?_ r.dropLast ?_,ru,q⟩
  · show its.toArray.eraseIdxIfInBounds (its.toArray.size - 1) = its.dropLast.toArray
    rw [List.size_toArray,List.eraseIdxIfInBounds_toArray,erase_last]
  · rw [List.length_dropLast]
    omega

def rCat : R2:=fun x y H Q => ∃ l b xs zs,x = .ref l ∧ y = .ref b ∧ H l = some (.lst xs) ∧ H b = some (.lst zs) ∧ xs.length + zs.length ≤ sizeLine ∧ ∀ p,H p = none → Q (.ref p) (upd H p (.lst (xs ++ zs)))
theorem op_cat : OpR X (binaryOp .Add) rCat:=by
  intro pins s σ H x y v u Q I rx ry h
  obtain ⟨l,b,xs,zs,rfl,rfl,hH,hB,hz,q⟩:=h
  cases rx
  cases ry
  obtain ⟨z,its,n,r,hl,e⟩:=I.lstM hH
  obtain ⟨z2,its2,n2,r2,hl2,e2⟩:=I.lstM hB
  refine PySem.P.add_list e e2 ?_ (by rw [List.size_toArray,List.size_toArray]; omega)
  have ea : its.toArray ++ its2.toArray = (its ++ its2).toArray:=by simp
  rw [ea]
  exact ⟨.ref _,_,I.lnew (t':=s.toks) (r.append r2) (by rw [List.length_append]; omega),rfl,q _ I.fresh⟩
def rRep : R2:=fun x y H Q => ∃ l k xs,x = .ref l ∧ y = .int k ∧ H l = some (.lst xs) ∧ -(2 ^ 63) ≤ k ∧ k < 2 ^ 63 ∧ xs.length * k.toNat ≤ sizeLine ∧
  ∀ p,H p = none → Q (.ref p) (upd H p (.lst (List.replicate k.toNat xs).flatten))
theorem len_rep {α : Type} (xs : List α) (k : Nat) : (List.replicate k xs).flatten.length = k * xs.length:=by
  induction k with
  | zero => simp
  | succ k ih => rw [List.replicate_succ,List.flatten_cons,List.length_append,ih,Nat.succ_mul,Nat.add_comm]
theorem op_rep : OpR X (binaryOp .Mult) rRep:=by
  intro pins s σ H x y v u Q I rx ry h
  obtain ⟨l,k,xs,rfl,rfl,hH,h1,h2,hz,q⟩:=h
  cases rx
  obtain ⟨t,rfl⟩:=ry
  obtain ⟨z,its,n,r,hl,e⟩:=I.lstM hH
  have hlen : its.toArray.size * k.toNat ≤ sizeLine:=by rw [List.size_toArray,← hl]; exact hz
  have hcap : ¬ its.toArray.size * k.toNat > (2 ^ 63 - 1) / 8:=by
    have : (sizeLine : Nat) ≤ (2 ^ 63 - 1) / 8:=by decide
    omega
  have hfit : ¬ (!Builtin.List.listFitsIndex k) = true:=by
    rw [fitsIndex_both h1 h2]
    exact Bool.false_ne_true
  have hlong : ¬ Builtin.List.listTooLong (its.toArray.size * k.toNat) = true:=by
    rw [notLongL hlen]
    exact Bool.false_ne_true
  have hnew : List.foldl (fun x1 x2 => x1 ++ x2) #[] (List.replicate (if its.toArray.isEmpty = true then 0 else k.toNat) its.toArray) = (List.replicate k.toNat its).flatten.toArray:=by
    have f0 : ∀ m : Nat,List.foldl (fun x1 x2 => x1 ++ x2) #[] (List.replicate m its.toArray) = (List.replicate m its).flatten.toArray:=fun m => by
      have:=foldl_rep its m []
      rw [List.nil_append] at this
      exact this
    rw [f0]
    cases its with
    | nil => simp
    | cons a r' => rw [if_neg (by simp)]
  refine wpAny_binaryOp_repeat_ref (T := "list") (U := "int") (by decide) ⟨_,e,rfl⟩ (fun s' => typeIs_int s' k t) noFill_list_mul F.fills_int_mul F.slot_int_rmul repeat_list F.slot_int_index.lookup
    (call_meets F.slot_int_rmul (typeIs_int s k t) F.entry_int_rmul (F.args_int_rmul_2 _ _) (int___rmul___int_list k t l its.toArray n)
      ⟨e,rfl,⟨_,e,rfl⟩,call_meets F.slot_list_mul ⟨_,e,rfl⟩ F.entry_list_mul (F.args_list_mul_2 _ _) (AutoListH.list___mul___list_int_3 l its.toArray n k t hfit hcap hlong) ⟨e,?_⟩⟩)
  rw [hnew]
  exact ⟨.ref _,_,I.lnew (t':=s.toks) (r.rep k.toNat) (by rw [len_rep,Nat.mul_comm]; exact hz),rfl,q _ I.fresh⟩

end

section
variable {prog : Program} {w : World} {A : Around} {E : Value → Shared → Prop} {s : Shared}
end

section
variable {X : Cx}
end
end L2

namespace Att
open PySem PySem.W PySem.Calls PyProof.Rows

theorem ints_of_wellAll {P : Params} {h : Heap} : ∀ (ns : List Int) (vs : List Value),WellAll P h vs (ns.map WData.int) → IntsAre vs ns:=by
  intro ns
  induction ns with
  | nil =>
    intro vs w
    rw [List.map_nil] at w
    cases w
    exact .nil
  | cons n ns ih =>
    intro vs w
    rw [List.map_cons] at w
    cases w with
    | cons a b =>
      cases a
      exact .cons _ _ (ih _ b)

theorem script_of {l : OpenLaw} {n : Nat} (hn : l.most = some n) {P : Params} {h : Heap} {args : List WData} {vals : List Value}
    (hpre : l.row.toRowW.claim.pre args = true) (hwl : WellAll P h vals args) :
    ∃ a vs ns,vals = [Value.ref a] ∧ args = [WData.list (ns.map WData.int)] ∧ h.get? a = some { cls:=.type "list",data:=.seq vs.toArray } ∧ IntsAre vs ns ∧ ns.length ≤ n:=by
  have hsh : WShape.hasAll [] args [.list .int] = true:=(pre_splitW hpre).1
  have hc : l.pre.holds [] { args:=args } = true:=(pre_splitW hpre).2
  obtain ⟨d,r,rfl,h1,h2⟩:=hasAllW_cons hsh
  obtain rfl:=hasAllW_nil h2
  obtain ⟨xs,rfl,h3⟩:=hasW_list h1
  obtain ⟨ns,rfl⟩:=items_int h3
  have hlen : ns.length ≤ n:=by
    unfold OpenLaw.pre at hc
    have h4 : (WTm.not (.lt (.lit (.int (n : Int))) (.len (.arg 0)))).holds [] { args:=[.list (ns.map .int)] } = true:=by
      have h4:=(holds_andW hc).1
      rw [hn] at h4
      exact h4
    have h5:=condW_of h4 (w_not (w_lt w_lit (w_len_list (w_arg rfl))))
    rw [List.length_map] at h5
    refine Nat.le_of_not_lt fun q => ?_
    have q' : (n : Int) < ((ns.length : Nat) : Int):=by omega
    first
      | (rw [decide_eq_true q'] at h5; exact absurd h5 (by decide))
      | (simp at h5; omega)
  cases hwl with
  | cons w1 w2 =>
    cases w2
    cases w1 with
    | list ho hall => exact ⟨_,_,ns,rfl,rfl,ho,ints_of_wellAll ns _ hall,hlen⟩

theorem post_true (l : OpenLaw) (args : List WData) : l.row.toRowW.claim.post args (.bool true) args = true :=
  postW_of (r:=l.row.toRowW) (X:=(true == true))
    (show WShape.has [] (.bool true) .bool = true by first | rfl | decide | simp [WShape.has,WShape.arms,WShape.armsAll])
    (show (WTm.eq .res (.lit (.bool true))).value [] { args:=args,res:=some (.bool true),after:=args } = some (.bool (true == true)) from w_eq_bool (w_res rfl) w_lit) rfl

theorem attach_call {l : OpenLaw} {n : Nat} {q : Program} {loose : List Str} {XP : (Str → Option Value) → Heap → Prop} {YP : World → Heap → Prop} {d : DefRec}
    (hn : l.most = some n) (hdf : d.params.defaults = [])
    (call : ∀ (w : World) (s₀ s₁ : Shared) (mg mb : Str → Option Value) (fa : Addr) (o : Obj) (pm cd doc : Value) (a : Addr) (vs : List Value) (ns : List Int),
      Ground q loose [] XP w s₀ mg mb s₁.heap → YP w s₁.heap →
      s₁.heap.get? fa = some o → o.data = .func (docDef d.name d.params d.body d.scope pm cd doc) → s₁.heap.CodeRec cd d.name → mg d.name = some (.ref fa) →
      s₁.heap.get? a = some { cls:=.type "list",data:=.seq vs.toArray } → IntsAre vs ns → ns.length ≤ n → s₁.gens = #[] →
      codeAny (model l.prog w) callerA (.call (.ref fa) ⟨[.ref a],[]⟩) (fun r s' => r = .ok (.ret (.bool true)) ∧ OldK s₁.heap s'.heap ∧ s'.os = s₁.os ∧ AllBare s'.gens) s₁) :
    WalkO q loose XP YP l.row.toRowW d [] (fun f vs => PySem.call f vs):=by
  intro w s₀ s₁ mg mb G Y fa o pm cd doc dV kV ho hd hcd hD hmg hg args vals as hpre hlay hrd hwl hlo
  obtain rfl : dV = .none:=Dflts.none hD hdf
  obtain rfl : kV = .none:=Dflts.noKw hD
  obtain ⟨a,vs,ns,rfl,rfl,hobj,hints,hlen⟩:=script_of hn hpre hwl
  refine enter_call (codeAny_mono (call w s₀ s₁ mg mb fa o pm cd doc a vs ns G Y ho (fd_plain hd) hcd hmg hobj hints hlen hg) fun r s' hq => ?_)
  obtain ⟨rfl,h2,h3,h4⟩:=hq
  exact ⟨.inl ⟨.bool true,.bool true,[],rfl,fun _ => rfl,.bool true,post_true l _,fun _ => ⟨List.Pairwise.nil,fun _ hm => (nomatch hm)⟩⟩,h2,h3,h4⟩

section
variable {prog : Program} {w : World} {A : Around} {E : Value → Shared → Prop} {s : Shared} {K : Frag}

def ledger (h : Heap) (L d : Addr) : List (Addr × Obj):=(List.range h.objs.size).filterMap fun a => if a = L ∨ a = d then none else (h.get? a).map fun o => (a,o)
end
end Att

namespace L2
open PySem PySem.Spec PyProof.Rows

theorem vals_ints : ∀ {vs : List Value} {ns : List Int},IntsAre vs ns → Vals (ns.map V.int) vs
  | _,_,.nil => .nil
  | _,_,.cons n t h => .cons ⟨t,rfl⟩ (vals_ints h)

def Only (H : Hp) : Prop:=∀ b,H b = none ∨ ∃ o xs,H b = some (.frz o (.lst xs))

theorem law_call {P : Program} {w : World} {K : PySem.W.Frag} {mg mb : Str → Option Value} {CX : CXT} {k : Nat} {fa a : Addr} {fd : FuncData} {x : Str} {sp : Sp} {s₁ : Shared} {vs : List Value} {ns : List Int}
    (KX : K.In s₁.heap) (hns : s₁.heap.Ns mainGlobals mg) (hb : s₁.heap.Ns builtinsNs mb) (hbb : ∀ x : Str,x ≠ "__name__" → mb x = bootBuiltins x) (hlim : s₁.heap.NoLimit) (hg : s₁.gens = #[])
    (ha : s₁.heap.get? a = some { cls:=.type "list",data:=.seq vs.toArray }) (hi : IntsAre vs ns) (hl : ns.length ≤ sizeLine) (hr : Room k callerA)
    (F : ∀ base : Heap,K.In base → base.Ns mainGlobals mg → FnOk P w K mg base CX k fa fd [x] sp) (hbind : ∀ (s : Shared) (u : Value),BindsTo s fd ⟨[u],[]⟩ [(x,u)])
    (hsp : ∀ H : Hp,Only H → SqL K H a (ns.map V.int) → sp [.ref a] H (fun v _ => v = .bl true) fun _ _ _ => False)
    (hCX : ∀ H e s',CX [] H s₁ (fun _ _ _ => False) e s' → False) :
    codeAny (model P w) callerA (.call (.ref fa) ⟨[.ref a],[]⟩) (fun r s' => r = .ok (.ret (.bool true)) ∧ OldK s₁.heap s'.heap ∧ s'.os = s₁.os ∧ AllBare s'.gens) s₁:=by
  have rv:=vals_ints hi
  have lenV:=hi.length
  have core : ∀ H : Hp,Only H → SqL K H a (ns.map V.int) → HOk P w H s₁.heap → (∀ b,H b ≠ none → b = a) → (H a ≠ none → K.lookup a = none) →
      codeAny (model P w) callerA (.call (.ref fa) ⟨[.ref a],[]⟩) (fun r s' => r = .ok (.ret (.bool true)) ∧ OldK s₁.heap s'.heap ∧ s'.os = s₁.os ∧ AllBare s'.gens) s₁:=by
    intro H hO hS hok hA hK
    have base_of : ∀ {b : Addr} {o : Obj},s₁.heap.get? b = some o → H b = none → (hidT s₁.heap H).get? b = some o:=fun e n => hidT_get e n
    have noA : ∀ {b : Addr} {o : Obj} {es : Array DictEntry} {ep : Nat},s₁.heap.get? b = some o → o.data = .dict es ep → H b = none:=fun {b o es ep} e d => by
      cases q : H b with
      | none => rfl
      | some u =>
        have e' : b = a:=hA b (by rw [q]; simp)
        subst e'
        rw [ha] at e; cases e
        have d' : Data.seq vs.toArray _ = Data.dict es ep:=d
        cases d'
    have nsK : ∀ {b : Addr} {m : Str → Option Value},s₁.heap.Ns b m → (hidT s₁.heap H).Ns b m:=fun {b m} ⟨o,es,ep,e,d,r⟩ => ⟨o,es,ep,base_of e (noA e d),d,r⟩
    have hKb : K.In (hidT s₁.heap H):=fun b o e => base_of (KX b o e) (by
      cases q : H b with
      | none => rfl
      | some u =>
        have e' : b = a:=hA b (by rw [q]; simp)
        subst e'
        rw [hK (by rw [q]; simp)] at e; cases e)
    have hM : Mod K mg (hidT s₁.heap H):=⟨hKb,nsK hns,⟨mb,nsK hb,hbb⟩,let ⟨mc,h1,h2⟩:=hlim; ⟨mc,nsK h1,h2⟩⟩
    have e0 : Env0 P w K mg (hidT s₁.heap H) callerA [] s₁ H:=⟨rfl,hM,fun b o e => of_hidT e,Nat.le_of_eq (hidT_size _ _),trivial,fun b hb => absurd (show b ∈ ([] : List Addr) from hb) (by simp),hok,.of_eq hg⟩
    refine codeAny_mono ((F _ hKb (nsK hns)).run callerA [] s₁ H ⟨[.ref a],[]⟩ [.ref a] [.ref a] _ _ hr e0 (hbind s₁ (.ref a)) (.cons rfl .nil) (hsp H hO hS)) fun r s' h => ?_
    cases r with
    | error e => exact (hCX H e s' h).elim
    | ok fl =>
      cases fl with
      | next => exact False.elim h
      | brk => exact False.elim h
      | cont => exact False.elim h
      | ret u =>
        obtain ⟨v,H',os,bare,un,hok',r',q⟩:=h
        have q' : v = .bl true:=q
        subst q'
        obtain rfl : u = Value.bool true:=r'
        refine ⟨rfl,OldK.of_keep fun b o e => ?_,os,bare⟩
        cases q : H b with
        | none => exact un.keep b o e q (by intro z; exact absurd (show b ∈ ([] : List Addr) from z) (by simp)) (by simp)
        | some u =>
          rcases hO b with z | ⟨ob,xs,z⟩
          · rw [q] at z; cases z
          · have z2:=un.frzs b ob _ z
            obtain ⟨e1,_⟩:=hok b _ z
            obtain ⟨e2,_⟩:=hok' b _ z2
            rw [e] at e1; cases e1
            exact e2
  cases hk : K.lookup a with
  | some o =>
    have e:=KX a o hk
    rw [ha] at e
    cases e
    refine core (fun _ => none) (fun _ => .inl rfl) (.inr ⟨_,vs.toArray,_,hk,rfl,rfl,rfl,by rw [List.size_toArray,lenV]; exact hl,by simpa using rv⟩) (fun b u z => by have z' : (none : Option HO) = some u:=z; cases z') (fun b z => absurd rfl z) fun z => absurd rfl z
  | none =>
    refine core (fun b => if b = a then some (.frz { cls:=.type "list",data:=.seq vs.toArray } (.lst (ns.map V.int))) else none) (fun b => ?_) (.inl (.inr ⟨{ cls:=.type "list",data:=.seq vs.toArray },if_pos rfl⟩)) (fun b u z => ?_) (fun b z => ?_) fun _ => hk
    · by_cases hb : b = a
      · exact .inr ⟨_,_,if_pos hb⟩
      · exact .inl (if_neg hb)
    · by_cases hb : b = a
      · have z':=(if_pos hb).symm.trans z
        cases z'
        subst hb
        exact ⟨ha,by rw [List.length_map]; exact hl,vs,_,rv,ha⟩
      · have z':=(if_neg hb).symm.trans z
        cases z'
    · by_cases hb : b = a
      · exact hb
      · exact absurd (if_neg hb) z
end L2

namespace L2
open PySem PySem.Spec PyProof.Rows

abbrev KOf {K : PySem.W.Frag} {h : Heap} (_ : K.In h) : PySem.W.Frag:=K

theorem walk_of {l : PySem.W.OpenLaw} {n k : Nat} {q : Program} {loose : List Str} {XP : (Str → Option Value) → Heap → Prop} {YP : World → Heap → Prop} {d : DefRec} {K : Params → PySem.W.Frag} {CX : World → CXT} {sp : World → Sp} {x : Str}
    (hn : l.most = some n) (hn2 : n ≤ sizeLine) (hdf : d.params.defaults = []) (hr : Room k callerA)
    (hY : ∀ (w : World) (h : Heap),YP w h → (K w.params).In h)
    (F : ∀ (w : World) (mg : Str → Option Value) (fa : Addr) (h : Heap),(K w.params).In h → h.Ns mainGlobals mg → mg d.name = some (.ref fa) →
      ∃ fd : FuncData,(∀ (s : Shared) (u : Value),BindsTo s fd ⟨[u],[]⟩ [(x,u)]) ∧
        ∀ base : Heap,(K w.params).In base → base.Ns mainGlobals mg → FnOk l.prog w (K w.params) mg base (CX w) k fa fd [x] (sp w))
    (hsp : ∀ (w : World) (H : Hp) (a : Addr) (ns : List Int),ns.length ≤ n → Only H → SqL (K w.params) H a (ns.map V.int) → sp w [.ref a] H (fun v _ => v = .bl true) fun _ _ _ => False)
    (hCX : ∀ (w : World) (H : Hp) (s : Shared) (e : Value) (s' : Shared),CX w [] H s (fun _ _ _ => False) e s' → False) :
    PySem.W.WalkO q loose XP YP l.row.toRowW d [] (fun f vs => PySem.call f vs):=by
  refine Att.attach_call hn hdf fun w s₀ s₁ mg mb fa o pm cd doc a vs ns G Y ho hd hcd hmg hobj hints hlen hg => ?_
  have KX:=hY w _ Y
  obtain ⟨fd,hb,hF⟩:=F w mg fa _ KX G.T.g hmg
  exact law_call KX G.T.g G.T.b G.T.builtins G.T.nolimit hg hobj hints (Nat.le_trans hlen hn2) hr hF hb (fun H hO hS => hsp w H a ns hlen hO hS) fun H e s' => hCX w H s₁ e s'
end L2

/- THE LAST THEOREM (shape; LID,My.* are yours):
   My.Adr: a structure of the addresses that your layer names (classes,functions); My.Txt K t: a structure (Prop) of the equations over K;
   My.txt_mk : {K} {implicit addresses ..} (e1 : nsIn K mainGlobals "law" = some (some (.ref f))) (e2 : K.lookup f = some ⟨oc,od,.func (fnOf "law" "law" params body scope dV kV doc pm an cdv ct),sl⟩) (e3 : codeIn K cdv "law" = true) .. : ∃ t,My.Txt K t

set_option maxRecDepth 100000 in
set_option maxHeartbeats 0 in
theorem PySem.Challenge.cw_LID_holds : PySem.Challenge.rw_LID.Holds := by
  w_on; o_law; k_head; (case hw => w_witness2)
  k_fill
  refine L2.walk_of (l:=PySem.Challenge.rw_LID) (n:=63) (k:=40) (x := "script") (CX:=fun w => ..) (sp:=fun _ => My.sp_law) rfl (by decide) rfl ⟨rfl,by decide,by decide⟩ (fun w h Y => PySem.W.kIn_of Y) ?F ?S ?C
  case F =>
    intro w mg fa h KX G hmg
    have T : ∃ t,My.Txt (L2.KOf KX) t:=by
      dsimp only [L2.KOf]                          -- K must stand as «<heap const> w.params» for k_is
      refine' My.txt_mk ?e1 ?e2 ?e3 ..
      (case e1 => PySem.W.k_is)                    -- in the order: a name -> its address -> its object -> its parts
      (case e2 => PySem.W.k_is)
      ..
    obtain ⟨t,T⟩:=T
    have e0:=hmg.symm.trans (PySem.W.mg_of KX G T.law)
    cases e0                                       -- fa is the law's own address
    exact ⟨_,fun s u => .of_eq rfl,fun base kb nb => My.law_fn T kb nb⟩     -- if «.of_eq rfl» comes too early: refine' ⟨_,?b,fun base kb nb => My.law_fn T kb nb⟩; exact fun s u => .of_eq rfl
  case S => exact fun w H a ns hl hO hS => ..
  case C => exact ..
(the tactic k_is has no namespace: write k_is) -/

namespace L2
open PySem PySem.Spec PyProof.Rows

def inClass (s : Stmt) (j : Nat) : Stmt:=match s with
  | .ClassDef _ _ _ body _ _ _ _ _ _ _ => body.getD j (.Pass ⟨0,0,0,0⟩)
  | _ => .Pass ⟨0,0,0,0⟩
def defArgs (s : Stmt) : Arguments:=match s with
  | .FunctionDef _ a _ _ _ _ _ _ _ _ => a
  | _ => { posonlyargs:=[],args:=[],vararg:=none,kwonlyargs:=[],kw_defaults:=[],kwarg:=none,defaults:=[] }
def defBody (s : Stmt) : List Stmt:=match s with
  | .FunctionDef _ _ b _ _ _ _ _ _ _ => b
  | _ => []
def defScope (s : Stmt) : Scope:=match s with
  | .FunctionDef _ _ _ _ _ _ sc _ _ _ => sc
  | _ => { kind:=.function,names:=[],isGenerator:=false,isCoroutine:=false }

abbrev CX0 : CXT:=fun _ _ _ _ _ _ => False
abbrev E0 : XK:=fun _ _ _ => False
theorem pass0 {X : Cx} : Passes CX0 X E0:=fun _ _ _ _ _ _ _ h => h.elim

structure Fun (K : PySem.W.Frag) (x qual : Str) (st : Stmt) (f : Addr) (fd : FuncData) : Prop where
  ex : ∃ (oc : Value) (od : Option Addr) (kV doc pm : Value) (an : Option Addr) (cdv ct : Value) (osl : Array (Option Value)),
    fd = PySem.W.fnOf x qual (defArgs st) (defBody st) (defScope st) .none kV doc pm an cdv ct ∧ K.lookup f = some ⟨oc,od,.func fd,osl⟩ ∧ PySem.W.codeIn K cdv qual = true
  kp : PySem.W.keepIn K (.ref f) = true
section
variable {P : Program} {w : World} {K : PySem.W.Frag} {mg : Str → Option Value} {base : Heap}
theorem Fun.ok {x qual : Str} {st : Stmt} {f : Addr} {fd : FuncData} {N ps : List Str} {k : Nat} {sp : Sp} (F : Fun K x qual st f fd) (S : FnScope N ps (defScope st)) (len : ∀ vs H Q E,sp vs H Q E → vs.length = ps.length)
    (hbody : ∀ (cdv : Value) (A : Around) (outer : List Env) (s : Shared) (H : Hp) (vs : List V) (Q : VK) (E : XK),Room k (A.deeper (envOfC qual (defScope st) s.heap.objs.size f cdv)) → sp vs H Q E →
      ∃ t,PSs (cxOf CX0 P w K mg base N qual (defScope st) f cdv A outer s H E).nox (defBody st) t ∧ t { nx:=fun _ H' => Q .non H',rt:=Q } (start N vs) H) : FnOk P w K mg base CX0 (k + 1) f fd ps sp:=by
  obtain ⟨oc,od,kV,doc,pm,an,cdv,ct,osl,rfl,lk,hcd⟩:=F.ex
  refine fn_of lk hcd S len fun A outer s H vs Q E hr hsp => ?_
  obtain ⟨t,h,q⟩:=hbody cdv A outer s H vs Q E hr hsp
  exact ⟨t,h.nox,q⟩
theorem Fun.binds {x qual : Str} {st : Stmt} {f : Addr} {fd : FuncData} {ps : List Str} (F : Fun K x qual st f fd)
    (h : ∀ (kV doc pm : Value) (an : Option Addr) (cdv ct : Value) (us : List Value),us.length = ps.length → bindArgs (PySem.W.fnOf x qual (defArgs st) (defBody st) (defScope st) .none kV doc pm an cdv ct) ⟨us,[]⟩ = pure (ps.zip us)) : Binds K fd ps []:=by
  obtain ⟨oc,od,kV,doc,pm,an,cdv,ct,osl,rfl,lk,hcd⟩:=F.ex
  exact .all (h kV doc pm an cdv ct)
theorem fun_mk {x qual : Str} {st : Stmt} {f : Addr} {oc : Value} {od an : Option Addr} {osl : Array (Option Value)} {kV doc pm cdv ct : Value} (l : K.lookup f = some ⟨oc,od,.func (PySem.W.fnOf x qual (defArgs st) (defBody st) (defScope st) .none kV doc pm an cdv ct),osl⟩)
    (c : PySem.W.codeIn K cdv qual = true) (k : PySem.W.keepIn K (.ref f) = true) : Fun K x qual st f (PySem.W.fnOf x qual (defArgs st) (defBody st) (defScope st) .none kV doc pm an cdv ct):=⟨⟨oc,od,kV,doc,pm,an,cdv,ct,osl,rfl,l,c⟩,k⟩
end
theorem hu_of {A : Around} {k : Nat} (hr : Room k A) : A.units + 1 < cLine:=Nat.lt_of_le_of_lt (Nat.add_le_add_left (by decide : 1 ≤ 64) _) hr.units
section
variable {X : Cx}
theorem pv (i : Nat) {x : Str} {pos : Pos} (hN : X.N[i]? = some x:=by rfl) (hv : Vis X.env.scope x:=by first | exact Or.inl rfl | exact Or.inr (Or.inl rfl) | exact Or.inr (Or.inr rfl)) (hd : (x == ("__debug__" : Str)) = false:=by decide)
    (hcd : (x == ("__classdict__" : Str)) = false:=by decide) : PE X (.Name x pos) (tVar i):=pe_var hN hv hd hcd
end

theorem iteF {A B : Prop} (h : B) : if false = true then A else B:=by
  rw [if_neg Bool.false_ne_true]
  exact h
theorem iteT {A B : Prop} (h : A) : if true = true then A else B:=by
  rw [if_pos rfl]
  exact h
theorem ite2 {c A B : Prop} [Decidable c] (h1 : c → A) (h2 : ¬ c → B) : if c then A else B:=by
  by_cases h : c
  · rw [if_pos h]
    exact h1 h
  · rw [if_neg h]
    exact h2 h
def Same (H H' : Hp) : Prop:=∀ b o,H b = some o → H' b = some o
theorem Same.refl (H : Hp) : Same H H:=fun _ _ h => h
theorem Same.trans {H H1 H2 : Hp} (a : Same H H1) (b : Same H1 H2) : Same H H2:=fun c o h => b c o (a c o h)
theorem Same.free {H H' : Hp} (e : Same H H') {l : Addr} (h : H' l = Option.none) : H l = Option.none:=by
  cases q : H l with
  | none => rfl
  | some o =>
    rw [e l o q] at h
    cases h
theorem Same.seq {K : PySem.W.Frag} {H H' : Hp} {a : Addr} {xs : List V} (e : Same H H') (h : SqL K H a xs) : SqL K H' a xs:=by
  rcases h with (h | ⟨o,h⟩) | h
  · exact .inl (.inl (e _ _ h))
  · exact .inl (.inr ⟨o,e _ _ h⟩)
  · exact .inr h

end L2

namespace L3
open PySem PySem.Spec PyProof.Rows L2

structure Fu (P : Program) (w : World) (K : PySem.W.Frag) (mg : Str → Option Value) (base : Heap) (CX : CXT) (k : Nat) (x : Str) (ps : List Str) (sp : Sp) : Prop where
  ex : ∃ f fd,FnOk P w K mg base CX k f fd ps sp ∧ mg x = some (.ref f) ∧ PySem.W.keepIn K (.ref f) = true ∧ Binds K fd ps []
section
variable {X : Cx} {CX : CXT} {j k : Nat} {x : Str} {ps : List Str} {sp : Sp} {E : XK} {p pos : Pos} {e : Expr} {es : List Expr} {t : TA}
theorem pc (F : Fu X.prog X.w X.K X.mg X.base CX j x ps sp) (hr : Room k X.A) (hx : Passes CX X E) (ha : PA X (e :: es) t) (hj : j ≤ k:=by decide) (hg : Gl X x:=by rfl) (hdb : (x == ("__debug__" : Str)) = false:=by decide)
    (he : starEach (e :: es) X.env = (false,eval e X.env) :: starEach es X.env:=by rfl) (hpl : (backTo pos (starEach es X.env)).any (·.1) = false:=by rfl) : PE X (.Call (.Name x p) (e :: es) [] pos) (tCall sp [] E t):=by
  obtain ⟨f,fd,G,hm,hk,hb⟩:=F.ex
  exact pe_call G (hr.mono hj) hg hm hk hb .nil hx ha hdb he hpl
end

theorem Vals.ins {x : V} {u : Value} (r : RelV x u) {xs : List V} {us : List Value} (k : Nat) (h : Vals xs us) : Vals (xs.take k ++ x :: xs.drop k) (us.take k ++ u :: us.drop k) :=
  (h.take k).append (.cons r (h.drop k))
section
variable {X : Cx}
end

mutual
inductive Sh (K : PySem.W.Frag) (H : Hp) : V → PyData → Prop
  | non : Sh K H .non .none
  | bl (b : Bool) : Sh K H (.bl b) (.bool b)
  | int (i : Int) : Sh K H (.int i) (.int i)
  | str (x : Str) : Sh K H (.str x) (.str x)
  | lst {a : Addr} {xs : List V} {ds : List PyData} (h : SqL K H a xs) (r : ShL K H xs ds) : Sh K H (.ref a) (.list ds)
  | tup {a : Addr} {xs : List V} {ds : List PyData} (h : SqT K H a xs) (r : ShL K H xs ds) : Sh K H (.ref a) (.tuple ds)
inductive ShL (K : PySem.W.Frag) (H : Hp) : List V → List PyData → Prop
  | nil : ShL K H [] []
  | cons {x : V} {xs : List V} {d : PyData} {ds : List PyData} (h : Sh K H x d) (r : ShL K H xs ds) : ShL K H (x :: xs) (d :: ds)
end
section
variable {X : Cx} {pins : List (Addr × Obj)} {σ : L2.St} {H : Hp} {s : Shared}
theorem Sh.reads (I : Inv X pins σ H s) {x : V} {d : PyData} (h : Sh X.K H x d) : ∀ {u : Value},RelV x u → ∃ as,Reads s.heap u d as:=by
  refine Sh.rec (motive_1:=fun x d _ => ∀ {u : Value},RelV x u → ∃ as,Reads s.heap u d as) (motive_2:=fun xs ds _ => ∀ {us : List Value},Vals xs us → ∃ as,ReadsAll s.heap us ds as) ?_ ?_ ?_ ?_ ?_ ?_ ?_ ?_ h
  · intro u r; cases r; exact ⟨_,.none⟩
  · intro b u r; cases r; exact ⟨_,.bool b⟩
  · intro i u r; obtain ⟨t,rfl⟩:=r; exact ⟨_,.int i t⟩
  · intro x u r; obtain ⟨t,rfl⟩:=r; exact ⟨_,.str x t⟩
  · intro a xs ds hq _ ih u r
    cases r
    obtain ⟨its,rv,pl,_⟩:=I.list hq
    obtain ⟨as,ra⟩:=ih rv
    obtain ⟨o,ho,hc,n,hd⟩:=pl.isList
    exact ⟨_,.list ho hc hd (by simpa using ra)⟩
  · intro a xs ds hq _ ih u r
    cases r
    obtain ⟨its,rv,pl,_⟩:=I.tuple hq
    obtain ⟨as,ra⟩:=ih rv
    obtain ⟨o,ho,hc,n,hd⟩:=pl
    exact ⟨_,.tuple ho hc hd (by simpa using ra)⟩
  · intro us r; cases r; exact ⟨_,.nil⟩
  · intro x xs d ds _ _ ih1 ih2 us r
    cases r with
    | cons r1 r2 =>
      obtain ⟨as,q1⟩:=ih1 r1
      obtain ⟨bs,q2⟩:=ih2 r2
      exact ⟨_,.cons q1 q2⟩
theorem ShL.ints {K : PySem.W.Frag} {H : Hp} : ∀ ns : List Int,ShL K H (ns.map V.int) (ns.map PyData.int)
  | [] => .nil
  | n :: r => .cons (.int n) (ShL.ints r)
theorem Sh.ints {K : PySem.W.Frag} {H : Hp} {a : Addr} {ns : List Int} (h : SqL K H a (ns.map V.int)) : Sh K H (.ref a) (.list (ns.map PyData.int)):=.lst h (ShL.ints ns)
end
section
variable {X : Cx}
def rEqD (K : PySem.W.Frag) : R2:=fun x y H Q => ∃ d e,Sh K H x d ∧ Sh K H y e ∧ SeqAt.shaped d = true ∧ SeqAt.shaped e = true ∧ Q (.bl (PyData.eqv d e)) H
def rNeD (K : PySem.W.Frag) : R2:=fun x y H Q => ∃ d e,Sh K H x d ∧ Sh K H y e ∧ SeqAt.shaped d = true ∧ SeqAt.shaped e = true ∧ Q (.bl (!PyData.eqv d e)) H
theorem op_eqD (hu : X.A.units + 64 < cLine) : OpR X (compareOp .Eq) (rEqD X.K):=by
  intro pins s σ H x y v u Q I rx ry h
  obtain ⟨d,e,h1,h2,s1,s2,q⟩:=h
  obtain ⟨as,r1⟩:=h1.reads I rx
  obtain ⟨bs,r2⟩:=h2.reads I ry
  exact eq_dataH r1 r2 s1 s2 hu ⟨.bl _,H,I,rfl,q⟩
theorem op_neD (hu : X.A.units + 64 < cLine) : OpR X (compareOp .NotEq) (rNeD X.K):=by
  intro pins s σ H x y v u Q I rx ry h
  obtain ⟨d,e,h1,h2,s1,s2,q⟩:=h
  obtain ⟨as,r1⟩:=h1.reads I rx
  obtain ⟨bs,r2⟩:=h2.reads I ry
  exact ne_dataH r1 r2 s1 s2 hu ⟨.bl _,H,I,rfl,q⟩
def rEqI (K : PySem.W.Frag) : R2:=fun x y H Q => ∃ (a b : Addr) (ns ms : List Int),x = .ref a ∧ y = .ref b ∧ SqL K H a (ns.map V.int) ∧ SqL K H b (ms.map V.int) ∧ Q (.bl (decide (ns = ms))) H
def rNeI (K : PySem.W.Frag) : R2:=fun x y H Q => ∃ (a b : Addr) (ns ms : List Int),x = .ref a ∧ y = .ref b ∧ SqL K H a (ns.map V.int) ∧ SqL K H b (ms.map V.int) ∧ Q (.bl (!decide (ns = ms))) H

theorem eqv_ints (ns ms : List Int) : PyData.eqv (.list (ns.map PyData.int)) (.list (ms.map PyData.int)) = decide (ns = ms):=by
  have h:=PySem.W.ked_eqvAll ns ms
  simpa [PyData.eqv] using h
theorem op_eqI (hu : X.A.units + 64 < cLine) : OpR X (compareOp .Eq) (rEqI X.K):=by
  intro pins s σ H x y v u Q I rx ry h
  obtain ⟨a,b,ns,ms,rfl,rfl,h1,h2,q⟩:=h
  exact op_eqD hu pins s σ H _ _ v u Q I rx ry ⟨_,_,Sh.ints h1,Sh.ints h2,PySem.W.ke_shaped_ints _,PySem.W.ke_shaped_ints _,by rw [eqv_ints]; exact q⟩
theorem op_neI (hu : X.A.units + 64 < cLine) : OpR X (compareOp .NotEq) (rNeI X.K):=by
  intro pins s σ H x y v u Q I rx ry h
  obtain ⟨a,b,ns,ms,rfl,rfl,h1,h2,q⟩:=h
  exact op_neD hu pins s σ H _ _ v u Q I rx ry ⟨_,_,Sh.ints h1,Sh.ints h2,PySem.W.ke_shaped_ints _,PySem.W.ke_shaped_ints _,by rw [eqv_ints]; exact q⟩

def rIsi (K : PySem.W.Frag) : List V → Hp → VK → Prop:=fun xs H Q => ∃ x n t b,xs = [x,.ty n] ∧ TyOf K H x t ∧ PySem.W.kitOne K t (.type n) = some b ∧ Q (.bl b) H
theorem call_isi : CallR X (.builtin "isinstance") (rIsi X.K):=by
  intro pins s σ H xs us Q I r h
  obtain ⟨x,n,t,b,rfl,ty,e,q⟩:=h
  obtain ⟨u,c,rfl,ru,rc⟩:=vals2 r
  cases (show c = Value.type n from rc)
  exact isinst_ok I ru ty e fun tk => ⟨.bl b,H,I.tok _,rfl,q⟩

end
end L3

namespace L3
open PySem PySem.W PyProof.Rows

def pg (p : Array Nat) (i : Nat) : Nat:=p.getD i 0
structure Arr (n : Nat) (p : Array Nat) : Prop where
  perm : p.Perm (List.range n).toArray
theorem Arr.size {n : Nat} {p : Array Nat} (a : Arr n p) : p.size = n:=by
  have:=a.perm.size_eq
  simpa using this
theorem Arr.lt {n : Nat} {p : Array Nat} (a : Arr n p) {i : Nat} (hi : i < n) : pg p i < n:=by
  have hs:=a.size
  have hm : p[i]'(by omega) ∈ p.toList:=by simp
  have h2:=(Array.perm_iff_toList_perm.mp a.perm).mem_iff.mp hm
  unfold pg
  have : p.getD i 0 = p[i]'(by omega):=by simp [Array.getD,hs,hi]
  rw [this]
  simpa using h2
theorem Arr.inj {n : Nat} {p : Array Nat} (a : Arr n p) {i j : Nat} (hi : i < n) (hj : j < n) (h : pg p i = pg p j) : i = j:=by
  have hs:=a.size
  have nd : p.toList.Nodup:=(Array.perm_iff_toList_perm.mp a.perm).nodup_iff.mpr (by simpa using List.nodup_range)
  have e1 : p.getD i 0 = p.toList[i]'(by simp; omega):=by simp [Array.getD,hs,hi]
  have e2 : p.getD j 0 = p.toList[j]'(by simp; omega):=by simp [Array.getD,hs,hj]
  unfold pg at h
  rw [e1,e2] at h
  exact (List.getElem_inj nd).mp h
theorem Arr.rev {n : Nat} {p : Array Nat} (a : Arr n p) (i j : Nat) : Arr n (kas_rev p i j):=⟨(mirror_perm _ _ _ _).trans a.perm⟩
structure Ord (n : Nat) (lt : Nat → Nat → Bool) : Prop where
  irr : ∀ i,lt i i = false
  tr : ∀ i j k,lt i j = true → lt j k = true → lt i k = true
  tot : ∀ i j,i < n → j < n → i ≠ j → lt i j = true ∨ lt j i = true
def Up (lt : Nat → Nat → Bool) (p : Array Nat) (m : Nat) : Prop:=∀ i j,i < j → j < m → lt (pg p i) (pg p j) = true
section
variable {n : Nat} {lt : Nat → Nat → Bool} {cmp : Nat → Nat → (Bool → Shared → Prop) → Shared → Prop} {I : Shared → Prop}
  (o : Ord n lt) (hc : ∀ i j C s,i < n → j < n → I s → (∀ s',I s' → C (lt i j) s') → cmp i j C s)
include o hc
theorem Up.more {p : Array Nat} {m : Nat} (a : Arr n p) (hm : 1 ≤ m) (hmn : m < n) (u : Up lt p m) (h : lt (pg p m) (pg p (m - 1)) = false) : Up lt p (m + 1):=by
  have h1 : lt (pg p (m - 1)) (pg p m) = true:=by
    rcases o.tot _ _ (a.lt (i:=m) hmn) (a.lt (i:=m - 1) (by omega)) (fun e => by have:=a.inj hmn (by omega) e; omega) with z | z
    · rw [h] at z; cases z
    · exact z
  intro i j hij hj
  by_cases e : j = m
  · subst e
    by_cases e2 : i = j - 1
    · subst e2; exact h1
    · exact o.tr _ _ _ (u i (j - 1) (by omega) (by omega)) h1
  · exact u i j hij (by omega)
end
end L3

namespace L3
open PySem PySem.Spec PyProof.Rows L2

structure Stp (X : Cx) (H H' : Hp) (h h' : Heap) : Prop where
  keep : ∀ b o,b ≠ X.env.locals → b ∉ X.fs → h.get? b = some o → H b = none → h'.get? b = some o
  slot : ∀ b o,b ≠ X.env.locals → b ∈ X.fs → h.get? b = some o → H b = none → ∃ sl,h'.get? b = some { o with slots:=sl }
  free : ∀ b o,h.get? b = some o → H b = none → H' b = none
  there : ∀ b o,h.get? b = some o → ∃ o',h'.get? b = some o'
  tups : ∀ b xs,H b = some (.tup xs) → H' b = some (.tup xs)
  frzs : ∀ b o u,H b = some (.frz o u) → H' b = some (.frz o u)
  tbls : ∀ b ps,H b = some (.tbl ps) → ∃ more,H' b = some (.tbl (ps ++ more))
  ns : ∀ m,h.Ns X.env.locals m → h'.Ns X.env.locals m
section
variable {X : Cx} {pins : List (Addr × Obj)} {σ : L2.St} {H H' H1 H2 : Hp} {s s' : Shared} {h h' h1 h2 : Heap}
theorem Stp.refl : Stp X H H h h:=⟨fun _ _ _ _ e _ => e,fun b o _ _ e _ => ⟨o.slots,e⟩,fun _ _ _ n => n,fun _ o e => ⟨o,e⟩,fun _ _ e => e,fun _ _ _ e => e,fun _ ps e => ⟨#[],by rw [e]; simp⟩,fun _ n => n⟩
theorem Stp.trans (a : Stp X H H1 h h1) (b : Stp X H1 H2 h1 h2) : Stp X H H2 h h2 where
  keep:=fun c o hL hf e n => b.keep c o hL hf (a.keep c o hL hf e n) (a.free c o e n)
  slot:=fun c o hL hf e n => by
    obtain ⟨sl,e1⟩:=a.slot c o hL hf e n
    obtain ⟨sl',e2⟩:=b.slot c _ hL hf e1 (a.free c o e n)
    exact ⟨sl',e2⟩
  free:=fun c o e n => by
    obtain ⟨o',e1⟩:=a.there c o e
    exact b.free c o' e1 (a.free c o e n)
  there:=fun c o e => by
    obtain ⟨o',e1⟩:=a.there c o e
    exact b.there c o' e1
  tups:=fun c xs e => b.tups c xs (a.tups c xs e)
  frzs:=fun c o u e => b.frzs c o u (a.frzs c o u e)
  tbls:=fun c ps e => by
    obtain ⟨m1,e1⟩:=a.tbls c ps e
    obtain ⟨m2,e2⟩:=b.tbls c _ e1
    exact ⟨m1 ++ m2,by rw [e2,Array.append_assoc]⟩
  ns:=fun m n => b.ns m (a.ns m n)
theorem Stp.inv (I : Inv X pins σ H s) (t : Stp X H H' s.heap s'.heap) (ho : s'.os = s.os) (hok : HOk X.prog X.w H' s'.heap) (hg : AllBare s'.gens) : Inv X pins σ H' s':=by
  obtain ⟨h',g',d',t',o'⟩:=s'
  have e : o' = s.os:=ho
  subst e
  exact I.step (g':=g') (t':=t') (d':=d') (ch:=[]) (fun _ z => nomatch z) (fun b o hL hf _ e n => t.keep b o hL hf e n) (fun b o hL hf _ e n => t.slot b o hL hf e n) (fun b o _ e n => t.free b o e n)
    (fun b o _ e => t.there b o e) t.tups t.frzs t.tbls t.ns hok hg
theorem Stp.of_un (I : Inv X pins σ H s) (u : Un (frs X.stack) [] H H' s.heap h') : Stp X H H' s.heap h' where
  keep:=fun b o hL hf e n => u.keep b o e n (fun z => (List.mem_cons.mp (I.stkSub b z)).elim hL hf) (by simp)
  slot:=fun b o _ _ e n => u.any e n (by simp)
  free:=fun b o e n => u.free b o e n (by simp)
  there:=fun b o e => u.there b o e (by simp)
  tups:=u.tups
  frzs:=u.frzs
  tbls:=u.tbls
  ns:=fun m hm => by
    obtain ⟨o,es,ep,ho,r⟩:=hm
    obtain ⟨sl,hL⟩:=u.any ho I.free (by simp)
    exact ⟨_,es,ep,hL,r⟩
theorem Stp.kept (k : ∀ b o,h.get? b = some o → h'.get? b = some o) : Stp X H H h h' :=
  ⟨fun b o _ _ e _ => k b o e,fun b o _ _ e _ => ⟨o.slots,k b o e⟩,fun _ _ _ n => n,fun b o e => ⟨o,k b o e⟩,fun _ _ e => e,fun _ _ _ e => e,fun _ ps e => ⟨#[],by rw [e]; simp⟩,fun _ n => n.keeps k⟩
theorem Stp.over {D : Addr} (t : Stp X H H' h h1) (hD : h.get? D = none) (hn : ∃ m,h1.Ns X.env.locals m) (k : ∀ b o,b ≠ D → b ≠ X.env.locals → h1.get? b = some o → h2.get? b = some o) (ns : ∀ m,h1.Ns X.env.locals m → h2.Ns X.env.locals m) : Stp X H H' h h2:=by
  have nD : ∀ b o,h.get? b = some o → b ≠ D:=fun b o e z => by rw [z,hD] at e; cases e
  refine ⟨fun b o hL hf e n => k b o (nD b o e) hL (t.keep b o hL hf e n),fun b o hL hf e n => ?_,t.free,fun b o e => ?_,t.tups,t.frzs,t.tbls,fun m n => ns m (t.ns m n)⟩
  · obtain ⟨sl,q⟩:=t.slot b o hL hf e n
    exact ⟨sl,k b _ (nD b o e) hL q⟩
  · by_cases hL : b = X.env.locals
    · obtain ⟨m,hm⟩:=hn
      obtain ⟨o',_,_,q,_⟩:=ns m hm
      exact ⟨o',by rw [hL]; exact q⟩
    · obtain ⟨o',q⟩:=t.there b o e
      exact ⟨o',k b o' (nD b o e) hL q⟩
theorem HOk.but {P : Program} {w : World} {H : Hp} {h1 h2 : Heap} (ok : HOk P w H h1) (k : ∀ b o,H b ≠ none → h1.get? b = some o → h2.get? b = some o) : HOk P w H h2:=fun b u e =>
  (ok b u e).stay (fun c v hc q => k c v (by
    rcases hc with z | z
    · rw [z,e]; simp
    · rw [z]; simp) q) (fun _ q => q) fun _ _ q => q
end

structure LamSc (p : Str) (fvs : List Str) (scope : Scope) : Prop where
  kind : scope.kind = .function
  co : scope.isCoroutine = false
  gen : scope.isGenerator = false
  nocell : ∀ y ∈ scope.names,y.2 ≠ .cell
  par : scope.names.lookup p = some .local
  free : ∀ x,scope.names.lookup x = some .free → x ∈ fvs
  isf : ∀ x ∈ fvs,scope.names.lookup x = some .free
structure Clo (cl : List (Str × Addr)) (fvs : List Str) (fs : List V) (H : Hp) (h : Heap) : Prop where
  get : ∀ (i : Nat) (x : Str) (v : V),fvs[i]? = some x → fs[i]? = some v → ∃ c u,cl.lookup x = some c ∧ h.IsCell c (some u) ∧ RelV v u
  all : ∀ x c,cl.lookup x = some c → (∃ v,h.IsCell c v) ∧ H c = none
  inj : ∀ x y c,cl.lookup x = some c → cl.lookup y = some c → x = y
  has : ∀ x ∈ fvs,∃ c,cl.lookup x = some c
  len : fs.length = fvs.length
def cxLam (P : Program) (w : World) (K : PySem.W.Frag) (mg : Str → Option Value) (base : Heap) (N : List Str) (qual : Str) (scope : Scope) (f : Addr) (cd : Value) (cl : List (Str × Addr)) (A : Around) (outer : List Env) (s : Shared) (H : Hp) : Cx where
  prog:=P
  w:=w
  K:=K
  mg:=mg
  base:=base
  A:=A.deeper (PySem.W.envX qual scope s.heap.objs.size f cd cl)
  N:=N
  s₀:=s
  H₀:=H
  env:=PySem.W.envX qual scope s.heap.objs.size f cd cl
  outer:=outer
  stack:=PySem.W.envX qual scope s.heap.objs.size f cd cl :: outer
  ex:=[]
  fn:=fun _ => false
  calm:=true
  pn:=[]
  xe:=fun _ _ => False
theorem lam_inv {P : Program} {w : World} {K : PySem.W.Frag} {mg : Str → Option Value} {base : Heap} {p qual : Str} {fvs : List Str} {scope : Scope} {f : Addr} {cd : Value} {cl : List (Str × Addr)} {A : Around} {outer : List Env} {s : Shared} {H : Hp} {h₁ : Heap} {tk : Nat}
    {fs : List V} {v : V} {u : Value} (S : LamSc p fvs scope) (hd : A.handled = none) (e0 : Env0 P w K mg base A outer s H) (C : Clo cl fvs fs H s.heap) (r : RelV v u)
    (hns : h₁.Ns s.heap.objs.size (fun x => ([(p,u)] : List (Str × Value)).reverse.lookup x)) (hk : ∀ b o,s.heap.get? b = some o → h₁.get? b = some o) :
    Inv (cxLam P w K mg base (p :: fvs) qual scope f cd cl A outer s H) [] (some v :: fs.map some) H { s with heap:=h₁,toks:=tk }:=by
  have noA : ∀ b : Addr,b ∉ (cxLam P w K mg base (p :: fvs) qual scope f cd cl A outer s H).ex:=fun b z => absurd (show b ∈ ([] : List Addr) from z) (by simp)
  refine ⟨⟨e0.mod,S.kind,rfl,rfl,Nat.le_refl _,C.inj,fun y hy => ?_,fun y c z _ => absurd (show false = true from z) Bool.false_ne_true,fun _ => hd,Around.frames_deeper e0.frames,.inr ⟨rfl,rfl⟩,fun b z => absurd z (noA b),e0.bs,e0.bsz,fun b _ _ => noA b,fun b z => absurd z (noA b),e0.funs,e0.frf⟩,
    rfl,e0.bare,Un.kept hk,⟨_,hns,fun i y z h1 h2 h3 => ?_⟩,fun y c h => ?_,e0.hok.fresh (Nat.le_refl _),fun y c h => (C.all y c h).2,fun q hq => absurd (show q ∈ ([] : List (Addr × Obj)) from hq) (by simp),e0.hok.kept hk,?_⟩
  · have hy : scope.names.lookup y = some .cell ∨ scope.names.lookup y = some .free:=hy
    rcases hy with hy | hy
    · exact absurd rfl (S.nocell _ (PySem.mem_of_lookup hy))
    · exact C.has y (S.free y hy)
  · cases i with
    | zero =>
      have e1 : p = y:=Option.some.inj h1
      have e2 : some v = some z:=Option.some.inj h2
      cases e2
      subst e1
      exact ⟨u,r,.inl ⟨S.par,by simp [List.lookup]⟩⟩
    | succ i =>
      have h1 : fvs[i]? = some y:=by
        have h1' : (p :: fvs)[i + 1]? = some y:=h1
        simpa using h1'
      have h2 : fs[i]? = some z:=by
        have h2' : (fs.map some)[i]? = some (some z):=by simpa using h2
        rw [List.getElem?_map] at h2'
        cases e : fs[i]? with
        | none => rw [e] at h2'; cases h2'
        | some a => rw [e] at h2'; cases h2'; rfl
      obtain ⟨c,u',hc,hcell,r'⟩:=C.get i y z h1 h2
      exact ⟨u',r',.inr ⟨.inr (S.isf y (List.mem_of_getElem? h1)),c,hc,hcell.keeps hk⟩⟩
  · obtain ⟨⟨v',hv⟩,_⟩:=C.all y c h
    exact ⟨v',hv.keeps hk⟩
  · show (some v :: fs.map some).length = (p :: fvs).length
    rw [List.length_cons,List.length_map,List.length_cons,C.len]
theorem lam_run {CX : CXT} {P : Program} {w : World} {K : PySem.W.Frag} {mg : Str → Option Value} {base : Heap} {k : Nat} {p name qual : Str} {params : Arguments} {body : Expr} {fvs : List Str} {scope : Scope} {f c' : Addr} {cl : List (Str × Addr)} {A : Around} {outer : List Env} {s : Shared} {H : Hp}
    {fs : List V} {v : V} {u pm ctv : Value} {Q : VK} {E : XK} {t : TE} (hr : Room (k + 1) A) (e0 : Env0 P w K mg base A outer s H) (hf : s.heap.get? f = some (PySem.W.kla_obj name qual params body scope cl pm c' ctv)) (hcd : s.heap.CodeRec (.ref c') qual)
    (S : LamSc p fvs scope) (C : Clo cl fvs fs H s.heap) (r : RelV v u) (hbind : bindArgs (PySem.W.kla_fn name qual params body scope cl pm (.ref c') ctv) ⟨[u],[]⟩ = pure [(p,u)])
    (hb : PE (cxLam P w K mg base (p :: fvs) qual scope f (.ref c') cl A outer s H) body t) (ht : t (some v :: fs.map some) H Q) :
    codeAny (model P w) A (.call (.ref f) ⟨[u],[]⟩) (CR CX outer P w H s Q E) s:=by
  have lim : s.heap.NoLimit:=e0.mod.nolimit.keeps fun b o e => (e0.bs b o e).1
  refine PySem.W.kla_callFunE hr.depth hf rfl S.co S.gen rfl hcd ?_
  rw [hbind]
  refine wpAny_pure (wpAny_newFunctionEnv S.nocell (fun y hy => ?_) (fun h₁ hns hsb => ?_) S.kind)
  · have e : y = (p,u):=by simpa using hy
    rw [e]
    exact S.par
  · have hk₁ : ∀ b o,s.heap.get? b = some o → h₁.get? b = some o:=fun b o e => hsb.extBut b o (Nat.ne_of_lt (Heap.lt_size e)) (Heap.get?_push_of_some _ e)
    refine ⟨lim.keeps hk₁,?_⟩
    show codeAny _ _ (.expr body (PySem.W.envX qual scope s.heap.objs.size f (.ref c') cl)) _ _
    have I:=lam_inv (qual:=qual) (f:=f) (cd:=.ref c') (tk:=s.toks + ([(p,u)] : List (Str × Value)).length) S hr.hd e0 C r hns hk₁
    exact PySem.W.kla_codeExpr (wpAny_mono (hb [] _ _ H Q I ht) (fun u' s' ⟨v',H',J,rv,q⟩ => ⟨v',H',J.os,J.bare,J.base,J.hok,rv,q⟩) fun _ _ z => z.elim)

def CodeAt (c : Addr) (q : Str) : HO:=.ext fun h => h.CodeRec (.ref c) q
def Tab (H : Hp) (P : Addr) (pos : Pos) (q : Str) : Prop :=
  H P = some (.tbl #[]) ∨ ∃ c : Addr,H P = some (.tbl #[rawInt pos.line,rawInt pos.col,.ref c]) ∧ H c = some (CodeAt c q)
def Kp (P : Addr) (H H' : Hp) : Prop:=∀ b o,H b = some o → b ≠ P → H' b = some o
theorem Kp.refl (P : Addr) (H : Hp) : Kp P H H:=fun _ _ e _ => e
theorem Kp.trans {P : Addr} {H H1 H2 : Hp} (a : Kp P H H1) (b : Kp P H1 H2) : Kp P H H2:=fun c o e n => b c o (a c o e n) n
theorem Kp.of_same {P : Addr} {H H' : Hp} (a : Same H H') : Kp P H H':=fun c o e _ => a c o e
theorem Tab.ne {H : Hp} {P b : Addr} {pos : Pos} {q : Str} {o : HO} (t : Tab H P pos q) (e : H b = some o) (n : ∀ ps,o ≠ .tbl ps) : b ≠ P:=fun z => by
  subst z
  rcases t with t | ⟨c,t,_⟩
  · rw [e] at t; exact n _ (Option.some.inj t)
  · rw [e] at t; exact n _ (Option.some.inj t)
theorem Kp.seq {K : PySem.W.Frag} {P : Addr} {pos : Pos} {q : Str} {H H' : Hp} {a : Addr} {xs : List V} (e : Kp P H H') (t : Tab H P pos q) (h : SqL K H a xs) : SqL K H' a xs:=by
  rcases h with (h | ⟨o,h⟩) | h
  · exact .inl (.inl (e _ _ h (t.ne h fun _ z => by cases z)))
  · exact .inl (.inr ⟨o,e _ _ h (t.ne h fun _ z => by cases z)⟩)
  · exact .inr h
theorem Tab.kp {H H' : Hp} {P P2 : Addr} {pos pos2 : Pos} {q q2 : Str} (t2 : Tab H P2 pos2 q2) (e : Kp P H H') (t : Tab H P pos q) (hne : P2 ≠ P) : Tab H' P2 pos2 q2:=by
  rcases t2 with t2 | ⟨c,t2,r⟩
  · exact .inl (e _ _ t2 hne)
  · exact .inr ⟨c,e _ _ t2 hne,e _ _ r (t.ne r fun _ z => by cases z)⟩
theorem Tab.same {H H' : Hp} {P : Addr} {pos : Pos} {q : Str} (t : Tab H P pos q) (a : Same H H') : Tab H' P pos q:=by
  rcases t with t | ⟨c,t,r⟩
  · exact .inl (a _ _ t)
  · exact .inr ⟨c,a _ _ t,a _ _ r⟩
theorem codeAt_ok {P : Program} {w : World} {H : Hp} {h : Heap} {c : Addr} {q : Str} (x : h.CodeRec (.ref c) q) : ObjOk P w H h c (CodeAt c q):=by
  refine ⟨x,?_,?_⟩
  · obtain ⟨c',o,vs,t,e,ho,_⟩:=x
    cases e
    exact ⟨o,ho⟩
  · rintro h1 h2 ⟨c',o,vs,t,e,ho,r⟩ k
    cases e
    exact ⟨_,o,vs,t,rfl,k o ho,r⟩
def BMod (mg : Str → Option Value) (base : Heap) : Prop:=∃ bm ob,mg "__builtins__" = some (.ref bm) ∧ bm ≠ builtinsNs ∧ base.get? bm = some ob ∧ ob.cls = .type "module" ∧ ob.dict = some builtinsNs ∧ ob.data = .plain
end L3

namespace L3
open PySem PySem.Spec PyProof.Rows L2
section
variable {X : Cx} {pins : List (Addr × Obj)} {σ : L2.St} {H : Hp} {s : Shared} {E : Value → Shared → Prop}
theorem stk_lt (I : Inv X pins σ H s) {b : Addr} (hb : b ∈ frs X.stack) : b < s.heap.objs.size:=by
  obtain ⟨_,o,ho,_⟩:=I.stack.mem hb
  exact Heap.lt_size ho
theorem lam_make {c P : Addr} {params : Arguments} {body : Expr} {scope : Scope} {cl : List (Str × Addr)} {pos : Pos} {Qv : Value → Shared → Prop} (I : Inv X pins σ H s) (C : PySem.W.CodeHd X.base c P) (hb : BMod X.mg X.base)
    (hcode : X.env.code = .ref c) (hcl : closureFor scope X.env = pure cl) (hdef : defaultsOf params X.env = ([],[])) (T : Tab H P pos (X.env.qual ++ "<lambda>"))
    (h : ∀ (f c' : Addr) (ctv pm : Value) (s' : Shared) (H1 : Hp),Inv X pins σ H1 s' → Stp X H H1 s.heap s'.heap → Kp P H H1 → Tab H1 P pos (X.env.qual ++ "<lambda>") → s'.heap.get? f = some (PySem.W.kla_obj "<lambda>" (X.env.qual ++ "<lambda>") params body scope cl pm c' ctv) →
      H1 f = none → s.heap.objs.size ≤ f → H1 c' = some (CodeAt c' (X.env.qual ++ "<lambda>")) → Qv (.ref f) s') : wpAny (model X.prog X.w) X.A (eval (.Lambda params body scope pos) X.env) Qv E s:=by
  have hg : s.heap.Ns mainGlobals X.mg:=I.mod.glob.keeps I.bk
  have hC : PySem.W.CodeHd s.heap c P:=C.keeps I.bk
  obtain ⟨bm,ob,b1,b2,b3,b4,b5,b6⟩:=hb
  have b3':=I.bk _ _ b3
  have hbG : bm ≠ mainGlobals:=fun q => by
    obtain ⟨o,es,ep,e,hd,_⟩:=hg
    rw [q,e] at b3'; cases b3'; rw [hd] at b6; cases b6
  have tabAt : ∀ ps,H P = some (.tbl ps) → s.heap.get? P = some (PySem.W.tabObj ps):=fun ps e => I.hok P _ e
  have nP : ∀ ps,H P = some (.tbl ps) → ∀ b o,X.base.get? b = some o → b ≠ P:=fun ps e b o q z => by
    have:=(I.bs b o q).2
    rw [z,e] at this; cases this
  refine PySem.W.kla_eval hdef ?_
  rcases T with T | ⟨c',T,T2⟩
  · have hgP : mainGlobals ≠ P:=by
      obtain ⟨o,es,ep,e,_⟩:=I.mod.glob
      exact nP _ T _ _ e
    refine PySem.W.kla_makeFunction (mg:=X.mg) hcl I.ok.glob hg hcode hC (tabAt _ T) trivial rfl hgP ⟨bm,ob,b1,b2,hbG,nP _ T _ _ b3,b3',b4,b5,b6⟩ fun c' ctv h' tk hx hge hlt hrec htb => ?_
    have hPs : P < s.heap.objs.size:=Heap.lt_size (tabAt _ T)
    have hcn : H c' = none:=I.hok.fresh hge
    have hcP : c' ≠ P:=fun z => by rw [z,T] at hcn; cases hcn
    have kp : ∀ b o,b ≠ P → s.heap.get? b = some o → (h'.push (PySem.W.kla_obj "<lambda>" (X.env.qual ++ "<lambda>") params body scope cl ((X.mg "__name__").getD .none) c' ctv)).get? b = some o:=fun b o hbp e => Heap.get?_push_of_some _ (hx b o hbp e)
    have old : ∀ b,b ≠ P → b ≠ c' → upd (upd H c' (CodeAt c' (X.env.qual ++ "<lambda>"))) P (.tbl (#[] ++ #[rawInt pos.line,rawInt pos.col,.ref c'])) b = H b:=fun b h1 h2 => by rw [upd_ne h1,upd_ne h2]
    have hL : X.env.locals ≠ P:=fun z => by have:=I.free; rw [z,T] at this; cases this
    have st : Stp X H (upd (upd H c' (CodeAt c' (X.env.qual ++ "<lambda>"))) P (.tbl (#[] ++ #[rawInt pos.line,rawInt pos.col,.ref c']))) s.heap (h'.push (PySem.W.kla_obj "<lambda>" (X.env.qual ++ "<lambda>") params body scope cl ((X.mg "__name__").getD .none) c' ctv)):=by
      refine ⟨fun b o _ _ e n => kp b o (fun z => by rw [z,T] at n; cases n) e,fun b o _ _ e n => ⟨o.slots,kp b o (fun z => by rw [z,T] at n; cases n) e⟩,fun b o e n => ?_,fun b o e => ?_,fun b xs e => ?_,fun b o u e => ?_,fun b ps e => ?_,fun m n => ?_⟩
      · rw [old b (fun z => by rw [z,T] at n; cases n) (Nat.ne_of_lt (Nat.lt_of_lt_of_le (Heap.lt_size e) hge))]
        exact n
      · by_cases hbp : b = P
        · rw [hbp]; exact ⟨_,Heap.get?_push_of_some _ htb⟩
        · exact ⟨o,kp b o hbp e⟩
      · rw [old b (fun z => by rw [z,T] at e; cases e) (fun z => by rw [z,hcn] at e; cases e)]
        exact e
      · rw [old b (fun z => by rw [z,T] at e; cases e) (fun z => by rw [z,hcn] at e; cases e)]
        exact e
      · by_cases hbp : b = P
        · subst hbp
          rw [T] at e; cases e
          exact ⟨_,upd_same⟩
        · rw [old b hbp (fun z => by rw [z,hcn] at e; cases e)]
          exact ⟨#[],by rw [e]; simp⟩
      · obtain ⟨o,es,ep,e,r⟩:=n
        exact ⟨o,es,ep,kp _ o hL e,r⟩
    have hok : HOk X.prog X.w (upd (upd H c' (CodeAt c' (X.env.qual ++ "<lambda>"))) P (.tbl (#[] ++ #[rawInt pos.line,rawInt pos.col,.ref c']))) (h'.push (PySem.W.kla_obj "<lambda>" (X.env.qual ++ "<lambda>") params body scope cl ((X.mg "__name__").getD .none) c' ctv)):=fun b u e => by
      by_cases hbp : b = P
      · subst hbp
        rw [upd_same] at e; cases e
        exact Heap.get?_push_of_some _ htb
      · rw [upd_ne hbp] at e
        by_cases hbc : b = c'
        · subst hbc
          rw [upd_same] at e; cases e
          obtain ⟨c2,oc,vs,t,e2,hoc,r⟩:=hrec
          cases e2
          exact codeAt_ok ⟨b,oc,vs,t,rfl,Heap.get?_push_of_some _ hoc,r⟩
        · rw [upd_ne hbc] at e
          refine (I.hok b u e).stay (fun d v hd q => kp d v ?_ q) (fun d q => ?_) fun d xs q => ?_
          · rcases hd with z | z
            · rw [z]; exact hbp
            · intro w; rw [w,T] at z; cases z
          · rw [old d (fun w => by rw [w,T] at q; cases q) (fun w => by rw [w,hcn] at q; cases q)]; exact q
          · rw [old d (fun w => by rw [w,T] at q; cases q) (fun w => by rw [w,hcn] at q; cases q)]; exact q
    have hfn : upd (upd H c' (CodeAt c' (X.env.qual ++ "<lambda>"))) P (.tbl (#[] ++ #[rawInt pos.line,rawInt pos.col,.ref c'])) h'.objs.size = none:=by
      have hs : s.heap.objs.size ≤ h'.objs.size:=Nat.le_trans hge (Nat.le_of_lt hlt)
      rw [old _ (Nat.ne_of_gt (Nat.lt_of_lt_of_le hPs hs)) (Nat.ne_of_gt hlt)]
      exact I.hok.fresh hs
    refine h h'.objs.size c' ctv _ _ _ (Stp.inv (s':={ s with heap:=_,toks:=tk }) I st rfl hok I.bare) st (fun b o e n => ?_) (.inr ⟨c',upd_same,by rw [upd_ne hcP,upd_same]⟩) (Heap.get?_push_size _ rfl) hfn (Nat.le_trans hge (Nat.le_of_lt hlt)) (by rw [upd_ne hcP,upd_same])
    rw [old b n (fun z => by rw [z,hcn] at e; cases e)]
    exact e
  · refine PySem.W.kla_makeFunctionHit (mg:=X.mg) (cv:=.ref c') hcl I.ok.glob hg hcode hC (tabAt _ T) (by simp [TriplesOk,rawInt]) (by simp [codeAmong,rawInt]) ⟨bm,ob,b1,b2,hbG,nP _ T _ _ b3,b3',b4,b5,b6⟩ fun ctv h' tk hk hsz => ?_
    have kp : ∀ b o,s.heap.get? b = some o → (h'.push ({ cls:=.type "function",data:=.func (PySem.W.kla_fn "<lambda>" (X.env.qual ++ "<lambda>") params body scope cl ((X.mg "__name__").getD .none) (.ref c') ctv) } : Obj)).get? b = some o:=fun b o e => Heap.get?_push_of_some _ (hk b o e)
    exact h h'.objs.size c' ctv _ _ H (I.kept (t':=tk) kp) (Stp.kept kp) (Kp.refl _ _) (.inr ⟨c',T,T2⟩) (Heap.get?_push_size _ rfl) (I.hok.fresh hsz) hsz T2
end

def klt (ky : Nat → Int × Int) (i j : Nat) : Bool:=HT.lexLt [(ky i).1,(ky i).2] [(ky j).1,(ky j).2]
def KeyTurn (X : Cx) (pins : List (Addr × Obj)) (σ : L2.St) (H : Hp) (s : Shared) (A : Around) (f : Addr) (xs : List V) (ky : Nat → Int × Int) : Prop :=
  ∀ (i : Nat) (x : V) (u : Value) (s1 : Shared) (H1 : Hp),xs[i]? = some x → RelV x u → Inv X pins σ H1 s1 → Stp X H H1 s.heap s1.heap → Same H H1 →
    wpAny (model X.prog X.w) A (call (.ref f) [u]) (CE X.stack X.prog X.w H1 s1 fun kv H2 => ∃ p,kv = .ref p ∧ Same H1 H2 ∧ H2 p = some (.tup [.int (ky i).1,.int (ky i).2])) (fun _ _ => False) s1
structure KS (X : Cx) (H : Hp) (s : Shared) (D kS e1 : Nat) (ky : Nat → Int × Int) (ks : List Value) (H' : Hp) (s' : Shared) : Prop where
  os : s'.os = s.os
  bare : AllBare s'.gens
  stp : Stp X H H' s.heap s'.heap
  hok : HOk X.prog X.w H' s'.heap
  same : Same H H'
  nD : H' D = none
  nK : H' kS = none
  oD : s'.heap.get? D = some (seqObj "list" #[] e1)
  oK : ∃ e,s'.heap.get? kS = some (seqObj "list" ks.toArray e)
  key : ∀ i v,ks[i]? = some v → ∃ p,v = .ref p ∧ H' p = some (.tup [.int (ky i).1,.int (ky i).2])
section
variable {X : Cx} {pins : List (Addr × Obj)} {σ : L2.St} {H H' : Hp} {s s' : Shared} {D kS e1 : Nat} {ky : Nat → Int × Int} {ks : List Value}
theorem ns_upd {h : Heap} {L a : Addr} {f : Obj → Obj} {m : Str → Option Value} (hne : L ≠ a) (n : h.Ns L m) : (h.update a f).Ns L m:=by
  obtain ⟨o,es,ep,e,r⟩:=n
  exact ⟨o,es,ep,(Heap.get?_update_other _ _ (Ne.symm hne)).trans e,r⟩
theorem upd_untracked {a : Addr} {fo : Obj → Obj} {h : Heap} (I : Inv X pins σ H s) (ha : s.heap.objs.size ≤ a) (st : Stp X H H' s.heap h) (hok : HOk X.prog X.w H' h) (na : H' a = none) :
    Stp X H H' s.heap (h.update a fo) ∧ HOk X.prog X.w H' (h.update a fo):=by
  have hL : X.env.locals ≠ a:=Nat.ne_of_lt (Nat.lt_of_lt_of_le I.lt ha)
  obtain ⟨m,hm,_⟩:=I.loc
  refine ⟨st.over (D:=a) (Heap.get?_none_of_le ha) ⟨m,st.ns m hm⟩ (fun b o hb _ e => (Heap.get?_update_other _ _ (Ne.symm hb)).trans e) fun m' n => ns_upd hL n,HOk.but hok fun b o hb e => (Heap.get?_update_other _ _ fun z => hb (by rw [← z]; exact na)).trans e⟩
theorem KS.inv (I : Inv X pins σ H s) (k : KS X H s D kS e1 ky ks H' s') : Inv X pins σ H' s':=Stp.inv I k.stp k.os k.hok k.bare
theorem KS.turn {A : Around} {f : Addr} {xs : List V} {i : Nat} {x : V} {u : Value} {body : Sem (ForInStep PUnit)} {E : Value → Shared → Prop} (I : Inv X pins σ H s) (hD : s.heap.objs.size ≤ D) (hK : s.heap.objs.size ≤ kS) (hDK : D ≠ kS) (T : KeyTurn X pins σ H s A f xs ky)
    (hx : xs[i]? = some x) (ru : RelV x u) (hi : ks.length = i) (h64 : i < 64) (k : KS X H s D kS e1 ky ks H' s')
    (hb : ∀ Q : ForInStep PUnit → Shared → Prop,wpAny (model X.prog X.w) A (call (.ref f) [u]) (fun kv s2 => ∃ xs' n',s2.heap.get? kS = some (seqObj "list" xs' n') ∧ xs'.size ≤ sizeLine ∧ Q (.yield ⟨⟩) { s2 with heap:=s2.heap.update kS (Obj.mapSeq (·.push kv)) }) (fun _ _ => False) s' → wpAny (model X.prog X.w) A body Q E s') :
    wpAny (model X.prog X.w) A body (fun r s2 => r = .yield ⟨⟩ ∧ ∃ kv H2,KS X H s D kS e1 ky (ks ++ [kv]) H2 s2) E s':=by
  have J:=k.inv I
  refine hb _ (wpAny_mono (T i x u s' H' hx ru J k.stp k.same) (fun kv s2 h => ?_) fun _ _ z => z)
  obtain ⟨v,H2,os,bare,un,hok,rv,p,e,sm,hp⟩:=h
  subst e
  cases (show kv = .ref p from rv)
  obtain ⟨eK,oK⟩:=k.oK
  have nf : ∀ {a},s.heap.objs.size ≤ a → a ∉ frs X.stack:=fun ha z => absurd (Nat.lt_of_lt_of_le (stk_lt I z) ha) (Nat.lt_irrefl _)
  have oK2:=un.keep kS _ oK k.nK (nf hK) (by simp)
  have oD2:=un.keep D _ k.oD k.nD (nf hD) (by simp)
  have nK2:=un.free kS _ oK k.nK (by simp)
  have nD2:=un.free D _ k.oD k.nD (by simp)
  obtain ⟨st,hok'⟩:=upd_untracked (fo:=Obj.mapSeq (·.push (Value.ref p))) I hK (k.stp.trans (Stp.of_un J un)) hok nK2
  refine ⟨_,_,oK2,by rw [List.size_toArray,sizeLine_eq]; omega,rfl,.ref p,H2,os.trans k.os,bare,st,hok',k.same.trans sm,nD2,nK2,(Heap.get?_update_other _ _ (Ne.symm hDK)).trans oD2,?_,fun j w hj => ?_⟩
  · have q:=get?_update_seq oK2 (·.push (Value.ref p))
    rw [List.push_toArray] at q
    exact ⟨_,q⟩
  · by_cases hl : j < ks.length
    · rw [List.getElem?_append_left hl] at hj
      obtain ⟨q,e,hq⟩:=k.key j w hj
      exact ⟨q,e,sm _ _ hq⟩
    · rw [List.getElem?_append_right (by omega)] at hj
      have ej : j - ks.length = 0:=by
        cases z : j - ks.length with
        | zero => rfl
        | succ n => rw [z] at hj; simp at hj
      rw [ej] at hj
      have : j = i:=by omega
      subst this
      cases hj
      exact ⟨p,rfl,hp⟩
end
end L3

namespace L3
open PySem PySem.Spec PyProof.Rows L2
section
variable {X : Cx} {pins : List (Addr × Obj)} {σ : L2.St} {H H' : Hp} {s s' : Shared} {D kS e1 : Nat} {ky : Nat → Int × Int} {ks : List Value} {h : Heap}
theorem track {o : HO} (I : Inv X pins σ H s) (hD : s.heap.objs.size ≤ D) (st : Stp X H H' s.heap h) (hok : HOk X.prog X.w H' h) (nD : H' D = none) (new : ObjOk X.prog X.w (upd H' D o) h D o) :
    Stp X H (upd H' D o) s.heap h ∧ HOk X.prog X.w (upd H' D o) h:=by
  have hn : H D = none:=I.hok.fresh hD
  have ne : ∀ b u,H b = some u → b ≠ D:=fun b u e z => by rw [z,hn] at e; cases e
  refine ⟨⟨st.keep,st.slot,fun b u e n => ?_,st.there,fun b xs e => ?_,fun b ob u e => ?_,fun b ps e => ?_,st.ns⟩,fun b u e => ?_⟩
  · rw [upd_ne (Nat.ne_of_lt (Nat.lt_of_lt_of_le (Heap.lt_size e) hD))]
    exact st.free b u e n
  · rw [upd_ne (ne b _ e)]; exact st.tups b xs e
  · rw [upd_ne (ne b _ e)]; exact st.frzs b ob u e
  · rw [upd_ne (ne b _ e)]; exact st.tbls b ps e
  · by_cases hb : b = D
    · subst hb
      rw [upd_same] at e; cases e
      exact new
    · rw [upd_ne hb] at e
      exact (hok b u e).stay (fun _ _ _ q => q) (fun c q => by rw [upd_ne (ne_of_none q nD)]; exact q) fun c xs q => by rw [upd_ne (ne_of_none q nD)]; exact q
theorem pair_at {p : Addr} {a b : Int} (J : Inv X pins σ H' s') (hp : H' p = some (.tup [.int a,.int b])) : ∃ (o : Obj) (t u : Tok) (n : Nat),s'.heap.get? p = some o ∧ o.cls = .type "tuple" ∧ o.data = .seq #[.int a t,.int b u] n:=by
  obtain ⟨_,its,r,o,ho,hc,n,hd⟩:=(show ObjOk X.prog X.w H' s'.heap p (.tup [.int a,.int b]) from J.hok p _ hp)
  obtain ⟨u1,u2,rfl,⟨t,rfl⟩,⟨t',rfl⟩⟩:=Vals.two r
  exact ⟨o,t,t',n,ho,hc,hd⟩
end
section
variable {X : Cx} {pins : List (Addr × Obj)} {σ : L2.St} {H : Hp} {s : Shared} {ky : Nat → Int × Int}
end
end L3

namespace L3
open PySem PySem.Spec PyProof.Rows L2
structure MS (X : Cx) (H : Hp) (s : Shared) (l it S : Addr) (xs : List V) (ky : Nat → Int × Int) (j : Nat) (best : Option Nat) (H' : Hp) (s' : Shared) : Prop where
  os : s'.os = s.os
  bare : AllBare s'.gens
  stp : Stp X H H' s.heap s'.heap
  hok : HOk X.prog X.w H' s'.heap
  same : Same H H'
  nI : H' it = none
  nS : H' S = none
  oI : s'.heap.IsListIter it l j
  oS : ∃ c ws,s'.heap.get? S = some (seqObj "list" ws c) ∧ match best with
    | none => ws = #[]
    | some i => ∃ x u p,xs[i]? = some x ∧ RelV x u ∧ ws = #[u,.ref p] ∧ H' p = some (.tup [.int (ky i).1,.int (ky i).2])
def Least (ky : Nat → Int × Int) (n : Nat) (i : Nat) : Prop:=i < n ∧ ∀ j,j < n → j ≠ i → klt ky i j = true
theorem min_args (a v d : Value) : argsOk "min" ⟨[a],[(Str.ofString "key",v),(Str.ofString "default",d)]⟩:=by unfold argsOk; kernel_rfl
section
variable {X : Cx} {pins : List (Addr × Obj)} {σ : L2.St} {H H' : Hp} {s s' : Shared} {l it S f : Addr} {xs : List V} {ky : Nat → Int × Int}
theorem MS.inv (I : Inv X pins σ H s) {j : Nat} {b : Option Nat} (k : MS X H s l it S xs ky j b H' s') : Inv X pins σ H' s':=Stp.inv I k.stp k.os k.hok k.bare
theorem intsAre2 (a b : Int) (t u : Tok) : IntsAre (#[Value.int a t,Value.int b u] : Array Value).toList [a,b]:=.cons a t (.cons b u .nil)
theorem pair_lt {A : Around} {p q : Addr} {a b c d : Int} {Q : Value → Shared → Prop} {E : Value → Shared → Prop} (J : Inv X pins σ H' s') (hu : A.units < cLine) (hp : H' p = some (.tup [.int a,.int b])) (hq : H' q = some (.tup [.int c,.int d]))
    (hQ : Q (.bool (HT.lexLt [a,b] [c,d])) s') : wpAny (model X.prog X.w) A (richCompare .Lt (.ref p) (.ref q)) Q E s':=by
  obtain ⟨o,t,u,n,ho,hc,hd⟩:=pair_at J hp
  obtain ⟨o2,t2,u2,n2,ho2,hc2,hd2⟩:=pair_at J hq
  exact (HT.lt_tupInts ⟨o,ho,hc,n,hd⟩ ⟨o2,ho2,hc2,n2,hd2⟩ (intsAre2 a b t u) (intsAre2 c d t2 u2) hu hQ : wpAny (model X.prog X.w) A (compareOp .Lt (.ref p) (.ref q)) Q E s')
theorem min_loop {R : Result → Shared → Prop} (I : Inv X pins σ H s) (hh : X.A.handled = none) (hu : X.A.units + 1 < cLine) (hq : SqL X.K H l xs) (hI : s.heap.objs.size ≤ it) (hS : s.heap.objs.size ≤ S) (hIS : it ≠ S) (hord : Ord xs.length (klt ky))
    (T : KeyTurn X pins σ H s X.A.in1 f xs ky)
    (hR : ∀ (i : Nat) (x : V) (u : Value) (H2 : Hp) (s2 : Shared),Inv X pins σ H2 s2 → Same H H2 → xs[i]? = some x → RelV x u → Least ky xs.length i → R (.ok (.ret u)) s2)
    (hR0 : ∀ (H2 : Hp) (s2 : Shared),Inv X pins σ H2 s2 → Same H H2 → xs = [] → R (.ok (.ret .none)) s2) :
    ∀ (r j : Nat) (best : Option Nat) (H' : Hp) (s' : Shared),xs.length - j = r → j ≤ xs.length → (match best with | none => j = 0 | some i => Least ky j i) → MS X H s l it S xs ky j best H' s' →
      codeAny (model X.prog X.w) X.A (.builtin "min.loop" ⟨[.ref it,.ref f,.ref S],[(Str.ofString "default",Value.none)]⟩) R s':=by
  have hname : (toString "min" ++ toString ".loop" : String) = "min.loop" := by decide
  have ltl : l < s.heap.objs.size:=by
    obtain ⟨its,_,pl,_⟩:=I.list hq
    obtain ⟨o,ho,_⟩:=pl.isList
    exact Heap.lt_size ho
  have hlI : l ≠ it:=Nat.ne_of_lt (Nat.lt_of_lt_of_le ltl hI)
  have nf : ∀ {a},s.heap.objs.size ≤ a → a ∉ frs X.stack:=fun ha z => absurd (Nat.lt_of_lt_of_le (stk_lt I z) ha) (Nat.lt_irrefl _)
  have hL : ∀ {a},s.heap.objs.size ≤ a → X.env.locals ≠ a:=fun ha => Nat.ne_of_lt (Nat.lt_of_lt_of_le I.lt ha)
  have turned : ∀ {j : Nat} {best : Option Nat} {H' : Hp} {s' : Shared} {h' : Heap} {tk : Nat},MS X H s l it S xs ky j best H' s' → (∀ b o,b ∉ [it] → s'.heap.get? b = some o → h'.get? b = some o) →
      Stp X H H' s.heap h' ∧ HOk X.prog X.w H' h':=fun {j best H' s' h' tk} k hk => by
    obtain ⟨m,hm,_⟩:=I.loc
    refine ⟨k.stp.over (D:=it) (Heap.get?_none_of_le hI) ⟨m,k.stp.ns m hm⟩ (fun b o hb _ e => hk b o (by simpa using hb) e) (fun m' n => ?_),HOk.but k.hok fun b o hb e => hk b o (by simpa using fun z => hb (by rw [z]; exact k.nI)) e⟩
    obtain ⟨o,es,ep,e,r⟩:=n
    exact ⟨o,es,ep,hk _ o (by simpa using hL hI) e,r⟩
  intro r
  induction r with
  | zero =>
    intro j best H' s' hr hj hb k
    have J:=k.inv I
    obtain ⟨its,rv,pl,hz⟩:=J.list (k.same.seq hq)
    have hlen:=rv.length
    have W:=Walks.list (prog:=X.prog) (w:=X.w) (A:=X.A.in1) hh it l hlI its.toArray
    obtain ⟨c,ws,oS,hws⟩:=k.oS
    refine codeAny_builtin PySem.F.entry_min_loop ?_
    rw [Around.under_plainId PySem.F.plain_min_loop _]
    show wpAny _ X.A.in1 (seqItems? (.ref S) >>= _) _ _ _
    refine wpAny_bind (wpAny_seqItems oS rfl ?_)
    show wpAny _ X.A.in1 (tryCatch (pyNext (.ref it)) _ >>= _) _ _ _
    refine wpAny_bind (wpAny_tryCatch (W.done _ _ _ ⟨by rw [List.size_toArray,← hlen,show xs.length = j by omega]; exact k.oI,pl.isList⟩ fun h' tk' hk' => ?_))
    obtain ⟨st1,ok1⟩:=turned (tk:=tk') k hk'
    have oS1:=hk' S _ (by simpa using Ne.symm hIS) oS
    cases best with
    | none =>
      have e0 : ws = #[]:=hws
      subst e0
      have ej : j = 0:=hb
      show wpAny _ X.A.in1 (rule _ >>= _) _ _ _
      refine wpAny_bind (wpAny_rule (wpAny_pure ?_))
      exact hR0 H' _ (Stp.inv (s':={ s' with heap:=h',toks:=tk' }) I st1 k.os ok1 k.bare) k.same (List.eq_nil_of_length_eq_zero (by omega))
    | some i =>
      obtain ⟨x,u,p,hx,ru,e0,hp⟩:=hws
      subst e0
      have hl : Least ky j i:=hb
      obtain ⟨st2,ok2⟩:=upd_untracked (fo:=Obj.mapSeq fun _ => (#[] : Array Value)) I hS st1 ok1 k.nS
      show wpAny _ X.A.in1 (updateSeq S (fun _ => #[]) >>= _) _ _ _
      refine wpAny_bind (wpAny_updateSeq oS1 rfl (wpAny_bind (wpAny_letGo (wpAny_pure ?_))))
      exact hR i x u H' _ (Stp.inv (s':={ s' with heap:=_,toks:=tk' }) I st2 k.os ok2 k.bare) k.same hx ru (by rw [show xs.length = j by omega]; exact hl)
  | succ r ih =>
    intro j best H' s' hr hj hb k
    have J:=k.inv I
    have hlt : j < xs.length:=by omega
    obtain ⟨its,rv,pl,hz⟩:=J.list (k.same.seq hq)
    have hlen:=rv.length
    have W:=Walks.list (prog:=X.prog) (w:=X.w) (A:=X.A.in1) hh it l hlI its.toArray
    obtain ⟨c,ws,oS,hws⟩:=k.oS
    refine codeAny_builtin PySem.F.entry_min_loop ?_
    rw [Around.under_plainId PySem.F.plain_min_loop _]
    show wpAny _ X.A.in1 (seqItems? (.ref S) >>= _) _ _ _
    refine wpAny_bind (wpAny_seqItems oS rfl ?_)
    show wpAny _ X.A.in1 (tryCatch (pyNext (.ref it)) _ >>= _) _ _ _
    refine wpAny_bind (wpAny_tryCatch (W.item j _ _ _ (by rw [List.size_toArray]; omega) ⟨k.oI,pl.isList⟩ fun v h' tk' hP hst' hk' => ?_))
    have hv : its[j]? = some v:=by simpa using hP
    obtain ⟨st1,ok1⟩:=turned (tk:=tk') k hk'
    have oS1:=hk' S _ (by simpa using Ne.symm hIS) oS
    have J1 : Inv X pins σ H' { s' with heap:=h',toks:=tk' }:=Stp.inv (s':={ s' with heap:=h',toks:=tk' }) I st1 k.os ok1 k.bare
    obtain ⟨u,eu,ru⟩:=rv.get (i:=j) (List.getElem?_eq_getElem hlt)
    rw [hv] at eu; cases eu
    show wpAny _ X.A.in1 (tryCatch (holding [v] (call (.ref f) [v])) _ >>= _) _ _ _
    refine wpAny_bind (wpAny_tryCatch (wpAny_holding (wpAny_mono (T j xs[j] v _ H' (List.getElem?_eq_getElem hlt) ru J1 st1 k.same) (fun kv s2 h2 => ?_) fun _ _ z => z.elim)))
    obtain ⟨kvV,H2,os2,bare2,un,ok2,rkv,p,e,sm,hp⟩:=h2
    subst e
    cases (show kv = .ref p from rkv)
    have st2 : Stp X H H2 s.heap s2.heap:=st1.trans (Stp.of_un J1 un)
    have oS2:=un.keep S _ oS1 k.nS (nf hS) (by simp)
    have nS2:=un.free S _ oS1 k.nS (by simp)
    obtain ⟨oI',hoI',hoc,hod⟩:=id hst'.1
    have oI2:=un.keep it _ hoI' k.nI (nf hI) (by simp)
    have nI2:=un.free it _ hoI' k.nI (by simp)
    have J2 : Inv X pins σ H2 s2:=Stp.inv I st2 (os2.trans k.os) ok2 bare2
    have put : ∀ (best' : Option Nat),best' = some j → (Least ky (j + 1) j) → codeAny (model X.prog X.w) X.A (.builtin "min.loop" ⟨[.ref it,.ref f,.ref S],[(Str.ofString "default",Value.none)]⟩) R { s2 with heap:=s2.heap.update S (Obj.mapSeq fun _ => #[v,.ref p]) }:=fun best' eb hl => by
      obtain ⟨st3,ok3⟩:=upd_untracked (fo:=Obj.mapSeq fun _ => #[v,Value.ref p]) I hS st2 ok2 nS2
      refine ih (j + 1) (some j) H2 _ (by omega) hlt hl ⟨os2.trans k.os,bare2,st3,ok3,k.same.trans sm,nI2,nS2,⟨oI',(Heap.get?_update_other _ _ (Ne.symm hIS)).trans oI2,hoc,hod⟩,?_⟩
      exact ⟨_,_,get?_update_seq oS2 fun _ => #[v,Value.ref p],xs[j],v,p,List.getElem?_eq_getElem hlt,ru,rfl,hp⟩
    cases best with
    | none =>
      have e0 : ws = #[]:=hws
      subst e0
      have ej : j = 0:=hb
      show wpAny _ X.A.in1 (updateSeq S (fun _ => #[v,.ref p]) >>= _) _ _ _
      refine wpAny_bind (wpAny_updateSeq oS2 rfl ?_)
      rw [hname]
      exact wpAny_pure ⟨plainId_quiet PySem.F.plain_min_loop _,put _ rfl ⟨by omega,fun j' h1 h2 => by omega⟩⟩
    | some i =>
      obtain ⟨x,ub,q,hx,rub,e0,hqq⟩:=hws
      subst e0
      have hl : Least ky j i:=hb
      have hq2:=sm _ _ hqq
      show wpAny _ X.A.in1 (tryCatch (holding [v,.ref p] (richCompare .Lt (.ref p) (.ref q) >>= _)) _ >>= _) _ _ _
      refine wpAny_bind (wpAny_tryCatch (wpAny_holding (wpAny_bind (pair_lt J2 (by show X.A.units + 1 < cLine; exact hu) hp hq2 ?_))))
      refine wpAny_bind (wpAny_holding (wpAny_truthy_bool (wpAny_bind (wpAny_letGo (wpAny_pure ?_)))))
      cases hb' : HT.lexLt [(ky j).1,(ky j).2] [(ky i).1,(ky i).2] with
      | true =>
        simp only [if_true]
        refine wpAny_bind (wpAny_updateSeq oS2 rfl (wpAny_bind (wpAny_letGo ?_)))
        rw [hname]
        refine wpAny_pure ⟨plainId_quiet PySem.F.plain_min_loop _,put _ rfl ⟨by omega,fun j' h1 h2 => ?_⟩⟩
        by_cases e : j' = i
        · subst e; exact hb'
        · exact hord.tr _ _ _ (show klt ky j i = true from hb') (hl.2 j' (by omega) e)
      | false =>
        simp only [Bool.false_eq_true,if_false]
        refine wpAny_bind (wpAny_letGo ?_)
        rw [hname]
        have hij : i ≠ j:=fun z => by have:=hl.1; omega
        have hlt2 : klt ky i j = true:=by
          rcases hord.tot i j (by have:=hl.1; omega) hlt hij with z | z
          · exact z
          · have z' : HT.lexLt [(ky j).1,(ky j).2] [(ky i).1,(ky i).2] = true:=z
            rw [hb'] at z'; cases z'
        refine wpAny_pure ⟨plainId_quiet PySem.F.plain_min_loop _,ih (j + 1) (some i) H2 s2 (by omega) hlt ⟨by have:=hl.1; omega,fun j' h1 h2 => ?_⟩ ⟨os2.trans k.os,bare2,st2,ok2,k.same.trans sm,nI2,nS2,⟨oI',oI2,hoc,hod⟩,_,_,oS2,x,ub,q,hx,rub,rfl,hq2⟩⟩
        by_cases e : j' = j
        · subst e; exact hlt2
        · exact hl.2 j' (by omega) h2
theorem min_run {Q : VK} {E : Value → Shared → Prop} (I : Inv X pins σ H s) (hh : X.A.handled = none) (hu : X.A.units + 1 < cLine) (hq : SqL X.K H l xs) (hord : Ord xs.length (klt ky)) (T : KeyTurn X pins σ H s X.A.in1 f xs ky)
    (hQ : ∀ (i : Nat) (x : V) (H2 : Hp),Same H H2 → xs[i]? = some x → Least ky xs.length i → Q x H2) (hQ0 : ∀ H2,Same H H2 → xs = [] → Q .non H2) :
    wpAny (model X.prog X.w) X.A (call (.builtin "min") [.ref l] [(Str.ofString "key",.ref f),(Str.ofString "default",Value.none)]) (EP X pins σ Q) E s:=by
  have hname : (toString "min" ++ toString ".loop" : String) = "min.loop" := by decide
  obtain ⟨its,rv,pl,hz⟩:=I.list hq
  refine kmk_tree PySem.F.kind_min PySem.F.plain_min PySem.F.entry_min (min_args _ _ _) ?_
  show wpAny _ X.A.in1 (Builtin.Builtins.bindParams "min" ["key", "default"] 0 ⟨[],[(Str.ofString "key",.ref f),(Str.ofString "default",Value.none)]⟩ >>= _) _ _ s
  refine wpAny_bind (wpAny_of_eq (show Builtin.Builtins.bindParams "min" ["key", "default"] 0 ⟨[],[(Str.ofString "key",Value.ref f),(Str.ofString "default",Value.none)]⟩ = pure [some (.ref f),some Value.none] from rfl) ?_)
  refine wpAny_bind (wpAny_pure (wpAny_bind (wpAny_pyIter_list pl.isList (wpAny_bind (wpAny_newList ?_ (Nat.zero_le _))))))
  rw [hname]
  generalize hg : s.heap.push { cls:=.type "list_iterator",data:=.fields #[.ref l,.int 0 0] } = g
  have zg : g.objs.size = s.heap.objs.size + 1:=by rw [← hg]; exact size_push' ..
  have gI : g.get? s.heap.objs.size = some { cls:=.type "list_iterator",data:=.fields #[.ref l,.int 0 0] }:=by rw [← hg]; exact Heap.get?_push_size _ rfl
  have kp : ∀ b o,s.heap.get? b = some o → (g.push (seqObj "list" #[] 0)).get? b = some o:=fun b o e => Heap.get?_push_of_some _ (by rw [← hg]; exact Heap.get?_push_of_some _ e)
  refine wpAny_pure ⟨plainId_quiet PySem.F.plain_min_loop _,?_⟩
  refine min_loop (it:=s.heap.objs.size) (S:=g.objs.size) I hh hu hq (Nat.le_refl _) (by rw [zg]; exact Nat.le_succ _) (by rw [zg]; exact Nat.ne_of_lt (Nat.lt_succ_self _)) hord T (fun i x u H2 s2 J sm hx ru hl => ⟨x,H2,J,ru,hQ i x H2 sm hx hl⟩) (fun H2 s2 J sm e => ⟨.non,H2,J,rfl,hQ0 H2 sm e⟩) _ 0 none H _ rfl (Nat.zero_le _) rfl
    ⟨rfl,I.bare,Stp.kept kp,I.hok.kept kp,Same.refl _,I.hok.fresh (Nat.le_refl _),I.hok.fresh (by rw [zg]; exact Nat.le_succ _),⟨_,Heap.get?_push_of_some _ gI,rfl,rfl⟩,⟨0,#[],Heap.get?_push_size _ rfl,rfl⟩⟩
end
end L3

namespace L3
open PySem PySem.Spec PyProof.Rows L2
section
variable {prog : Program} {w : World} {A : Around} {R : Result → Shared → Prop} {s : Shared}
theorem comp_loop {elt tg iter : Expr} {ifs : List Expr} {scope : Scope} {pos : Pos} {it acc : Value} {env : Env} (In : Nat → Shared → Prop)
    (turn : ∀ n s,In n s → wpAny (model prog w) A (pyNext it) (fun r s₁ => match r with
      | none => R (.ok .next) s₁
      | some v => wpAny (model prog w) A (letOwnedTupleGo tg it v) (fun _ s₂ => wpAny (model prog w) A (assign tg env v) (fun _ s₃ =>
          wpAny (model prog w) A (forIn ifs true fun c r => if r = true then do let ok ← isTrue c env (eval c env); pure (ForInStep.yield ok) else pure (ForInStep.yield r)) (fun ok s₄ =>
            if ok = true then wpAny (model prog w) A (eval elt env) (fun x s₅ => wpAny (model prog w) A (call (.builtin "list.append") [acc,x]) (fun _ s₆ => ∃ m,m < n ∧ In m s₆) (fun _ _ => False) s₅) (fun _ _ => False) s₄
            else ∃ m,m < n ∧ In m s₄) (fun _ _ => False) s₃) (fun _ _ => False) s₂) (fun _ _ => False) s₁) (fun _ _ => False) s)
    (n : Nat) (h : In n s) : codeAny (model prog w) A (.compLoop (.ListComp elt [⟨tg,iter,ifs,0⟩] scope pos) 0 it acc env) R s:=by
  refine codeAny_loop rfl In (fun n s hI => ?_) n h
  show wpAny _ A ((compTurn (.ListComp elt [⟨tg,iter,ifs,0⟩] scope pos) 0 it acc env).onRaise (fun x => do noteFrame x env; theTreesLotGoes x)) _ _ s
  refine wpAny_noted ?_
  rw [compTurn_list]
  refine wpAny_bind (wpAny_standAt (wpAny_bind (wpAny_mono (turn n s hI) (fun r s₁ h₁ => ?_) fun _ _ z => z.elim)))
  cases r with
  | none => exact wpAny_pure h₁
  | some v =>
    refine wpAny_bind (wpAny_mono h₁ (fun _ s₂ h₂ => wpAny_bind (wpAny_mono h₂ (fun _ s₃ h₃ => wpAny_bind (wpAny_mono h₃ (fun ok s₄ h₄ => ?_) fun _ _ z => z.elim)) fun _ _ z => z.elim)) fun _ _ z => z.elim)
    cases ok with
    | false => exact wpAny_pure ⟨rfl,h₄⟩
    | true =>
      rw [if_pos rfl] at h₄
      refine wpAny_bind (wpAny_bind (wpAny_mono h₄ (fun x s₅ h₅ => wpAny_bind (wpAny_mono h₅ (fun _ s₆ h₆ => ?_) fun _ _ z => z.elim)) fun _ _ z => z.elim))
      exact wpAny_pure (wpAny_pure ⟨rfl,h₆⟩)
end
def cxComp (X : Cx) (N : List Str) (scope : Scope) (cl : List (Str × Addr)) (fp : List Addr) (C : Addr) (s : Shared) (H : Hp) : Cx where
  prog:=X.prog
  w:=X.w
  K:=X.K
  mg:=X.mg
  base:=X.base
  A:=X.A
  N:=N
  s₀:=s
  H₀:=H
  env:=compEnvC scope cl C X.env
  outer:=X.stack
  stack:=X.stack
  ex:=fp
  fn:=fun _ => false
  calm:=X.calm
  pn:=[]
  xe:=fun _ _ => False
structure CompSc (X : Cx) (ts fvs : List Str) (scope : Scope) (cl : List (Str × Addr)) : Prop where
  clos : closureFor scope X.env = pure cl
  kind : scope.kind = .function
  nocell : ∀ y ∈ scope.names,y.2 ≠ .cell
  names : ∀ y ∈ scope.names,y.2 = .local → scope.names.lookup y.1 = some .local
  vis : ∀ x,((relabel scope X.env).names.lookup x = some .cell ∨ (relabel scope X.env).names.lookup x = some .free) → x ∈ fvs
  isf : ∀ x ∈ fvs,(relabel scope X.env).names.lookup x = some .cell ∨ (relabel scope X.env).names.lookup x = some .free
  sub : ∀ x c,cl.lookup x = some c → ∃ y,X.env.cells.lookup y = some c
section
variable {X : Cx} {pins : List (Addr × Obj)} {σ : L2.St} {H H' : Hp} {s s' : Shared} {ts fvs : List Str} {scope : Scope} {cl : List (Str × Addr)} {fp : List Addr} {fs : List V}
theorem comp_inv {h₁ : Heap} {tk : Nat} (I : Inv X pins σ H s) (S : CompSc X ts fvs scope cl) (Cl : Clo cl fvs fs H s.heap) (hf : ∀ b ∈ fp,FpOk X pins H b) (ho : ∀ b ∈ fp,∃ o,s.heap.get? b = some o)
    (hns : h₁.Ns (s.heap.objs.size + 1) (fun _ => none)) (hD : h₁.get? s.heap.objs.size = some { cls:=.type "list",data:=.seq #[] }) (hk : ∀ b o,s.heap.get? b = some o → h₁.get? b = some o) :
    Inv (cxComp X (ts ++ fvs) scope cl fp (s.heap.objs.size + 1) s H) [] (List.replicate ts.length none ++ fs.map some) (upd H s.heap.objs.size (.lst [])) { s with heap:=h₁,toks:=tk }:=by
  have nst : ∀ b ∈ fp,b ∉ frs X.stack:=fun b hb z => (List.mem_cons.mp (I.stkSub b z)).elim (hf b hb).2.1 (hf b hb).2.2.1
  have hnD : H s.heap.objs.size = none:=I.hok.fresh (Nat.le_refl _)
  have lt : ∀ x c,cl.lookup x = some c → c < s.heap.objs.size:=fun x c e => by
    obtain ⟨⟨v,hv⟩,_⟩:=Cl.all x c e
    exact hv.lt
  refine ⟨⟨I.ok.mod,S.kind,I.ok.glob,I.ok.blt,Nat.le_succ _,Cl.inj,fun y hy => Cl.has y (S.vis y hy),fun y c z _ => absurd (show false = true from z) Bool.false_ne_true,I.ok.hd,I.ok.frames,.inl rfl,fun b hb => ?_,I.bs,Nat.le_trans I.ok.bsz I.sz,fun b o e hb => ?_,nst,I.stack,I.stkFree⟩,
    rfl,I.bare,Un.laid hk (Nat.le_refl _) hnD,⟨_,hns,fun i x v h1 h2 h3 => ?_⟩,fun y c h => ?_,?_,fun y c h => ?_,fun p hp => absurd (show p ∈ ([] : List (Addr × Obj)) from hp) (by simp),I.hok.laid hk (Nat.le_refl _) ?_,?_⟩
  · obtain ⟨o,e⟩:=ho b hb
    refine ⟨Nat.ne_of_lt (Nat.lt_succ_of_lt (Heap.lt_size e)),fun x c hc z => ?_⟩
    obtain ⟨y,hy⟩:=S.sub x c hc
    exact (hf b hb).2.2.2.2.1 y c hy z
  · have:=(I.bs b o e).2
    rcases (hf b hb).2.2.2.1 with z | z
    · exact I.ok.noex b o e z
    · exact absurd (Nat.lt_of_lt_of_le (Heap.lt_size (I.ok.bs b o e).1) z) (Nat.lt_irrefl _)
  · by_cases hi : i < ts.length
    · rw [List.getElem?_append_left (by simpa using hi),List.getElem?_replicate,if_pos hi] at h2
      cases h2
    · rw [List.getElem?_append_right (by simpa using hi)] at h2
      have h1' : (ts ++ fvs)[i]? = some x:=h1
      rw [List.getElem?_append_right (by omega)] at h1'
      simp only [List.length_replicate] at h2
      have h2' : fs[i - ts.length]? = some v:=by
        rw [List.getElem?_map] at h2
        cases e : fs[i - ts.length]? with
        | none => rw [e] at h2; cases h2
        | some a => rw [e] at h2; cases h2; rfl
      obtain ⟨c,u,hc,hcell,r⟩:=Cl.get _ x v h1' h2'
      exact ⟨u,r,.inr ⟨S.isf x (List.mem_of_getElem? h1'),c,hc,hcell.keeps hk⟩⟩
  · obtain ⟨⟨v,hv⟩,_⟩:=Cl.all y c h
    exact ⟨v,hv.keeps hk⟩
  · show upd H s.heap.objs.size (.lst []) (s.heap.objs.size + 1) = none
    rw [upd_ne (Nat.succ_ne_self _)]
    exact I.hok.fresh (Nat.le_succ _)
  · rw [upd_ne (Nat.ne_of_lt (lt y c h))]
    exact (Cl.all y c h).2
  · exact ⟨Nat.zero_le _,[],0,.nil,hD⟩
  · show (List.replicate ts.length none ++ fs.map some).length = (ts ++ fvs).length
    rw [List.length_append,List.length_replicate,List.length_map,List.length_append,Cl.len]
theorem comp_back {σ' : L2.St} {D C : Addr} {h' : Heap} (I : Inv X pins σ H s) (hC : s.heap.objs.size ≤ C) (hf : ∀ b ∈ fp,FpOk X pins H b) (J : Inv (cxComp X (ts ++ fvs) scope cl fp C s H) [] σ' H' s')
    (hs : ∀ b o,b ≠ C → s'.heap.get? b = some o → h'.get? b = some o) : Inv X pins σ H' { s' with heap:=h' }:=by
  have u : Un (frs X.stack) fp H H' s.heap s'.heap:=J.base
  have nC : ∀ b o,s.heap.get? b = some o → b ≠ C:=fun b o e => Nat.ne_of_lt (Nat.lt_of_lt_of_le (Heap.lt_size e) hC)
  have hCn : H' C = none:=J.free
  refine I.call' (s':={ s' with heap:=h' }) J.os ⟨fun b o e n h1 h2 => hs b o (nC b o e) (u.keep b o e n h1 h2),fun b o e n h1 h2 => ?_,u.free,fun b o e h2 => ?_,u.tups,u.frzs,u.tbls⟩
    (HOk.but J.hok fun b o hb e => hs b o (fun z => hb (by rw [z]; exact hCn)) e) J.bare fun b hb => ⟨(hf b hb).2.2.2.1,(hf b hb).2.1,(hf b hb).2.2.2.2.1,(hf b hb).2.2.2.2.2⟩
  · obtain ⟨sl,q⟩:=u.slot b o e n h1 h2
    exact ⟨sl,hs b _ (nC b o e) q⟩
  · obtain ⟨o',q⟩:=u.there b o e h2
    exact ⟨o',hs b _ (nC b o e) q⟩
end
def PIfs (X : Cx) (ifs : List Expr) (t : TT) : Prop :=
  ∀ (pins : List (Addr × Obj)) (s : Shared) (σ : L2.St) (H : Hp) (Q : Bool → Hp → Prop),Inv X pins σ H s → t σ H Q →
    wpAny (model X.prog X.w) X.A (forIn ifs true fun c r => if r = true then do let ok ← isTrue c X.env (eval c X.env); pure (ForInStep.yield ok) else pure (ForInStep.yield r)) (TP X pins σ Q) X.xe s
theorem pif_nil {X : Cx} : PIfs X [] (fun _ H Q => Q true H):=fun _ _ _ H _ I h => wpAny_tests_nil ⟨H,I,h⟩
theorem pif_one {X : Cx} {c : Expr} {t : TT} (h : PT X c t) : PIfs X [c] t:=fun pins s σ H Q I hq => wpAny_tests_one (h pins s σ H Q I hq)
def tComp (k : Nat) (js : List Nat) (wi : TI) (g : TG) (tc : TT) (te : TE) : TE:=fun σ H Q => wi σ H fun J H1 => ∃ fs : List V,js.map (fun j => σ[j]?) = fs.map (fun v => some (some v)) ∧ ∀ D,H1 D = none →
  ∃ W : Nat → Nat → List V → Hp → Prop,(∃ m,W 0 m [] (upd H1 D (.lst []))) ∧ ∀ i m ys H2,W i m ys H2 → H2 D = some (.lst ys) ∧ ys.length < sizeLine ∧
    ((J.stop i H2 ∧ Q (.ref D) H2) ∨ (J.go i H2 ∧ ∀ x H3,J.yld i H2 x H3 → g x (List.replicate k none ++ fs.map some) H3 fun σ1 H4 => σ1.length = k + fs.length ∧ σ1.drop k = fs.map some ∧ tc σ1 H4 fun c H5 => if c = true
      then te σ1 H5 fun y H6 => H6 D = some (.lst ys) ∧ ∃ m',m' < m ∧ W (i + 1) m' (ys ++ [y]) (upd H6 D (.lst (ys ++ [y])))
      else ∃ m',m' < m ∧ W (i + 1) m' ys H5))
theorem drop_get {α : Type} {l : List (Option α)} {k : Nat} {fs : List α} (h : l.drop k = fs.map some) (i : Nat) (v : α) (e : (List.replicate k none ++ fs.map some)[i]? = some (some v)) : l[i]? = some (some v):=by
  by_cases hi : i < k
  · rw [List.getElem?_append_left (by simpa using hi),List.getElem?_replicate,if_pos hi] at e
    cases e
  · rw [List.getElem?_append_right (by simpa using hi),List.length_replicate,← h,List.getElem?_drop] at e
    rw [show k + (i - k) = i by omega] at e
    exact e
section
variable {X : Cx} {pins : List (Addr × Obj)} {σ : L2.St} {H H' : Hp} {s s' : Shared} {ts fvs : List Str} {scope : Scope} {cl : List (Str × Addr)} {fp : List Addr} {fs : List V} {tg elt iter : Expr} {ifs : List Expr} {pos : Pos} {J : It} {it : Addr} {tn : Nat → Heap → Prop} {g : TG} {tc : TT} {te : TE}
theorem comp_block {E : Value → Shared → Prop} {Q : VK} {RR : Value → Addr → Result → Shared → Prop} (I : Inv X pins σ H s) (hcalm : X.calm = true) (S : CompSc X ts fvs scope cl) (Cl : Clo cl fvs fs H s.heap) (T : Turn X.prog X.w X.K tg J fp it tn) (t0 : tn 0 s.heap) (hf : ∀ b ∈ fp,FpOk X pins H b)
    (hg : ∀ fp C s H,PG (cxComp X (ts ++ fvs) scope cl fp C s H) tg g) (hi : ∀ fp C s H,PIfs (cxComp X (ts ++ fvs) scope cl fp C s H) ifs tc) (he : ∀ fp C s H,PE (cxComp X (ts ++ fvs) scope cl fp C s H) elt te)
    (W : Nat → Nat → List V → Hp → Prop) (w0 : ∃ m,W 0 m [] (upd H s.heap.objs.size (.lst [])))
    (hW : ∀ i m ys H2,W i m ys H2 → H2 s.heap.objs.size = some (.lst ys) ∧ ys.length < sizeLine ∧
      ((J.stop i H2 ∧ Q (.ref s.heap.objs.size) H2) ∨ (J.go i H2 ∧ ∀ x H3,J.yld i H2 x H3 → g x (List.replicate ts.length none ++ fs.map some) H3 fun σ1 H4 => σ1.length = ts.length + fs.length ∧ σ1.drop ts.length = fs.map some ∧ tc σ1 H4 fun c H5 => if c = true
        then te σ1 H5 fun y H6 => H6 s.heap.objs.size = some (.lst ys) ∧ ∃ m',m' < m ∧ W (i + 1) m' (ys ++ [y]) (upd H6 s.heap.objs.size (.lst (ys ++ [y])))
        else ∃ m',m' < m ∧ W (i + 1) m' ys H5)))
    (hRR : ∀ σ' H' s',Inv (cxComp X (ts ++ fvs) scope cl fp (s.heap.objs.size + 1) s H) [] σ' H' s' → Q (.ref s.heap.objs.size) H' → RR (.ref s.heap.objs.size) (s.heap.objs.size + 1) (.ok .next) s') :
    wpAny (model X.prog X.w) X.A (newList []) (fun acc s₃ => wpAny (model X.prog X.w) X.A (newFunctionEnv scope X.env.globals cl [] X.env.qual none .none (some X.env)) (fun cenv s₄ =>
      codeAny (model X.prog X.w) X.A (.compStart (.ListComp elt [⟨tg,iter,ifs,0⟩] scope pos) 0 (.ref it) acc { cenv with scope:=relabel scope X.env }) (RR acc cenv.locals) s₄) E s₃) E s:=by
  refine wpAny_newList (wpAny_newFunctionEnv S.nocell (by intro y hy; simp at hy) (fun h₁ hns hsb => ?_) S.kind) (Nat.zero_le _)
  have zC : (s.heap.push { cls:=.type "list",dict:=none,data:=.seq ([] : List Value).toArray }).objs.size = s.heap.objs.size + 1:=Heap.size_push _ _
  dsimp only at hns hsb ⊢
  rw [zC] at hns hsb ⊢
  have hk : ∀ b o,s.heap.get? b = some o → h₁.get? b = some o:=fun b o e => hsb.extBut b o (Nat.ne_of_lt (Nat.lt_succ_of_lt (Heap.lt_size e))) (Heap.get?_push_of_some _ (Heap.get?_push_of_some _ e))
  have hD : h₁.get? s.heap.objs.size = some { cls:=.type "list",data:=.seq #[] }:=hsb.extBut _ _ (Nat.ne_of_lt (Nat.lt_succ_self _)) (Heap.get?_push_of_some _ (Heap.get?_push_size _ rfl))
  have t1 : tn 0 h₁:=T.keep _ _ _ t0 fun b _ o e => hk b o e
  have I0:=comp_inv (tk:=s.toks + ([] : List (Str × Value)).length) I S Cl hf (fun b hb => let ⟨o,e,_⟩:=T.obj _ _ t0 b hb; ⟨o,e⟩) hns hD hk
  have loop : ∀ s₃ : Shared,s₃ = { s with heap:=h₁,toks:=s.toks + ([] : List (Str × Value)).length } →
      codeAny (model X.prog X.w) X.A (.compLoop (.ListComp elt [⟨tg,iter,ifs,0⟩] scope pos) 0 (.ref it) (.ref s.heap.objs.size) (compEnvC scope cl (s.heap.objs.size + 1) X.env)) (RR (.ref s.heap.objs.size) (s.heap.objs.size + 1)) s₃:=by
    rintro s₃ rfl
    obtain ⟨m0,w0⟩:=w0
    refine comp_loop (fun n s' => ∃ i ys H2,Inv (cxComp X (ts ++ fvs) scope cl fp (s.heap.objs.size + 1) s H) [] (List.replicate ts.length none ++ fs.map some) H2 s' ∧ tn i s'.heap ∧ (∀ b ∈ fp,H2 b = none) ∧ W i n ys H2) ?_ m0
      ⟨0,[],_,I0,t1,fun b hb => ?_,w0⟩
    · rintro n s1 ⟨i,ys,H2,J1,tn1,n1,w1⟩
      have fpo : ∀ {H3 : Hp},(∀ b ∈ fp,H3 b = none) → ∀ b ∈ fp,FpOk (cxComp X (ts ++ fvs) scope cl fp (s.heap.objs.size + 1) s H) [] H3 b:=fun hn b hb =>
        ⟨hn b hb,(J1.ok.exf b hb).1,J1.ok.exfs b hb,.inl hb,(J1.ok.exf b hb).2,fun p hp => absurd (show p ∈ ([] : List (Addr × Obj)) from hp) (by simp)⟩
      obtain ⟨hD2,hz,step⟩:=hW i n ys H2 w1
      rcases step with ⟨stop,q⟩ | ⟨go,step⟩
      · refine wpAny_mono (T.done (cxComp X (ts ++ fvs) scope cl fp (s.heap.objs.size + 1) s H) rfl rfl rfl hcalm i [] s1 _ H2 (fun _ _ => False) J1 (fpo n1) tn1 stop) (fun r s2 h2 => ?_) fun _ _ z => z
        obtain ⟨rfl,J2⟩:=h2
        exact hRR _ H2 s2 J2 q
      · refine wpAny_mono (T.item (cxComp X (ts ++ fvs) scope cl fp (s.heap.objs.size + 1) s H) rfl rfl rfl hcalm i [] s1 _ H2 (fun _ _ => False) J1 (fpo n1) tn1 go) (fun r s2 h2 => ?_) fun _ _ z => z
        obtain ⟨u,rfl,h2⟩:=h2
        refine wpAny_mono h2 (fun _ s3 h3 => ?_) fun _ _ z => z
        obtain ⟨x,H3,J3,rx,y3,tn3,n3⟩:=h3
        have J3':=J3.pinned (fpo n3) (T.obj _ _ tn3)
        refine thn (hg fp _ s H _ s3 _ H3 x u _ J3' rx (step x H3 y3)) fun _ s4 ⟨σ1,H4,J4,l4,d4,q4⟩ => ?_
        refine thn (hi fp _ s H _ s4 σ1 H4 _ J4 q4) fun c s5 ⟨H5,J5,q5⟩ => ?_
        have again : ∀ {H7 : Hp} {s7 : Shared} {ys7 : List V} {m7 : Nat},Inv (cxComp X (ts ++ fvs) scope cl fp (s.heap.objs.size + 1) s H) ([] ++ pinsAt fp s3.heap) σ1 H7 s7 → m7 < n → W (i + 1) m7 ys7 H7 →
            ∃ m,m < n ∧ ∃ i ys H2,Inv (cxComp X (ts ++ fvs) scope cl fp (s.heap.objs.size + 1) s H) [] (List.replicate ts.length none ++ fs.map some) H2 s7 ∧ tn i s7.heap ∧ (∀ b ∈ fp,H2 b = none) ∧ W i m ys H2:=fun {H7 s7 ys7 m7} J7 hm w7 => by
          refine ⟨m7,hm,i + 1,ys7,H7,J7.unpinned.weak (by rw [l4,List.length_append,List.length_replicate,List.length_map]) (drop_get d4),T.keep _ _ _ tn3 fun b hb o e => (J7.pin (b,o) (List.mem_append_right _ (List.mem_append_right _ (mem_pinsAt hb e)))).1,fun b hb => ?_,w7⟩
          obtain ⟨o,e,_⟩:=T.obj _ _ tn3 b hb
          exact (J7.pin (b,o) (List.mem_append_right _ (List.mem_append_right _ (mem_pinsAt hb e)))).2.1
        cases c with
        | false =>
          rw [if_neg Bool.false_ne_true] at q5 ⊢
          obtain ⟨m7,hm,w7⟩:=q5
          exact again J5 hm w7
        | true =>
          rw [if_pos rfl] at q5 ⊢
          refine thn (he fp _ s H _ s5 σ1 H5 _ J5 q5) fun v s6 ⟨y,H6,J6,ry,hD6,m7,hm,w7⟩ => ?_
          refine thn (mt_append _ s6 σ1 H6 (.ref s.heap.objs.size) [y] (.ref s.heap.objs.size) [v] (fun _ H7 => W (i + 1) m7 (ys ++ [y]) H7) J6 rfl (.cons ry .nil) ⟨_,ys,y,rfl,rfl,hD6,hz,w7⟩) fun _ s7 ⟨_,H7,J7,_,w7⟩ => ?_
          exact again J7 hm w7
    · rw [upd_ne (Nat.ne_of_lt (by obtain ⟨o,e,_⟩:=T.obj _ _ t0 b hb; exact Heap.lt_size e))]
      exact (hf b hb).1
  exact codeAny_compStart_list (loop _ rfl) (T.self _ 0 _ _ _ t1 (loop _ rfl))
theorem clo_of {js : List Nat} (I : Inv X pins σ H s) (hsub : ∀ x c,cl.lookup x = some c → ∃ y,X.env.cells.lookup y = some c) (hhas : ∀ x ∈ fvs,∃ c,cl.lookup x = some c ∧ X.env.cells.lookup x = some c)
    (hinj : ∀ x y c,cl.lookup x = some c → cl.lookup y = some c → x = y) (hk : ∀ x ∈ fvs,X.env.kindOf x = some .cell ∨ X.env.kindOf x = some .free) (hj : js.map (fun j => X.N[j]?) = fvs.map some) (hv : js.map (fun j => σ[j]?) = fs.map (fun v => some (some v))) : Clo cl fvs fs H s.heap:=by
  have l1 : js.length = fvs.length:=by simpa using congrArg List.length hj
  have l2 : js.length = fs.length:=by simpa using congrArg List.length hv
  refine ⟨fun i x v h1 h2 => ?_,fun x c e => ?_,hinj,fun x hx => let ⟨c,e,_⟩:=hhas x hx; ⟨c,e⟩,by omega⟩
  · obtain ⟨c,e1,e2⟩:=hhas x (List.mem_of_getElem? h1)
    have hi : i < js.length:=by rw [l1]; exact (List.getElem?_eq_some_iff.mp h1).1
    have a1 : X.N[js[i]]? = some x:=by
      have:=congrArg (fun l => l[i]?) hj
      simp only [List.getElem?_map,List.getElem?_eq_getElem hi,h1,Option.map_some] at this
      exact Option.some.inj this
    have a2 : σ[js[i]]? = some (some v):=by
      have:=congrArg (fun l => l[i]?) hv
      simp only [List.getElem?_map,List.getElem?_eq_getElem hi,h2,Option.map_some] at this
      exact Option.some.inj this
    obtain ⟨m,hn,hl⟩:=I.loc
    obtain ⟨u,r,l⟩:=hl _ x v a1 a2 (by rcases hk x (List.mem_of_getElem? h1) with z | z; exact .inr (.inl z); exact .inr (.inr z))
    rcases l with ⟨k,_⟩ | ⟨k,c',e3,q⟩
    · rcases hk x (List.mem_of_getElem? h1) with z | z <;> rw [k] at z <;> cases z
    · rw [e2] at e3; cases e3
      exact ⟨c,u,e1,q,r⟩
  · obtain ⟨y,hy⟩:=hsub x c e
    exact ⟨I.cell y c hy,I.freeC y c hy⟩
end
end L3

namespace L3
open PySem PySem.Spec PyProof.Rows L2
structure LamSite (X : Cx) (P c : Addr) (p : Str) (fvs : List Str) (js : List Nat) (scope : Scope) (params : Arguments) (cl : List (Str × Addr)) : Prop where
  sc : LamSc p fvs scope
  code : X.env.code = .ref c
  hd : PySem.W.CodeHd X.base c P
  bm : BMod X.mg X.base
  clos : closureFor scope X.env = pure cl
  dfl : defaultsOf params X.env = ([],[])
  bind : ∀ (body : Expr) (q : Str) (pm cd ctv u : Value),bindArgs (PySem.W.kla_fn "<lambda>" q params body scope cl pm cd ctv) ⟨[u],[]⟩ = pure [(p,u)]
  has : ∀ x ∈ fvs,∃ c,cl.lookup x = some c ∧ X.env.cells.lookup x = some c
  inj : ∀ x y c,cl.lookup x = some c → cl.lookup y = some c → x = y
  sub : ∀ x c,cl.lookup x = some c → ∃ y,X.env.cells.lookup y = some c
  knd : ∀ x ∈ fvs,X.env.kindOf x = some .cell ∨ X.env.kindOf x = some .free
  slots : js.map (fun j => X.N[j]?) = fvs.map some
def KeyRd (P : Addr) (tb : TE) (fs xs : List V) (ky : Nat → Int × Int) (H : Hp) : Prop :=
  ∀ (i : Nat) (v : V) (H2 : Hp),xs[i]? = some v → Kp P H H2 → tb (some v :: fs.map some) H2 fun kv H3 => ∃ p,kv = .ref p ∧ Same H2 H3 ∧ H3 p = some (.tup [.int (ky i).1,.int (ky i).2])
section
variable {X : Cx} {pins : List (Addr × Obj)} {σ : L2.St} {H H1 : Hp} {s s' : Shared} {P c : Addr} {p : Str} {fvs : List Str} {js : List Nat} {scope : Scope} {params : Arguments} {cl : List (Str × Addr)} {body : Expr} {tb : TE} {k : Nat}
theorem key_turn {A : Around} {f c' : Addr} {ctv pm : Value} {fs xs : List V} {ky : Nat → Int × Int} {q : Str} (L : LamSite X P c p fvs js scope params cl) (hr : Room (k + 1) A) (hA : ∀ s1 H2,Env0 X.prog X.w X.K X.mg X.base X.A X.stack s1 H2 → Env0 X.prog X.w X.K X.mg X.base A X.stack s1 H2)
    (I : Inv X pins σ H1 s') (hv : js.map (fun j => σ[j]?) = fs.map (fun v => some (some v))) (hf : s'.heap.get? f = some (PySem.W.kla_obj "<lambda>" q params body scope cl pm c' ctv)) (nf : H1 f = none) (fL : f ≠ X.env.locals) (fF : f ∉ X.fs) (hc' : H1 c' = some (CodeAt c' q))
    (hb : ∀ (f : Addr) (c' : Addr) (A' : Around) (s'' : Shared) (H'' : Hp),Room k (A'.deeper (PySem.W.envX q scope s''.heap.objs.size f (.ref c') cl)) → PE (cxLam X.prog X.w X.K X.mg X.base (p :: fvs) q scope f (.ref c') cl A' X.stack s'' H'') body tb)
    (hk : KeyRd P tb fs xs ky H1) : KeyTurn X pins σ H1 s' A f xs ky:=by
  intro i x u s1 H2 hx ru J st sm
  have e0:=hA s1 H2 J.env0
  have hf1:=st.keep f _ fL fF hf nf
  have hcd : s1.heap.CodeRec (.ref c') q:=(show ObjOk X.prog X.w H2 s1.heap c' (CodeAt c' q) from J.hok c' _ (sm _ _ hc')).1
  refine wpAny_call (codeAny_mono (lam_run (CX:=CX0) (E:=E0) hr e0 hf1 hcd L.sc (clo_of J L.sub L.has L.inj L.knd L.slots hv) ru (L.bind _ _ _ _ _ _) (hb f c' A s1 H2 (hr.deeper _)) (hk i x H2 hx (Kp.of_same sm))) fun r s2 h2 => ?_)
  cases r with
  | error e => exact h2
  | ok fl =>
    cases fl with
    | ret u => exact h2
    | next => exact h2
    | brk => exact h2
    | cont => exact h2
theorem KeyRd.kp {fs xs : List V} {ky : Nat → Int × Int} {H H1 : Hp} (h : KeyRd P tb fs xs ky H) (e : Kp P H H1) : KeyRd P tb fs xs ky H1:=fun i v H2 hx k2 => h i v H2 hx (e.trans k2)
theorem one_of {vs : List V} {R : V → Prop} (h : match vs with | [x] => R x | _ => False) : ∃ x,vs = [x] ∧ R x:=by
  match vs,h with
  | [x],h => exact ⟨x,rfl,h⟩
def MinR (K : PySem.W.Frag) (P : Addr) (lpos : Pos) (q : Str) (js : List Nat) (tb : TE) (σ : L2.St) (Q : VK) (x : V) (H1 : Hp) : Prop:=∃ a xs fs ky,x = .ref a ∧ SqL K H1 a xs ∧ js.map (fun j => σ[j]?) = fs.map (fun v => some (some v)) ∧ Tab H1 P lpos q ∧ Ord xs.length (klt ky) ∧ KeyRd P tb fs xs ky H1 ∧
  (∀ (H2 : Hp) (i : Nat) (x : V),Kp P H1 H2 → Tab H2 P lpos q → xs[i]? = some x → Least ky xs.length i → Q x H2) ∧ (∀ H2,Kp P H1 H2 → Tab H2 P lpos q → xs = [] → Q .non H2)
def tMinK (K : PySem.W.Frag) (P : Addr) (lpos : Pos) (q : Str) (js : List Nat) (ta tb : TE) : TE:=fun σ H Q => ta σ H fun x H1 => MinR K P lpos q js tb σ Q x H1
theorem pe_minK {e : Expr} {te : TE} {lpos kpos kpos2 np pos cpos : Pos} {j : Nat} (hcalm : X.calm = true) (hr : Room (k + 2) X.A) (hm : X.mg "min" = none) (he : PE X e te) (L : LamSite X P c p fvs js scope params cl)
    (hb : ∀ (f : Addr) (c' : Addr) (A' : Around) (s'' : Shared) (H'' : Hp),Room k (A'.deeper (PySem.W.envX (X.env.qual ++ "<lambda>") scope s''.heap.objs.size f (.ref c') cl)) → PE (cxLam X.prog X.w X.K X.mg X.base (p :: fvs) (X.env.qual ++ "<lambda>") scope f (.ref c') cl A' X.stack s'' H'') body tb)
    (hg : Gl X "min" := by rfl) (hst : starEach [e] X.env = (false,eval e X.env) :: starEach [] X.env:=by rfl) :
    PE X (.Call (.Name "min" np) [e] [⟨some "key",.Lambda params body scope lpos,kpos⟩,⟨some "default",.Constant .none j cpos,kpos2⟩] pos) (tMinK X.K P lpos (X.env.qual ++ "<lambda>") js te tb):=by
  intro pins s σ H Q I h
  refine wpAny_Call_Name_kw (ld_blt I hg hm boot_min ?_)
  refine callWith_builtin_kwB (by rw [hst]; rfl) rfl (evalArgs_kw2 rfl ?_ hst)
  refine thn (pa_cons he pa_nil hst pos pins s σ H (fun vs H1 => match vs with | [x] => MinR X.K P lpos (X.env.qual ++ "<lambda>") js tb σ Q x H1 | _ => False) I h) fun us s1 ⟨vs,H1,I1,r1,q1⟩ => ?_
  obtain ⟨x,rfl,a,xs,fs,ky,rfl,hq,hv,hT,hord,hk,q,q0⟩:=one_of q1
  obtain ⟨u,rfl,ru⟩:=vals1 r1
  cases ru
  show wpAny _ _ (evalAll [(do let v ← eval (.Lambda params body scope lpos) X.env; standAt pos; pure v),(do let v ← eval (.Constant .none j cpos) X.env; standAt pos; pure v)]) _ _ s1
  refine wpAny_evalAll_cons (wpAny_bind (lam_make I1 L.hd L.bm L.code L.clos L.dfl hT fun f c' ctv pm s2 H2 I2 st2 kp2 hT2 hf nf fsz hc' => wpAny_bind (wpAny_standAt (wpAny_pure ?_))))
  refine wpAny_evalAll_cons (wpAny_bind (Constant_none (wpAny_bind (wpAny_standAt (wpAny_pure (wpAny_evalAll_nil ?_))))))
  have fL : f ≠ X.env.locals:=Nat.ne_of_gt (Nat.lt_of_lt_of_le I1.lt fsz)
  have fF : f ∉ X.fs:=I1.nofs fsz
  have hr1 : Room (k + 1) X.A.in1:=Room.in1 (k:=k + 1) hr
  exact min_run I2 (I1.ok.hd hcalm) (hu_of hr) (kp2.seq hT hq) hord (key_turn L hr1 (fun s1 H2 e => e.in1) I2 hv hf nf fL fF hc' hb (hk.kp kp2)) (fun i x H3 sm hx hl => q H3 i x (kp2.trans (Kp.of_same sm)) (hT2.same sm) hx hl)
    fun H3 sm e => q0 H3 (kp2.trans (Kp.of_same sm)) (hT2.same sm) e
end

structure CompSite (X : Cx) (ts fvs : List Str) (js : List Nat) (scope : Scope) (cl : List (Str × Addr)) : Prop where
  sc : CompSc X ts fvs scope cl
  has : ∀ x ∈ fvs,∃ c,cl.lookup x = some c ∧ X.env.cells.lookup x = some c
  inj : ∀ x y c,cl.lookup x = some c → cl.lookup y = some c → x = y
  knd : ∀ x ∈ fvs,X.env.kindOf x = some .cell ∨ X.env.kindOf x = some .free
  slots : js.map (fun j => X.N[j]?) = fvs.map some
section
variable {X : Cx} {ts fvs : List Str} {js : List Nat} {scope : Scope} {cl : List (Str × Addr)} {tg elt iter : Expr} {ifs : List Expr} {pos : Pos} {wi : TI} {g : TG} {tc : TT} {te : TE}
theorem pe_comp (hcalm : X.calm = true) (S : CompSite X ts fvs js scope cl) (hi : PI X tg iter wi) (hg : ∀ fp C s H,PG (cxComp X (ts ++ fvs) scope cl fp C s H) tg g) (hif : ∀ fp C s H,PIfs (cxComp X (ts ++ fvs) scope cl fp C s H) ifs tc)
    (he : ∀ fp C s H,PE (cxComp X (ts ++ fvs) scope cl fp C s H) elt te) (hs : ∀ x,foldedSetIterable iter X.env x = pure x:=by intro _; rfl) :
    PE X (.ListComp elt [⟨tg,iter,ifs,0⟩] scope pos) (tComp ts.length js wi g tc te):=by
  intro pins s σ H Q I h
  rw [eval_ListComp]
  refine wpAny_comprehension_free (use:=none) rfl hs S.sc.clos S.sc.kind S.sc.names (thn (hi pins s σ H _ I h) fun xv s1 h1 => thn h1 fun itv s2 h2 => ?_)
  obtain ⟨it,fp,tn,J,H2,rfl,I2,T,st2,f2,fs,hfs,hD⟩:=h2
  obtain ⟨W,w0,hW⟩:=hD s2.heap.objs.size (I2.hok.fresh (Nat.le_refl _))
  refine comp_block (RR:=fun acc C => compPost (model X.prog X.w) X.A X.xe none (EP X pins σ Q) acc C) (Q:=Q) I2 hcalm S.sc (clo_of I2 S.sc.sub S.has S.inj S.knd S.slots hfs) T st2 f2 hg hif he W w0 hW fun σ' H' s' J' q => ?_
  obtain ⟨m,hn,_⟩:=J'.loc
  exact ⟨m,hn,fun h' hs' => ⟨.ref _,H',comp_back (D:=s2.heap.objs.size) I2 (Nat.le_succ _) f2 J' (fun b o hb e => hs'.extBut b o hb e),rfl,q⟩⟩
end
end L3

namespace L3
open PySem PySem.Spec PyProof.Rows L2
def TabsAre (tabs : List (Addr × Addr)) (H : Hp) : Prop:=∀ q ∈ tabs,H q.2 = some (.tbl #[])
theorem law_callT {P : Program} {w : World} {K : PySem.W.Frag} {mg mb : Str → Option Value} {CX : Heap → CXT} {k : Nat} {fa a : Addr} {nm x : Str} {sp : Sp} {s₁ : Shared} {vs : List Value} {ns : List Int} {tabs : List (Addr × Addr)}
    (KX : K.In s₁.heap) (hns : s₁.heap.Ns mainGlobals mg) (hb : s₁.heap.Ns builtinsNs mb) (hbb : ∀ x : Str,x ≠ "__name__" → mb x = bootBuiltins x) (hlim : s₁.heap.NoLimit) (hg : s₁.gens = #[])
    (ha : s₁.heap.get? a = some { cls:=.type "list",data:=.seq vs.toArray }) (hi : IntsAre vs ns) (hl : ns.length ≤ sizeLine) (hr : Room k callerA)
    (hT : PySem.W.TabsAt tabs s₁.heap) (hK : PySem.W.noTabs K = true) (hbm : BMod mg s₁.heap)
    (F : ∀ base : Heap,K.In base → base.Ns mainGlobals mg → BMod mg base → (∀ q ∈ tabs,PySem.W.CodeHd base q.1 q.2) → Fu P w K mg base (CX base) k nm [x] sp) (hmg : mg nm = some (.ref fa))
    (hsp : ∀ H : Hp,SqL K H a (ns.map V.int) → TabsAre tabs H → sp [.ref a] H (fun v _ => v = .bl true) fun _ _ _ => False)
    (hCX : ∀ base H e s',CX base [] H s₁ (fun _ _ _ => False) e s' → False) :
    codeAny (model P w) callerA (.call (.ref fa) ⟨[.ref a],[]⟩) (fun r s' => r = .ok (.ret (.bool true)) ∧ OldK s₁.heap s'.heap ∧ s'.os = s₁.os ∧ AllBare s'.gens) s₁:=by
  have rv:=vals_ints hi
  have lenV:=hi.length
  have aT : a ∉ tabs.map (·.2):=fun z => by
    obtain ⟨q,hq,e⟩:=List.mem_map.mp z
    have:=(hT q hq).2
    rw [e,ha] at this
    cases this
  have core : ∀ H : Hp,(∀ b,b ∈ tabs.map (·.2) → H b = some (.tbl #[])) → (∀ b,b ∉ tabs.map (·.2) → H b = none ∨ (b = a ∧ K.lookup a = none ∧ H b = some (.frz { cls:=.type "list",data:=.seq vs.toArray } (.lst (ns.map V.int))))) → SqL K H a (ns.map V.int) →
      codeAny (model P w) callerA (.call (.ref fa) ⟨[.ref a],[]⟩) (fun r s' => r = .ok (.ret (.bool true)) ∧ OldK s₁.heap s'.heap ∧ s'.os = s₁.os ∧ AllBare s'.gens) s₁:=by
    intro H h1 h2 hS
    have hok : HOk P w H s₁.heap:=fun b u e => by
      by_cases hbt : b ∈ tabs.map (·.2)
      · rw [h1 b hbt] at e; cases e
        obtain ⟨q,hq,rfl⟩:=List.mem_map.mp hbt
        exact (hT q hq).2
      · rcases h2 b hbt with z | ⟨rfl,_,z⟩
        · rw [z] at e; cases e
        · rw [z] at e; cases e
          exact ⟨ha,by rw [List.length_map]; exact hl,vs,_,rv,ha⟩
    have free : ∀ {b : Addr} {o : Obj},s₁.heap.get? b = some o → o ≠ PySem.W.tabObj #[] → (∀ its n,o.data = .seq its n → b = a → K.lookup a ≠ none) → H b = none:=fun {b o} e nt ns' => by
      by_cases hbt : b ∈ tabs.map (·.2)
      · obtain ⟨q,hq,e2⟩:=List.mem_map.mp hbt
        have:=(hT q hq).2
        rw [e2,e] at this
        exact absurd (Option.some.inj this) nt
      · rcases h2 b hbt with z | ⟨eb,ek,z⟩
        · exact z
        · subst eb
          rw [ha] at e; cases e
          exact absurd ek (ns' _ _ rfl rfl)
    have nsK : ∀ {b : Addr} {m : Str → Option Value},s₁.heap.Ns b m → (hidT s₁.heap H).Ns b m:=fun {b m} ⟨o,es,ep,e,d,r⟩ =>
      ⟨o,es,ep,hidT_get e (free e (fun z => by rw [z] at d; cases d) fun its n q _ => by rw [d] at q; cases q),d,r⟩
    have hKb : K.In (hidT s₁.heap H):=fun b o e => hidT_get (KX b o e) (free (KX b o e) (fun z => by
      have q:=List.all_eq_true.mp hK (b,o) (PySem.W.mem_of_lookupK e)
      subst z
      exact absurd (show false = true from q) Bool.false_ne_true) fun its n _ eb z => by rw [eb,z] at e; cases e)
    have hbm' : BMod mg (hidT s₁.heap H):=by
      obtain ⟨bm,ob,b1,b2,b3,b4,b5,b6⟩:=hbm
      exact ⟨bm,ob,b1,b2,hidT_get b3 (free b3 (fun z => by rw [z] at b4; cases b4) fun its n q _ => by rw [b6] at q; cases q),b4,b5,b6⟩
    have hcd : ∀ q ∈ tabs,PySem.W.CodeHd (hidT s₁.heap H) q.1 q.2:=fun q hq => by
      obtain ⟨o,vs',file,tf,flags,tg,inF,text,tt,e1,r1,r2,r⟩:=(hT q hq).1
      exact ⟨o,vs',file,tf,flags,tg,inF,text,tt,hidT_get e1 (free e1 (fun z => by rw [z] at r1; cases r1) fun its n q' _ => by rw [r2] at q'; cases q'),r1,r2,r⟩
    have hM : Mod K mg (hidT s₁.heap H):=⟨hKb,nsK hns,⟨mb,nsK hb,hbb⟩,let ⟨mc,h1,h2⟩:=hlim; ⟨mc,nsK h1,h2⟩⟩
    have e0 : Env0 P w K mg (hidT s₁.heap H) callerA [] s₁ H:=⟨rfl,hM,fun b o e => of_hidT e,Nat.le_of_eq (hidT_size _ _),trivial,fun b hb => absurd (show b ∈ ([] : List Addr) from hb) (by simp),hok,.of_eq hg⟩
    obtain ⟨f,fd,FF,hm,_,hbn⟩:=(F _ hKb (nsK hns) hbm' hcd).ex
    rw [hmg] at hm
    cases hm
    refine codeAny_mono (FF.run callerA [] s₁ H ⟨[.ref a],[]⟩ [.ref a] [.ref a] _ _ hr e0 (hbn s₁ [.ref a] KX rfl) (.cons rfl .nil) (hsp H hS fun q hq => h1 _ (List.mem_map_of_mem hq))) fun r s' h => ?_
    cases r with
    | error e => exact (hCX _ H e s' h).elim
    | ok fl =>
      cases fl with
      | next => exact False.elim h
      | brk => exact False.elim h
      | cont => exact False.elim h
      | ret u =>
        obtain ⟨v,H',os,bare,un,hok',r',q⟩:=h
        have q' : v = .bl true:=q
        subst q'
        obtain rfl : u = Value.bool true:=r'
        have tb : ∀ b,b ∈ tabs.map (·.2) → ∃ ps,s'.heap.get? b = some (PySem.W.tabObj ps):=fun b hbt => by
          obtain ⟨more,e⟩:=un.tbls b _ (h1 b hbt)
          exact ⟨_,hok' b _ e⟩
        have kp : ∀ b o,b ∉ tabs.map (·.2) → s₁.heap.get? b = some o → s'.heap.get? b = some o:=fun b o hbt e => by
          rcases h2 b hbt with z | ⟨rfl,_,z⟩
          · exact un.keep b o e z (by intro z; exact absurd (show b ∈ ([] : List Addr) from z) (by simp)) (by simp)
          · obtain ⟨e1,_⟩:=hok b _ z
            obtain ⟨e2,_⟩:=hok' b _ (un.frzs b _ _ z)
            rw [e] at e1; cases e1
            exact e2
        refine ⟨rfl,⟨fun b o e => ?_,fun b o e => ?_⟩,os,bare⟩
        · by_cases hbt : b ∈ tabs.map (·.2)
          · obtain ⟨ps,hp⟩:=tb b hbt
            obtain ⟨q,hq,rfl⟩:=List.mem_map.mp hbt
            have e2:=(hT q hq).2
            rw [e] at e2; cases e2
            exact .inr (.inl ⟨((hT q hq).1.tab (hT q hq).2).isCodeTable,rfl,#[],ps,rfl,by rw [Array.empty_append]; exact hp⟩)
          · exact .inl (kp b o hbt e)
        · by_cases hbt : b ∈ tabs.map (·.2)
          · obtain ⟨ps,hp⟩:=tb b hbt
            exact ⟨_,hp⟩
          · exact ⟨o,kp b o hbt e⟩
  cases hk : K.lookup a with
  | some o =>
    have e:=KX a o hk
    rw [ha] at e
    cases e
    refine core (fun b => if b ∈ tabs.map (·.2) then some (.tbl #[]) else none) (fun b hbt => if_pos hbt) (fun b hbt => .inl (if_neg hbt)) (.inr ⟨_,vs.toArray,_,hk,rfl,rfl,rfl,by rw [List.size_toArray,lenV]; exact hl,by simpa using rv⟩)
  | none =>
    refine core (fun b => if b ∈ tabs.map (·.2) then some (.tbl #[]) else if b = a then some (.frz { cls:=.type "list",data:=.seq vs.toArray } (.lst (ns.map V.int))) else none) (fun b hbt => if_pos hbt) (fun b hbt => ?_)
      (.inl (.inr ⟨{ cls:=.type "list",data:=.seq vs.toArray },by dsimp only; rw [if_neg aT,if_pos rfl]⟩))
    by_cases hba : b = a
    · exact .inr ⟨hba,hk,by rw [if_neg hbt,if_pos hba]⟩
    · exact .inl (by rw [if_neg hbt,if_neg hba])
theorem walk_ofT {l : PySem.W.OpenLaw} {n k : Nat} {q : Program} {loose : List Str} {XP : (Str → Option Value) → Heap → Prop} {YP : World → Heap → Prop} {d : DefRec} {K : Params → PySem.W.Frag} {CX : World → Heap → CXT} {sp : PySem.W.Frag → Sp} {x : Str} {tabs : List (Addr × Addr)}
    (hn : l.most = some n) (hn2 : n ≤ sizeLine) (hdf : d.params.defaults = []) (hr : Room k callerA)
    (hY : ∀ (w : World) (h : Heap),YP w h → (K w.params).In h) (hT : ∀ (w : World) (h : Heap),YP w h → PySem.W.TabsAt tabs h) (hK : ∀ p : Params,PySem.W.noTabs (K p) = true)
    (F : ∀ (w : World) (mg : Str → Option Value) (h : Heap),(K w.params).In h → h.Ns mainGlobals mg → ∀ base : Heap,(K w.params).In base → base.Ns mainGlobals mg → BMod mg base → (∀ q ∈ tabs,PySem.W.CodeHd base q.1 q.2) →
      Fu l.prog w (K w.params) mg base (CX w base) k d.name [x] (sp (K w.params)))
    (hsp : ∀ (K : PySem.W.Frag) (H : Hp) (a : Addr) (ns : List Int),ns.length ≤ n → SqL K H a (ns.map V.int) → TabsAre tabs H → sp K [.ref a] H (fun v _ => v = .bl true) fun _ _ _ => False)
    (hCX : ∀ (w : World) (base : Heap) (H : Hp) (s : Shared) (e : Value) (s' : Shared),CX w base [] H s (fun _ _ _ => False) e s' → False) :
    PySem.W.WalkO q loose XP YP l.row.toRowW d [] (fun f vs => PySem.call f vs):=by
  refine Att.attach_call hn hdf fun w s₀ s₁ mg mb fa o pm cd doc a vs ns G Y ho hd hcd hmg hobj hints hlen hg => ?_
  have KX:=hY w _ Y
  exact law_callT (CX:=CX w) KX G.T.g G.T.b G.T.builtins G.T.nolimit hg hobj hints (Nat.le_trans hlen hn2) hr (hT w _ Y) (hK _) G.T.bmain (F w mg _ KX G.T.g) hmg (fun H hS hT' => hsp _ H a ns hlen hS hT') fun base H e s' => hCX w base H s₁ e s'
end L3

namespace L3
open PySem PySem.Spec PyProof.Rows L2
structure Def (K : PySem.W.Frag) (mg : Str → Option Value) (x : Str) (st : Stmt) (ps : List Str) : Prop where
  ex : ∃ f fd,Fun K x x st f fd ∧ mg x = some (.ref f) ∧ Binds K fd ps []
structure DefC (K : PySem.W.Frag) (mg : Str → Option Value) (x : Str) (st : Stmt) (ps : List Str) (c : Addr) : Prop where
  ex : ∃ (f : Addr) (oc : Value) (od an : Option Addr) (osl : Array (Option Value)) (kV doc pm ct : Value),K.lookup f = some ⟨oc,od,.func (PySem.W.fnOf x x (defArgs st) (defBody st) (defScope st) .none kV doc pm an (.ref c) ct),osl⟩ ∧
    PySem.W.codeIn K (.ref c) x = true ∧ PySem.W.keepIn K (.ref f) = true ∧ mg x = some (.ref f) ∧ Binds K (PySem.W.fnOf x x (defArgs st) (defBody st) (defScope st) .none kV doc pm an (.ref c) ct) ps []
section
variable {P : Program} {w : World} {K : PySem.W.Frag} {mg : Str → Option Value} {base : Heap} {x : Str} {st : Stmt} {N ps : List Str} {k : Nat} {sp : Sp}
theorem Def.fu (D : Def K mg x st ps) (S : FnScope N ps (defScope st)) (len : ∀ vs H Q E,sp vs H Q E → vs.length = ps.length)
    (hbody : ∀ (f : Addr) (cdv : Value) (A : Around) (outer : List Env) (s : Shared) (H : Hp) (vs : List V) (Q : VK) (E : XK),Room k (A.deeper (envOfC x (defScope st) s.heap.objs.size f cdv)) → sp vs H Q E →
      ∃ t,PSs (cxOf CX0 P w K mg base N x (defScope st) f cdv A outer s H E).nox (defBody st) t ∧ t { nx:=fun _ H' => Q .non H',rt:=Q } (start N vs) H) : Fu P w K mg base CX0 (k + 1) x ps sp:=by
  obtain ⟨f,fd,F,hm,hb⟩:=D.ex
  exact ⟨f,fd,F.ok S len fun cdv A outer s H vs Q E hr h => hbody f cdv A outer s H vs Q E hr h,hm,F.kp,hb⟩
theorem DefC.fu {c : Addr} (D : DefC K mg x st ps c) (S : FnScope N ps (defScope st)) (len : ∀ vs H Q E,sp vs H Q E → vs.length = ps.length)
    (hbody : ∀ (f : Addr) (A : Around) (outer : List Env) (s : Shared) (H : Hp) (vs : List V) (Q : VK) (E : XK),Room k (A.deeper (envOfC x (defScope st) s.heap.objs.size f (.ref c))) → sp vs H Q E →
      ∃ t,PSs (cxOf CX0 P w K mg base N x (defScope st) f (.ref c) A outer s H E).nox (defBody st) t ∧ t { nx:=fun _ H' => Q .non H',rt:=Q } (start N vs) H) : Fu P w K mg base CX0 (k + 1) x ps sp:=by
  obtain ⟨f,oc,od,an,osl,kV,doc,pm,ct,lk,hcd,hk,hm,hb⟩:=D.ex
  refine ⟨f,_,fn_of lk hcd S len fun A outer s H vs Q E hr hsp => ?_,hm,hk,hb⟩
  obtain ⟨t,h,q⟩:=hbody f A outer s H vs Q E hr hsp
  exact ⟨t,h.nox,q⟩
end
theorem Def.of {K : PySem.W.Frag} {mg : Str → Option Value} {h : Heap} {x : Str} {st : Stmt} {ps : List Str} {f : Addr} {oc : Value} {od an : Option Addr} {osl : Array (Option Value)} {kV doc pm cdv ct : Value} (X : K.In h) (G : h.Ns mainGlobals mg)
    (b : ∀ (kV doc pm : Value) (an : Option Addr) (cdv ct : Value) (us : List Value),us.length = ps.length → bindArgs (PySem.W.fnOf x x (defArgs st) (defBody st) (defScope st) .none kV doc pm an cdv ct) ⟨us,[]⟩ = pure (ps.zip us))
    (a : PySem.W.nsIn K mainGlobals x = some (some (.ref f))) (l : K.lookup f = some ⟨oc,od,.func (PySem.W.fnOf x x (defArgs st) (defBody st) (defScope st) .none kV doc pm an cdv ct),osl⟩)
    (c : PySem.W.codeIn K cdv x = true) (k : PySem.W.keepIn K (.ref f) = true) : Def K mg x st ps :=
  ⟨f,_,fun_mk (st:=st) l c k,PySem.W.mg_of X G a,(fun_mk (st:=st) l c k).binds b⟩
theorem DefC.of {K : PySem.W.Frag} {mg : Str → Option Value} {h : Heap} {x : Str} {st : Stmt} {ps : List Str} {f cd : Addr} {oc : Value} {od an : Option Addr} {osl : Array (Option Value)} {kV doc pm ct : Value} (X : K.In h) (G : h.Ns mainGlobals mg)
    (b : ∀ (kV doc pm : Value) (an : Option Addr) (cdv ct : Value) (us : List Value),us.length = ps.length → bindArgs (PySem.W.fnOf x x (defArgs st) (defBody st) (defScope st) .none kV doc pm an cdv ct) ⟨us,[]⟩ = pure (ps.zip us))
    (a : PySem.W.nsIn K mainGlobals x = some (some (.ref f))) (l : K.lookup f = some ⟨oc,od,.func (PySem.W.fnOf x x (defArgs st) (defBody st) (defScope st) .none kV doc pm an (.ref cd) ct),osl⟩)
    (c : PySem.W.codeIn K (.ref cd) x = true) (k : PySem.W.keepIn K (.ref f) = true) : DefC K mg x st ps cd :=
  ⟨f,oc,od,an,osl,kV,doc,pm,ct,l,c,k,PySem.W.mg_of X G a,(fun_mk (st:=st) l c k).binds b⟩
theorem boot_int' : bootBuiltins "int" = some (.type "int"):=by decide +kernel
theorem boot_bool' : bootBuiltins "bool" = some (.type "bool"):=by decide +kernel
theorem boot_list' : bootBuiltins "list" = some (.type "list"):=by decide +kernel
theorem boot_tuple' : bootBuiltins "tuple" = some (.type "tuple"):=by decide +kernel
section
variable {X : Cx} {a e : Expr} {es : List Expr} {ta : TE} {t : TA} {p pos : Pos}
theorem p_len (hm : X.mg "len" = none) (ha : PE X a ta) (hg : Gl X "len" := by rfl) (hst : starEach [a] X.env = (false,eval a X.env) :: starEach [] X.env:=by rfl) : PE X (.Call (.Name "len" p) [a] [] pos) (tCB (fun xs H Q => ∃ p ys,xs = [.ref p] ∧ (SqL X.K H p ys ∨ SqT X.K H p ys) ∧ Q (.int ys.length) H) (tCons ta tNil)) :=
  pe_callB call_len_seq hg hm PySem.boot_len (pa_cons ha pa_nil hst) (he:=hst)
theorem p_list (hm : X.mg "list" = none) (ha : PE X a ta) (hg : Gl X "list" := by rfl) (hst : starEach [a] X.env = (false,eval a X.env) :: starEach [] X.env:=by rfl) : PE X (.Call (.Name "list" p) [a] [] pos) (tCB (fun xs H Q => ∃ p ys,xs = [.ref p] ∧ (SqL X.K H p ys ∨ SqT X.K H p ys) ∧ ∀ l,H l = none → Q (.ref l) (upd H l (.lst ys))) (tCons ta tNil)) :=
  pe_callTy call_list_of hg hm boot_list' (pa_cons ha pa_nil hst) (he:=hst)
theorem p_isi {T : Str} {n : String} {q : Pos} (hm : X.mg "isinstance" = none) (hmT : X.mg T = none) (hv : bootBuiltins T = some (.type n)) (ha : PE X a ta) (hg : Gl X "isinstance" := by rfl) (hgT : Gl X T:=by rfl) (hn : T ≠ "__name__" := by decide) (hd : (T == ("__debug__" : Str)) = false:=by decide)
    (hst : starEach [a,.Name T q] X.env = (false,eval a X.env) :: starEach [.Name T q] X.env:=by rfl) (hst2 : starEach [.Name T q] X.env = (false,eval (.Name T q) X.env) :: starEach [] X.env:=by rfl) :
    PE X (.Call (.Name "isinstance" p) [a,.Name T q] [] pos) (tCB (rIsi X.K) (tCons ta (tCons (tC (.ty n)) tNil))) :=
  pe_callB call_isi hg hm boot_isinstance (pa_cons ha (pa_cons (pe_bltn hgT hmT hv rfl hn hd) pa_nil hst2) hst) (he:=hst) (hpl:=by rw [hst2]; rfl)
end
abbrev LI (K : PySem.W.Frag) (H : Hp) (a : Addr) (ns : List Int) : Prop:=SqL K H a (ns.map V.int)
theorem LI.of {K : PySem.W.Frag} {H : Hp} {a : Addr} {ns : List Int} (h : H a = some (.lst (ns.map V.int))) : LI K H a ns:=SqL.of h
theorem atI_int {ns : List Int} {i : Int} (h0 : 0 ≤ i) (h1 : i < ns.length) : atI (ns.map V.int) i = some (.int (ns.getD i.toNat 0)):=by
  have hi : i.toNat < ns.length:=by omega
  have:=atI_nat (xs:=ns.map V.int) (j:=i.toNat) (v:=.int (ns.getD i.toNat 0)) (by rw [List.getElem?_map,List.getElem?_eq_getElem hi]; simp [List.getD,hi])
  rwa [Int.toNat_of_nonneg h0] at this
theorem atI_neg {ns : List Int} {i : Int} (h0 : i < 0) (h1 : 0 ≤ i + ns.length) : atI (ns.map V.int) i = some (.int (ns.getD (i + ns.length).toNat 0)):=by
  have hi : (i + ns.length).toNat < ns.length:=by omega
  unfold atI ixN
  rw [if_neg (by omega),List.length_map,if_pos (by omega)]
  show (ns.map V.int)[(i + ns.length).toNat]? = _
  rw [List.getElem?_map,List.getElem?_eq_getElem hi]
  simp [List.getD,hi]
theorem cutV_ints (ns : List Int) (lo hi : Option Int) : ∃ ms : List Int,cutV (ns.map V.int) lo hi = ms.map V.int ∧ ms.length ≤ ns.length:=by
  refine ⟨(ns.drop (HT.sIx ns.length 0 lo)).take (HT.sIx ns.length ns.length hi - HT.sIx ns.length 0 lo),?_,?_⟩
  · unfold cutV
    rw [List.length_map,← List.map_drop,← List.map_take]
  · rw [List.length_take,List.length_drop]
    omega
theorem Same.new {H : Hp} {p : Addr} {o : HO} (h : H p = none) : Same H (upd H p o):=fun b u e => by rw [upd_ne (ne_of_none e h)]; exact e
theorem SqL.new {K : PySem.W.Frag} {H : Hp} {p : Addr} {xs : List V} : SqL K (upd H p (.lst xs)) p xs:=SqL.of upd_same
end L3

namespace L3
open PySem PySem.Spec PyProof.Rows L2
theorem there_of {P : Program} {w : World} {H : Hp} {h : Heap} {b : Addr} {u : HO} (x : ObjOk P w H h b u) : ∃ o,h.get? b = some o:=by
  cases u with
  | lst xs => obtain ⟨_,_,_,_,e⟩:=x; exact ⟨_,e⟩
  | tup xs => obtain ⟨_,_,_,o,e,_⟩:=x; exact ⟨_,e⟩
  | dK kvs => obtain ⟨_,_,_,_,o,_,_,e,_⟩:=x; exact ⟨_,e⟩
  | dT kvs => obtain ⟨_,_,_,_,o,_,_,e,_⟩:=x; exact ⟨_,e⟩
  | set S n => obtain ⟨o,_,_,_,e,_⟩:=x; exact ⟨_,e⟩
  | ins C dx fs => obtain ⟨_,_,_,e,_⟩:=x; exact ⟨_,e⟩
  | own y => exact x
  | xd fs => obtain ⟨_,⟨_,_,_,e,_⟩,_⟩:=x; exact ⟨_,e⟩
  | rng lo hi => obtain ⟨_,_,_,e⟩:=x; exact ⟨_,e⟩
  | frz o u => exact ⟨_,x.1⟩
  | tbl ps => exact ⟨_,x⟩
  | met f y => exact ⟨_,x⟩
  | ext φ => exact x.2.1
theorem HOk.there {P : Program} {w : World} {H : Hp} {h : Heap} (ok : HOk P w H h) {b : Addr} (hb : H b ≠ none) : ∃ o,h.get? b = some o:=by
  cases e : H b with
  | none => exact absurd e hb
  | some u => exact there_of (ok b u e)
structure Fly (P : Program) (w : World) (outer : List Env) (H H' : Hp) (s s' : Shared) (a C : Addr) (B : Heap) : Prop where
  os : s'.os = s.os
  bare : AllBare s'.gens
  un : Un (frs outer) [] H H' s.heap s'.heap
  hok : HOk P w H' s'.heap
  new : s.heap.get? a = none
  nt : H' a = none
  fly : ∃ a0,Heap.FlyingW B outer a (.ref C) a0 s'.heap
  cov : ∀ b o,s'.heap.get? b = some o → (H' b ≠ none ∨ ∃ o',s.heap.get? b = some o') → b ∉ frs outer → B.get? b = some o
def CX1 (P : Program) (w : World) : CXT:=fun outer H s E e s' => ∃ (a C : Addr) (B : Heap) (H' : Hp),e = .ref a ∧ Fly P w outer H H' s s' a C B ∧ E (.ref C) none H'
section
variable {X : Cx} {pins : List (Addr × Obj)} {σ : L2.St} {H H' : Hp} {s s' : Shared} {a C : Addr} {B : Heap} {h' : Heap} {a0 : Value}
theorem Fly.out (I : Inv X pins σ H' s') (hex : X.ex = []) (hst : X.stack = X.env :: X.outer) (hfr : X.env.frame = some X.env.locals) (new : X.s₀.heap.get? a = none) (nt : H' a = none)
    (cov : ∀ b o,s'.heap.get? b = some o → (H' b ≠ none ∨ ∃ o',X.s₀.heap.get? b = some o') → b ∉ frs X.stack → B.get? b = some o)
    (fl : Heap.FlyingW B X.outer a (.ref C) a0 h') (up : s'.heap.UpToSlots h') : Fly X.prog X.w X.outer X.H₀ H' X.s₀ { s' with heap:=h' } a C B:=by
  have frs_eq : frs X.stack = X.env.locals :: frs X.outer:=by rw [hst]; unfold frs; rw [List.filterMap_cons,hfr]
  have nst : ∀ b o,X.s₀.heap.get? b = some o → b ∉ frs X.outer → b ∉ frs X.stack:=fun b o e hb z => by
    rw [frs_eq] at z
    rcases List.mem_cons.mp z with z | z
    · rw [z] at e
      exact absurd (Nat.lt_of_lt_of_le (Heap.lt_size e) I.ok.above) (Nat.lt_irrefl _)
    · exact hb z
  have nx : ∀ b,b ∉ X.ex:=fun b z => by rw [hex] at z; cases z
  have tr : ∀ b,H' b ≠ none → b ∉ frs X.stack:=fun b hb z => hb (I.stkFree b z)
  have slot : ∀ b o,X.s₀.heap.get? b = some o → b ∈ frs X.outer → ∃ sl,h'.get? b = some { o with slots:=sl }:=fun b o e hb => by
    obtain ⟨sl,e1⟩:=I.base.slot b o e (I.ok.frf b hb) hb (nx b)
    obtain ⟨_,o',ho',hd⟩:=I.ok.funs.mem hb
    rw [e] at ho'
    cases ho'
    obtain ⟨sl2,q⟩:=up b { o with slots:=sl } e1 hd
    exact ⟨sl2,q⟩
  refine ⟨I.os,I.bare,⟨fun b o e n h1 _ => ?_,fun b o e n h1 _ => slot b o e h1,fun b o e n _ => I.base.free b o e n (nx b),fun b o e _ => ?_,I.base.tups,I.base.frzs,I.base.tbls⟩,HOk.but I.hok fun b o hb e => fl.1 b o (cov b o e (.inl hb) (tr b hb)),new,nt,⟨a0,fl⟩,fun b o e hb n => ?_⟩
  · exact fl.1 b o (cov b o (I.base.keep b o e n h1 (nx b)) (.inr ⟨o,e⟩) (nst b o e h1))
  · by_cases hb : b ∈ frs X.outer
    · obtain ⟨sl,q⟩:=slot b o e hb
      exact ⟨_,q⟩
    · obtain ⟨o',e1⟩:=I.base.there b o e (nx b)
      exact ⟨o',fl.1 b o' (cov b o' e1 (.inr ⟨o,e⟩) (nst b o e hb))⟩
  · have hb' : b ∉ frs X.stack ∧ ∃ o1,s'.heap.get? b = some o1:=by
      rcases hb with hb | ⟨o',e'⟩
      · exact ⟨tr b hb,HOk.there I.hok hb⟩
      · exact ⟨nst b o' e' n,I.base.there b o' e' (nx b)⟩
    obtain ⟨n',o1,e1⟩:=hb'
    have q:=cov b o1 e1 hb n'
    have z:=fl.1 b o1 q
    have e' : h'.get? b = some o:=e
    rw [z] at e'
    cases e'
    exact q
end
section
variable {P : Program} {w : World} {K : PySem.W.Frag} {mg : Str → Option Value} {base : Heap} {N : List Str} {qual : Str} {scope : Scope} {f : Addr} {cd : Value} {A : Around} {outer : List Env} {s₀ : Shared} {H₀ : Hp} {E : XK}
theorem pass1 : Passes (CX1 P w) (cxOf (CX1 P w) P w K mg base N qual scope f cd A outer s₀ H₀ E) E:=by
  intro pins σ H s e s' I h
  obtain ⟨a,C,B,H',rfl,F,q⟩:=h
  have I' : Inv (cxOf (CX1 P w) P w K mg base N qual scope f cd A outer s₀ H₀ E) pins σ H' s':=I.call' F.os F.un F.hok F.bare fun b hb => absurd hb (by simp)
  obtain ⟨a0,fl⟩:=F.fly
  have there : ∀ b o,s₀.heap.get? b = some o → ∃ o',s.heap.get? b = some o':=fun b o e => I.base.there b o e fun z => absurd (show b ∈ ([] : List Addr) from z) (by simp)
  refine wpAny_leaves_onW I.ok.frames rfl fl fun h' fl' up => ⟨a,C,B,H',rfl,Fly.out I' rfl rfl rfl ?_ F.nt (fun b o e hb n => F.cov b o e (hb.imp id fun ⟨o',e'⟩ => there b o' e') n) fl' up,q⟩
  cases z : s₀.heap.get? a with
  | none => exact z
  | some o =>
    obtain ⟨o',e⟩:=there a o z
    rw [F.new] at e
    cases e
end
structure ExcC (K : PySem.W.Frag) (mg : Str → Option Value) (x : Str) (C : Addr) : Prop where
  bound : mg x = some (.ref C)
  keep : PySem.W.keepIn K (.ref C) = true
  cls : PySem.W.excIn K C [.type "ValueError",.type "Exception",.type "BaseException",.type "object"] "ValueError.__new__" = true
theorem ExcC.own {K : PySem.W.Frag} {mg : Str → Option Value} {x : Str} {C : Addr} {h : Heap} (D : ExcC K mg x C) (X : K.In h) : OwnCls x C [.type "ValueError",.type "Exception",.type "BaseException",.type "object"] "ValueError.__new__" mg h:=by
  refine ⟨D.bound,?_⟩
  have q:=D.cls
  unfold PySem.W.excIn at q
  split at q
  case h_2 => cases q
  case h_1 dd cd sl ho =>
    split at q
    case h_2 => cases q
    case h_1 C' bm k0 k1 k2 k3 n k5 hm hs =>
      obtain ⟨l⟩:=sl
      obtain ⟨nm,bs,mro,ns,qn,hd,sn,sub,ab,col,del⟩:=cd
      have hs' : l = [k0,k1,k2,k3,some (.builtin n),k5]:=hs
      have hm' : mro = .ref C' :: bm:=hm
      subst hs' hm'
      rw [Bool.and_eq_true,Bool.and_eq_true,Bool.and_eq_true,Bool.and_eq_true,Bool.and_eq_true] at q
      obtain ⟨⟨⟨⟨⟨q1,q2⟩,q3⟩,q4⟩,q5⟩,q6⟩:=q
      have e1 : C' = C:=beq_iff_eq.mp q1
      have e2 : n = "ValueError.__new__" := beq_iff_eq.mp q2
      have e3 : del = false:=by simpa using q3
      subst e1 e2 e3
      exact ⟨bm,ns,nm,qn,bs,hd,sn,sub,ab,col,dd,k0,k1,k2,k3,k5,_,X _ _ ho,.of_isNs (PySem.W.isNs_of_in X q5),PySem.W.nsMap_none_of_in X q5 (beq_iff_eq.mp q6),PySem.W.tail_of_in X q4⟩
section
variable {P : Program} {w : World} {K : PySem.W.Frag} {mg : Str → Option Value} {base : Heap} {N : List Str} {qual : Str} {scope : Scope} {f : Addr} {cd : Value} {A : Around} {outer : List Env} {s₀ : Shared} {H₀ : Hp} {E : XK} {x : Str} {C : Addr} {e : Expr} {es : List Expr} {t : TA} {p pos cpos : Pos}
def tRaise (E : XK) (C : Addr) (t : TA) : TS:=fun _ σ H => t σ H fun vs H1 => vs.length ≤ sizeLine ∧ E (.ref C) none H1
theorem ps_raise (D : ExcC K mg x C) (hh : (A.deeper (envOfC qual scope s₀.heap.objs.size f cd)).handled = none) (ha : PA (cxOf (CX1 P w) P w K mg base N qual scope f cd A outer s₀ H₀ E) (e :: es) t) (hg : Gl (cxOf (CX1 P w) P w K mg base N qual scope f cd A outer s₀ H₀ E) x:=by rfl) (hdb : (x == ("__debug__" : Str)) = false:=by decide)
    (he : starEach (e :: es) (cxOf (CX1 P w) P w K mg base N qual scope f cd A outer s₀ H₀ E).env = (false,eval e (cxOf (CX1 P w) P w K mg base N qual scope f cd A outer s₀ H₀ E).env) :: starEach es (cxOf (CX1 P w) P w K mg base N qual scope f cd A outer s₀ H₀ E).env:=by rfl)
    (hpl : (backTo cpos (starEach es (cxOf (CX1 P w) P w K mg base N qual scope f cd A outer s₀ H₀ E).env)).any (·.1) = false:=by rfl) :
    PS (cxOf (CX1 P w) P w K mg base N qual scope f cd A outer s₀ H₀ E) (.Raise (some (.Call (.Name x p) (e :: es) [] cpos)) none pos) (tRaise E C t):=by
  intro pins s σ H Dn I h
  obtain ⟨bm,N',nm,q,bs,hdct,sn,sub,ab,col,dd,k0,k1,k2,k3,k5,mN,hC,hN,hni,T⟩:=(D.own I.ok.mod.kin).obj
  refine wpAny_Raise_call_subT (C:=C) (nm:=nm) (q:=q) (N:=N') (bs:=bs) (bm:=bm) (hdct:=hdct) (sn:=sn) (sub:=sub) (ab:=ab) (col:=col) (dd:=dd) (k0:=k0) (k1:=k1) (k2:=k2) (k3:=k3) (k5:=k5)
    PySem.F.excBase_ValueError (mN:=mN) (T.hasType PySem.F.excBase_ValueError.hasBase) hh (by rw [he]; show (false || (backTo cpos (starEach es _)).any (·.1)) = false; rw [hpl]; rfl) hni (ld_glob I hg D.bound ⟨rfl,?_⟩ hdb)
  have hs:=ha cpos pins s σ H _ I h
  rw [he] at hs ⊢
  refine Calls.evalArgs_plain (wpAny_mono hs (fun us s1 ⟨vs,H1,I1,r1,z,q1⟩ => ⟨rfl,by show us.length ≤ _; rw [← r1.length]; exact z,I1.bk _ _ hC,hN.keeps I1.bk,T.keeps I1.bk,fun h' e' hm => ?_⟩) fun _ _ y => y)
  have hin : ∀ env ∈ (envOfC qual scope s₀.heap.objs.size f cd :: outer),∀ b,env.frame = some b → b ∈ frs (envOfC qual scope s₀.heap.objs.size f cd :: outer):=fun env he b hb => List.mem_filterMap.mpr ⟨env,he,hb⟩
  have nx : ∀ b,b ∉ ([] : List Addr):=fun b z => by cases z
  have new : H1 e' = none:=by
    cases z : H1 e' with
    | none => rfl
    | some u =>
      obtain ⟨o,q⟩:=there_of (I1.hok _ _ z)
      rw [hm.new] at q
      cases q
  have I2 : Inv (cxOf (CX1 P w) P w K mg base N qual scope f cd A outer s₀ H₀ E) pins σ H1 { s1 with heap:=h' }:=I1.kept (t':=s1.toks) hm.keeps
  show wpAny _ _ (leaving (envOfC qual scope s₀.heap.objs.size f cd) (.ref e')) _ _ { s1 with heap:=h' }
  refine wpAny_leaves_madeW (base:=PySem.W.hideAll s1.heap (frs (envOfC qual scope s₀.heap.objs.size f cd :: outer))) (h:=s1.heap) I.ok.frames rfl (fun b o q => PySem.W.of_hideAll _ q) (PySem.W.funFrames_hide I1.stack hin) hm fun h2 t x1 x2 x3 x4 => ?_
  refine ⟨e',C,_,H1,rfl,Fly.out (a0:=.ref t) I2 rfl rfl rfl ?_ new (fun b o e1 hb n => ?_) x1 x4,q1⟩
  · cases z : s₀.heap.get? e' with
    | none => exact z
    | some o =>
      obtain ⟨o',q⟩:=I1.base.there e' o z (nx e')
      rw [hm.new] at q
      cases q
  · have q : ∃ o1,s1.heap.get? b = some o1:=by
      rcases hb with hb | ⟨o',e2⟩
      · exact HOk.there I1.hok hb
      · exact I1.base.there b o' e2 (nx b)
    obtain ⟨o1,q⟩:=q
    have q2:=hm.keeps b o1 q
    have e1' : h'.get? b = some o:=e1
    rw [q2] at e1'
    cases e1'
    exact PySem.W.hideAll_get _ q n
end
end L3

namespace L3
open PySem PySem.Spec PyProof.Rows L2 PySem.W Builtin.Getset_descriptor
section
variable {prog : Program} {w : World} {A : Around} {E : Value → Shared → Prop} {s : Shared} {K : Frag} {x C : Addr} {ox : Obj} {odo : Option Obj} {name : Str}
def IsOf (h : Heap) (x C : Addr) : Prop:=∃ ox,h.get? x = some ox ∧ ox.cls = .ref C
theorem IsOf.type {M : Model} {h : Heap} (I : IsOf h x C) : Looks M h (typeOf (.ref x)) (.ref C):=by
  obtain ⟨ox,e,c⟩:=I
  exact c ▸ (Looks.ld e).andThen .now
theorem find_data {M : Model} {h : Heap} {a g : Value} (X : K.In h) (ha : findIn K (.ref C) name = some (some a)) (hg : specialIn K a "__get__" = some (some g)) (ht : takesIn K a = some true) : Looks M h (Builtin.ObjectAttr.find (.ref x) (.ref C) name) (.bind g a):=by
  have F1:=looks_findIn (M:=M) X ha
  have F2 : Looks M h (Builtin.ObjectAttr.getOf (some a)) (some g):=looks_specialIn X hg
  have F3 : Looks M h (Builtin.ObjectAttr.dataDescriptor? (some a) (some g)) (some (g,a)):=(looks_takesIn (M:=M) X ht).andThen .now
  exact F1.andThen (F2.andThen (F3.andThen (Looks.tag .now)))
theorem ga_bind {tk : Tok} {g a : Value} {Q : Fin → Shared → Prop} (I : IsOf s.heap x C) (L1 : Looks (model prog w) s.heap (Builtin.ObjectAttr.find (.ref x) (.ref C) name) (.bind g a))
    (h : wpAny (model prog w) A (call g [a,.ref x,.ref C]) (fun v s' => Q (.done (.ret v)) s') E s) : wpAny (model prog w) A (Builtin.«object.__getattribute__» ⟨[.ref x,.str name tk],[]⟩) Q E s:=by
  obtain ⟨hh,gg,d,t,os⟩:=s
  have L0:=I.type (M:=model prog w)
  refine wpAny_bind (wpAny_pure ?_)
  refine wpAny_bind (wpAny_pure (wpAny_bind (L0.at (wpAny_bind (L1.at ?_)))))
  show wpAny _ _ (holding [a] (call g [a,.ref x,.ref C]) >>= ret) _ _ _
  exact wpAny_bind (wpAny_holding (wpAny_mono h (fun v s' q => wpAny_pure q) fun _ _ q => q))
theorem ga_val {tk : Tok} {v : Value} {Q : Fin → Shared → Prop} (I : IsOf s.heap x C) (L1 : Looks (model prog w) s.heap (Builtin.ObjectAttr.find (.ref x) (.ref C) name) (.value v))
    (h : Q (.done (.ret v)) s) : wpAny (model prog w) A (Builtin.«object.__getattribute__» ⟨[.ref x,.str name tk],[]⟩) Q E s:=by
  obtain ⟨hh,gg,d,t,os⟩:=s
  have L0:=I.type (M:=model prog w)
  refine wpAny_bind (wpAny_pure ?_)
  refine wpAny_bind (wpAny_pure (wpAny_bind (L0.at (wpAny_bind (L1.at (wpAny_pure h))))))
theorem class_by {R : Result → Shared → Prop} {tp : Value} (X : K.In s.heap) (I : IsOf s.heap x C) (hm : mroIn K C (.type "object") = some true) (hr : R (.ok (.ret (.ref C))) s) :
    codeAny (model prog w) A (.call (.builtin "getset_descriptor.__get__") ⟨[.builtin "object.__class__",.ref x,tp],[]⟩) R s:=by
  obtain ⟨hh,gg,dd,tt,oo⟩:=s
  have l0:=I.type (M:=model prog w)
  have l1:=looks_mroIn (M:=model prog w) X hm
  refine codeAny_call_builtin KF.slot_gs.plain KF.entry_gs (KF.slot_gs.check _ _ _ _ _ _ _ _ KF.type_class (KF.args_gs _ _ _) ?_)
  unfold Builtin.«getset_descriptor.__get__» descrGet
  rw [dga_obj]
  refine wpAny_bind (wpAny_pure ?_)
  unfold descrGetter descrCheckInstance descrNameAndClass isInstance
  simp only [KF.owner_class]
  repeat lk
  refine ⟨Code.quiet_builtin _ (by decide +kernel),codeAny_builtin KF.entry_class ?_⟩
  unfold Builtin.«object.__class__» shownTypeOf
  repeat lk
  exact hr
theorem exc_own {tk : Tok} {fill expr : Bool} {Q : Value → Shared → Prop} (X : K.In s.heap) (I : IsOf s.heap x C) (hgh : findIn K (.ref C) "__getattr__" = some none) (hm : mroIn K C (.type "BaseException") = some true)
    (h : ∀ A',wpAny (model prog w) A' (Builtin.«object.__getattribute__» ⟨[.ref x,.str name tk],[]⟩) (fun fin s' => match fin with | .done (.ret v) => handedIn v = true ∧ Q v s' | _ => False) (fun _ _ => False) s) :
    wpAny (model prog w) A (getAttrByItsOwn (.ref x) (.str name tk) (.ref C) (.builtin "BaseException.__getattribute__") fill expr) Q E s:=by
  obtain ⟨hh,g,d,t,os⟩:=s
  have L0:=I.type (M:=model prog w)
  have L2:=looks_findIn (M:=model prog w) X hgh
  have L3:=looks_mroIn (M:=model prog w) X hm
  have f3:=PySem.F.attrBase_ValueError.ga.bind (.ref x)
  have hx0 : (expr && onTheHeap (Value.builtin "BaseException.__getattribute__")) = false:=by cases expr <;> rfl
  unfold getAttrByItsOwn
  refine wpAny_bind ?_
  show wpAny _ _ (typeLookup (.ref C) "__getattr__") _ _ _
  refine L2.at ?_
  refine wpAny_bind (wpAny_attempt (wpAny_holding ?_))
  unfold callGetattribute
  rw [if_neg (by rw [hx0]; exact Bool.false_ne_true)]
  unfold boundAndCalled
  repeat (any_goals (first | assumption | wp_step))
  refine codeAny_call_builtin PySem.F.attrBase_ValueError.ga.plain F.entry_bexc_ga ?_
  have k1 : builtinKind "BaseException.__getattribute__" = some .slot:=by decide +kernel
  have k2 : splitId "BaseException.__getattribute__" = some ("BaseException", "__getattribute__"):=by decide +kernel
  have k3:=F.args_bexc_ga (.ref x) (.str name tk)
  show wpAny _ _ (checkBuiltinCall "BaseException.__getattribute__" ⟨[.ref x,.str name tk],[]⟩) _ _ _
  simp only [checkBuiltinCall,k1,k2]
  refine wpAny_bind ?_
  unfold isInstance
  refine wpAny_bind (L0.at (L3.at ?_))
  repeat (first | assumption | with_reducible refine wpAny_mono (h _) (fun fin s' q => ?_) (fun _ _ z => z.elim) | wp_step)
  cases fin with
  | again c' => exact q.elim
  | done f =>
    cases f with
    | ret v => exact handed_on q.1 q.2
    | next => exact q.elim
    | brk => exact q.elim
    | cont => exact q.elim
structure ExcG (K : Frag) (C : Addr) : Prop where
  ga : findIn K (.ref C) "__getattribute__" = some (some (.builtin "BaseException.__getattribute__"))
  gh : findIn K (.ref C) "__getattr__" = some none
  be : mroIn K C (.type "BaseException") = some true
  ob : mroIn K C (.type "object") = some true
  cl : findIn K (.ref C) "__class__" = some (some (.builtin "object.__class__"))
  cg : specialIn K (.builtin "object.__class__") "__get__" = some (some (.builtin "getset_descriptor.__get__"))
  ct : takesIn K (.builtin "object.__class__") = some true
theorem clsIn_of {C : Addr} {v : Value} {b : Bool} (h : mroIn K C v = some b) : ∃ cd,clsIn K C = some cd:=by
  obtain ⟨cd,a,_⟩:=Option.bind_eq_some_iff.mp h
  exact ⟨cd,a⟩
theorem exc_class {Q : Option Value → Shared → Prop} (X : K.In s.heap) (I : IsOf s.heap x C) (G : ExcG K C) (h : Q (some (.ref C)) { s with toks:=s.toks + 1 }) : wpAny (model prog w) A (getAttr? (.ref x) "__class__") Q E s:=by
  obtain ⟨hh,g,d,t,os⟩:=s
  have L0:=I.type (M:=model prog w)
  have L1:=looks_findIn (M:=model prog w) X G.ga
  unfold getAttr? getAttrBy? getAttrBy
  refine wpAny_bind (wpAny_mkText (wpAny_bind (wpAny_attempt (wpAny_holding (wpAny_bind (L0.at (wpAny_bind (L1.at ?_))))))))
  show wpAny _ _ (getAttrByItsOwn (.ref x) (.str "__class__" t) (.ref C) (.builtin "BaseException.__getattribute__") false false) _ _ _
  refine exc_own (s:=⟨hh,g,d,t + 1,os⟩) X I G.gh G.be fun A' => ?_
  exact ga_bind (s:=⟨hh,g,d,t + 1,os⟩) I (find_data X G.cl G.cg G.ct) (wpAny_call (class_by (s:=⟨hh,g,d,t + 1,os⟩) X I G.ob ⟨rfl,wpAny_pure h⟩))
theorem kitx_exc (G : ExcG K C) : KitX K (.ref x) (.ref C) (fun h => IsOf h x C) where
  ty:=fun _ _ _ I => I.type
  it:=fun _ _ X _ => by
    obtain ⟨cd,hcd⟩:=clsIn_of G.ob
    unfold clsIn at hcd
    split at hcd
    · rename_i ho
      intro A' Q' E' s' k q
      unfold isType loadHead
      exact wpAny_bind (wpAny_loadPart (k _ _ (X _ _ ho)) (wpAny_pure q))
    · cases hcd
  ne:=fun h tp dd its n sl X htp => by
    obtain ⟨cd,hcd⟩:=clsIn_of G.ob
    refine Bool.eq_false_iff.mpr fun q => ?_
    have e : C = tp:=Value.ref.inj (beq_iff_eq.mp q)
    subst e
    unfold clsIn at hcd
    split at hcd
    · rename_i ho
      have z:=(X _ _ ho).symm.trans htp
      cases z
    · cases hcd
  ca:=fun X I k => exc_class X I G k
end
end L3

namespace L3
open PySem PySem.Spec PyProof.Rows L2
def Need (X : Cx) (pins : List (Addr × Obj)) (H : Hp) (b : Addr) : Prop:=H b ≠ none ∨ (∃ o,X.s₀.heap.get? b = some o) ∨ (∃ x,X.env.cells.lookup x = some b) ∨ ∃ p ∈ X.pn ++ pins,p.1 = b
structure Body (X : Cx) : Prop where
  ex : X.ex = []
  st : X.stack = X.env :: X.outer
  fr : X.env.frame = some X.env.locals
  fn : ∀ x,X.fn x = true
section
variable {X : Cx} {pins : List (Addr × Obj)} {σ : L2.St} {H H' : Hp} {s s' : Shared} {a C : Addr} {B h' : Heap}
theorem Inv.cnf (I : Inv X pins σ H s) (b : Body X) {x : Str} {c : Addr} (e : X.env.cells.lookup x = some c) : c ∉ frs X.stack:=fun z => by
  rcases List.mem_cons.mp (I.stkSub c z) with z | z
  · exact I.cne x c e z
  · obtain ⟨_,o,ho,_⟩:=I.ok.funs.mem z
    exact absurd (Nat.lt_of_lt_of_le (Heap.lt_size ho) (I.ok.cab x c (b.fn x) e)) (Nat.lt_irrefl _)
theorem Inv.snf (I : Inv X pins σ H s) {b : Addr} {o : Obj} (e : X.s₀.heap.get? b = some o) (hb : b ∉ X.fs) : b ∉ frs X.stack:=fun z => by
  rcases List.mem_cons.mp (I.stkSub b z) with z | z
  · rw [z] at e
    exact absurd (Nat.lt_of_lt_of_le (Heap.lt_size e) I.ok.above) (Nat.lt_irrefl _)
  · exact hb z
theorem Inv.pnf (I : Inv X pins σ H s) {p : Addr × Obj} (hp : p ∈ X.pn ++ pins) : p.1 ∉ frs X.stack:=fun z => by
  obtain ⟨_,_,ne,nf,_⟩:=I.pin p hp
  rcases List.mem_cons.mp (I.stkSub p.1 z) with z | z
  · exact ne z
  · exact nf z
theorem Inv.needed (I : Inv X pins σ H s) (b : Body X) {c : Addr} (h : Need X pins H c) : ∃ o,s.heap.get? c = some o:=by
  rcases h with h | ⟨o,h⟩ | ⟨x,h⟩ | ⟨p,hp,rfl⟩
  · exact HOk.there I.hok h
  · exact I.base.there c o h (by rw [b.ex]; intro z; cases z)
  · obtain ⟨v,o,e,_⟩:=I.cell x c h
    exact ⟨o,e⟩
  · exact ⟨_,(I.pin p hp).1⟩
theorem Inv.moved (I : Inv X pins σ H s) (b : Body X) (k : ∀ c o,s.heap.get? c = some o → Need X pins H c → c ∉ frs X.stack → h'.get? c = some o) (up : s.heap.UpToSlots h') : Inv X pins σ H { s with heap:=h' }:=by
  have nx : ∀ c,c ∉ X.ex:=fun c z => by rw [b.ex] at z; cases z
  have slot : ∀ c o,X.s₀.heap.get? c = some o → c ∈ X.fs → ∃ sl,h'.get? c = some { o with slots:=sl }:=fun c o e hc => by
    obtain ⟨sl,e1⟩:=I.base.slot c o e (I.ok.frf c hc) hc (nx c)
    obtain ⟨_,o',ho',hd⟩:=I.ok.funs.mem hc
    rw [e] at ho'
    cases ho'
    obtain ⟨sl2,q⟩:=up c { o with slots:=sl } e1 hd
    exact ⟨sl2,q⟩
  have cell : ∀ {x : Str} {c : Addr} {v : Option Value},X.env.cells.lookup x = some c → s.heap.IsCell c v → h'.IsCell c v:=fun {x c v} hc z => by
    obtain ⟨o,e,r⟩:=z
    exact ⟨o,k c o e (.inr (.inr (.inl ⟨x,hc⟩))) (Inv.cnf I b hc),r⟩
  refine ⟨I.ok,I.os,I.bare,⟨fun c o e n h1 _ => k c o (I.base.keep c o e n h1 (nx c)) (.inr (.inl ⟨o,e⟩)) (Inv.snf I e h1),fun c o e n h1 _ => slot c o e h1,I.base.free,fun c o e _ => ?_,I.base.tups,I.base.frzs,I.base.tbls⟩,?_,fun x c e => ?_,I.free,I.freeC,fun p hp => ?_,
    HOk.but I.hok fun c o hc e => k c o e (.inl hc) fun z => hc (I.stkFree c z),I.len⟩
  · by_cases hc : c ∈ X.fs
    · obtain ⟨sl,q⟩:=slot c o e hc
      exact ⟨_,q⟩
    · obtain ⟨o',e1⟩:=I.base.there c o e (nx c)
      exact ⟨o',k c o' e1 (.inr (.inl ⟨o,e⟩)) (Inv.snf I e hc)⟩
  · obtain ⟨m,hn,hl⟩:=I.loc
    refine ⟨m,up.ns hn,fun i x v h1 h2 h3 => ?_⟩
    obtain ⟨u,r,l⟩:=hl i x v h1 h2 h3
    refine ⟨u,r,?_⟩
    rcases l with l | ⟨k1,c,hc,q⟩
    · exact .inl l
    · exact .inr ⟨k1,c,hc,cell hc q⟩
  · obtain ⟨v,q⟩:=I.cell x c e
    exact ⟨v,cell e q⟩
  · obtain ⟨e,r⟩:=I.pin p hp
    exact ⟨k p.1 p.2 e (.inr (.inr (.inr ⟨p,hp,rfl⟩))) (Inv.pnf I hp),r⟩
structure Air (X : Cx) (pins : List (Addr × Obj)) (σ : L2.St) (H : Hp) (s : Shared) (a C : Addr) : Prop where
  inv : Inv X pins σ H s
  new : X.s₀.heap.get? a = none
  nt : H a = none
  nneed : ¬ Need X pins H a
  nfs : a ∉ frs X.stack
  nloc : a ≠ X.env.locals
  fly : ∃ a0 B,Heap.FlyingW B X.stack a (.ref C) a0 s.heap ∧ ∀ c o,s.heap.get? c = some o → Need X pins H c → c ∉ frs X.stack → B.get? c = some o
theorem Air.on (R : Air X pins σ H s a C) (b : Body X) {B : Heap} {a0 : Value} (cov : ∀ c o,s.heap.get? c = some o → Need X pins H c → c ∉ frs X.stack → B.get? c = some o) (fl : Heap.FlyingW B X.stack a (.ref C) a0 h') (up : s.heap.UpToSlots h') : Air X pins σ H { s with heap:=h' } a C:=by
  refine ⟨Inv.moved R.inv b (fun c o e n f => fl.1 c o (cov c o e n f)) up,R.new,R.nt,R.nneed,R.nfs,R.nloc,a0,B,fl,fun c o e n f => ?_⟩
  obtain ⟨o1,e1⟩:=Inv.needed R.inv b n
  have q:=cov c o1 e1 n f
  have z:=fl.1 c o1 q
  have e' : h'.get? c = some o:=e
  rw [z] at e'
  cases e'
  exact q
end
def cxTry (X : Cx) (pins : List (Addr × Obj)) (Ex : Addr → L2.St → Hp → Prop) : Cx :=
  { X with pn:=X.pn ++ pins,xe:=fun e s' => ∃ a C σ' H',e = .ref a ∧ Air X pins σ' H' s' a C ∧ Ex C σ' H' }
section
variable {X : Cx} {pins pins' : List (Addr × Obj)} {σ : L2.St} {H H' : Hp} {s s' : Shared} {a C : Addr} {B h' : Heap} {Ex : Addr → L2.St → Hp → Prop}
theorem try_in (I : Inv X pins σ H s) : Inv (cxTry X pins Ex) [] σ H s :=
  ⟨⟨I.ok.mod,I.ok.kind,I.ok.glob,I.ok.blt,I.ok.above,I.ok.inj,I.ok.has,I.ok.cab,I.ok.hd,I.ok.frames,I.ok.stk,I.ok.exf,I.ok.bs,I.ok.bsz,I.ok.noex,I.ok.exfs,I.ok.funs,I.ok.frf⟩,I.os,I.bare,I.base,I.loc,I.cell,I.free,I.freeC,fun p hp => I.pin p (by have hp' : p ∈ (X.pn ++ pins) ++ []:=hp; rwa [List.append_nil] at hp'),I.hok,I.len⟩
theorem try_out (I : Inv (cxTry X pins Ex) pins' σ H s) : Inv X pins σ H s :=
  ⟨⟨I.ok.mod,I.ok.kind,I.ok.glob,I.ok.blt,I.ok.above,I.ok.inj,I.ok.has,I.ok.cab,I.ok.hd,I.ok.frames,I.ok.stk,I.ok.exf,I.ok.bs,I.ok.bsz,I.ok.noex,I.ok.exfs,I.ok.funs,I.ok.frf⟩,I.os,I.bare,I.base,I.loc,I.cell,I.free,I.freeC,fun p hp => I.pin p (List.mem_append_left _ hp),I.hok,I.len⟩
theorem passT (b : Body X) {e : Value} {E : XK} (I : Inv (cxTry X pins Ex) pins' σ H s) (hE : ∀ C H',E (.ref C) none H' → Ex C σ H') (h : CX1 X.prog X.w (cxTry X pins Ex).stack H s E e s') : (cxTry X pins Ex).xe e s':=by
  obtain ⟨a,C,B,H',rfl,F,q⟩:=h
  have I0:=try_out I
  have I' : Inv X pins σ H' s':=I0.call' F.os F.un F.hok F.bare fun b hb => absurd hb (by simp)
  obtain ⟨a0,fl⟩:=F.fly
  have nx : ∀ c,c ∉ X.ex:=fun c z => by rw [b.ex] at z; cases z
  have hneed : ∀ c,Need X pins H' c → H' c ≠ none ∨ ∃ o',s.heap.get? c = some o':=fun c n => by
    rcases n with n | ⟨o,n⟩ | ⟨x,n⟩ | ⟨p,hp,rfl⟩
    · exact .inl n
    · exact .inr (I0.base.there c o n (nx c))
    · obtain ⟨v,o,e,_⟩:=I0.cell x c n
      exact .inr ⟨o,e⟩
    · exact .inr ⟨_,(I0.pin p hp).1⟩
  refine ⟨a,C,σ,H',rfl,⟨I',?_,F.nt,fun n => ?_,fun z => ?_,fun z => ?_,a0,B,fl,fun c o e n f => F.cov c o e (hneed c n) f⟩,hE C H' q⟩
  · cases z : X.s₀.heap.get? a with
    | none => rfl
    | some o =>
      obtain ⟨o',e⟩:=I0.base.there a o z (nx a)
      rw [F.new] at e
      cases e
  · rcases hneed a n with n | ⟨o,n⟩
    · exact n F.nt
    · rw [F.new] at n
      cases n
  · obtain ⟨_,o,e,_⟩:=I0.stack.mem z
    rw [F.new] at e
    cases e
  · obtain ⟨m,⟨o,_,_,e,_⟩,_⟩:=I0.loc
    rw [z] at F
    have:=F.new
    rw [e] at this
    cases this
end
def tCallS (sp : Sp) (E : L2.St → XK) (t : TA) : TE:=fun σ H Q => t σ H fun vs H1 => sp vs H1 Q (E σ)
def tMethS (C : Addr) (m : Str) (sp : Sp) (E : L2.St → XK) (ta : TE) (t : TA) : TE:=fun σ H Q => ta σ H fun x H1 => ∃ a dx fs,x = .ref a ∧ H1 a = some (.ins C dx fs) ∧ fs.lookup m = none ∧ t σ H1 fun vs H2 => sp (x :: vs) H2 Q (E σ)
def PassS (CX : CXT) (X : Cx) (E : L2.St → XK) : Prop:=∀ (pins : List (Addr × Obj)) (σ : L2.St) (H : Hp) (s : Shared) (e : Value) (s' : Shared),Inv X pins σ H s → CX X.stack H s (E σ) e s' → X.xe e s'
def exS (Ex : Addr → L2.St → Hp → Prop) : L2.St → XK:=fun σ c _ H' => ∀ C,c = .ref C → Ex C σ H'
theorem passS {X : Cx} {pins : List (Addr × Obj)} {Ex : Addr → L2.St → Hp → Prop} (b : Body X) : PassS (CX1 X.prog X.w) (cxTry X pins Ex) (exS Ex):=fun _ _ _ _ _ _ I h => passT b I (fun C _ q => q C rfl) h
section
variable {X : Cx} {CX : CXT} {j k : Nat} {f C : Addr} {fd : FuncData} {ps : List Str} {sp : Sp} {E : L2.St → XK} {x m : Str} {p pos apos : Pos} {e o : Expr} {es : List Expr} {ta : TE} {t : TA} {pins : List (Addr × Obj)} {σ : L2.St} {H : Hp} {s : Shared} {Q : VK} {us : List Value} {vs : List V}
theorem runS (F : FnOk X.prog X.w X.K X.mg X.base CX k f fd ps sp) (hr : Room k X.A) (hb : Binds X.K fd ps []) (hx : PassS CX X E) (I : Inv X pins σ H s) (r : Vals vs us) (h : sp vs H Q (E σ)) : wpAny (model X.prog X.w) X.A (call (.ref f) us) (EP X pins σ Q) X.xe s:=by
  have hl : (us ++ []).length = ps.length:=by rw [List.append_nil,← r.length]; exact F.len _ _ _ _ h
  have hb':=hb s us I.kIn hl
  rw [List.append_nil] at hb'
  refine wpAny_call (codeAny_mono (F.run X.A X.stack s H ⟨us,[]⟩ us vs Q (E σ) hr I.env0 hb' r h) fun res s' hq => ?_)
  cases res with
  | error e => exact hx pins σ H s e s' I hq
  | ok fl =>
    cases fl with
    | ret u => exact I.after hq
    | next => exact hq.elim
    | brk => exact hq.elim
    | cont => exact hq.elim
theorem pcS (F : Fu X.prog X.w X.K X.mg X.base CX j x ps sp) (hr : Room k X.A) (hx : PassS CX X E) (ha : PA X (e :: es) t) (hj : j ≤ k:=by decide) (hg : Gl X x:=by rfl) (hdb : (x == ("__debug__" : Str)) = false:=by decide)
    (he : starEach (e :: es) X.env = (false,eval e X.env) :: starEach es X.env:=by rfl) (hpl : (backTo pos (starEach es X.env)).any (·.1) = false:=by rfl) : PE X (.Call (.Name x p) (e :: es) [] pos) (tCallS sp E t):=by
  obtain ⟨f,fd,G,hm,hk,hb⟩:=F.ex
  intro pins s σ H Q I h
  refine wpAny_Call_Name_kw (ld_glob I hg hm ?_ hdb)
  exact PySem.W.callWith_K (h₀:=X.base) I.ok.mod.kin hk (thn (ha pos pins s σ H _ I h) fun us s1 ⟨vs,H1,I1,r,q⟩ => ⟨I1.kIn,runS G (hr.mono hj) hb hx I1 r q⟩) he hpl
theorem methS {pl : Sem Bool} (he : PE X o ta) (c : Cls X.K C) (hm : Meth X.K C m f) (F : FnOk X.prog X.w X.K X.mg X.base CX k f fd ps sp) (hr : Room k X.A) (hb : Binds X.K fd ps []) (hx : PassS CX X E) (ha : PA X (e :: es) t)
    (hst : starEach (e :: es) X.env = (false,eval e X.env) :: starEach es X.env:=by rfl) (hpl : (backTo pos (starEach es X.env)).any (·.1) = false:=by rfl)
    (ht : eval (.Call (.Attribute o m apos) (e :: es) [] pos) X.env = (do
      let ov ← eval o X.env
      standAt apos.atName
      let (g,first) ← holding [ov] (getMethod ov m pl)
      callWith pos g first (backTo pos (starEach (e :: es) X.env)) (backToKw pos (keywordEach [] X.env))):=by rfl) :
    PE X (.Call (.Attribute o m apos) (e :: es) [] pos) (tMethS C m sp E ta t):=by
  intro pins s σ H Q I h
  refine PySem.W.methodCall_KW (pl:=pl) (thn (he pins s σ H _ I h) fun u s1 ⟨x,H1,I1,rx,a,dx,fs,ex,ea,l,q⟩ => ?_) ht
  subst ex
  obtain rfl : u = Value.ref a:=rx
  exact getmeth_ok I1 ea c hm l (PySem.W.callWith_K (first:=[.ref a]) (h₀:=X.base) I.ok.mod.kin hm.kp (thn (ha pos pins s1 σ H1 _ I1 q) fun us s2 ⟨vs,H2,I2,r,q2⟩ => ⟨I2.kIn,runS (us:=.ref a :: us) (vs:=.ref a :: vs) F hr hb hx I2 (.cons rfl r) q2⟩) hst hpl)
end
def cxHand (X : Cx) (a : Addr) : Cx:={ X with A:=X.A.mark (some (.ref a)),calm:=false,xe:=fun _ _ => False }
section
variable {X : Cx} {pins : List (Addr × Obj)} {σ : L2.St} {H : Hp} {s : Shared} {a C : Addr}
theorem hand_in (I : Inv X pins σ H s) : Inv (cxHand X a) pins σ H s :=
  ⟨⟨I.ok.mod,I.ok.kind,I.ok.glob,I.ok.blt,I.ok.above,I.ok.inj,I.ok.has,I.ok.cab,fun z => absurd (show false = true from z) Bool.false_ne_true,I.ok.frames,I.ok.stk,I.ok.exf,I.ok.bs,I.ok.bsz,I.ok.noex,I.ok.exfs,I.ok.funs,I.ok.frf⟩,I.os,I.bare,I.base,I.loc,I.cell,I.free,I.freeC,I.pin,I.hok,I.len⟩
theorem hand_out (hd : X.calm = true → X.A.handled = none) (I : Inv (cxHand X a) pins σ H s) : Inv X pins σ H s :=
  ⟨⟨I.ok.mod,I.ok.kind,I.ok.glob,I.ok.blt,I.ok.above,I.ok.inj,I.ok.has,I.ok.cab,hd,I.ok.frames,I.ok.stk,I.ok.exf,I.ok.bs,I.ok.bsz,I.ok.noex,I.ok.exfs,I.ok.funs,I.ok.frf⟩,I.os,I.bare,I.base,I.loc,I.cell,I.free,I.freeC,I.pin,I.hok,I.len⟩
def ExcAt (a C : Addr) : HO:=.ext fun h => IsOf h a C
theorem Air.held (R : Air X pins σ H s a C) : Inv X pins σ (upd H a (ExcAt a C)) s:=by
  have I:=R.inv
  have ne : ∀ b u,H b = some u → b ≠ a:=fun b u e z => by rw [z,R.nt] at e; cases e
  refine ⟨I.ok,I.os,I.bare,⟨I.base.keep,I.base.slot,fun b o e n hx => ?_,I.base.there,fun b xs e => ?_,fun b o u e => ?_,fun b ps e => ?_⟩,I.loc,I.cell,?_,fun x c e => ?_,fun p hp => ?_,fun b u e => ?_,I.len⟩
  · rw [upd_ne (fun z => by rw [z,R.new] at e; cases e)]
    exact I.base.free b o e n hx
  · have q:=I.base.tups b xs e
    rw [upd_ne (ne b _ q)]
    exact q
  · have q:=I.base.frzs b o u e
    rw [upd_ne (ne b _ q)]
    exact q
  · obtain ⟨more,q⟩:=I.base.tbls b ps e
    exact ⟨more,by rw [upd_ne (ne b _ q)]; exact q⟩
  · rw [upd_ne (Ne.symm R.nloc)]
    exact I.free
  · rw [upd_ne (fun z => R.nneed (.inr (.inr (.inl ⟨x,by rw [← z]; exact e⟩))))]
    exact I.freeC x c e
  · obtain ⟨e,n,r⟩:=I.pin p hp
    exact ⟨e,by rw [upd_ne (fun z => R.nneed (.inr (.inr (.inr ⟨p,hp,z⟩))))]; exact n,r⟩
  · by_cases hb : b = a
    · subst hb
      rw [upd_same] at e
      cases e
      obtain ⟨a0,B,fl,_⟩:=R.fly
      obtain ⟨ox,hx,hc⟩:=fl.there
      exact ⟨⟨ox,hx,hc⟩,⟨ox,hx⟩,fun h1 h2 ⟨ox1,i1,c1⟩ k => ⟨ox1,k _ i1,c1⟩⟩
    · rw [upd_ne hb] at e
      refine (I.hok b u e).stay (fun _ _ _ q => q) (fun c q => ?_) fun c xs q => ?_
      · rw [upd_ne (ne c _ q)]
        exact q
      · rw [upd_ne (ne c _ q)]
        exact q
end
end L3

namespace L3
open PySem PySem.Spec PyProof.Rows L2 PySem.W
section
variable {prog : Program} {w : World} {A : Around} {E : Value → Shared → Prop} {s : Shared} {K : Frag} {e C Cb : Addr} {b : Bool}
theorem matches_in {Q : Bool → Shared → Prop} (X : K.In s.heap) (I : IsOf s.heap e C) (hty : typeIn K (.ref Cb) = some (.type "type")) (hbe : mroIn K Cb (.type "BaseException") = some true) (hc : mroIn K C (.ref Cb) = some b) (hq : Q b s) :
    wpAny (model prog w) A (excMatches (.ref e) (.ref Cb)) Q E s:=by
  obtain ⟨hh,gg,dd,tt,oo⟩:=s
  have L0:=I.type (M:=model prog w)
  have L1:=looks_typeIn (M:=model prog w) X hty
  have L2:=looks_mroIn (M:=model prog w) X hbe
  have L3:=looks_mroIn (M:=model prog w) X hc
  have L4 : Looks (model prog w) hh (isType (.ref Cb)) true:=by
    obtain ⟨cd,hcd⟩:=clsIn_of hbe
    unfold clsIn at hcd
    split at hcd
    · rename_i ho
      intro A' Q' E' s' k q
      unfold isType loadHead
      exact wpAny_bind (wpAny_loadPart (k _ _ (X _ _ ho)) (wpAny_pure q))
    · cases hcd
  have f:=tc_notTuple
  unfold excMatches isInstance isExcClass
  refine wpAny_bind (wpAny_bind (L1.at ?_))
  rw [f]
  refine wpAny_pure ?_
  rw [if_neg Bool.false_ne_true]
  refine wpAny_bind (wpAny_pure (wpAny_bind ?_))
  rw [List.forIn_cons]
  refine wpAny_bind (wpAny_bind (wpAny_bind (L4.at ?_)))
  rw [if_pos rfl]
  refine L2.at ?_
  refine wpAny_pure ?_
  refine wpAny_pure ?_
  refine wpAny_bind (L0.at ?_)
  refine wpAny_bind ?_
  rw [List.forIn_cons]
  refine wpAny_bind (wpAny_bind (L3.at ?_))
  cases b with
  | true => exact wpAny_pure (wpAny_pure (wpAny_pure hq))
  | false => exact wpAny_pure (wpAny_pure (wpAny_pure hq))
end
theorem gone_ok {X : Cx} {M : Model} {A : Around} {E : Value → Shared → Prop} {pins : List (Addr × Obj)} {σ : L2.St} {H : Hp} {s : Shared} {i : Nat} {n : Str} {pos : Pos} {Q : Unit → Shared → Prop} (I : Inv X pins σ H s) (hN : X.N.Nodup) (hi : X.N[i]? = some n) (hk : X.env.scope.names.lookup n = some .local)
    (h : ∀ s',Inv X pins (σ.set i none) H s' → Q () s') : wpAny M A (do bindName X.env n .none; unbindBehindTheSuite X.env n pos) Q E s:=by
  obtain ⟨m,hn,hl⟩:=id I.loc
  have hcls : (X.env.scope.kind == .class || (X.env.scope.kind == .module && X.env.locals != X.env.globals)) = false:=by rw [I.ok.kind]; rfl
  have hiσ : i < σ.length:=by rw [I.len]; exact (List.getElem?_eq_some_iff.mp hi).1
  refine wpAny_nameGoes_keeps hk hn hcls fun h' v hn' hs => h _ ?_
  have old : ∀ {b : Addr} {o : Obj},X.s₀.heap.get? b = some o → b ≠ X.env.locals:=fun e => Nat.ne_of_lt (Nat.lt_of_lt_of_le (Heap.lt_size e) I.ok.above)
  refine ⟨I.ok,I.os,I.bare,⟨fun b o e n hb hx => (hs.2 b (old e)).trans (I.base.keep b o e n hb hx),fun b o e n hb hx => ?_,I.base.free,fun b o e hx => ?_,I.base.tups,I.base.frzs,I.base.tbls⟩,⟨_,hn',fun j y v' e1 e2 e3 => ?_⟩,fun y c e => ?_,I.free,I.freeC,fun p hp => ?_,?_,by simpa using I.len⟩
  · obtain ⟨sl,e1⟩:=I.base.slot b o e n hb hx
    exact ⟨sl,(hs.2 b (old e)).trans e1⟩
  · obtain ⟨o',e1⟩:=I.base.there b o e hx
    exact ⟨o',(hs.2 b (old e)).trans e1⟩
  · by_cases hj : j = i
    · subst hj
      rw [List.getElem?_set_self hiσ] at e2
      cases e2
    · rw [List.getElem?_set_ne (Ne.symm hj)] at e2
      obtain ⟨u',r',q⟩:=hl j y v' e1 e2 e3
      refine ⟨u',r',?_⟩
      rcases q with ⟨k,e⟩ | ⟨k,c,e,z⟩
      · have : y ≠ n:=fun e => hj (nodup_ix hN e1 (e ▸ hi))
        exact .inl ⟨k,by simp [this,e]⟩
      · exact .inr ⟨k,c,e,z.sameBut hs (I.cne y c e)⟩
  · obtain ⟨w',z⟩:=I.cell y c e
    exact ⟨w',z.sameBut hs (I.cne y c e)⟩
  · obtain ⟨e,n',ne,r⟩:=I.pin p hp
    exact ⟨(hs.2 p.1 ne).trans e,n',ne,r⟩
  · exact HOk.but I.hok fun b o hb e => (hs.2 b (fun z => hb (by rw [z]; exact I.free))).trans e
def PH (X : Cx) (hs : List ExceptHandler) (th : Addr → TS) : Prop:=∀ (pins : List (Addr × Obj)) (σ : L2.St) (H : Hp) (s : Shared) (a C : Addr) (D : Ends),Air X pins σ H s a C → th C D σ H → wpAny (model X.prog X.w) X.A (handleBy (.ref a) X.env hs) (SP X pins D) X.xe s
def goneD (D : Ends) (i : Nat) : Ends:={ nx:=fun σ H => D.nx (σ.set i none) H,rt:=D.rt,bk:=fun σ H => D.bk (σ.set i none) H,ct:=fun σ H => D.ct (σ.set i none) H }
def tExcept (K : Frag) (Cb : Addr) (i : Nat) (th : TS) (rest : Addr → TS) : Addr → TS:=fun C D σ H => ∃ b,mroIn K C (.ref Cb) = some b ∧
  if b = true then ∀ a,H a = none → th (goneD D i) (σ.set i (some (.ref a))) (upd H a (ExcAt a C)) else rest C D σ H
section
variable {X : Cx} {x n : Str} {Cb : Addr} {i : Nat} {np pos : Pos} {b₀ : Stmt} {suite : List Stmt} {rest : List ExceptHandler} {th : TS} {thr : Addr → TS}
theorem SP.hand {a : Addr} {pins : List (Addr × Obj)} {D : Ends} {f : Flow} {s : Shared} (hd : X.calm = true → X.A.handled = none) (h : SP (cxHand X a) pins D f s) : SP X pins D f s:=by
  cases f with
  | next => obtain ⟨σ',H',I,q⟩:=h; exact ⟨σ',H',hand_out hd I,q⟩
  | brk => obtain ⟨σ',H',I,q⟩:=h; exact ⟨σ',H',hand_out hd I,q⟩
  | cont => obtain ⟨σ',H',I,q⟩:=h; exact ⟨σ',H',hand_out hd I,q⟩
  | ret u => obtain ⟨v,σ',H',I,r,q⟩:=h; exact ⟨v,σ',H',hand_out hd I,r,q⟩
theorem ph_as (b : Body X) (hN : X.N.Nodup) (hi : X.N[i]? = some n) (hk : X.env.scope.names.lookup n = some .local) (hg : Gl X x) (hm : X.mg x = some (.ref Cb)) (hty : typeIn X.K (.ref Cb) = some (.type "type")) (hbe : mroIn X.K Cb (.type "BaseException") = some true)
    (hs : ∀ a,PSs (cxHand X a) (b₀ :: suite) th) (hr : PH X rest thr) (hdb : (x == ("__debug__" : Str)) = false:=by decide) : PH X (.ExceptHandler (some (.Name x np)) (some n) (b₀ :: suite) pos :: rest) (tExcept X.K Cb i th thr):=by
  intro pins σ H s a C D R h
  obtain ⟨bb,hc,h⟩:=h
  obtain ⟨a0,B,fl,cov⟩:=R.fly
  refine wpAny_handleBy_cons (codeAny_handlers_test (ld_glob (X:=cxHand X a) (hand_in R.inv) hg hm (matches_in R.inv.kIn fl.there hty hbe hc ?_) hdb)) (by intro q; cases q)
  cases bb with
  | false => exact hr pins σ H s a C D R h
  | true =>
    have h1:=h
    rw [if_pos rfl] at h1
    refine codeAny_handlers_suite_as (lands_againW fl fun h' fl' up => ?_)
    have R':=Air.on R b cov fl' up
    refine store_ok (Air.held R') hN hi (.inl hk) (show RelV (.ref a) (.ref a) from rfl) (fun s2 I2 => ?_) (.inr hk)
    refine wpAny_mono (hs a pins s2 _ _ (goneD D i) (hand_in I2) (h1 a R.nt)) (fun f s3 q => ?_) fun _ _ z => False.elim z
    have q':=SP.hand R.inv.ok.hd q
    show wpAny _ X.A (do bindName X.env n .none; unbindBehindTheSuite X.env n pos) (fun _ s4 => SP X pins D f s4) X.xe s3
    cases f with
    | next => obtain ⟨σ',H',I3,q3⟩:=q'; exact gone_ok I3 hN hi hk fun s4 I4 => ⟨_,H',I4,q3⟩
    | brk => obtain ⟨σ',H',I3,q3⟩:=q'; exact gone_ok I3 hN hi hk fun s4 I4 => ⟨_,H',I4,q3⟩
    | cont => obtain ⟨σ',H',I3,q3⟩:=q'; exact gone_ok I3 hN hi hk fun s4 I4 => ⟨_,H',I4,q3⟩
    | ret u => obtain ⟨v,σ',H',I3,r3,q3⟩:=q'; exact gone_ok I3 hN hi hk fun s4 I4 => ⟨v,_,H',I4,r3,q3⟩
theorem ph_nil : PH X [] (fun _ _ _ _ => False):=fun _ _ _ _ _ _ _ _ h => h.elim
def tTry (tb : (Addr → L2.St → Hp → Prop) → TS) (th : Addr → TS) : TS:=fun D σ H => ∃ Ex,tb Ex D σ H ∧ ∀ C σ' H',Ex C σ' H' → th C D σ' H'
theorem ps_try {body : List Stmt} {h₀ : ExceptHandler} {hs : List ExceptHandler} {tb : (Addr → L2.St → Hp → Prop) → TS} {th : Addr → TS} (b : Body X) (hb : ∀ pins Ex,PSs (cxTry X pins Ex) body (tb Ex)) (hh : PH X (h₀ :: hs) th) : PS X (.Try body (h₀ :: hs) [] [] pos) (tTry tb th):=by
  intro pins s σ H D I h
  obtain ⟨Ex,h1,h2⟩:=h
  refine wpAny_Try_except (wpAny_mono (hb pins Ex [] s σ H D (try_in I) h1) (fun f s1 q => ?_) fun e s1 q => ?_)
  · cases f with
    | next => obtain ⟨σ',H',J,q⟩:=q; exact wpAny_execs_nil ⟨σ',H',try_out J,q⟩
    | brk => obtain ⟨σ',H',J,q⟩:=q; exact ⟨σ',H',try_out J,q⟩
    | cont => obtain ⟨σ',H',J,q⟩:=q; exact ⟨σ',H',try_out J,q⟩
    | ret u => obtain ⟨v,σ',H',J,r,q⟩:=q; exact ⟨v,σ',H',try_out J,r,q⟩
  · obtain ⟨a,C,σ',H',rfl,R,q⟩:=q
    obtain ⟨a0,B,fl,cov⟩:=R.fly
    have fl0:=fl
    rw [b.st] at fl0
    refine wpAny_looks_onW (by rw [R.inv.ok.frames,b.st]) b.fr fl0 fun h4 hh4 up4 => wpAny_landsW hh4 fun h5 fl5 up5 => ?_
    rw [← b.st] at fl5
    have R5:=Air.on R b cov fl5 (up4.trans up5)
    exact hh pins σ' H' { s1 with heap:=h5 } a C D R5 (h2 C σ' H' q)
end
section
variable {X : Cx}
def rIsiX (K : Frag) : List V → Hp → VK → Prop:=fun xs H Q => ∃ (a C : Addr) (c : V) (u : Value) (b : Bool),xs = [.ref a,c] ∧ H a = some (ExcAt a C) ∧ ExcG K C ∧ (∀ v,RelV c v → v = u) ∧ kitOne K (.ref C) u = some b ∧ Q (.bl b) H
theorem call_isiX : CallR X (.builtin "isinstance") (rIsiX X.K):=by
  intro pins s σ H xs us Q I r h
  obtain ⟨a,C,c,u,b,rfl,ha,G,hu,e,q⟩:=h
  obtain ⟨u1,u2,rfl,r1,r2⟩:=vals2 r
  cases (show u1 = Value.ref a from r1)
  cases hu u2 r2
  obtain ⟨i,_,_⟩:=(show ObjOk X.prog X.w H s.heap a (ExcAt a C) from I.hok a _ ha)
  exact kia_one (kitx_exc G) I.kIn i e (fun z => nomatch z) fun tk => ⟨.bl b,H,I.tok _,rfl,q⟩
end
end L3

namespace L3
open PySem PySem.Spec PyProof.Rows L2
structure FuM (P : Program) (w : World) (K : PySem.W.Frag) (mg : Str → Option Value) (base : Heap) (CX : CXT) (k : Nat) (C : Addr) (m : Str) (ps : List Str) (sp : Sp) : Prop where
  ex : ∃ f fd,FnOk P w K mg base CX k f fd ps sp ∧ Meth K C m f ∧ Binds K fd ps []
structure MDef (K : PySem.W.Frag) (C : Addr) (m qual : Str) (st : Stmt) (ps : List Str) : Prop where
  ex : ∃ f fd,Fun K m qual st f fd ∧ Meth K C m f ∧ Binds K fd ps []
section
variable {X : Cx} {CX : CXT} {j k : Nat} {C : Addr} {m x : Str} {ps : List Str} {sp : Sp} {E : XK} {p pos apos : Pos} {o e : Expr} {es : List Expr} {ta : TE} {t : TA}
theorem pm {pl : Sem Bool} (F : FuM X.prog X.w X.K X.mg X.base CX j C m ps sp) (c : Cls X.K C) (hr : Room k X.A) (hx : Passes CX X E) (he : PE X o ta) (ha : PA X (e :: es) t) (hj : j ≤ k:=by decide)
    (hst : starEach (e :: es) X.env = (false,eval e X.env) :: starEach es X.env:=by rfl) (hpl : (backTo pos (starEach es X.env)).any (·.1) = false:=by rfl)
    (ht : eval (.Call (.Attribute o m apos) (e :: es) [] pos) X.env = (do
      let ov ← eval o X.env
      standAt apos.atName
      let (g,first) ← holding [ov] (getMethod ov m pl)
      callWith pos g first (backTo pos (starEach (e :: es) X.env)) (backToKw pos (keywordEach [] X.env))):=by rfl) : PE X (.Call (.Attribute o m apos) (e :: es) [] pos) (tMeth C m sp [] E ta t):=by
  obtain ⟨f,fd,G,hm,hb⟩:=F.ex
  exact pe_meth (pl:=pl) he c hm G (hr.mono hj) hb .nil hx ha hst hpl ht
theorem pm0 {pl : Sem Bool} (F : FuM X.prog X.w X.K X.mg X.base CX j C m ps sp) (c : Cls X.K C) (hr : Room k X.A) (hx : Passes CX X E) (he : PE X o ta) (hj : j ≤ k:=by decide)
    (ht : eval (.Call (.Attribute o m apos) [] [] pos) X.env = (do
      let ov ← eval o X.env
      standAt apos.atName
      let (g,first) ← holding [ov] (getMethod ov m pl)
      callWith pos g first (backTo pos (starEach [] X.env)) (backToKw pos (keywordEach [] X.env))):=by rfl) : PE X (.Call (.Attribute o m apos) [] [] pos) (tMeth C m sp [] E ta tNil):=by
  obtain ⟨f,fd,G,hm,hb⟩:=F.ex
  exact pe_meth0 (pl:=pl) he c hm G (hr.mono hj) hb .nil hx ht
structure FuK (P : Program) (w : World) (K : PySem.W.Frag) (mg : Str → Option Value) (base : Heap) (CX : CXT) (k : Nat) (C : Addr) (ps : List Str) (sp : Sp) : Prop where
  ex : ∃ f fd,FnOk P w K mg base CX k f fd ps sp ∧ Mk K C f ∧ Binds K fd ps []
end
section
variable {P : Program} {w : World} {K : PySem.W.Frag} {mg : Str → Option Value} {base : Heap} {C : Addr} {x m qual : Str} {st : Stmt} {N ps : List Str} {k : Nat} {sp : Sp}
theorem MDef.fu (D : MDef K C m qual st ps) (S : FnScope N ps (defScope st)) (len : ∀ vs H Q E,sp vs H Q E → vs.length = ps.length)
    (hbody : ∀ (f : Addr) (cdv : Value) (A : Around) (outer : List Env) (s : Shared) (H : Hp) (vs : List V) (Q : VK) (E : XK),Room k (A.deeper (envOfC qual (defScope st) s.heap.objs.size f cdv)) → sp vs H Q E →
      ∃ t,PSs (cxOf CX0 P w K mg base N qual (defScope st) f cdv A outer s H E).nox (defBody st) t ∧ t { nx:=fun _ H' => Q .non H',rt:=Q } (start N vs) H) : FuM P w K mg base CX0 (k + 1) C m ps sp:=by
  obtain ⟨f,fd,F,hm,hb⟩:=D.ex
  exact ⟨f,fd,F.ok S len fun cdv A outer s H vs Q E hr h => hbody f cdv A outer s H vs Q E hr h,hm,hb⟩
theorem Fun.okx {f : Addr} {fd : FuncData} (F : Fun K x qual st f fd) (S : FnScope N ps (defScope st)) (len : ∀ vs H Q E,sp vs H Q E → vs.length = ps.length)
    (hbody : ∀ (cdv : Value) (A : Around) (outer : List Env) (s : Shared) (H : Hp) (vs : List V) (Q : VK) (E : XK),Room k (A.deeper (envOfC qual (defScope st) s.heap.objs.size f cdv)) → sp vs H Q E →
      ∃ t,PSs (cxOf (CX1 P w) P w K mg base N qual (defScope st) f cdv A outer s H E) (defBody st) t ∧ t { nx:=fun _ H' => Q .non H',rt:=Q } (start N vs) H) : FnOk P w K mg base (CX1 P w) (k + 1) f fd ps sp:=by
  obtain ⟨oc,od,kV,doc,pm,an,cdv,ct,osl,rfl,lk,hcd⟩:=F.ex
  exact fn_of lk hcd S len fun A outer s H vs Q E hr hsp => hbody cdv A outer s H vs Q E hr hsp
theorem MDef.fux (D : MDef K C m qual st ps) (S : FnScope N ps (defScope st)) (len : ∀ vs H Q E,sp vs H Q E → vs.length = ps.length)
    (hbody : ∀ (f : Addr) (cdv : Value) (A : Around) (outer : List Env) (s : Shared) (H : Hp) (vs : List V) (Q : VK) (E : XK),Room k (A.deeper (envOfC qual (defScope st) s.heap.objs.size f cdv)) → sp vs H Q E →
      ∃ t,PSs (cxOf (CX1 P w) P w K mg base N qual (defScope st) f cdv A outer s H E) (defBody st) t ∧ t { nx:=fun _ H' => Q .non H',rt:=Q } (start N vs) H) : FuM P w K mg base (CX1 P w) (k + 1) C m ps sp:=by
  obtain ⟨f,fd,F,hm,hb⟩:=D.ex
  exact ⟨f,fd,Fun.okx F S len fun cdv A outer s H vs Q E hr h => hbody f cdv A outer s H vs Q E hr h,hm,hb⟩
theorem Def.fux (D : Def K mg x st ps) (S : FnScope N ps (defScope st)) (len : ∀ vs H Q E,sp vs H Q E → vs.length = ps.length)
    (hbody : ∀ (f : Addr) (cdv : Value) (A : Around) (outer : List Env) (s : Shared) (H : Hp) (vs : List V) (Q : VK) (E : XK),Room k (A.deeper (envOfC x (defScope st) s.heap.objs.size f cdv)) → sp vs H Q E →
      ∃ t,PSs (cxOf (CX1 P w) P w K mg base N x (defScope st) f cdv A outer s H E) (defBody st) t ∧ t { nx:=fun _ H' => Q .non H',rt:=Q } (start N vs) H) : Fu P w K mg base (CX1 P w) (k + 1) x ps sp:=by
  obtain ⟨f,fd,F,hm,hb⟩:=D.ex
  exact ⟨f,fd,Fun.okx F S len fun cdv A outer s H vs Q E hr h => hbody f cdv A outer s H vs Q E hr h,hm,F.kp,hb⟩
structure KDef (K : PySem.W.Frag) (C : Addr) (qual : Str) (st : Stmt) (ps : List Str) : Prop where
  ex : ∃ f fd,Fun K "__init__" qual st f fd ∧ Mk K C f ∧ Binds K fd ps []
theorem KDef.fux (D : KDef K C qual st ps) (S : FnScope N ps (defScope st)) (len : ∀ vs H Q E,sp vs H Q E → vs.length = ps.length)
    (hbody : ∀ (f : Addr) (cdv : Value) (A : Around) (outer : List Env) (s : Shared) (H : Hp) (vs : List V) (Q : VK) (E : XK),Room k (A.deeper (envOfC qual (defScope st) s.heap.objs.size f cdv)) → sp vs H Q E →
      ∃ t,PSs (cxOf (CX1 P w) P w K mg base N qual (defScope st) f cdv A outer s H E) (defBody st) t ∧ t { nx:=fun _ H' => Q .non H',rt:=Q } (start N vs) H) : FuK P w K mg base (CX1 P w) (k + 1) C ps sp:=by
  obtain ⟨f,fd,F,hm,hb⟩:=D.ex
  exact ⟨f,fd,Fun.okx F S len fun cdv A outer s H vs Q E hr h => hbody f cdv A outer s H vs Q E hr h,hm,hb⟩
end
theorem p_tru {X : Cx} {a : Expr} {ta : TE} (ha : PE X a ta) (he : ∀ whole,isTrue a X.env whole = (do let v ← whole; standAt a.pos; holding [v] (truthy v)):=by intro _; rfl) : PT X a (fun σ H Q => ta σ H fun x H' => ∃ k,TruV X.K x H' k ∧ Q k H'):=pt_truth ha he
end L3

namespace L3
open PySem PySem.Spec PyProof.Rows L2
theorem MDef.of {K : PySem.W.Frag} {C : Addr} {m qual : Str} {st : Stmt} {ps : List Str} {f : Addr} {oc : Value} {od an : Option Addr} {osl : Array (Option Value)} {kV doc pm cdv ct : Value}
    (b : ∀ (kV doc pm : Value) (an : Option Addr) (cdv ct : Value) (us : List Value),us.length = ps.length → bindArgs (PySem.W.fnOf m qual (defArgs st) (defBody st) (defScope st) .none kV doc pm an cdv ct) ⟨us,[]⟩ = pure (ps.zip us))
    (a : PySem.W.findIn K (.ref C) m = some (some (.ref f))) (i : PySem.W.isFn K (.ref f) = true) (l : K.lookup f = some ⟨oc,od,.func (PySem.W.fnOf m qual (defArgs st) (defBody st) (defScope st) .none kV doc pm an cdv ct),osl⟩)
    (c : PySem.W.codeIn K cdv qual = true) (k : PySem.W.keepIn K (.ref f) = true) : MDef K C m qual st ps :=
  ⟨f,_,fun_mk (st:=st) l c k,⟨a,i,k⟩,(fun_mk (st:=st) l c k).binds b⟩
theorem KDef.of {K : PySem.W.Frag} {C : Addr} {qual : Str} {st : Stmt} {ps : List Str} {f : Addr} {oc : Value} {od an : Option Addr} {osl : Array (Option Value)} {kV doc pm cdv ct : Value}
    (b : ∀ (kV doc pm : Value) (an : Option Addr) (cdv ct : Value) (us : List Value),us.length = ps.length → bindArgs (PySem.W.fnOf "__init__" qual (defArgs st) (defBody st) (defScope st) .none kV doc pm an cdv ct) ⟨us,[]⟩ = pure (ps.zip us))
    (mk : PySem.W.makesIn K C = true) (kc : PySem.W.keepIn K (.ref C) = true)
    (a : PySem.W.findIn K (.ref C) "__init__" = some (some (.ref f))) (i : PySem.W.isFn K (.ref f) = true) (l : K.lookup f = some ⟨oc,od,.func (PySem.W.fnOf "__init__" qual (defArgs st) (defBody st) (defScope st) .none kV doc pm an cdv ct),osl⟩)
    (c : PySem.W.codeIn K cdv qual = true) (k : PySem.W.keepIn K (.ref f) = true) : KDef K C qual st ps :=
  ⟨f,_,fun_mk (st:=st) l c k,⟨mk,a,i,kc⟩,(fun_mk (st:=st) l c k).binds b⟩
end L3

namespace L3
open PySem PySem.Spec PyProof.Rows L2
section
variable {X : Cx} {pins : List (Addr × Obj)} {σ : L2.St} {H : Hp} {s : Shared} {h' : Heap}
theorem turnedL {t' : Nat} {ch : List Addr} (I : Inv X pins σ H s) (k : ∀ b o,b ∉ ch → s.heap.get? b = some o → h'.get? b = some o) (hf : ∀ b ∈ ch,FpOk X pins H b) : Inv X pins σ H { s with heap:=h',toks:=t' }:=by
  have nit : ∀ b u,H b = some u → b ∉ ch:=fun b u e z => by rw [(hf b z).1] at e; cases e
  refine I.step (g':=s.gens) (d':=s.drawn) (ch:=ch) (fun b hb => ?_) (fun b o _ _ hc e _ => k b o hc e) (fun b o _ _ hc e _ => ⟨o.slots,k b o hc e⟩) (fun _ _ _ _ n => n)
    (fun b o hc e => ⟨o,k b o hc e⟩) (fun _ _ e => e) (fun _ _ _ e => e) (fun b ps e => ⟨#[],by rw [e]; simp⟩) (fun m hm => ?_) (fun b u e => ?_) I.bare
  · obtain ⟨f0,f1,f2,f3,f4,f5⟩:=hf b hb
    exact ⟨f3,f1,f4,f5⟩
  · obtain ⟨o,es,ep,ho,r⟩:=hm
    exact ⟨o,es,ep,k _ o (fun z => (hf _ z).2.1 rfl) ho,r⟩
  · refine (I.hok b u e).stay (fun c v hc q => k c v ?_ q) (fun _ q => q) fun _ _ q => q
    rcases hc with z | z
    · rw [z]; exact nit b u e
    · exact nit c _ z
theorem turnedT {t' : Nat} {ch : List Addr} {xs : List V} {its : List Value} (I : Inv X pins σ H s) (rv : Vals xs its) (hz : xs.length ≤ sizeLine) (k : ∀ b o,b ∉ ch → s.heap.get? b = some o → h'.get? b = some o)
    (hT : h'.get? s.heap.objs.size = some { cls:=.type "tuple",data:=.seq its.toArray }) (hf : ∀ b ∈ ch,FpOk X pins H b) (hlt : ∀ b ∈ ch,b < s.heap.objs.size) : Inv X pins σ (upd H s.heap.objs.size (.tup xs)) { s with heap:=h',toks:=t' }:=by
  have I1 : Inv X pins σ (upd H s.heap.objs.size (.tup xs)) { s with heap:=s.heap.push { cls:=.type "tuple",data:=.seq its.toArray },toks:=s.toks } :=
    I.laid (fun b o e => Heap.get?_push_of_some _ e) (Nat.le_refl _) (show ObjOk X.prog X.w _ _ _ (.tup xs) from ⟨hz,its,rv,IsTup.new _ _⟩)
  refine turnedL (s:={ s with heap:=s.heap.push { cls:=.type "tuple",data:=.seq its.toArray },toks:=s.toks }) (h':=h') (t':=t') I1 (ch:=ch) (fun b o hb e => ?_) fun b hb => ?_
  · rcases Heap.get?_push_cases e with ⟨e1,e2⟩ | e1
    · rw [e1,e2]; exact hT
    · exact k b o hb e1
  · obtain ⟨f0,f1⟩:=hf b hb
    exact ⟨by rw [upd_ne (Nat.ne_of_lt (hlt b hb))]; exact f0,f1⟩
end
def Ite (K : PySem.W.Frag) (a : Addr) : It :=
  ⟨fun i H => ∃ xs x,SqL K H a xs ∧ xs[i]? = some x,fun i H x H' => ∃ T v,H T = none ∧ x = .ref T ∧ H' = upd H T (.tup [.int i,v]) ∧ ∀ xs,SqL K H a xs → xs[i]? = some v,fun i H => ∃ xs,SqL K H a xs ∧ xs.length ≤ i⟩
theorem turn_enum {P : Program} {w : World} {K : PySem.W.Frag} {elts : List Expr} {x1 : Nat} {tpos : Pos} (a e it : Addr) (hne : e ≠ it) : Turn P w K (.Tuple elts x1 tpos) (Ite K a) [e,it] e (fun i h => (∃ old,IsEnum h e it i old) ∧ h.IsListIter it a i) where
  mem:=by simp
  obj:=fun i h st b hb => by
    obtain ⟨⟨old,he⟩,hit⟩:=st
    simp only [List.mem_cons,List.not_mem_nil,or_false] at hb
    rcases hb with rfl | rfl
    · exact ⟨_,he,fun v z => by cases z⟩
    · obtain ⟨o,e,c,d⟩:=hit
      exact ⟨o,e,fun v z => by rw [d] at z; cases z⟩
  keep:=fun i h h' st k => by
    obtain ⟨⟨old,he⟩,hit⟩:=st
    exact ⟨⟨old,k e (by simp) _ he⟩,hit.at fun o x => k it (by simp) o x⟩
  item:=by
    intro X hP hw hK hc i pins s σ H E I hf st hg
    subst hP hw hK
    obtain ⟨⟨old,he⟩,hit⟩:=st
    obtain ⟨xs,x,hq,hx⟩:=hg
    obtain ⟨its,rv,p,hz⟩:=I.list hq
    obtain ⟨u,hu,ru⟩:=rv.get hx
    have helt : e < s.heap.objs.size:=Heap.lt_size he
    have hilt : it < s.heap.objs.size:=by obtain ⟨_,y,_⟩:=hit; exact Heap.lt_size y
    refine wpAny_pyNext_enum_item he hit p.isList (x:=u) (by simpa using hu) hne fun h' ho hit' hT hsz hk => ?_
    have lt : ∀ b ∈ [e,it],b < s.heap.objs.size:=by
      intro b hb
      simp only [List.mem_cons,List.not_mem_nil,or_false] at hb
      rcases hb with rfl | rfl
      · exact helt
      · exact hilt
    have I1 : Inv X pins σ (upd H s.heap.objs.size (.tup [.int i,x])) { s with heap:=h',toks:=s.toks + 1 } :=
      turnedT (ch:=[e,it]) (its:=[.int i s.toks,u]) I (.cons ⟨_,rfl⟩ (.cons ru .nil)) (by show 2 ≤ sizeLine; decide) (fun b o hb q => hk b o (fun z => hb (by simp [z])) (fun z => hb (by simp [z])) q) hT hf lt
    have hf1 : ∀ b ∈ [e,it],FpOk X pins (upd H s.heap.objs.size (.tup [.int i,x])) b:=fun b hb => by
      obtain ⟨f0,f1⟩:=hf b hb
      exact ⟨by rw [upd_ne (Nat.ne_of_lt (lt b hb))]; exact f0,f1⟩
    refine ⟨_,rfl,wpAny_letOwnedTupleGo_enum (s:={ s with heap:=h',toks:=s.toks + 1 }) ho fun h2 he2 sb => ?_⟩
    have I2 : Inv X pins σ (upd H s.heap.objs.size (.tup [.int i,x])) { s with heap:=h2,toks:=s.toks + 1 }:=turnedL (s:={ s with heap:=h',toks:=s.toks + 1 }) (t':=s.toks + 1) (ch:=[e,it]) I1 (fun b o hb q => (sb.2 b (fun z => hb (by simp [z]))).trans q) hf1
    exact ⟨.ref s.heap.objs.size,_,I2,rfl,⟨_,x,I.fresh,rfl,rfl,fun ys hy => by rw [I.list_inj hy hq]; exact hx⟩,⟨⟨_,by simpa using he2⟩,hit'.at fun o y => (sb.2 it (Ne.symm hne)).trans y⟩,fun b hb => (hf1 b hb).1⟩
  done:=by
    intro X hP hw hK hc i pins s σ H E I hf st hg
    subst hP hw hK
    obtain ⟨⟨old,he⟩,hit⟩:=st
    obtain ⟨xs,hq,hx⟩:=hg
    obtain ⟨its,rv,p,hz⟩:=I.list hq
    have hl:=rv.length
    exact wpAny_pyNext_enum_end (I.ok.hd hc) he hit p.isList (by simp; omega) fun h' eb => ⟨rfl,turnedL (t':=s.toks) (ch:=[e,it]) I (fun b o hb q => eb b o (fun z => hb (by simp [z])) q) hf⟩
  self:=fun _ _ _ _ _ st h => by
    obtain ⟨⟨old,he⟩,hit⟩:=st
    exact wpAny_pyIter_enum he h
section
variable {X : Cx} {elts : List Expr} {x1 : Nat} {tpos : Pos} {l : Expr} {ta : TA} {p pos : Pos}
def iEnum (K : PySem.W.Frag) (ta : TA) : TI:=fun σ H R => ta σ H fun vs H1 => ∃ a,vs = [.ref a] ∧ (∃ xs,SqL K H1 a xs) ∧ R (Ite K a) H1
theorem boot_enum' : bootBuiltins "enumerate" = some (.type "enumerate"):=by decide +kernel
theorem boot_zip' : bootBuiltins "zip" = some (.type "zip"):=by decide +kernel
theorem boot_rev' : bootBuiltins "reversed" = some (.type "reversed"):=by decide +kernel
theorem boot_all' : bootBuiltins "all" = some (.builtin "all"):=by decide +kernel
theorem pi_enum (hm : X.mg "enumerate" = none) (ha : PA X [l] ta) (hg : Gl X "enumerate" := by rfl) (hs : starEach [l] X.env = [(false,eval l X.env)]:=by rfl) : PI X (.Tuple elts x1 tpos) (.Call (.Name "enumerate" p) [l] [] pos) (iEnum X.K ta):=by
  intro pins s σ H R I h
  refine Call_ (ld_blt I hg hm boot_enum' (PyProof.Rows.callWith_type1 (thn (ha pos pins s σ H _ I h) fun us s1 ⟨vs,H1,I1,r1,q1⟩ => ?_) hs rfl))
  obtain ⟨a,e,⟨xs,hq⟩,q⟩:=q1
  subst e
  obtain ⟨u,rfl,ru⟩:=vals1 r1
  cases ru
  obtain ⟨its,rv,pl,hz⟩:=I1.list hq
  refine call_enumerate_list pl.isList fun h' he hit hsz hk => ?_
  have I2 : Inv X pins σ H1 { s1 with heap:=h' }:=I1.kept (t':=s1.toks) hk
  refine wpAny_pyIter_enum (s:={ s1 with heap:=h' }) he ⟨_,[s1.heap.objs.size + 1,s1.heap.objs.size],_,_,H1,rfl,I2,turn_enum a (s1.heap.objs.size + 1) s1.heap.objs.size (Nat.succ_ne_self _),⟨⟨_,he⟩,hit⟩,fun b hb => ?_,q⟩
  simp only [List.mem_cons,List.not_mem_nil,or_false] at hb
  rcases hb with rfl | rfl
  · exact I1.fpOk (by omega) (I1.hok.fresh (by omega))
  · exact I1.fpOk (Nat.le_refl _) (I1.hok.fresh (Nat.le_refl _))
end
def Itz (K : PySem.W.Frag) (a b : Addr) : It :=
  ⟨fun i H => ∃ xs x ys y,SqL K H a xs ∧ xs[i]? = some x ∧ SqL K H b ys ∧ ys[i]? = some y,fun i H x H' => ∃ T v u,H T = none ∧ x = .ref T ∧ H' = upd H T (.tup [v,u]) ∧ (∀ xs,SqL K H a xs → xs[i]? = some v) ∧ ∀ ys,SqL K H b ys → ys[i]? = some u,
    fun i H => ∃ xs ys,SqL K H a xs ∧ SqL K H b ys ∧ (xs.length ≤ i ∨ ys.length ≤ i)⟩
def ZSt (z TI TO i1 i2 a b : Addr) (i : Nat) (h : Heap) : Prop:=IsZip h z TI TO .none ∧ IsPair h TI (.ref i1) (.ref i2) ∧ (∃ u v,IsPair h TO u v) ∧ h.IsListIter i1 a i ∧ h.IsListIter i2 b i
theorem turn_zip {P : Program} {w : World} {K : PySem.W.Frag} {elts : List Expr} {x1 : Nat} {tpos : Pos} {z TI TO i1 i2 a b : Addr} (D : ZipApart z TI TO i1 i2 a b) : Turn P w K (.Tuple elts x1 tpos) (Itz K a b) [z,TI,TO,i1,i2] z (ZSt z TI TO i1 i2 a b) where
  mem:=by simp
  obj:=fun i h st c hc => by
    obtain ⟨hz,h1,⟨u,v,h2⟩,h3,h4⟩:=st
    simp only [List.mem_cons,List.not_mem_nil,or_false] at hc
    rcases hc with rfl | rfl | rfl | rfl | rfl
    · exact ⟨_,hz,fun v z => by cases z⟩
    · exact ⟨_,h1,fun v z => by cases z⟩
    · exact ⟨_,h2,fun v z => by cases z⟩
    · obtain ⟨o,e,c,d⟩:=h3
      exact ⟨o,e,fun v z => by rw [d] at z; cases z⟩
    · obtain ⟨o,e,c,d⟩:=h4
      exact ⟨o,e,fun v z => by rw [d] at z; cases z⟩
  keep:=fun i h h' st k => by
    obtain ⟨hz,h1,⟨u,v,h2⟩,h3,h4⟩:=st
    exact ⟨k z (by simp) _ hz,k TI (by simp) _ h1,⟨u,v,k TO (by simp) _ h2⟩,h3.at fun o x => k i1 (by simp) o x,h4.at fun o x => k i2 (by simp) o x⟩
  item:=by
    intro X hP hw hK hc i pins s σ H E I hf st hg
    subst hP hw hK
    obtain ⟨hz,h1,⟨u0,v0,h2⟩,h3,h4⟩:=st
    obtain ⟨xs,x,ys,y,hq,hx,hq2,hy⟩:=hg
    obtain ⟨its,rv,p,hzl⟩:=I.list hq
    obtain ⟨its2,rv2,p2,hzl2⟩:=I.list hq2
    obtain ⟨u,hu,ru⟩:=rv.get hx
    obtain ⟨v,hv,rv'⟩:=rv2.get hy
    have lt : ∀ b ∈ [z,TI,TO,i1,i2],b < s.heap.objs.size:=by
      intro b hb
      simp only [List.mem_cons,List.not_mem_nil,or_false] at hb
      rcases hb with rfl | rfl | rfl | rfl | rfl
      · exact Heap.lt_size hz
      · exact Heap.lt_size h1
      · exact Heap.lt_size h2
      · obtain ⟨_,y,_⟩:=h3; exact Heap.lt_size y
      · obtain ⟨_,y,_⟩:=h4; exact Heap.lt_size y
    refine wpAny_pyNext_zip_item D hz h1 h2 h3 h4 p.isList p2.isList (x:=u) (y:=v) (by simpa using hu) (by simpa using hv) fun h' hz' hTO' h3' h4' hT hsz hk => ?_
    have I1 : Inv X pins σ (upd H s.heap.objs.size (.tup [x,y])) { s with heap:=h',toks:=s.toks } :=
      turnedT (ch:=[z,TI,TO,i1,i2]) (its:=[u,v]) I (.cons ru (.cons rv' .nil)) (by show 2 ≤ sizeLine; decide) (fun b o hb q => hk b o (fun z => hb (by simp [z])) (fun z => hb (by simp [z])) (fun z => hb (by simp [z])) (fun z => hb (by simp [z])) q) hT hf lt
    have hf1 : ∀ b ∈ [z,TI,TO,i1,i2],FpOk X pins (upd H s.heap.objs.size (.tup [x,y])) b:=fun b hb => by
      obtain ⟨f0,f1⟩:=hf b hb
      exact ⟨by rw [upd_ne (Nat.ne_of_lt (lt b hb))]; exact f0,f1⟩
    refine ⟨_,rfl,wpAny_letOwnedTupleGo_zip (s:={ s with heap:=h',toks:=s.toks }) hz' fun h2' hz2 sb => ?_⟩
    have I2 : Inv X pins σ (upd H s.heap.objs.size (.tup [x,y])) { s with heap:=h2',toks:=s.toks }:=turnedL (s:={ s with heap:=h',toks:=s.toks }) (t':=s.toks) (ch:=[z,TI,TO,i1,i2]) I1 (fun b o hb q => (sb.2 b (fun z => hb (by simp [z]))).trans q) hf1
    refine ⟨.ref s.heap.objs.size,_,I2,rfl,⟨_,x,y,I.fresh,rfl,rfl,fun ys hy => by rw [I.list_inj hy hq]; exact hx,fun ys' hy' => by rw [I.list_inj hy' hq2]; exact hy⟩,⟨hz2,(sb.2 TI D.TIz).trans (hk TI _ D.TIz D.TITO D.TIi1 D.TIi2 h1),⟨u,v,(sb.2 TO D.TOz).trans hTO'⟩,h3'.at fun o y => (sb.2 i1 D.i1z).trans y,h4'.at fun o y => (sb.2 i2 D.i2z).trans y⟩,fun b hb => (hf1 b hb).1⟩
  done:=by
    intro X hP hw hK hc i pins s σ H E I hf st hg
    subst hP hw hK
    obtain ⟨hz,h1,⟨u0,v0,h2⟩,h3,h4⟩:=st
    obtain ⟨xs,ys,hq,hq2,hend⟩:=hg
    obtain ⟨its,rv,p,_⟩:=I.list hq
    obtain ⟨its2,rv2,p2,_⟩:=I.list hq2
    have hl:=rv.length
    have hl2:=rv2.length
    exact wpAny_pyNext_zip_end (I.ok.hd hc) D hz h1 h2 h3 h4 p.isList p2.isList (by rcases hend with q | q; exact .inl (by simp; omega); exact .inr (by simp; omega)) fun h' eb => ⟨rfl,turnedL (t':=s.toks) (ch:=[z,TI,TO,i1,i2]) I (fun b o hb q => eb b o (fun z => hb (by simp [z])) (fun z => hb (by simp [z])) (fun z => hb (by simp [z])) (fun z => hb (by simp [z])) q) hf⟩
  self:=fun _ _ _ _ _ st h => wpAny_pyIter_zip st.1 h
section
variable {X : Cx} {elts : List Expr} {x1 : Nat} {tpos : Pos} {l m : Expr} {ta : TA} {p pos : Pos}
def iZip (K : PySem.W.Frag) (ta : TA) : TI:=fun σ H R => ta σ H fun vs H1 => ∃ a b,vs = [.ref a,.ref b] ∧ (∃ xs,SqL K H1 a xs) ∧ (∃ ys,SqL K H1 b ys) ∧ R (Itz K a b) H1
theorem pi_zip (hm : X.mg "zip" = none) (ha : PA X [l,m] ta) (hg : Gl X "zip" := by rfl) (hs : starEach [l,m] X.env = [(false,eval l X.env),(false,eval m X.env)]:=by rfl) (hs2 : starEach [m] X.env = [(false,eval m X.env)]:=by rfl) : PI X (.Tuple elts x1 tpos) (.Call (.Name "zip" p) [l,m] [] pos) (iZip X.K ta):=by
  intro pins s σ H R I h
  refine Call_ (ld_blt I hg hm boot_zip' (PyProof.Rows.callWith_type1 (thn (ha pos pins s σ H _ I h) fun us s1 ⟨vs,H1,I1,r1,q1⟩ => ?_) (by rw [hs,hs2]) (by rw [hs2]; rfl)))
  obtain ⟨a,b,e,⟨xs,hq⟩,⟨ys,hq2⟩,q⟩:=q1
  subst e
  obtain ⟨u,v,rfl,ru,rv'⟩:=vals2 r1
  cases ru
  cases rv'
  obtain ⟨its,rv,pl,hz⟩:=I1.list hq
  obtain ⟨its2,rv2,pl2,hz2⟩:=I1.list hq2
  have la : a < s1.heap.objs.size:=by obtain ⟨o,e,_⟩:=pl.isList; exact Heap.lt_size e
  have lb : b < s1.heap.objs.size:=by obtain ⟨o,e,_⟩:=pl2.isList; exact Heap.lt_size e
  refine call_zip_2 pl.isList pl2.isList fun h' hzz hTI hTO h1 h2 hsz hk => ?_
  have I2 : Inv X pins σ H1 { s1 with heap:=h' }:=I1.kept (t':=s1.toks) hk
  refine wpAny_pyIter_zip (s:={ s1 with heap:=h' }) hzz ⟨_,[s1.heap.objs.size + 4,s1.heap.objs.size + 2,s1.heap.objs.size + 3,s1.heap.objs.size,s1.heap.objs.size + 1],_,_,H1,rfl,I2,turn_zip (a:=a) (b:=b) (zipApart_new la lb),⟨hzz,hTI,⟨_,_,hTO⟩,h1,h2⟩,fun c hc => ?_,q⟩
  simp only [List.mem_cons,List.not_mem_nil,or_false] at hc
  rcases hc with rfl | rfl | rfl | rfl | rfl
  · exact I1.fpOk (by omega) (I1.hok.fresh (by omega))
  · exact I1.fpOk (by omega) (I1.hok.fresh (by omega))
  · exact I1.fpOk (by omega) (I1.hok.fresh (by omega))
  · exact I1.fpOk (Nat.le_refl _) (I1.hok.fresh (Nat.le_refl _))
  · exact I1.fpOk (by omega) (I1.hok.fresh (by omega))
end
def Itv (K : PySem.W.Frag) (a : Addr) (n : Nat) : It :=
  ⟨fun i H => ∃ xs x,SqL K H a xs ∧ xs.length = n ∧ i < n ∧ xs[n - 1 - i]? = some x,fun i H x H' => H' = H ∧ ∀ xs,SqL K H a xs → xs[n - 1 - i]? = some x,fun i H => n ≤ i⟩
theorem turn_rev {P : Program} {w : World} {K : PySem.W.Frag} {tg : Expr} (a it : Addr) (n : Nat) : Turn P w K tg (Itv K a n) [it] it (fun i h => i ≤ n ∧ h.IsRevIter it a ((n : Int) - 1 - (i : Int))) where
  mem:=by simp
  obj:=fun i h st b hb => by
    have e : b = it:=by simpa using hb
    subst e
    obtain ⟨_,o,e,c,d⟩:=st
    exact ⟨o,e,fun v z => by rw [d] at z; cases z⟩
  keep:=fun i h h' st k => ⟨st.1,st.2.at fun o e => k it (by simp) o e⟩
  item:=by
    intro X hP hw hK hc i pins s σ H E I hf st hg
    subst hP hw hK
    obtain ⟨xs,x,hq,hn,hi,hx⟩:=hg
    obtain ⟨its,rv,p,hz⟩:=I.list hq
    obtain ⟨u,hu,ru⟩:=rv.get hx
    obtain ⟨f0,f1,f2,f3,f4,f5⟩:=hf it (by simp)
    have st2:=st.2
    rw [show (n : Int) - 1 - (i : Int) = ((n - 1 - i : Nat) : Int) by omega] at st2
    refine wpAny_pyNext_rev_item st2 p.isList (x:=u) (by simpa using hu) fun h' st' sb => ?_
    have I1 : Inv X pins σ H { s with heap:=h' }:=I.turned (t':=s.toks) (fun b o hb e => (sb.2 b hb).trans e) f0 f1 f3 f4 f5
    rw [show ((n - 1 - i : Nat) : Int) - 1 = (n : Int) - 1 - ((i + 1 : Nat) : Int) by omega] at st'
    obtain ⟨o,e,c,d⟩:=id st'
    exact ⟨u,rfl,go_of (s:={ s with heap:=h' }) e c d (by decide) ⟨x,H,I1,ru,⟨rfl,fun ys hy => by rw [I.list_inj hy hq]; exact hx⟩,⟨by omega,st'⟩,fun b hb => (hf b hb).1⟩⟩
  done:=by
    intro X hP hw hK hc i pins s σ H E I hf st hg
    subst hP hw hK
    obtain ⟨f0,f1,f2,f3,f4,f5⟩:=hf it (by simp)
    have hg' : n ≤ i:=hg
    have st2:=st.2
    have hi:=st.1
    rw [show (n : Int) - 1 - (i : Int) = -1 by omega] at st2
    exact wpAny_pyNext_rev_end (I.ok.hd hc) st2 fun h' eb => ⟨rfl,I.turned (t':=s.toks) (fun b o hb e => eb b o hb e) f0 f1 f3 f4 f5⟩
  self:=fun _ _ _ _ _ st h => wpAny_pyIter_revIter st.2 h
section
variable {X : Cx} {tg l : Expr} {ta : TA} {p pos : Pos}
def iRev (K : PySem.W.Frag) (ta : TA) : TI:=fun σ H R => ta σ H fun vs H1 => ∃ a xs,vs = [.ref a] ∧ SqL K H1 a xs ∧ R (Itv K a xs.length) H1
theorem pi_rev (hm : X.mg "reversed" = none) (ha : PA X [l] ta) (hg : Gl X "reversed" := by rfl) (hs : starEach [l] X.env = [(false,eval l X.env)]:=by rfl) : PI X tg (.Call (.Name "reversed" p) [l] [] pos) (iRev X.K ta):=by
  intro pins s σ H R I h
  refine Call_ (ld_blt I hg hm boot_rev' (PyProof.Rows.callWith_type1 (thn (ha pos pins s σ H _ I h) fun us s1 ⟨vs,H1,I1,r1,q1⟩ => ?_) hs rfl))
  obtain ⟨a,xs,e,hq,q⟩:=q1
  subst e
  obtain ⟨u,rfl,ru⟩:=vals1 r1
  cases ru
  obtain ⟨its,rv,pl,hz⟩:=I1.list hq
  have hl:=rv.length
  refine call_reversed_list pl.isList ?_
  have hit : (s1.heap.push (revObj a ((its.toArray.size : Int) - 1))).IsRevIter s1.heap.objs.size a ((xs.length : Int) - 1 - ((0 : Nat) : Int)):=⟨_,Heap.get?_push_size _ rfl,rfl,by rw [hl]; simp [revObj]⟩
  refine wpAny_pyIter_revIter (s:={ s1 with heap:=s1.heap.push (revObj a ((its.toArray.size : Int) - 1)) }) hit ⟨_,[s1.heap.objs.size],_,_,H1,rfl,I1.kept (t':=s1.toks) fun b o e => Heap.get?_push_of_some _ e,turn_rev a _ xs.length,⟨Nat.zero_le _,hit⟩,fun b hb => ?_,q⟩
  have e : b = s1.heap.objs.size:=by simpa using hb
  subst e
  exact I1.fpOk (Nat.le_refl _) (I1.hok.fresh (Nat.le_refl _))
theorem all_get {bs : List Bool} : (List.range bs.length).all (fun i => bs.getD i false) = bs.all id:=by
  rw [Bool.eq_iff_iff,List.all_eq_true,List.all_eq_true]
  constructor
  · intro h x hx
    obtain ⟨i,hi,e⟩:=List.getElem_of_mem hx
    have:=h i (by simpa using hi)
    simp [List.getD,hi,e] at this
    simpa using this
  · intro h i hi
    have hi' : i < bs.length:=by simpa using hi
    simp [List.getD,hi']
    exact h _ (List.getElem_mem hi')
theorem call_all : CallR X (.builtin "all") (fun xs H Q => ∃ (p : Addr) (bs : List Bool),xs = [.ref p] ∧ SqL X.K H p (bs.map V.bl) ∧ X.calm = true ∧ Q (.bl (bs.all id)) H):=by
  intro pins s σ H xs us Q I r h
  obtain ⟨p,bs,rfl,hq,hc,q⟩:=h
  obtain ⟨u,rfl,ru⟩:=vals1 r
  cases ru
  obtain ⟨its,rv,pl,hz⟩:=I.list hq
  have hl:=rv.length
  rw [List.length_map] at hl
  have hlt : p < s.heap.objs.size:=by obtain ⟨o,e,_⟩:=pl.isList; exact Heap.lt_size e
  refine call_all_walk (wpAny_pyIter_list pl.isList ?_)
  refine ⟨s.heap.objs.size,_,_,its.toArray.size,_,_,fun i => bs.getD i false,rfl,Walks.list (show X.A.in1.handled = none from I.ok.hd hc) s.heap.objs.size p (Nat.ne_of_lt hlt) its.toArray,?_,?_,?_⟩
  · exact ⟨⟨_,Heap.get?_push_size _ rfl,rfl,rfl⟩,by obtain ⟨o,e,r⟩:=pl.isList; exact ⟨o,Heap.get?_push_of_some _ e,r⟩⟩
  · intro i v s' Q' E' hP hQ
    have hP' : its[i]? = some v:=by simpa using hP
    have hi : i < bs.length:=by have:=(List.getElem?_eq_some_iff.mp hP').1; omega
    have hb : (bs.map V.bl)[i]? = some (.bl bs[i]):=by simp [hi]
    obtain ⟨v',hv',rb⟩:=rv.get hb
    rw [hP'] at hv'
    cases hv'
    cases rb
    refine wpAny_truthy_bool ?_
    simpa [List.getD,hi] using hQ
  · intro h' tk hk
    refine ⟨.bl (bs.all id),H,I.kept (t':=tk) fun b o e => hk b o ?_ (Heap.get?_push_of_some _ e),?_,q⟩
    · intro hb
      have e2 : b = s.heap.objs.size:=by simpa using hb
      exact absurd (Heap.lt_size e) (by rw [e2]; exact Nat.lt_irrefl _)
    · show Value.bool _ = Value.bool _
      rw [show its.toArray.size = bs.length by simp; omega,all_get]
theorem p_all {K : PySem.W.Frag} (hm : X.mg "all" = none) (hc : X.calm = true) (ha : PA X [l] ta) (hg : Gl X "all" := by rfl) (hst : starEach [l] X.env = (false,eval l X.env) :: starEach [] X.env:=by rfl) (hK : X.K = K:=by rfl) :
    PE X (.Call (.Name "all" p) [l] [] pos) (tCB (fun xs H Q => ∃ (p : Addr) (bs : List Bool),xs = [.ref p] ∧ SqL K H p (bs.map V.bl) ∧ Q (.bl (bs.all id)) H) ta):=by
  subst hK
  refine pe_callB (r:=fun xs H Q => ∃ (p : Addr) (bs : List Bool),xs = [.ref p] ∧ SqL X.K H p (bs.map V.bl) ∧ Q (.bl (bs.all id)) H) (fun pins s σ H xs us Q I r h => ?_) hg hm boot_all' ha (he:=hst)
  obtain ⟨p,bs,e,hq,q⟩:=h
  exact call_all pins s σ H xs us Q I r ⟨p,bs,e,hq,hc,q⟩
end
end L3

namespace K05
open PySem L2 L3
def top (i : Nat) : Stmt:=PySem.Challenge.pw_fewpegs_k05_the_pile.main.body.getD i (.Pass ⟨0,0,0,0⟩)
def rkAt (rk : List Int) (l : Int) : Int:=rk.getD l.toNat 0
def lt (rk : List Int) (x y : Int) : Bool:=HT.lexLt [rkAt rk x,x] [rkAt rk y,y]
theorem lt_iff (rk : List Int) (x y : Int) : lt rk x y = true ↔ rkAt rk x < rkAt rk y ∨ (rkAt rk x = rkAt rk y ∧ x < y):=by
  unfold lt
  rw [HT.lexLt_cons]
  by_cases h : rkAt rk x = rkAt rk y
  · rw [if_pos h,HT.lexLt_cons]
    by_cases h2 : x = y
    · subst h2
      rw [if_pos rfl,HT.lexLt_nil_nil]
      constructor
      · intro z; cases z
      · intro z; omega
    · rw [if_neg h2,decide_eq_true_iff]
      omega
  · rw [if_neg h,decide_eq_true_iff]
    omega
theorem lt_irr (rk : List Int) (x : Int) : lt rk x x = false:=by
  cases h : lt rk x x with
  | false => rfl
  | true => rw [lt_iff] at h; omega
theorem lt_tr {rk : List Int} {x y z : Int} (a : lt rk x y = true) (b : lt rk y z = true) : lt rk x z = true:=by
  rw [lt_iff] at *
  omega
theorem lt_tot (rk : List Int) {x y : Int} (h : x ≠ y) : lt rk x y = true ∨ lt rk y x = true:=by
  rw [lt_iff,lt_iff]
  omega
def kyOf (rk ls : List Int) (i : Nat) : Int × Int:=(rkAt rk (ls.getD i 0),ls.getD i 0)
theorem ord_of {rk ls : List Int} (nd : ls.Nodup) : Ord ls.length (klt (kyOf rk ls)) :=
  ⟨fun i => lt_irr rk _,fun i j k a b => lt_tr (rk:=rk) a b,fun i j hi hj hne => lt_tot rk fun e => hne (by
    have e' : ls[i] = ls[j]:=by simpa [List.getD,hi,hj] using e
    exact (List.getElem_inj nd).mp e')⟩
structure Txt (K : PySem.W.Frag) (mg : Str → Option Value) : Prop where
  isi : mg "isinstance" = none
  int : mg "int" = none
  bool : mg "bool" = none
  list : mg "list" = none
  len : mg "len" = none
  range : mg "range" = none
  sorted : mg "sorted" = none
  min : mg "min" = none
  all : mg "all" = none
  zip : mg "zip" = none
  rev : mg "reversed" = none
  enum : mg "enumerate" = none
  tuple : mg "tuple" = none
section
variable {P : Program} {w : World} {K : PySem.W.Frag} {mg : Str → Option Value} {base : Heap}
def WholeV (K : PySem.W.Frag) (H : Hp) (x : V) (b : Bool) : Prop:=∃ t b1 b2,TyOf K H x t ∧ PySem.W.kitOne K t (.type "int") = some b1 ∧ PySem.W.kitOne K t (.type "bool") = some b2 ∧ b = (b1 && !b2)
theorem whole_int {H : Hp} (i : Int) : WholeV K H (.int i) true:=⟨_,true,false,.int i,rfl,rfl,rfl⟩
theorem whole_bl {H : Hp} (c : Bool) : WholeV K H (.bl c) false:=⟨_,true,true,.bl c,rfl,rfl,rfl⟩
theorem whole_non {H : Hp} : WholeV K H .non false:=⟨_,false,false,.non,rfl,rfl,rfl⟩
theorem whole_str {H : Hp} (x : Str) : WholeV K H (.str x) false:=⟨_,false,false,.str x,rfl,rfl,rfl⟩
theorem whole_lst {H : Hp} {a : Addr} {xs : List V} (e : H a = some (.lst xs)) : WholeV K H (.ref a) false:=⟨_,false,false,.lst e,rfl,rfl,rfl⟩
theorem whole_tup {H : Hp} {a : Addr} {xs : List V} (e : H a = some (.tup xs)) : WholeV K H (.ref a) false:=⟨_,false,false,.tup e,rfl,rfl,rfl⟩
def spWhole (K : PySem.W.Frag) : Sp:=fun vs H Q _ => ∃ x b,vs = [x] ∧ WholeV K H x b ∧ Q (.bl b) H
theorem sc1 : FnScope ["thing"] ["thing"] (defScope (top 10)):=⟨rfl,rfl,rfl,by decide +kernel,rfl,by decide +kernel,by decide +kernel⟩
theorem f_is_whole (D : Def K mg "is_whole" (top 10) ["thing"]) (T : Txt K mg) : Fu P w K mg base CX0 1 "is_whole" ["thing"] (spWhole K):=by
  refine D.fu sc1 (fun vs H Q E h => ?_) (fun f cdv A outer s H vs Q E hr h => ?_)
  · obtain ⟨x,b,rfl,_⟩:=h
    rfl
  · obtain ⟨x,b,rfl,⟨t,b1,b2,ty,e1,e2,rfl⟩,k⟩:=h
    refine ⟨_,pss_one (ps_ret (pe_and (p_isi T.isi T.int boot_int' (pv 0)) (pe_one (pe_not (p_isi T.isi T.bool boot_bool' (pv 0)))))),?_⟩
    refine ⟨_,rfl,x, "int",t,b1,rfl,ty,e1,b1,rfl,?_⟩
    cases b1 with
    | false => exact iteF k
    | true =>
      refine iteT ?_
      exact ⟨_,rfl,x, "bool",t,b2,rfl,ty,e2,b2,rfl,k⟩
theorem sc8 : FnScope ["_law_found"] ["_law_found"] (defScope (top 33)):=⟨rfl,rfl,rfl,by decide +kernel,rfl,by decide +kernel,by decide +kernel⟩
theorem f_law_whole (D : Def K mg "_law_whole" (top 33) ["_law_found"]) (T : Txt K mg) : Fu P w K mg base CX0 1 "_law_whole" ["_law_found"] (spWhole K):=by
  refine D.fu sc8 (fun vs H Q E h => ?_) (fun f cdv A outer s H vs Q E hr h => ?_)
  · obtain ⟨x,b,rfl,_⟩:=h
    rfl
  · obtain ⟨x,b,rfl,⟨t,b1,b2,ty,e1,e2,rfl⟩,k⟩:=h
    refine ⟨_,pss_one (ps_ret (pe_and (p_isi T.isi T.int boot_int' (pv 0)) (pe_one (pe_not (p_isi T.isi T.bool boot_bool' (pv 0)))))),?_⟩
    refine ⟨_,rfl,x, "int",t,b1,rfl,ty,e1,b1,rfl,?_⟩
    cases b1 with
    | false => exact iteF k
    | true =>
      refine iteT ?_
      exact ⟨_,rfl,x, "bool",t,b2,rfl,ty,e2,b2,rfl,k⟩
def spStanding (K : PySem.W.Frag) : Sp:=fun vs H Q _ => ∃ a rk l,vs = [.ref a,.int l] ∧ LI K H a rk ∧ 0 ≤ l ∧ l < rk.length ∧ ∀ p,H p = none → Q (.ref p) (upd H p (.tup [.int (rkAt rk l),.int l]))
theorem sc2 : FnScope ["ranks", "line"] ["ranks", "line"] (defScope (top 11)):=⟨rfl,rfl,rfl,by decide +kernel,rfl,by decide +kernel,by decide +kernel⟩
theorem f_standing (D : Def K mg "standing" (top 11) ["ranks", "line"]) : Fu P w K mg base CX0 1 "standing" ["ranks", "line"] (spStanding K):=by
  refine D.fu sc2 (fun vs H Q E h => ?_) (fun f cdv A outer s H vs Q E hr h => ?_)
  · obtain ⟨a,rk,l,rfl,_⟩:=h
    rfl
  · obtain ⟨a,rk,l,rfl,hq,h0,h1,k⟩:=h
    refine ⟨_,pss_one (ps_ret (pe_tup (pa_cons (pe_ix ix_list (pv 0) (pv 1) (fun _ _ => rfl)) (pa_cons (pv 1) pa_nil)))),?_⟩
    exact ⟨_,rfl,_,rfl,a,_,_,_,rfl,rfl,hq,atI_int h0 h1,_,rfl,(by show 2 ≤ sizeLine; decide),fun p hp => k p hp⟩
def lamAt (st : Stmt) : Pos:=match defBody st with
  | [.Return (some (.Call _ _ (⟨_,.Lambda _ _ _ p,_⟩ :: _) _)) _] => p
  | _ => ⟨0,0,0,0⟩
def q5 : Str:=(("first_of" : Str) ++ ".<locals>.") ++ "<lambda>"
theorem free_of (l : List (Str × NameKind)) (fvs : List Str) (h : (l.all fun y => y.2 != .free || fvs.contains y.1) = true) : ∀ x,l.lookup x = some .free → x ∈ fvs:=fun x e => by
  have:=List.all_eq_true.mp h _ (PySem.mem_of_lookup e)
  simpa using this
theorem key_rd {P4 a : Addr} {H : Hp} {rk ls : List Int} {pos : Pos} {q : Str} (hq : LI K H a rk) (hl : ∀ l ∈ ls,0 ≤ l ∧ l < rk.length) (hT : Tab H P4 pos q) :
    KeyRd P4 (tCall (spStanding K) [] E0 (tCons (tVar 1) (tCons (tVar 0) tNil))) [.ref a] (ls.map V.int) (kyOf rk ls) H:=by
  intro i v H2 hx kp
  rw [List.getElem?_map] at hx
  cases e : ls[i]? with
  | none => rw [e] at hx; cases hx
  | some l =>
    rw [e] at hx; cases hx
    have hb:=hl l (List.mem_of_getElem? e)
    have eg : ls.getD i 0 = l:=by simp [List.getD,e]
    refine ⟨_,rfl,_,rfl,a,rk,l,rfl,kp.seq hT hq,hb.1,hb.2,fun p hp => ⟨p,rfl,Same.new hp,?_⟩⟩
    rw [upd_same]
    simp only [kyOf,eg]
def First (rk ls : List Int) : V → Prop
  | .non => ls = []
  | .int m => m ∈ ls ∧ ∀ l ∈ ls,l ≠ m → lt rk m l = true
  | _ => False
def spFirstOf (K : PySem.W.Frag) (P5 : Addr) : Sp:=fun vs H Q _ => ∃ a b rk ls,vs = [.ref a,.ref b] ∧ LI K H a rk ∧ LI K H b ls ∧ ls.Nodup ∧ (∀ l ∈ ls,0 ≤ l ∧ l < rk.length) ∧ Tab H P5 (lamAt (top 12)) q5 ∧
  ∀ x H',Kp P5 H H' → Tab H' P5 (lamAt (top 12)) q5 → First rk ls x → Q x H'
theorem sc5 : FnScope ["ranks", "lines"] ["ranks", "lines"] (defScope (top 12)):=⟨rfl,rfl,rfl,by decide +kernel,rfl,by decide +kernel,by decide +kernel⟩
theorem f_first_of {c5 P5 : Addr} (D : DefC K mg "first_of" (top 12) ["ranks", "lines"] c5) (T : Txt K mg) (G : Fu P w K mg base CX0 1 "standing" ["ranks", "line"] (spStanding K)) (hC : PySem.W.CodeHd base c5 P5) (hB : BMod mg base) :
    Fu P w K mg base CX0 4 "first_of" ["ranks", "lines"] (spFirstOf K P5):=by
  refine D.fu sc5 (fun vs H Q E h => ?_) (fun f A outer s H vs Q E hr h => ?_)
  · obtain ⟨a,b,rk,ls,rfl,_⟩:=h
    rfl
  · obtain ⟨a,b,rk,ls,rfl,hqa,hqb,nd,hl,hT,k⟩:=h
    refine ⟨_,pss_one (ps_ret (pe_minK (k:=1) (P:=P5) (c:=c5) (p := "line") (fvs:=["ranks"]) (js:=[0]) (cl:=[("ranks",s.heap.objs.size + 1)]) rfl hr T.min (pv 1) ?L fun f' c' A' s'' H'' hr' => pc G hr' pass0 (pa_cons (pv 1) (pa_cons (pv 0) pa_nil)))),?_⟩
    case L =>
      refine ⟨⟨rfl,rfl,rfl,by decide +kernel,rfl,free_of _ _ (by decide +kernel),by decide +kernel⟩,rfl,hC,hB,rfl,rfl,fun _ _ _ _ _ _ => rfl,fun x hx => ?_,fun x y c h1 h2 => ?_,fun x c h1 => ?_,fun x hx => ?_,rfl⟩
      · have e : x = "ranks" := by simpa using hx
        subst e
        exact ⟨_,rfl,rfl⟩
      · have e1:=PySem.mem_of_lookup h1
        have e2:=PySem.mem_of_lookup h2
        simp at e1 e2
        exact e1.1.trans e2.1.symm
      · have e1:=PySem.mem_of_lookup h1
        simp at e1
        exact ⟨"ranks",by rw [e1.2]; rfl⟩
      · have e : x = "ranks" := by simpa using hx
        subst e
        exact .inl rfl
    refine ⟨_,rfl,b,ls.map V.int,[.ref a],kyOf rk ls,rfl,hqb,rfl,hT,by rw [List.length_map]; exact ord_of nd,key_rd hqa hl hT,fun H2 i x kp hT2 hx hle => ?_,fun H2 kp hT2 e => ?_⟩
    · rw [List.length_map] at hle
      rw [List.getElem?_map] at hx
      cases e : ls[i]? with
      | none => rw [e] at hx; cases hx
      | some m =>
        rw [e] at hx; cases hx
        refine k _ H2 kp hT2 ⟨List.mem_of_getElem? e,fun l hml hne => ?_⟩
        obtain ⟨j,hj,ej⟩:=List.getElem_of_mem hml
        have eg : ls.getD i 0 = m:=by simp [List.getD,e]
        have egj : ls.getD j 0 = l:=by simp [List.getD,hj,ej]
        have q:=hle.2 j hj fun z => hne (by rw [← egj,← eg,z])
        have q' : lt rk (ls.getD i 0) (ls.getD j 0) = true:=q
        rwa [eg,egj] at q'
    · exact k .non H2 kp hT2 (show ls = [] by simpa using e)
end
end K05

namespace L3
open PySem PySem.Spec PyProof.Rows L2
theorem ite_join {c : Prop} [Decidable c] {T : Prop} {N : L2.St → Hp → Prop} {σ : L2.St} {H : Hp} (M : L2.St → Hp → Prop) (h1 : c → (∀ σ H,M σ H → N σ H) → T) (h2 : ¬ c → M σ H) (hN : ∀ σ H,M σ H → N σ H) : if c then T else N σ H:=by
  by_cases hc : c
  · rw [if_pos hc]; exact h1 hc hN
  · rw [if_neg hc]; exact hN _ _ (h2 hc)
theorem pe_notT {X : Cx} {a : Expr} {ta : TE} {pos : Pos} (ha : PE X a ta) : PE X (.UnaryOp .Not a pos) (fun σ H Q => ta σ H fun x H1 => ∃ k,TruV X.K x H1 k ∧ Q (.bl (!k)) H1):=by
  intro pins s σ H Q I h
  refine UnaryOp_ (thn (ha pins s σ H _ I h) fun v s1 ⟨x,H1,I1,r1,q1⟩ => ?_)
  exact not_of (thn (tru_ok pins s1 σ H1 x v (fun k H2 => Q (.bl (!k)) H2) I1 r1 q1) fun k s2 ⟨H2,I2,q2⟩ => ⟨.bl (!k),H2,I2,rfl,q2⟩)
theorem tru_lst {K : PySem.W.Frag} {H : Hp} {p : Addr} {ns : List Int} (h : H p = some (.lst (ns.map V.int))) : TruV K (.ref p) H (!ns.isEmpty):=.inl ⟨_,SqL.of h,by cases ns <;> rfl⟩
theorem cut_take (ns : List Int) (n : Nat) : cutV (ns.map V.int) none (some (n : Int)) = (ns.take n).map V.int:=by
  unfold cutV
  rw [HT.sIx_none,HT.sIx_nat,List.length_map,Nat.sub_zero,List.drop_zero,← List.map_take]
  congr 1
  by_cases h : n ≤ ns.length
  · rw [Nat.min_eq_left h]
  · rw [Nat.min_eq_right (by omega),List.take_of_length_le (Nat.le_refl _),List.take_of_length_le (by omega)]
theorem cut_drop (ns : List Int) (n : Nat) : cutV (ns.map V.int) (some (n : Int)) none = (ns.drop n).map V.int:=by
  unfold cutV
  rw [HT.sIx_none,HT.sIx_nat,List.length_map,← List.map_drop,← List.map_take]
  congr 1
  by_cases h : n ≤ ns.length
  · rw [Nat.min_eq_left h,List.take_of_length_le (by rw [List.length_drop]; omega)]
  · rw [Nat.min_eq_right (by omega),List.drop_of_length_le (Nat.le_refl _),List.drop_of_length_le (by omega)]
    simp
theorem cut_dropI (ns : List Int) {n : Int} (h : 0 ≤ n) : cutV (ns.map V.int) (some n) none = (ns.drop n.toNat).map V.int:=by
  have:=cut_drop ns n.toNat
  rwa [Int.toNat_of_nonneg h] at this
def KeepBut (S : List Addr) (H H' : Hp) : Prop:=∀ x o,H x = some o → x ∉ S → H' x = some o
theorem KeepBut.refl (S : List Addr) (H : Hp) : KeepBut S H H:=fun _ _ e _ => e
theorem KeepBut.trans {S : List Addr} {H H1 H2 : Hp} (a : KeepBut S H H1) (b : KeepBut S H1 H2) : KeepBut S H H2:=fun x o e n => b x o (a x o e n) n
theorem KeepBut.upd {S : List Addr} {H H1 : Hp} {x : Addr} {o : HO} (a : KeepBut S H H1) (h : x ∈ S ∨ H x = none) : KeepBut S H (upd H1 x o):=fun y u e n => by
  rw [upd_ne]
  · exact a y u e n
  · intro z
    subst z
    rcases h with h | h
    · exact n h
    · rw [h] at e; cases e
theorem KeepBut.more {S T : List Addr} {H H1 : Hp} (a : KeepBut S H H1) (h : ∀ x ∈ S,x ∈ T) : KeepBut T H H1:=fun y u e n => a y u e fun z => n (h y z)
theorem KeepBut.kp {P : Addr} {S : List Addr} {H H1 : Hp} (a : Kp P H H1) (h : P ∈ S) : KeepBut S H H1:=fun y u e n => a y u e fun z => n (z ▸ h)
section
variable {K : PySem.W.Frag}
theorem Sh.same {H H' : Hp} (sm : Same H H') {x : V} {d : PyData} (h : Sh K H x d) : Sh K H' x d:=by
  refine Sh.rec (motive_1:=fun x d _ => Sh K H' x d) (motive_2:=fun xs ds _ => ShL K H' xs ds) ?_ ?_ ?_ ?_ ?_ ?_ ?_ ?_ h
  · exact .non
  · exact fun b => .bl b
  · exact fun i => .int i
  · exact fun x => .str x
  · exact fun hq _ ih => .lst (sm.seq hq) ih
  · intro a xs ds hq _ ih
    refine .tup ?_ ih
    rcases hq with (hq | ⟨o,hq⟩) | hq
    · exact .inl (.inl (sm _ _ hq))
    · exact .inl (.inr ⟨o,sm _ _ hq⟩)
    · exact .inr hq
  · exact .nil
  · exact fun _ _ i1 i2 => .cons i1 i2
theorem ShL.same {H H' : Hp} (sm : Same H H') : ∀ {xs : List V} {ds : List PyData},ShL K H xs ds → ShL K H' xs ds
  | _,_,.nil => .nil
  | _,_,.cons h r => .cons (Sh.same sm h) (ShL.same sm r)
theorem ShL.snoc {H : Hp} : ∀ {xs : List V} {ds : List PyData} {x : V} {d : PyData},ShL K H xs ds → Sh K H x d → ShL K H (xs ++ [x]) (ds ++ [d])
  | _,_,_,_,.nil,h => .cons h .nil
  | _,_,_,_,.cons a r,h => .cons a (ShL.snoc r h)
theorem vis_of (l : List (Str × NameKind)) (fvs : List Str) (h : (l.all fun y => (y.2 != .free && y.2 != .cell) || fvs.contains y.1) = true) : ∀ x,(l.lookup x = some .cell ∨ l.lookup x = some .free) → x ∈ fvs:=fun x e => by
  rcases e with e | e
  · have:=List.all_eq_true.mp h _ (PySem.mem_of_lookup e)
    simpa using this
  · have:=List.all_eq_true.mp h _ (PySem.mem_of_lookup e)
    simpa using this
end
theorem iteFe {b : Bool} {A B : Prop} (e : b = false) (h : B) : if b = true then A else B:=by subst e; exact iteF h
theorem iteTe {b : Bool} {A B : Prop} (e : b = true) (h : A) : if b = true then A else B:=by subst e; exact iteT h
theorem pg_tupK {X : Cx} {es : List Expr} {k : Nat} {t : TGs} {n : Nat} {K : PySem.W.Frag} {pos : Pos} (hc : X.calm = true) (h : PGs X es t) (hn : (assignEach es X.env).length = n:=by rfl) (hst : (assignEach es X.env).findIdx? (·.1) = none:=by rfl) (hK : X.K = K:=by rfl) : PG X (.Tuple es k pos) (gTup K n t):=by
  subst hK
  exact pg_tup hc h hn hst
theorem pe_ixK {X : Cx} {a b : Expr} {ta tb : TE} {K : PySem.W.Frag} {pos : Pos} (ha : PE X a ta) (hb : PE X b tb) (hs : PlainIx b) (hK : X.K = K:=by rfl) : PE X (.Subscript a b pos) (tOp (rIxL K) ta tb):=by
  subst hK
  exact pe_ix ix_list ha hb hs
theorem p_inK {X : Cx} {a b : Expr} {ta tb : TE} {K : PySem.W.Frag} {pos : Pos} (ha : PE X a ta) (hb : PE X b tb) (hm : behindInMarks .In b = false) (hK : X.K = K:=by rfl) : PE X (.Compare a [.In] [b] pos) (tOp (rIn K false) ta tb):=by
  subst hK
  exact pe_cmpR op_in_seq ha hb hm
structure KDefD (K : PySem.W.Frag) (C : Addr) (qual : Str) (st : Stmt) (ps : List Str) (ds : List Value) : Prop where
  ex : ∃ (f : Addr) (oc : Value) (od : Option Addr) (dV kV doc pm : Value) (an : Option Addr) (cdv ct : Value) (osl : Array (Option Value)),K.lookup f = some ⟨oc,od,.func (PySem.W.fnOf "__init__" qual (defArgs st) (defBody st) (defScope st) dV kV doc pm an cdv ct),osl⟩ ∧ PySem.W.codeIn K cdv qual = true ∧ Mk K C f ∧
    Binds K (PySem.W.fnOf "__init__" qual (defArgs st) (defBody st) (defScope st) dV kV doc pm an cdv ct) ps ds
structure FuKD (P : Program) (w : World) (K : PySem.W.Frag) (mg : Str → Option Value) (base : Heap) (CX : CXT) (k : Nat) (C : Addr) (ps : List Str) (ds : List Value) (sp : Sp) : Prop where
  ex : ∃ f fd,FnOk P w K mg base CX k f fd ps sp ∧ Mk K C f ∧ Binds K fd ps ds
theorem KDefD.fu {P : Program} {w : World} {K : PySem.W.Frag} {mg : Str → Option Value} {base : Heap} {C : Addr} {qual : Str} {st : Stmt} {N ps : List Str} {ds : List Value} {k : Nat} {sp : Sp} (D : KDefD K C qual st ps ds) (S : FnScope N ps (defScope st)) (len : ∀ vs H Q E,sp vs H Q E → vs.length = ps.length)
    (hbody : ∀ (f : Addr) (cdv : Value) (A : Around) (outer : List Env) (s : Shared) (H : Hp) (vs : List V) (Q : VK) (E : XK),Room k (A.deeper (envOfC qual (defScope st) s.heap.objs.size f cdv)) → sp vs H Q E →
      ∃ t,PSs (cxOf CX0 P w K mg base N qual (defScope st) f cdv A outer s H E).nox (defBody st) t ∧ t { nx:=fun _ H' => Q .non H',rt:=Q } (start N vs) H) : FuKD P w K mg base CX0 (k + 1) C ps ds sp:=by
  obtain ⟨f,oc,od,dV,kV,doc,pm,an,cdv,ct,osl,lk,hcd,hm,hb⟩:=D.ex
  refine ⟨f,_,fn_of lk hcd S len fun A outer s H vs Q E hr hsp => ?_,hm,hb⟩
  obtain ⟨t,h,q⟩:=hbody f cdv A outer s H vs Q E hr hsp
  exact ⟨t,h.nox,q⟩
theorem KDefD.of {K : PySem.W.Frag} {C : Addr} {qual : Str} {st : Stmt} {ps : List Str} {ds : List Value} {f td : Addr} {oc tc : Value} {od an tod : Option Addr} {osl tsl : Array (Option Value)} {kV doc pm cdv ct : Value} {items : Array Value} {tn : Nat}
    (b : ∀ (kV doc pm : Value) (an : Option Addr) (cdv ct : Value) (s : Shared) (us : List Value) (o : Obj),s.heap.get? td = some o → o.data = .seq items tn → us.length + ds.length = ps.length → BindsTo s (PySem.W.fnOf "__init__" qual (defArgs st) (defBody st) (defScope st) (.ref td) kV doc pm an cdv ct) ⟨us,[]⟩ (ps.zip (us ++ ds)))
    (mk : PySem.W.makesIn K C = true) (kc : PySem.W.keepIn K (.ref C) = true) (a : PySem.W.findIn K (.ref C) "__init__" = some (some (.ref f))) (i : PySem.W.isFn K (.ref f) = true)
    (l : K.lookup f = some ⟨oc,od,.func (PySem.W.fnOf "__init__" qual (defArgs st) (defBody st) (defScope st) (.ref td) kV doc pm an cdv ct),osl⟩) (c : PySem.W.codeIn K cdv qual = true) (l2 : K.lookup td = some ⟨tc,tod,.seq items tn,tsl⟩) : KDefD K C qual st ps ds :=
  ⟨f,oc,od,.ref td,kV,doc,pm,an,cdv,ct,osl,l,c,⟨mk,a,i,kc⟩,fun s us KX hl => b kV doc pm an cdv ct s us _ (KX _ _ l2) rfl (by rw [← hl,List.length_append])⟩
theorem pmkD {X : Cx} {CX : CXT} {j k : Nat} {C : Addr} {x : Str} {ps : List Str} {ds : List Value} {dvs : List V} {sp : Sp} {E : XK} {p pos : Pos} {e : Expr} {es : List Expr} {t : TA} (F : FuKD X.prog X.w X.K X.mg X.base CX j C ps ds sp) (hr : Room (k + 1) X.A) (hm : X.mg x = some (.ref C)) (hd : Vals dvs ds) (hx : Passes CX X E) (ha : PA X (e :: es) t) (hj : j ≤ k:=by decide) (hg : Gl X x:=by rfl) (hdb : (x == ("__debug__" : Str)) = false:=by decide)
    (he : starEach (e :: es) X.env = (false,eval e X.env) :: starEach es X.env:=by rfl) (hpl : (backTo pos (starEach es X.env)).any (·.1) = false:=by rfl) : PE X (.Call (.Name x p) (e :: es) [] pos) (tMake C sp dvs E t):=by
  obtain ⟨f,fd,G,hk,hb⟩:=F.ex
  exact pe_make hk (G.mono hj) hr hg hm hb hd hx ha hdb he hpl
theorem ixN_nat {n : Nat} {i : Int} (h0 : 0 ≤ i) (h1 : i < n) : ixN n i = some i.toNat:=by
  unfold ixN
  rw [if_pos h0,if_pos h1]
section
variable {X : Cx} {ts : List Str} {scope : Scope}
theorem site0 (h1 : closureFor scope X.env = pure []) (h2 : scope.kind = .function) (h3 : ∀ y ∈ scope.names,y.2 ≠ .cell) (h4 : ∀ y ∈ scope.names,y.2 = .local → scope.names.lookup y.1 = some .local)
    (hv : ((relabel scope X.env).names.all fun y => (y.2 != .free && y.2 != .cell) || ([] : List Str).contains y.1) = true) : CompSite X ts [] [] scope [] :=
  ⟨⟨h1,h2,h3,h4,vis_of _ _ hv,fun x hx => absurd hx (by simp),fun x c h1 => (by cases h1)⟩,fun x hx => absurd hx (by simp),fun x y c h1 h2 => (by cases h1),fun x hx => absurd hx (by simp),rfl⟩
theorem site1 {v : Str} {j : Nat} {c : Addr} (h1 : closureFor scope X.env = pure [(v,c)]) (h2 : scope.kind = .function) (h3 : ∀ y ∈ scope.names,y.2 ≠ .cell) (h4 : ∀ y ∈ scope.names,y.2 = .local → scope.names.lookup y.1 = some .local)
    (hv : ((relabel scope X.env).names.all fun y => (y.2 != .free && y.2 != .cell) || [v].contains y.1) = true) (hf : (relabel scope X.env).names.lookup v = some .cell ∨ (relabel scope X.env).names.lookup v = some .free)
    (hc : X.env.cells.lookup v = some c) (hk : X.env.kindOf v = some .cell ∨ X.env.kindOf v = some .free) (hs : X.N[j]? = some v) : CompSite X ts [v] [j] scope [(v,c)]:=by
  refine ⟨⟨h1,h2,h3,h4,vis_of _ _ hv,fun x hx => ?_,fun x d e => ?_⟩,fun x hx => ?_,fun x y d e1 e2 => ?_,fun x hx => ?_,by simp [hs]⟩
  · have e : x = v:=by simpa using hx
    subst e; exact hf
  · have e1:=PySem.mem_of_lookup e
    simp at e1
    exact ⟨v,by rw [e1.2]; exact hc⟩
  · have e : x = v:=by simpa using hx
    subst e
    exact ⟨c,by simp [List.lookup],hc⟩
  · have e1:=PySem.mem_of_lookup e1
    have e2:=PySem.mem_of_lookup e2
    simp at e1 e2
    exact e1.1.trans e2.1.symm
  · have e : x = v:=by simpa using hx
    subst e; exact hk
end
theorem comp_it {D : Addr} {H0 : Hp} {A : Nat → List V → Hp → Prop} {B : (Nat → Nat → List V → Hp → Prop) → Nat → Nat → List V → Hp → Prop} (n : Nat) (hn : n < sizeLine) (Pv : Nat → List V → Hp → Prop) (h0 : Pv 0 [] (upd H0 D (.lst []))) (hD : ∀ i ys H2,Pv i ys H2 → H2 D = some (.lst ys) ∧ ys.length ≤ i)
    (hgo : ∀ (i : Nat) (ys : List V) (H2 : Hp) (N : Nat × (Nat → Nat → List V → Hp → Prop)),i < n → Pv i ys H2 → (∀ ys' H',Pv (i + 1) ys' H' → ∃ m',m' < N.1 ∧ N.2 (i + 1) m' ys' H') → B N.2 i N.1 ys H2)
    (hend : ∀ ys H2,Pv n ys H2 → A n ys H2) :
    ∃ W : Nat → Nat → List V → Hp → Prop,(∃ m,W 0 m [] (upd H0 D (.lst []))) ∧ ∀ i m ys H2,W i m ys H2 → H2 D = some (.lst ys) ∧ ys.length < sizeLine ∧ (A i ys H2 ∨ B W i m ys H2):=by
  refine ⟨fun i m ys H => m = n - i ∧ i ≤ n ∧ Pv i ys H,⟨n,by simp,Nat.zero_le _,h0⟩,?_⟩
  rintro i m ys H2 ⟨rfl,hi,p⟩
  obtain ⟨hd,hl⟩:=hD i ys H2 p
  refine ⟨hd,by omega,?_⟩
  by_cases hlt : i < n
  · exact .inr (hgo i ys H2 (n - i,fun i m ys H => m = n - i ∧ i ≤ n ∧ Pv i ys H) hlt p fun ys' H' q => ⟨_,by show n - (i + 1) < n - i; omega,rfl,hlt,q⟩)
  · have e : i = n:=by omega
    subst e
    exact .inl (hend ys H2 p)
end L3

namespace K05
open PySem L2 L3
def M60 : Int:=10 ^ (60 : Int).toNat
theorem cpow (i j : Int) (h : (decide (0 ≤ j) && decide (j ≤ 1000000) && decide (i.natAbs < 2 ^ 64)) = true) : CPow i j:=by
  simp only [Bool.and_eq_true,decide_eq_true_iff] at h
  exact ⟨h.1.1,h.1.2,h.2⟩
theorem M60_pos : 1000000 < M60:=by decide +kernel
theorem atI_bl {bs : List Bool} {i : Int} (h0 : 0 ≤ i) (h1 : i < bs.length) : atI (bs.map V.bl) i = some (.bl (bs.getD i.toNat false)):=by
  have hi : i.toNat < bs.length:=by omega
  have:=atI_nat (xs:=bs.map V.bl) (j:=i.toNat) (v:=.bl (bs.getD i.toNat false)) (by rw [List.getElem?_map,List.getElem?_eq_getElem hi]; simp [List.getD,hi])
  rwa [Int.toNat_of_nonneg h0] at this
def lastV (pl : List Int) : V:=match pl.getLast? with
  | some x => .int x
  | none => .non
theorem last_atI {hg : List Int} {x : Int} (h : hg.getLast? = some x) : atI (hg.map V.int) (-1) = some (.int x):=by
  have hne : hg ≠ []:=by intro e; rw [e] at h; cases h
  have hl:=List.length_pos_iff.mpr hne
  have:=atI_neg (ns:=hg) (i:=-1) (by omega) (by omega)
  rw [this]
  congr 2
  rw [List.getLast?_eq_getElem?] at h
  have e : (-1 + (hg.length : Int)).toNat = hg.length - 1:=by omega
  rw [e]
  simp [List.getD,h]
section
variable {P : Program} {w : World} {K : PySem.W.Frag} {mg : Str → Option Value} {base : Heap}
def spUpTo (K : PySem.W.Frag) : Sp:=fun vs H Q _ => ∃ (m : Int) (x : V),vs = [.int m,x] ∧ ((∃ i,x = .int i ∧ Q (.bl (decide (0 ≤ i) && decide (i ≤ m))) H) ∨ (WholeV K H x false ∧ Q (.bl false) H))
theorem sc13 : FnScope ["most", "thing"] ["most", "thing"] (defScope (top 15)):=⟨rfl,rfl,rfl,by decide +kernel,rfl,by decide +kernel,by decide +kernel⟩
theorem f_up_to (D : Def K mg "is_up_to" (top 15) ["most", "thing"]) (GW : Fu P w K mg base CX0 1 "is_whole" ["thing"] (spWhole K)) : Fu P w K mg base CX0 2 "is_up_to" ["most", "thing"] (spUpTo K):=by
  refine D.fu sc13 (fun vs H Q E h => ?_) (fun f cdv A outer s H vs Q E hr h => ?_)
  · obtain ⟨m,x,rfl,_⟩:=h
    rfl
  · obtain ⟨m,x,rfl,hq⟩:=h
    refine ⟨_,pss_one (ps_ret (pe_and (pc GW hr pass0 (pa_cons (pv 1) pa_nil)) (pe_one (pe_chain op_le op_le pe_int (pv 1) (pv 0))))),?_⟩
    rcases hq with ⟨i,rfl,q⟩ | ⟨wv,q⟩
    · refine ⟨_,rfl,_,true,rfl,whole_int i,true,rfl,iteT ⟨_,rfl,_,_,rfl,rfl,_,rfl,?_⟩⟩
      cases h1 : decide ((0 : Int) ≤ i) with
      | true =>
        rw [h1,Bool.true_and] at q
        exact iteT ⟨_,rfl,_,_,rfl,rfl,q⟩
      | false =>
        rw [h1,Bool.false_and] at q
        exact iteF q
    · exact ⟨_,rfl,_,false,rfl,wv,false,rfl,iteF q⟩
def spRank : Sp:=fun vs H Q _ => ∃ i : Int,vs = [.int i] ∧ 0 ≤ i ∧ i < M60 ∧ Q (.bl true) H
theorem sc14 : FnScope ["thing"] ["thing"] (defScope (top 16)):=⟨rfl,rfl,rfl,by decide +kernel,rfl,by decide +kernel,by decide +kernel⟩
theorem f_rank (D : Def K mg "is_rank" (top 16) ["thing"]) (GU : Fu P w K mg base CX0 2 "is_up_to" ["most", "thing"] (spUpTo K)) : Fu P w K mg base CX0 3 "is_rank" ["thing"] spRank:=by
  refine D.fu sc14 (fun vs H Q E h => ?_) (fun f cdv A outer s H vs Q E hr h => ?_)
  · obtain ⟨i,rfl,_⟩:=h
    rfl
  · obtain ⟨i,rfl,h0,h1,q⟩:=h
    refine ⟨_,pss_one (ps_ret (pc GU hr pass0 (pa_cons (pe_op op_sub (pe_op op_pow pe_int pe_int) pe_int) (pa_cons (pv 0) pa_nil)))),?_⟩
    refine ⟨_,_,rfl,rfl,cpow _ _ (by decide +kernel),_,_,rfl,rfl,_,rfl,_,_,rfl,.inl ⟨i,rfl,?_⟩⟩
    have e1 : decide ((0 : Int) ≤ i) = true:=decide_eq_true h0
    have e2 : decide (i ≤ 10 ^ (60 : Int).toNat - 1) = true:=decide_eq_true (by have : i < 10 ^ (60 : Int).toNat:=h1; omega)
    rw [e1,e2]
    exact q
def BarV (v : V) : Prop:=v = .non ∨ ∃ z : Int,v = .int z ∧ 0 ≤ z ∧ z ≤ M60
def spBar : Sp:=fun vs H Q _ => ∃ v : V,vs = [v] ∧ BarV v ∧ Q (.bl true) H
theorem sc15 : FnScope ["thing"] ["thing"] (defScope (top 17)):=⟨rfl,rfl,rfl,by decide +kernel,rfl,by decide +kernel,by decide +kernel⟩
theorem f_bar (D : Def K mg "is_bar" (top 17) ["thing"]) (GU : Fu P w K mg base CX0 2 "is_up_to" ["most", "thing"] (spUpTo K)) : Fu P w K mg base CX0 3 "is_bar" ["thing"] spBar:=by
  refine D.fu sc15 (fun vs H Q E h => ?_) (fun f cdv A outer s H vs Q E hr h => ?_)
  · obtain ⟨v,rfl,_⟩:=h
    rfl
  · obtain ⟨v,rfl,hv,q⟩:=h
    refine ⟨_,pss_one (ps_ret (pe_or (pe_cmp (pc_isN (pv 0))) (pe_one (pc GU hr pass0 (pa_cons (pe_op op_pow pe_int pe_int) (pa_cons (pv 0) pa_nil)))))),?_⟩
    rcases hv with rfl | ⟨z,rfl,h0,h1⟩
    · exact ⟨_,rfl,true,rfl,iteT q⟩
    · refine ⟨_,rfl,false,rfl,iteF ⟨_,_,rfl,rfl,cpow _ _ (by decide +kernel),_,rfl,_,_,rfl,.inl ⟨z,rfl,?_⟩⟩⟩
      have e1 : decide ((0 : Int) ≤ z) = true:=decide_eq_true h0
      have e2 : decide (z ≤ 10 ^ (60 : Int).toNat) = true:=decide_eq_true h1
      rw [e1,e2]
      exact q
def spIsLine (K : PySem.W.Frag) : Sp:=fun vs H Q _ => ∃ (a : Addr) (rk : List Int) (x : V),vs = [.ref a,x] ∧ LI K H a rk ∧ ((∃ i,x = .int i ∧ Q (.bl (decide (0 ≤ i) && decide (i ≤ (rk.length : Int) - 1))) H) ∨ (WholeV K H x false ∧ Q (.bl false) H))
theorem sc16 : FnScope ["ranks", "thing"] ["ranks", "thing"] (defScope (top 18)):=⟨rfl,rfl,rfl,by decide +kernel,rfl,by decide +kernel,by decide +kernel⟩
theorem f_is_line (D : Def K mg "is_line" (top 18) ["ranks", "thing"]) (T : Txt K mg) (GU : Fu P w K mg base CX0 2 "is_up_to" ["most", "thing"] (spUpTo K)) : Fu P w K mg base CX0 3 "is_line" ["ranks", "thing"] (spIsLine K):=by
  refine D.fu sc16 (fun vs H Q E h => ?_) (fun f cdv A outer s H vs Q E hr h => ?_)
  · obtain ⟨a,rk,x,rfl,_⟩:=h
    rfl
  · obtain ⟨a,rk,x,rfl,hq,q⟩:=h
    refine ⟨_,pss_one (ps_ret (pc GU hr pass0 (pa_cons (pe_op op_sub (p_len T.len (pv 0)) pe_int) (pa_cons (pv 1) pa_nil)))),?_⟩
    refine ⟨_,rfl,a,_,rfl,.inl hq,_,_,rfl,rfl,_,rfl,_,_,rfl,?_⟩
    rw [List.length_map]
    exact q
theorem line_true {n : Nat} {i : Int} (h0 : 0 ≤ i) (h1 : i < n) : (decide (0 ≤ i) && decide (i ≤ (n : Int) - 1)) = true:=by
  rw [decide_eq_true h0,decide_eq_true (by omega : i ≤ (n : Int) - 1)]; rfl
def spAreRanks : Sp:=fun vs H Q _ => ∃ (a : Addr) (rk : List Int),vs = [.ref a] ∧ H a = some (.lst (rk.map V.int)) ∧ 1 ≤ rk.length ∧ rk.length ≤ 60 ∧ (∀ x ∈ rk,0 ≤ x ∧ x < M60) ∧ ∀ H',Same H H' → Q (.bl true) H'
theorem sc17 : FnScope ["thing"] ["thing"] (defScope (top 19)):=⟨rfl,rfl,rfl,by decide +kernel,rfl,by decide +kernel,by decide +kernel⟩
theorem trues {n : Nat} : (List.replicate n true).all id = true:=by simp
theorem kit_list : PySem.W.kitOne K (.type "list") (.type "list") = some true:=by unfold PySem.W.kitOne; rw [if_pos (by simp)]
theorem kit_tuple : PySem.W.kitOne K (.type "tuple") (.type "tuple") = some true:=by unfold PySem.W.kitOne; rw [if_pos (by simp)]
theorem f_are_ranks (D : Def K mg "are_ranks" (top 19) ["thing"]) (T : Txt K mg) (GR : Fu P w K mg base CX0 3 "is_rank" ["thing"] spRank) {u : Value} (hm : mg "MOST_LINES" = some u) (hu : RelV (.int 60) u) : Fu P w K mg base CX0 4 "are_ranks" ["thing"] spAreRanks:=by
  refine D.fu sc17 (fun vs H Q E h => ?_) (fun f cdv A outer s H vs Q E hr h => ?_)
  · obtain ⟨a,rk,rfl,_⟩:=h
    rfl
  · obtain ⟨a,rk,rfl,hq,l1,l2,hrk,kk⟩:=h
    refine' ⟨_,pss_cons (ps_if (pt_not (pt_val (p_isi T.isi T.list boot_list' (pv 0)))) (pss_one (ps_ret pe_bl)) pss_nil)
      (pss_one (ps_ret (pe_and (pe_chain op_le op_le pe_int (p_len T.len (pv 0)) (pe_glob rfl hm hu)) (pe_one (p_all (K:=K) T.all rfl (pa_cons (pe_comp (ts:=["part"]) (fvs:=[]) (js:=[]) (cl:=[]) rfl ?S (pi_list (pv 0)) (fun _ _ _ _ => pg_name (i:=0) (show List.Nodup (["part"] : List Str) from by decide +kernel) rfl (Or.inl rfl) (Or.inr rfl)) (fun _ _ _ _ => pif_nil)
        (fun _ _ _ _ => pc GR hr pass0 (pa_cons (pv 0) pa_nil))) pa_nil)))))),?main⟩
    case S => exact site0 rfl rfl (by decide +kernel) (by decide +kernel) rfl
    case main =>
      refine ⟨_,rfl,_, "list",_,true,rfl,.lst hq,kit_list,_,rfl,iteF ?_⟩
      refine ⟨_,rfl,a,_,rfl,.inl (SqL.of hq),_,_,rfl,rfl,_,rfl,?_⟩
      rw [List.length_map]
      have e1 : decide ((1 : Int) ≤ (rk.length : Int)) = true:=decide_eq_true (by omega)
      have e2 : decide ((rk.length : Int) ≤ 60) = true:=decide_eq_true (by omega)
      rw [e1]
      refine iteT ⟨_,_,rfl,rfl,_,rfl,?_⟩
      rw [e2]
      refine iteT ⟨_,rfl,a,rfl,⟨_,SqL.of hq⟩,[],rfl,fun d nd => ?_⟩
      refine comp_it rk.length (by rw [sizeLine_eq]; omega) (fun i ys H2 => ys = List.replicate i (.bl true) ∧ Same H H2 ∧ H2 d = some (.lst ys)) ⟨rfl,Same.new nd,upd_same⟩ (fun i ys H2 ⟨e,_,e2⟩ => ⟨e2,by rw [e]; simp⟩) ?_ ?_
      · rintro i ys H2 N hi ⟨rfl,sm,hD⟩ rest
        refine ⟨⟨_,.int rk[i],sm.seq (SqL.of hq),by rw [List.getElem?_map,List.getElem?_eq_getElem hi]; rfl⟩,?_⟩
        rintro x H3 ⟨rfl,hx⟩
        have hx':=hx _ (sm.seq (SqL.of hq))
        rw [List.getElem?_map,List.getElem?_eq_getElem hi] at hx'
        cases hx'
        have hb:=hrk _ (List.getElem_mem hi)
        refine ⟨rfl,rfl,iteT ⟨_,rfl,_,rfl,hb.1,hb.2,hD,rest _ _ ⟨by rw [List.replicate_succ'],fun b o e => ?_,upd_same⟩⟩⟩
        rw [upd_ne (ne_of_none e nd)]
        exact sm b o e
      · rintro ys H2 ⟨rfl,sm,hD⟩
        refine ⟨⟨_,sm.seq (SqL.of hq),by rw [List.length_map]; exact Nat.le_refl _⟩,d,List.replicate rk.length true,rfl,SqL.of (by rw [hD,List.map_replicate]),?_⟩
        rw [trues]
        exact kk _ sm
def spAreLines : Sp:=fun vs H Q _ => ∃ (a b : Addr) (rk ls : List Int),vs = [.ref a,.ref b] ∧ H a = some (.lst (rk.map V.int)) ∧ H b = some (.lst (ls.map V.int)) ∧ ls.length ≤ 100 ∧ (∀ x ∈ ls,0 ≤ x ∧ x < rk.length) ∧ ∀ H',Same H H' → Q (.bl true) H'
theorem sc18 : FnScope ["ranks", "thing"] ["ranks", "thing"] (defScope (top 20)):=⟨rfl,rfl,rfl,by decide +kernel,rfl,by decide +kernel,by decide +kernel⟩
theorem f_are_lines (D : Def K mg "are_lines" (top 20) ["ranks", "thing"]) (T : Txt K mg) (GL : Fu P w K mg base CX0 3 "is_line" ["ranks", "thing"] (spIsLine K)) : Fu P w K mg base CX0 4 "are_lines" ["ranks", "thing"] spAreLines:=by
  refine D.fu sc18 (fun vs H Q E h => ?_) (fun f cdv A outer s H vs Q E hr h => ?_)
  · obtain ⟨a,b,rk,ls,rfl,_⟩:=h
    rfl
  · obtain ⟨a,b,rk,ls,rfl,hq,hl,l1,hin,kk⟩:=h
    refine' ⟨_,pss_one (ps_ret (pe_and (p_isi T.isi T.list boot_list' (pv 1)) (pe_one (p_all (K:=K) T.all rfl (pa_cons (pe_comp (ts:=["part"]) (fvs:=["ranks"]) (js:=[0]) (cl:=[("ranks",s.heap.objs.size + 1)]) rfl ?S (pi_list (pv 1)) (fun _ _ _ _ => pg_name (i:=0) (show List.Nodup (["part", "ranks"] : List Str) from by decide +kernel) rfl (Or.inl rfl) (Or.inr rfl)) (fun _ _ _ _ => pif_nil)
        (fun _ _ _ _ => pc GL hr pass0 (pa_cons (pv 1) (pa_cons (pv 0) pa_nil)))) pa_nil))))),?main⟩
    case S => exact site1 rfl rfl (by decide +kernel) (by decide +kernel) rfl (.inl rfl) rfl (.inl rfl) rfl
    case main =>
      refine ⟨_,rfl,_, "list",_,true,rfl,.lst hl,kit_list,_,rfl,iteT ?_⟩
      refine ⟨_,rfl,b,rfl,⟨_,SqL.of hl⟩,[.ref a],rfl,fun d nd => ?_⟩
      refine comp_it ls.length (by rw [sizeLine_eq]; omega) (fun i ys H2 => ys = List.replicate i (.bl true) ∧ Same H H2 ∧ H2 d = some (.lst ys)) ⟨rfl,Same.new nd,upd_same⟩ (fun i ys H2 ⟨e,_,e2⟩ => ⟨e2,by rw [e]; simp⟩) ?_ ?_
      · rintro i ys H2 N hi ⟨rfl,sm,hD⟩ rest
        refine ⟨⟨_,.int ls[i],sm.seq (SqL.of hl),by rw [List.getElem?_map,List.getElem?_eq_getElem hi]; rfl⟩,?_⟩
        rintro x H3 ⟨rfl,hx⟩
        have hx':=hx _ (sm.seq (SqL.of hl))
        rw [List.getElem?_map,List.getElem?_eq_getElem hi] at hx'
        cases hx'
        have hb:=hin _ (List.getElem_mem hi)
        refine ⟨rfl,rfl,iteT ⟨_,rfl,_,rfl,a,rk,_,rfl,sm.seq (SqL.of hq),.inl ⟨_,rfl,?_⟩⟩⟩
        rw [line_true hb.1 hb.2]
        refine ⟨hD,rest _ _ ⟨by rw [List.replicate_succ'],fun b o e => ?_,upd_same⟩⟩
        rw [upd_ne (ne_of_none e nd)]
        exact sm b o e
      · rintro ys H2 ⟨rfl,sm,hD⟩
        refine ⟨⟨_,sm.seq (SqL.of hl),by rw [List.length_map]; exact Nat.le_refl _⟩,d,List.replicate ls.length true,rfl,SqL.of (by rw [hD,List.map_replicate]),?_⟩
        rw [trues]
        exact kk _ sm
def Up (ns : List Int) : Prop:=∀ i,i + 1 < ns.length → ns.getD i 0 < ns.getD (i + 1) 0
def spRises (K : PySem.W.Frag) : Sp:=fun vs H Q _ => ∃ (a : Addr) (ns : List Int),vs = [.ref a] ∧ H a = some (.lst (ns.map V.int)) ∧ ns.length ≤ 100 ∧ Up ns ∧ ∀ H',Same H H' → Q (.bl true) H'
theorem sc19 : FnScope ["numbers"] ["numbers"] (defScope (top 21)):=⟨rfl,rfl,rfl,by decide +kernel,rfl,by decide +kernel,by decide +kernel⟩
theorem f_rises (D : Def K mg "rises" (top 21) ["numbers"]) (T : Txt K mg) : Fu P w K mg base CX0 1 "rises" ["numbers"] (spRises K):=by
  refine D.fu sc19 (fun vs H Q E h => ?_) (fun f cdv A outer s H vs Q E hr h => ?_)
  · obtain ⟨a,ns,rfl,_⟩:=h
    rfl
  · obtain ⟨a,ns,rfl,hq,l1,up,kk⟩:=h
    refine' ⟨_,pss_one (ps_ret (p_all (K:=K) T.all rfl (pa_cons (pe_comp (ts:=["one", "other"]) (fvs:=[]) (js:=[]) (cl:=[]) rfl ?S (pi_zip T.zip (pa_cons (pv 0) (pa_cons (pe_slice sl_list (pv 0) (po_some pe_int) po_none) pa_nil)))
        (fun _ _ _ _ => pg_tupK (K:=K) (n:=2) rfl (pgs_cons (pg_name (i:=0) (show List.Nodup (["one", "other"] : List Str) from by decide +kernel) rfl (Or.inl rfl) (Or.inr rfl)) (pgs_cons (pg_name (i:=1) (show List.Nodup (["one", "other"] : List Str) from by decide +kernel) rfl (Or.inl rfl) (Or.inr rfl)) pgs_nil))) (fun _ _ _ _ => pif_nil)
        (fun _ _ _ _ => pe_cmpR op_lt (pv 0) (pv 1) (nomark _))) pa_nil))),?main⟩
    case S => exact site0 rfl rfl (by decide +kernel) (by decide +kernel) rfl
    case main =>
      refine ⟨_,rfl,_,rfl,_,rfl,a,_,rfl,SqL.of hq,fun b nb => ?_⟩
      rw [cut_dropI ns (by decide : (0 : Int) ≤ 1)]
      have s1:=Same.new (o:=.lst ((ns.drop (1 : Int).toNat).map V.int)) nb
      refine ⟨a,b,rfl,⟨_,s1.seq (SqL.of hq)⟩,⟨_,SqL.new⟩,[],rfl,fun d nd => ?_⟩
      have hb : upd H b (.lst ((ns.drop 1).map V.int)) b = some (.lst ((ns.drop 1).map V.int)):=upd_same
      have ha : upd H b (.lst ((ns.drop 1).map V.int)) a = some (.lst (ns.map V.int)):=s1 _ _ hq
      refine comp_it (ns.length - 1) (by rw [sizeLine_eq]; omega) (fun i ys H2 => ys = List.replicate i (.bl true) ∧ Same (upd H b (.lst ((ns.drop 1).map V.int))) H2 ∧ H2 d = some (.lst ys)) ⟨rfl,Same.new nd,upd_same⟩ (fun i ys H2 ⟨e,_,e2⟩ => ⟨e2,by rw [e]; simp⟩) ?_ ?_
      · rintro i ys H2 N hi ⟨rfl,sm,hD⟩ rest
        have i1 : i < ns.length:=by omega
        have i2 : i + 1 < ns.length:=by omega
        have g1 : (ns.map V.int)[i]? = some (.int (ns.getD i 0)):=by simp [i1]
        have g2 : ((ns.drop 1).map V.int)[i]? = some (.int (ns.getD (i + 1) 0)):=by
          rw [List.getElem?_map,List.getElem?_drop,Nat.add_comm 1 i,List.getElem?_eq_getElem i2]
          simp [i2]
        refine ⟨⟨_,_,_,_,sm.seq (SqL.of ha),g1,sm.seq (SqL.of hb),g2⟩,?_⟩
        rintro x H3 ⟨t,v,v',nt,rfl,rfl,hv,hv'⟩
        have e1:=hv _ (sm.seq (SqL.of ha))
        have e2:=hv' _ (sm.seq (SqL.of hb))
        rw [g1] at e1
        rw [g2] at e2
        cases e1
        cases e2
        refine ⟨t,_,rfl,SqT.of upd_same,rfl,_,_,rfl,_,_,rfl,rfl,rfl,rfl,iteT ⟨_,rfl,_,rfl,_,_,rfl,rfl,?_⟩⟩
        dsimp only
        rw [decide_eq_true (up i i2)]
        have nt' : d ≠ t:=ne_of_none hD nt
        refine ⟨by rw [upd_ne nt']; exact hD,rest _ _ ⟨by rw [List.replicate_succ'],fun c o e => ?_,upd_same⟩⟩
        rw [upd_ne (ne_of_none e nd),upd_ne (ne_of_none (sm _ _ e) nt)]
        exact sm c o e
      · rintro ys H2 ⟨rfl,sm,hD⟩
        refine ⟨⟨_,_,sm.seq (SqL.of ha),sm.seq (SqL.of hb),.inr (by rw [List.length_map,List.length_drop]; exact Nat.le_refl _)⟩,d,List.replicate (ns.length - 1) true,rfl,SqL.of (by rw [hD,List.map_replicate]),?_⟩
        rw [trues]
        exact kk _ (s1.trans sm)
end
end K05

namespace K05
open PySem L2 L3
section
variable {P : Program} {w : World} {K : PySem.W.Frag} {mg : Str → Option Value} {base : Heap}
def spRisingLines : Sp:=fun vs H Q _ => ∃ (a b : Addr) (rk ls : List Int),vs = [.ref a,.ref b] ∧ H a = some (.lst (rk.map V.int)) ∧ H b = some (.lst (ls.map V.int)) ∧ ls.length ≤ 100 ∧ (∀ x ∈ ls,0 ≤ x ∧ x < rk.length) ∧ Up ls ∧ ∀ H',Same H H' → Q (.bl true) H'
theorem sc20 : FnScope ["ranks", "thing"] ["ranks", "thing"] (defScope (top 22)):=⟨rfl,rfl,rfl,by decide +kernel,rfl,by decide +kernel,by decide +kernel⟩
theorem f_rising_lines (D : Def K mg "are_rising_lines" (top 22) ["ranks", "thing"]) (GL : Fu P w K mg base CX0 4 "are_lines" ["ranks", "thing"] spAreLines) (GR : Fu P w K mg base CX0 1 "rises" ["numbers"] (spRises K)) : Fu P w K mg base CX0 5 "are_rising_lines" ["ranks", "thing"] spRisingLines:=by
  refine D.fu sc20 (fun vs H Q E h => ?_) (fun f cdv A outer s H vs Q E hr h => ?_)
  · obtain ⟨a,b,rk,ls,rfl,_⟩:=h
    rfl
  · obtain ⟨a,b,rk,ls,rfl,hq,hl,l1,hin,up,kk⟩:=h
    refine ⟨_,pss_one (ps_ret (pe_and (pc GL hr pass0 (pa_cons (pv 0) (pa_cons (pv 1) pa_nil))) (pe_one (pc GR hr pass0 (pa_cons (pv 1) pa_nil))))),?_⟩
    exact ⟨_,rfl,_,rfl,a,b,rk,ls,rfl,hq,hl,l1,hin,fun H1 s1 => ⟨true,rfl,iteT ⟨_,rfl,b,ls,rfl,s1 _ _ hl,l1,up,fun H2 s2 => kk _ (s1.trans s2)⟩⟩⟩
def spIsPile : Sp:=fun vs H Q _ => ∃ (a b : Addr) (rk pl : List Int),vs = [.ref a,.ref b] ∧ H a = some (.lst (rk.map V.int)) ∧ H b = some (.lst (pl.map V.int)) ∧ pl.length ≤ 100 ∧ (∀ x ∈ pl,0 ≤ x ∧ x < rk.length) ∧ Up (pl.reverse.map (rkAt rk)) ∧ ∀ H',Same H H' → Q (.bl true) H'
theorem sc21 : FnScope ["ranks", "thing"] ["ranks", "thing"] (defScope (top 23)):=⟨rfl,rfl,rfl,by decide +kernel,rfl,by decide +kernel,by decide +kernel⟩
theorem f_is_pile (D : Def K mg "is_pile" (top 23) ["ranks", "thing"]) (T : Txt K mg) (GL : Fu P w K mg base CX0 4 "are_lines" ["ranks", "thing"] spAreLines) (GR : Fu P w K mg base CX0 1 "rises" ["numbers"] (spRises K)) : Fu P w K mg base CX0 5 "is_pile" ["ranks", "thing"] spIsPile:=by
  refine D.fu sc21 (fun vs H Q E h => ?_) (fun f cdv A outer s H vs Q E hr h => ?_)
  · obtain ⟨a,b,rk,ls,rfl,_⟩:=h
    rfl
  · obtain ⟨a,b,rk,pl,rfl,hq,hl,l1,hin,up,kk⟩:=h
    refine' ⟨_,pss_one (ps_ret (pe_and (pc GL hr pass0 (pa_cons (pv 0) (pa_cons (pv 1) pa_nil))) (pe_one (pc GR hr pass0 (pa_cons (pe_comp (ts:=["line"]) (fvs:=["ranks"]) (js:=[0]) (cl:=[("ranks",s.heap.objs.size + 1)]) rfl ?S (pi_rev T.rev (pa_cons (pv 1) pa_nil)) (fun _ _ _ _ => pg_name (i:=0) (show List.Nodup (["line", "ranks"] : List Str) from by decide +kernel) rfl (Or.inl rfl) (Or.inr rfl)) (fun _ _ _ _ => pif_nil)
        (fun _ _ _ _ => pe_ixK (K:=K) (pv 1) (pv 0) (fun _ _ => rfl))) pa_nil))))),?main⟩
    case S => exact site1 rfl rfl (by decide +kernel) (by decide +kernel) rfl (.inl rfl) rfl (.inl rfl) rfl
    case main =>
      refine ⟨_,rfl,_,rfl,a,b,rk,pl,rfl,hq,hl,l1,hin,fun H1 s1 => ⟨true,rfl,iteT ?_⟩⟩
      have hq1:=s1 _ _ hq
      have hl1:=s1 _ _ hl
      refine ⟨_,rfl,b,_,rfl,SqL.of hl1,[.ref a],rfl,fun d nd => ?_⟩
      rw [List.length_map]
      refine comp_it pl.length (by rw [sizeLine_eq]; omega) (fun i ys H2 => ys = (pl.reverse.take i).map (fun l => V.int (rkAt rk l)) ∧ i ≤ pl.length ∧ Same H1 H2 ∧ H2 d = some (.lst ys)) ⟨rfl,Nat.zero_le _,Same.new nd,upd_same⟩ (fun i ys H2 ⟨e,hi,_,e2⟩ => ⟨e2,by rw [e]; simp; omega⟩) ?_ ?_
      · rintro i ys H2 N hi ⟨rfl,_,sm,hD⟩ rest
        have hj : pl.length - 1 - i < pl.length:=by omega
        have g1 : (pl.map V.int)[pl.length - 1 - i]? = some (.int pl[pl.length - 1 - i]):=by simp [hj]
        refine ⟨⟨_,_,sm.seq (SqL.of hl1),by rw [List.length_map],hi,g1⟩,?_⟩
        rintro x H3 ⟨rfl,hx⟩
        have hx':=hx _ (sm.seq (SqL.of hl1))
        rw [g1] at hx'
        cases hx'
        have hb:=hin _ (List.getElem_mem hj)
        refine ⟨rfl,rfl,iteT ⟨_,rfl,_,rfl,a,_,_,_,rfl,rfl,sm.seq (SqL.of hq1),atI_int hb.1 hb.2,?_⟩⟩
        refine ⟨hD,rest _ _ ⟨?_,hi,fun b o e => ?_,upd_same⟩⟩
        · have hr' : i < pl.reverse.length:=by simpa using hi
          rw [List.take_succ_eq_append_getElem hr',List.map_append]
          simp [rkAt]
        · rw [upd_ne (ne_of_none e nd)]
          exact sm b o e
      · rintro ys H2 ⟨rfl,_,sm,hD⟩
        refine ⟨Nat.le_refl _,d,pl.reverse.map (rkAt rk),rfl,?_,by simp; omega,up,fun H3 s3 => kk _ ((s1.trans sm).trans s3)⟩
        rw [hD,List.take_of_length_le (by simp)]
        simp
structure PicOk (rk l0 l1 pl : List Int) (v : V) : Prop where
  n0 : l0.length ≤ 100
  n1 : l1.length ≤ 100
  n2 : pl.length ≤ 100
  i0 : ∀ x ∈ l0,0 ≤ x ∧ x < rk.length
  i1 : ∀ x ∈ l1,0 ≤ x ∧ x < rk.length
  i2 : ∀ x ∈ pl,0 ≤ x ∧ x < rk.length
  u0 : Up l0
  u1 : Up l1
  u2 : Up (pl.reverse.map (rkAt rk))
  b : BarV v
def spPicture : Sp:=fun vs H Q _ => ∃ (a t p0 p1 p2 : Addr) (v : V) (rk l0 l1 pl : List Int),vs = [.ref a,.ref t] ∧ H a = some (.lst (rk.map V.int)) ∧ H t = some (.tup [.ref p0,.ref p1,.ref p2,v]) ∧ H p0 = some (.lst (l0.map V.int)) ∧ H p1 = some (.lst (l1.map V.int)) ∧ H p2 = some (.lst (pl.map V.int)) ∧
  PicOk rk l0 l1 pl v ∧ ∀ H',Same H H' → Q (.bl true) H'
theorem sc22 : FnScope ["ranks", "thing"] ["ranks", "thing"] (defScope (top 24)):=⟨rfl,rfl,rfl,by decide +kernel,rfl,by decide +kernel,by decide +kernel⟩
theorem f_is_picture (D : Def K mg "is_picture" (top 24) ["ranks", "thing"]) (T : Txt K mg) (GL : Fu P w K mg base CX0 5 "are_rising_lines" ["ranks", "thing"] spRisingLines) (GP : Fu P w K mg base CX0 5 "is_pile" ["ranks", "thing"] spIsPile) (GB : Fu P w K mg base CX0 3 "is_bar" ["thing"] spBar) : Fu P w K mg base CX0 6 "is_picture" ["ranks", "thing"] spPicture:=by
  refine D.fu sc22 (fun vs H Q E h => ?_) (fun f cdv A outer s H vs Q E hr h => ?_)
  · obtain ⟨a,t,p0,p1,p2,v,rk,l0,l1,pl,rfl,_⟩:=h
    rfl
  · obtain ⟨a,t,p0,p1,p2,v,rk,l0,l1,pl,rfl,hq,ht,h0,h1,h2,ok,kk⟩:=h
    refine ⟨_,pss_cons (ps_if (pw_or (pt_not (pt_val (p_isi T.isi T.tuple boot_tuple' (pv 1)))) (pw_or1 (pt_cmpR op_ne (p_len T.len (pv 1)) pe_int (nomark _)))).pt (pss_one (ps_ret pe_bl)) pss_nil)
      (pss_cons (ps_if (pw_or (pt_not (pt_val (pc GL hr pass0 (pa_cons (pv 0) (pa_cons (pe_ix ix_tup (pv 1) pe_int (fun _ _ => rfl)) pa_nil))))) (pw_or1 (pt_not (pt_val (pc GL hr pass0 (pa_cons (pv 0) (pa_cons (pe_ix ix_tup (pv 1) pe_int (fun _ _ => rfl)) pa_nil))))))).pt (pss_one (ps_ret pe_bl)) pss_nil)
      (pss_one (ps_ret (pe_and (pc GP hr pass0 (pa_cons (pv 0) (pa_cons (pe_ix ix_tup (pv 1) pe_int (fun _ _ => rfl)) pa_nil))) (pe_one (pc GB hr pass0 (pa_cons (pe_ix ix_tup (pv 1) pe_int (fun _ _ => rfl)) pa_nil))))))),?_⟩
    refine ⟨_,rfl,_, "tuple",_,true,rfl,.tup ht,kit_tuple,_,rfl,iteF ⟨_,rfl,t,_,rfl,.inr (SqT.of ht),rfl,_,rfl,iteFe (by first | rfl | simp) ?_⟩⟩
    refine ⟨_,rfl,_,rfl,t,_,_,_,rfl,rfl,SqT.of ht,rfl,a,p0,rk,l0,rfl,hq,h0,ok.n0,ok.i0,ok.u0,fun H1 s1 => ⟨_,rfl,iteF ?_⟩⟩
    refine ⟨_,rfl,_,rfl,t,_,_,_,rfl,rfl,SqT.of (s1 _ _ ht),rfl,a,p1,rk,l1,rfl,s1 _ _ hq,s1 _ _ h1,ok.n1,ok.i1,ok.u1,fun H2 s2 => ⟨_,rfl,iteF ?_⟩⟩
    have s12:=s1.trans s2
    refine ⟨_,rfl,_,rfl,t,_,_,_,rfl,rfl,SqT.of (s12 _ _ ht),rfl,a,p2,rk,pl,rfl,s12 _ _ hq,s12 _ _ h2,ok.n2,ok.i2,ok.u2,fun H3 s3 => ⟨true,rfl,iteT ?_⟩⟩
    have s13:=s12.trans s3
    exact ⟨_,rfl,t,_,_,_,rfl,rfl,SqT.of (s13 _ _ ht),rfl,v,rfl,ok.b,kk _ s13⟩
def marksL (n : Nat) (ls : List Int) : List Bool:=(List.range n).map fun i : Nat => decide ((i : Int) ∈ ls)
def idxL (bs : List Bool) (n : Nat) : List Int:=((List.range n).filter fun i => bs.getD i false).map fun i : Nat => (i : Int)
theorem inV_ints (n : Int) (ns : List Int) : inV (.int n) (ns.map V.int) = decide (n ∈ ns):=by
  unfold inV
  rw [List.any_map,Bool.eq_iff_iff,List.any_eq_true,decide_eq_true_iff]
  constructor
  · rintro ⟨m,hm,e⟩
    have e' : (m == n) = true:=e
    rw [← beq_iff_eq.mp e']
    exact hm
  · intro h
    exact ⟨n,h,by show (n == n) = true; simp⟩
theorem flat_ints (ns : List Int) : (ns.map V.int).all flatV = true:=by
  rw [List.all_map,List.all_eq_true]
  intro x _
  rfl
def spMarksOf : Sp:=fun vs H Q _ => ∃ (a b : Addr) (rk ls : List Int),vs = [.ref a,.ref b] ∧ H a = some (.lst (rk.map V.int)) ∧ H b = some (.lst (ls.map V.int)) ∧ rk.length ≤ 60 ∧ ∀ d H',Same H H' → H d = none → H' d = some (.lst ((marksL rk.length ls).map V.bl)) → Q (.ref d) H'
theorem sc23 : FnScope ["ranks", "lines"] ["ranks", "lines"] (defScope (top 25)):=⟨rfl,rfl,rfl,by decide +kernel,rfl,by decide +kernel,by decide +kernel⟩
theorem f_marks_of (D : Def K mg "marks_of" (top 25) ["ranks", "lines"]) (T : Txt K mg) : Fu P w K mg base CX0 1 "marks_of" ["ranks", "lines"] spMarksOf:=by
  refine D.fu sc23 (fun vs H Q E h => ?_) (fun f cdv A outer s H vs Q E hr h => ?_)
  · obtain ⟨a,b,rk,ls,rfl,_⟩:=h
    rfl
  · obtain ⟨a,b,rk,ls,rfl,hq,hl,l1,kk⟩:=h
    refine' ⟨_,pss_one (ps_ret (pe_comp (ts:=["line"]) (fvs:=["lines"]) (js:=[1]) (cl:=[("lines",s.heap.objs.size + 1)]) rfl ?S (pi_range1 rfl T.range (pa_cons (p_len T.len (pv 0)) pa_nil)) (fun _ _ _ _ => pg_name (i:=0) (show List.Nodup (["line", "lines"] : List Str) from by decide +kernel) rfl (Or.inl rfl) (Or.inr rfl)) (fun _ _ _ _ => pif_nil)
        (fun _ _ _ _ => p_inK (K:=K) (pv 0) (pv 1) (by with_unfolding_all rfl)))),?main⟩
    case S => exact site1 rfl rfl (by decide +kernel) (by decide +kernel) rfl (.inl rfl) rfl (.inl rfl) rfl
    case main =>
      refine ⟨_,rfl,a,_,rfl,.inl (SqL.of hq),_,rfl,by omega,by rw [List.length_map]; omega,[.ref b],rfl,fun d nd => ?_⟩
      rw [List.length_map]
      refine comp_it rk.length (by rw [sizeLine_eq]; omega) (fun i ys H2 => ys = (marksL i ls).map V.bl ∧ Same H H2 ∧ H2 d = some (.lst ys)) ⟨rfl,Same.new nd,upd_same⟩ (fun i ys H2 ⟨e,_,e2⟩ => ⟨e2,by rw [e]; simp [marksL]⟩) ?_ ?_
      · rintro i ys H2 N hi ⟨rfl,sm,hD⟩ rest
        refine ⟨hi,?_⟩
        rintro x H3 ⟨rfl,rfl⟩
        refine ⟨rfl,rfl,iteT ⟨_,rfl,_,rfl,b,_,rfl,.inl (sm.seq (SqL.of hl)),rfl,flat_ints _,?_⟩⟩
        refine ⟨hD,rest _ _ ⟨?_,fun b o e => ?_,upd_same⟩⟩
        · unfold marksL
          rw [List.range_succ,List.map_append,List.map_append]
          simp [inV_ints]
        · rw [upd_ne (ne_of_none e nd)]
          exact sm b o e
      · rintro ys H2 ⟨rfl,sm,hD⟩
        exact ⟨Nat.le_refl _,kk d _ sm nd hD⟩
def spMarked : Sp:=fun vs H Q _ => ∃ (a : Addr) (bs : List Bool),vs = [.ref a] ∧ H a = some (.lst (bs.map V.bl)) ∧ bs.length ≤ 60 ∧ ∀ d H',Same H H' → H d = none → H' d = some (.lst ((idxL bs bs.length).map V.int)) → Q (.ref d) H'
theorem sc24 : FnScope ["marks"] ["marks"] (defScope (top 26)):=⟨rfl,rfl,rfl,by decide +kernel,rfl,by decide +kernel,by decide +kernel⟩
theorem idxL_succ (bs : List Bool) (n : Nat) : idxL bs (n + 1) = if bs.getD n false = true then idxL bs n ++ [(n : Int)] else idxL bs n:=by
  unfold idxL
  rw [List.range_succ,List.filter_append,List.map_append]
  rw [List.filter_cons,List.filter_nil]
  cases h : bs.getD n false with
  | true => rfl
  | false => simp
theorem idxL_len (bs : List Bool) (n : Nat) : (idxL bs n).length ≤ n:=by
  unfold idxL
  rw [List.length_map]
  have:=List.length_filter_le (fun i => bs.getD i false) (List.range n)
  rwa [List.length_range] at this
theorem f_marked (D : Def K mg "marked" (top 26) ["marks"]) (T : Txt K mg) : Fu P w K mg base CX0 1 "marked" ["marks"] spMarked:=by
  refine D.fu sc24 (fun vs H Q E h => ?_) (fun f cdv A outer s H vs Q E hr h => ?_)
  · obtain ⟨a,bs,rfl,_⟩:=h
    rfl
  · obtain ⟨a,bs,rfl,hq,l1,kk⟩:=h
    refine' ⟨_,pss_one (ps_ret (pe_comp (ts:=["line", "mark"]) (fvs:=[]) (js:=[]) (cl:=[]) rfl ?S (pi_enum T.enum (pa_cons (pv 0) pa_nil)) (fun _ _ _ _ => pg_tupK (K:=K) (n:=2) rfl (pgs_cons (pg_name (i:=0) (show List.Nodup (["line", "mark"] : List Str) from by decide +kernel) rfl (Or.inl rfl) (Or.inr rfl)) (pgs_cons (pg_name (i:=1) (show List.Nodup (["line", "mark"] : List Str) from by decide +kernel) rfl (Or.inl rfl) (Or.inr rfl)) pgs_nil)))
        (fun _ _ _ _ => pif_one (pt_val (pv 1))) (fun _ _ _ _ => pv 0))),?main⟩
    case S => exact site0 rfl rfl (by decide +kernel) (by decide +kernel) rfl
    case main =>
      refine ⟨_,rfl,a,rfl,⟨_,SqL.of hq⟩,[],rfl,fun d nd => ?_⟩
      refine comp_it bs.length (by rw [sizeLine_eq]; omega) (fun i ys H2 => ys = (idxL bs i).map V.int ∧ Same H H2 ∧ H2 d = some (.lst ys)) ⟨rfl,Same.new nd,upd_same⟩ (fun i ys H2 ⟨e,_,e2⟩ => ⟨e2,by rw [e,List.length_map]; exact idxL_len _ _⟩) ?_ ?_
      · rintro i ys H2 N hi ⟨rfl,sm,hD⟩ rest
        have g1 : (bs.map V.bl)[i]? = some (.bl (bs.getD i false)):=by simp [hi]
        refine ⟨⟨_,_,sm.seq (SqL.of hq),g1⟩,?_⟩
        rintro x H3 ⟨t,v,nt,rfl,rfl,hv⟩
        have e1:=hv _ (sm.seq (SqL.of hq))
        rw [g1] at e1
        cases e1
        have nt' : d ≠ t:=ne_of_none hD nt
        refine ⟨t,_,rfl,SqT.of upd_same,rfl,_,_,rfl,_,_,rfl,rfl,rfl,rfl,_,rfl,_,rfl,?_⟩
        have sk : Same H (upd H2 t (.tup [.int i,.bl (bs.getD i false)])):=sm.trans (Same.new nt)
        have hD2 : upd H2 t (.tup [.int i,.bl (bs.getD i false)]) d = some (.lst ((idxL bs i).map V.int)):=by rw [upd_ne nt']; exact hD
        refine ite2 (fun hc => ?_) (fun hc => ?_)
        · refine ⟨_,rfl,hD2,rest _ _ ⟨?_,fun b o e => ?_,upd_same⟩⟩
          · rw [idxL_succ,if_pos hc,List.map_append]
            rfl
          · rw [upd_ne (ne_of_none e nd)]
            exact sk b o e
        · refine rest _ _ ⟨?_,sk,hD2⟩
          rw [idxL_succ,if_neg hc]
      · rintro ys H2 ⟨rfl,sm,hD⟩
        exact ⟨⟨_,sm.seq (SqL.of hq),by rw [List.length_map]; exact Nat.le_refl _⟩,kk d _ sm nd hD⟩
def spTopOf (K : PySem.W.Frag) : Sp:=fun vs H Q _ => ∃ (a : Addr) (pl : List Int),vs = [.ref a] ∧ H a = some (.lst (pl.map V.int)) ∧ Q (lastV pl) H
theorem sc25 : FnScope ["pile"] ["pile"] (defScope (top 27)):=⟨rfl,rfl,rfl,by decide +kernel,rfl,by decide +kernel,by decide +kernel⟩
theorem f_top_of (D : Def K mg "top_of" (top 27) ["pile"]) : Fu P w K mg base CX0 1 "top_of" ["pile"] (spTopOf K):=by
  refine D.fu sc25 (fun vs H Q E h => ?_) (fun f cdv A outer s H vs Q E hr h => ?_)
  · obtain ⟨a,pl,rfl,_⟩:=h
    rfl
  · obtain ⟨a,pl,rfl,hq,kk⟩:=h
    refine ⟨_,pss_one (ps_ret (pe_ifExp (p_tru (pv 0)) (pe_ix ix_list (pv 0) (pe_un un_neg pe_int) (fun _ _ => rfl)) pe_non)),?_⟩
    refine ⟨_,rfl,_,tru_lst hq,?_⟩
    unfold lastV at kk
    cases e : pl.getLast? with
    | none =>
      have e' : pl = []:=List.getLast?_eq_none_iff.mp e
      subst e'
      exact iteF kk
    | some x =>
      rw [e] at kk
      have hne : pl ≠ []:=by intro z; rw [z] at e; cases e
      refine iteTe (by cases pl with | nil => exact absurd rfl hne | cons _ _ => rfl) ⟨_,rfl,_,rfl,a,_,_,_,rfl,rfl,SqL.of hq,last_atI e,kk⟩
end
end K05

namespace K05
open PySem L2 L3
def bf (r a m p : Addr) (lim : V) (ex : List (Str × V)) : List (Str × V):=("ranks",.ref r) :: ("asks",.ref a) :: ("muted",.ref m) :: ("pile",.ref p) :: ("limit",lim) :: ex
section
variable {r a m p : Addr} {lim v : V} {ex : List (Str × V)}
theorem put_limit : putF "limit" v (bf r a m p lim ex) = bf r a m p v ex:=by
  simp only [bf,putF]
  repeat rw [if_neg (by decide)]
  simp
theorem mk_bf : putF "limit" lim (putF "pile" (.ref p) (putF "muted" (.ref m) (putF "asks" (.ref a) (putF "ranks" (.ref r) [])))) = bf r a m p lim []:=by
  simp only [putF]
  repeat rw [if_neg (by decide)]
  rfl
theorem bf_len : (bf r a m p lim []).length < 1000:=by show 5 < 1000; decide
end
structure BoardAt (C : Addr) (H : Hp) (x r a m p : Addr) (rk : List Int) (as ms : List Bool) (pl : List Int) (lim : V) : Prop where
  at_ : ∃ dx,H x = some (.ins C dx (bf r a m p lim []))
  rk : H r = some (.lst (rk.map V.int))
  as : H a = some (.lst (as.map V.bl))
  ms : H m = some (.lst (ms.map V.bl))
  pl : H p = some (.lst (pl.map V.int))
  ra : r ≠ a
  rm : r ≠ m
  rp : r ≠ p
  am : a ≠ m
  ap : a ≠ p
  mp : m ≠ p
section
variable {C : Addr} {H H' : Hp} {x r a m p dx : Addr} {rk : List Int} {as ms bs : List Bool} {pl ys : List Int} {lim v : V}
theorem BoardAt.ne (B : BoardAt C H x r a m p rk as ms pl lim) : r ≠ x ∧ a ≠ x ∧ m ≠ x ∧ p ≠ x:=by
  obtain ⟨dx,e⟩:=B.at_
  exact ⟨ne_of B.rk e (by intro z; cases z),ne_of B.as e (by intro z; cases z),ne_of B.ms e (by intro z; cases z),ne_of B.pl e (by intro z; cases z)⟩
theorem BoardAt.to (B : BoardAt C H x r a m p rk as ms pl lim) (kp : ∀ b o,(b = x ∨ b = r ∨ b = a ∨ b = m ∨ b = p) → H b = some o → H' b = some o) : BoardAt C H' x r a m p rk as ms pl lim:=by
  obtain ⟨dx,e⟩:=B.at_
  exact ⟨⟨dx,kp _ _ (.inl rfl) e⟩,kp _ _ (.inr (.inl rfl)) B.rk,kp _ _ (.inr (.inr (.inl rfl))) B.as,kp _ _ (.inr (.inr (.inr (.inl rfl)))) B.ms,kp _ _ (.inr (.inr (.inr (.inr rfl)))) B.pl,B.ra,B.rm,B.rp,B.am,B.ap,B.mp⟩
theorem BoardAt.same (B : BoardAt C H x r a m p rk as ms pl lim) (sm : Same H H') : BoardAt C H' x r a m p rk as ms pl lim:=B.to fun b o _ e => sm b o e
theorem BoardAt.setAs (B : BoardAt C H x r a m p rk as ms pl lim) : BoardAt C (upd H a (.lst (bs.map V.bl))) x r a m p rk bs ms pl lim:=by
  obtain ⟨dx,e⟩:=B.at_
  obtain ⟨z1,z2,z3,z4⟩:=B.ne
  exact ⟨⟨dx,by rw [upd_ne (Ne.symm z2)]; exact e⟩,by rw [upd_ne B.ra]; exact B.rk,upd_same,by rw [upd_ne (Ne.symm B.am)]; exact B.ms,by rw [upd_ne (Ne.symm B.ap)]; exact B.pl,B.ra,B.rm,B.rp,B.am,B.ap,B.mp⟩
theorem BoardAt.setMs (B : BoardAt C H x r a m p rk as ms pl lim) : BoardAt C (upd H m (.lst (bs.map V.bl))) x r a m p rk as bs pl lim:=by
  obtain ⟨dx,e⟩:=B.at_
  obtain ⟨z1,z2,z3,z4⟩:=B.ne
  exact ⟨⟨dx,by rw [upd_ne (Ne.symm z3)]; exact e⟩,by rw [upd_ne B.rm]; exact B.rk,by rw [upd_ne B.am]; exact B.as,upd_same,by rw [upd_ne (Ne.symm B.mp)]; exact B.pl,B.ra,B.rm,B.rp,B.am,B.ap,B.mp⟩
theorem BoardAt.setPl (B : BoardAt C H x r a m p rk as ms pl lim) : BoardAt C (upd H p (.lst (ys.map V.int))) x r a m p rk as ms ys lim:=by
  obtain ⟨dx,e⟩:=B.at_
  obtain ⟨z1,z2,z3,z4⟩:=B.ne
  exact ⟨⟨dx,by rw [upd_ne (Ne.symm z4)]; exact e⟩,by rw [upd_ne B.rp]; exact B.rk,by rw [upd_ne B.ap]; exact B.as,by rw [upd_ne B.mp]; exact B.ms,upd_same,B.ra,B.rm,B.rp,B.am,B.ap,B.mp⟩
theorem BoardAt.setLim (B : BoardAt C H x r a m p rk as ms pl lim) : BoardAt C (upd H x (.ins C dx (putF "limit" v (bf r a m p lim [])))) x r a m p rk as ms pl v:=by
  obtain ⟨z1,z2,z3,z4⟩:=B.ne
  rw [put_limit]
  exact ⟨⟨dx,upd_same⟩,by rw [upd_ne z1]; exact B.rk,by rw [upd_ne z2]; exact B.as,by rw [upd_ne z3]; exact B.ms,by rw [upd_ne z4]; exact B.pl,B.ra,B.rm,B.rp,B.am,B.ap,B.mp⟩
end
structure BTxt (K : PySem.W.Frag) (C : Addr) : Prop where
  cl : Cls K C
  nR : NoAttr K C "ranks"
  nA : NoAttr K C "asks"
  nM : NoAttr K C "muted"
  nP : NoAttr K C "pile"
  nL : NoAttr K C "limit"
def bm (j : Nat) : Stmt:=inClass (top 28) j
def wm (j : Nat) : Stmt:=inClass (top 30) j
section
variable {P : Program} {w : World} {K : PySem.W.Frag} {mg : Str → Option Value} {base : Heap} {C P5 : Addr}
def spCheck (C : Addr) : Sp:=fun vs H Q _ => ∃ (x r a m p : Addr) (rk : List Int) (as ms : List Bool) (pl : List Int) (lim : V) (i : Int),vs = [.ref x,.int i] ∧ BoardAt C H x r a m p rk as ms pl lim ∧ 0 ≤ i ∧ i < rk.length ∧ Q .non H
theorem scCheck : FnScope ["self", "line"] ["self", "line"] (defScope (bm 9)):=⟨rfl,rfl,rfl,by decide +kernel,rfl,by decide +kernel,by decide +kernel⟩
theorem f_check (D : MDef K C "check_line" "Board.check_line" (bm 9) ["self", "line"]) (TB : BTxt K C) (GL : Fu P w K mg base CX0 3 "is_line" ["ranks", "thing"] (spIsLine K)) : FuM P w K mg base CX0 4 C "check_line" ["self", "line"] (spCheck C):=by
  refine D.fu scCheck (fun vs H Q E h => ?_) (fun f cdv A outer s H vs Q E hr h => ?_)
  · obtain ⟨x,r,a,m,p,rk,as,ms,pl,lim,i,rfl,_⟩:=h
    rfl
  · obtain ⟨x,r,a,m,p,rk,as,ms,pl,lim,i,rfl,B,h0,h1,kk⟩:=h
    refine ⟨_,pss_one (ps_if (pt_not (pt_val (pc GL hr pass0 (pa_cons (pe_fld (pv 0) rfl) (pa_cons (pv 1) pa_nil))))) (pss_one ps_never) pss_nil),?_⟩
    obtain ⟨dx,e0⟩:=B.at_
    refine ⟨_,rfl,x,C,dx,_,_,rfl,e0,TB.cl,TB.nR,rfl,_,rfl,r,rk,_,rfl,SqL.of B.rk,.inl ⟨i,rfl,?_⟩⟩
    rw [line_true h0 h1]
    exact ⟨_,rfl,iteF kk⟩
def wantB (as ms : List Bool) (i : Nat) : Bool:=as.getD i false && !ms.getD i false
def spWants (C : Addr) : Sp:=fun vs H Q _ => ∃ (x r a m p : Addr) (rk : List Int) (as ms : List Bool) (pl : List Int) (lim : V) (i : Int),vs = [.ref x,.int i] ∧ BoardAt C H x r a m p rk as ms pl lim ∧ 0 ≤ i ∧ i < as.length ∧ i < ms.length ∧ Q (.bl (wantB as ms i.toNat)) H
theorem scWants : FnScope ["self", "line"] ["self", "line"] (defScope (bm 11)):=⟨rfl,rfl,rfl,by decide +kernel,rfl,by decide +kernel,by decide +kernel⟩
theorem f_wants (D : MDef K C "wants" "Board.wants" (bm 11) ["self", "line"]) (TB : BTxt K C) : FuM P w K mg base CX0 1 C "wants" ["self", "line"] (spWants C):=by
  refine D.fu scWants (fun vs H Q E h => ?_) (fun f cdv A outer s H vs Q E hr h => ?_)
  · obtain ⟨x,r,a,m,p,rk,as,ms,pl,lim,i,rfl,_⟩:=h
    rfl
  · obtain ⟨x,r,a,m,p,rk,as,ms,pl,lim,i,rfl,B,h0,h1,h2,kk⟩:=h
    refine ⟨_,pss_one (ps_ret (pe_and (pe_ix ix_list (pe_fld (pv 0) rfl) (pv 1) (fun _ _ => rfl)) (pe_one (pe_not (pe_ix ix_list (pe_fld (pv 0) rfl) (pv 1) (fun _ _ => rfl)))))),?_⟩
    obtain ⟨dx,e0⟩:=B.at_
    refine ⟨_,rfl,x,C,dx,_,_,rfl,e0,TB.cl,TB.nA,rfl,_,rfl,a,_,_,_,rfl,rfl,SqL.of B.as,atI_bl h0 h1,_,rfl,?_⟩
    unfold wantB at kk
    cases e : as.getD i.toNat false with
    | false =>
      rw [e] at kk
      exact iteF kk
    | true =>
      rw [e] at kk
      refine iteT ⟨_,rfl,x,C,dx,_,_,rfl,e0,TB.cl,TB.nM,rfl,_,rfl,m,_,_,_,rfl,rfl,SqL.of B.ms,atI_bl h0 h2,_,rfl,kk⟩
def wantL (as ms : List Bool) (n : Nat) : List Int:=((List.range n).filter fun i => wantB as ms i).map fun i : Nat => (i : Int)
theorem wantL_succ (as ms : List Bool) (n : Nat) : wantL as ms (n + 1) = if wantB as ms n = true then wantL as ms n ++ [(n : Int)] else wantL as ms n:=by
  unfold wantL
  rw [List.range_succ,List.filter_append,List.map_append]
  rw [List.filter_cons,List.filter_nil]
  cases h : wantB as ms n with
  | true => rfl
  | false => simp
theorem wantL_len (as ms : List Bool) (n : Nat) : (wantL as ms n).length ≤ n:=by
  unfold wantL
  rw [List.length_map]
  have:=List.length_filter_le (fun i => wantB as ms i) (List.range n)
  rwa [List.length_range] at this
theorem wantL_mem {as ms : List Bool} {n : Nat} {x : Int} (h : x ∈ wantL as ms n) : 0 ≤ x ∧ x < n:=by
  unfold wantL at h
  obtain ⟨i,hi,rfl⟩:=List.mem_map.mp h
  have:=List.mem_range.mp (List.mem_filter.mp hi).1
  omega
theorem wantL_nd (as ms : List Bool) (n : Nat) : (wantL as ms n).Nodup:=by
  unfold wantL
  exact List.pairwise_map.mpr ((List.nodup_range.filter _).imp fun h e => h (Int.ofNat_inj.mp e))
def spWanting (C : Addr) : Sp:=fun vs H Q _ => ∃ (x r a m p : Addr) (rk : List Int) (as ms : List Bool) (pl : List Int) (lim : V),vs = [.ref x] ∧ BoardAt C H x r a m p rk as ms pl lim ∧ as.length = rk.length ∧ ms.length = rk.length ∧ rk.length ≤ 60 ∧ ∀ d H',Same H H' → H d = none → H' d = some (.lst ((wantL as ms rk.length).map V.int)) → Q (.ref d) H'
theorem scWanting : FnScope ["self"] ["self"] (defScope (bm 12)):=⟨rfl,rfl,rfl,by decide +kernel,rfl,by decide +kernel,by decide +kernel⟩
theorem bf_no {r a m p : Addr} {lim : V} {f : Str} (h : (["ranks", "asks", "muted", "pile", "limit"] : List Str).contains f = false) : (bf r a m p lim []).lookup f = none:=by
  simp only [List.contains_cons,Bool.or_eq_false_iff] at h
  simp only [bf,List.lookup]
  rw [h.1,h.2.1,h.2.2.1,h.2.2.2.1,h.2.2.2.2.1]
theorem f_wanting (D : MDef K C "wanting" "Board.wanting" (bm 12) ["self"]) (T : Txt K mg) (TB : BTxt K C) (GW : FuM P w K mg base CX0 1 C "wants" ["self", "line"] (spWants C)) : FuM P w K mg base CX0 2 C "wanting" ["self"] (spWanting C):=by
  refine D.fu scWanting (fun vs H Q E h => ?_) (fun f cdv A outer s H vs Q E hr h => ?_)
  · obtain ⟨x,r,a,m,p,rk,as,ms,pl,lim,rfl,_⟩:=h
    rfl
  · obtain ⟨x,r,a,m,p,rk,as,ms,pl,lim,rfl,B,la,lm,l60,kk⟩:=h
    refine' ⟨_,pss_one (ps_ret (pe_comp (ts:=["line"]) (fvs:=["self"]) (js:=[0]) (cl:=[("self",s.heap.objs.size + 1)]) rfl ?S (pi_range1 rfl T.range (pa_cons (p_len T.len (pe_fld (pv 0) rfl)) pa_nil)) (fun _ _ _ _ => pg_name (i:=0) (show List.Nodup (["line", "self"] : List Str) from by decide +kernel) rfl (Or.inl rfl) (Or.inr rfl))
        (fun _ _ _ _ => pif_one (pt_val (pm GW TB.cl hr pass0 (pv 1) (pa_cons (pv 0) pa_nil)))) (fun _ _ _ _ => pv 0))),?main⟩
    case S => exact site1 rfl rfl (by decide +kernel) (by decide +kernel) rfl (.inl rfl) rfl (.inl rfl) rfl
    case main =>
      obtain ⟨dx,e0⟩:=B.at_
      refine ⟨_,rfl,x,C,dx,_,_,rfl,e0,TB.cl,TB.nR,rfl,r,_,rfl,.inl (SqL.of B.rk),_,rfl,by omega,by rw [List.length_map]; omega,[.ref x],rfl,fun d nd => ?_⟩
      rw [List.length_map]
      refine comp_it rk.length (by rw [sizeLine_eq]; omega) (fun i ys H2 => ys = (wantL as ms i).map V.int ∧ Same H H2 ∧ H2 d = some (.lst ys)) ⟨rfl,Same.new nd,upd_same⟩ (fun i ys H2 ⟨e,_,e2⟩ => ⟨e2,by rw [e,List.length_map]; exact wantL_len _ _ _⟩) ?_ ?_
      · rintro i ys H2 N hi ⟨rfl,sm,hD⟩ rest
        refine ⟨hi,?_⟩
        rintro y H3 ⟨rfl,rfl⟩
        have B2:=B.same sm
        obtain ⟨dx2,e2⟩:=B2.at_
        refine ⟨rfl,rfl,_,rfl,x,dx2,_,rfl,e2,bf_no (by decide +kernel),_,rfl,x,r,a,m,p,rk,as,ms,pl,lim,_,rfl,B2,by omega,by omega,by omega,_,rfl,?_⟩
        rw [show (0 + (i : Int)).toNat = i by omega]
        refine ite2 (fun hc => ?_) (fun hc => ?_)
        · refine ⟨_,rfl,hD,rest _ _ ⟨?_,fun b o e => ?_,upd_same⟩⟩
          · rw [wantL_succ,if_pos hc,List.map_append]
            simp
          · rw [upd_ne (ne_of_none e nd)]
            exact sm b o e
        · refine rest _ _ ⟨?_,sm,hD⟩
          rw [wantL_succ,if_neg hc]
      · rintro ys H2 ⟨rfl,sm,hD⟩
        exact ⟨Nat.le_refl _,kk d _ sm nd hD⟩
def openB (rk : List Int) (lim : V) (pl : List Int) (i : Int) : Bool:=(match lim with | .int z => decide (rkAt rk i < z) | _ => true) && (match pl.getLast? with | some t => decide (rkAt rk i < rkAt rk t) | none => true)
def spOpen (C : Addr) : Sp:=fun vs H Q _ => ∃ (x r a m p : Addr) (rk : List Int) (as ms : List Bool) (pl : List Int) (lim : V) (i : Int),vs = [.ref x,.int i] ∧ BoardAt C H x r a m p rk as ms pl lim ∧ 0 ≤ i ∧ i < rk.length ∧ (∀ t ∈ pl,0 ≤ t ∧ t < rk.length) ∧ (lim = .non ∨ ∃ z,lim = .int z) ∧ Q (.bl (openB rk lim pl i)) H
theorem scOpen : FnScope ["self", "line", "rank"] ["self", "line"] (defScope (bm 13)):=⟨rfl,rfl,rfl,by decide +kernel,rfl,by decide +kernel,by decide +kernel⟩
theorem f_open (D : MDef K C "is_open" "Board.is_open" (bm 13) ["self", "line"]) (TB : BTxt K C) (GT : Fu P w K mg base CX0 1 "top_of" ["pile"] (spTopOf K)) : FuM P w K mg base CX0 2 C "is_open" ["self", "line"] (spOpen C):=by
  refine D.fu scOpen (fun vs H Q E h => ?_) (fun f cdv A outer s H vs Q E hr h => ?_)
  · obtain ⟨x,r,a,m,p,rk,as,ms,pl,lim,i,rfl,_⟩:=h
    rfl
  · obtain ⟨x,r,a,m,p,rk,as,ms,pl,lim,i,rfl,B,h0,h1,hp,hlim,kk⟩:=h
    refine ⟨_,pss_cons (ps_set (i:=2) scOpen.nd rfl (Or.inl rfl) (pe_ix ix_list (pe_fld (pv 0) rfl) (pv 1) (fun _ _ => rfl)))
      (pss_cons (ps_if (pw_and (pt_cmp (pc_notN (pe_fld (pv 0) rfl))) (pw_and1 (pt_cmpR op_ge (pv 2) (pe_fld (pv 0) rfl) (nomark _)))).pt (pss_one (ps_ret pe_bl)) pss_nil)
      (pss_one (ps_ret (pe_or (pe_notT (pe_fld (pv 0) rfl)) (pe_one (pe_cmpR op_lt (pv 2) (pe_ix ix_list (pe_fld (pv 0) rfl) (pc GT hr pass0 (pa_cons (pe_fld (pv 0) rfl) pa_nil)) (fun _ _ => rfl)) (nomark _))))))),?_⟩
    obtain ⟨dx,e0⟩:=B.at_
    refine ⟨_,rfl,x,C,dx,_,_,rfl,e0,TB.cl,TB.nR,rfl,_,rfl,r,_,_,_,rfl,rfl,SqL.of B.rk,atI_int h0 h1,?_⟩
    refine ⟨_,rfl,x,C,dx,_,_,rfl,e0,TB.cl,TB.nL,rfl,_,rfl,?_⟩
    have fin : Q (.bl (match pl.getLast? with | some t => decide (rkAt rk i < rkAt rk t) | none => true)) H → tRet (tOrV (fun σ H Q => tFld K (tVar 0) "pile" σ H fun x H1 => ∃ k,TruV K x H1 k ∧ Q (.bl (!k)) H1) (tOp (rI0 fun i j => .bl (decide (i < j))) (tVar 2) (tOp (rIxL K) (tFld K (tVar 0) "ranks") (tCall (spTopOf K) [] E0 (tCons (tFld K (tVar 0) "pile") tNil))))) { nx:=fun _ H' => Q .non H',rt:=Q } [some (.ref x),some (.int i),some (.int (rk.getD i.toNat 0))] H:=fun q => by
      refine ⟨_,rfl,x,C,dx,_,_,rfl,e0,TB.cl,TB.nP,rfl,_,tru_lst B.pl,_,rfl,?_⟩
      cases e : pl.getLast? with
      | none =>
        have e' : pl = []:=List.getLast?_eq_none_iff.mp e
        subst e'
        exact iteT q
      | some t =>
        rw [e] at q
        have hne : pl ≠ []:=by intro z; rw [z] at e; cases e
        have hm:=hp t (List.mem_of_getLast? e)
        refine iteFe (by cases pl with | nil => exact absurd rfl hne | cons _ _ => rfl) ⟨_,rfl,_,rfl,x,C,dx,_,_,rfl,e0,TB.cl,TB.nR,rfl,_,rfl,x,C,dx,_,_,rfl,e0,TB.cl,TB.nP,rfl,p,pl,rfl,B.pl,?_⟩
        have el : lastV pl = .int t:=by unfold lastV; rw [e]
        rw [el]
        exact ⟨r,_,_,_,rfl,rfl,SqL.of B.rk,atI_int hm.1 hm.2,_,_,rfl,rfl,q⟩
    unfold openB at kk
    rcases hlim with rfl | ⟨z,rfl⟩
    · refine iteF ?_
      exact fin (by simpa using kk)
    · dsimp only at kk
      refine iteT ⟨_,rfl,_,rfl,x,C,dx,_,_,rfl,e0,TB.cl,TB.nL,rfl,_,_,rfl,rfl,_,rfl,?_⟩
      by_cases hz : rkAt rk i < z
      · refine iteFe (decide_eq_false (by unfold rkAt at hz; omega)) ?_
        rw [decide_eq_true hz,Bool.true_and] at kk
        exact fin kk
      · refine iteTe (decide_eq_true (by unfold rkAt at hz; omega)) ?_
        rw [decide_eq_false hz,Bool.false_and] at kk
        exact kk
end
end K05

namespace K05
open PySem L2 L3
abbrev TabF (H : Hp) (P5 : Addr) : Prop:=Tab H P5 (lamAt (top 12)) q5
structure BInv (rk : List Int) (as ms : List Bool) (pl : List Int) (lim : V) : Prop where
  la : as.length = rk.length
  lm : ms.length = rk.length
  l1 : 1 ≤ rk.length
  l60 : rk.length ≤ 60
  pr : ∀ t ∈ pl,0 ≤ t ∧ t < rk.length
  li : lim = .non ∨ ∃ z,lim = .int z
theorem TabF.off {H : Hp} {P5 : Addr} (t : TabF H P5) {x : Addr} {o : HO} (hx : ∃ u,H x = some u ∧ ∀ ps,u ≠ .tbl ps) (hc : ∀ c q,H x ≠ some (CodeAt c q)) : TabF (upd H x o) P5:=by
  obtain ⟨u,e,hu⟩:=hx
  have h1 : P5 ≠ x:=Ne.symm (t.ne e hu)
  rcases t with t | ⟨c,t,r⟩
  · exact .inl (by rw [upd_ne h1]; exact t)
  · refine .inr ⟨c,by rw [upd_ne h1]; exact t,?_⟩
    rw [upd_ne (fun z => by rw [z] at r; exact hc _ _ r)]
    exact r
theorem TabF.lst {H : Hp} {P5 : Addr} (t : TabF H P5) {x : Addr} {o : HO} {xs : List V} (e : H x = some (.lst xs)) : TabF (upd H x o) P5:=t.off ⟨_,e,by intro ps z; cases z⟩ fun c q z => by rw [e] at z; cases z
theorem tab_kb {P5 : Addr} {S : List Addr} {H H' : Hp} (t : TabF H P5) (kp : KeepBut S H H') (hs : ∀ x ∈ S,(∃ xs,H x = some (.lst xs)) ∨ (∃ C dx fs,H x = some (.ins C dx fs))) : TabF H' P5:=by
  have hno : ∀ {z : Addr},(∀ xs,H z ≠ some (.lst xs)) → (∀ C dx fs,H z ≠ some (.ins C dx fs)) → z ∉ S:=fun {z} h1 h2 hz => by
    rcases hs z hz with ⟨xs,e⟩ | ⟨C,dx,fs,e⟩
    · exact h1 xs e
    · exact h2 C dx fs e
  rcases t with t | ⟨c,t,u⟩
  · exact .inl (kp _ _ t (hno (by intro xs z; rw [t] at z; cases z) (by intro C dx fs z; rw [t] at z; cases z)))
  · exact .inr ⟨c,kp _ _ t (hno (by intro xs z; rw [t] at z; cases z) (by intro C dx fs z; rw [t] at z; cases z)),kp _ _ u (hno (by intro xs z; rw [u] at z; cases z) (by intro C dx fs z; rw [u] at z; cases z))⟩
def bestL (rk : List Int) (as ms : List Bool) (pl : List Int) (lim : V) : List Int:=(wantL as ms rk.length).filter (openB rk lim pl)
section
variable {P : Program} {w : World} {K : PySem.W.Frag} {mg : Str → Option Value} {base : Heap} {C P5 : Addr}
theorem BoardAt.kp {H H' : Hp} {x r a m p : Addr} {rk : List Int} {as ms : List Bool} {pl : List Int} {lim : V} (B : BoardAt C H x r a m p rk as ms pl lim) (t : TabF H P5) (kp : Kp P5 H H') : BoardAt C H' x r a m p rk as ms pl lim:=by
  obtain ⟨dx,e⟩:=B.at_
  exact ⟨⟨dx,kp _ _ e (t.ne e fun _ z => by cases z)⟩,kp _ _ B.rk (t.ne B.rk fun _ z => by cases z),kp _ _ B.as (t.ne B.as fun _ z => by cases z),kp _ _ B.ms (t.ne B.ms fun _ z => by cases z),kp _ _ B.pl (t.ne B.pl fun _ z => by cases z),B.ra,B.rm,B.rp,B.am,B.ap,B.mp⟩
def spBest (C P5 : Addr) : Sp:=fun vs H Q _ => ∃ (x r a m p : Addr) (rk : List Int) (as ms : List Bool) (pl : List Int) (lim : V),vs = [.ref x] ∧ BoardAt C H x r a m p rk as ms pl lim ∧ BInv rk as ms pl lim ∧ TabF H P5 ∧
  ∀ v H',Kp P5 H H' → TabF H' P5 → First rk (bestL rk as ms pl lim) v → Q v H'
theorem scBest : FnScope ["self"] ["self"] (defScope (wm 0)):=⟨rfl,rfl,rfl,by decide +kernel,rfl,by decide +kernel,by decide +kernel⟩
theorem filt_take {α : Type} (l : List α) (q : α → Bool) (i : Nat) (h : i < l.length) : (l.take (i + 1)).filter q = if q l[i] = true then (l.take i).filter q ++ [l[i]] else (l.take i).filter q:=by
  rw [List.take_succ_eq_append_getElem h,List.filter_append]
  rw [List.filter_cons,List.filter_nil]
  cases e : q l[i] with
  | true => rfl
  | false => simp
theorem f_best (D : MDef K C "best" "Wide.best" (wm 0) ["self"]) (TB : BTxt K C) (GF : Fu P w K mg base CX0 4 "first_of" ["ranks", "lines"] (spFirstOf K P5)) (GW : FuM P w K mg base CX0 2 C "wanting" ["self"] (spWanting C)) (GO : FuM P w K mg base CX0 2 C "is_open" ["self", "line"] (spOpen C)) :
    FuM P w K mg base CX0 5 C "best" ["self"] (spBest C P5):=by
  refine D.fu scBest (fun vs H Q E h => ?_) (fun f cdv A outer s H vs Q E hr h => ?_)
  · obtain ⟨x,r,a,m,p,rk,as,ms,pl,lim,rfl,_⟩:=h
    rfl
  · obtain ⟨x,r,a,m,p,rk,as,ms,pl,lim,rfl,B,I,t,kk⟩:=h
    refine' ⟨_,pss_one (ps_ret (pc GF hr pass0 (pa_cons (pe_fld (pv 0) rfl) (pa_cons (pe_comp (ts:=["line"]) (fvs:=["self"]) (js:=[0]) (cl:=[("self",s.heap.objs.size + 1)]) rfl ?S (pi_list (pm0 GW TB.cl hr pass0 (pv 0))) (fun _ _ _ _ => pg_name (i:=0) (show List.Nodup (["line", "self"] : List Str) from by decide +kernel) rfl (Or.inl rfl) (Or.inr rfl))
        (fun _ _ _ _ => pif_one (pt_val (pm GO TB.cl hr pass0 (pv 1) (pa_cons (pv 0) pa_nil)))) (fun _ _ _ _ => pv 0)) pa_nil)))),?main⟩
    case S => exact site1 rfl rfl (by decide +kernel) (by decide +kernel) rfl (.inl rfl) rfl (.inl rfl) rfl
    case main =>
      obtain ⟨dx,e0⟩:=B.at_
      refine ⟨_,rfl,x,C,dx,_,_,rfl,e0,TB.cl,TB.nR,rfl,_,rfl,x,dx,_,rfl,e0,bf_no (by decide +kernel),x,r,a,m,p,rk,as,ms,pl,lim,rfl,B,I.la,I.lm,I.l60,fun wl H1 s1 _ hw => ?_⟩
      refine ⟨wl,rfl,⟨_,SqL.of hw⟩,[.ref x],rfl,fun d nd => ?_⟩
      have B1:=B.same s1
      have hlen:=wantL_len as ms rk.length
      refine comp_it (wantL as ms rk.length).length (by rw [sizeLine_eq]; have:=I.l60; omega) (fun i ys H2 => ys = (((wantL as ms rk.length).take i).filter (openB rk lim pl)).map V.int ∧ Same H1 H2 ∧ H2 d = some (.lst ys)) ⟨rfl,Same.new nd,upd_same⟩ (fun i ys H2 ⟨e,_,e2⟩ => ⟨e2,by rw [e,List.length_map]; exact Nat.le_trans (List.length_filter_le _ _) (List.length_take_le _ _)⟩) ?_ ?_
      · rintro i ys H2 N hi ⟨rfl,sm,hD⟩ rest
        have g1 : ((wantL as ms rk.length).map V.int)[i]? = some (.int (wantL as ms rk.length)[i]):=by simp [hi]
        refine ⟨⟨_,_,sm.seq (SqL.of hw),g1⟩,?_⟩
        rintro y H3 ⟨rfl,hy⟩
        have hy':=hy _ (sm.seq (SqL.of hw))
        rw [g1] at hy'
        cases hy'
        have B2:=B1.same sm
        obtain ⟨dx2,e2⟩:=B2.at_
        have hb:=wantL_mem (List.getElem_mem hi)
        refine ⟨rfl,rfl,_,rfl,x,dx2,_,rfl,e2,bf_no (by decide +kernel),_,rfl,x,r,a,m,p,rk,as,ms,pl,lim,_,rfl,B2,hb.1,hb.2,I.pr,I.li,_,rfl,?_⟩
        refine ite2 (fun hc => ?_) (fun hc => ?_)
        · refine ⟨_,rfl,hD,rest _ _ ⟨?_,fun b o e => ?_,upd_same⟩⟩
          · rw [filt_take _ _ _ hi,if_pos hc,List.map_append]
            rfl
          · rw [upd_ne (ne_of_none e nd)]
            exact sm b o e
        · refine rest _ _ ⟨?_,sm,hD⟩
          rw [filt_take _ _ _ hi,if_neg hc]
      · rintro ys H2 ⟨rfl,sm,hD⟩
        refine ⟨⟨_,sm.seq (SqL.of hw),by rw [List.length_map]; exact Nat.le_refl _⟩,?_⟩
        rw [List.take_of_length_le (Nat.le_refl _)] at hD
        have s12:=s1.trans sm
        refine ⟨r,d,rk,bestL rk as ms pl lim,rfl,SqL.of (s12 _ _ B.rk),SqL.of hD,(wantL_nd _ _ _).filter _,fun l hl => wantL_mem (List.mem_filter.mp hl).1,Tab.same t s12,fun v H4 kp t4 hF => kk v H4 ((Kp.of_same s12).trans kp) t4 hF⟩
def spPass : Sp:=fun vs H Q _ => ∃ (x : Addr) (i : Int),vs = [.ref x,.int i] ∧ Q .non H
theorem scW1 : FnScope ["self", "line"] ["self", "line"] (defScope (wm 1)):=⟨rfl,rfl,rfl,by decide +kernel,rfl,by decide +kernel,by decide +kernel⟩
theorem scW2 : FnScope ["self", "line"] ["self", "line"] (defScope (wm 2)):=⟨rfl,rfl,rfl,by decide +kernel,rfl,by decide +kernel,by decide +kernel⟩
theorem f_comes (D : MDef K C "line_comes" "Wide.line_comes" (wm 1) ["self", "line"]) : FuM P w K mg base CX0 1 C "line_comes" ["self", "line"] spPass:=by
  refine D.fu scW1 (fun vs H Q E h => ?_) (fun f cdv A outer s H vs Q E hr h => ?_)
  · obtain ⟨x,i,rfl,_⟩:=h
    rfl
  · obtain ⟨x,i,rfl,q⟩:=h
    exact ⟨_,pss_one ps_pass,q⟩
theorem f_goes (D : MDef K C "line_goes" "Wide.line_goes" (wm 2) ["self", "line"]) : FuM P w K mg base CX0 1 C "line_goes" ["self", "line"] spPass:=by
  refine D.fu scW2 (fun vs H Q E h => ?_) (fun f cdv A outer s H vs Q E hr h => ?_)
  · obtain ⟨x,i,rfl,_⟩:=h
    rfl
  · obtain ⟨x,i,rfl,q⟩:=h
    exact ⟨_,pss_one ps_pass,q⟩
def FlagOk (C : Addr) (isA : Bool) (wish : Bool) (H : Hp) (x r a m p : Addr) (rk : List Int) (as ms : List Bool) (pl : List Int) (lim : V) (i : Int) (Q : VK) : Prop :=
  ∀ H',KeepBut [if isA then a else m] H H' → BoardAt C H' x r a m p rk (if isA then as.set i.toNat wish else as) (if isA then ms else ms.set i.toNat wish) pl lim → Q (.bl ((if isA then as else ms).getD i.toNat false != wish)) H'
def spTurn (C : Addr) : Sp:=fun vs H Q _ => ∃ (isA wish : Bool) (x r a m p : Addr) (rk : List Int) (as ms : List Bool) (pl : List Int) (lim : V) (i : Int),vs = [.ref x,.ref (if isA then a else m),.int i,.bl wish] ∧ BoardAt C H x r a m p rk as ms pl lim ∧ as.length = rk.length ∧ ms.length = rk.length ∧ 0 ≤ i ∧ i < rk.length ∧ FlagOk C isA wish H x r a m p rk as ms pl lim i Q
theorem scTurn : FnScope ["self", "marks", "line", "wish", "wanted"] ["self", "marks", "line", "wish"] (defScope (bm 10)):=⟨rfl,rfl,rfl,by decide +kernel,rfl,by decide +kernel,by decide +kernel⟩
theorem set_self {bs : List Bool} {i : Nat} {b : Bool} (h : i < bs.length) (e : bs.getD i false = b) : bs.set i b = bs:=by
  apply List.ext_getElem (by simp)
  intro j h1 h2
  rw [List.getElem_set]
  split
  · rename_i z
    subst z
    simpa [List.getD,h] using e.symm
  · rfl
theorem f_turn (D : MDef K C "turn" "Board.turn" (bm 10) ["self", "marks", "line", "wish"]) (TB : BTxt K C) (GK : FuM P w K mg base CX0 4 C "check_line" ["self", "line"] (spCheck C)) (GW : FuM P w K mg base CX0 1 C "wants" ["self", "line"] (spWants C))
    (GC : FuM P w K mg base CX0 1 C "line_comes" ["self", "line"] spPass) (GG : FuM P w K mg base CX0 1 C "line_goes" ["self", "line"] spPass) : FuM P w K mg base CX0 5 C "turn" ["self", "marks", "line", "wish"] (spTurn C):=by
  refine D.fu scTurn (fun vs H Q E h => ?_) (fun f cdv A outer s H vs Q E hr h => ?_)
  · obtain ⟨isA,wish,x,r,a,m,p,rk,as,ms,pl,lim,i,rfl,_⟩:=h
    rfl
  · obtain ⟨isA,wish,x,r,a,m,p,rk,as,ms,pl,lim,i,rfl,B,la,lm,h0,h1,kk⟩:=h
    refine ⟨_,pss_cons (ps_expr (pm GK TB.cl hr pass0 (pv 0) (pa_cons (pv 2) pa_nil)))
      (pss_cons (ps_if (pt_cmpR op_eq (pe_ix ix_list (pv 1) (pv 2) (fun _ _ => rfl)) (pv 3) (nomark _)) (pss_one (ps_ret pe_bl)) pss_nil)
      (pss_cons (ps_set (i:=4) scTurn.nd rfl (Or.inl rfl) (pm GW TB.cl hr pass0 (pv 0) (pa_cons (pv 2) pa_nil)))
      (pss_cons (ps_asg (pv 3) (pg_sub (pv 1) (pv 2) set_list))
      (pss_cons (ps_if (pt_val (pm GW TB.cl hr pass0 (pv 0) (pa_cons (pv 2) pa_nil))) (pss_one (ps_expr (pm GC TB.cl hr pass0 (pv 0) (pa_cons (pv 2) pa_nil))))
        (pss_one (ps_if (pt_val (pv 4)) (pss_one (ps_expr (pm GG TB.cl hr pass0 (pv 0) (pa_cons (pv 2) pa_nil)))) pss_nil)))
      (pss_one (ps_ret pe_bl)))))),?_⟩
    obtain ⟨cs,hk,hl,hset,hcs⟩ : ∃ cs : List Bool,H (if isA then a else m) = some (.lst (cs.map V.bl)) ∧ cs.length = rk.length ∧ (∀ bs : List Bool,BoardAt C (upd H (if isA then a else m) (.lst (bs.map V.bl))) x r a m p rk (if isA then bs else as) (if isA then ms else bs) pl lim) ∧ cs = (if isA then as else ms):=by
      cases isA with
      | true => exact ⟨as,B.as,la,fun bs => B.setAs,rfl⟩
      | false => exact ⟨ms,B.ms,lm,fun bs => B.setMs,rfl⟩
    have hk':=kk
    unfold FlagOk at hk'
    rw [← hcs] at hk'
    generalize (if isA then a else m) = k at hk hset hk' ⊢
    obtain ⟨dx,e0⟩:=B.at_
    refine ⟨_,rfl,x,dx,_,rfl,e0,bf_no (by decide +kernel),_,rfl,x,r,a,m,p,rk,as,ms,pl,lim,i,rfl,B,h0,h1,?_⟩
    refine ⟨_,rfl,_,rfl,k,_,_,_,rfl,rfl,SqL.of hk,atI_bl h0 (by omega),_,rfl,rfl,_,rfl,?_⟩
    have hi : i.toNat < cs.length:=by omega
    refine ite2 (fun hc => ?_) (fun hc => ?_)
    · have e : cs.getD i.toNat false = wish:=by
        have:=of_decide_eq_true hc
        injection this
      have q:=hk' H (KeepBut.refl _ _) (by
        have e2 : cs.set i.toNat wish = cs:=set_self hi e
        cases isA with
        | true => simp only [if_true] at hcs ⊢; rw [← hcs,e2,hcs]; exact B
        | false => simp only [Bool.false_eq_true,if_false] at hcs ⊢; rw [← hcs,e2,hcs]; exact B)
      rw [e] at q
      have q' : Q (.bl false) H:=by simpa using q
      exact q'
    · have e : cs.getD i.toNat false ≠ wish:=fun z => hc (decide_eq_true (by rw [z]))
      refine ⟨_,rfl,x,dx,_,rfl,e0,bf_no (by decide +kernel),_,rfl,x,r,a,m,p,rk,as,ms,pl,lim,i,rfl,B,h0,by omega,by omega,?_⟩
      refine ⟨_,rfl,_,rfl,_,rfl,k,_,_,_,rfl,rfl,hk,ixN_nat h0 (by rw [List.length_map]; omega),?_⟩
      rw [show (cs.map V.bl).set i.toNat (.bl wish) = (cs.set i.toNat wish).map V.bl from (List.map_set ..).symm]
      have B2:=hset (cs.set i.toNat wish)
      have fin : Q (.bl true) (upd H k (.lst ((cs.set i.toNat wish).map V.bl))):=by
        have q:=hk' (upd H k (.lst ((cs.set i.toNat wish).map V.bl))) ((KeepBut.refl _ _).upd (.inl (by simp))) (by
          cases isA with
          | true => simp only [if_true] at hcs B2 ⊢; rw [← hcs]; exact B2
          | false => simp only [Bool.false_eq_true,if_false] at hcs B2 ⊢; rw [← hcs]; exact B2)
        rwa [show (cs.getD i.toNat false != wish) = true by simpa using e] at q
      obtain ⟨dx2,e2⟩:=B2.at_
      have l1 : (if isA = true then cs.set i.toNat wish else as).length = rk.length:=by cases isA <;> simp [hl,la]
      have l2 : (if isA = true then ms else cs.set i.toNat wish).length = rk.length:=by cases isA <;> simp [hl,lm]
      refine ⟨_,rfl,x,dx2,_,rfl,e2,bf_no (by decide +kernel),_,rfl,x,r,a,m,p,rk,_,_,pl,lim,i,rfl,B2,h0,by rw [l1]; omega,by rw [l2]; omega,_,rfl,?_⟩
      refine ite2 (fun _ => ?_) (fun _ => ?_)
      · exact ⟨_,rfl,x,dx2,_,rfl,e2,bf_no (by decide +kernel),_,rfl,x,i,rfl,fin⟩
      · refine ⟨_,rfl,_,rfl,ite2 (fun _ => ?_) (fun _ => fin)⟩
        exact ⟨_,rfl,x,dx2,_,rfl,e2,bf_no (by decide +kernel),_,rfl,x,i,rfl,fin⟩
def spFlag (C : Addr) (isA wish : Bool) : Sp:=fun vs H Q _ => ∃ (x r a m p : Addr) (rk : List Int) (as ms : List Bool) (pl : List Int) (lim : V) (i : Int),vs = [.ref x,.int i] ∧ BoardAt C H x r a m p rk as ms pl lim ∧ as.length = rk.length ∧ ms.length = rk.length ∧ 0 ≤ i ∧ i < rk.length ∧ FlagOk C isA wish H x r a m p rk as ms pl lim i Q
theorem scR1 : FnScope ["self", "line"] ["self", "line"] (defScope (bm 1)):=⟨rfl,rfl,rfl,by decide +kernel,rfl,by decide +kernel,by decide +kernel⟩
theorem scR2 : FnScope ["self", "line"] ["self", "line"] (defScope (bm 2)):=⟨rfl,rfl,rfl,by decide +kernel,rfl,by decide +kernel,by decide +kernel⟩
theorem scR3 : FnScope ["self", "line"] ["self", "line"] (defScope (bm 3)):=⟨rfl,rfl,rfl,by decide +kernel,rfl,by decide +kernel,by decide +kernel⟩
theorem scR4 : FnScope ["self", "line"] ["self", "line"] (defScope (bm 4)):=⟨rfl,rfl,rfl,by decide +kernel,rfl,by decide +kernel,by decide +kernel⟩
theorem f_ring (D : MDef K C "ring" "Board.ring" (bm 1) ["self", "line"]) (TB : BTxt K C) (GT : FuM P w K mg base CX0 5 C "turn" ["self", "marks", "line", "wish"] (spTurn C)) : FuM P w K mg base CX0 6 C "ring" ["self", "line"] (spFlag C true true):=by
  refine D.fu scR1 (fun vs H Q E h => ?_) (fun f cdv A outer s H vs Q E hr h => ?_)
  · obtain ⟨x,r,a,m,p,rk,as,ms,pl,lim,i,rfl,_⟩:=h
    rfl
  · obtain ⟨x,r,a,m,p,rk,as,ms,pl,lim,i,rfl,B,la,lm,h0,h1,kk⟩:=h
    refine ⟨_,pss_one (ps_ret (pm GT TB.cl hr pass0 (pv 0) (pa_cons (pe_fld (pv 0) rfl) (pa_cons (pv 1) (pa_cons pe_bl pa_nil))))),?_⟩
    obtain ⟨dx,e0⟩:=B.at_
    exact ⟨_,rfl,x,dx,_,rfl,e0,bf_no (by decide +kernel),_,rfl,x,C,dx,_,_,rfl,e0,TB.cl,TB.nA,rfl,_,rfl,true,true,x,r,a,m,p,rk,as,ms,pl,lim,i,rfl,B,la,lm,h0,h1,kk⟩
theorem f_calm (D : MDef K C "calm" "Board.calm" (bm 2) ["self", "line"]) (TB : BTxt K C) (GT : FuM P w K mg base CX0 5 C "turn" ["self", "marks", "line", "wish"] (spTurn C)) : FuM P w K mg base CX0 6 C "calm" ["self", "line"] (spFlag C true false):=by
  refine D.fu scR2 (fun vs H Q E h => ?_) (fun f cdv A outer s H vs Q E hr h => ?_)
  · obtain ⟨x,r,a,m,p,rk,as,ms,pl,lim,i,rfl,_⟩:=h
    rfl
  · obtain ⟨x,r,a,m,p,rk,as,ms,pl,lim,i,rfl,B,la,lm,h0,h1,kk⟩:=h
    refine ⟨_,pss_one (ps_ret (pm GT TB.cl hr pass0 (pv 0) (pa_cons (pe_fld (pv 0) rfl) (pa_cons (pv 1) (pa_cons pe_bl pa_nil))))),?_⟩
    obtain ⟨dx,e0⟩:=B.at_
    exact ⟨_,rfl,x,dx,_,rfl,e0,bf_no (by decide +kernel),_,rfl,x,C,dx,_,_,rfl,e0,TB.cl,TB.nA,rfl,_,rfl,true,false,x,r,a,m,p,rk,as,ms,pl,lim,i,rfl,B,la,lm,h0,h1,kk⟩
end
end K05

namespace K05
open PySem L2 L3
section
variable {P : Program} {w : World} {K : PySem.W.Frag} {mg : Str → Option Value} {base : Heap} {C P5 : Addr}
def spBarM (C : Addr) : Sp:=fun vs H Q _ => ∃ (x r a m p : Addr) (rk : List Int) (as ms : List Bool) (pl : List Int) (lim v : V),vs = [.ref x,v] ∧ BoardAt C H x r a m p rk as ms pl lim ∧ BarV v ∧ ∀ H',KeepBut [x] H H' → BoardAt C H' x r a m p rk as ms pl v → Q lim H'
theorem scBarM : FnScope ["self", "rank", "old"] ["self", "rank"] (defScope (bm 5)):=⟨rfl,rfl,rfl,by decide +kernel,rfl,by decide +kernel,by decide +kernel⟩
theorem f_barM (D : MDef K C "bar" "Board.bar" (bm 5) ["self", "rank"]) (TB : BTxt K C) (GB : Fu P w K mg base CX0 3 "is_bar" ["thing"] spBar) : FuM P w K mg base CX0 4 C "bar" ["self", "rank"] (spBarM C):=by
  refine D.fu scBarM (fun vs H Q E h => ?_) (fun f cdv A outer s H vs Q E hr h => ?_)
  · obtain ⟨x,r,a,m,p,rk,as,ms,pl,lim,v,rfl,_⟩:=h
    rfl
  · obtain ⟨x,r,a,m,p,rk,as,ms,pl,lim,v,rfl,B,hv,kk⟩:=h
    refine ⟨_,pss_cons (ps_if (pt_not (pt_val (pc GB hr pass0 (pa_cons (pv 1) pa_nil)))) (pss_one ps_never) pss_nil)
      (pss_cons (ps_set (i:=2) scBarM.nd rfl (Or.inl rfl) (pe_fld (pv 0) rfl))
      (pss_cons (ps_fld (pv 0) (pv 1) rfl)
      (pss_one (ps_ret (pv 2))))),?_⟩
    obtain ⟨dx,e0⟩:=B.at_
    refine ⟨_,rfl,v,rfl,hv,_,rfl,iteF ?_⟩
    refine ⟨_,rfl,x,C,dx,_,_,rfl,e0,TB.cl,TB.nL,rfl,?_⟩
    refine ⟨_,rfl,_,rfl,x,C,dx,_,rfl,e0,TB.cl,TB.nL,bf_len,?_⟩
    exact ⟨_,rfl,kk _ ((KeepBut.refl _ _).upd (.inl (by simp))) B.setLim⟩
def takeA (as : List Bool) : V → List Bool
  | .int i => as.set i.toNat false
  | _ => as
def takeP (pl : List Int) : V → List Int
  | .int i => pl ++ [i]
  | _ => pl
def spTake (C P5 : Addr) : Sp:=fun vs H Q _ => ∃ (x r a m p : Addr) (rk : List Int) (as ms : List Bool) (pl : List Int) (lim : V),vs = [.ref x] ∧ BoardAt C H x r a m p rk as ms pl lim ∧ BInv rk as ms pl lim ∧ TabF H P5 ∧ pl.length ≤ 1000 ∧
  ∀ v H',First rk (bestL rk as ms pl lim) v → KeepBut [a,p,P5] H H' → TabF H' P5 → BoardAt C H' x r a m p rk (takeA as v) ms (takeP pl v) lim → Q v H'
theorem scTake : FnScope ["self", "line"] ["self"] (defScope (bm 6)):=⟨rfl,rfl,rfl,by decide +kernel,rfl,by decide +kernel,by decide +kernel⟩
theorem bestL_mem {rk : List Int} {as ms : List Bool} {pl : List Int} {lim : V} {i : Int} (h : i ∈ bestL rk as ms pl lim) : 0 ≤ i ∧ i < rk.length:=wantL_mem (List.mem_filter.mp h).1
theorem f_take (D : MDef K C "take" "Board.take" (bm 6) ["self"]) (TB : BTxt K C) (GB : FuM P w K mg base CX0 5 C "best" ["self"] (spBest C P5)) (GC : FuM P w K mg base CX0 6 C "calm" ["self", "line"] (spFlag C true false)) : FuM P w K mg base CX0 7 C "take" ["self"] (spTake C P5):=by
  refine D.fu scTake (fun vs H Q E h => ?_) (fun f cdv A outer s H vs Q E hr h => ?_)
  · obtain ⟨x,r,a,m,p,rk,as,ms,pl,lim,rfl,_⟩:=h
    rfl
  · obtain ⟨x,r,a,m,p,rk,as,ms,pl,lim,rfl,B,I,t,lp,kk⟩:=h
    refine ⟨_,pss_cons (ps_set (i:=1) scTake.nd rfl (Or.inl rfl) (pm0 GB TB.cl hr pass0 (pv 0)))
      (pss_cons (ps_if (pt_cmp (pc_notN (pv 1))) (pss_cons (ps_expr (pm GC TB.cl hr pass0 (pv 0) (pa_cons (pv 1) pa_nil))) (pss_one (ps_expr (pe_bm PySem.F.plainAttrs_list PySem.F.slot_list_append PySem.F.type_list_append mt_append (pe_fld (pv 0) rfl) (pa_cons (pv 1) pa_nil))))) pss_nil)
      (pss_one (ps_ret (pv 1)))),?_⟩
    obtain ⟨dx,e0⟩:=B.at_
    refine ⟨_,rfl,x,dx,_,rfl,e0,bf_no (by decide +kernel),x,r,a,m,p,rk,as,ms,pl,lim,rfl,B,I,t,fun v H1 kp t1 hF => ?_⟩
    have B1:=B.kp t kp
    refine ⟨_,rfl,_,rfl,?_⟩
    have kp1 : KeepBut [a,p,P5] H H1:=fun b o e hn => kp b o e (by simp only [List.mem_cons,List.not_mem_nil,or_false,not_or] at hn; exact hn.2.2)
    cases v with
    | int i =>
      have hm : i ∈ bestL rk as ms pl lim:=hF.1
      have hb:=bestL_mem hm
      obtain ⟨dx1,e1⟩:=B1.at_
      refine iteT ⟨_,rfl,x,dx1,_,rfl,e1,bf_no (by decide +kernel),_,rfl,x,r,a,m,p,rk,as,ms,pl,lim,i,rfl,B1,I.la,I.lm,hb.1,hb.2,fun H2 k2 B2 => ?_⟩
      have B2' : BoardAt C H2 x r a m p rk (as.set i.toNat false) ms pl lim:=B2
      obtain ⟨dx2,e2⟩:=B2'.at_
      have t2 : TabF H2 P5:=tab_kb t1 k2 fun z hz => by
        have e : z = a:=by simpa using hz
        subst e
        exact .inl ⟨_,B1.as⟩
      refine ⟨_,rfl,x,C,dx2,_,_,rfl,e2,TB.cl,TB.nP,rfl,.inl ⟨rfl,_,SqL.of B2'.pl⟩,_,rfl,p,_,_,rfl,rfl,B2'.pl,by rw [List.length_map,sizeLine_eq]; omega,?_⟩
      rw [show pl.map V.int ++ [V.int i] = (pl ++ [i]).map V.int by simp]
      refine ⟨_,rfl,kk (.int i) _ hF ?_ (t2.lst B2'.pl) B2'.setPl⟩
      exact (kp1.trans (KeepBut.more k2 (by simp))).upd (.inl (by simp))
    | non => exact iteF ⟨_,rfl,kk .non _ hF kp1 t1 B1⟩
    | bl b => exact hF.elim
    | str b => exact hF.elim
    | byt b => exact hF.elim
    | flt b => exact hF.elim
    | ref b => exact hF.elim
    | ty b => exact hF.elim
def spEnd (C : Addr) : Sp:=fun vs H Q _ => ∃ (x r a m p : Addr) (rk : List Int) (as ms : List Bool) (pl : List Int) (lim : V) (i : Int),vs = [.ref x,.int i] ∧ BoardAt C H x r a m p rk as ms pl lim ∧ pl.getLast? = some i ∧ 0 ≤ i ∧ i < rk.length ∧ ∀ H',KeepBut [p] H H' → BoardAt C H' x r a m p rk as ms pl.dropLast lim → Q (lastV pl.dropLast) H'
theorem scEnd : FnScope ["self", "line", "top"] ["self", "line"] (defScope (bm 7)):=⟨rfl,rfl,rfl,by decide +kernel,rfl,by decide +kernel,by decide +kernel⟩
theorem f_end (D : MDef K C "end" "Board.end" (bm 7) ["self", "line"]) (TB : BTxt K C) (GK : FuM P w K mg base CX0 4 C "check_line" ["self", "line"] (spCheck C)) (GT : Fu P w K mg base CX0 1 "top_of" ["pile"] (spTopOf K)) : FuM P w K mg base CX0 5 C "end" ["self", "line"] (spEnd C):=by
  refine D.fu scEnd (fun vs H Q E h => ?_) (fun f cdv A outer s H vs Q E hr h => ?_)
  · obtain ⟨x,r,a,m,p,rk,as,ms,pl,lim,i,rfl,_⟩:=h
    rfl
  · obtain ⟨x,r,a,m,p,rk,as,ms,pl,lim,i,rfl,B,hi,h0,h1,kk⟩:=h
    refine ⟨_,pss_cons (ps_expr (pm GK TB.cl hr pass0 (pv 0) (pa_cons (pv 1) pa_nil)))
      (pss_cons (ps_set (i:=2) scEnd.nd rfl (Or.inl rfl) (pc GT hr pass0 (pa_cons (pe_fld (pv 0) rfl) pa_nil)))
      (pss_cons (ps_if (pt_cmpR op_ne (pv 1) (pv 2) (nomark _)) (pss_one ps_never) pss_nil)
      (pss_cons (ps_expr (pe_bm0 PySem.F.plainAttrs_list PySem.F.slot_list_pop PySem.F.type_list_pop mt_pop (pe_fld (pv 0) rfl)))
      (pss_one (ps_ret (pc GT hr pass0 (pa_cons (pe_fld (pv 0) rfl) pa_nil))))))),?_⟩
    obtain ⟨dx,e0⟩:=B.at_
    have el : lastV pl = .int i:=by unfold lastV; rw [hi]
    have hne : pl ≠ []:=by intro z; rw [z] at hi; cases hi
    refine ⟨_,rfl,x,dx,_,rfl,e0,bf_no (by decide +kernel),_,rfl,x,r,a,m,p,rk,as,ms,pl,lim,i,rfl,B,h0,h1,?_⟩
    refine ⟨_,rfl,x,C,dx,_,_,rfl,e0,TB.cl,TB.nP,rfl,p,pl,rfl,B.pl,?_⟩
    rw [el]
    refine ⟨_,rfl,_,rfl,rfl,_,rfl,iteFe (by simp) ?_⟩
    refine ⟨_,rfl,x,C,dx,_,_,rfl,e0,TB.cl,TB.nP,rfl,.inl ⟨rfl,_,SqL.of B.pl⟩,p,_,.int i,rfl,rfl,B.pl,?_,?_⟩
    · rw [List.getElem?_map,List.length_map,← List.getLast?_eq_getElem?,hi]; rfl
    · rw [show (pl.map V.int).dropLast = pl.dropLast.map V.int from (List.map_dropLast ..).symm]
      have B2 : BoardAt C (upd H p (.lst (pl.dropLast.map V.int))) x r a m p rk as ms pl.dropLast lim:=B.setPl
      obtain ⟨dx2,e2⟩:=B2.at_
      exact ⟨_,rfl,x,C,dx2,_,_,rfl,e2,TB.cl,TB.nP,rfl,p,_,rfl,B2.pl,kk _ ((KeepBut.refl _ _).upd (.inl (by simp))) B2⟩
def spTold (C : Addr) : Sp:=fun vs H Q _ => ∃ (x r a m p : Addr) (rk : List Int) (as ms : List Bool) (pl : List Int) (lim : V),vs = [.ref x] ∧ BoardAt C H x r a m p rk as ms pl lim ∧ as.length ≤ 60 ∧ ms.length ≤ 60 ∧
  ∀ t d0 d1 d2 H',Same H H' → H t = none → H d0 = none → H d1 = none → H d2 = none → d0 ≠ d1 → d0 ≠ d2 → d1 ≠ d2 → H' t = some (.tup [.ref d0,.ref d1,.ref d2,lim]) → H' d0 = some (.lst ((idxL as as.length).map V.int)) → H' d1 = some (.lst ((idxL ms ms.length).map V.int)) → H' d2 = some (.lst (pl.map V.int)) → Q (.ref t) H'
theorem scTold : FnScope ["self"] ["self"] (defScope (bm 8)):=⟨rfl,rfl,rfl,by decide +kernel,rfl,by decide +kernel,by decide +kernel⟩
theorem f_told (D : MDef K C "told" "Board.told" (bm 8) ["self"]) (T : Txt K mg) (TB : BTxt K C) (GM : Fu P w K mg base CX0 1 "marked" ["marks"] spMarked) : FuM P w K mg base CX0 2 C "told" ["self"] (spTold C):=by
  refine D.fu scTold (fun vs H Q E h => ?_) (fun f cdv A outer s H vs Q E hr h => ?_)
  · obtain ⟨x,r,a,m,p,rk,as,ms,pl,lim,rfl,_⟩:=h
    rfl
  · obtain ⟨x,r,a,m,p,rk,as,ms,pl,lim,rfl,B,l1,l2,kk⟩:=h
    refine ⟨_,pss_one (ps_ret (pe_tup (pa_cons (pc GM hr pass0 (pa_cons (pe_fld (pv 0) rfl) pa_nil)) (pa_cons (pc GM hr pass0 (pa_cons (pe_fld (pv 0) rfl) pa_nil)) (pa_cons (p_list T.list (pe_fld (pv 0) rfl)) (pa_cons (pe_fld (pv 0) rfl) pa_nil)))))),?_⟩
    obtain ⟨dx,e0⟩:=B.at_
    refine ⟨_,rfl,x,C,dx,_,_,rfl,e0,TB.cl,TB.nA,rfl,a,as,rfl,B.as,l1,fun d0 H1 s1 n0 g0 => ?_⟩
    have B1:=B.same s1
    refine ⟨_,rfl,x,C,dx,_,_,rfl,s1 _ _ e0,TB.cl,TB.nM,rfl,m,ms,rfl,B1.ms,l2,fun d1 H2 s2 n1 g1 => ?_⟩
    have s12:=s1.trans s2
    have B2:=B.same s12
    refine ⟨_,rfl,x,C,dx,_,_,rfl,s12 _ _ e0,TB.cl,TB.nP,rfl,p,_,rfl,.inl (SqL.of B2.pl),fun d2 n2 => ?_⟩
    have s3:=Same.new (o:=.lst (pl.map V.int)) n2
    have s13:=s12.trans s3
    refine ⟨_,rfl,x,C,dx,_,_,rfl,s13 _ _ e0,TB.cl,TB.nL,rfl,(by show 4 ≤ sizeLine; decide),fun t nt => ?_⟩
    have s4:=Same.new (o:=.tup [.ref d0,.ref d1,.ref d2,lim]) nt
    have d01 : d0 ≠ d1:=ne_of_none g0 n1
    have d02 : d0 ≠ d2:=ne_of_none (s2 _ _ g0) n2
    have d12 : d1 ≠ d2:=ne_of_none g1 n2
    exact kk t d0 d1 d2 _ (s13.trans s4) (s13.free nt) n0 (s1.free n1) (s12.free n2) d01 d02 d12 upd_same (s4 _ _ (s3 _ _ (s2 _ _ g0))) (s4 _ _ (s3 _ _ g1)) (s4 _ _ upd_same)
def spInit (C : Addr) : Sp:=fun vs H Q _ => ∃ (x ra : Addr) (rk : List Int),vs = [.ref x,.ref ra,.non] ∧ (∃ dx,H x = some (.ins C dx [])) ∧ H ra = some (.lst (rk.map V.int)) ∧ 1 ≤ rk.length ∧ rk.length ≤ 60 ∧ (∀ y ∈ rk,0 ≤ y ∧ y < M60) ∧
  ∀ H' r a m p,KeepBut [x] H H' → H r = none → H a = none → H m = none → H p = none → BoardAt C H' x r a m p rk (List.replicate rk.length false) (List.replicate rk.length false) [] .non → Q .non H'
theorem scInit : FnScope ["self", "ranks", "picture", "start"] ["self", "ranks", "picture"] (defScope (bm 0)):=⟨rfl,rfl,rfl,by decide +kernel,rfl,by decide +kernel,by decide +kernel⟩
theorem marks_nil (n : Nat) : marksL n [] = List.replicate n false:=by
  unfold marksL
  apply List.ext_getElem (by simp)
  intro i h1 h2
  simp
theorem pic_nil (rk : List Int) : PicOk rk [] [] [] .non:=⟨by simp,by simp,by simp,by simp,by simp,by simp,fun i h => by simp at h,fun i h => by simp at h,fun i h => by simp at h,.inl rfl⟩
set_option maxHeartbeats 1000000 in
theorem f_init (D : KDefD K C "Board.__init__" (bm 0) ["self", "ranks", "picture"] [.none]) (T : Txt K mg) (TB : BTxt K C) (GR : Fu P w K mg base CX0 4 "are_ranks" ["thing"] spAreRanks) (GP : Fu P w K mg base CX0 6 "is_picture" ["ranks", "thing"] spPicture)
    (GM : Fu P w K mg base CX0 1 "marks_of" ["ranks", "lines"] spMarksOf) : FuKD P w K mg base CX0 7 C ["self", "ranks", "picture"] [.none] (spInit C):=by
  refine D.fu scInit (fun vs H Q E h => ?_) (fun f cdv A outer s H vs Q E hr h => ?_)
  · obtain ⟨x,ra,rk,rfl,_⟩:=h
    rfl
  · obtain ⟨x,ra,rk,rfl,⟨dx,e0⟩,hq,l1,l60,hrk,kk⟩:=h
    refine ⟨_,pss_cons (ps_if (pt_not (pt_val (pc GR hr pass0 (pa_cons (pv 1) pa_nil)))) (pss_one ps_never) pss_nil)
      (pss_cons (ps_set (i:=3) scInit.nd rfl (Or.inl rfl) (pe_ifExp (pt_cmp (pc_isN (pv 2))) (pe_tup (pa_cons (pe_lst pa_nil) (pa_cons (pe_lst pa_nil) (pa_cons (pe_lst pa_nil) (pa_cons pe_non pa_nil))))) (pv 2)))
      (pss_cons (ps_if (pt_not (pt_val (pc GP hr pass0 (pa_cons (pv 1) (pa_cons (pv 3) pa_nil))))) (pss_one ps_never) pss_nil)
      (pss_cons (ps_fld (pv 0) (p_list T.list (pv 1)) rfl)
      (pss_cons (ps_fld (pv 0) (pc GM hr pass0 (pa_cons (pv 1) (pa_cons (pe_ix ix_tup (pv 3) pe_int (fun _ _ => rfl)) pa_nil))) rfl)
      (pss_cons (ps_fld (pv 0) (pc GM hr pass0 (pa_cons (pv 1) (pa_cons (pe_ix ix_tup (pv 3) pe_int (fun _ _ => rfl)) pa_nil))) rfl)
      (pss_cons (ps_fld (pv 0) (p_list T.list (pe_ix ix_tup (pv 3) pe_int (fun _ _ => rfl))) rfl)
      (pss_one (ps_fld (pv 0) (pe_ix ix_tup (pv 3) pe_int (fun _ _ => rfl)) rfl)))))))),?_⟩
    refine ⟨_,rfl,ra,rk,rfl,hq,l1,l60,hrk,fun H1 s1 => ⟨_,rfl,iteF ?_⟩⟩
    refine ⟨_,rfl,_,rfl,iteT ⟨(by show 0 ≤ sizeLine; decide),fun p0 n0 => ⟨(by show 0 ≤ sizeLine; decide),fun p1 n1 => ⟨(by show 0 ≤ sizeLine; decide),fun p2 n2 => ⟨(by show 4 ≤ sizeLine; decide),fun t nt => ?_⟩⟩⟩⟩⟩
    have u0:=Same.new (o:=.lst []) n0
    have u1:=Same.new (o:=.lst []) n1
    have u2:=Same.new (o:=.lst []) n2
    have u3:=Same.new (o:=.tup [.ref p0,.ref p1,.ref p2,.non]) nt
    have s2:=(((s1.trans u0).trans u1).trans u2).trans u3
    have g0:=((u1.trans u2).trans u3) _ _ (upd_same (H:=H1) (a:=p0) (o:=.lst []))
    have g1:=(u2.trans u3) _ _ (upd_same (a:=p1) (o:=.lst []))
    have g2:=u3 _ _ (upd_same (a:=p2) (o:=.lst []))
    have gt:=upd_same (H:=upd (upd (upd H1 p0 (.lst [])) p1 (.lst [])) p2 (.lst [])) (a:=t) (o:=.tup [.ref p0,.ref p1,.ref p2,.non])
    have z0 : H p0 = none:=s1.free n0
    have z1 : H p1 = none:=(s1.trans u0).free n1
    have z2 : H p2 = none:=((s1.trans u0).trans u1).free n2
    have zt : H t = none:=(((s1.trans u0).trans u1).trans u2).free nt
    generalize upd (upd (upd (upd H1 p0 (.lst [])) p1 (.lst [])) p2 (.lst [])) t (.tup [.ref p0,.ref p1,.ref p2,.non]) = H2 at s2 g0 g1 g2 gt ⊢
    refine ⟨_,rfl,_,rfl,ra,t,p0,p1,p2,.non,rk,[],[],[],rfl,s2 _ _ hq,gt,g0,g1,g2,pic_nil rk,fun H3 s3 => ⟨_,rfl,iteF ?_⟩⟩
    have s23:=s2.trans s3
    refine ⟨_,rfl,ra,_,rfl,.inl (SqL.of (s23 _ _ hq)),fun r nr => ?_⟩
    have u4:=Same.new (o:=.lst (rk.map V.int)) nr
    have s4:=s23.trans u4
    refine ⟨_,rfl,x,C,dx,_,rfl,s4 _ _ e0,TB.cl,TB.nR,(by show 0 < 1000; decide),?_⟩
    have xr : r ≠ x:=Ne.symm (ne_of_none (s23 _ _ e0) nr)
    have zr : H r = none:=s23.free nr
    have k5 : KeepBut [x] H (upd (upd H3 r (.lst (rk.map V.int))) x (.ins C dx (putF "ranks" (.ref r) []))):=KeepBut.upd (fun b o e _ => s4 b o e) (.inl (by simp))
    have xt : t ≠ x:=Ne.symm (ne_of_none e0 zt)
    have x0 : p0 ≠ x:=Ne.symm (ne_of_none e0 z0)
    have x1 : p1 ≠ x:=Ne.symm (ne_of_none e0 z1)
    have x2 : p2 ≠ x:=Ne.symm (ne_of_none e0 z2)
    have xra : ra ≠ x:=ne_of hq e0 (by intro z; cases z)
    have f34:=s3.trans u4
    have et5 : upd (upd H3 r (.lst (rk.map V.int))) x (.ins C dx (putF "ranks" (.ref r) [])) t = some (.tup [.ref p0,.ref p1,.ref p2,.non]):=by rw [upd_ne xt]; exact f34 _ _ gt
    have e05 : upd (upd H3 r (.lst (rk.map V.int))) x (.ins C dx (putF "ranks" (.ref r) [])) p0 = some (.lst []):=by rw [upd_ne x0]; exact f34 _ _ g0
    have e15 : upd (upd H3 r (.lst (rk.map V.int))) x (.ins C dx (putF "ranks" (.ref r) [])) p1 = some (.lst []):=by rw [upd_ne x1]; exact f34 _ _ g1
    have e25 : upd (upd H3 r (.lst (rk.map V.int))) x (.ins C dx (putF "ranks" (.ref r) [])) p2 = some (.lst []):=by rw [upd_ne x2]; exact f34 _ _ g2
    have er5 : upd (upd H3 r (.lst (rk.map V.int))) x (.ins C dx (putF "ranks" (.ref r) [])) r = some (.lst (rk.map V.int)):=by rw [upd_ne xr]; exact upd_same
    have ex5 : upd (upd H3 r (.lst (rk.map V.int))) x (.ins C dx (putF "ranks" (.ref r) [])) x = some (.ins C dx (putF "ranks" (.ref r) [])):=upd_same
    have eq5 : upd (upd H3 r (.lst (rk.map V.int))) x (.ins C dx (putF "ranks" (.ref r) [])) ra = some (.lst (rk.map V.int)):=by rw [upd_ne xra]; exact s4 _ _ hq
    generalize upd (upd H3 r (.lst (rk.map V.int))) x (.ins C dx (putF "ranks" (.ref r) [])) = H5 at k5 et5 e05 e15 e25 er5 ex5 eq5 ⊢
    clear f34 s4 u4 nr s23 s3 s2 g0 g1 g2 gt u0 u1 u2 u3 n0 n1 n2 nt s1
    refine ⟨_,rfl,_,rfl,t,_,_,_,rfl,rfl,SqT.of et5,rfl,ra,p0,rk,[],rfl,eq5,e05,l60,fun a H6 s6 na ga => ?_⟩
    rw [marks_nil] at ga
    refine ⟨_,rfl,x,C,dx,_,rfl,s6 _ _ ex5,TB.cl,TB.nA,(by show 1 < 1000; decide),?_⟩
    have xa : a ≠ x:=Ne.symm (ne_of_none ex5 na)
    have ra' : r ≠ a:=ne_of_none er5 na
    have hold : ∀ {b : Addr} {o : HO},H5 b = some o → b ≠ x → upd H6 x (.ins C dx (putF "asks" (.ref a) (putF "ranks" (.ref r) []))) b = some o:=fun e hb => by rw [upd_ne hb]; exact s6 _ _ e
    have k6 : KeepBut [x] H (upd H6 x (.ins C dx (putF "asks" (.ref a) (putF "ranks" (.ref r) [])))):=fun b o e hn => hold (k5 b o e hn) (by simpa using hn)
    have et6:=hold et5 xt
    have e16:=hold e15 x1
    have e26:=hold e25 x2
    have er6:=hold er5 xr
    have eq6:=hold eq5 xra
    have ea6 : upd H6 x (.ins C dx (putF "asks" (.ref a) (putF "ranks" (.ref r) []))) a = some (.lst ((List.replicate rk.length false).map V.bl)):=by rw [upd_ne xa]; exact ga
    have ex6 : upd H6 x (.ins C dx (putF "asks" (.ref a) (putF "ranks" (.ref r) []))) x = some (.ins C dx (putF "asks" (.ref a) (putF "ranks" (.ref r) []))):=upd_same
    have za : H a = none:=by
      cases e : H a with
      | none => rfl
      | some o => rw [k5 a o e (by simpa using xa)] at na; cases na
    generalize upd H6 x (.ins C dx (putF "asks" (.ref a) (putF "ranks" (.ref r) []))) = H7 at k6 et6 e16 e26 er6 eq6 ea6 ex6 ⊢
    clear hold s6 na ga k5 et5 e05 e15 e25 er5 ex5 eq5
    refine ⟨_,rfl,_,rfl,t,_,_,_,rfl,rfl,SqT.of et6,rfl,ra,p1,rk,[],rfl,eq6,e16,l60,fun m H8 s8 nm gm => ?_⟩
    rw [marks_nil] at gm
    refine ⟨_,rfl,x,C,dx,_,rfl,s8 _ _ ex6,TB.cl,TB.nM,(by show 2 < 1000; decide),?_⟩
    have xm : m ≠ x:=Ne.symm (ne_of_none ex6 nm)
    have rm' : r ≠ m:=ne_of_none er6 nm
    have am' : a ≠ m:=ne_of_none ea6 nm
    have hold : ∀ {b : Addr} {o : HO},H7 b = some o → b ≠ x → upd H8 x (.ins C dx (putF "muted" (.ref m) (putF "asks" (.ref a) (putF "ranks" (.ref r) [])))) b = some o:=fun e hb => by rw [upd_ne hb]; exact s8 _ _ e
    have k8 : KeepBut [x] H (upd H8 x (.ins C dx (putF "muted" (.ref m) (putF "asks" (.ref a) (putF "ranks" (.ref r) []))))):=fun b o e hn => hold (k6 b o e hn) (by simpa using hn)
    have et8:=hold et6 xt
    have e28:=hold e26 x2
    have er8:=hold er6 xr
    have ea8:=hold ea6 xa
    have em8 : upd H8 x (.ins C dx (putF "muted" (.ref m) (putF "asks" (.ref a) (putF "ranks" (.ref r) [])))) m = some (.lst ((List.replicate rk.length false).map V.bl)):=by rw [upd_ne xm]; exact gm
    have ex8 : upd H8 x (.ins C dx (putF "muted" (.ref m) (putF "asks" (.ref a) (putF "ranks" (.ref r) [])))) x = some (.ins C dx (putF "muted" (.ref m) (putF "asks" (.ref a) (putF "ranks" (.ref r) [])))):=upd_same
    have zm : H m = none:=by
      cases e : H m with
      | none => rfl
      | some o => rw [k6 m o e (by simpa using xm)] at nm; cases nm
    generalize upd H8 x (.ins C dx (putF "muted" (.ref m) (putF "asks" (.ref a) (putF "ranks" (.ref r) [])))) = H9 at k8 et8 e28 er8 ea8 em8 ex8 ⊢
    clear hold s8 nm gm k6 et6 e16 e26 er6 eq6 ea6 ex6
    refine ⟨_,rfl,t,_,_,_,rfl,rfl,SqT.of et8,rfl,p2,_,rfl,.inl (SqL.of e28),fun p np => ?_⟩
    have s9:=Same.new (o:=.lst []) np
    refine ⟨_,rfl,x,C,dx,_,rfl,s9 _ _ ex8,TB.cl,TB.nP,(by show 3 < 1000; decide),?_⟩
    have xp : p ≠ x:=Ne.symm (ne_of_none ex8 np)
    have rp' : r ≠ p:=ne_of_none er8 np
    have ap' : a ≠ p:=ne_of_none ea8 np
    have mp' : m ≠ p:=ne_of_none em8 np
    have zp : H p = none:=by
      cases e : H p with
      | none => rfl
      | some o => rw [k8 p o e (by simpa using xp)] at np; cases np
    refine ⟨_,rfl,t,_,_,_,rfl,rfl,SqT.of (by rw [upd_ne xt]; exact s9 _ _ et8),rfl,_,rfl,x,C,dx,_,rfl,upd_same,TB.cl,TB.nL,(by show 4 < 1000; decide),?_⟩
    refine kk _ r a m p ?_ zr za zm zp ⟨⟨dx,by rw [upd_same,mk_bf]⟩,?_,?_,?_,?_,ra',rm',rp',am',ap',mp'⟩
    · intro b o e hn
      have hb : b ≠ x:=by simpa using hn
      rw [upd_ne hb,upd_ne hb]
      exact s9 _ _ (k8 b o e hn)
    · rw [upd_ne xr,upd_ne xr]; exact s9 _ _ er8
    · rw [upd_ne xa,upd_ne xa]; exact s9 _ _ ea8
    · rw [upd_ne xm,upd_ne xm]; exact s9 _ _ em8
    · rw [upd_ne xp,upd_ne xp]; exact upd_same
end
end K05

namespace L3
open PySem PySem.Spec PyProof.Rows L2
structure ClsFn (K : PySem.W.Frag) (D : Addr) (m : Str) (f : Addr) : Prop where
  ga : PySem.W.specialIn K (.ref D) "__getattribute__" = some (some (.builtin "type.__getattribute__"))
  rd : PySem.W.readsIn K D (.type "type") = true
  fi : PySem.W.findCls K (.ref D) (.type "type") m = some (.val (.ref f))
  hd : PySem.W.handedIn (.ref f) = true
  kp : PySem.W.keepIn K (.ref f) = true
structure FuB (P : Program) (w : World) (K : PySem.W.Frag) (mg : Str → Option Value) (base : Heap) (CX : CXT) (k : Nat) (D : Addr) (m : Str) (ps : List Str) (sp : Sp) : Prop where
  ex : ∃ f fd,FnOk P w K mg base CX k f fd ps sp ∧ ClsFn K D m f ∧ Binds K fd ps []
structure BDef (K : PySem.W.Frag) (D : Addr) (m qual : Str) (st : Stmt) (ps : List Str) : Prop where
  ex : ∃ (f : Addr) (oc : Value) (od : Option Addr) (dV kV doc pm : Value) (an : Option Addr) (cdv ct : Value) (osl : Array (Option Value)),K.lookup f = some ⟨oc,od,.func (PySem.W.fnOf m qual (defArgs st) (defBody st) (defScope st) dV kV doc pm an cdv ct),osl⟩ ∧ PySem.W.codeIn K cdv qual = true ∧ ClsFn K D m f ∧
    Binds K (PySem.W.fnOf m qual (defArgs st) (defBody st) (defScope st) dV kV doc pm an cdv ct) ps []
theorem BDef.fu {P : Program} {w : World} {K : PySem.W.Frag} {mg : Str → Option Value} {base : Heap} {D : Addr} {m qual : Str} {st : Stmt} {N ps : List Str} {k : Nat} {sp : Sp} (B : BDef K D m qual st ps) (S : FnScope N ps (defScope st)) (len : ∀ vs H Q E,sp vs H Q E → vs.length = ps.length)
    (hbody : ∀ (f : Addr) (cdv : Value) (A : Around) (outer : List Env) (s : Shared) (H : Hp) (vs : List V) (Q : VK) (E : XK),Room k (A.deeper (envOfC qual (defScope st) s.heap.objs.size f cdv)) → sp vs H Q E →
      ∃ t,PSs (cxOf CX0 P w K mg base N qual (defScope st) f cdv A outer s H E).nox (defBody st) t ∧ t { nx:=fun _ H' => Q .non H',rt:=Q } (start N vs) H) : FuB P w K mg base CX0 (k + 1) D m ps sp:=by
  obtain ⟨f,oc,od,dV,kV,doc,pm,an,cdv,ct,osl,lk,hcd,hm,hb⟩:=B.ex
  refine ⟨f,_,fn_of lk hcd S len fun A outer s H vs Q E hr hsp => ?_,hm,hb⟩
  obtain ⟨t,h,q⟩:=hbody f cdv A outer s H vs Q E hr hsp
  exact ⟨t,h.nox,q⟩
theorem BDef.of {K : PySem.W.Frag} {D : Addr} {m qual : Str} {st : Stmt} {ps : List Str} {f td : Addr} {oc tc : Value} {od an tod : Option Addr} {osl tsl : Array (Option Value)} {kV doc pm cdv ct : Value} {items : Array Value} {tn : Nat}
    (b : ∀ (kV doc pm : Value) (an : Option Addr) (cdv ct : Value) (s : Shared) (us : List Value) (o : Obj),s.heap.get? td = some o → o.data = .seq items tn → us.length = ps.length → BindsTo s (PySem.W.fnOf m qual (defArgs st) (defBody st) (defScope st) (.ref td) kV doc pm an cdv ct) ⟨us,[]⟩ (ps.zip us))
    (ga : PySem.W.specialIn K (.ref D) "__getattribute__" = some (some (.builtin "type.__getattribute__"))) (rd : PySem.W.readsIn K D (.type "type") = true) (fi : PySem.W.findCls K (.ref D) (.type "type") m = some (.val (.ref f))) (kp : PySem.W.keepIn K (.ref f) = true)
    (l : K.lookup f = some ⟨oc,od,.func (PySem.W.fnOf m qual (defArgs st) (defBody st) (defScope st) (.ref td) kV doc pm an cdv ct),osl⟩) (c : PySem.W.codeIn K cdv qual = true) (l2 : K.lookup td = some ⟨tc,tod,.seq items tn,tsl⟩) : BDef K D m qual st ps :=
  ⟨f,oc,od,.ref td,kV,doc,pm,an,cdv,ct,osl,l,c,⟨ga,rd,fi,rfl,kp⟩,fun s us KX hl => by
    rw [List.append_nil] at hl ⊢
    exact b kV doc pm an cdv ct s us _ (KX _ _ l2) rfl hl⟩
section
variable {X : Cx} {CX : CXT} {j k : Nat} {f D : Addr} {ps : List Str} {sp : Sp} {E : XK} {x m : Str} {p pos apos : Pos} {e : Expr} {es : List Expr} {t : TA}
end
end L3

namespace L3
open PySem PySem.Spec PyProof.Rows L2
theorem int_of {K : PySem.W.Frag} {mg : Str → Option Value} {h : Heap} {x : Str} {i : Int} {t : Tok} (X : K.In h) (G : h.Ns mainGlobals mg) (a : PySem.W.nsIn K mainGlobals x = some (some (.int i t))) : ∃ u,mg x = some u ∧ RelV (.int i) u:=⟨_,PySem.W.mg_of X G a,t,rfl⟩
end L3

namespace L3
open PySem PySem.Spec PyProof.Rows L2
def WBinds (K : PySem.W.Frag) (fd : FuncData) (ps ks : List Str) (ds : List Value) : Prop :=
  ∀ (s : Shared) (x : Value) (ws : List Value),K.In s.heap → (x :: (ws ++ ds)).length = ps.length → BindsTo s fd ⟨[x],ks.zip ws⟩ (ps.zip (x :: (ws ++ ds)))
structure FuKW (P : Program) (w : World) (K : PySem.W.Frag) (mg : Str → Option Value) (base : Heap) (CX : CXT) (k : Nat) (C : Addr) (ps ks : List Str) (ds : List Value) (sp : Sp) : Prop where
  ex : ∃ f fd,FnOk P w K mg base CX k f fd ps sp ∧ Mk K C f ∧ WBinds K fd ps ks ds
structure KDefW (K : PySem.W.Frag) (C : Addr) (qual : Str) (st : Stmt) (ps ks : List Str) (ds : List Value) : Prop where
  ex : ∃ (f : Addr) (oc : Value) (od : Option Addr) (dV kV doc pm : Value) (an : Option Addr) (cdv ct : Value) (osl : Array (Option Value)),K.lookup f = some ⟨oc,od,.func (PySem.W.fnOf "__init__" qual (defArgs st) (defBody st) (defScope st) dV kV doc pm an cdv ct),osl⟩ ∧ PySem.W.codeIn K cdv qual = true ∧ Mk K C f ∧
    WBinds K (PySem.W.fnOf "__init__" qual (defArgs st) (defBody st) (defScope st) dV kV doc pm an cdv ct) ps ks ds
theorem KDefW.fu {P : Program} {w : World} {K : PySem.W.Frag} {mg : Str → Option Value} {base : Heap} {C : Addr} {qual : Str} {st : Stmt} {N ps ks : List Str} {ds : List Value} {k : Nat} {sp : Sp} (D : KDefW K C qual st ps ks ds) (S : FnScope N ps (defScope st)) (len : ∀ vs H Q E,sp vs H Q E → vs.length = ps.length)
    (hbody : ∀ (f : Addr) (cdv : Value) (A : Around) (outer : List Env) (s : Shared) (H : Hp) (vs : List V) (Q : VK) (E : XK),Room k (A.deeper (envOfC qual (defScope st) s.heap.objs.size f cdv)) → sp vs H Q E →
      ∃ t,PSs (cxOf CX0 P w K mg base N qual (defScope st) f cdv A outer s H E).nox (defBody st) t ∧ t { nx:=fun _ H' => Q .non H',rt:=Q } (start N vs) H) : FuKW P w K mg base CX0 (k + 1) C ps ks ds sp:=by
  obtain ⟨f,oc,od,dV,kV,doc,pm,an,cdv,ct,osl,lk,hcd,hm,hb⟩:=D.ex
  refine ⟨f,_,fn_of lk hcd S len fun A outer s H vs Q E hr hsp => ?_,hm,hb⟩
  obtain ⟨t,h,q⟩:=hbody f cdv A outer s H vs Q E hr hsp
  exact ⟨t,h.nox,q⟩
theorem KDefW.of {K : PySem.W.Frag} {C : Addr} {qual : Str} {st : Stmt} {ps ks : List Str} {ds : List Value} {f td : Addr} {oc tc : Value} {od an tod : Option Addr} {osl tsl : Array (Option Value)} {kV doc pm cdv ct : Value} {items : Array Value} {tn : Nat}
    (b : ∀ (kV doc pm : Value) (an : Option Addr) (cdv ct : Value) (s : Shared) (x : Value) (ws : List Value) (o : Obj),s.heap.get? td = some o → o.data = .seq items tn → ws.length + ds.length + 1 = ps.length → BindsTo s (PySem.W.fnOf "__init__" qual (defArgs st) (defBody st) (defScope st) (.ref td) kV doc pm an cdv ct) ⟨[x],ks.zip ws⟩ (ps.zip (x :: (ws ++ ds))))
    (mk : PySem.W.makesIn K C = true) (kc : PySem.W.keepIn K (.ref C) = true) (a : PySem.W.findIn K (.ref C) "__init__" = some (some (.ref f))) (i : PySem.W.isFn K (.ref f) = true)
    (l : K.lookup f = some ⟨oc,od,.func (PySem.W.fnOf "__init__" qual (defArgs st) (defBody st) (defScope st) (.ref td) kV doc pm an cdv ct),osl⟩) (c : PySem.W.codeIn K cdv qual = true) (l2 : K.lookup td = some ⟨tc,tod,.seq items tn,tsl⟩) : KDefW K C qual st ps ks ds :=
  ⟨f,oc,od,.ref td,kV,doc,pm,an,cdv,ct,osl,l,c,⟨mk,a,i,kc⟩,fun s x ws KX hl => b kV doc pm an cdv ct s x ws _ (KX _ _ l2) rfl (by rw [← hl,List.length_cons,List.length_append])⟩
section
variable {X : Cx} {CX : CXT} {j k : Nat} {f C : Addr} {fd : FuncData} {ps ks : List Str} {sp : Sp} {E : XK} {x : Str} {p pos : Pos} {kws : List Keyword} {tk : TA} {ds : List Value} {dvs : List V}
end
theorem FuM.mono {P : Program} {w : World} {K : PySem.W.Frag} {mg : Str → Option Value} {base : Heap} {CX : CXT} {j k : Nat} {C : Addr} {m : Str} {ps : List Str} {sp : Sp} (F : FuM P w K mg base CX j C m ps sp) (h : j ≤ k) : FuM P w K mg base CX k C m ps sp:=by
  obtain ⟨f,fd,G,a,b⟩:=F.ex
  exact ⟨f,fd,G.mono h,a,b⟩
theorem Tab.kb {S : List Addr} {H H' : Hp} {P : Addr} {pos : Pos} {q : Str} (t : Tab H P pos q) (kp : KeepBut S H H') (hs : ∀ z ∈ S,(∃ xs,H z = some (.lst xs)) ∨ (∃ C dx fs,H z = some (.ins C dx fs)) ∨ (z ≠ P ∧ ∃ ps,H z = some (.tbl ps))) : Tab H' P pos q:=by
  have h1 : P ∉ S:=fun hz => by
    rcases hs P hz with ⟨xs,e⟩ | ⟨C,dx,fs,e⟩ | ⟨e,_⟩
    · exact t.ne e (fun _ z => by cases z) rfl
    · exact t.ne e (fun _ z => by cases z) rfl
    · exact e rfl
  rcases t with t | ⟨c,t,u⟩
  · exact .inl (kp _ _ t h1)
  · refine .inr ⟨c,kp _ _ t h1,kp _ _ u fun hz => ?_⟩
    rcases hs c hz with ⟨xs,e⟩ | ⟨C,dx,fs,e⟩ | ⟨_,ps,e⟩
    · rw [u] at e; cases e
    · rw [u] at e; cases e
    · rw [u] at e; cases e
theorem Tab.tbl {H : Hp} {P : Addr} {pos : Pos} {q : Str} (t : Tab H P pos q) : ∃ ps,H P = some (.tbl ps):=by
  rcases t with t | ⟨c,t,u⟩
  · exact ⟨_,t⟩
  · exact ⟨_,t⟩
end L3

namespace L3
open PySem PySem.Spec PyProof.Rows L2 PySem.W
abbrev veTail : List Value:=[.type "ValueError",.type "Exception",.type "BaseException",.type "object"]
def excIn1 (K : Frag) (C : Addr) : Bool:=match K.lookup C with
  | some ⟨.type "type",_,.cls k,slots⟩ => (match k.mro,slots.toList with
    | .ref D :: rest,[_,_,_,_,some (.builtin n),_] => D == C && n == "ValueError.__new__" && !k.hasDel && tailIn K veTail rest
    | _,_ => false)
  | _ => false
theorem excIn1_obj {K : Frag} {C : Addr} {h : Heap} (X : K.In h) (q : excIn1 K C = true) : ∃ bm N nm qn bs hd sn sub ab col dd k0 k1 k2 k3 k5,h.get? C = some (excClassObj nm qn C N bs bm hd sn sub ab col dd k0 k1 k2 k3 k5 "ValueError.__new__") ∧ OwnTail h veTail bm:=by
  unfold excIn1 at q
  split at q
  case h_2 => cases q
  case h_1 dd k sl ho =>
    split at q
    case h_2 => cases q
    case h_1 D bm k0 k1 k2 k3 n k5 hm hs =>
      obtain ⟨l⟩:=sl
      obtain ⟨nm,bs,mro,ns,qn,hd,sn,sub,ab,col,del⟩:=k
      have hs' : l = [k0,k1,k2,k3,some (.builtin n),k5]:=hs
      have hm' : mro = .ref D :: bm:=hm
      subst hs' hm'
      rw [Bool.and_eq_true,Bool.and_eq_true,Bool.and_eq_true] at q
      obtain ⟨⟨⟨q1,q2⟩,q3⟩,q4⟩:=q
      have e1 : D = C:=beq_iff_eq.mp q1
      have e2 : n = "ValueError.__new__" := beq_iff_eq.mp q2
      have e3 : del = false:=by simpa using q3
      subst e1 e2 e3
      exact ⟨bm,ns,nm,qn,bs,hd,sn,sub,ab,col,dd,k0,k1,k2,k3,k5,X _ _ ho,tail_of_in X q4⟩
abbrev argTup (us : List Value) : Obj:={ cls:=.type "tuple",data:=.seq us.toArray }
abbrev excObj (C t : Addr) : Obj:={ cls:=.ref C,data:=.fields #[.ref t,.none,.none,.none,.bool false,.none] }
section
variable {prog : Program} {w : World} {A : Around} {K : Frag} {C f : Addr} {R : Result → Shared → Prop} {us : List Value}
theorem exc_make {s : Shared} (X : K.In s.heap) (hc : excIn1 K C = true) (hi : findIn K (.ref C) "__init__" = some (some (.ref f))) (hf : typeIn K (.ref f) = some (.type "function")) (hl : us.length ≤ sizeLine)
    (hq : codeAny (model prog w) (A.under (.builtin "type.__call__" ⟨.ref C :: us,[]⟩)) (.call (.ref f) ⟨.ref (s.heap.objs.size + 1) :: us,[]⟩) (InitBack (s.heap.objs.size + 1) R) { s with heap:=(s.heap.push (argTup us)).push (excObj C s.heap.objs.size) }) :
    codeAny (model prog w) A (.call (.ref C) ⟨us,[]⟩) R s:=by
  obtain ⟨h,g,d,t,os⟩:=s
  obtain ⟨bm,N,nm,qn,bs,hd,sn,sub,ab,col,dd,k0,k1,k2,k3,k5,hC,T⟩:=excIn1_obj X hc
  have F:=PySem.F.excBase_ValueError
  have f1:=tc_lookup
  have f2:=tc_bind (.ref C)
  have hT : (⟨h,g,d,t,os⟩ : Shared).TypeIs (.ref C) "type" := ⟨_,hC,rfl⟩
  refine codeAny_of_tree ?_
  show wpAny _ _ (callAny (.ref C) _) _ _ _
  repeat (any_goals (first | assumption | with_reducible refine wpAny_loadPart_at hC ?_ | wp_step))
  refine ⟨rfl,?_⟩
  refine codeAny_call_builtin_at (Code.quiet_builtin _ (by decide +kernel)) entry_typeCall (wpAny_check_type_call_sub hC ?_)
  repeat (first | with_reducible refine wpAny_loadPart_at hC ?_ | with_reducible refine wpAny_madeBy_exc hC ?_ | wp_step)
  refine codeAny_call_builtin_code (Code.quiet_builtin _ F.quiet) (wpAny_check_new_subT F T hC ?_)
  refine codeAny_exc_new_subT F T hC ?_ hl
  show wpAny _ _ _ _ _ _
  have kp : ∀ b o,h.get? b = some o → ((h.push (argTup us)).push (excObj C h.objs.size)).get? b = some o:=fun b o e => Heap.get?_push_of_some _ (Heap.get?_push_of_some _ e)
  have hC1:=kp _ _ hC
  have X1 : K.In ((h.push (argTup us)).push (excObj C h.objs.size)):=X.keeps kp
  have he : ((h.push (argTup us)).push (excObj C h.objs.size)).get? (h.objs.size + 1) = some (excObj C h.objs.size):=by heap_get
  have hcC : (Value.ref C :: bm).contains (.ref C) = true:=by simp
  unfold isInstance
  repeat (first | with_reducible refine wpAny_loadPart_at he ?_ | wp_step)
  refine wpAny_isSubtype_exc hC1 ?_
  rw [hcC]
  repeat (first | with_reducible refine wpAny_loadPart_at he ?_ | wp_step)
  show wpAny _ _ (typeLookup (.ref C) _) _ _ _
  refine (looks_findIn X1 hi).at ?_
  refine wpAny_holding (wpAny_bind ((bind_fn X1 (.ref (h.objs.size + 1)) hf).at ?_))
  refine wpAny_bind (wpAny_call (codeAny_mono hq fun r s' z => ?_))
  cases r with
  | error e => exact z
  | ok fl =>
    cases fl with
    | ret v =>
      obtain ⟨rfl,z⟩:=z
      exact wpAny_pure (wpAny_pure z)
    | next => exact z.elim
    | brk => exact z.elim
    | cont => exact z.elim
end
end L3

namespace L3
open PySem PySem.Spec PyProof.Rows L2 PySem.W Builtin Builtin.ObjectAttr
theorem refuse_tail {h : Heap} {tl : List Value} (T : OwnTail h veTail tl) (self : Value) : refuseLoop self "__setattr__" tl = pure ():=by
  induction T with
  | base => exact PySem.F.store_ValueError.passes self
  | own _ _ _ _ ih => rw [refuseLoop_ref]; exact ih
section
variable {prog : Program} {w : World} {A : Around} {E : Value → Shared → Prop} {K : Frag} {C x : Addr} {name : Str} {v : Value}
theorem exc_osa {s : Shared} {od : Option Addr} {vs : Array Value} {oo : Option Obj} {R : Result → Shared → Prop} {tk : Tok} (X : K.In s.heap) (hc : excIn1 K C = true) (I : InstAt s.heap x ⟨.ref C,od,.fields vs,#[]⟩ C oo) (ho : mroIn K C (.type "object") = some true) (ht : findIn K (.ref C) name = some none)
    (h : wpAny (model prog w) A.in1 (storeInOwnDict (.ref x) (.ref C) (.str name tk) name v false)
      (fun fin s' => match fin with | .done f => R (.ok f) s' | .again c' => c'.quiet = true ∧ codeAny (model prog w) A c' R s') (fun e s' => R (.error e) s') s) :
    codeAny (model prog w) A (.call (.builtin "object.__setattr__") ⟨[.ref x,.str name tk,v],[]⟩) R s:=by
  have SF:=PySem.F.store_object
  obtain ⟨bm,N,nm,qn,bs,hd,sn,sub,ab,col,dd,k0,k1,k2,k3,k5,hC,T⟩:=excIn1_obj X hc
  have here : Looks (model prog w) s.heap (isInstance (.ref x) (.type "object")) true:=I.type.andThen (looks_mroIn X ho)
  refine codeAny_call_builtin SF.slot.plain SF.entry (@check_slot (model prog w) _ _ s "object.__setattr__" "object" "__setattr__" (.ref x) [.str name tk,v] [] _ SF.kind SF.split here (SF.args (.ref x) (.str name tk) v) ?_)
  have hm : Looks (model prog w) s.heap (mroOf (.ref C)) (.ref C :: bm):=((Looks.ld (part:=none) hC).andThen .now).andThen .now
  rw [osa_eq,refuse_eq]
  refine wpAny_bind (wpAny_bind (I.type.here (wpAny_bind (hm.here ?_))))
  rw [refuseLoop_ref,refuse_tail T]
  refine wpAny_pure (wpAny_bind (I.type.here (wpAny_bind ((looks_findIn X ht).here (wpAny_bind ?_)))))
  exact wpAny_pure h
theorem exc_set0 {s : Shared} {vs : Array Value} {Q : Unit → Shared → Prop} (X : K.In s.heap) (hc : excIn1 K C = true) (hx : s.heap.get? x = some ⟨.ref C,none,.fields vs,#[]⟩) (hs : findIn K (.ref C) "__setattr__" = some (some (.builtin "object.__setattr__"))) (ho : mroIn K C (.type "object") = some true)
    (ht : findIn K (.ref C) name = some none) (hh : hasDictIn K C = true)
    (h : ∀ h' tk,h'.get? x = some ⟨.ref C,some s.heap.objs.size,.fields vs,#[]⟩ → h'.Ns1 s.heap.objs.size (fun y => if y = name then some v else none) → (∀ b o,b ≠ x → s.heap.get? b = some o → h'.get? b = some o) → Q () { s with heap:=h',toks:=tk }) :
    wpAny (model prog w) A (setAttr (.ref x) name v) Q E s:=by
  have I : InstAt s.heap x ⟨.ref C,none,.fields vs,#[]⟩ C none:=⟨hx,rfl,rfl,True.intro⟩
  refine set_plain X I hs (exc_osa (s:={ s with toks:=s.toks + 1 }) X hc I ho ht ?_)
  obtain ⟨cd,hcd,hd'⟩:=any_some hh
  obtain ⟨hp,g,d,t,os⟩:=s
  refine wpAny_bind (wpAny_pure (wpAny_bind (wpAny_bind (wpAny_loadPart hx (wpAny_bind (Looks.here (s:=⟨hp,g,d,t + 1,os⟩) (looks_clsIn X hcd) ?_))))))
  rw [hd']
  have hx1 : (hp.push { cls:=.type "dict",data:=.dict #[] }).get? x = some ⟨.ref C,none,.fields vs,#[]⟩:=Heap.get?_push_of_some _ hx
  have hxs : x ≠ hp.objs.size:=Nat.ne_of_lt (Heap.lt_size hx)
  rw [if_neg (show ¬ ((!true) = true) by decide)]
  show wpAny _ _ (alloc { cls:=.type "dict",data:=.dict #[] } >>= _) _ _ _
  refine wpAny_bind (wpAny_alloc' (wpAny_bind (wpAny_update' hx1 (wpAny_pure ?_))))
  have gd : ((hp.push { cls:=.type "dict",data:=.dict #[] }).update x fun o => { cls:=o.cls,dict:=some hp.objs.size,data:=o.data,slots:=o.slots }).get? hp.objs.size = some { cls:=.type "dict",data:=.dict #[] } :=
    (Heap.get?_update_ne _ _ _ _ hxs.symm).trans (Heap.get?_push_at rfl rfl)
  have nd : ((hp.push { cls:=.type "dict",data:=.dict #[] }).update x fun o => { cls:=o.cls,dict:=some hp.objs.size,data:=o.data,slots:=o.slots }).Ns hp.objs.size (fun _ => none) :=
    ⟨_,#[],_,gd,rfl,fun e he => absurd he (by simp),fun _ => rfl⟩
  show wpAny _ _ (storeInDict hp.objs.size (.str name _) name v) _ _ _
  unfold storeInDict newKeyGuard
  refine wpAny_bind (wpAny_pure (wpAny_bind (wpAny_nsSet1 (Heap.Ns1.of_empty nd) fun h' hn' hs' => ?_)))
  obtain ⟨oD,esD,epD,hoD,hdD,hcD⟩:=hn'.count (Within.cons name v Within.nil)
  refine wpAny_bind (wpAny_lookBehind hoD (by rw [hdD]; exact pastItsLine_dict (Nat.le_trans hcD (by rw [List.length_cons,List.length_nil,sizeLine_eq]; omega))) ?_)
  refine wpAny_pure (h _ _ ?_ hn' fun b o hb e => ?_)
  · refine (hs'.2 x hxs).trans ?_
    rw [Heap.get?_update_self _ hx1 rfl]
  · exact (hs'.2 b (Nat.ne_of_lt (Heap.lt_size e))).trans ((Heap.get?_update_ne _ _ _ _ hb).trans (Heap.get?_push_of_some _ e))
theorem exc_set1 {s : Shared} {vs : Array Value} {dx : Addr} {mA : Str → Option Value} {ns : List Str} {Q : Unit → Shared → Prop} (X : K.In s.heap) (hc : excIn1 K C = true) (hx : s.heap.get? x = some ⟨.ref C,some dx,.fields vs,#[]⟩) (hd : s.heap.Ns1 dx mA) (hw : PySem.Within mA ns) (hsz : ns.length ≤ 1000)
    (hs : findIn K (.ref C) "__setattr__" = some (some (.builtin "object.__setattr__"))) (ho : mroIn K C (.type "object") = some true) (ht : findIn K (.ref C) name = some none) (hh : hasDictIn K C = true)
    (h : ∀ h' tk,h'.Ns1 dx (fun y => if y = name then some v else mA y) → Heap.SameBut dx s.heap h' → Q () { s with heap:=h',toks:=tk }) :
    wpAny (model prog w) A (setAttr (.ref x) name v) Q E s:=by
  obtain ⟨oD,es,ep,e,r⟩:=id hd
  have I : InstAt s.heap x ⟨.ref C,some dx,.fields vs,#[]⟩ C (some oD):=⟨hx,rfl,rfl,e⟩
  refine set_plain X I hs (exc_osa (s:={ s with toks:=s.toks + 1 }) X hc I ho ht ?_)
  obtain ⟨cd,hcd,hd'⟩:=any_some hh
  refine wpAny_bind (wpAny_pure (wpAny_bind (wpAny_bind (wpAny_loadPart hx (wpAny_bind (Looks.here (s:={ s with toks:=s.toks + 1 }) (looks_clsIn X hcd) ?_))))))
  rw [hd']
  refine wpAny_pure (a:=some dx) (wpAny_bind (wpAny_pure (wpAny_bind ?_)))
  refine wpAny_nsSet1 (s:={ s with toks:=s.toks + 1 }) hd fun h' hn2 hs2 => ?_
  obtain ⟨oE,esE,epE,hoE,hdE,hcE⟩:=hn2.count (PySem.Within.cons name v hw)
  refine wpAny_bind (wpAny_lookBehind hoE (by rw [hdE]; exact pastItsLine_dict (Nat.le_trans hcE (by rw [List.length_cons,sizeLine_eq]; omega))) ?_)
  exact wpAny_pure (h _ _ hn2 hs2)
end
def del (H : Hp) (a : Addr) : Hp:=fun b => if b = a then none else H b
theorem del_same {H : Hp} {a : Addr} : del H a a = none:=by unfold del; rw [if_pos rfl]
theorem del_ne {H : Hp} {a b : Addr} (h : b ≠ a) : del H a b = H b:=by unfold del; rw [if_neg h]
section
variable {X : Cx} {pins : List (Addr × Obj)} {σ : L2.St} {H : Hp} {s : Shared} {n : Addr} {o : HO}
theorem Inv.track (I : Inv X pins σ H s) (hn : H n = none) (h0 : X.s₀.heap.get? n = none) (hl : n ≠ X.env.locals) (hc : ∀ x c,X.env.cells.lookup x = some c → c ≠ n) (hp : ∀ p ∈ X.pn ++ pins,p.1 ≠ n) (ok : ObjOk X.prog X.w (upd H n o) s.heap n o) : Inv X pins σ (upd H n o) s:=by
  have ne : ∀ b u,H b = some u → b ≠ n:=fun b u e z => by rw [z,hn] at e; cases e
  refine ⟨I.ok,I.os,I.bare,⟨I.base.keep,I.base.slot,fun b o e k hx => ?_,I.base.there,fun b xs e => ?_,fun b o u e => ?_,fun b ps e => ?_⟩,I.loc,I.cell,?_,fun x c e => ?_,fun p hp' => ?_,fun b u e => ?_,I.len⟩
  · rw [upd_ne (fun z => by rw [z,h0] at e; cases e)]
    exact I.base.free b o e k hx
  · have q:=I.base.tups b xs e
    rw [upd_ne (ne b _ q)]
    exact q
  · have q:=I.base.frzs b o u e
    rw [upd_ne (ne b _ q)]
    exact q
  · obtain ⟨more,q⟩:=I.base.tbls b ps e
    exact ⟨more,by rw [upd_ne (ne b _ q)]; exact q⟩
  · rw [upd_ne (Ne.symm hl)]
    exact I.free
  · rw [upd_ne (hc x c e)]
    exact I.freeC x c e
  · obtain ⟨e,k,r⟩:=I.pin p hp'
    exact ⟨e,by rw [upd_ne (hp p hp')]; exact k,r⟩
  · by_cases hb : b = n
    · subst hb
      rw [upd_same] at e
      cases e
      exact ok
    · rw [upd_ne hb] at e
      refine (I.hok b u e).stay (fun _ _ _ q => q) (fun c q => ?_) fun c xs q => ?_
      · rw [upd_ne (ne c _ q)]
        exact q
      · rw [upd_ne (ne c _ q)]
        exact q
theorem Inv.fresh (I : Inv X pins σ H s) : H s.heap.objs.size = none ∧ X.s₀.heap.get? s.heap.objs.size = none ∧ s.heap.objs.size ≠ X.env.locals ∧ (∀ x c,X.env.cells.lookup x = some c → c ≠ s.heap.objs.size) ∧ ∀ p ∈ X.pn ++ pins,p.1 ≠ s.heap.objs.size:=by
  refine ⟨I.hok.fresh (Nat.le_refl _),Heap.get?_none_of_le I.sz,Nat.ne_of_gt I.lt,fun x c e => ?_,fun p hp => ?_⟩
  · obtain ⟨v,hv⟩:=I.cell x c e
    exact Nat.ne_of_lt hv.lt
  · exact Nat.ne_of_lt (Heap.lt_size (I.pin p hp).1)
theorem Inv.drop {φ : Heap → Prop} (I : Inv X pins σ H s) (e : H n = some (.ext φ)) : Inv X pins σ (del H n) s:=by
  have ne : ∀ b u,H b = some u → (∀ ψ,u ≠ .ext ψ) → b ≠ n:=fun b u e' hu z => by rw [z,e] at e'; cases e'; exact hu _ rfl
  refine ⟨I.ok,I.os,I.bare,⟨I.base.keep,I.base.slot,fun b o e' k hx => ?_,I.base.there,fun b xs e' => ?_,fun b o u e' => ?_,fun b ps e' => ?_⟩,I.loc,I.cell,?_,fun x c e' => ?_,fun p hp' => ?_,fun b u e' => ?_,I.len⟩
  · unfold del; split
    · rfl
    · exact I.base.free b o e' k hx
  · have q:=I.base.tups b xs e'
    rw [del_ne (ne b _ q (fun _ z => by cases z))]
    exact q
  · have q:=I.base.frzs b o u e'
    rw [del_ne (ne b _ q (fun _ z => by cases z))]
    exact q
  · obtain ⟨more,q⟩:=I.base.tbls b ps e'
    exact ⟨more,by rw [del_ne (ne b _ q (fun _ z => by cases z))]; exact q⟩
  · unfold del; split
    · rfl
    · exact I.free
  · unfold del; split
    · rfl
    · exact I.freeC x c e'
  · obtain ⟨e1,k,r⟩:=I.pin p hp'
    refine ⟨e1,?_,r⟩
    unfold del; split
    · rfl
    · exact k
  · have hb : b ≠ n:=fun z => by rw [z,del_same] at e'; cases e'
    rw [del_ne hb] at e'
    refine (I.hok b u e').stay (fun _ _ _ q => q) (fun c q => ?_) fun c xs q => ?_
    · rw [del_ne (ne c _ q (fun _ z => by cases z))]
      exact q
    · rw [del_ne (ne c _ q (fun _ z => by cases z))]
      exact q
end
end L3

namespace L3
open PySem PySem.Spec PyProof.Rows L2 PySem.W
def NewExc (a C : Addr) (od : Option Addr) : HO:=.ext fun h => ∃ (vs : Array Value) (a0 : Addr),h.get? a = some ⟨.ref C,od,.fields vs,#[]⟩ ∧ vs.size = 6 ∧ vs[0]? = some (.ref a0) ∧ vs[1]? = some .none
def ExcDict (a : Addr) (fs : List (Str × V)) : HO:=.ext fun h => ∃ mA,h.Ns1 a mA ∧ (∀ f,RelO (fs.lookup f) (mA f)) ∧ PySem.Within mA (fs.map (·.1))
structure XCls (K : Frag) (C : Addr) : Prop where
  ex : excIn1 K C = true
  sa : findIn K (.ref C) "__setattr__" = some (some (.builtin "object.__setattr__"))
  ob : mroIn K C (.type "object") = some true
  be : mroIn K C (.type "BaseException") = some true
  hd : hasDictIn K C = true
section
variable {P : Program} {w : World} {H : Hp} {h : Heap} {a C : Addr} {od : Option Addr} {fs : List (Str × V)}
theorem newExc_ok {vs : Array Value} {a0 : Addr} (e : h.get? a = some ⟨.ref C,od,.fields vs,#[]⟩) (hz : vs.size = 6) (h0 : vs[0]? = some (.ref a0)) (h1 : vs[1]? = some .none) : ObjOk P w H h a (NewExc a C od) :=
  ⟨⟨vs,a0,e,hz,h0,h1⟩,⟨_,e⟩,fun _ _ ⟨vs',a0',e',r⟩ k => ⟨vs',a0',k _ e',r⟩⟩
theorem excDict_ok {mA : Str → Option Value} (e : h.Ns1 a mA) (r : ∀ f,RelO (fs.lookup f) (mA f)) (wi : PySem.Within mA (fs.map (·.1))) : ObjOk P w H h a (ExcDict a fs) :=
  ⟨⟨mA,e,r,wi⟩,(let ⟨o,_,_,e',_⟩:=e; ⟨o,e'⟩),fun _ _ ⟨mA',e',r',wi'⟩ k => ⟨mA',e'.at k,r',wi'⟩⟩
end
def sX0 (K : Frag) (ta tv : TE) (f : Str) : TS:=fun D σ H => tv σ H fun y H1 => ta σ H1 fun x H2 => ∃ a C,x = .ref a ∧ H2 a = some (NewExc a C none) ∧ XCls K C ∧ findIn K (.ref C) f = some none ∧ ∀ dx,H2 dx = none → D.nx σ (upd (upd H2 a (NewExc a C (some dx))) dx (ExcDict dx [(f,y)]))
def sX1 (K : Frag) (ta tv : TE) (f : Str) : TS:=fun D σ H => tv σ H fun y H1 => ta σ H1 fun x H2 => ∃ a C dx fs,x = .ref a ∧ H2 a = some (NewExc a C (some dx)) ∧ H2 dx = some (ExcDict dx fs) ∧ XCls K C ∧ findIn K (.ref C) f = some none ∧ fs.length < 1000 ∧ D.nx σ (upd H2 dx (ExcDict dx (putF f y fs)))
section
variable {X : Cx} {o value : Expr} {f : Str} {pos pos' : Pos} {ta tv : TE}
theorem ps_x0 (ha : PE X o ta) (hv : PE X value tv) (hs : swapsWith value (some (.Attribute o f pos')) pos.line X.env = pure false) : PS X (.Assign [.Attribute o f pos'] value pos) (sX0 X.K ta tv f):=by
  intro pins s σ H D I h
  refine plainObj_wpAny_Assign_Attribute (thn (hv pins s σ H _ I h) fun u s1 ⟨y,H1,I1,ry,q⟩ => thn (ha pins s1 σ H1 _ I1 q) fun ov s2 ⟨x,H2,I2,rx,a,C,ex,ea,c,n,q2⟩ => ?_) hs
  subst ex
  obtain rfl : ov = Value.ref a:=rx
  obtain ⟨⟨vs,a0,e0,hz,h0,h1⟩,_,_⟩:=(show ObjOk X.prog X.w H2 s2.heap a (NewExc a C none) from I2.hok a _ ea)
  refine exc_set0 I2.kIn c.ex e0 c.sa c.ob n c.hd fun h' tk hx hd hk => ⟨σ,_,?_,q2 s2.heap.objs.size (Inv.fresh I2).1⟩
  obtain ⟨f1,f2,f3,f4,f5⟩:=Inv.fresh I2
  have hne : s2.heap.objs.size ≠ a:=Nat.ne_of_gt (Heap.lt_size e0)
  have I3 : Inv X pins σ (upd H2 a (NewExc a C (some s2.heap.objs.size))) { s2 with heap:=h',toks:=tk }:=I2.write (x:=a) (e:=a) (by rw [ea]; exact True.intro) (.inl rfl) (fun b u hb e => hk b u hb e) ⟨_,hx⟩ (newExc_ok hx hz h0 h1)
  refine Inv.track I3 (by rw [upd_ne hne]; exact f1) f2 f3 f4 f5 (excDict_ok hd (fun g => ?_) fun g hg => ?_)
  · show RelO (List.lookup g [(f,y)]) (if g = f then some u else none)
    by_cases z : g = f
    · subst z
      rw [if_pos rfl]
      simp only [List.lookup,beq_self_eq_true]
      exact ry
    · rw [if_neg z]
      have : (g == f) = false:=beq_eq_false_iff_ne.mpr z
      simp only [List.lookup,this]
      exact True.intro
  · show g ∈ [f]
    by_cases z : g = f
    · subst z; simp
    · exact absurd (if_neg z) hg
theorem ps_x1 (ha : PE X o ta) (hv : PE X value tv) (hs : swapsWith value (some (.Attribute o f pos')) pos.line X.env = pure false) : PS X (.Assign [.Attribute o f pos'] value pos) (sX1 X.K ta tv f):=by
  intro pins s σ H D I h
  refine plainObj_wpAny_Assign_Attribute (thn (hv pins s σ H _ I h) fun u s1 ⟨y,H1,I1,ry,q⟩ => thn (ha pins s1 σ H1 _ I1 q) fun ov s2 ⟨x,H2,I2,rx,a,C,dx,fs,ex,ea,ed,c,n,hl,q2⟩ => ?_) hs
  subst ex
  obtain rfl : ov = Value.ref a:=rx
  obtain ⟨⟨vs,a0,e0,_⟩,_,_⟩:=(show ObjOk X.prog X.w H2 s2.heap a (NewExc a C (some dx)) from I2.hok a _ ea)
  obtain ⟨⟨mA,hm,r,wi⟩,_,_⟩:=(show ObjOk X.prog X.w H2 s2.heap dx (ExcDict dx fs) from I2.hok dx _ ed)
  refine exc_set1 I2.kIn c.ex e0 hm wi (by rw [List.length_map]; omega) c.sa c.ob n c.hd fun h' tk hd sb => ⟨σ,_,?_,q2⟩
  refine I2.write (x:=dx) (e:=dx) (by rw [ed]; exact True.intro) (.inl rfl) (fun b u hb e => (sb.2 b hb).trans e) (let ⟨o,_,_,e',_⟩:=hd; ⟨o,e'⟩) (excDict_ok hd (fun g => ?_) fun g hg => ?_)
  · show RelO ((putF f y fs).lookup g) (if g = f then some u else mA g)
    rw [lookup_putF]
    by_cases z : g = f
    · rw [if_pos z,if_pos z]; exact ry
    · rw [if_neg z,if_neg z]; exact r g
  · by_cases z : g = f
    · rw [z]; exact (keys_putF f y fs).1
    · refine (keys_putF f y fs).2 g (wi g fun q => hg ?_)
      show (if g = f then some u else mA g) = none
      rw [if_neg z]; exact q
structure BInit (K : Frag) (D : Addr) : Prop where
  ga : specialIn K (.ref D) "__getattribute__" = some (some (.builtin "type.__getattribute__"))
  rd : readsIn K D (.type "type") = true
  fi : findCls K (.ref D) (.type "type") "__init__" = some (.val (.builtin "ValueError.__init__"))
theorem handed_vi : handedIn (.builtin "ValueError.__init__") = true:=by decide +kernel
def tXI (K : Frag) (t : TA) : TE:=fun σ H Q => t σ H fun vs H1 => ∃ a C od rest,vs = .ref a :: rest ∧ H1 a = some (NewExc a C od) ∧ XCls K C ∧ rest.length ≤ sizeLine ∧ Q .non H1
theorem xi_run {prog : Program} {w : World} {A : Around} {E : Value → Shared → Prop} {K : Frag} {s : Shared} {a C a0 : Addr} {od : Option Addr} {vs : Array Value} {rest : List Value} {Q : Value → Shared → Prop} (K0 : K.In s.heap) (hc : excIn1 K C = true) (e : s.heap.get? a = some ⟨.ref C,od,.fields vs,#[]⟩) (hz : vs.size = 6) (h0 : vs[0]? = some (.ref a0)) (hl : rest.length ≤ sizeLine)
    (h : ∀ h',h'.get? a = some ⟨.ref C,od,.fields (vs.setIfInBounds 0 (.ref s.heap.objs.size)),#[]⟩ → (∀ b o,b ≠ a → s.heap.get? b = some o → h'.get? b = some o) → Q .none { s with heap:=h' }) :
    wpAny (model prog w) A (call (.builtin "ValueError.__init__") (.ref a :: rest)) Q E s:=by
  obtain ⟨hp,g,d,t,os⟩:=s
  obtain ⟨bm,N,nm,qn,bs,hd,sn,sub,ab,col,dd,k0,k1,k2,k3,k5,hC,T⟩:=excIn1_obj K0 hc
  have F:=PySem.F.excBase_ValueError
  refine wpAny_call (codeAny_call_builtin F.init.plain F.initEntry (wpAny_check_init_subT F T hC e rfl ?_))
  wp_walk
  rw [h0]
  have e1 : (hp.push { cls:=.type "tuple",data:=.seq rest.toArray }).get? a = some ⟨.ref C,od,.fields vs,#[]⟩:=Heap.get?_push_of_some _ e
  refine wpAny_pure ?_
  refine wpAny_bind (wpAny_setField e1 rfl (by omega) ?_)
  wp_walk
  refine h _ ?_ fun b o hb e' => ?_
  · rw [Heap.get?_update_self _ e1 (Obj.isFreed_of_fields (Obj.data_mapFields rfl _))]
    rfl
  · rw [Heap.get?_update_other _ _ (Ne.symm hb)]
    exact Heap.get?_push_of_some _ e'
theorem pe_xi {D : Addr} {x : Str} {e : Expr} {es : List Expr} {t : TA} {p apos cpos : Pos} {pl : Sem Bool} (c : BInit X.K D) (hm : X.mg x = some (.ref D)) (ha : PA X (e :: es) t) (hg : Gl X x:=by rfl) (hdb : (x == ("__debug__" : Str)) = false:=by decide)
    (hst : starEach (e :: es) X.env = (false,eval e X.env) :: starEach es X.env:=by rfl) (hpl : (backTo cpos (starEach es X.env)).any (·.1) = false:=by rfl)
    (ht : eval (.Call (.Attribute (.Name x p) "__init__" apos) (e :: es) [] cpos) X.env = (do
      let ov ← eval (.Name x p) X.env
      standAt apos.atName
      let (f,first) ← holding [ov] (getMethod ov "__init__" pl)
      callWith cpos f first (backTo cpos (starEach (e :: es) X.env)) (backToKw cpos (keywordEach [] X.env))):=by rfl) :
    PE X (.Call (.Attribute (.Name x p) "__init__" apos) (e :: es) [] cpos) (tXI X.K t):=by
  intro pins s σ H Q I h
  refine PySem.W.methodCall_KW (pl:=pl) (thn (pe_glob (v:=.ref D) hg hm rfl hdb pins s σ H (fun v H1 => v = .ref D ∧ H1 = H) I ⟨rfl,rfl⟩) fun u s1 ⟨y,H1,I1,rx,e1,e2⟩ => ?_) ht
  subst e1
  subst e2
  obtain rfl : u = Value.ref D:=rx
  refine PySem.W.method_cls I1.kIn c.ga (PySem.W.cls_value I1.kIn c.rd c.fi handed_vi ?_)
  have I2:=I1.tok (s1.toks + 1)
  refine PyProof.Rows.callWith_builtin1 (thn (ha cpos pins _ σ H1 _ I2 h) fun us s2 ⟨vs,H2,I3,r,a,C,od,rest,ev,ea,xc,hl,q⟩ => ?_) hst hpl
  subst ev
  obtain ⟨u1,us1,rfl,r1,r2⟩ : ∃ u1 us1,us = u1 :: us1 ∧ RelV (.ref a) u1 ∧ Vals rest us1:=by
    cases r with
    | cons r1 r2 => exact ⟨_,_,rfl,r1,r2⟩
  obtain rfl : u1 = Value.ref a:=r1
  obtain ⟨⟨ws,a0,e0,hz,h0,h1⟩,_,_⟩:=(show ObjOk X.prog X.w H2 s2.heap a (NewExc a C od) from I3.hok a _ ea)
  refine xi_run I3.kIn xc.ex e0 hz h0 (by rw [← r2.length]; exact hl) fun h' g1 g2 => ⟨.non,H2,?_,rfl,q⟩
  have I4 : Inv X pins σ (upd H2 a (NewExc a C od)) { s2 with heap:=h',toks:=s2.toks }:=I3.write (x:=a) (e:=a) (by rw [ea]; exact True.intro) (.inl rfl) (fun b u hb e => g2 b u hb e) ⟨_,g1⟩ (newExc_ok (a0:=s2.heap.objs.size) g1 (by rw [Array.size_setIfInBounds]; exact hz) (by simp [hz]) (by rw [Array.getElem?_setIfInBounds_ne (by decide)]; exact h1))
  have eH : upd H2 a (NewExc a C od) = H2:=by
    funext b
    by_cases hb : b = a
    · subst hb; rw [upd_same]; exact ea.symm
    · rw [upd_ne hb]
  rw [eH] at I4
  exact I4
end
end L3

namespace L3
open PySem PySem.Spec PyProof.Rows L2 PySem.W
section
variable {prog : Program} {w : World} {A : Around} {E : Value → Shared → Prop} {s : Shared} {env : Env} {K : Frag}
theorem raise_gen {ex : Expr} {pos : Pos} {Q : Flow → Shared → Prop} (hh : A.handled = none)
    (h : wpAny (model prog w) A (eval ex env) (fun v s1 => ∃ (e C : Addr) (od : Option Addr) (vs : Array Value),v = .ref e ∧ K.In s1.heap ∧ s1.heap.get? e = some ⟨.ref C,od,.fields vs,#[]⟩ ∧ vs[1]? = some .none ∧ mroIn K C (.type "BaseException") = some true ∧ typeIn K (.ref C) = some (.type "type") ∧ E (.ref e) s1) E s) :
    wpAny (model prog w) A (exec (.Raise (some ex) none pos) env) Q E s:=by
  rw [arm_exec_Raise]
  refine wpAny_bind (wpAny_standAt ?_)
  show wpAny _ _ (raiseStmt env (some (do let v ← eval ex env; standAt pos; pure v)) none) _ _ _
  unfold raiseStmt
  refine wpAny_bind (wpAny_bind (wpAny_mono h (fun v s1 q => ?_) fun _ _ z => z))
  obtain ⟨e,C,od,vs,rfl,X,he,h1,hb,ht,hE⟩:=q
  obtain ⟨hp,g,d,tk,os⟩:=s1
  have L0 : Looks (model prog w) hp (typeOf (.ref e)) (.ref C):=(Looks.ld he).andThen .now
  have L1:=looks_mroIn (M:=model prog w) X hb
  have L2:=looks_typeIn (M:=model prog w) X ht
  refine wpAny_bind (wpAny_standAt (wpAny_pure ?_))
  dsimp only
  have hi : ∀ {A' : Around} {Q' : Bool → Shared → Prop} {E' : Value → Shared → Prop},Q' false ⟨hp,g,d,tk,os⟩ → wpAny (model prog w) A' (isType (.ref e)) Q' E' ⟨hp,g,d,tk,os⟩:=fun q => by
    unfold isType loadHead
    exact wpAny_bind (wpAny_loadPart he (wpAny_pure q))
  refine wpAny_bind (wpAny_pure ?_)
  refine wpAny_bind (wpAny_holding ?_)
  unfold excFromValue isExcClass
  refine wpAny_bind (wpAny_bind (hi ?_))
  rw [if_neg Bool.false_ne_true]
  refine wpAny_pure ?_
  rw [if_neg Bool.false_ne_true]
  unfold isInstance
  refine wpAny_bind (wpAny_bind (L0.at (L1.at ?_)))
  rw [if_pos rfl]
  refine wpAny_pure ?_
  dsimp only
  refine wpAny_bind (hi ?_)
  rw [if_neg Bool.false_ne_true]
  unfold raisedInstance
  refine wpAny_bind (wpAny_bind (L0.at (wpAny_bind (L2.at ?_))))
  rw [if_pos (by decide)]
  refine wpAny_pure ?_
  unfold setFlight
  refine wpAny_bind (wpAny_bind (wpAny_field he rfl h1 ?_))
  rw [if_neg (by decide)]
  refine wpAny_pure ?_
  exact wpAny_raiseNew_none hh hE
end
structure ExcI (K : Frag) (mg : Str → Option Value) (x : Str) (C f : Addr) : Prop where
  bound : mg x = some (.ref C)
  keep : keepIn K (.ref C) = true
  cls : XCls K C
  typ : typeIn K (.ref C) = some (.type "type")
  init : findIn K (.ref C) "__init__" = some (some (.ref f))
  fn : typeIn K (.ref f) = some (.type "function")
section
variable {P : Program} {w : World} {K : PySem.W.Frag} {mg : Str → Option Value} {base : Heap} {N : List Str} {qual : Str} {scope : Scope} {g : Addr} {cd : Value} {A : Around} {outer : List Env} {s₀ : Shared} {H₀ : Hp} {E : XK} {x : Str} {C f : Addr} {fd : FuncData} {ps : List Str} {sp : Sp} {k : Nat} {e : Expr} {es : List Expr} {t : TA} {p pos cpos : Pos}
end
structure FuX (P : Program) (w : World) (K : Frag) (mg : Str → Option Value) (base : Heap) (k : Nat) (x : Str) (C : Addr) (ps : List Str) (sp : Sp) : Prop where
  ex : ∃ f fd,ExcI K mg x C f ∧ FnOk P w K mg base CX0 k f fd ps sp ∧ Binds K fd ps []
structure DefX (K : Frag) (mg : Str → Option Value) (x : Str) (C : Addr) (qual : Str) (st : Stmt) (ps : List Str) : Prop where
  ex : ∃ f fd,ExcI K mg x C f ∧ Fun K "__init__" qual st f fd ∧ Binds K fd ps []
theorem DefX.fu {P : Program} {w : World} {K : Frag} {mg : Str → Option Value} {base : Heap} {x qual : Str} {C : Addr} {st : Stmt} {N ps : List Str} {k : Nat} {sp : Sp} (D : DefX K mg x C qual st ps) (S : FnScope N ps (defScope st)) (len : ∀ vs H Q E,sp vs H Q E → vs.length = ps.length)
    (hbody : ∀ (f : Addr) (cdv : Value) (A : Around) (outer : List Env) (s : Shared) (H : Hp) (vs : List V) (Q : VK) (E : XK),Room k (A.deeper (envOfC qual (defScope st) s.heap.objs.size f cdv)) → sp vs H Q E →
      ∃ t,PSs (cxOf CX0 P w K mg base N qual (defScope st) f cdv A outer s H E).nox (defBody st) t ∧ t { nx:=fun _ H' => Q .non H',rt:=Q } (start N vs) H) : FuX P w K mg base (k + 1) x C ps sp:=by
  obtain ⟨f,fd,hx,F,hb⟩:=D.ex
  exact ⟨f,fd,hx,F.ok S len fun cdv A outer s H vs Q E hr h => hbody f cdv A outer s H vs Q E hr h,hb⟩
theorem DefX.of {K : Frag} {mg : Str → Option Value} {x qual : Str} {C f : Addr} {st : Stmt} {ps : List Str} {oc : Value} {od an : Option Addr} {osl : Array (Option Value)} {kV doc pm cdv ct : Value} (hx : ExcI K mg x C f)
    (b : ∀ (kV doc pm : Value) (an : Option Addr) (cdv ct : Value) (us : List Value),us.length = ps.length → bindArgs (PySem.W.fnOf "__init__" qual (defArgs st) (defBody st) (defScope st) .none kV doc pm an cdv ct) ⟨us,[]⟩ = pure (ps.zip us))
    (l : K.lookup f = some ⟨oc,od,.func (PySem.W.fnOf "__init__" qual (defArgs st) (defBody st) (defScope st) .none kV doc pm an cdv ct),osl⟩) (c : PySem.W.codeIn K cdv qual = true) (k : PySem.W.keepIn K (.ref f) = true) : DefX K mg x C qual st ps :=
  ⟨f,_,hx,fun_mk (st:=st) l c k,(fun_mk (st:=st) l c k).binds b⟩
section
variable {P : Program} {w : World} {K : PySem.W.Frag} {mg : Str → Option Value} {base : Heap} {N : List Str} {qual : Str} {scope : Scope} {g : Addr} {cd : Value} {A : Around} {outer : List Env} {s₀ : Shared} {H₀ : Hp} {E : XK} {x : Str} {C : Addr} {ps : List Str} {sp : Sp} {j k : Nat} {e : Expr} {es : List Expr} {t : TA} {p pos cpos : Pos}
end
end L3

namespace L2
open PySem PySem.Spec PyProof.Rows
section
variable {κ : Type} [DecidableEq κ]
def valV (kvs : List (κ × V)) (k : κ) : Option V:=(kvs.find? fun kv => decide (kv.1 = k)).map (·.2)
def putK (kvs : List (κ × V)) (k : κ) (v : V) : List (κ × V) :=
  if (kvs.any fun kv => decide (kv.1 = k)) = true then kvs.map (fun kv => if kv.1 = k then (kv.1,v) else kv) else kvs ++ [(k,v)]
def dropK (kvs : List (κ × V)) (k : κ) : List (κ × V):=kvs.filter fun kv => decide (kv.1 ≠ k)

theorem valV_pos {p : κ × V} {r : List (κ × V)} {k : κ} (e : p.1 = k) : valV (p :: r) k = some p.2:=by simp [valV,List.find?_cons,e]
theorem valV_neg {p : κ × V} {r : List (κ × V)} {k : κ} (e : ¬ p.1 = k) : valV (p :: r) k = valV r k:=by simp [valV,List.find?_cons,e]
theorem valV_any (k : κ) : ∀ kvs : List (κ × V),(kvs.any fun kv => decide (kv.1 = k)) = (valV kvs k).isSome
  | [] => rfl
  | p :: r => by
    rw [List.any_cons]
    by_cases e : p.1 = k
    · simp only [valV_pos e,decide_eq_true e,Bool.true_or,Option.isSome_some]
    · rw [valV_neg e,decide_eq_false e,Bool.false_or]; exact valV_any k r
theorem RelO.isSome_eq {o : Option V} {u : Option Value} (r : RelO o u) : o.isSome = u.isSome:=by
  cases o with
  | none => cases u with
    | none => rfl
    | some _ => exact (show False from r).elim
  | some _ => cases u with
    | none => exact (show False from r).elim
    | some _ => rfl
theorem RelO.getD {o : Option V} {u : Option Value} {d : V} {d' : Value} (r : RelO o u) (rd : RelV d d') : RelV (o.getD d) (u.getD d'):=by
  cases o with
  | none => cases u with
    | none => exact rd
    | some _ => exact (show False from r).elim
  | some _ => cases u with
    | none => exact (show False from r).elim
    | some _ => exact r

theorem KV.val {kvs : List (κ × V)} {vs : List (κ × Value)} (r : KV kvs vs) (k : κ) : RelO (valV kvs k) (valueAt vs k):=by
  unfold KV at r
  induction r with
  | nil => exact True.intro
  | @cons p q ps qs h t ih =>
    obtain ⟨h1,h2⟩:=h
    by_cases e : p.1 = k
    · have e' : q.1 = k:=h1.symm.trans e
      have b : valueAt (q :: qs) k = some q.2:=by simp [valueAt,List.find?_cons,e']
      rw [valV_pos e,b]; exact h2
    · have e' : ¬ q.1 = k:=fun z => e (h1.trans z)
      have b : valueAt (q :: qs) k = valueAt qs k:=by simp [valueAt,List.find?_cons,e']
      rw [valV_neg e,b]; exact ih
theorem KV.any {kvs : List (κ × V)} {vs : List (κ × Value)} (r : KV kvs vs) (k : κ) : (kvs.any fun kv => decide (kv.1 = k)) = vs.any fun kv => decide (kv.1 = k):=by
  unfold KV at r
  induction r with
  | nil => rfl
  | cons h t ih => rw [List.any_cons,List.any_cons,ih,h.1]
theorem KV.repl {kvs : List (κ × V)} {vs : List (κ × Value)} (r : KV kvs vs) (k : κ) {y : V} {u : Value} (ry : RelV y u) :
    KV (kvs.map fun kv => if kv.1 = k then (kv.1,y) else kv) (vs.map fun kv => if kv.1 = k then (kv.1,u) else kv):=by
  unfold KV at r ⊢
  induction r with
  | nil => exact .nil
  | @cons p q ps qs h t ih =>
    rw [List.map_cons,List.map_cons]
    refine .cons ?_ ih
    obtain ⟨h1,h2⟩:=h
    by_cases e : p.1 = k
    · rw [if_pos e,if_pos (h1.symm.trans e)]; exact ⟨h1,ry⟩
    · rw [if_neg e,if_neg (fun z => e (h1.trans z))]; exact ⟨h1,h2⟩
theorem KV.put {kvs : List (κ × V)} {vs : List (κ × Value)} (r : KV kvs vs) (k : κ) {y : V} {u : Value} (ry : RelV y u) : KV (putK kvs k y) (stored vs k u):=by
  unfold putK stored
  rw [r.any k]
  by_cases e : (vs.any fun kv => decide (kv.1 = k)) = true
  · rw [if_pos e,if_pos e]; exact r.repl k ry
  · rw [if_neg e,if_neg e]; exact Paired.snoc r ⟨rfl,ry⟩
theorem KV.drop {kvs : List (κ × V)} {vs : List (κ × Value)} (r : KV kvs vs) (k : κ) : KV (dropK kvs k) (without vs k):=by
  unfold KV at r ⊢
  unfold dropK without
  induction r with
  | nil => exact .nil
  | @cons p q ps qs h t ih =>
    obtain ⟨h1,h2⟩:=h
    rw [List.filter_cons,List.filter_cons]
    by_cases e : p.1 = k
    · have a : ¬ decide (p.1 ≠ k) = true:=by simp [e]
      have b : ¬ decide (q.1 ≠ k) = true:=by simp [h1.symm.trans e]
      rw [if_neg a,if_neg b]; exact ih
    · have e' : ¬ q.1 = k:=fun z => e (h1.trans z)
      have a : decide (p.1 ≠ k) = true:=by simp [e]
      have b : decide (q.1 ≠ k) = true:=by simp [e']
      rw [if_pos a,if_pos b]; exact .cons ⟨h1,h2⟩ ih
theorem KV.keys {kvs : List (κ × V)} {vs : List (κ × Value)} (r : KV kvs vs) : kvs.map (·.1) = vs.map (·.1):=by
  unfold KV at r
  induction r with
  | nil => rfl
  | cons h t ih => rw [List.map_cons,List.map_cons,ih,h.1]
theorem KV.length {kvs : List (κ × V)} {vs : List (κ × Value)} (r : KV kvs vs) : kvs.length = vs.length:=Paired.length r
end


abbrev KT (H : Hp) : List (List Key × V) → List (List Key × Addr × Value) → Prop:=Paired fun p q => p.1 = q.1 ∧ H q.2.1 = some (.tup (p.1.map kV)) ∧ RelV p.2 q.2.2
theorem KT.val {H : Hp} {kvs : List (List Key × V)} {xs : List (List Key × Addr × Value)} (r : KT H kvs xs) (k : List Key) : RelO (valV kvs k) ((atKey xs k).map (·.2)):=by
  induction r with
  | nil => exact True.intro
  | @cons p q ps qs h t ih =>
    obtain ⟨h1,_,h2⟩:=h
    by_cases e : p.1 = k
    · have e' : q.1 = k:=h1.symm.trans e
      have b : atKey (q :: qs) k = some q.2:=by simp [atKey,List.find?_cons,e']
      rw [valV_pos e,b]; exact h2
    · have e' : ¬ q.1 = k:=fun z => e (h1.trans z)
      have b : atKey (q :: qs) k = atKey qs k:=by simp [atKey,List.find?_cons,e']
      rw [valV_neg e,b]; exact ih
theorem KT.repl {H : Hp} {kvs : List (List Key × V)} {xs : List (List Key × Addr × Value)} (r : KT H kvs xs) (k : List Key) {y : V} {u : Value} (ry : RelV y u) :
    KT H (kvs.map fun kv => if kv.1 = k then (kv.1,y) else kv) (xs.map (putAt k u)):=by
  induction r with
  | nil => exact .nil
  | @cons p q ps qs h t ih =>
    rw [List.map_cons,List.map_cons]
    refine .cons ?_ ih
    obtain ⟨h1,h2,h3⟩:=h
    unfold putAt
    by_cases e : p.1 = k
    · rw [if_pos e,if_pos (h1.symm.trans e)]; exact ⟨h1,h2,ry⟩
    · rw [if_neg e,if_neg (fun z => e (h1.trans z))]; exact ⟨h1,h2,h3⟩
theorem KT.put {H : Hp} {kvs : List (List Key × V)} {xs : List (List Key × Addr × Value)} (r : KT H kvs xs) (k : List Key) {b : Addr} {y : V} {u : Value} (hb : H b = some (.tup (k.map kV))) (ry : RelV y u) :
    KT H (putK kvs k y) (storedH xs k b u):=by
  have e : (kvs.any fun kv => decide (kv.1 = k)) = (atKey xs k).isSome:=by
    rw [valV_any,(r.val k).isSome_eq,Option.isSome_map]
  unfold putK storedH
  rw [e]
  by_cases q : (atKey xs k).isSome = true
  · rw [if_pos q,if_pos q]; exact r.repl k ry
  · rw [if_neg q,if_neg q]; exact Paired.snoc r ⟨rfl,hb,ry⟩
theorem KT.keeps {H H' : Hp} {kvs : List (List Key × V)} {xs : List (List Key × Addr × Value)} (r : KT H kvs xs) (ht : ∀ b ys,H b = some (.tup ys) → H' b = some (.tup ys)) : KT H' kvs xs :=
  Paired.mapP r fun _ _ z => ⟨z.1,ht _ _ z.2.1,z.2.2⟩

section
variable {P : Program} {w : World} {H : Hp} {h : Heap} {a : Addr}
end

def DGet (H : Hp) (a : Addr) (y : V) (r : Option V) : Prop :=
  (∃ kvs k,Rd H a (.dK kvs) ∧ y = kV k ∧ r = valV kvs k) ∨ ∃ kvs k b,Rd H a (.dT kvs) ∧ y = .ref b ∧ H b = some (.tup (k.map kV)) ∧ r = valV kvs k
def DPut (H : Hp) (a : Addr) (y v : V) (H' : Hp) : Prop :=
  (∃ kvs k,H a = some (.dK kvs) ∧ y = kV k ∧ kvs.length < sizeLine ∧ H' = upd H a (.dK (putK kvs k v))) ∨
  ∃ kvs k b,H a = some (.dT kvs) ∧ y = .ref b ∧ H b = some (.tup (k.map kV)) ∧ kvs.length < sizeLine ∧ H' = upd H a (.dT (putK kvs k v))
theorem DGet.k {H : Hp} {a : Addr} {kvs : List (Key × V)} {k : Key} (e : H a = some (.dK kvs)) : DGet H a (kV k) (valV kvs k):=.inl ⟨kvs,k,.inl e,rfl,rfl⟩
theorem DGet.t {H : Hp} {a b : Addr} {kvs : List (List Key × V)} {k : List Key} (e : H a = some (.dT kvs)) (eb : H b = some (.tup (k.map kV))) : DGet H a (.ref b) (valV kvs k):=.inr ⟨kvs,k,b,.inl e,rfl,eb,rfl⟩
theorem DPut.k {H : Hp} {a : Addr} {kvs : List (Key × V)} {k : Key} {v : V} (e : H a = some (.dK kvs)) (hl : kvs.length < sizeLine) : DPut H a (kV k) v (upd H a (.dK (putK kvs k v))):=.inl ⟨kvs,k,e,rfl,hl,rfl⟩
theorem DPut.t {H : Hp} {a b : Addr} {kvs : List (List Key × V)} {k : List Key} {v : V} (e : H a = some (.dT kvs)) (eb : H b = some (.tup (k.map kV))) (hl : kvs.length < sizeLine) :
    DPut H a (.ref b) v (upd H a (.dT (putK kvs k v))):=.inr ⟨kvs,k,b,e,rfl,eb,hl,rfl⟩


section
variable {X : Cx} {pins : List (Addr × Obj)} {σ : St} {H : Hp} {s : Shared} {a : Addr} {y v : V} {u r : Value} {o : Option V} {A : Around} {E : Value → Shared → Prop}

end

section
variable {X : Cx} {pins : List (Addr × Obj)} {σ : St} {H : Hp} {s : Shared} {a : Addr} {kvs : List (Key × V)} {k : Key} {u : Value} {A : Around} {E : Value → Shared → Prop}
end


section
variable {X : Cx} {o i e value : Expr} {pos pos' tpos : Pos} {td ty tv : TE}
end


section
variable {X : Cx} {pos : Pos}
end

structure M1 (X : Cx) (o : Expr) (m : Str) (apos : Pos) (e : Expr) (cpos : Pos) : Prop where
  base : attributeBase o m X.env (eval o X.env) = eval o X.env
  few : ((backTo cpos (starEach [e] X.env)).all (fun x => !x.1) && (backToKw cpos (keywordEach [] X.env)).all (fun x => x.1.isSome)
    && decide (([e] : List Expr).length + ([] : List Keyword).length + (if ([] : List Keyword).isEmpty then 0 else 1) < 30)) = true
  line : (apos.endLine == cpos.line) = true
  trees : backTo cpos (starEach [e] X.env) = [(false,eval e X.env)]
section
variable {X : Cx} {pins : List (Addr × Obj)} {σ : St} {H : Hp} {s : Shared} {a : Addr} {y d : V} {u r : Value} {o : Option V} {A : Around} {E : Value → Shared → Prop}
end

section
variable {X : Cx} {o e f : Expr} {apos cpos : Pos} {td ty tx : TE}
end

section
variable {X : Cx} {pins : List (Addr × Obj)} {σ : St} {H : Hp} {s : Shared} {a : Addr} {kvs : List (Key × V)} {A : Around} {E : Value → Shared → Prop}
end


section
variable {X : Cx} {pins : List (Addr × Obj)} {σ : St} {H : Hp} {s : Shared} {a : Addr} {y : V} {u : Value} {A : Around} {E : Value → Shared → Prop}
end
end L2


namespace L3
open PySem PySem.Spec PyProof.Rows L2
section
variable {X : Cx} {es : List Expr} {t : TA}
end
end L3

namespace L3
open PySem PySem.Spec PyProof.Rows L2
theorem vals_ints {us : List Value} {ns : List Int} (h : IntsAre us ns) : Vals (ns.map V.int) us:=by
  induction h with
  | nil => exact .nil
  | cons n t _ ih => exact .cons ⟨t,rfl⟩ ih
section
variable {X : Cx} {a : Expr} {ta : TE} {p pos : Pos}
end
section
open PySem.SeqAt PySem.MeetsSeq PySem.MeetsSeq2 PySem.MeetsSeq3
open PySem.AutoSeq1 (wpAny_loadPart')
end
section
variable {X : Cx}
end
section
variable {X : Cx} {a b : Expr} {ta tb : TE} {pos : Pos} {K : PySem.W.Frag}
end
end L3

namespace L3
open PySem PySem.Spec PyProof.Rows L2
section
variable {X : Cx} {pins : List (Addr × Obj)} {σ : L2.St} {H : Hp} {s : Shared} {ky : Nat → Int × Int}
end
section
variable {X : Cx} {a : Expr} {ta : TE} {p pos : Pos}
end
end L3

namespace L3
open PySem PySem.Spec PyProof.Rows L2
def DSafe {α : Type} : Sem α → Prop
  | .pure _ => True
  | .raise _ => True
  | .unsupported _ => True
  | .finish _ => True
  | .rule _ k => DSafe (k ())
  | .at _ k => DSafe (k ())
  | .load _ _ k => ∀ o,DSafe (k o)
  | .update _ _ f k => (∀ o,(f o).dict = o.dict ∧ (f o).alive = o.alive) ∧ DSafe (k ())
  | .loadIfAlive _ k => ∀ o,DSafe (k o)
  | .point _ k => DSafe (k ())
  | .register _ _ => True
  | .alloc _ k => ∀ a,DSafe (k a)
  | .fresh k => ∀ t,DSafe (k t)
  | .ask k => ∀ x,DSafe (k x)
  | .choose _ _ k => ∀ n,DSafe (k n)
  | .os _ _ k => ∀ r,DSafe (k r)
  | .call _ _ _ _ _ => False
  | .handled _ k => ∀ x,DSafe (k x)
  | .genState _ k => ∀ x,DSafe (k x)
  | .newGen _ k => ∀ x,DSafe (k x)
  | .resume _ _ _ _ => False
  | .yield .. => True
  | .stack k => ∀ l,DSafe (k l)
  | .fork .. => True
  | .thread k => ∀ n,DSafe (k n)
  | .await .. => True
def DKeep (h h' : Heap) : Prop:=∀ b o,h.get? b = some o → ∃ o',h'.get? b = some o' ∧ o'.dict = o.dict
theorem DKeep.refl (h : Heap) : DKeep h h:=fun b o e => ⟨o,e,rfl⟩
theorem DKeep.trans {a b c : Heap} (x : DKeep a b) (y : DKeep b c) : DKeep a c:=fun z o e => by
  obtain ⟨o1,e1,d1⟩:=x z o e
  obtain ⟨o2,e2,d2⟩:=y z o1 e1
  exact ⟨o2,e2,d2.trans d1⟩
theorem DKeep.push (h : Heap) (o : Obj) : DKeep h (h.push o):=fun b u e => ⟨u,Heap.get?_push_of_some _ e,rfl⟩
theorem DKeep.update (h : Heap) (a : Addr) (f : Obj → Obj) (hf : ∀ o,(f o).dict = o.dict ∧ (f o).alive = o.alive) : DKeep h (h.update a f):=fun b u e => by
  by_cases hb : b = a
  · subst hb
    obtain ⟨h1,h2⟩:=(Heap.get?_eq_some h b u).mp e
    exact ⟨f u,(Heap.get?_eq_some _ _ _).mpr ⟨by rw [Heap.objs_update_self,h1]; rfl,by rw [(hf u).2]; exact h2⟩,(hf u).1⟩
  · exact ⟨u,by rw [Heap.get?_update_ne _ _ _ _ hb]; exact e,rfl⟩
theorem wp_dsafe {α : Type} (M : Model) (Γ : PySem.Ctx) (t : Sem α) : ∀ (Q : α → Pos → Shared → Prop) (E : Value → Pos → Shared → Prop) (p : Pos) (s : Shared),DSafe t → Sem.wp M Γ t Q E p s →
    Sem.wp M Γ t (fun a q s' => Q a q s' ∧ DKeep s.heap s'.heap) (fun e q s' => E e q s' ∧ DKeep s.heap s'.heap) p s:=by
  have up : ∀ {t : Sem α} {Q : α → Pos → Shared → Prop} {E : Value → Pos → Shared → Prop} {p : Pos} {s s1 : Shared},DKeep s1.heap s.heap → Sem.wp M Γ t (fun a q s' => Q a q s' ∧ DKeep s.heap s'.heap) (fun e q s' => E e q s' ∧ DKeep s.heap s'.heap) p s →
      Sem.wp M Γ t (fun a q s' => Q a q s' ∧ DKeep s1.heap s'.heap) (fun e q s' => E e q s' ∧ DKeep s1.heap s'.heap) p s:=fun k h => Sem.wp_mono M Γ _ (fun _ _ _ q => ⟨q.1,k.trans q.2⟩) (fun _ _ _ q => ⟨q.1,k.trans q.2⟩) _ _ h
  induction t with
  | pure a => intro Q E p s _ h; rw [Sem.wp] at h ⊢; exact ⟨h,DKeep.refl _⟩
  | raise e => intro Q E p s _ h; rw [Sem.wp] at h ⊢; exact ⟨h,DKeep.refl _⟩
  | unsupported w => intro Q E p s _ h; rw [Sem.wp] at h; exact h.elim
  | finish e => intro Q E p s _ h; rw [Sem.wp] at h; exact h.elim
  | rule g k ih => intro Q E p s d h; rw [Sem.wp] at h ⊢; exact ih () Q E p s d h
  | «at» p' k ih => intro Q E p s d h; rw [Sem.wp] at h ⊢; exact ih () Q E p' s d h
  | load a x k ih => intro Q E p s d h; rw [Sem.wp] at h ⊢; obtain ⟨o,e,h⟩:=h; exact ⟨o,e,ih o Q E p s (d o) h⟩
  | update a x f k ih => intro Q E p s d h; rw [Sem.wp] at h ⊢; exact ⟨h.1,up (DKeep.update _ _ _ d.1) (ih () Q E p _ d.2 h.2)⟩
  | loadIfAlive a k ih => intro Q E p s d h; rw [Sem.wp] at h ⊢; exact ih _ Q E p s (d _) h
  | point l k ih => intro Q E p s d h; rw [Sem.wp] at h ⊢; exact ih () Q E p s d h
  | register a k ih => intro Q E p s _ h; rw [Sem.wp] at h; exact h.elim
  | alloc o k ih => intro Q E p s d h; rw [Sem.wp] at h ⊢; exact up (DKeep.push _ _) (ih _ Q E p _ (d _) h)
  | fresh k ih => intro Q E p s d h; rw [Sem.wp] at h ⊢; exact up (DKeep.refl _) (ih _ Q E p _ (d _) h)
  | ask k ih => intro Q E p s d h; rw [Sem.wp] at h ⊢; exact ih _ Q E p s (d _) h
  | choose src n k ih => intro Q E p s d h; rw [Sem.wp] at h ⊢; exact ⟨h.1,up (DKeep.refl _) (ih _ Q E p _ (d _) h.2)⟩
  | os q l k ih => intro Q E p s d h; rw [Sem.wp] at h ⊢; exact up (DKeep.refl _) (ih _ Q E p _ (d _) h)
  | call c h' x y k ih => intro Q E p s d _; exact d.elim
  | handled own k ih => intro Q E p s d h; rw [Sem.wp] at h ⊢; exact ih _ Q E p s (d _) h
  | genState g k ih => intro Q E p s d h; rw [Sem.wp] at h ⊢; obtain ⟨st,e,h⟩:=h; exact ⟨st,e,ih _ Q E p s (d _) h⟩
  | newGen c k ih => intro Q E p s d h; rw [Sem.wp] at h ⊢; exact up (DKeep.refl _) (ih _ Q E p _ (d _) h)
  | resume g r x k ih => intro Q E p s d _; exact d.elim
  | stack k ih => intro Q E p s d h; rw [Sem.wp] at h ⊢; exact ih _ Q E p s (d _) h
  | thread k ih => intro Q E p s d h; rw [Sem.wp] at h ⊢; exact ih _ Q E p s (d _) h
  | _ => intro Q E p s _ h; rw [Sem.wp] at h; exact h.elim
theorem wpAny_dsafe {α : Type} {M : Model} {A : Around} {t : Sem α} {Q : α → Shared → Prop} {E : Value → Shared → Prop} {s : Shared} (d : DSafe t) (h : wpAny M A t Q E s) : wpAny M A t (fun a s' => Q a s' ∧ DKeep s.heap s'.heap) (fun e s' => E e s' ∧ DKeep s.heap s'.heap) s:=fun Γ p hΓ => wp_dsafe M Γ t _ _ p s d (h Γ p hΓ)
theorem DSafe.bind' {α β : Type} (m : Sem α) (f : α → Sem β) (g : ∀ a,DSafe (f a)) : DSafe m → DSafe (m.bind f):=by
  induction m with
  | pure a => intro _; exact g a
  | update a x h k ih => intro d; exact ⟨d.1,ih () d.2⟩
  | call c h x y k ih => intro d; exact d.elim
  | resume a b c k ih => intro d; exact d.elim
  | rule a k ih => intro d; exact ih () d
  | «at» a k ih => intro d; exact ih () d
  | point a k ih => intro d; exact ih () d
  | load a b k ih => intro d o; exact ih o (d o)
  | loadIfAlive a k ih => intro d o; exact ih o (d o)
  | alloc a k ih => intro d o; exact ih o (d o)
  | fresh k ih => intro d o; exact ih o (d o)
  | ask k ih => intro d o; exact ih o (d o)
  | choose a b k ih => intro d o; exact ih o (d o)
  | os a b k ih => intro d o; exact ih o (d o)
  | handled a k ih => intro d o; exact ih o (d o)
  | genState a k ih => intro d o; exact ih o (d o)
  | newGen a k ih => intro d o; exact ih o (d o)
  | stack k ih => intro d o; exact ih o (d o)
  | thread k ih => intro d o; exact ih o (d o)
  | _ => intro _; exact True.intro
theorem DSafe.bind {α β : Type} {m : Sem α} {f : α → Sem β} (h : DSafe m) (g : ∀ a,DSafe (f a)) : DSafe (m >>= f):=DSafe.bind' m f g h
theorem ds_field (v : Value) (i : Nat) : DSafe (field v i):=by
  unfold field
  refine DSafe.bind ?_ fun vs => ?_
  · unfold fieldsOf
    split
    · refine DSafe.bind (fun o => True.intro) fun o => ?_
      split <;> exact True.intro
    · exact True.intro
  · split <;> exact True.intro
end L3

namespace L3
open PySem PySem.Spec PyProof.Rows L2
theorem ds_uns {α : Type} (w : String) : DSafe (unsupported w : Sem α):=True.intro
theorem ds_load (a : Addr) : DSafe (load a):=fun _ => True.intro
theorem ds_setField (v : Value) (i : Nat) (x : Value) : DSafe (setField v i x):=by
  unfold setField
  split
  · unfold updateField
    refine DSafe.bind (ds_load _) fun o => ?_
    split
    · split
      · refine ⟨fun o => ?_,True.intro⟩
        unfold Obj.mapFields
        split <;> exact ⟨rfl,rfl⟩
      · exact True.intro
    · exact True.intro
  · exact True.intro
theorem ds_newFields (ty : String) (vs : List Value) : DSafe (newFields ty vs):=by
  have hN : DSafe (newObjAsIs (.type ty) (.fields vs.toArray)):=by
    unfold newObjAsIs
    exact DSafe.bind (m:=alloc _) (fun _ => True.intro) fun a => True.intro
  unfold newFields newObj
  dsimp only
  split
  · exact DSafe.bind (ds_uns _) fun _ => hN
  · exact hN
theorem ds_behind (env : Env) (outer : List Env) : DSafe (behindIsImport env outer):=by
  unfold behindIsImport
  split
  · exact True.intro
  · split
    · exact True.intro
    · exact DSafe.bind (ds_field _ _) fun _ => True.intro
theorem ds_kept (env : Env) (b : Bool) (l : List Env) : DSafe (keptBack env b l):=by
  unfold keptBack
  split
  · split
    · exact True.intro
    · unfold underTheClaimsCaller
      exact DSafe.bind (DSafe.bind (fun _ => True.intro) fun _ => True.intro) fun _ => True.intro
  · exact True.intro
theorem ds_ready : ∀ l : List Env,DSafe (readyFrames l)
  | [] => True.intro
  | env :: outer => by
    unfold readyFrames
    split
    · refine DSafe.bind (ds_load _) fun o => ?_
      split
      · exact True.intro
      · exact DSafe.bind (ds_behind _ _) fun _ => DSafe.bind (ds_kept _ _ _) fun _ => DSafe.bind (m:=update _ _) ⟨fun o => ⟨rfl,rfl⟩,True.intro⟩ fun _ => ds_ready outer
    · exact True.intro
theorem ds_frameOf (env : Env) : DSafe (PySem.frameOf env):=by
  unfold PySem.frameOf
  refine DSafe.bind ?_ fun l => DSafe.bind ?_ fun r => ?_
  · unfold frameEnvs
    exact DSafe.bind (fun _ => True.intro) fun _ => True.intro
  · unfold frameObject
    split
    · exact True.intro
    · exact DSafe.bind (ds_ready _) fun _ => True.intro
  · split <;> exact True.intro
theorem ds_place (f : Addr) (b : Bool) : DSafe (entryPlaceOf f b):=by
  unfold entryPlaceOf
  refine DSafe.bind (fun _ => True.intro) fun acts => ?_
  split <;> exact True.intro
theorem ds_flight (e : Value) (f : Option Addr) : DSafe (setFlight e f):=by
  unfold setFlight
  refine DSafe.bind (ds_field _ _) fun tb => ?_
  split
  · exact ds_setField _ _ _
  · exact True.intro
theorem ds_note (e : Value) (env : Env) : DSafe (noteFrame e env):=by
  unfold noteFrame
  split
  · refine DSafe.bind (ds_field _ _) fun head => ?_
    have tail : ∀ u,DSafe (do setField e 1 (← EntryCells.newEntry head (← PySem.frameOf env) .none (rawInt u) .none (← entryPlaceOf u (head != .none)))):=fun u =>
      DSafe.bind (ds_frameOf _) fun _ => DSafe.bind (ds_place _ _) fun _ => DSafe.bind (ds_newFields _ _) fun _ => ds_setField _ _ _
    split
    · refine DSafe.bind (ds_field _ _) fun x => ?_
      split
      · exact True.intro
      · exact DSafe.bind (ds_setField _ _ _) fun _ => tail _
    · exact tail _
  · exact True.intro
theorem ds_leaving (env : Env) (e : Value) : DSafe (leaving env e):=by
  unfold leaving
  exact DSafe.bind (ds_note _ _) fun _ => ds_flight _ _
end L3

namespace L3
open PySem PySem.Spec PyProof.Rows L2
structure FnH (P : Program) (w : World) (K : PySem.W.Frag) (mg : Str → Option Value) (base : Heap) (k : Nat) (f : Addr) (fd : FuncData) (ps : List Str) (sp : Sp) : Prop where
  len : ∀ vs H Q E,sp vs H Q E → vs.length = ps.length
  run : ∀ (a : Addr) (A : Around) (outer : List Env) (s : Shared) (H : Hp) (args : Args) (us : List Value) (vs : List V) (Q : VK) (E : XK),Room k A → Env0 P w K mg base A outer s H → BindsTo s fd args (ps.zip us) → Vals vs us → sp vs H Q E →
    codeAny (model P w) (A.mark (some (.ref a))) (.call (.ref f) args) (CR CX0 outer P w H s Q E) s
theorem FnH.mono {P : Program} {w : World} {K : PySem.W.Frag} {mg : Str → Option Value} {base : Heap} {j k : Nat} {f : Addr} {fd : FuncData} {ps : List Str} {sp : Sp} (F : FnH P w K mg base j f fd ps sp) (h : j ≤ k) :
    FnH P w K mg base k f fd ps sp:=⟨F.len,fun a A outer s H args us vs Q E hr => F.run a A outer s H args us vs Q E (hr.mono h)⟩
structure FuH (P : Program) (w : World) (K : PySem.W.Frag) (mg : Str → Option Value) (base : Heap) (k : Nat) (x : Str) (ps : List Str) (sp : Sp) : Prop where
  ex : ∃ f fd,FnH P w K mg base k f fd ps sp ∧ mg x = some (.ref f) ∧ PySem.W.keepIn K (.ref f) = true ∧ Binds K fd ps []
theorem fnh_of {P : Program} {w : World} {K : PySem.W.Frag} {mg : Str → Option Value} {base : Heap} {k : Nat} {f : Addr} {name qual : Str} {params : Arguments} {body : List Stmt} {scope : Scope} {dV kV doc pm cdv ct oc : Value} {an od : Option Addr}
    {osl : Array (Option Value)} {N ps : List Str} {sp : Sp} (lk : K.lookup f = some ⟨oc,od,.func (PySem.W.fnOf name qual params body scope dV kV doc pm an cdv ct),osl⟩) (hcd : PySem.W.codeIn K cdv qual = true) (S : FnScope N ps scope)
    (len : ∀ vs H Q E,sp vs H Q E → vs.length = ps.length)
    (hbody : ∀ (a : Addr) (A : Around) (outer : List Env) (s : Shared) (H : Hp) (vs : List V) (Q : VK) (E : XK),Room k (A.deeper (envOfC qual scope s.heap.objs.size f cdv)) → sp vs H Q E →
      ∃ t,PSs (cxHand (cxOf CX0 P w K mg base N qual scope f cdv A outer s H E) a) body t ∧ t { nx:=fun _ H' => Q .non H',rt:=Q } (start N vs) H) :
    FnH P w K mg base (k + 1) f (PySem.W.fnOf name qual params body scope dV kV doc pm an cdv ct) ps sp:=by
  refine ⟨len,fun a A outer s H args us vs Q E hr e0 hb r hsp => ?_⟩
  have hl:=len _ _ _ _ hsp
  have KX : K.In s.heap:=e0.mod.kin.keeps fun b o e => (e0.bs b o e).1
  have lim : s.heap.NoLimit:=e0.mod.nolimit.keeps fun b o e => (e0.bs b o e).1
  have hkind : ∀ y ∈ ps.zip us,scope.names.lookup y.1 = some .local ∨ (scope.names.lookup y.1 = some .cell ∧ ((cellsFrom (s.heap.objs.size + 1) scope.names []).lookup y.1).isSome = true):=fun ⟨n,v⟩ hy => by
    rcases S.par n (List.of_mem_zip hy).1 with q | q
    · exact .inl q
    · exact .inr ⟨q,PySem.W.cellsFrom_some _ _ _ (.inl q)⟩
  have hdep : (A.mark (some (.ref a))).depth < recursionLimit:=hr.depth
  refine codeAny_call_function hdep (KX _ _ lk) rfl S.co S.gen rfl (PySem.W.codeRec_of KX hcd) (hb _ _ _ _ ?_)
  refine wpAny_newFunctionEnv_cells S.kind hkind fun env he s1 x => ?_
  subst he
  refine ⟨lim.keeps x.toInCall.keep,codeAny_func ?_⟩
  obtain ⟨t,ht,hq⟩:=hbody a A outer s H vs Q E (hr.deeper _) hsp
  have I : Inv (cxOf CX0 P w K mg base N qual scope f cdv A outer s H E) [] (start N vs) H s1:=inv_start S hr.hd e0 hl r x
  have I':=hand_in (a:=a) I
  refine wpAny_mono (ht [] s1 (start N vs) H _ I' hq) (fun fl s' hs => ?_) fun e s' hs => False.elim hs
  have fin : ∀ {σ' : L2.St} {H' : Hp} {v : V} {u : Value},Inv (cxHand (cxOf CX0 P w K mg base N qual scope f cdv A outer s H E) a) [] σ' H' s' → RelV v u → Q v H' → CE outer P w H s Q u s' :=
    fun {σ' H' v u} J rv q => ⟨v,H',J.os,J.bare,J.base,J.hok,rv,q⟩
  cases fl with
  | ret u =>
    obtain ⟨v,σ',H',J,rv,q⟩:=hs
    exact fin J rv q
  | next =>
    obtain ⟨σ',H',J,q⟩:=hs
    exact fin (v:=V.non) (u:=Value.none) J rfl q
  | brk =>
    obtain ⟨_,_,_,q⟩:=hs
    exact False.elim q
  | cont =>
    obtain ⟨_,_,_,q⟩:=hs
    exact False.elim q
section
variable {X : Cx} {j k : Nat} {a : Addr} {x : Str} {ps : List Str} {sp : Sp} {p pos : Pos} {e : Expr} {es : List Expr} {t : TA}
theorem pcH (F : FuH X.prog X.w X.K X.mg X.base j x ps sp) (hr : Room k X.A) (ha : PA (cxHand X a) (e :: es) t) (hj : j ≤ k:=by decide) (hg : Gl (cxHand X a) x:=by rfl) (hdb : (x == ("__debug__" : Str)) = false:=by decide)
    (he : starEach (e :: es) (cxHand X a).env = (false,eval e (cxHand X a).env) :: starEach es (cxHand X a).env:=by rfl) (hpl : (backTo pos (starEach es (cxHand X a).env)).any (·.1) = false:=by rfl) : PE (cxHand X a) (.Call (.Name x p) (e :: es) [] pos) (tCall sp [] E0 t):=by
  obtain ⟨f,fd,G,hm,hk,hb⟩:=F.ex
  intro pins s σ H Q I h
  refine wpAny_Call_Name_kw (ld_glob (X:=cxHand X a) I hg hm ?_ hdb)
  refine PySem.W.callWith_K (h₀:=X.base) I.ok.mod.kin hk (thn (ha pos pins s σ H _ I h) fun us s1 ⟨vs,H1,I1,r,q⟩ => ⟨I1.kIn,?_⟩) he hpl
  have q : sp (vs ++ []) H1 Q E0:=q
  rw [List.append_nil] at q
  have hl : (us ++ []).length = ps.length:=by rw [List.append_nil,← r.length]; exact G.len _ _ _ _ q
  have hb':=hb s1 us I1.kIn hl
  rw [List.append_nil] at hb'
  have e0:=I1.env0
  refine wpAny_call (codeAny_mono ((G.mono hj).run a X.A X.stack s1 H1 ⟨us,[]⟩ us vs Q E0 hr ⟨e0.frames,e0.mod,e0.bs,e0.bsz,e0.funs,e0.frf,e0.hok,e0.bare⟩ hb' r q) fun res s' hq => ?_)
  cases res with
  | error e => exact hq.elim
  | ok fl =>
    cases fl with
    | ret u => exact I1.after hq
    | next => exact hq.elim
    | brk => exact hq.elim
    | cont => exact hq.elim
end
section
variable {P : Program} {w : World} {K : PySem.W.Frag} {mg : Str → Option Value} {base : Heap} {x : Str} {st : Stmt} {N ps : List Str} {k : Nat} {sp : Sp}
theorem Def.fuH (D : Def K mg x st ps) (S : FnScope N ps (defScope st)) (len : ∀ vs H Q E,sp vs H Q E → vs.length = ps.length)
    (hbody : ∀ (a f : Addr) (cdv : Value) (A : Around) (outer : List Env) (s : Shared) (H : Hp) (vs : List V) (Q : VK) (E : XK),Room k (A.deeper (envOfC x (defScope st) s.heap.objs.size f cdv)) → sp vs H Q E →
      ∃ t,PSs (cxHand (cxOf CX0 P w K mg base N x (defScope st) f cdv A outer s H E) a) (defBody st) t ∧ t { nx:=fun _ H' => Q .non H',rt:=Q } (start N vs) H) : FuH P w K mg base (k + 1) x ps sp:=by
  obtain ⟨f,fd,F,hm,hb⟩:=D.ex
  obtain ⟨oc,od,kV,doc,pm,an,cdv,ct,osl,rfl,lk,hcd⟩:=F.ex
  exact ⟨f,_,fnh_of lk hcd S len fun a A outer s H vs Q E hr hsp => hbody a f cdv A outer s H vs Q E hr hsp,hm,F.kp,hb⟩
end
theorem KDefD.fux {P : Program} {w : World} {K : PySem.W.Frag} {mg : Str → Option Value} {base : Heap} {C : Addr} {qual : Str} {st : Stmt} {N ps : List Str} {ds : List Value} {k : Nat} {sp : Sp} (D : KDefD K C qual st ps ds) (S : FnScope N ps (defScope st)) (len : ∀ vs H Q E,sp vs H Q E → vs.length = ps.length)
    (hbody : ∀ (f : Addr) (cdv : Value) (A : Around) (outer : List Env) (s : Shared) (H : Hp) (vs : List V) (Q : VK) (E : XK),Room k (A.deeper (envOfC qual (defScope st) s.heap.objs.size f cdv)) → sp vs H Q E →
      ∃ t,PSs (cxOf (CX1 P w) P w K mg base N qual (defScope st) f cdv A outer s H E) (defBody st) t ∧ t { nx:=fun _ H' => Q .non H',rt:=Q } (start N vs) H) : FuKD P w K mg base (CX1 P w) (k + 1) C ps ds sp:=by
  obtain ⟨f,oc,od,dV,kV,doc,pm,an,cdv,ct,osl,lk,hcd,hm,hb⟩:=D.ex
  exact ⟨f,_,fn_of lk hcd S len fun A outer s H vs Q E hr hsp => hbody f cdv A outer s H vs Q E hr hsp,hm,hb⟩
theorem FuKD.k {P : Program} {w : World} {K : PySem.W.Frag} {mg : Str → Option Value} {base : Heap} {CX : CXT} {k : Nat} {C : Addr} {ps : List Str} {sp : Sp} (F : FuKD P w K mg base CX k C ps [] sp) : FuK P w K mg base CX k C ps sp:=⟨F.ex⟩
theorem BDef.fux {P : Program} {w : World} {K : PySem.W.Frag} {mg : Str → Option Value} {base : Heap} {D : Addr} {m qual : Str} {st : Stmt} {N ps : List Str} {k : Nat} {sp : Sp} (B : BDef K D m qual st ps) (S : FnScope N ps (defScope st)) (len : ∀ vs H Q E,sp vs H Q E → vs.length = ps.length)
    (hbody : ∀ (f : Addr) (cdv : Value) (A : Around) (outer : List Env) (s : Shared) (H : Hp) (vs : List V) (Q : VK) (E : XK),Room k (A.deeper (envOfC qual (defScope st) s.heap.objs.size f cdv)) → sp vs H Q E →
      ∃ t,PSs (cxOf (CX1 P w) P w K mg base N qual (defScope st) f cdv A outer s H E) (defBody st) t ∧ t { nx:=fun _ H' => Q .non H',rt:=Q } (start N vs) H) : FuB P w K mg base (CX1 P w) (k + 1) D m ps sp:=by
  obtain ⟨f,oc,od,dV,kV,doc,pm,an,cdv,ct,osl,lk,hcd,hm,hb⟩:=B.ex
  exact ⟨f,_,fn_of lk hcd S len fun A outer s H vs Q E hr hsp => hbody f cdv A outer s H vs Q E hr hsp,hm,hb⟩
theorem boot_ve : bootBuiltins "ValueError" = some (.type "ValueError"):=by decide +kernel
section
variable {X : Cx} {p pos q : Pos} {T : Str} {e : Expr} {te : TE}
theorem p_isiG {c : Addr} {K : PySem.W.Frag} (hm : X.mg "isinstance" = none) (hmT : X.mg T = some (.ref c)) (he : PE X e te) (hg : Gl X "isinstance" := by rfl) (hgT : Gl X T:=by rfl) (hdb : (T == ("__debug__" : Str)) = false:=by decide)
    (hst : starEach [e,.Name T q] X.env = (false,eval e X.env) :: starEach [.Name T q] X.env:=by rfl) (hst2 : starEach [.Name T q] X.env = (false,eval (.Name T q) X.env) :: starEach [] X.env:=by rfl) (hK : X.K = K:=by rfl) :
    PE X (.Call (.Name "isinstance" p) [e,.Name T q] [] pos) (tCB (rIsiX K) (tCons te (tCons (tC (.ref c)) tNil))) :=
  hK ▸ pe_callB call_isiX hg hm boot_isinstance (pa_cons he (pa_cons (pe_glob (v:=.ref c) hgT hmT rfl hdb) pa_nil hst2) hst) (he:=hst) (hpl:=by rw [hst2]; rfl)
theorem p_isiB {m : String} {K : PySem.W.Frag} (hm : X.mg "isinstance" = none) (hmT : X.mg T = none) (hv : bootBuiltins T = some (.type m)) (he : PE X e te) (hg : Gl X "isinstance" := by rfl) (hgT : Gl X T:=by rfl) (hn : T ≠ "__name__" := by decide) (hdb : (T == ("__debug__" : Str)) = false:=by decide)
    (hst : starEach [e,.Name T q] X.env = (false,eval e X.env) :: starEach [.Name T q] X.env:=by rfl) (hst2 : starEach [.Name T q] X.env = (false,eval (.Name T q) X.env) :: starEach [] X.env:=by rfl) (hK : X.K = K:=by rfl) :
    PE X (.Call (.Name "isinstance" p) [e,.Name T q] [] pos) (tCB (rIsiX K) (tCons te (tCons (tC (.ty m)) tNil))) :=
  hK ▸ pe_callB call_isiX hg hm boot_isinstance (pa_cons he (pa_cons (pe_bltn (v:=.ty m) hgT hmT hv rfl hn hdb) pa_nil hst2) hst) (he:=hst) (hpl:=by rw [hst2]; rfl)
end
theorem bodyO {CX : CXT} {P : Program} {w : World} {K : PySem.W.Frag} {mg : Str → Option Value} {base : Heap} {N : List Str} {qual : Str} {scope : Scope} {f : Addr} {cd : Value} {A : Around} {outer : List Env} {s : Shared} {H : Hp} {E : XK} : Body (cxOf CX P w K mg base N qual scope f cd A outer s H E).nox:=⟨rfl,rfl,rfl,fun _ => rfl⟩
theorem _root_.L2.TyOf.same {K : PySem.W.Frag} {H H' : Hp} {x : V} {t : Value} (h : TyOf K H x t) (s : ∀ a o,H a = some o → H' a = some o) : TyOf K H' x t:=by
  cases h with
  | non => exact .non
  | bl b => exact .bl b
  | int i => exact .int i
  | str x => exact .str x
  | flt x => exact .flt x
  | lst e => exact .lst (s _ _ e)
  | frz e => exact .frz (s _ _ e)
  | tup e => exact .tup (s _ _ e)
  | dK e => exact .dK (s _ _ e)
  | dT e => exact .dT (s _ _ e)
  | ins e a b c d f => exact .ins (s _ _ e) a b c d f
section
variable {X : Cx} {a : Expr} {ta : TE} {p pos : Pos}
end
end L3

namespace L3
open PySem PySem.Spec PyProof.Rows L2 PySem.W Builtin.ObjectAttr
section
variable {prog : Program} {w : World} {A : Around} {E : Value → Shared → Prop} {s : Shared} {K : Frag} {x C dx : Addr} {name : Str} {v : Value} {mA : Str → Option Value} {sl : Array (Option Value)} {vs : Array Value}
theorem looks_ns1 {M : Model} {h : Heap} (hd : h.Ns1 dx mA) : Looks M h (nsGet dx name) (mA name):=by
  intro A' Q' E' s' k q
  exact wpAny_nsGet (hd.at (k dx)).ns q
theorem find_own {M : Model} {h : Heap} (X : K.In h) (hx : h.get? x = some ⟨.ref C,some dx,.fields vs,sl⟩) (hn : findIn K (.ref C) name = some none) (hh : hasDictIn K C = true) (hd : h.Ns1 dx mA) (hv : mA name = some v) : Looks M h (find (.ref x) (.ref C) name) (.value v):=by
  obtain ⟨cd,hcd,hd'⟩:=any_some hh
  have F1:=looks_findIn (M:=M) X hn
  have F2 : Looks M h (getOf none) none:=.now
  have F3 : Looks M h (dataDescriptor? none none) none:=.now
  have F5 : Looks M h (instanceDict x false) (some dx):=by
    refine (Looks.ld hx).andThen ((looks_clsIn X hcd).andThen ?_)
    rw [hd']
    exact .now
  have F6 : Looks M h (ownDict x) (some dx):=(Looks.ld hx).andThen F5
  have F7 : Looks M h (inOwnDict name (.ref x)) (some v):=F6.andThen (by have:=looks_ns1 (M:=M) (name:=name) hd; rw [hv] at this; exact this)
  have F4 : Looks M h (ownThenClass (.ref x) name none none) (.value v):=F7.andThen (Looks.tag .now)
  exact F1.andThen (F2.andThen (F3.andThen F4))
theorem exc_get {b : Bool} {Q : Value → Shared → Prop} (X : K.In s.heap) (hx : s.heap.get? x = some ⟨.ref C,some dx,.fields vs,sl⟩) (G : ExcG K C) (hn : findIn K (.ref C) name = some none) (hh : hasDictIn K C = true) (hd : s.heap.Ns1 dx mA) (hv : mA name = some v) (hv2 : handedIn v = true)
    (h : Q v { s with toks:=s.toks + 1 }) : wpAny (model prog w) A (getAttr (.ref x) name b) Q E s:=by
  obtain ⟨hp,g,d,t,os⟩:=s
  have I : IsOf hp x C:=⟨_,hx,rfl⟩
  have L0:=I.type (M:=model prog w)
  have L1:=looks_findIn (M:=model prog w) X G.ga
  unfold getAttr getAttrBy
  refine wpAny_bind (wpAny_mkText (wpAny_holding (wpAny_bind (L0.at (wpAny_bind (L1.at ?_))))))
  show wpAny _ _ (getAttrByItsOwn (.ref x) (.str name t) (.ref C) (.builtin "BaseException.__getattribute__") true b) _ _ _
  refine exc_own (s:=⟨hp,g,d,t + 1,os⟩) X I G.gh G.be fun A' => ?_
  exact ga_val (s:=⟨hp,g,d,t + 1,os⟩) I (find_own X hx hn hh hd hv) ⟨hv2,h⟩
end
end L3

namespace L3
open PySem PySem.Spec PyProof.Rows L2 PySem.W
def HasD (h : Heap) (a : Addr) (od : Option Addr) : Prop:=∃ o,h.get? a = some o ∧ o.dict = od
theorem HasD.keep {h h' : Heap} {a : Addr} {od : Option Addr} (x : HasD h a od) (k : DKeep h h') : HasD h' a od:=by
  obtain ⟨o,e,d⟩:=x
  obtain ⟨o',e',d'⟩:=k a o e
  exact ⟨o',e',d'.trans d⟩
def CX2 (P : Program) (w : World) : CXT:=fun outer H s E e s' => ∃ (a C : Addr) (B : Heap) (H' : Hp) (od : Option Addr),e = .ref a ∧ Fly P w outer H H' s s' a C B ∧ HasD s'.heap a od ∧ E (.ref C) od H'
def tRaise2 (E : XK) (C : Addr) (sp : Sp) (t : TA) : TS:=fun _ σ H => t σ H fun vs H1 => vs.length ≤ sizeLine ∧ ∀ e,H1 e = none → sp (.ref e :: vs) (upd H1 e (NewExc e C none)) (fun v H2 => v = .non ∧ ∃ od,H2 e = some (NewExc e C od) ∧ E (.ref C) od (del H2 e)) E0
section
variable {P : Program} {w : World} {K : PySem.W.Frag} {mg : Str → Option Value} {base : Heap} {N : List Str} {qual : Str} {scope : Scope} {g : Addr} {cd : Value} {A : Around} {outer : List Env} {s₀ : Shared} {H₀ : Hp} {E : XK} {x : Str} {C f : Addr} {fd : FuncData} {ps : List Str} {sp : Sp} {j k : Nat} {e : Expr} {es : List Expr} {t : TA} {p pos cpos : Pos}
theorem ps_raise2 (Fx : FuX P w K mg base j x C ps sp) (hr : Room (k + 1) (A.deeper (envOfC qual scope s₀.heap.objs.size g cd))) (ha : PA (cxOf (CX2 P w) P w K mg base N qual scope g cd A outer s₀ H₀ E) (e :: es) t) (hj : j ≤ k:=by decide) (hg : Gl (cxOf (CX2 P w) P w K mg base N qual scope g cd A outer s₀ H₀ E) x:=by rfl) (hdb : (x == ("__debug__" : Str)) = false:=by decide)
    (he : starEach (e :: es) (cxOf (CX2 P w) P w K mg base N qual scope g cd A outer s₀ H₀ E).env = (false,eval e (cxOf (CX2 P w) P w K mg base N qual scope g cd A outer s₀ H₀ E).env) :: starEach es (cxOf (CX2 P w) P w K mg base N qual scope g cd A outer s₀ H₀ E).env:=by rfl)
    (hpl : (backTo cpos (starEach es (cxOf (CX2 P w) P w K mg base N qual scope g cd A outer s₀ H₀ E).env)).any (·.1) = false:=by rfl) :
    PS (cxOf (CX2 P w) P w K mg base N qual scope g cd A outer s₀ H₀ E) (.Raise (some (.Call (.Name x p) (e :: es) [] cpos)) none pos) (tRaise2 E C sp t):=by
  obtain ⟨f,fd,D,F',hb⟩:=Fx.ex
  have F:=F'.mono hj
  intro pins s σ H Dn I h
  refine raise_gen (K:=K) hr.hd ?_
  refine wpAny_Call_Name_kw (ld_glob I hg D.bound ?_ hdb)
  refine PySem.W.callWith_K (h₀:=base) I.ok.mod.kin D.keep (thn (ha cpos pins s σ H _ I h) fun us s1 ⟨vs,H1,I1,r,z,q⟩ => ⟨I1.kIn,?_⟩) he hpl
  have hq:=q (s1.heap.objs.size + 1) (I1.hok.fresh (Nat.le_succ _))
  have hx : ((s1.heap.push (argTup us)).push (excObj C s1.heap.objs.size)).get? (s1.heap.objs.size + 1) = some (excObj C s1.heap.objs.size):=by heap_get
  have I2 : Inv (cxOf (CX2 P w) P w K mg base N qual scope g cd A outer s₀ H₀ E) pins σ (upd H1 (s1.heap.objs.size + 1) (NewExc (s1.heap.objs.size + 1) C none)) { s1 with heap:=(s1.heap.push (argTup us)).push (excObj C s1.heap.objs.size) } :=
    I1.laid (t':=s1.toks) (fun b u q => Heap.get?_push_of_some _ (Heap.get?_push_of_some _ q)) (Nat.le_succ _) (newExc_ok hx rfl rfl rfl)
  have r2 : Vals (V.ref (s1.heap.objs.size + 1) :: vs) (Value.ref (s1.heap.objs.size + 1) :: us):=.cons rfl r
  have hl : (Value.ref (s1.heap.objs.size + 1) :: us ++ []).length = ps.length:=by
    have z:=r2.length
    rw [F.len _ _ _ _ hq] at z
    rw [List.append_nil]
    exact z.symm
  have hb':=hb _ (Value.ref (s1.heap.objs.size + 1) :: us) I2.kIn hl
  rw [List.append_nil] at hb'
  refine wpAny_call (exc_make I1.kIn D.cls.ex D.init D.fn (by show us.length ≤ sizeLine; rw [← r.length]; exact z) (codeAny_mono (F.run _ _ _ _ _ _ _ _ _ (hr.make C us []) (I2.env0.make C us []) hb' r2 hq) fun res s' hq' => ?_))
  cases res with
  | error e => exact hq'.elim
  | ok fl =>
    cases fl with
    | next => exact hq'.elim
    | brk => exact hq'.elim
    | cont => exact hq'.elim
    | ret u =>
      obtain ⟨v,H2,I3,rv,ev,od,e2,hE⟩:=I2.after hq'
      subst ev
      refine ⟨rv,?_⟩
      obtain ⟨⟨ws,a0,e0,hz,h0,h1⟩,_,_⟩:=(show ObjOk P w H2 s'.heap (s1.heap.objs.size + 1) (NewExc (s1.heap.objs.size + 1) C od) from I3.hok _ _ e2)
      refine ⟨s1.heap.objs.size + 1,C,od,ws,rfl,I3.kIn,e0,h1,D.cls.be,D.typ,?_⟩
      have I4:=Inv.drop I3 e2
      have new : s₀.heap.get? (s1.heap.objs.size + 1) = none:=Heap.get?_none_of_le (Nat.le_succ_of_le I1.sz)
      have hin : ∀ env ∈ (envOfC qual scope s₀.heap.objs.size g cd :: outer),∀ b,env.frame = some b → b ∈ (s1.heap.objs.size + 1) :: frs (envOfC qual scope s₀.heap.objs.size g cd :: outer):=fun env he b hb => List.mem_cons_of_mem _ (List.mem_filterMap.mpr ⟨env,he,hb⟩)
      show wpAny _ _ (leaving (envOfC qual scope s₀.heap.objs.size g cd) (.ref (s1.heap.objs.size + 1))) _ _ s'
      have main : wpAny (model P w) (A.deeper (envOfC qual scope s₀.heap.objs.size g cd)) (leaving (envOfC qual scope s₀.heap.objs.size g cd) (.ref (s1.heap.objs.size + 1))) (fun _ s'' => ∃ B,Fly P w outer H₀ (del H2 (s1.heap.objs.size + 1)) s₀ s'' (s1.heap.objs.size + 1) C B) (fun _ _ => False) s':=by
        refine wpAny_leaving_firstW (base:=PySem.W.hideAll s'.heap ((s1.heap.objs.size + 1) :: frs (envOfC qual scope s₀.heap.objs.size g cd :: outer))) (oe:=⟨.ref C,od,.fields ws,#[]⟩) I.ok.frames (PySem.W.funFrames_hide I3.stack hin) rfl e0 (fun b o q => PySem.W.of_hideAll _ q) (PySem.W.hideAll_none _ (.head _)) rfl h1 h0 fun h2 hL => ?_
        obtain ⟨x1,⟨_,_,x2⟩,x3,x4⟩:=hL
        refine ⟨_,Fly.out (a0:=.ref a0) I4 rfl rfl rfl new del_same (fun b o e1 hb n => ?_) ⟨x1,PySem.W.hideAll_none _ (.head _),x2,x3⟩ x4⟩
        refine PySem.W.hideAll_get _ e1 ?_
        simp only [List.mem_cons,not_or]
        refine ⟨fun q => ?_,n⟩
        rcases hb with hb | ⟨o',e2'⟩
        · exact hb (by rw [q,del_same])
        · rw [q] at e2'
          have e3 : s₀.heap.get? (s1.heap.objs.size + 1) = some o':=e2'
          rw [new] at e3
          cases e3
      have hd : HasD s'.heap (s1.heap.objs.size + 1) od:=⟨_,e0,rfl⟩
      refine wpAny_mono (wpAny_dsafe (ds_leaving _ _) main) (fun _ s'' ⟨⟨B,fl⟩,dk⟩ => ⟨_,C,B,_,od,rfl,fl,hd.keep dk,hE⟩) fun _ _ z => z.1.elim
end
def cxTry2 (X : Cx) (pins : List (Addr × Obj)) (Ex : Addr → Option Addr → L2.St → Hp → Prop) : Cx :=
  { X with pn:=X.pn ++ pins,xe:=fun e s' => ∃ a C od σ' H',e = .ref a ∧ Air X pins σ' H' s' a C ∧ HasD s'.heap a od ∧ Ex C od σ' H' }
section
variable {X : Cx} {pins pins' : List (Addr × Obj)} {σ : L2.St} {H H' : Hp} {s s' : Shared} {a C : Addr} {B h' : Heap} {Ex : Addr → Option Addr → L2.St → Hp → Prop}
theorem try_in2 (I : Inv X pins σ H s) : Inv (cxTry2 X pins Ex) [] σ H s :=
  ⟨⟨I.ok.mod,I.ok.kind,I.ok.glob,I.ok.blt,I.ok.above,I.ok.inj,I.ok.has,I.ok.cab,I.ok.hd,I.ok.frames,I.ok.stk,I.ok.exf,I.ok.bs,I.ok.bsz,I.ok.noex,I.ok.exfs,I.ok.funs,I.ok.frf⟩,I.os,I.bare,I.base,I.loc,I.cell,I.free,I.freeC,fun p hp => I.pin p (by have hp' : p ∈ (X.pn ++ pins) ++ []:=hp; rwa [List.append_nil] at hp'),I.hok,I.len⟩
theorem try_out2 (I : Inv (cxTry2 X pins Ex) pins' σ H s) : Inv X pins σ H s :=
  ⟨⟨I.ok.mod,I.ok.kind,I.ok.glob,I.ok.blt,I.ok.above,I.ok.inj,I.ok.has,I.ok.cab,I.ok.hd,I.ok.frames,I.ok.stk,I.ok.exf,I.ok.bs,I.ok.bsz,I.ok.noex,I.ok.exfs,I.ok.funs,I.ok.frf⟩,I.os,I.bare,I.base,I.loc,I.cell,I.free,I.freeC,fun p hp => I.pin p (List.mem_append_left _ hp),I.hok,I.len⟩
def exS2 (Ex : Addr → Option Addr → L2.St → Hp → Prop) : L2.St → XK:=fun σ c od H' => ∀ C,c = .ref C → Ex C od σ H'
theorem passS2 (b : Body X) : PassS (CX2 X.prog X.w) (cxTry2 X pins Ex) (exS2 Ex):=by
  intro pins' σ H s e s' I h
  obtain ⟨a,C,B,H',od,rfl,F,hd,q⟩:=h
  have I1 : Inv (cxTry X pins fun C' σ'' H'' => C' = C ∧ σ'' = σ ∧ H'' = H') [] σ H s:=try_in (try_out2 I)
  obtain ⟨a',C',σ',H'',ea,R,eC,eσ,eH⟩:=passT (pins':=[]) b I1 (E:=fun c _ H'' => c = .ref C ∧ H'' = H') (fun C' H'' ⟨h1,h2⟩ => ⟨by injection h1,rfl,h2⟩) ⟨a,C,B,H',rfl,F,rfl,rfl⟩
  subst eC eσ eH
  have ea' : a' = a:=by injection ea with ea; exact ea.symm
  subst ea'
  exact ⟨a',C',od,σ',H'',rfl,R,hd,q C' rfl⟩
end
def ExcAtD (a C : Addr) (od : Option Addr) : HO:=.ext fun h => ∃ ox vs,h.get? a = some ox ∧ ox.cls = .ref C ∧ ox.dict = od ∧ ox.data = .fields vs
section
variable {X : Cx} {pins pins' : List (Addr × Obj)} {σ : L2.St} {H H' : Hp} {s s' : Shared} {a C : Addr} {od : Option Addr}
theorem Air.heldD (R : Air X pins σ H s a C) (hd : HasD s.heap a od) : Inv X pins σ (upd H a (ExcAtD a C od)) s:=by
  have I:=R.inv
  have ne : ∀ b u,H b = some u → b ≠ a:=fun b u e z => by rw [z,R.nt] at e; cases e
  refine ⟨I.ok,I.os,I.bare,⟨I.base.keep,I.base.slot,fun b o e n hx => ?_,I.base.there,fun b xs e => ?_,fun b o u e => ?_,fun b ps e => ?_⟩,I.loc,I.cell,?_,fun x c e => ?_,fun p hp => ?_,fun b u e => ?_,I.len⟩
  · rw [upd_ne (fun z => by rw [z,R.new] at e; cases e)]
    exact I.base.free b o e n hx
  · have q:=I.base.tups b xs e
    rw [upd_ne (ne b _ q)]
    exact q
  · have q:=I.base.frzs b o u e
    rw [upd_ne (ne b _ q)]
    exact q
  · obtain ⟨more,q⟩:=I.base.tbls b ps e
    exact ⟨more,by rw [upd_ne (ne b _ q)]; exact q⟩
  · rw [upd_ne (Ne.symm R.nloc)]
    exact I.free
  · rw [upd_ne (fun z => R.nneed (.inr (.inr (.inl ⟨x,by rw [← z]; exact e⟩))))]
    exact I.freeC x c e
  · obtain ⟨e,n,r⟩:=I.pin p hp
    exact ⟨e,by rw [upd_ne (fun z => R.nneed (.inr (.inr (.inr ⟨p,hp,z⟩))))]; exact n,r⟩
  · by_cases hb : b = a
    · subst hb
      rw [upd_same] at e
      cases e
      obtain ⟨a0,B,fl,_⟩:=R.fly
      obtain ⟨_,_,_,oe,vs,_,_,_,he,hc,hdt,_⟩:=fl
      obtain ⟨o,e1,d1⟩:=hd
      rw [he] at e1
      cases e1
      exact ⟨⟨oe,vs,he,hc.1,d1,hdt⟩,⟨oe,he⟩,fun h1 h2 ⟨ox1,vs1,i1,r⟩ k => ⟨ox1,vs1,k _ i1,r⟩⟩
    · rw [upd_ne hb] at e
      refine (I.hok b u e).stay (fun _ _ _ q => q) (fun c q => ?_) fun c xs q => ?_
      · rw [upd_ne (ne c _ q)]
        exact q
      · rw [upd_ne (ne c _ q)]
        exact q
end
def PH2 (X : Cx) (hs : List ExceptHandler) (th : Addr → Option Addr → TS) : Prop:=∀ (pins : List (Addr × Obj)) (σ : L2.St) (H : Hp) (s : Shared) (a C : Addr) (od : Option Addr) (D : Ends),Air X pins σ H s a C → HasD s.heap a od → th C od D σ H → wpAny (model X.prog X.w) X.A (handleBy (.ref a) X.env hs) (SP X pins D) X.xe s
def tExcept2 (K : Frag) (Cb : Addr) (i : Nat) (th : TS) (rest : Addr → Option Addr → TS) : Addr → Option Addr → TS:=fun C od D σ H => ∃ b,mroIn K C (.ref Cb) = some b ∧
  if b = true then ∀ a,H a = none → th (goneD D i) (σ.set i (some (.ref a))) (upd H a (ExcAtD a C od)) else rest C od D σ H
section
variable {X : Cx} {x n : Str} {Cb : Addr} {i : Nat} {np pos : Pos} {b₀ : Stmt} {suite : List Stmt} {rest : List ExceptHandler} {th : TS} {thr : Addr → Option Addr → TS}
theorem ph_as2 (b : Body X) (hN : X.N.Nodup) (hi : X.N[i]? = some n) (hk : X.env.scope.names.lookup n = some .local) (hg : Gl X x) (hm : X.mg x = some (.ref Cb)) (hty : typeIn X.K (.ref Cb) = some (.type "type")) (hbe : mroIn X.K Cb (.type "BaseException") = some true)
    (hs : ∀ a,PSs (cxHand X a) (b₀ :: suite) th) (hr : PH2 X rest thr) (hdb : (x == ("__debug__" : Str)) = false:=by decide) : PH2 X (.ExceptHandler (some (.Name x np)) (some n) (b₀ :: suite) pos :: rest) (tExcept2 X.K Cb i th thr):=by
  intro pins σ H s a C od D R hd h
  obtain ⟨bb,hc,h⟩:=h
  obtain ⟨a0,B,fl,cov⟩:=R.fly
  refine wpAny_handleBy_cons (codeAny_handlers_test (ld_glob (X:=cxHand X a) (hand_in R.inv) hg hm (matches_in R.inv.kIn fl.there hty hbe hc ?_) hdb)) (by intro q; cases q)
  cases bb with
  | false => exact hr pins σ H s a C od D R hd h
  | true =>
    have h1:=h
    rw [if_pos rfl] at h1
    refine codeAny_handlers_suite_as ?_
    refine wpAny_mono (wpAny_dsafe (ds_flight _ _) (lands_againW (E:=fun _ _ => False) (Q:=fun _ s' => ∃ h',s' = { s with heap:=h' } ∧ Heap.FlyingW B X.stack a (.ref C) a0 h' ∧ s.heap.UpToSlots h') fl fun h' fl' up => ⟨h',rfl,fl',up⟩)) (fun _ s' ⟨⟨h',es,fl',up⟩,dk⟩ => ?_) fun _ _ z => z.1.elim
    subst es
    have R':=Air.on R b cov fl' up
    refine store_ok (Air.heldD R' (hd.keep dk)) hN hi (.inl hk) (show RelV (.ref a) (.ref a) from rfl) (fun s2 I2 => ?_) (.inr hk)
    refine wpAny_mono (hs a pins s2 _ _ (goneD D i) (hand_in I2) (h1 a R.nt)) (fun f s3 q => ?_) fun _ _ z => False.elim z
    have q':=SP.hand R.inv.ok.hd q
    show wpAny _ X.A (do bindName X.env n .none; unbindBehindTheSuite X.env n pos) (fun _ s4 => SP X pins D f s4) X.xe s3
    cases f with
    | next => obtain ⟨σ',H',I3,q3⟩:=q'; exact gone_ok I3 hN hi hk fun s4 I4 => ⟨_,H',I4,q3⟩
    | brk => obtain ⟨σ',H',I3,q3⟩:=q'; exact gone_ok I3 hN hi hk fun s4 I4 => ⟨_,H',I4,q3⟩
    | cont => obtain ⟨σ',H',I3,q3⟩:=q'; exact gone_ok I3 hN hi hk fun s4 I4 => ⟨_,H',I4,q3⟩
    | ret u => obtain ⟨v,σ',H',I3,r3,q3⟩:=q'; exact gone_ok I3 hN hi hk fun s4 I4 => ⟨v,_,H',I4,r3,q3⟩
theorem ph_nil2 : PH2 X [] (fun _ _ _ _ _ => False):=fun _ _ _ _ _ _ _ _ _ _ h => h.elim
def tTry2 (tb : (Addr → Option Addr → L2.St → Hp → Prop) → TS) (th : Addr → Option Addr → TS) : TS:=fun D σ H => ∃ Ex,tb Ex D σ H ∧ ∀ C od σ' H',Ex C od σ' H' → th C od D σ' H'
theorem ps_try2 {body : List Stmt} {h₀ : ExceptHandler} {hs : List ExceptHandler} {tb : (Addr → Option Addr → L2.St → Hp → Prop) → TS} {th : Addr → Option Addr → TS} (b : Body X) (hb : ∀ pins Ex,PSs (cxTry2 X pins Ex) body (tb Ex)) (hh : PH2 X (h₀ :: hs) th) : PS X (.Try body (h₀ :: hs) [] [] pos) (tTry2 tb th):=by
  intro pins s σ H D I h
  obtain ⟨Ex,h1,h2⟩:=h
  refine wpAny_Try_except (wpAny_mono (hb pins Ex [] s σ H D (try_in2 I) h1) (fun f s1 q => ?_) fun e s1 q => ?_)
  · cases f with
    | next => obtain ⟨σ',H',J,q⟩:=q; exact wpAny_execs_nil ⟨σ',H',try_out2 J,q⟩
    | brk => obtain ⟨σ',H',J,q⟩:=q; exact ⟨σ',H',try_out2 J,q⟩
    | cont => obtain ⟨σ',H',J,q⟩:=q; exact ⟨σ',H',try_out2 J,q⟩
    | ret u => obtain ⟨v,σ',H',J,r,q⟩:=q; exact ⟨v,σ',H',try_out2 J,r,q⟩
  · obtain ⟨a,C,od,σ',H',rfl,R,hd,q⟩:=q
    obtain ⟨a0,B,fl,cov⟩:=R.fly
    have fl0:=fl
    rw [b.st] at fl0
    refine wpAny_mono (wpAny_dsafe (ds_note _ _) (wpAny_looks_onW (E:=fun _ _ => False) (Q:=fun _ s4 => ∃ h4,s4 = { s1 with heap:=h4 } ∧ Heap.HeldW B (X.env :: X.outer) a (.ref C) a0 X.env.locals h4 ∧ s1.heap.UpToSlots h4) (by rw [R.inv.ok.frames,b.st]) b.fr fl0 fun h4 hh4 up4 => ⟨h4,rfl,hh4,up4⟩)) (fun _ s4 ⟨⟨h4,es4,hh4,up4⟩,dk4⟩ => ?_) fun _ _ z => z.1.elim
    subst es4
    refine wpAny_mono (wpAny_dsafe (ds_flight _ _) (wpAny_landsW (E:=fun _ _ => False) (Q:=fun _ s5 => ∃ h5,s5 = { s1 with heap:=h5 } ∧ Heap.FlyingW B (X.env :: X.outer) a (.ref C) a0 h5 ∧ h4.UpToSlots h5) hh4 fun h5 fl5 up5 => ⟨h5,rfl,fl5,up5⟩)) (fun _ s5 ⟨⟨h5,es5,fl5,up5⟩,dk5⟩ => ?_) fun _ _ z => z.1.elim
    subst es5
    rw [← b.st] at fl5
    have R5:=Air.on R b cov fl5 (up4.trans up5)
    exact hh pins σ' H' { s1 with heap:=h5 } a C od D R5 ((hd.keep dk4).keep dk5) (h2 C od σ' H' q)
end
def tFldX (K : Frag) (ta : TE) (f : Str) : TE:=fun σ H Q => ta σ H fun x H1 => ∃ a C dx fs v,x = .ref a ∧ H1 a = some (ExcAtD a C (some dx)) ∧ H1 dx = some (ExcDict dx fs) ∧ ExcG K C ∧ hasDictIn K C = true ∧ findIn K (.ref C) f = some none ∧ fs.lookup f = some v ∧ Q v H1
theorem pe_fldX {X : Cx} {e : Expr} {f : Str} {pos : Pos} {ta : TE} {K : Frag} (he : PE X e ta) (hb : attributeBase e f X.env (eval e X.env) = eval e X.env) (hK : X.K = K:=by rfl) : PE X (.Attribute e f pos) (tFldX K ta f):=by
  subst hK
  intro pins s σ H Q I h
  refine attr_of hb (thn (he pins s σ H _ I h) fun u s1 ⟨x,H1,I1,rx,a,C,dx,fs,v,ex,ea,ed,G,hh,hn,l,q⟩ => ?_)
  subst ex
  obtain rfl : u = Value.ref a:=rx
  obtain ⟨⟨ox,vs,e0,c0,d0,t0⟩,_,_⟩:=(show ObjOk X.prog X.w H1 s1.heap a (ExcAtD a C (some dx)) from I1.hok a _ ea)
  obtain ⟨⟨mA,hm,r,wi⟩,_,_⟩:=(show ObjOk X.prog X.w H1 s1.heap dx (ExcDict dx fs) from I1.hok dx _ ed)
  obtain ⟨u,hu,ru⟩:=RelO.some_of (v:=v) (o:=mA f) (by rw [← l]; exact r f)
  obtain ⟨oc,od,odt,osl⟩:=ox
  have c0' : oc = .ref C:=c0
  have d0' : od = some dx:=d0
  have t0' : odt = .fields vs:=t0
  subst c0' d0' t0'
  exact exc_get I1.kIn e0 G hn hh hm hu (handed_of ru) ⟨v,H1,I1.tok _,ru,q⟩
end L3

namespace L3
open PySem PySem.Spec PyProof.Rows L2
section
variable {P : Program} {w : World} {K : PySem.W.Frag} {mg : Str → Option Value} {base : Heap} {CX : CXT} {C : Addr} {x m qual : Str} {st : Stmt} {N ps : List Str} {k : Nat} {sp : Sp}
theorem Fun.okC {f : Addr} {fd : FuncData} (F : Fun K x qual st f fd) (S : FnScope N ps (defScope st)) (len : ∀ vs H Q E,sp vs H Q E → vs.length = ps.length)
    (hbody : ∀ (cdv : Value) (A : Around) (outer : List Env) (s : Shared) (H : Hp) (vs : List V) (Q : VK) (E : XK),Room k (A.deeper (envOfC qual (defScope st) s.heap.objs.size f cdv)) → sp vs H Q E →
      ∃ t,PSs (cxOf CX P w K mg base N qual (defScope st) f cdv A outer s H E) (defBody st) t ∧ t { nx:=fun _ H' => Q .non H',rt:=Q } (start N vs) H) : FnOk P w K mg base CX (k + 1) f fd ps sp:=by
  obtain ⟨oc,od,kV,doc,pm,an,cdv,ct,osl,rfl,lk,hcd⟩:=F.ex
  exact fn_of lk hcd S len fun A outer s H vs Q E hr hsp => hbody cdv A outer s H vs Q E hr hsp
theorem MDef.fuC (D : MDef K C m qual st ps) (S : FnScope N ps (defScope st)) (len : ∀ vs H Q E,sp vs H Q E → vs.length = ps.length)
    (hbody : ∀ (f : Addr) (cdv : Value) (A : Around) (outer : List Env) (s : Shared) (H : Hp) (vs : List V) (Q : VK) (E : XK),Room k (A.deeper (envOfC qual (defScope st) s.heap.objs.size f cdv)) → sp vs H Q E →
      ∃ t,PSs (cxOf CX P w K mg base N qual (defScope st) f cdv A outer s H E) (defBody st) t ∧ t { nx:=fun _ H' => Q .non H',rt:=Q } (start N vs) H) : FuM P w K mg base CX (k + 1) C m ps sp:=by
  obtain ⟨f,fd,F,hm,hb⟩:=D.ex
  exact ⟨f,fd,Fun.okC F S len fun cdv A outer s H vs Q E hr h => hbody f cdv A outer s H vs Q E hr h,hm,hb⟩
theorem Def.fuC (D : Def K mg x st ps) (S : FnScope N ps (defScope st)) (len : ∀ vs H Q E,sp vs H Q E → vs.length = ps.length)
    (hbody : ∀ (f : Addr) (cdv : Value) (A : Around) (outer : List Env) (s : Shared) (H : Hp) (vs : List V) (Q : VK) (E : XK),Room k (A.deeper (envOfC x (defScope st) s.heap.objs.size f cdv)) → sp vs H Q E →
      ∃ t,PSs (cxOf CX P w K mg base N x (defScope st) f cdv A outer s H E) (defBody st) t ∧ t { nx:=fun _ H' => Q .non H',rt:=Q } (start N vs) H) : Fu P w K mg base CX (k + 1) x ps sp:=by
  obtain ⟨f,fd,F,hm,hb⟩:=D.ex
  exact ⟨f,fd,Fun.okC F S len fun cdv A outer s H vs Q E hr h => hbody f cdv A outer s H vs Q E hr h,hm,F.kp,hb⟩
end
section
variable {X : Cx} {CX : CXT} {j k : Nat} {C : Addr} {ps : List Str} {sp : Sp} {E : L2.St → XK} {m : Str} {pos apos : Pos} {e o : Expr} {es : List Expr} {ta : TE} {t : TA}
theorem pmS {pl : Sem Bool} (F : FuM X.prog X.w X.K X.mg X.base CX j C m ps sp) (c : Cls X.K C) (hr : Room k X.A) (hx : PassS CX X E) (he : PE X o ta) (ha : PA X (e :: es) t) (hj : j ≤ k:=by decide)
    (hst : starEach (e :: es) X.env = (false,eval e X.env) :: starEach es X.env:=by rfl) (hpl : (backTo pos (starEach es X.env)).any (·.1) = false:=by rfl)
    (ht : eval (.Call (.Attribute o m apos) (e :: es) [] pos) X.env = (do
      let ov ← eval o X.env
      standAt apos.atName
      let (f,first) ← holding [ov] (getMethod ov m pl)
      callWith pos f first (backTo pos (starEach (e :: es) X.env)) (backToKw pos (keywordEach [] X.env))):=by rfl) : PE X (.Call (.Attribute o m apos) (e :: es) [] pos) (tMethS C m sp E ta t):=by
  obtain ⟨f,fd,G,hm,hb⟩:=F.ex
  exact methS he c hm (G.mono hj) hr hb hx ha hst hpl ht
end
end L3

namespace L3
open PySem PySem.Spec PyProof.Rows L2 PySem.W
section
variable {X : Cx}
def rIsiD (K : Frag) : List V → Hp → VK → Prop:=fun xs H Q => ∃ (a C : Addr) (od : Option Addr) (c : V) (u : Value) (b : Bool),xs = [.ref a,c] ∧ H a = some (ExcAtD a C od) ∧ ExcG K C ∧ (∀ v,RelV c v → v = u) ∧ kitOne K (.ref C) u = some b ∧ Q (.bl b) H
theorem call_isiD : CallR X (.builtin "isinstance") (rIsiD X.K):=by
  intro pins s σ H xs us Q I r h
  obtain ⟨a,C,od,c,u,b,rfl,ha,G,hu,e,q⟩:=h
  obtain ⟨u1,u2,rfl,r1,r2⟩:=vals2 r
  cases (show u1 = Value.ref a from r1)
  cases hu u2 r2
  obtain ⟨⟨ox,vs,i0,i1,_⟩,_,_⟩:=(show ObjOk X.prog X.w H s.heap a (ExcAtD a C od) from I.hok a _ ha)
  exact kia_one (kitx_exc G) I.kIn ⟨ox,i0,i1⟩ e (fun z => nomatch z) fun tk => ⟨.bl b,H,I.tok _,rfl,q⟩
end
section
variable {X : Cx} {p pos q : Pos} {T : Str} {e : Expr} {te : TE}
theorem p_isiGD {c : Addr} {K : PySem.W.Frag} (hm : X.mg "isinstance" = none) (hmT : X.mg T = some (.ref c)) (he : PE X e te) (hg : Gl X "isinstance" := by rfl) (hgT : Gl X T:=by rfl) (hdb : (T == ("__debug__" : Str)) = false:=by decide)
    (hst : starEach [e,.Name T q] X.env = (false,eval e X.env) :: starEach [.Name T q] X.env:=by rfl) (hst2 : starEach [.Name T q] X.env = (false,eval (.Name T q) X.env) :: starEach [] X.env:=by rfl) (hK : X.K = K:=by rfl) :
    PE X (.Call (.Name "isinstance" p) [e,.Name T q] [] pos) (tCB (rIsiD K) (tCons te (tCons (tC (.ref c)) tNil))) :=
  hK ▸ pe_callB call_isiD hg hm boot_isinstance (pa_cons he (pa_cons (pe_glob (v:=.ref c) hgT hmT rfl hdb) pa_nil hst2) hst) (he:=hst) (hpl:=by rw [hst2]; rfl)
theorem p_isiBD {m : String} {K : PySem.W.Frag} (hm : X.mg "isinstance" = none) (hmT : X.mg T = none) (hv : bootBuiltins T = some (.type m)) (he : PE X e te) (hg : Gl X "isinstance" := by rfl) (hgT : Gl X T:=by rfl) (hn : T ≠ "__name__" := by decide) (hdb : (T == ("__debug__" : Str)) = false:=by decide)
    (hst : starEach [e,.Name T q] X.env = (false,eval e X.env) :: starEach [.Name T q] X.env:=by rfl) (hst2 : starEach [.Name T q] X.env = (false,eval (.Name T q) X.env) :: starEach [] X.env:=by rfl) (hK : X.K = K:=by rfl) :
    PE X (.Call (.Name "isinstance" p) [e,.Name T q] [] pos) (tCB (rIsiD K) (tCons te (tCons (tC (.ty m)) tNil))) :=
  hK ▸ pe_callB call_isiD hg hm boot_isinstance (pa_cons he (pa_cons (pe_bltn (v:=.ty m) hgT hmT hv rfl hn hdb) pa_nil hst2) hst) (he:=hst) (hpl:=by rw [hst2]; rfl)
end
end L3
namespace L3
open PySem PySem.Spec PyProof.Rows L2 PySem.W
end L3

namespace K05
open PySem L2 L3
theorem rk_a (z : Int) : 0 ≤ z % 4 ∧ z % 4 < M60:=by have:=M60_pos; omega
theorem rk_b (z : Int) : 0 ≤ z % 10 ^ (60 : Int).toNat ∧ z % 10 ^ (60 : Int).toNat < M60:=⟨Int.emod_nonneg _ (by decide),Int.emod_lt_of_pos _ (by decide)⟩
theorem rk_c (z : Int) : 0 ≤ 10 ^ (60 : Int).toNat - 1 - z % 3 ∧ 10 ^ (60 : Int).toNat - 1 - z % 3 < M60:=by
  have h:=M60_pos
  have e : (10 : Int) ^ (60 : Int).toNat = M60:=rfl
  rw [e]
  omega
theorem M57 : 60 * (10 : Int) ^ (57 : Int).toNat + 1 < M60 ∧ 0 < (10 : Int) ^ (57 : Int).toNat:=by decide +kernel
theorem rk_d {q : Int} (h0 : 0 ≤ q) (h1 : q ≤ 60) (z : Int) : 0 ≤ q * 10 ^ (57 : Int).toNat + z % 2 ∧ q * 10 ^ (57 : Int).toNat + z % 2 < M60:=by
  obtain ⟨h,h2⟩:=M57
  generalize (10 : Int) ^ (57 : Int).toNat = t at h h2 ⊢
  have a1 : 0 ≤ q * t:=Int.mul_nonneg h0 (by omega)
  have a2 : q * t ≤ 60 * t:=Int.mul_le_mul_of_nonneg_right h1 (by omega)
  omega
section
variable {P : Program} {w : World} {K : PySem.W.Frag} {mg : Str → Option Value} {base : Heap} {C P5 : Addr}
def spCell (K : PySem.W.Frag) : Sp:=fun vs H Q _ => ∃ (a : Addr) (ns : List Int) (k : Int),vs = [.ref a,.int k] ∧ LI K H a ns ∧ 0 ≤ k ∧ ∀ c,Q (.int c) H
theorem scCell : FnScope ["_law_script", "_law_k"] ["_law_script", "_law_k"] (defScope (top 32)):=⟨rfl,rfl,rfl,by decide +kernel,rfl,by decide +kernel,by decide +kernel⟩
theorem f_cell (D : Def K mg "_law_cell_at" (top 32) ["_law_script", "_law_k"]) (T : Txt K mg) : Fu P w K mg base CX0 1 "_law_cell_at" ["_law_script", "_law_k"] (spCell K):=by
  refine D.fu scCell (fun vs H Q E h => ?_) (fun f cdv A outer s H vs Q E hr h => ?_)
  · obtain ⟨a,ns,k,rfl,_⟩:=h
    rfl
  · obtain ⟨a,ns,j,rfl,hq,h0,k⟩:=h
    refine ⟨_,pss_cons (ps_if (pt_cmpR op_lt (pv 1) (p_len T.len (pv 0)) (nomark _)) (pss_one (ps_ret (pe_ix ix_list (pv 0) (pv 1) (fun _ _ => rfl)))) pss_nil) (pss_one (ps_ret pe_int)),?_⟩
    refine ⟨_,rfl,_,rfl,a,_,rfl,.inl hq,_,_,rfl,rfl,_,rfl,ite2 (fun hlt => ?_) (fun _ => ?_)⟩
    · have hlt:=of_decide_eq_true hlt
      rw [List.length_map] at hlt
      exact ⟨_,rfl,_,rfl,a,_,_,_,rfl,rfl,hq,atI_int h0 hlt,k _⟩
    · exact k 0
def spRanks : Sp:=fun vs H Q _ => ∃ (c m : Int),vs = [.int c,.int m] ∧ 0 ≤ m ∧ m ≤ 60 ∧ ∀ (D : Addr) (H' : Hp) (rk : List Int),Same H H' → H D = none → H' D = some (.lst (rk.map V.int)) → (rk.length : Int) = m → (∀ y ∈ rk,0 ≤ y ∧ y < M60) → Q (.ref D) H'
theorem scRk : FnScope ["_law_cell", "_law_many", "_law_ranks_here", "_law_k", "_law_number"] ["_law_cell", "_law_many"] (defScope (top 35)):=⟨rfl,rfl,rfl,by decide +kernel,rfl,by decide +kernel,by decide +kernel⟩
theorem f_ranks (D : Def K mg "_law_ranks" (top 35) ["_law_cell", "_law_many"]) (T : Txt K mg) : Fu P w K mg base CX0 1 "_law_ranks" ["_law_cell", "_law_many"] spRanks:=by
  refine D.fu scRk (fun vs H Q E h => ?_) (fun f cdv A outer s H vs Q E hr h => ?_)
  · obtain ⟨c,m,rfl,_⟩:=h
    rfl
  · obtain ⟨c,m,rfl,hm0,hm1,kk⟩:=h
    refine ⟨_,pss_cons (ps_set (i:=2) scRk.nd rfl (Or.inl rfl) (pe_lst pa_nil))
      (pss_cons (ps_for PassesOwn.never rfl (pi_range1 rfl T.range (pa_cons (pv 1) pa_nil)) (pg_name (i:=3) scRk.nd rfl (Or.inl rfl))
        (pss_cons (ps_set (i:=4) scRk.nd rfl (Or.inl rfl) (pe_op op_mod (pe_op op_mul (pe_op op_add (pe_op op_add (pe_op op_add (pe_op op_mod (pe_op op_fdiv (pv 0) pe_int) pe_int) (pe_op op_mul (pe_op op_mul pe_int (pv 3)) (pv 3))) (pv 3)) pe_int) pe_int) pe_int))
        (pss_cons (ps_set (i:=4) scRk.nd rfl (Or.inl rfl) (pe_op op_mod (pe_op op_mul (pv 4) (pv 4)) pe_int))
        (pss_one (ps_if (pt_cmpR op_eq (pe_op op_mod (pv 0) pe_int) pe_int (nomark _))
          (pss_one (ps_expr (pe_bm PySem.F.plainAttrs_list PySem.F.slot_list_append PySem.F.type_list_append mt_append (pv 2) (pa_cons (pe_op op_mod (pv 4) pe_int) pa_nil))))
          (pss_one (ps_if (pt_cmpR op_eq (pe_op op_mod (pv 0) pe_int) pe_int (nomark _))
            (pss_one (ps_expr (pe_bm PySem.F.plainAttrs_list PySem.F.slot_list_append PySem.F.type_list_append mt_append (pv 2) (pa_cons (pe_op op_mod (pe_op op_pow (pv 4) pe_int) (pe_op op_pow pe_int pe_int)) pa_nil))))
            (pss_one (ps_if (pt_cmpR op_eq (pe_op op_mod (pv 0) pe_int) pe_int (nomark _))
              (pss_one (ps_expr (pe_bm PySem.F.plainAttrs_list PySem.F.slot_list_append PySem.F.type_list_append mt_append (pv 2) (pa_cons (pe_op op_sub (pe_op op_sub (pe_op op_pow pe_int pe_int) pe_int) (pe_op op_mod (pv 4) pe_int)) pa_nil))))
              (pss_one (ps_expr (pe_bm PySem.F.plainAttrs_list PySem.F.slot_list_append PySem.F.type_list_append mt_append (pv 2) (pa_cons (pe_op op_add (pe_op op_mul (pe_op op_sub (pv 1) (pv 3)) (pe_op op_pow pe_int pe_int)) (pe_op op_mod (pv 4) pe_int)) pa_nil)))))))))))))
      (pss_one (ps_ret (pv 2)))),?_⟩
    refine ⟨(by show 0 ≤ sizeLine; decide),fun d hd => ?_⟩
    refine ⟨_,rfl,_,rfl,by omega,by omega,?_⟩
    refine for_range (n:=m.toNat) (fun i σ H' => ∃ (rk : List Int) (v3 v4 : Option V),σ = [some (.int c),some (.int m),some (.ref d),v3,v4] ∧ Same H H' ∧ H' d = some (.lst (rk.map V.int)) ∧ rk.length = i ∧ ∀ y ∈ rk,0 ≤ y ∧ y < M60)
      ⟨[],none,none,rfl,Same.new hd,upd_same,rfl,by simp⟩ ?_ ?_
    · rintro i σ H' hi ⟨rk,v3,v4,rfl,sm,hD,hlen,hall⟩
      refine ⟨_,rfl,_,_,rfl,rfl,⟨by decide,by decide⟩,_,_,rfl,rfl,(by show (0 : Int) < 1000003; decide),_,rfl,_,_,rfl,rfl,.inl (by constructor <;> decide),_,rfl,_,_,rfl,rfl,.inl ?_,_,_,rfl,rfl,_,rfl,_,_,rfl,rfl,_,_,rfl,rfl,_,_,rfl,rfl,.inr (by constructor <;> decide),_,_,rfl,rfl,(by show (0 : Int) < 2147483629; decide),?_⟩
      · constructor <;> omega
      refine ⟨_,rfl,_,rfl,_,_,rfl,rfl,.inl (by constructor <;> omega),_,_,rfl,rfl,(by show (0 : Int) < 2147483587; decide),?_⟩
      have hz : (rk.map V.int).length < sizeLine:=by rw [List.length_map,sizeLine_eq]; omega
      have fin2 : ∀ (x : Int) (v3' v4' : Option V),(0 ≤ x ∧ x < M60) → ∃ (rk2 : List Int) (v3 v4 : Option V),[some (V.int c),some (.int m),some (.ref d),v3',v4'] = [some (V.int c),some (.int m),some (.ref d),v3,v4] ∧ Same H (upd H' d (.lst (rk.map V.int ++ [.int x]))) ∧ upd H' d (.lst (rk.map V.int ++ [.int x])) d = some (.lst (rk2.map V.int)) ∧ rk2.length = i + 1 ∧ ∀ y ∈ rk2,0 ≤ y ∧ y < M60:=by
        intro x v3' v4' hx
        exact ⟨rk ++ [x],v3',v4',rfl,fun b o e => by rw [upd_ne (ne_of_none e hd)]; exact sm b o e,upd_same.trans (by simp),by simp [hlen],fun y hy => by
          rcases List.mem_append.mp hy with q | q
          · exact hall y q
          · rw [List.mem_singleton.mp q]; exact hx⟩
      refine ⟨_,rfl,_,_,rfl,rfl,(by show (0 : Int) < 4; decide),rfl,_,rfl,ite2 (fun _ => ?_) (fun _ => ?_)⟩
      · exact ⟨_,rfl,.inl ⟨rfl,_,SqL.of hD⟩,_,rfl,_,_,rfl,rfl,(by show (0 : Int) < 4; decide),d,_,_,rfl,rfl,hD,hz,fin2 _ _ _ (rk_a _)⟩
      refine ⟨_,rfl,_,_,rfl,rfl,(by show (0 : Int) < 4; decide),rfl,_,rfl,ite2 (fun _ => ?_) (fun _ => ?_)⟩
      · exact ⟨_,rfl,.inl ⟨rfl,_,SqL.of hD⟩,_,rfl,_,_,rfl,rfl,⟨by decide,by decide,by omega⟩,_,_,rfl,rfl,cpow _ _ (by decide +kernel),_,_,rfl,rfl,(by show (0 : Int) < 10 ^ (60 : Int).toNat; decide),d,_,_,rfl,rfl,hD,hz,fin2 _ _ _ (rk_b _)⟩
      refine ⟨_,rfl,_,_,rfl,rfl,(by show (0 : Int) < 4; decide),rfl,_,rfl,ite2 (fun _ => ?_) (fun _ => ?_)⟩
      · exact ⟨_,rfl,.inl ⟨rfl,_,SqL.of hD⟩,_,_,rfl,rfl,cpow _ _ (by decide +kernel),_,_,rfl,rfl,_,rfl,_,_,rfl,rfl,(by show (0 : Int) < 3; decide),_,_,rfl,rfl,d,_,_,rfl,rfl,hD,hz,fin2 _ _ _ (rk_c _)⟩
      · exact ⟨_,rfl,.inl ⟨rfl,_,SqL.of hD⟩,_,rfl,_,rfl,_,_,rfl,rfl,_,_,rfl,rfl,cpow _ _ (by decide +kernel),_,_,rfl,rfl,.inl (by constructor <;> omega),_,rfl,_,_,rfl,rfl,(by show (0 : Int) < 2; decide),_,_,rfl,rfl,d,_,_,rfl,rfl,hD,hz,fin2 _ _ _ (rk_d (by omega) (by omega) _)⟩
    · rintro σ H' ⟨rk,v3,v4,rfl,sm,hD,hlen,hall⟩
      exact ⟨_,rfl,kk d H' rk sm hd hD (by omega) hall⟩
def spDrawn : Sp:=fun vs H Q _ => ∃ (c m : Int),vs = [.int c,.int m] ∧ 1 ≤ m ∧ ∀ r,0 ≤ r → r < m → Q (.int r) H
theorem scDrawn : FnScope ["_law_cell", "_law_many", "_law_number"] ["_law_cell", "_law_many"] (defScope (top 34)):=⟨rfl,rfl,rfl,by decide +kernel,rfl,by decide +kernel,by decide +kernel⟩
theorem f_drawn (D : Def K mg "_law_drawn" (top 34) ["_law_cell", "_law_many"]) : Fu P w K mg base CX0 1 "_law_drawn" ["_law_cell", "_law_many"] spDrawn:=by
  refine D.fu scDrawn (fun vs H Q E h => ?_) (fun f cdv A outer s H vs Q E hr h => ?_)
  · obtain ⟨c,m,rfl,_⟩:=h
    rfl
  · obtain ⟨c,m,rfl,hm,kk⟩:=h
    refine ⟨_,pss_cons (ps_set (i:=2) scDrawn.nd rfl (Or.inl rfl) (pe_op op_mod (pe_op op_mul (pe_op op_add (pe_op op_mod (pv 0) pe_int) pe_int) pe_int) pe_int))
      (pss_one (ps_ret (pe_op op_mod (pe_op op_mod (pe_op op_mul (pv 2) (pv 2)) pe_int) (pv 1)))),?_⟩
    refine ⟨_,rfl,_,_,rfl,rfl,(by show (0 : Int) < 1000003; decide),_,_,rfl,rfl,_,_,rfl,rfl,.inr (by constructor <;> decide),_,_,rfl,rfl,(by show (0 : Int) < 2147483629; decide),?_⟩
    refine ⟨_,rfl,_,rfl,_,_,rfl,rfl,.inl (by constructor <;> omega),_,_,rfl,rfl,(by show (0 : Int) < 2147483587; decide),_,rfl,_,_,rfl,rfl,(by show (0 : Int) < m; omega),?_⟩
    exact kk _ (Int.emod_nonneg _ (by omega)) (Int.emod_lt_of_pos _ (by omega))
def spLTop (K : PySem.W.Frag) : Sp:=fun vs H Q _ => ∃ (a : Addr) (pl : List Int),vs = [.ref a] ∧ H a = some (.lst (pl.map V.int)) ∧ ∀ H',Same H H' → Q (lastV pl) H'
theorem scLTop : FnScope ["_law_pile"] ["_law_pile"] (defScope (top 37)):=⟨rfl,rfl,rfl,by decide +kernel,rfl,by decide +kernel,by decide +kernel⟩
theorem f_ltop (D : Def K mg "_law_top" (top 37) ["_law_pile"]) : Fu P w K mg base CX0 1 "_law_top" ["_law_pile"] (spLTop K):=by
  refine D.fu scLTop (fun vs H Q E h => ?_) (fun f cdv A outer s H vs Q E hr h => ?_)
  · obtain ⟨a,pl,rfl,_⟩:=h
    rfl
  · obtain ⟨a,pl,rfl,hq,kk⟩:=h
    refine ⟨_,pss_cons (ps_if (pt_cmpR (op_eqI hr.units) (pv 0) (pe_lst pa_nil) (nomark _)) (pss_one (ps_ret pe_non)) pss_nil) (pss_one (ps_ret (pe_ix ix_list (pv 0) (pe_un un_neg pe_int) (fun _ _ => rfl)))),?_⟩
    refine ⟨_,rfl,(by show 0 ≤ sizeLine; decide),fun e ne => ⟨a,e,pl,[],rfl,rfl,(Same.new ne).seq (SqL.of hq),SqL.new (xs:=([] : List Int).map V.int),_,rfl,?_⟩⟩
    have q:=kk _ (Same.new (o:=.lst []) ne)
    unfold lastV at q
    cases el : pl.getLast? with
    | none =>
      have e' : pl = []:=List.getLast?_eq_none_iff.mp el
      rw [el] at q
      exact iteTe (decide_eq_true e') q
    | some x =>
      have hne : pl ≠ []:=by intro z; rw [z] at el; cases el
      rw [el] at q
      exact iteFe (decide_eq_false hne) ⟨_,rfl,_,rfl,a,_,_,_,rfl,rfl,(Same.new ne).seq (SqL.of hq),last_atI el,q⟩
def ScalV (v : V) : Prop:=v = .non ∨ ∃ z : Int,v = .int z
def spSame : Sp:=fun vs H Q _ => ∃ v : V,vs = [v,v] ∧ ScalV v ∧ Q (.bl true) H
theorem scSame : FnScope ["_law_found", "_law_due"] ["_law_found", "_law_due"] (defScope (top 36)):=⟨rfl,rfl,rfl,by decide +kernel,rfl,by decide +kernel,by decide +kernel⟩
theorem f_same (D : Def K mg "_law_same" (top 36) ["_law_found", "_law_due"]) (GW : Fu P w K mg base CX0 1 "_law_whole" ["_law_found"] (spWhole K)) : Fu P w K mg base CX0 2 "_law_same" ["_law_found", "_law_due"] spSame:=by
  refine D.fu scSame (fun vs H Q E h => ?_) (fun f cdv A outer s H vs Q E hr h => ?_)
  · obtain ⟨v,rfl,_⟩:=h
    rfl
  · obtain ⟨v,rfl,hv,kk⟩:=h
    refine ⟨_,pss_cons (ps_if (pt_cmp (pc_isN (pv 1))) (pss_one (ps_ret (pe_cmp (pc_isN (pv 0))))) pss_nil) (pss_one (ps_ret (pe_and (pc GW hr pass0 (pa_cons (pv 0) pa_nil)) (pe_one (pe_cmpR op_eq (pv 0) (pv 1) (nomark _)))))),?_⟩
    rcases hv with rfl | ⟨z,rfl⟩
    · exact ⟨_,rfl,_,rfl,iteT ⟨_,rfl,kk⟩⟩
    · refine ⟨_,rfl,_,rfl,iteF ⟨_,rfl,_,true,rfl,whole_int z,true,rfl,iteT ⟨_,rfl,_,rfl,rfl,?_⟩⟩⟩
      rw [decide_eq_true (rfl : V.int z = V.int z)]
      exact kk
theorem first_one {rk L : List Int} {v u : V} (a : First rk L v) (b : First rk L u) : v = u:=by
  cases v with
  | non =>
    have e : L = []:=a
    subst e
    cases u with
    | non => rfl
    | int i => exact absurd b.1 (by simp)
    | _ => exact b.elim
  | int i =>
    cases u with
    | non =>
      have e : L = []:=b
      subst e
      exact absurd a.1 (by simp)
    | int j =>
      by_cases h : i = j
      · rw [h]
      · have h1:=a.2 j b.1 (Ne.symm h)
        have h2:=b.2 i a.1 h
        have:=lt_tr h1 h2
        rw [lt_irr] at this
        cases this
    | _ => exact b.elim
  | _ => exact a.elim
theorem first_add {rk L : List Int} {v : V} {i : Int} (a : First rk L v) (hl : ∀ l ∈ L,l < i) (hc : v = .non ∨ ∃ m,v = .int m ∧ rkAt rk i < rkAt rk m) : First rk (L ++ [i]) (.int i):=by
  refine ⟨by simp,fun l hm hne => ?_⟩
  rcases List.mem_append.mp hm with q | q
  · rcases hc with rfl | ⟨m,rfl,hlt⟩
    · have e : L = []:=a
      rw [e] at q
      cases q
    · rw [lt_iff]
      by_cases e : l = m
      · subst e; exact .inl hlt
      · have:=(lt_iff rk m l).mp (a.2 l q e)
        omega
  · exact absurd (List.mem_singleton.mp q) hne
theorem first_keep {rk L : List Int} {m i : Int} (a : First rk L (.int m)) (hl : ∀ l ∈ L,l < i) (hc : ¬ rkAt rk i < rkAt rk m) : First rk (L ++ [i]) (.int m):=by
  refine ⟨by simp [a.1],fun l hm hne => ?_⟩
  rcases List.mem_append.mp hm with q | q
  · exact a.2 l q hne
  · rw [List.mem_singleton.mp q,lt_iff]
    have:=hl m a.1
    omega
theorem first_scal {rk L : List Int} {v : V} (a : First rk L v) : ScalV v:=by
  cases v with
  | non => exact .inl rfl
  | int i => exact .inr ⟨i,rfl⟩
  | _ => exact a.elim
theorem kit_bool : PySem.W.kitOne K (.type "bool") (.type "bool") = some true:=by unfold PySem.W.kitOne; rw [if_pos (by simp)]
theorem barv_scal {v : V} (h : BarV v) : v = .non ∨ ∃ z,v = .int z:=by
  rcases h with h | ⟨z,h,_⟩
  · exact .inl h
  · exact .inr ⟨z,h⟩
theorem lastV_scal (pl : List Int) : ScalV (lastV pl):=by
  unfold lastV
  cases pl.getLast? with
  | none => exact .inl rfl
  | some x => exact .inr ⟨x,rfl⟩
end
end K05

namespace K05
open PySem L2 L3
section
variable {P : Program} {w : World} {K : PySem.W.Frag} {mg : Str → Option Value} {base : Heap} {C P5 CN CB CT : Addr}
def Odd (K : PySem.W.Frag) (H : Hp) (n : Nat) (v : V) : Prop:=(∃ i : Int,v = .int i ∧ ¬ (0 ≤ i ∧ i < n)) ∨ WholeV K H v false
def BadBar (K : PySem.W.Frag) (H : Hp) (v : V) : Prop:=(∃ i : Int,v = .int i ∧ ¬ (0 ≤ i ∧ i ≤ M60)) ∨ (WholeV K H v false ∧ v ≠ .non)
def spOdd (K : PySem.W.Frag) (C CN : Addr) : Sp:=fun vs H Q E => ∃ (x r a m p : Addr) (rk : List Int) (as ms : List Bool) (pl : List Int) (lim v : V),vs = [.ref x,v] ∧ BoardAt C H x r a m p rk as ms pl lim ∧ Odd K H rk.length v ∧ E (.ref CN) none H
theorem f_checkX (D : MDef K C "check_line" "Board.check_line" (bm 9) ["self", "line"]) (TB : BTxt K C) (XN : ExcC K mg "NoLine" CN) (GL : Fu P w K mg base CX0 3 "is_line" ["ranks", "thing"] (spIsLine K)) : FuM P w K mg base (CX1 P w) 4 C "check_line" ["self", "line"] (spOdd K C CN):=by
  refine D.fux scCheck (fun vs H Q E h => ?_) (fun f cdv A outer s H vs Q E hr h => ?_)
  · obtain ⟨x,r,a,m,q,rk,as,ms,pl,lim,v,rfl,_⟩:=h
    rfl
  · obtain ⟨x,r,a,m,q,rk,as,ms,pl,lim,v,rfl,B,od,hE⟩:=h
    refine ⟨_,pss_one (ps_if (pt_not (pt_val (pc GL hr pass0 (pa_cons (pe_fld (pv 0) rfl) (pa_cons (pv 1) pa_nil))))) (pss_one (ps_raise XN hr.hd (pa_cons pe_str pa_nil))) pss_nil),?_⟩
    obtain ⟨dx,e0⟩:=B.at_
    rcases od with ⟨i,rfl,hi⟩ | wv
    · refine ⟨_,rfl,x,C,dx,_,_,rfl,e0,TB.cl,TB.nR,rfl,_,rfl,r,rk,_,rfl,SqL.of B.rk,.inl ⟨i,rfl,?_⟩⟩
      have : (decide (0 ≤ i) && decide (i ≤ (rk.length : Int) - 1)) = false:=by
        rw [Bool.eq_false_iff]
        intro z
        simp only [Bool.and_eq_true,decide_eq_true_eq] at z
        exact hi ⟨z.1,by omega⟩
      rw [this]
      exact ⟨_,rfl,iteT ⟨by show 1 ≤ sizeLine; decide,hE⟩⟩
    · exact ⟨_,rfl,x,C,dx,_,_,rfl,e0,TB.cl,TB.nR,rfl,_,rfl,r,rk,_,rfl,SqL.of B.rk,.inr ⟨wv,_,rfl,iteT ⟨by show 1 ≤ sizeLine; decide,hE⟩⟩⟩
def spTurnX (K : PySem.W.Frag) (C CN : Addr) : Sp:=fun vs H Q E => ∃ (x r a m p : Addr) (rk : List Int) (as ms : List Bool) (pl : List Int) (lim v k b : V),vs = [.ref x,k,v,b] ∧ BoardAt C H x r a m p rk as ms pl lim ∧ Odd K H rk.length v ∧ E (.ref CN) none H
theorem f_turnX (D : MDef K C "turn" "Board.turn" (bm 10) ["self", "marks", "line", "wish"]) (TB : BTxt K C) (GK : FuM P w K mg base (CX1 P w) 4 C "check_line" ["self", "line"] (spOdd K C CN)) : FuM P w K mg base (CX1 P w) 5 C "turn" ["self", "marks", "line", "wish"] (spTurnX K C CN):=by
  refine D.fux scTurn (fun vs H Q E h => ?_) (fun f cdv A outer s H vs Q E hr h => ?_)
  · obtain ⟨x,r,a,m,q,rk,as,ms,pl,lim,v,k,b,rfl,_⟩:=h
    rfl
  · obtain ⟨x,r,a,m,q,rk,as,ms,pl,lim,v,k,b,rfl,B,od,hE⟩:=h
    refine ⟨_,pss_cons (ps_expr (pm GK TB.cl hr pass1 (pv 0) (pa_cons (pv 2) pa_nil))) pss_never,?_⟩
    obtain ⟨dx,e0⟩:=B.at_
    exact ⟨_,rfl,x,dx,_,rfl,e0,bf_no (by decide +kernel),_,rfl,x,r,a,m,q,rk,as,ms,pl,lim,v,rfl,B,od,hE⟩
theorem f_ringX (D : MDef K C "ring" "Board.ring" (bm 1) ["self", "line"]) (TB : BTxt K C) (GT : FuM P w K mg base (CX1 P w) 5 C "turn" ["self", "marks", "line", "wish"] (spTurnX K C CN)) : FuM P w K mg base (CX1 P w) 6 C "ring" ["self", "line"] (spOdd K C CN):=by
  refine D.fux scR1 (fun vs H Q E h => ?_) (fun f cdv A outer s H vs Q E hr h => ?_)
  · obtain ⟨x,r,a,m,q,rk,as,ms,pl,lim,v,rfl,_⟩:=h
    rfl
  · obtain ⟨x,r,a,m,q,rk,as,ms,pl,lim,v,rfl,B,od,hE⟩:=h
    refine ⟨_,pss_one (ps_ret (pm GT TB.cl hr pass1 (pv 0) (pa_cons (pe_fld (pv 0) rfl) (pa_cons (pv 1) (pa_cons pe_bl pa_nil))))),?_⟩
    obtain ⟨dx,e0⟩:=B.at_
    exact ⟨_,rfl,x,dx,_,rfl,e0,bf_no (by decide +kernel),_,rfl,x,C,dx,_,_,rfl,e0,TB.cl,TB.nA,rfl,_,rfl,x,r,a,m,q,rk,as,ms,pl,lim,v,_,_,rfl,B,od,hE⟩
theorem f_calmX (D : MDef K C "calm" "Board.calm" (bm 2) ["self", "line"]) (TB : BTxt K C) (GT : FuM P w K mg base (CX1 P w) 5 C "turn" ["self", "marks", "line", "wish"] (spTurnX K C CN)) : FuM P w K mg base (CX1 P w) 6 C "calm" ["self", "line"] (spOdd K C CN):=by
  refine D.fux scR2 (fun vs H Q E h => ?_) (fun f cdv A outer s H vs Q E hr h => ?_)
  · obtain ⟨x,r,a,m,q,rk,as,ms,pl,lim,v,rfl,_⟩:=h
    rfl
  · obtain ⟨x,r,a,m,q,rk,as,ms,pl,lim,v,rfl,B,od,hE⟩:=h
    refine ⟨_,pss_one (ps_ret (pm GT TB.cl hr pass1 (pv 0) (pa_cons (pe_fld (pv 0) rfl) (pa_cons (pv 1) (pa_cons pe_bl pa_nil))))),?_⟩
    obtain ⟨dx,e0⟩:=B.at_
    exact ⟨_,rfl,x,dx,_,rfl,e0,bf_no (by decide +kernel),_,rfl,x,C,dx,_,_,rfl,e0,TB.cl,TB.nA,rfl,_,rfl,x,r,a,m,q,rk,as,ms,pl,lim,v,_,_,rfl,B,od,hE⟩
theorem f_muteX (D : MDef K C "mute" "Board.mute" (bm 3) ["self", "line"]) (TB : BTxt K C) (GT : FuM P w K mg base (CX1 P w) 5 C "turn" ["self", "marks", "line", "wish"] (spTurnX K C CN)) : FuM P w K mg base (CX1 P w) 6 C "mute" ["self", "line"] (spOdd K C CN):=by
  refine D.fux scR3 (fun vs H Q E h => ?_) (fun f cdv A outer s H vs Q E hr h => ?_)
  · obtain ⟨x,r,a,m,q,rk,as,ms,pl,lim,v,rfl,_⟩:=h
    rfl
  · obtain ⟨x,r,a,m,q,rk,as,ms,pl,lim,v,rfl,B,od,hE⟩:=h
    refine ⟨_,pss_one (ps_ret (pm GT TB.cl hr pass1 (pv 0) (pa_cons (pe_fld (pv 0) rfl) (pa_cons (pv 1) (pa_cons pe_bl pa_nil))))),?_⟩
    obtain ⟨dx,e0⟩:=B.at_
    exact ⟨_,rfl,x,dx,_,rfl,e0,bf_no (by decide +kernel),_,rfl,x,C,dx,_,_,rfl,e0,TB.cl,TB.nM,rfl,_,rfl,x,r,a,m,q,rk,as,ms,pl,lim,v,_,_,rfl,B,od,hE⟩
theorem f_freeX (D : MDef K C "free" "Board.free" (bm 4) ["self", "line"]) (TB : BTxt K C) (GT : FuM P w K mg base (CX1 P w) 5 C "turn" ["self", "marks", "line", "wish"] (spTurnX K C CN)) : FuM P w K mg base (CX1 P w) 6 C "free" ["self", "line"] (spOdd K C CN):=by
  refine D.fux scR4 (fun vs H Q E h => ?_) (fun f cdv A outer s H vs Q E hr h => ?_)
  · obtain ⟨x,r,a,m,q,rk,as,ms,pl,lim,v,rfl,_⟩:=h
    rfl
  · obtain ⟨x,r,a,m,q,rk,as,ms,pl,lim,v,rfl,B,od,hE⟩:=h
    refine ⟨_,pss_one (ps_ret (pm GT TB.cl hr pass1 (pv 0) (pa_cons (pe_fld (pv 0) rfl) (pa_cons (pv 1) (pa_cons pe_bl pa_nil))))),?_⟩
    obtain ⟨dx,e0⟩:=B.at_
    exact ⟨_,rfl,x,dx,_,rfl,e0,bf_no (by decide +kernel),_,rfl,x,C,dx,_,_,rfl,e0,TB.cl,TB.nM,rfl,_,rfl,x,r,a,m,q,rk,as,ms,pl,lim,v,_,_,rfl,B,od,hE⟩
theorem f_endN (D : MDef K C "end" "Board.end" (bm 7) ["self", "line"]) (TB : BTxt K C) (GK : FuM P w K mg base (CX1 P w) 4 C "check_line" ["self", "line"] (spOdd K C CN)) : FuM P w K mg base (CX1 P w) 5 C "end" ["self", "line"] (spOdd K C CN):=by
  refine D.fux scEnd (fun vs H Q E h => ?_) (fun f cdv A outer s H vs Q E hr h => ?_)
  · obtain ⟨x,r,a,m,q,rk,as,ms,pl,lim,v,rfl,_⟩:=h
    rfl
  · obtain ⟨x,r,a,m,q,rk,as,ms,pl,lim,v,rfl,B,od,hE⟩:=h
    refine ⟨_,pss_cons (ps_expr (pm GK TB.cl hr pass1 (pv 0) (pa_cons (pv 1) pa_nil))) pss_never,?_⟩
    obtain ⟨dx,e0⟩:=B.at_
    exact ⟨_,rfl,x,dx,_,rfl,e0,bf_no (by decide +kernel),_,rfl,x,r,a,m,q,rk,as,ms,pl,lim,v,rfl,B,od,hE⟩
def spBarF (K : PySem.W.Frag) : Sp:=fun vs H Q _ => ∃ v : V,vs = [v] ∧ BadBar K H v ∧ Q (.bl false) H
theorem f_barF (D : Def K mg "is_bar" (top 17) ["thing"]) (GU : Fu P w K mg base CX0 2 "is_up_to" ["most", "thing"] (spUpTo K)) : Fu P w K mg base CX0 3 "is_bar" ["thing"] (spBarF K):=by
  refine D.fu sc15 (fun vs H Q E h => ?_) (fun f cdv A outer s H vs Q E hr h => ?_)
  · obtain ⟨v,rfl,_⟩:=h
    rfl
  · obtain ⟨v,rfl,hv,q⟩:=h
    refine ⟨_,pss_one (ps_ret (pe_or (pe_cmp (pc_isN (pv 0))) (pe_one (pc GU hr pass0 (pa_cons (pe_op op_pow pe_int pe_int) (pa_cons (pv 0) pa_nil)))))),?_⟩
    rcases hv with ⟨z,rfl,hz⟩ | ⟨wv,hne⟩
    · refine ⟨_,rfl,false,rfl,iteF ⟨_,_,rfl,rfl,cpow _ _ (by decide +kernel),_,rfl,_,_,rfl,.inl ⟨z,rfl,?_⟩⟩⟩
      have e : (decide ((0 : Int) ≤ z) && decide (z ≤ 10 ^ (60 : Int).toNat)) = false:=by
        rw [Bool.eq_false_iff]
        intro y
        simp only [Bool.and_eq_true,decide_eq_true_eq] at y
        exact hz y
      rw [e]
      exact q
    · refine ⟨_,rfl,false,?_,iteF ⟨_,_,rfl,rfl,cpow _ _ (by decide +kernel),_,rfl,_,_,rfl,.inr ⟨wv,q⟩⟩⟩
      cases v <;> first | rfl | exact absurd rfl hne
def spBarX (K : PySem.W.Frag) (C CB : Addr) : Sp:=fun vs H Q E => ∃ (x r a m p : Addr) (rk : List Int) (as ms : List Bool) (pl : List Int) (lim v : V),vs = [.ref x,v] ∧ BoardAt C H x r a m p rk as ms pl lim ∧ BadBar K H v ∧ E (.ref CB) none H
theorem f_barX (D : MDef K C "bar" "Board.bar" (bm 5) ["self", "rank"]) (XB : ExcC K mg "NoBar" CB) (GB : Fu P w K mg base CX0 3 "is_bar" ["thing"] (spBarF K)) : FuM P w K mg base (CX1 P w) 4 C "bar" ["self", "rank"] (spBarX K C CB):=by
  refine D.fux scBarM (fun vs H Q E h => ?_) (fun f cdv A outer s H vs Q E hr h => ?_)
  · obtain ⟨x,r,a,m,q,rk,as,ms,pl,lim,v,rfl,_⟩:=h
    rfl
  · obtain ⟨x,r,a,m,q,rk,as,ms,pl,lim,v,rfl,B,hv,hE⟩:=h
    refine ⟨_,pss_cons (ps_if (pt_not (pt_val (pc GB hr pass0 (pa_cons (pv 1) pa_nil)))) (pss_one (ps_raise XB hr.hd (pa_cons pe_str pa_nil))) pss_nil) pss_never,?_⟩
    exact ⟨_,rfl,v,rfl,hv,_,rfl,iteT ⟨by show 1 ≤ sizeLine; decide,hE⟩⟩
def nt (j : Nat) : Stmt:=inClass (top 7) j
def spNT (C : Addr) : Sp:=fun vs H Q _ => ∃ (e : Addr) (l t : V),vs = [.ref e,l,t] ∧ H e = some (NewExc e C none) ∧ ∀ dx H',H dx = none → H' dx = some (ExcDict dx [("line",l),("top",t)]) → H' e = some (NewExc e C (some dx)) → (∀ z,z ≠ dx → z ≠ e → H' z = H z) → Q .non H'
theorem scNT : FnScope ["self", "line", "top"] ["self", "line", "top"] (defScope (nt 0)):=⟨rfl,rfl,rfl,by decide +kernel,rfl,by decide +kernel,by decide +kernel⟩
theorem f_nt {DB : Addr} (D : DefX K mg "NotTop" CT "NotTop.__init__" (nt 0) ["self", "line", "top"]) (hBE : mg "BoardError" = some (.ref DB)) (BI : BInit K DB) (XC : XCls K CT) (n1 : PySem.W.findIn K (.ref CT) "line" = some none) (n2 : PySem.W.findIn K (.ref CT) "top" = some none) : FuX P w K mg base 1 "NotTop" CT ["self", "line", "top"] (spNT CT):=by
  refine D.fu scNT (fun vs H Q E h => ?_) (fun f cdv A outer s H vs Q E hr h => ?_)
  · obtain ⟨e,l,t,rfl,_⟩:=h
    rfl
  · obtain ⟨e,l,t,rfl,he,kk⟩:=h
    refine ⟨_,pss_cons (ps_expr (pe_xi BI hBE (pa_cons (pv 0) (pa_cons pe_str pa_nil)))) (pss_cons (ps_x0 (pv 0) (pv 1) rfl) (pss_one (ps_x1 (pv 0) (pv 2) rfl))),?_⟩
    refine ⟨_,rfl,e,CT,none,_,rfl,he,XC,(by show 1 ≤ sizeLine; decide),?_⟩
    refine ⟨_,rfl,_,rfl,e,CT,rfl,he,XC,n1,fun dx hdx => ?_⟩
    have ne : e ≠ dx:=ne_of_none he hdx
    refine ⟨_,rfl,_,rfl,e,CT,dx,_,rfl,by rw [upd_ne ne]; exact upd_same,upd_same,XC,n2,(by show 1 < 1000; decide),?_⟩
    refine kk dx _ hdx ?_ ?_ fun z h1 h2 => ?_
    · rw [upd_same]; rfl
    · rw [upd_ne ne,upd_ne ne]; exact upd_same
    · rw [upd_ne h1,upd_ne h1,upd_ne h2]
def spEndX (C CT : Addr) : Sp:=fun vs H Q E => ∃ (x r a m p : Addr) (rk : List Int) (as ms : List Bool) (pl : List Int) (lim : V) (i : Int),vs = [.ref x,.int i] ∧ BoardAt C H x r a m p rk as ms pl lim ∧ 0 ≤ i ∧ i < rk.length ∧ pl.getLast? ≠ some i ∧
  ∀ dd H',Same H H' → H dd = none → H' dd = some (ExcDict dd [("line",.int i),("top",lastV pl)]) → E (.ref CT) (some dd) H'
theorem f_endX (D : MDef K C "end" "Board.end" (bm 7) ["self", "line"]) (TB : BTxt K C) (GK : FuM P w K mg base CX0 4 C "check_line" ["self", "line"] (spCheck C)) (GT : Fu P w K mg base CX0 1 "top_of" ["pile"] (spTopOf K)) (GX : FuX P w K mg base 1 "NotTop" CT ["self", "line", "top"] (spNT CT)) : FuM P w K mg base (CX2 P w) 5 C "end" ["self", "line"] (spEndX C CT):=by
  refine D.fuC scEnd (fun vs H Q E h => ?_) (fun f cdv A outer s H vs Q E hr h => ?_)
  · obtain ⟨x,r,a,m,q,rk,as,ms,pl,lim,i,rfl,_⟩:=h
    rfl
  · obtain ⟨x,r,a,m,q,rk,as,ms,pl,lim,i,rfl,B,h0,h1,hl,hE⟩:=h
    refine ⟨_,pss_cons (ps_expr (pm GK TB.cl hr pass0 (pv 0) (pa_cons (pv 1) pa_nil)))
      (pss_cons (ps_set (i:=2) scEnd.nd rfl (Or.inl rfl) (pc GT hr pass0 (pa_cons (pe_fld (pv 0) rfl) pa_nil)))
      (pss_cons (ps_if (pt_cmpR op_ne (pv 1) (pv 2) (nomark _)) (pss_one (ps_raise2 (k:=3) GX hr (pa_cons (pv 1) (pa_cons (pv 2) pa_nil)))) pss_nil) pss_never)),?_⟩
    obtain ⟨dx,e0⟩:=B.at_
    refine ⟨_,rfl,x,dx,_,rfl,e0,bf_no (by decide +kernel),_,rfl,x,r,a,m,q,rk,as,ms,pl,lim,i,rfl,B,h0,h1,?_⟩
    refine ⟨_,rfl,x,C,dx,_,_,rfl,e0,TB.cl,TB.nP,rfl,q,pl,rfl,B.pl,?_⟩
    have sc : scal (.int i) (lastV pl) = true:=by unfold lastV; cases pl.getLast? <;> rfl
    refine ⟨_,rfl,_,rfl,sc,_,rfl,?_⟩
    have el : lastV pl ≠ .int i:=by
      unfold lastV
      cases h : pl.getLast? with
      | none => simp
      | some t =>
        intro z
        injection z with z
        exact hl (by rw [h,z])
    refine iteTe (by simp [Ne.symm el]) ?_
    refine ⟨_,rfl,_,rfl,(by show 2 ≤ sizeLine; decide),fun ea hea => ?_⟩
    refine ⟨ea,.int i,lastV pl,rfl,upd_same,fun dd H2 hdd h1 h2 h3 => ⟨rfl,some dd,h2,?_⟩⟩
    have zd : dd ≠ ea:=by
      intro z
      rw [z,upd_same] at hdd
      cases hdd
    refine hE dd _ (fun z o ez => ?_) (by rwa [upd_ne zd] at hdd) (by rw [del_ne zd]; exact h1)
    have z1 : z ≠ ea:=ne_of_none ez hea
    have z2 : z ≠ dd:=fun h => by
      subst h
      rw [upd_ne z1,ez] at hdd
      cases hdd
    rw [del_ne z1,h3 z z2 z1,upd_ne z1]
    exact ez
end
end K05

namespace K05
open PySem L2 L3
structure St3 (H : Hp) (st t0 t1 : Addr) (as : List Bool) (pl : List Int) (lim : V) : Prop where
  at_ : H st = some (.lst [.ref t0,.ref t1,lim])
  a0 : H t0 = some (.lst (as.map V.bl))
  a1 : H t1 = some (.lst (pl.map V.int))
  n0 : st ≠ t0
  n1 : st ≠ t1
  n2 : t0 ≠ t1
section
variable {H H' : Hp} {st t0 t1 : Addr} {as bs : List Bool} {pl ys : List Int} {lim v : V}
theorem St3.to (S : St3 H st t0 t1 as pl lim) (kp : ∀ b o,(b = st ∨ b = t0 ∨ b = t1) → H b = some o → H' b = some o) : St3 H' st t0 t1 as pl lim :=
  ⟨kp _ _ (.inl rfl) S.at_,kp _ _ (.inr (.inl rfl)) S.a0,kp _ _ (.inr (.inr rfl)) S.a1,S.n0,S.n1,S.n2⟩
theorem St3.same (S : St3 H st t0 t1 as pl lim) (sm : Same H H') : St3 H' st t0 t1 as pl lim:=S.to fun b o _ e => sm b o e
theorem St3.set0 (S : St3 H st t0 t1 as pl lim) : St3 (upd H t0 (.lst (bs.map V.bl))) st t0 t1 bs pl lim :=
  ⟨by rw [upd_ne S.n0]; exact S.at_,upd_same,by rw [upd_ne (Ne.symm S.n2)]; exact S.a1,S.n0,S.n1,S.n2⟩
theorem St3.set1 (S : St3 H st t0 t1 as pl lim) : St3 (upd H t1 (.lst (ys.map V.int))) st t0 t1 as ys lim :=
  ⟨by rw [upd_ne S.n1]; exact S.at_,by rw [upd_ne S.n2]; exact S.a0,upd_same,S.n0,S.n1,S.n2⟩
theorem St3.set2 (S : St3 H st t0 t1 as pl lim) : St3 (upd H st (.lst [.ref t0,.ref t1,v])) st t0 t1 as pl v :=
  ⟨upd_same,by rw [upd_ne (Ne.symm S.n0)]; exact S.a0,by rw [upd_ne (Ne.symm S.n1)]; exact S.a1,S.n0,S.n1,S.n2⟩
end
abbrev noM (n : Nat) : List Bool:=List.replicate n false
theorem want_no (as : List Bool) (n i : Nat) : wantB as (noM n) i = as.getD i false:=by
  unfold wantB noM
  have : (List.replicate n false).getD i false = false:=by
    rw [List.getD_eq_getElem?_getD,List.getElem?_replicate]
    split <;> rfl
  rw [this]
  simp
def belowB (rk pl : List Int) (i : Int) : Bool:=match pl.getLast? with | some t => decide (rkAt rk i < rkAt rk t) | none => true
def limB (rk : List Int) (lim : V) (i : Int) : Bool:=match lim with | .int z => decide (rkAt rk i < z) | _ => true
theorem open_eq (rk : List Int) (lim : V) (pl : List Int) (i : Int) : openB rk lim pl i = (limB rk lim i && belowB rk pl i):=rfl
section
variable {P : Program} {w : World} {K : PySem.W.Frag} {mg : Str → Option Value} {base : Heap} {C P5 : Addr}
def spBelow (K : PySem.W.Frag) : Sp:=fun vs H Q _ => ∃ (pr t1 : Addr) (rk pl : List Int) (i : Int),vs = [.ref pr,.ref t1,.int i] ∧ H pr = some (.lst (rk.map V.int)) ∧ H t1 = some (.lst (pl.map V.int)) ∧ 0 ≤ i ∧ i < rk.length ∧ (∀ t ∈ pl,0 ≤ t ∧ t < rk.length) ∧ ∀ H',Same H H' → Q (.bl (belowB rk pl i)) H'
theorem scBelow : FnScope ["_law_ranks_here", "_law_pile", "_law_line"] ["_law_ranks_here", "_law_pile", "_law_line"] (defScope (top 38)):=⟨rfl,rfl,rfl,by decide +kernel,rfl,by decide +kernel,by decide +kernel⟩
theorem f_below (D : Def K mg "_law_below" (top 38) ["_law_ranks_here", "_law_pile", "_law_line"]) : Fu P w K mg base CX0 1 "_law_below" ["_law_ranks_here", "_law_pile", "_law_line"] (spBelow K):=by
  refine D.fu scBelow (fun vs H Q E h => ?_) (fun f cdv A outer s H vs Q E hr h => ?_)
  · obtain ⟨pr,t1,rk,pl,i,rfl,_⟩:=h
    rfl
  · obtain ⟨pr,t1,rk,pl,i,rfl,hr0,ht,h0,h1,hp,kk⟩:=h
    refine ⟨_,pss_one (ps_ret (pe_or (pe_cmpR (op_eqI hr.units) (pv 1) (pe_lst pa_nil) (nomark _)) (pe_one (pe_cmpR op_lt (pe_ix ix_list (pv 0) (pv 2) (fun _ _ => rfl)) (pe_ix ix_list (pv 0) (pe_ix ix_list (pv 1) (pe_un un_neg pe_int) (fun _ _ => rfl)) (fun _ _ => rfl)) (nomark _))))),?_⟩
    refine ⟨_,rfl,(by show 0 ≤ sizeLine; decide),fun e ne => ⟨t1,e,pl,[],rfl,rfl,(Same.new ne).seq (SqL.of ht),SqL.new (xs:=([] : List Int).map V.int),_,rfl,?_⟩⟩
    have s1:=Same.new (o:=.lst []) ne
    have q:=kk _ s1
    have r1:=s1 _ _ hr0
    have t1':=s1 _ _ ht
    unfold belowB at q
    cases el : pl.getLast? with
    | none =>
      have e' : pl = []:=List.getLast?_eq_none_iff.mp el
      rw [el] at q
      exact iteTe (decide_eq_true e') q
    | some t =>
      have hne : pl ≠ []:=by intro z; rw [z] at el; cases el
      rw [el] at q
      have hm:=hp t (List.mem_of_getLast? el)
      exact iteFe (decide_eq_false hne) ⟨_,rfl,_,rfl,pr,_,_,_,rfl,rfl,SqL.of r1,atI_int h0 h1,_,rfl,_,rfl,_,rfl,t1,_,_,_,rfl,rfl,SqL.of t1',last_atI el,pr,_,_,_,rfl,rfl,SqL.of r1,atI_int hm.1 hm.2,_,_,rfl,rfl,q⟩
def spLBest (K : PySem.W.Frag) : Sp:=fun vs H Q _ => ∃ (pr st t0 t1 : Addr) (rk : List Int) (as : List Bool) (pl : List Int) (lim : V),vs = [.ref pr,.ref st] ∧ H pr = some (.lst (rk.map V.int)) ∧ St3 H st t0 t1 as pl lim ∧ BInv rk as (noM rk.length) pl lim ∧ ∀ v H',Same H H' → First rk (bestL rk as (noM rk.length) pl lim) v → Q v H'
theorem scLBest : FnScope ["_law_ranks_here", "_law_state", "_law_found", "_law_line"] ["_law_ranks_here", "_law_state"] (defScope (top 39)):=⟨rfl,rfl,rfl,by decide +kernel,rfl,by decide +kernel,by decide +kernel⟩
set_option maxHeartbeats 2000000 in
theorem f_lbest (D : Def K mg "_law_best" (top 39) ["_law_ranks_here", "_law_state"]) (T : Txt K mg) (GO : Fu P w K mg base CX0 1 "_law_below" ["_law_ranks_here", "_law_pile", "_law_line"] (spBelow K)) : Fu P w K mg base CX0 2 "_law_best" ["_law_ranks_here", "_law_state"] (spLBest K):=by
  refine D.fu scLBest (fun vs H Q E h => ?_) (fun f cdv A outer s H vs Q E hr h => ?_)
  · obtain ⟨pr,st,t0,t1,rk,as,pl,lim,rfl,_⟩:=h
    rfl
  · obtain ⟨pr,st,t0,t1,rk,as,pl,lim,rfl,hr0,S,I,kk⟩:=h
    refine ⟨_,pss_cons (ps_set (i:=2) scLBest.nd rfl (Or.inl rfl) pe_non)
      (pss_cons (ps_for PassesOwn.never rfl (pi_range1 rfl T.range (pa_cons (p_len T.len (pv 0)) pa_nil)) (pg_name (i:=3) scLBest.nd rfl (Or.inl rfl))
        (pss_one (ps_if (pw_and (pt_val (pe_ix ix_list (pe_ix ix_list (pv 1) pe_int (fun _ _ => rfl)) (pv 3) (fun _ _ => rfl))) (pw_and (pt_val (pc GO hr pass0 (pa_cons (pv 0) (pa_cons (pe_ix ix_list (pv 1) pe_int (fun _ _ => rfl)) (pa_cons (pv 3) pa_nil))))) (pw_and1 (pw_or (pt_cmp (pc_isN (pe_ix ix_list (pv 1) pe_int (fun _ _ => rfl)))) (pw_or1 (pt_cmpR op_lt (pe_ix ix_list (pv 0) (pv 3) (fun _ _ => rfl)) (pe_ix ix_list (pv 1) pe_int (fun _ _ => rfl)) (nomark _)))).pt))).pt
          (pss_one (ps_if (pw_or (pt_cmp (pc_isN (pv 2))) (pw_or1 (pt_cmpR op_lt (pe_ix ix_list (pv 0) (pv 3) (fun _ _ => rfl)) (pe_ix ix_list (pv 0) (pv 2) (fun _ _ => rfl)) (nomark _)))).pt (pss_one (ps_set (i:=2) scLBest.nd rfl (Or.inl rfl) (pv 3))) pss_nil)) pss_nil)))
      (pss_one (ps_ret (pv 2)))),?_⟩
    refine ⟨_,rfl,pr,_,rfl,.inl (SqL.of hr0),_,rfl,by omega,by rw [List.length_map]; have:=I.l60; omega,?_⟩
    rw [List.length_map]
    refine for_range (n:=(rk.length : Int).toNat) (fun i σ H' => ∃ (v : V) (v3 : Option V),σ = [some (.ref pr),some (.ref st),some v,v3] ∧ Same H H' ∧ First rk ((wantL as (noM rk.length) i).filter (openB rk lim pl)) v) ⟨.non,none,rfl,Same.refl _,rfl⟩ ?_ ?_
    · rintro i σ H' hi ⟨v,v3,rfl,sm,hF⟩
      have hi' : i < rk.length:=by omega
      have S1:=S.same sm
      have r1:=sm _ _ hr0
      have la:=I.la
      refine ⟨_,rfl,st,_,_,_,rfl,rfl,SqL.of S1.at_,rfl,_,rfl,t0,_,_,_,rfl,rfl,SqL.of S1.a0,atI_bl (by omega) (by omega),_,rfl,?_⟩
      have ei : (0 + (i : Int)).toNat = i:=by omega
      rw [ei]
      have ez : (0 + (i : Int)) = (i : Int):=by omega
      have no : ∀ H2,Same H H2 → (as.getD i false && openB rk lim pl i) = false → ∃ (v' : V) (v3 : Option V),[some (.ref pr),some (.ref st),some v,some (.int (0 + (i : Int)))] = [some (.ref pr),some (.ref st),some v',v3] ∧ Same H H2 ∧ First rk ((wantL as (noM rk.length) (i + 1)).filter (openB rk lim pl)) v':=fun H2 s2 e => by
        refine ⟨v,_,rfl,s2,?_⟩
        rw [wantL_succ,want_no]
        cases e0 : as.getD i false with
        | false => rw [if_neg (by simp)]; exact hF
        | true =>
          rw [e0,Bool.true_and] at e
          rw [if_pos rfl,List.filter_append]
          simpa [e] using hF
      cases e0 : as.getD i false with
      | false => exact iteF (iteF (no _ sm (by rw [e0]; rfl)))
      | true =>
        rw [e0] at no
        refine iteT ⟨_,rfl,_,rfl,st,_,_,_,rfl,rfl,SqL.of S1.at_,rfl,_,rfl,pr,t1,rk,pl,_,rfl,r1,S1.a1,by omega,by omega,I.pr,fun H2 s2 => ⟨_,rfl,?_⟩⟩
        have s12:=sm.trans s2
        have r2:=s12 _ _ hr0
        have S2:=S.same s12
        rw [ez]
        cases eb : belowB rk pl i with
        | false => exact iteF (iteF (by rw [← ez]; exact no _ s12 (by rw [open_eq,eb]; simp)))
        | true =>
          have at2 : ∀ lim : V,atI [V.ref t0,.ref t1,lim] 2 = some lim:=fun _ => rfl
          have hmem : ∀ l ∈ (wantL as (noM rk.length) i).filter (openB rk lim pl),l < (i : Int):=fun l hl => (wantL_mem (List.mem_filter.mp hl).1).2
          have hef : limB rk lim i = true → (wantL as (noM rk.length) (i + 1)).filter (openB rk lim pl) = (wantL as (noM rk.length) i).filter (openB rk lim pl) ++ [(i : Int)]:=fun el => by
            rw [wantL_succ,want_no,if_pos e0,List.filter_append]
            simp [open_eq,eb,el]
          rcases I.li with rfl | ⟨z,rfl⟩
          · have ef:=hef rfl
            refine iteT ⟨_,rfl,st,_,_,_,rfl,rfl,SqL.of S2.at_,at2 _,_,rfl,iteT (iteT ?_)⟩
            refine ⟨_,rfl,_,rfl,?_⟩
            rcases first_scal hF with rfl | ⟨m,rfl⟩
            · refine iteT (iteT ⟨_,rfl,.int i,_,rfl,s12,?_⟩)
              rw [ef]
              exact first_add hF hmem (.inl rfl)
            · have hm:=wantL_mem (List.mem_filter.mp hF.1).1
              refine iteF ⟨_,rfl,_,rfl,pr,_,_,_,rfl,rfl,SqL.of r2,atI_int (by omega) (by omega),_,rfl,_,rfl,pr,_,_,_,rfl,rfl,SqL.of r2,atI_int hm.1 (by omega),_,_,rfl,rfl,_,rfl,?_⟩
              by_cases hlt : rkAt rk i < rkAt rk m
              · refine iteTe (decide_eq_true hlt) ⟨_,rfl,.int i,_,rfl,s12,?_⟩
                rw [ef]
                exact first_add hF hmem (.inr ⟨m,rfl,hlt⟩)
              · refine iteFe (decide_eq_false hlt) ⟨.int m,_,rfl,s12,?_⟩
                rw [ef]
                exact first_keep hF hmem hlt
          · refine iteT ⟨_,rfl,st,_,_,_,rfl,rfl,SqL.of S2.at_,at2 _,_,rfl,iteF ⟨_,rfl,_,rfl,pr,_,_,_,rfl,rfl,SqL.of r2,atI_int (by omega) (by omega),_,rfl,st,_,_,_,rfl,rfl,SqL.of S2.at_,at2 _,_,_,rfl,rfl,_,rfl,?_⟩⟩
            by_cases hz : rkAt rk i < z
            · have ef:=hef (decide_eq_true hz)
              refine iteTe (decide_eq_true hz) ?_
              refine ⟨_,rfl,_,rfl,?_⟩
              rcases first_scal hF with rfl | ⟨m,rfl⟩
              · refine iteT (iteT ⟨_,rfl,.int i,_,rfl,s12,?_⟩)
                rw [ef]
                exact first_add hF hmem (.inl rfl)
              · have hm:=wantL_mem (List.mem_filter.mp hF.1).1
                refine iteF ⟨_,rfl,_,rfl,pr,_,_,_,rfl,rfl,SqL.of r2,atI_int (by omega) (by omega),_,rfl,_,rfl,pr,_,_,_,rfl,rfl,SqL.of r2,atI_int hm.1 (by omega),_,_,rfl,rfl,_,rfl,?_⟩
                by_cases hlt : rkAt rk i < rkAt rk m
                · refine iteTe (decide_eq_true hlt) ⟨_,rfl,.int i,_,rfl,s12,?_⟩
                  rw [ef]
                  exact first_add hF hmem (.inr ⟨m,rfl,hlt⟩)
                · refine iteFe (decide_eq_false hlt) ⟨.int m,_,rfl,s12,?_⟩
                  rw [ef]
                  exact first_keep hF hmem hlt
            · refine iteFe (decide_eq_false hz) ?_
              rw [← ez]
              exact no _ s12 (by rw [open_eq]; simp [limB,hz])
    · rintro σ H' ⟨v,v3,rfl,sm,hF⟩
      exact ⟨_,rfl,kk v H' sm hF⟩
def spLast (K : PySem.W.Frag) : Sp:=fun vs H Q _ => ∃ (pr t1 : Addr) (rk pl : List Int),vs = [.ref pr,.ref t1] ∧ H pr = some (.lst (rk.map V.int)) ∧ H t1 = some (.lst (pl.map V.int)) ∧ rk.length ≤ 60 ∧ (∀ t ∈ pl,0 ≤ t ∧ t < rk.length) ∧ ∀ v H',Same H H' → (v = .non ∨ ∃ i : Int,v = .int i ∧ 0 ≤ i ∧ i < rk.length) → Q v H'
theorem scLast : FnScope ["_law_ranks_here", "_law_pile", "_law_found", "_law_line"] ["_law_ranks_here", "_law_pile"] (defScope (top 40)):=⟨rfl,rfl,rfl,by decide +kernel,rfl,by decide +kernel,by decide +kernel⟩
theorem f_last (D : Def K mg "_law_last" (top 40) ["_law_ranks_here", "_law_pile"]) (T : Txt K mg) (GO : Fu P w K mg base CX0 1 "_law_below" ["_law_ranks_here", "_law_pile", "_law_line"] (spBelow K)) : Fu P w K mg base CX0 2 "_law_last" ["_law_ranks_here", "_law_pile"] (spLast K):=by
  refine D.fu scLast (fun vs H Q E h => ?_) (fun f cdv A outer s H vs Q E hr h => ?_)
  · obtain ⟨pr,t1,rk,pl,rfl,_⟩:=h
    rfl
  · obtain ⟨pr,t1,rk,pl,rfl,hr0,ht,l60,hp,kk⟩:=h
    refine ⟨_,pss_cons (ps_set (i:=2) scLast.nd rfl (Or.inl rfl) pe_non)
      (pss_cons (ps_for PassesOwn.never rfl (pi_range1 rfl T.range (pa_cons (p_len T.len (pv 0)) pa_nil)) (pg_name (i:=3) scLast.nd rfl (Or.inl rfl))
        (pss_one (ps_if (pw_and (pt_val (pc GO hr pass0 (pa_cons (pv 0) (pa_cons (pv 1) (pa_cons (pv 3) pa_nil))))) (pw_and1 (pw_or (pt_cmp (pc_isN (pv 2))) (pw_or1 (pt_cmpR op_ge (pe_ix ix_list (pv 0) (pv 3) (fun _ _ => rfl)) (pe_ix ix_list (pv 0) (pv 2) (fun _ _ => rfl)) (nomark _)))).pt)).pt
          (pss_one (ps_set (i:=2) scLast.nd rfl (Or.inl rfl) (pv 3))) pss_nil)))
      (pss_one (ps_ret (pv 2)))),?_⟩
    refine ⟨_,rfl,pr,_,rfl,.inl (SqL.of hr0),_,rfl,by omega,by rw [List.length_map]; omega,?_⟩
    rw [List.length_map]
    refine for_range (n:=(rk.length : Int).toNat) (fun i σ H' => ∃ (v : V) (v3 : Option V),σ = [some (.ref pr),some (.ref t1),some v,v3] ∧ Same H H' ∧ (v = .non ∨ ∃ i : Int,v = .int i ∧ 0 ≤ i ∧ i < rk.length)) ⟨.non,none,rfl,Same.refl _,.inl rfl⟩ ?_ ?_
    · rintro i σ H' hi ⟨v,v3,rfl,sm,hF⟩
      have hi' : i < rk.length:=by omega
      have r1:=sm _ _ hr0
      refine ⟨_,rfl,_,rfl,_,rfl,pr,t1,rk,pl,_,rfl,r1,sm _ _ ht,by omega,by omega,hp,fun H2 s2 => ⟨_,rfl,?_⟩⟩
      have s12:=sm.trans s2
      have r2:=s12 _ _ hr0
      cases eb : belowB rk pl (0 + (i : Int)) with
      | false => exact iteF (iteF ⟨v,_,rfl,s12,hF⟩)
      | true =>
        refine iteT ⟨_,rfl,_,rfl,?_⟩
        rcases hF with rfl | ⟨m,rfl,m0,m1⟩
        · exact iteT (iteT ⟨_,rfl,.int (0 + (i : Int)),_,rfl,s12,.inr ⟨_,rfl,by omega,by omega⟩⟩)
        · refine iteF ⟨_,rfl,_,rfl,pr,_,_,_,rfl,rfl,SqL.of r2,atI_int (by omega) (by omega),_,rfl,_,rfl,pr,_,_,_,rfl,rfl,SqL.of r2,atI_int m0 m1,_,_,rfl,rfl,_,rfl,?_⟩
          exact ite2 (fun _ => ⟨_,rfl,.int (0 + (i : Int)),_,rfl,s12,.inr ⟨_,rfl,by omega,by omega⟩⟩) (fun _ => ⟨.int m,_,rfl,s12,.inr ⟨m,rfl,m0,m1⟩⟩)
    · rintro σ H' ⟨v,v3,rfl,sm,hF⟩
      exact ⟨_,rfl,kk v H' sm hF⟩
end
end K05

namespace K05
open PySem L2 L3
section
variable {P : Program} {w : World} {K : PySem.W.Frag} {mg : Str → Option Value} {base : Heap} {C P5 CN CB CT CE : Addr}
def Refd (K : PySem.W.Frag) (CN CB : Addr) (H : Hp) (n : Nat) (wd : Int) (v : V) (CX : Addr) : Prop:=(0 ≤ wd ∧ wd ≤ 5 ∧ wd ≠ 4 ∧ Odd K H n v ∧ CX = CN) ∨ (wd = 4 ∧ BadBar K H v ∧ CX = CB)
theorem WholeV.sm {H H' : Hp} {v : V} {b : Bool} (h : WholeV K H v b) (s : Same H H') : WholeV K H' v b:=by
  obtain ⟨t,b1,b2,ty,k1,k2,e⟩:=h
  exact ⟨t,b1,b2,ty.same s,k1,k2,e⟩
theorem Refd.same {H H' : Hp} {n : Nat} {wd : Int} {v : V} {CX : Addr} (h : Refd K CN CB H n wd v CX) (s : Same H H') : Refd K CN CB H' n wd v CX:=by
  rcases h with ⟨a,b,c,d | d,e⟩ | ⟨a,b | ⟨b,c⟩,e⟩
  · exact .inl ⟨a,b,c,.inl d,e⟩
  · exact .inl ⟨a,b,c,.inr (d.sm s),e⟩
  · exact .inr ⟨a,.inl b,e⟩
  · exact .inr ⟨a,.inr ⟨b.sm s,c⟩,e⟩
def spSaid (K : PySem.W.Frag) (C CN CB : Addr) : Sp:=fun vs H Q E => ∃ (x r a m p : Addr) (rk : List Int) (as ms : List Bool) (pl : List Int) (lim : V) (wd : Int) (v : V) (CX : Addr),vs = [.ref x,.int wd,v] ∧ BoardAt C H x r a m p rk as ms pl lim ∧ Refd K CN CB H rk.length wd v CX ∧ E (.ref CX) none H
theorem scSaid : FnScope ["_law_board", "_law_word", "_law_thing"] ["_law_board", "_law_word", "_law_thing"] (defScope (top 41)):=⟨rfl,rfl,rfl,by decide +kernel,rfl,by decide +kernel,by decide +kernel⟩
set_option maxHeartbeats 2000000 in
theorem f_said (D : Def K mg "_law_said" (top 41) ["_law_board", "_law_word", "_law_thing"]) (TB : BTxt K C) (G0 : FuM P w K mg base (CX1 P w) 6 C "ring" ["self", "line"] (spOdd K C CN)) (G1 : FuM P w K mg base (CX1 P w) 6 C "calm" ["self", "line"] (spOdd K C CN)) (G2 : FuM P w K mg base (CX1 P w) 6 C "mute" ["self", "line"] (spOdd K C CN)) (G3 : FuM P w K mg base (CX1 P w) 6 C "free" ["self", "line"] (spOdd K C CN))
    (G4 : FuM P w K mg base (CX1 P w) 4 C "bar" ["self", "rank"] (spBarX K C CB)) (G5 : FuM P w K mg base (CX1 P w) 5 C "end" ["self", "line"] (spOdd K C CN)) : Fu P w K mg base (CX1 P w) 7 "_law_said" ["_law_board", "_law_word", "_law_thing"] (spSaid K C CN CB):=by
  refine D.fux scSaid (fun vs H Q E h => ?_) (fun f cdv A outer s H vs Q E hr h => ?_)
  · obtain ⟨x,r,a,m,q,rk,as,ms,pl,lim,wd,v,CX,rfl,_⟩:=h
    rfl
  · obtain ⟨x,r,a,m,q,rk,as,ms,pl,lim,wd,v,CX,rfl,B,R,hE⟩:=h
    refine ⟨_,pss_cons (ps_if (pt_cmpR op_eq (pv 1) pe_int (nomark _)) (pss_one (ps_ret (pm G0 TB.cl hr pass1 (pv 0) (pa_cons (pv 2) pa_nil)))) pss_nil)
      (pss_cons (ps_if (pt_cmpR op_eq (pv 1) pe_int (nomark _)) (pss_one (ps_ret (pm G1 TB.cl hr pass1 (pv 0) (pa_cons (pv 2) pa_nil)))) pss_nil)
      (pss_cons (ps_if (pt_cmpR op_eq (pv 1) pe_int (nomark _)) (pss_one (ps_ret (pm G2 TB.cl hr pass1 (pv 0) (pa_cons (pv 2) pa_nil)))) pss_nil)
      (pss_cons (ps_if (pt_cmpR op_eq (pv 1) pe_int (nomark _)) (pss_one (ps_ret (pm G3 TB.cl hr pass1 (pv 0) (pa_cons (pv 2) pa_nil)))) pss_nil)
      (pss_cons (ps_if (pt_cmpR op_eq (pv 1) pe_int (nomark _)) (pss_one (ps_ret (pm G4 TB.cl hr pass1 (pv 0) (pa_cons (pv 2) pa_nil)))) pss_nil)
      (pss_one (ps_ret (pm G5 TB.cl hr pass1 (pv 0) (pa_cons (pv 2) pa_nil)))))))),?_⟩
    obtain ⟨dx,e0⟩:=B.at_
    rcases R with ⟨w0,w5,w4,od,rfl⟩ | ⟨rfl,bad,rfl⟩
    · have hw : wd = 0 ∨ wd = 1 ∨ wd = 2 ∨ wd = 3 ∨ wd = 5:=by omega
      rcases hw with rfl | rfl | rfl | rfl | rfl
      · exact ⟨_,rfl,rfl,_,rfl,iteTe (by decide) ⟨_,rfl,x,dx,_,rfl,e0,bf_no (by decide +kernel),_,rfl,x,r,a,m,q,rk,as,ms,pl,lim,v,rfl,B,od,hE⟩⟩
      · refine ⟨_,rfl,rfl,_,rfl,iteFe (by decide) ?_⟩
        exact ⟨_,rfl,rfl,_,rfl,iteTe (by decide) ⟨_,rfl,x,dx,_,rfl,e0,bf_no (by decide +kernel),_,rfl,x,r,a,m,q,rk,as,ms,pl,lim,v,rfl,B,od,hE⟩⟩
      · refine ⟨_,rfl,rfl,_,rfl,iteFe (by decide) ⟨_,rfl,rfl,_,rfl,iteFe (by decide) ?_⟩⟩
        exact ⟨_,rfl,rfl,_,rfl,iteTe (by decide) ⟨_,rfl,x,dx,_,rfl,e0,bf_no (by decide +kernel),_,rfl,x,r,a,m,q,rk,as,ms,pl,lim,v,rfl,B,od,hE⟩⟩
      · refine ⟨_,rfl,rfl,_,rfl,iteFe (by decide) ⟨_,rfl,rfl,_,rfl,iteFe (by decide) ⟨_,rfl,rfl,_,rfl,iteFe (by decide) ?_⟩⟩⟩
        exact ⟨_,rfl,rfl,_,rfl,iteTe (by decide) ⟨_,rfl,x,dx,_,rfl,e0,bf_no (by decide +kernel),_,rfl,x,r,a,m,q,rk,as,ms,pl,lim,v,rfl,B,od,hE⟩⟩
      · refine ⟨_,rfl,rfl,_,rfl,iteFe (by decide) ⟨_,rfl,rfl,_,rfl,iteFe (by decide) ⟨_,rfl,rfl,_,rfl,iteFe (by decide) ⟨_,rfl,rfl,_,rfl,iteFe (by decide) ⟨_,rfl,rfl,_,rfl,iteFe (by decide) ?_⟩⟩⟩⟩⟩
        exact ⟨_,rfl,x,dx,_,rfl,e0,bf_no (by decide +kernel),_,rfl,x,r,a,m,q,rk,as,ms,pl,lim,v,rfl,B,od,hE⟩
    · refine ⟨_,rfl,rfl,_,rfl,iteFe (by decide) ⟨_,rfl,rfl,_,rfl,iteFe (by decide) ⟨_,rfl,rfl,_,rfl,iteFe (by decide) ⟨_,rfl,rfl,_,rfl,iteFe (by decide) ?_⟩⟩⟩⟩
      exact ⟨_,rfl,rfl,_,rfl,iteTe (by decide) ⟨_,rfl,x,dx,_,rfl,e0,bf_no (by decide +kernel),_,rfl,x,r,a,m,q,rk,as,ms,pl,lim,v,rfl,B,bad,hE⟩⟩
structure XKd (K : PySem.W.Frag) (mg : Str → Option Value) (C : Addr) (b1 b2 b3 : Bool) : Prop where
  g : ExcG K C
  k1 : ∃ c,mg "NoLine" = some (.ref c) ∧ PySem.W.kitOne K (.ref C) (.ref c) = some b1
  k2 : ∃ c,mg "NoBar" = some (.ref c) ∧ PySem.W.kitOne K (.ref C) (.ref c) = some b2
  k3 : ∃ c,mg "NotTop" = some (.ref c) ∧ PySem.W.kitOne K (.ref C) (.ref c) = some b3
  ve : mg "ValueError" = none ∧ PySem.W.kitOne K (.ref C) (.type "ValueError") = some true
  k5 : ∃ c,mg "NoBoard" = some (.ref c) ∧ PySem.W.kitOne K (.ref C) (.ref c) = some false
  k6 : ∃ c,mg "NoPicture" = some (.ref c) ∧ PySem.W.kitOne K (.ref C) (.ref c) = some false
  k7 : ∃ c,mg "NoPegs" = some (.ref c) ∧ PySem.W.kitOne K (.ref C) (.ref c) = some false
  k8 : ∃ c,mg "NoDeed" = some (.ref c) ∧ PySem.W.kitOne K (.ref C) (.ref c) = some false
def kdL (b1 b2 b3 : Bool) : List V:=[.bl b1,.bl b2,.bl b3,.bl true,.bl false,.bl false,.bl false,.bl false]
theorem scKinds : FnScope ["_law_e", "_law_kinds_here"] ["_law_e"] (defScope (top 42)):=⟨rfl,rfl,rfl,by decide +kernel,rfl,by decide +kernel,by decide +kernel⟩
def spKinds (K : PySem.W.Frag) (mg : Str → Option Value) : Sp:=fun vs H Q _ => ∃ (a C : Addr) (b1 b2 b3 : Bool),vs = [.ref a] ∧ H a = some (ExcAt a C) ∧ XKd K mg C b1 b2 b3 ∧ ∀ d H',Same H H' → H d = none → H' d = some (.lst (kdL b1 b2 b3)) → Q (.ref d) H'
set_option maxHeartbeats 1000000 in
theorem f_kinds (D : Def K mg "_law_kinds" (top 42) ["_law_e"]) (T : Txt K mg) (hVE : mg "ValueError" = none) {d1 d2 d3 d5 d6 d7 d8 : Addr} (m1 : mg "NoLine" = some (.ref d1)) (m2 : mg "NoBar" = some (.ref d2)) (m3 : mg "NotTop" = some (.ref d3)) (m5 : mg "NoBoard" = some (.ref d5)) (m6 : mg "NoPicture" = some (.ref d6)) (m7 : mg "NoPegs" = some (.ref d7)) (m8 : mg "NoDeed" = some (.ref d8)) : FuH P w K mg base 1 "_law_kinds" ["_law_e"] (spKinds K mg):=by
  refine D.fuH scKinds (fun vs H Q E h => ?_) (fun a0 f cdv A outer s H vs Q E hr h => ?_)
  · obtain ⟨a,C,b1,b2,b3,rfl,_⟩:=h
    rfl
  · obtain ⟨a,C,b1,b2,b3,rfl,ha,X,kk⟩:=h
    refine ⟨_,pss_cons (ps_set (i:=1) scKinds.nd rfl (Or.inl rfl) (pe_lst (pa_cons (p_isiG (K:=K) T.isi m1 (pv 0)) (pa_cons (p_isiG (K:=K) T.isi m2 (pv 0)) (pa_cons (p_isiG (K:=K) T.isi m3 (pv 0)) (pa_cons (p_isiB (K:=K) T.isi hVE boot_ve (pv 0)) pa_nil))))))
      (pss_one (ps_ret (pe_op op_cat (pv 1) (pe_lst (pa_cons (p_isiG (K:=K) T.isi m5 (pv 0)) (pa_cons (p_isiG (K:=K) T.isi m6 (pv 0)) (pa_cons (p_isiG (K:=K) T.isi m7 (pv 0)) (pa_cons (p_isiG (K:=K) T.isi m8 (pv 0)) pa_nil)))))))),?_⟩
    have key : ∀ {x : Str} {d : Addr} {b : Bool},mg x = some (.ref d) → (∃ c,mg x = some (.ref c) ∧ PySem.W.kitOne K (.ref C) (.ref c) = some b) → PySem.W.kitOne K (.ref C) (.ref d) = some b:=fun hm ⟨c,hc,hk⟩ => by
      rw [hm] at hc
      cases hc
      exact hk
    refine ⟨_,rfl,a,C,_,.ref d1,b1,rfl,ha,X.g,fun _ r => r,key m1 X.k1,_,rfl,a,C,_,.ref d2,b2,rfl,ha,X.g,fun _ r => r,key m2 X.k2,_,rfl,a,C,_,.ref d3,b3,rfl,ha,X.g,fun _ r => r,key m3 X.k3,_,rfl,a,C,_,.type "ValueError",true,rfl,ha,X.g,fun _ r => r,X.ve.2,(by show 4 ≤ sizeLine; decide),fun d nd => ?_⟩
    have s1:=Same.new (o:=.lst [.bl b1,.bl b2,.bl b3,.bl true]) nd
    have h1:=s1 _ _ ha
    refine ⟨_,rfl,_,rfl,a,C,_,.ref d5,false,rfl,h1,X.g,fun _ r => r,key m5 X.k5,_,rfl,a,C,_,.ref d6,false,rfl,h1,X.g,fun _ r => r,key m6 X.k6,_,rfl,a,C,_,.ref d7,false,rfl,h1,X.g,fun _ r => r,key m7 X.k7,_,rfl,a,C,_,.ref d8,false,rfl,h1,X.g,fun _ r => r,key m8 X.k8,(by show 4 ≤ sizeLine; decide),fun e ne => ?_⟩
    have s2:=Same.new (o:=.lst [.bl false,.bl false,.bl false,.bl false]) ne
    refine ⟨d,e,_,_,rfl,rfl,s2 _ _ upd_same,upd_same,(by show 8 ≤ sizeLine; decide),fun z nz => ?_⟩
    have s3:=Same.new (o:=.lst ([.bl b1,.bl b2,.bl b3,.bl true] ++ [.bl false,.bl false,.bl false,.bl false])) nz
    exact kk z _ ((s1.trans s2).trans s3) ((s1.trans s2).free nz) upd_same
def spKindsD (K : PySem.W.Frag) (mg : Str → Option Value) : Sp:=fun vs H Q _ => ∃ (a C : Addr) (od : Option Addr) (b1 b2 b3 : Bool),vs = [.ref a] ∧ H a = some (ExcAtD a C od) ∧ XKd K mg C b1 b2 b3 ∧ ∀ d H',Same H H' → H d = none → H' d = some (.lst (kdL b1 b2 b3)) → Q (.ref d) H'
set_option maxHeartbeats 1000000 in
theorem f_kindsD (D : Def K mg "_law_kinds" (top 42) ["_law_e"]) (T : Txt K mg) (hVE : mg "ValueError" = none) {d1 d2 d3 d5 d6 d7 d8 : Addr} (m1 : mg "NoLine" = some (.ref d1)) (m2 : mg "NoBar" = some (.ref d2)) (m3 : mg "NotTop" = some (.ref d3)) (m5 : mg "NoBoard" = some (.ref d5)) (m6 : mg "NoPicture" = some (.ref d6)) (m7 : mg "NoPegs" = some (.ref d7)) (m8 : mg "NoDeed" = some (.ref d8)) : FuH P w K mg base 1 "_law_kinds" ["_law_e"] (spKindsD K mg):=by
  refine D.fuH scKinds (fun vs H Q E h => ?_) (fun a0 f cdv A outer s H vs Q E hr h => ?_)
  · obtain ⟨a,C,od,b1,b2,b3,rfl,_⟩:=h
    rfl
  · obtain ⟨a,C,od,b1,b2,b3,rfl,ha,X,kk⟩:=h
    refine ⟨_,pss_cons (ps_set (i:=1) scKinds.nd rfl (Or.inl rfl) (pe_lst (pa_cons (p_isiGD (K:=K) T.isi m1 (pv 0)) (pa_cons (p_isiGD (K:=K) T.isi m2 (pv 0)) (pa_cons (p_isiGD (K:=K) T.isi m3 (pv 0)) (pa_cons (p_isiBD (K:=K) T.isi hVE boot_ve (pv 0)) pa_nil))))))
      (pss_one (ps_ret (pe_op op_cat (pv 1) (pe_lst (pa_cons (p_isiGD (K:=K) T.isi m5 (pv 0)) (pa_cons (p_isiGD (K:=K) T.isi m6 (pv 0)) (pa_cons (p_isiGD (K:=K) T.isi m7 (pv 0)) (pa_cons (p_isiGD (K:=K) T.isi m8 (pv 0)) pa_nil)))))))),?_⟩
    have key : ∀ {x : Str} {d : Addr} {b : Bool},mg x = some (.ref d) → (∃ c,mg x = some (.ref c) ∧ PySem.W.kitOne K (.ref C) (.ref c) = some b) → PySem.W.kitOne K (.ref C) (.ref d) = some b:=fun hm ⟨c,hc,hk⟩ => by
      rw [hm] at hc
      cases hc
      exact hk
    refine ⟨_,rfl,a,C,od,_,.ref d1,b1,rfl,ha,X.g,fun _ r => r,key m1 X.k1,_,rfl,a,C,od,_,.ref d2,b2,rfl,ha,X.g,fun _ r => r,key m2 X.k2,_,rfl,a,C,od,_,.ref d3,b3,rfl,ha,X.g,fun _ r => r,key m3 X.k3,_,rfl,a,C,od,_,.type "ValueError",true,rfl,ha,X.g,fun _ r => r,X.ve.2,(by show 4 ≤ sizeLine; decide),fun d nd => ?_⟩
    have s1:=Same.new (o:=.lst [.bl b1,.bl b2,.bl b3,.bl true]) nd
    have h1:=s1 _ _ ha
    refine ⟨_,rfl,_,rfl,a,C,od,_,.ref d5,false,rfl,h1,X.g,fun _ r => r,key m5 X.k5,_,rfl,a,C,od,_,.ref d6,false,rfl,h1,X.g,fun _ r => r,key m6 X.k6,_,rfl,a,C,od,_,.ref d7,false,rfl,h1,X.g,fun _ r => r,key m7 X.k7,_,rfl,a,C,od,_,.ref d8,false,rfl,h1,X.g,fun _ r => r,key m8 X.k8,(by show 4 ≤ sizeLine; decide),fun e ne => ?_⟩
    have s2:=Same.new (o:=.lst [.bl false,.bl false,.bl false,.bl false]) ne
    refine ⟨d,e,_,_,rfl,rfl,s2 _ _ upd_same,upd_same,(by show 8 ≤ sizeLine; decide),fun z nz => ?_⟩
    have s3:=Same.new (o:=.lst ([.bl b1,.bl b2,.bl b3,.bl true] ++ [.bl false,.bl false,.bl false,.bl false])) nz
    exact kk z _ ((s1.trans s2).trans s3) ((s1.trans s2).free nz) upd_same
theorem lay_bools : ∀ bs : List Bool,PyData.canLayAll0 (bs.map PyData.bool) = true
  | [] => rfl
  | _ :: r => by simp [PyData.canLayAll0,PyData.canLay0,lay_bools r]
theorem dep_bools : ∀ bs : List Bool,PyData.depthAll (bs.map PyData.bool) = 0
  | [] => by simp [PyData.depthAll]
  | _ :: r => by simp [PyData.depthAll,PyData.depth,dep_bools r]
theorem shB (bs : List Bool) : SeqAt.shaped (.list (bs.map PyData.bool)) = true:=by
  simp [SeqAt.shaped,PyData.canLay0,PyData.depth,lay_bools,dep_bools]
theorem eqB (bs : List Bool) : PyData.eqv (.list (bs.map PyData.bool)) (.list (bs.map PyData.bool)) = true:=PySem.SeqAt.eqv_refl _ (SeqAt.canLay_of_shaped (shB bs))
theorem Sh.bools {H : Hp} : ∀ bs : List Bool,ShL K H (bs.map V.bl) (bs.map PyData.bool)
  | [] => .nil
  | b :: bs => .cons (.bl b) (Sh.bools bs)
structure XRf (K : PySem.W.Frag) (mg : Str → Option Value) (CE : Addr) : Prop where
  n : mg "BoardError" = some (.ref CE)
  ty : PySem.W.typeIn K (.ref CE) = some (.type "type")
  be : PySem.W.mroIn K CE (.type "BaseException") = some true
def spRefu (K : PySem.W.Frag) (C CN CB : Addr) : Sp:=fun vs H Q _ => ∃ (x r a m p : Addr) (rk : List Int) (as ms : List Bool) (pl : List Int) (lim : V) (wd : Int) (v : V) (CX : Addr),vs = [.ref x,.int wd,v] ∧ BoardAt C H x r a m p rk as ms pl lim ∧ Refd K CN CB H rk.length wd v CX ∧ ∀ H',Same H H' → Q (.bl true) H'
theorem scRefu : FnScope ["_law_board", "_law_word", "_law_odd", "_law_kinds_here", "_law_e"] ["_law_board", "_law_word", "_law_odd"] (defScope (top 43)):=⟨rfl,rfl,rfl,by decide +kernel,rfl,by decide +kernel,by decide +kernel⟩
set_option maxHeartbeats 2000000 in
theorem f_refu (D : Def K mg "_law_refused" (top 43) ["_law_board", "_law_word", "_law_odd"]) (X : XRf K mg CE) (XN : XKd K mg CN true false false) (XB : XKd K mg CB false true false) (MN : PySem.W.mroIn K CN (.ref CE) = some true) (MB : PySem.W.mroIn K CB (.ref CE) = some true)
    (GS : Fu P w K mg base (CX1 P w) 7 "_law_said" ["_law_board", "_law_word", "_law_thing"] (spSaid K C CN CB)) (GN : FuH P w K mg base 1 "_law_kinds" ["_law_e"] (spKinds K mg)) : Fu P w K mg base CX0 8 "_law_refused" ["_law_board", "_law_word", "_law_odd"] (spRefu K C CN CB):=by
  refine D.fu scRefu (fun vs H Q E h => ?_) (fun f cdv A outer s H vs Q E hr h => ?_)
  · obtain ⟨x,r,a,m,q,rk,as,ms,pl,lim,wd,v,CX,rfl,_⟩:=h
    rfl
  · obtain ⟨x,r,a,m,q,rk,as,ms,pl,lim,wd,v,CX,rfl,B,R,kk⟩:=h
    refine' ⟨_,pss_cons (ps_set (i:=3) scRefu.nd rfl (Or.inl rfl) (pe_lst pa_nil))
      (pss_cons (ps_try bodyO ?B ?HH)
      (pss_one (ps_ret (pe_cmpR (op_eqD hr.units) (pv 3) (pe_lst (pa_cons (pe_cmpR op_ne (pv 1) pe_int (nomark _)) (pa_cons (pe_cmpR op_eq (pv 1) pe_int (nomark _)) (pa_cons pe_bl (pa_cons pe_bl (pa_cons pe_bl (pa_cons pe_bl (pa_cons pe_bl (pa_cons pe_bl pa_nil))))))))) (nomark _))))),?main⟩
    case B =>
      intro pins Ex
      exact pss_one (ps_expr (pcS GS hr (passS bodyO) (pa_cons (pv 0) (pa_cons (pv 1) (pa_cons (pv 2) pa_nil)))))
    case HH =>
      exact ph_as (i:=4) bodyO scRefu.nd rfl rfl rfl X.n X.ty X.be (fun a' => pss_one (ps_set (i:=3) scRefu.nd rfl (Or.inl rfl) (pcH GN hr (pa_cons (pv 4) pa_nil)))) ph_nil
    case main =>
      refine ⟨(by show 0 ≤ sizeLine; decide),fun kd nk => ?_⟩
      have s1:=Same.new (o:=.lst []) nk
      refine ⟨fun C' σ' H' => C' = CX ∧ σ' = [some (.ref x),some (.int wd),some v,some (.ref kd),none] ∧ H' = upd H kd (.lst []),?_,?_⟩
      · exact ⟨_,rfl,_,rfl,_,rfl,x,r,a,m,q,rk,as,ms,pl,lim,wd,v,CX,rfl,B.same s1,R.same s1,fun C' e => by cases e; exact ⟨rfl,rfl,rfl⟩⟩
      · rintro C' σ' H' ⟨rfl,rfl,rfl⟩
        have hx : ∃ b1 b2,XKd K mg C' b1 b2 false ∧ PySem.W.mroIn K C' (.ref CE) = some true ∧ b1 = !decide (V.int wd = V.int 4) ∧ b2 = decide (V.int wd = V.int 4):=by
          rcases R with ⟨w0,w5,w4,_,rfl⟩ | ⟨rfl,_,rfl⟩
          · have : decide (V.int wd = V.int 4) = false:=decide_eq_false fun z => w4 (by injection z)
            exact ⟨true,false,XN,MN,by rw [this]; rfl,this.symm⟩
          · exact ⟨false,true,XB,MB,by decide,by decide⟩
        obtain ⟨b1,b2,X1,M1,e1,e2⟩:=hx
        refine ⟨true,M1,iteT (fun ae nae => ?_)⟩
        have s2:=s1.trans (Same.new (o:=ExcAt ae C') nae)
        refine ⟨_,rfl,ae,C',b1,b2,false,rfl,upd_same,X1,fun d H2 s3 nd hd => ?_⟩
        have s13:=s2.trans s3
        refine ⟨_,rfl,_,rfl,rfl,_,rfl,rfl,(by show 8 ≤ sizeLine; decide),fun l nl => ?_⟩
        rw [← e1,← e2]
        have s4:=Same.new (o:=.lst (kdL b1 b2 false)) nl
        refine ⟨_,_,.lst (SqL.of (s4 _ _ hd)) (Sh.bools [b1,b2,false,true,false,false,false,false]),.lst (SqL.of upd_same) (Sh.bools [b1,b2,false,true,false,false,false,false]),shB _,shB _,?_⟩
        rw [eqB]
        exact kk _ (s13.trans s4)
structure XT (K : PySem.W.Frag) (mg : Str → Option Value) (CT CE : Addr) : Prop where
  n : mg "NotTop" = some (.ref CT)
  ty : PySem.W.typeIn K (.ref CT) = some (.type "type")
  be : PySem.W.mroIn K CT (.type "BaseException") = some true
  me : PySem.W.mroIn K CT (.ref CT) = some true
  kd : XKd K mg CT false false true
  bE : PySem.W.kitOne K (.ref CT) (.ref CE) = some true
  hd : PySem.W.hasDictIn K CT = true
  n1 : PySem.W.findIn K (.ref CT) "line" = some none
  n2 : PySem.W.findIn K (.ref CT) "top" = some none
def spNtp (C : Addr) : Sp:=fun vs H Q _ => ∃ (x r a m p : Addr) (rk : List Int) (as ms : List Bool) (pl : List Int) (lim : V) (i : Int),vs = [.ref x,.int i,lastV pl] ∧ BoardAt C H x r a m p rk as ms pl lim ∧ 0 ≤ i ∧ i < rk.length ∧ pl.getLast? ≠ some i ∧ ∀ H',Same H H' → Q (.bl true) H'
theorem scNtp : FnScope ["_law_board", "_law_line", "_law_top_here", "_law_kinds_here", "_law_values", "_law_e"] ["_law_board", "_law_line", "_law_top_here"] (defScope (top 44)):=⟨rfl,rfl,rfl,by decide +kernel,rfl,by decide +kernel,by decide +kernel⟩
set_option maxHeartbeats 2000000 in
theorem f_ntp (D : Def K mg "_law_not_top" (top 44) ["_law_board", "_law_line", "_law_top_here"]) (T : Txt K mg) (TB : BTxt K C) (hBE : mg "BoardError" = some (.ref CE)) (X : XT K mg CT CE) (GE : FuM P w K mg base (CX2 P w) 5 C "end" ["self", "line"] (spEndX C CT)) (GN : FuH P w K mg base 1 "_law_kinds" ["_law_e"] (spKindsD K mg)) (GS : Fu P w K mg base CX0 2 "_law_same" ["_law_found", "_law_due"] spSame) : Fu P w K mg base CX0 6 "_law_not_top" ["_law_board", "_law_line", "_law_top_here"] (spNtp C):=by
  refine D.fu scNtp (fun vs H Q E h => ?_) (fun f cdv A outer s H vs Q E hr h => ?_)
  · obtain ⟨x,r,a,m,q,rk,as,ms,pl,lim,i,rfl,_⟩:=h
    rfl
  · obtain ⟨x,r,a,m,q,rk,as,ms,pl,lim,i,rfl,B,h0,h1,hl,kk⟩:=h
    refine' ⟨_,pss_cons (ps_set (i:=3) scNtp.nd rfl (Or.inl rfl) (pe_lst pa_nil)) (pss_cons (ps_set (i:=4) scNtp.nd rfl (Or.inl rfl) (pe_lst (pa_cons pe_non (pa_cons pe_non pa_nil))))
      (pss_cons (ps_try2 bodyO ?B ?HH)
      (pss_cons (ps_if (pt_cmpR (op_neD hr.units) (pv 3) (pe_lst (pa_cons pe_bl (pa_cons pe_bl (pa_cons pe_bl (pa_cons pe_bl (pa_cons pe_bl (pa_cons pe_bl (pa_cons pe_bl (pa_cons pe_bl (pa_cons pe_bl pa_nil)))))))))) (nomark _)) (pss_one (ps_ret pe_bl)) pss_nil)
      (pss_one (ps_ret (pe_and (pc GS hr pass0 (pa_cons (pe_ix ix_list (pv 4) pe_int (fun _ _ => rfl)) (pa_cons (pv 1) pa_nil))) (pe_one (pc GS hr pass0 (pa_cons (pe_ix ix_list (pv 4) pe_int (fun _ _ => rfl)) (pa_cons (pv 2) pa_nil)))))))))),?main⟩
    case B =>
      intro pins Ex
      exact pss_one (ps_expr (pmS GE TB.cl hr (passS2 bodyO) (pv 0) (pa_cons (pv 1) pa_nil)))
    case HH =>
      exact ph_as2 (i:=5) bodyO scNtp.nd rfl rfl rfl X.n X.ty X.be (fun a' => pss_cons (ps_set (i:=3) scNtp.nd rfl (Or.inl rfl) (pe_op op_cat (pcH GN hr (pa_cons (pv 5) pa_nil)) (pe_lst (pa_cons (p_isiGD (K:=K) T.isi hBE (pv 5)) pa_nil)))) (pss_one (ps_set (i:=4) scNtp.nd rfl (Or.inl rfl) (pe_lst (pa_cons (pe_fldX (K:=K) (pv 5) rfl) (pa_cons (pe_fldX (K:=K) (pv 5) rfl) pa_nil)))))) ph_nil2
    case main =>
      refine ⟨(by show 0 ≤ sizeLine; decide),fun kd nk => ?_⟩
      have s1:=Same.new (o:=.lst []) nk
      refine ⟨(by show 2 ≤ sizeLine; decide),fun t0 n0 => ?_⟩
      have s0:=s1.trans (Same.new (o:=.lst [.non,.non]) n0)
      refine ⟨fun C' od σ' H' => C' = CT ∧ σ' = [some (.ref x),some (.int i),some (lastV pl),some (.ref kd),some (.ref t0),none] ∧ ∃ dd,od = some dd ∧ Same H H' ∧ H' dd = some (ExcDict dd [("line",.int i),("top",lastV pl)]),?_,?_⟩
      · have B1:=B.same s0
        obtain ⟨dx,e0⟩:=B1.at_
        refine ⟨_,rfl,x,dx,_,rfl,e0,bf_no (by decide +kernel),_,rfl,x,r,a,m,q,rk,as,ms,pl,lim,i,rfl,B1,h0,h1,hl,fun dd H' s' ndd hd C' e => ?_⟩
        cases e
        exact ⟨rfl,rfl,dd,rfl,s0.trans s',hd⟩
      · rintro C' od σ' H' ⟨rfl,rfl,dd,rfl,s',hd⟩
        refine ⟨true,X.me,iteT (fun ae nae => ?_)⟩
        have ne : dd ≠ ae:=ne_of_none hd nae
        have ed : upd H' ae (ExcAtD ae C' (some dd)) dd = some (ExcDict dd [("line",.int i),("top",lastV pl)]):=by rw [upd_ne ne]; exact hd
        have ea : upd H' ae (ExcAtD ae C' (some dd)) ae = some (ExcAtD ae C' (some dd)):=upd_same
        have sm:=s'.trans (Same.new (o:=ExcAtD ae C' (some dd)) nae)
        generalize upd H' ae (ExcAtD ae C' (some dd)) = H1 at ed ea sm ⊢
        refine ⟨_,rfl,ae,C',some dd,false,false,true,rfl,ea,X.kd,fun d H2 s2 nd hdl => ?_⟩
        refine ⟨_,rfl,ae,C',some dd,_,.ref CE,true,rfl,s2 _ _ ea,X.kd.g,fun _ r => r,X.bE,(by show 1 ≤ sizeLine; decide),fun e1 n1 => ?_⟩
        have s3:=Same.new (o:=.lst [.bl true]) n1
        refine ⟨d,e1,_,_,rfl,rfl,s3 _ _ hdl,upd_same,(by show 9 ≤ sizeLine; decide),fun z nz => ?_⟩
        have s4:=Same.new (o:=.lst (kdL false false true ++ [.bl true])) nz
        have s24:=(s2.trans s3).trans s4
        have ez:=upd_same (H:=upd H2 e1 (.lst [.bl true])) (a:=z) (o:=.lst (kdL false false true ++ [.bl true]))
        refine ⟨_,rfl,ae,C',dd,_,.int i,rfl,s24 _ _ ea,s24 _ _ ed,X.kd.g,X.hd,X.n1,rfl,_,rfl,ae,C',dd,_,lastV pl,rfl,s24 _ _ ea,s24 _ _ ed,X.kd.g,X.hd,X.n2,rfl,(by show 2 ≤ sizeLine; decide),fun y ny => ?_⟩
        have s5:=Same.new (o:=.lst [.int i,lastV pl]) ny
        have ey:=upd_same (H:=upd (upd H2 e1 (.lst [.bl true])) z (.lst (kdL false false true ++ [.bl true]))) (a:=y) (o:=.lst [.int i,lastV pl])
        have ez5:=s5 _ _ ez
        have sA:=(sm.trans s24).trans s5
        refine ⟨_,rfl,(by show 9 ≤ sizeLine; decide),fun l nl => ?_⟩
        have s6:=Same.new (o:=.lst (([false,false,true,true,false,false,false,false,true] : List Bool).map V.bl)) nl
        refine ⟨_,_,.lst (SqL.of (s6 _ _ ez5)) (Sh.bools [false,false,true,true,false,false,false,false,true]),.lst (SqL.of upd_same) (Sh.bools [false,false,true,true,false,false,false,false,true]),shB _,shB _,_,rfl,iteFe (by rw [eqB]; rfl) ?_⟩
        have ey6:=s6 _ _ ey
        refine ⟨_,rfl,y,_,_,_,rfl,rfl,SqL.of ey6,rfl,_,rfl,_,rfl,.inr ⟨i,rfl⟩,true,rfl,iteT ?_⟩
        exact ⟨_,rfl,y,_,_,_,rfl,rfl,SqL.of ey6,(rfl : atI [V.int i,lastV pl] 1 = some (lastV pl)),_,rfl,_,rfl,lastV_scal pl,kk _ (sA.trans s6)⟩
end
end K05

namespace K05
open PySem L2 L3
structure Both (C P5 : Addr) (H : Hp) (x r a m p pq st t0 t1 : Addr) (rk : List Int) (as : List Bool) (pl : List Int) (lim : V) : Prop where
  B : BoardAt C H x r a m p rk as (noM rk.length) pl lim
  S : St3 H st t0 t1 as pl lim
  pr : H pq = some (.lst (rk.map V.int))
  I : BInv rk as (noM rk.length) pl lim
  t : TabF H P5
  dis : ∀ z ∈ [st,t0,t1],z ∉ [r,a,m,p]
  prd : pq ∉ [st,t0,t1,a,m,p]
abbrev SL (P5 x a p st t0 t1 : Addr) : List Addr:=[x,a,p,st,t0,t1,P5]
section
variable {C P5 : Addr} {H H' : Hp} {x r a m p pr st t0 t1 : Addr} {rk : List Int} {as ms bs : List Bool} {pl ys : List Int} {lim v : V}
theorem Both.kp (Z : Both C P5 H x r a m p pr st t0 t1 rk as pl lim) (kp : Kp P5 H H') (t' : TabF H' P5) : Both C P5 H' x r a m p pr st t0 t1 rk as pl lim :=
  ⟨Z.B.kp Z.t kp,Z.S.to fun b o hb e => kp b o e (by
    rcases hb with rfl | rfl | rfl
    · exact Z.t.ne Z.S.at_ (by intro _ z; cases z)
    · exact Z.t.ne Z.S.a0 (by intro _ z; cases z)
    · exact Z.t.ne Z.S.a1 (by intro _ z; cases z)),kp _ _ Z.pr (Z.t.ne Z.pr (by intro _ z; cases z)),Z.I,t',Z.dis,Z.prd⟩
theorem Both.same (Z : Both C P5 H x r a m p pr st t0 t1 rk as pl lim) (sm : Same H H') : Both C P5 H' x r a m p pr st t0 t1 rk as pl lim:=Z.kp (Kp.of_same sm) (Tab.same Z.t sm)
theorem Both.stx (Z : Both C P5 H x r a m p pr st t0 t1 rk as pl lim) : ∀ z ∈ [st,t0,t1],z ≠ x:=by
  obtain ⟨dx,e⟩:=Z.B.at_
  intro z hz
  simp only [List.mem_cons,List.not_mem_nil,or_false] at hz
  rcases hz with rfl | rfl | rfl
  · exact ne_of Z.S.at_ e (by intro z; cases z)
  · exact ne_of Z.S.a0 e (by intro z; cases z)
  · exact ne_of Z.S.a1 e (by intro z; cases z)
theorem Both.here (Z : Both C P5 H x r a m p pr st t0 t1 rk as pl lim) : ∀ z ∈ SL P5 x a p st t0 t1,H z ≠ none:=by
  obtain ⟨dx,e⟩:=Z.B.at_
  intro z hz
  simp only [List.mem_cons,List.not_mem_nil,or_false] at hz
  rcases hz with rfl | rfl | rfl | rfl | rfl | rfl | rfl
  · rw [e]; simp
  · rw [Z.B.as]; simp
  · rw [Z.B.pl]; simp
  · rw [Z.S.at_]; simp
  · rw [Z.S.a0]; simp
  · rw [Z.S.a1]; simp
  · rcases Z.t with t | ⟨_,t,_⟩ <;> rw [t] <;> simp
theorem BInv.setA (I : BInv rk as ms pl lim) (h : bs.length = as.length) : BInv rk bs ms pl lim:=⟨h.trans I.la,I.lm,I.l1,I.l60,I.pr,I.li⟩
theorem BInv.setP (I : BInv rk as ms pl lim) (h : ∀ t ∈ ys,0 ≤ t ∧ t < rk.length) : BInv rk as ms ys lim:=⟨I.la,I.lm,I.l1,I.l60,h,I.li⟩
theorem BInv.setL (I : BInv rk as ms pl lim) (h : v = .non ∨ ∃ z,v = .int z) : BInv rk as ms pl v:=⟨I.la,I.lm,I.l1,I.l60,I.pr,h⟩
theorem Both.bd (Z : Both C P5 H x r a m p pr st t0 t1 rk as pl lim) {z : Addr} (hz : z ∈ [st,t0,t1]) : z ≠ x ∧ z ≠ r ∧ z ≠ a ∧ z ≠ m ∧ z ≠ p:=by
  have h:=Z.dis z hz
  simp only [List.mem_cons,List.not_mem_nil,or_false,not_or] at h
  exact ⟨Z.stx z hz,h.1,h.2.1,h.2.2.1,h.2.2.2⟩
theorem Both.prn (Z : Both C P5 H x r a m p pr st t0 t1 rk as pl lim) : pr ≠ st ∧ pr ≠ t0 ∧ pr ≠ t1 ∧ pr ≠ a ∧ pr ≠ m ∧ pr ≠ p ∧ pr ≠ x:=by
  have h:=Z.prd
  simp only [List.mem_cons,List.not_mem_nil,or_false,not_or] at h
  obtain ⟨dx,e⟩:=Z.B.at_
  exact ⟨h.1,h.2.1,h.2.2.1,h.2.2.2.1,h.2.2.2.2.1,h.2.2.2.2.2,ne_of Z.pr e (by intro z; cases z)⟩
theorem Both.board (Z : Both C P5 H x r a m p pr st t0 t1 rk as pl lim) {z : Addr} {o : HO} (hz : z ∈ [st,t0,t1]) : BoardAt C (upd H z o) x r a m p rk as (noM rk.length) pl lim:=Z.B.to fun b u hb e => by
  obtain ⟨h1,h2,h3,h4,h5⟩:=Z.bd hz
  rw [upd_ne]
  · exact e
  · rcases hb with rfl | rfl | rfl | rfl | rfl
    · exact Ne.symm h1
    · exact Ne.symm h2
    · exact Ne.symm h3
    · exact Ne.symm h4
    · exact Ne.symm h5
end
def Leaves (C P5 : Addr) (H : Hp) (x r a m p pr st t0 t1 : Addr) (rk : List Int) (n : Nat) (Q : VK) : Prop :=
  ∀ H' as' pl' lim',KeepBut (SL P5 x a p st t0 t1) H H' → Both C P5 H' x r a m p pr st t0 t1 rk as' pl' lim' → pl'.length ≤ n → Q (.bl true) H'
theorem Leaves.pre {C P5 : Addr} {H H1 : Hp} {x r a m p pr st t0 t1 : Addr} {rk : List Int} {n : Nat} {Q : VK} (L : Leaves C P5 H x r a m p pr st t0 t1 rk n Q) (k : KeepBut (SL P5 x a p st t0 t1) H H1) : Leaves C P5 H1 x r a m p pr st t0 t1 rk n Q:=fun H' _ _ _ k' Z h => L H' _ _ _ (k.trans k') Z h
theorem kb_of {S : List Addr} {H H' : Hp} (s : Same H H') : KeepBut S H H':=fun b o e _ => s b o e
def endP (pl : List Int) (i : Int) : List Int:=if pl.getLast? = some i then pl.dropLast else pl
theorem endP_len (pl : List Int) (i : Int) : (endP pl i).length ≤ pl.length:=by
  unfold endP
  split
  · simp
  · exact Nat.le_refl _
section
variable {P : Program} {w : World} {K : PySem.W.Frag} {mg : Str → Option Value} {base : Heap} {C P5 CN CB CT CE : Addr}
def spEnded (C P5 : Addr) : Sp:=fun vs H Q _ => ∃ (x r a m p pr st t0 t1 : Addr) (rk : List Int) (as : List Bool) (pl : List Int) (lim : V) (i : Int),vs = [.ref x,.ref t1,.int i] ∧ Both C P5 H x r a m p pr st t0 t1 rk as pl lim ∧ 0 ≤ i ∧ i < rk.length ∧
  ∀ H',KeepBut (SL P5 x a p st t0 t1) H H' → Both C P5 H' x r a m p pr st t0 t1 rk as (endP pl i) lim → Q (.bl true) H'
theorem scEnded : FnScope ["_law_board", "_law_pile", "_law_line"] ["_law_board", "_law_pile", "_law_line"] (defScope (top 45)):=⟨rfl,rfl,rfl,by decide +kernel,rfl,by decide +kernel,by decide +kernel⟩
set_option maxHeartbeats 2000000 in
theorem f_ended (D : Def K mg "_law_ended" (top 45) ["_law_board", "_law_pile", "_law_line"]) (TB : BTxt K C) (GTop : Fu P w K mg base CX0 1 "_law_top" ["_law_pile"] (spLTop K)) (GN : Fu P w K mg base CX0 6 "_law_not_top" ["_law_board", "_law_line", "_law_top_here"] (spNtp C)) (GS : Fu P w K mg base CX0 2 "_law_same" ["_law_found", "_law_due"] spSame) (GEnd : FuM P w K mg base CX0 5 C "end" ["self", "line"] (spEnd C)) :
    Fu P w K mg base CX0 7 "_law_ended" ["_law_board", "_law_pile", "_law_line"] (spEnded C P5):=by
  refine D.fu scEnded (fun vs H Q E h => ?_) (fun f cdv A outer s H vs Q E hr h => ?_)
  · obtain ⟨x,r,a,m,p,pr,st,t0,t1,rk,as,pl,lim,i,rfl,_⟩:=h
    rfl
  · obtain ⟨x,r,a,m,p,pr,st,t0,t1,rk,as,pl,lim,i,rfl,Z,h0,h1,kk⟩:=h
    refine ⟨_,pss_cons (ps_if (pt_cmpR op_ne (pv 2) (pc GTop hr pass0 (pa_cons (pv 1) pa_nil)) (nomark _)) (pss_one (ps_ret (pc GN hr pass0 (pa_cons (pv 0) (pa_cons (pv 2) (pa_cons (pc GTop hr pass0 (pa_cons (pv 1) pa_nil)) pa_nil)))))) pss_nil)
      (pss_cons (ps_expr (pe_bm0 PySem.F.plainAttrs_list PySem.F.slot_list_pop PySem.F.type_list_pop mt_pop (pv 1)))
      (pss_one (ps_ret (pc GS hr pass0 (pa_cons (pm GEnd TB.cl hr pass0 (pv 0) (pa_cons (pv 2) pa_nil)) (pa_cons (pc GTop hr pass0 (pa_cons (pv 1) pa_nil)) pa_nil)))))),?_⟩
    refine ⟨_,rfl,_,rfl,t1,pl,rfl,Z.S.a1,fun H1 s1 => ?_⟩
    have Z1:=Z.same s1
    have sc : scal (.int i) (lastV pl) = true:=by unfold lastV; cases pl.getLast? <;> rfl
    refine ⟨sc,_,rfl,?_⟩
    unfold endP at kk
    by_cases hl : pl.getLast? = some i
    · have el : lastV pl = .int i:=by unfold lastV; rw [hl]
      rw [if_pos hl] at kk
      refine iteFe (by rw [el]; simp) ?_
      refine ⟨_,rfl,.inl ⟨rfl,_,SqL.of Z1.S.a1⟩,t1,_,.int i,rfl,rfl,Z1.S.a1,?_,?_⟩
      · rw [List.getElem?_map,List.length_map,← List.getLast?_eq_getElem?,hl]; rfl
      rw [show (pl.map V.int).dropLast = pl.dropLast.map V.int from (List.map_dropLast ..).symm]
      have S3 : St3 (upd H1 t1 (.lst (pl.dropLast.map V.int))) st t0 t1 as pl.dropLast lim:=Z1.S.set1
      have B3:=Z1.board (z:=t1) (o:=.lst (pl.dropLast.map V.int)) (by simp)
      have pr3 : upd H1 t1 (.lst (pl.dropLast.map V.int)) pr = some (.lst (rk.map V.int)):=by rw [upd_ne Z.prn.2.2.1]; exact Z1.pr
      have tt3 : TabF (upd H1 t1 (.lst (pl.dropLast.map V.int))) P5:=Z1.t.lst Z1.S.a1
      have k3 : KeepBut (SL P5 x a p st t0 t1) H (upd H1 t1 (.lst (pl.dropLast.map V.int))):=(kb_of s1).upd (.inl (by simp))
      generalize upd H1 t1 (.lst (pl.dropLast.map V.int)) = H3 at S3 B3 pr3 tt3 k3 ⊢
      obtain ⟨dx,e0⟩:=B3.at_
      refine ⟨_,rfl,x,dx,_,rfl,e0,bf_no (by decide +kernel),_,rfl,x,r,a,m,p,rk,as,_,pl,lim,i,rfl,B3,hl,h0,h1,fun H4 k4 B4 => ?_⟩
      have q : ∀ b ∈ [st,t0,t1],b ∉ [p]:=fun b hb => by simpa using (Z.bd hb).2.2.2.2
      have S4:=S3.to (H':=H4) fun b o hb e => k4 b o e (q b (by simp only [List.mem_cons,List.not_mem_nil,or_false]; exact hb))
      have pr4:=k4 _ _ pr3 (by simpa using Z.prn.2.2.2.2.2.1)
      have tt4 : TabF H4 P5:=tab_kb tt3 k4 fun z hz => by
        have e : z = p:=by simpa using hz
        subst e
        exact .inl ⟨_,B3.pl⟩
      refine ⟨_,rfl,t1,_,rfl,S4.a1,fun H5 s5 => ?_⟩
      refine ⟨lastV pl.dropLast,rfl,lastV_scal _,?_⟩
      have Z5 : Both C P5 H4 x r a m p pr st t0 t1 rk as pl.dropLast lim:=⟨B4,S4,pr4,Z.I.setP fun t ht => Z.I.pr t (List.dropLast_subset _ ht),tt4,Z.dis,Z.prd⟩
      exact kk H5 ((k3.trans (k4.more (by simp))).trans (kb_of s5)) (Z5.same s5)
    · rw [if_neg hl] at kk
      have el : lastV pl ≠ .int i:=by
        unfold lastV
        cases h : pl.getLast? with
        | none => simp
        | some t =>
          intro z
          injection z with z
          exact hl (by rw [h,z])
      refine iteTe (by simp [Ne.symm el]) ?_
      refine ⟨_,rfl,_,rfl,_,rfl,t1,pl,rfl,Z1.S.a1,fun H2 s2 => ?_⟩
      have Z2:=Z1.same s2
      exact ⟨x,r,a,m,p,rk,as,_,pl,lim,i,rfl,Z2.B,h0,h1,hl,fun H3 s3 => kk H3 (kb_of ((s1.trans s2).trans s3)) (Z2.same s3)⟩
def spRings (C P5 : Addr) : Sp:=fun vs H Q _ => ∃ (x r a m p pr st t0 t1 : Addr) (rk : List Int) (as : List Bool) (pl : List Int) (lim : V) (i : Int),vs = [.ref x,.ref st,.int i] ∧ Both C P5 H x r a m p pr st t0 t1 rk as pl lim ∧ 0 ≤ i ∧ i < rk.length ∧
  ∀ H',KeepBut (SL P5 x a p st t0 t1) H H' → Both C P5 H' x r a m p pr st t0 t1 rk (as.set i.toNat true) pl lim → Q (.bl true) H'
theorem scRings : FnScope ["_law_board", "_law_state", "_law_line", "_law_found", "_law_due"] ["_law_board", "_law_state", "_law_line"] (defScope (top 46)):=⟨rfl,rfl,rfl,by decide +kernel,rfl,by decide +kernel,by decide +kernel⟩
theorem ring_due (c : Bool) : decide (V.bl (c != true) = V.bl (!c)) = true:=by cases c <;> decide
set_option maxHeartbeats 2000000 in
theorem f_rings (D : Def K mg "_law_rings" (top 46) ["_law_board", "_law_state", "_law_line"]) (T : Txt K mg) (TB : BTxt K C) (G0 : FuM P w K mg base CX0 6 C "ring" ["self", "line"] (spFlag C true true)) : Fu P w K mg base CX0 7 "_law_rings" ["_law_board", "_law_state", "_law_line"] (spRings C P5):=by
  refine D.fu scRings (fun vs H Q E h => ?_) (fun f cdv A outer s H vs Q E hr h => ?_)
  · obtain ⟨x,r,a,m,p,pr,st,t0,t1,rk,as,pl,lim,i,rfl,_⟩:=h
    rfl
  · obtain ⟨x,r,a,m,p,pr,st,t0,t1,rk,as,pl,lim,i,rfl,Z,h0,h1,kk⟩:=h
    refine ⟨_,pss_cons (ps_set (i:=3) scRings.nd rfl (Or.inl rfl) (pm G0 TB.cl hr pass0 (pv 0) (pa_cons (pv 2) pa_nil)))
      (pss_cons (ps_set (i:=4) scRings.nd rfl (Or.inl rfl) (pe_not (pe_ix ix_list (pe_ix ix_list (pv 1) pe_int (fun _ _ => rfl)) (pv 2) (fun _ _ => rfl))))
      (pss_cons (ps_asg pe_bl (pg_sub (pe_ix ix_list (pv 1) pe_int (fun _ _ => rfl)) (pv 2) set_list))
      (pss_one (ps_ret (pe_and (p_isi T.isi T.bool boot_bool' (pv 3)) (pe_one (pe_cmpR op_eq (pv 3) (pv 4) (nomark _)))))))),?_⟩
    have la:=Z.I.la
    have lm:=Z.I.lm
    obtain ⟨dx,e0⟩:=Z.B.at_
    refine ⟨_,rfl,x,dx,_,rfl,e0,bf_no (by decide +kernel),_,rfl,x,r,a,m,p,rk,as,_,pl,lim,i,rfl,Z.B,la,lm,h0,h1,fun H2 k2 B2 => ?_⟩
    have B2' : BoardAt C H2 x r a m p rk (as.set i.toNat true) (noM rk.length) pl lim:=B2
    have k2' : KeepBut [a] H H2:=k2
    have S2 : St3 H2 st t0 t1 as pl lim:=Z.S.to fun b o hb e => k2' b o e (by
      have hb' : b ∈ [st,t0,t1]:=by simp only [List.mem_cons,List.not_mem_nil,or_false]; exact hb
      simpa using (Z.bd hb').2.2.1)
    have pr2:=k2' _ _ Z.pr (by simpa using Z.prn.2.2.2.1)
    have t2' : TabF H2 P5:=tab_kb Z.t k2' fun z hz => by
      have e : z = a:=by simpa using hz
      subst e
      exact .inl ⟨_,Z.B.as⟩
    refine ⟨_,rfl,st,_,_,_,rfl,rfl,SqL.of S2.at_,rfl,_,rfl,t0,_,_,_,rfl,rfl,SqL.of S2.a0,atI_bl h0 (by omega),_,rfl,?_⟩
    refine ⟨_,rfl,st,_,_,_,rfl,rfl,SqL.of S2.at_,rfl,_,rfl,t0,_,_,_,rfl,rfl,S2.a0,ixN_nat h0 (by rw [List.length_map]; omega),?_⟩
    rw [show (as.map V.bl).set i.toNat (.bl true) = (as.set i.toNat true).map V.bl from (List.map_set ..).symm]
    refine ⟨_,rfl,_, "bool",_,true,rfl,.bl _,kit_bool,_,rfl,iteT ⟨_,rfl,_,rfl,rfl,?_⟩⟩
    rw [show decide (V.bl ((if true = true then as else (noM rk.length)).getD i.toNat false != true) = V.bl (!as.getD i.toNat false)) = true from ring_due _]
    have B3 : BoardAt C (upd H2 t0 (.lst ((as.set i.toNat true).map V.bl))) x r a m p rk (as.set i.toNat true) (noM rk.length) pl lim:=B2'.to fun b u hb e => by
      obtain ⟨h1,h2,h3,h4,h5⟩:=Z.bd (z:=t0) (by simp)
      rw [upd_ne]
      · exact e
      · rcases hb with rfl | rfl | rfl | rfl | rfl
        · exact Ne.symm h1
        · exact Ne.symm h2
        · exact Ne.symm h3
        · exact Ne.symm h4
        · exact Ne.symm h5
    refine kk _ ((k2'.more (by intro z hz; simp at hz; simp [hz])).upd (.inl (by simp))) ⟨B3,S2.set0,by rw [upd_ne Z.prn.2.1]; exact pr2,Z.I.setA (by simp),t2'.lst S2.a0,Z.dis,Z.prd⟩
def spTaken (C P5 : Addr) : Sp:=fun vs H Q _ => ∃ (x r a m p pr st t0 t1 : Addr) (rk : List Int) (as : List Bool) (pl : List Int) (lim : V),vs = [.ref x,.ref pr,.ref st] ∧ Both C P5 H x r a m p pr st t0 t1 rk as pl lim ∧ pl.length ≤ 1000 ∧ Leaves C P5 H x r a m p pr st t0 t1 rk (pl.length + 1) Q
theorem scTaken : FnScope ["_law_board", "_law_ranks_here", "_law_state", "_law_line"] ["_law_board", "_law_ranks_here", "_law_state"] (defScope (top 47)):=⟨rfl,rfl,rfl,by decide +kernel,rfl,by decide +kernel,by decide +kernel⟩
theorem BInv.take {rk : List Int} {as ms : List Bool} {pl : List Int} {lim : V} (I : BInv rk as ms pl lim) {v : V} (h : First rk (bestL rk as ms pl lim) v) : BInv rk (takeA as v) ms (takeP pl v) lim:=by
  cases v with
  | int i =>
    have hb:=bestL_mem h.1
    exact ⟨by simp [takeA,I.la],I.lm,I.l1,I.l60,fun t ht => by
      rcases List.mem_append.mp ht with q | q
      · exact I.pr t q
      · rw [List.mem_singleton.mp q]; exact hb,I.li⟩
  | _ => exact I
theorem takeP_len (pl : List Int) (v : V) : (takeP pl v).length ≤ pl.length + 1:=by
  cases v <;> simp [takeP]
set_option maxHeartbeats 4000000 in
theorem f_taken (D : Def K mg "_law_taken" (top 47) ["_law_board", "_law_ranks_here", "_law_state"]) (TB : BTxt K C) (GB : FuM P w K mg base CX0 5 C "best" ["self"] (spBest C P5)) (GT : FuM P w K mg base CX0 7 C "take" ["self"] (spTake C P5)) (GLB : Fu P w K mg base CX0 2 "_law_best" ["_law_ranks_here", "_law_state"] (spLBest K)) (GS : Fu P w K mg base CX0 2 "_law_same" ["_law_found", "_law_due"] spSame) :
    Fu P w K mg base CX0 8 "_law_taken" ["_law_board", "_law_ranks_here", "_law_state"] (spTaken C P5):=by
  refine D.fu scTaken (fun vs H Q E h => ?_) (fun f cdv A outer s H vs Q E hr h => ?_)
  · obtain ⟨x,r,a,m,p,pr,st,t0,t1,rk,as,pl,lim,rfl,_⟩:=h
    rfl
  · obtain ⟨x,r,a,m,p,pr,st,t0,t1,rk,as,pl,lim,rfl,Z0,lp,kk⟩:=h
    refine ⟨_,pss_cons (ps_set (i:=3) scTaken.nd rfl (Or.inl rfl) (pc GLB hr pass0 (pa_cons (pv 1) (pa_cons (pv 2) pa_nil))))
      (pss_cons (ps_if (pt_not (pt_val (pc GS hr pass0 (pa_cons (pm0 GB TB.cl hr pass0 (pv 0)) (pa_cons (pv 3) pa_nil))))) (pss_one (ps_ret pe_bl)) pss_nil)
      (pss_cons (ps_if (pt_cmp (pc_notN (pv 3))) (pss_cons (ps_asg pe_bl (pg_sub (pe_ix ix_list (pv 2) pe_int (fun _ _ => rfl)) (pv 3) set_list)) (pss_one (ps_expr (pe_bm PySem.F.plainAttrs_list PySem.F.slot_list_append PySem.F.type_list_append mt_append (pe_ix ix_list (pv 2) pe_int (fun _ _ => rfl)) (pa_cons (pv 3) pa_nil))))) pss_nil)
      (pss_one (ps_ret (pc GS hr pass0 (pa_cons (pm0 GT TB.cl hr pass0 (pv 0)) (pa_cons (pv 3) pa_nil))))))),?_⟩
    refine ⟨_,rfl,_,rfl,pr,st,t0,t1,rk,as,pl,lim,rfl,Z0.pr,Z0.S,Z0.I,fun v H0 s0 hF => ?_⟩
    have Z00:=Z0.same s0
    obtain ⟨dx0,e00⟩:=Z00.B.at_
    refine ⟨_,rfl,x,dx0,_,rfl,e00,bf_no (by decide +kernel),x,r,a,m,p,rk,as,_,pl,lim,rfl,Z00.B,Z00.I,Z00.t,fun vb H1 kp1 tt1 hFb => ?_⟩
    have ev:=first_one hFb hF
    subst ev
    have Z1:=Z00.kp kp1 tt1
    have Z:=Z1
    have s1 : KeepBut (SL P5 x a p st t0 t1) H H1:=(kb_of s0).trans (KeepBut.kp kp1 (by simp))
    refine ⟨_,rfl,vb,rfl,first_scal hF,_,rfl,iteF ?_⟩
    have go : ∀ H2,KeepBut [t0,t1] H1 H2 → BoardAt C H2 x r a m p rk as (noM rk.length) pl lim → St3 H2 st t0 t1 (takeA as vb) (takeP pl vb) lim → H2 pr = some (.lst (rk.map V.int)) → TabF H2 P5 →
        tRet (tCall spSame [] E0 (tCons (tMeth C "take" (spTake C P5) [] E0 (tVar 0) tNil) (tCons (tVar 3) tNil))) { nx:=fun _ H' => Q .non H',rt:=Q } [some (.ref x),some (.ref pr),some (.ref st),some vb] H2:=fun H2 k2 B2 S2 pr2 tt2 => by
      obtain ⟨dx,e0⟩:=B2.at_
      refine ⟨_,rfl,x,dx,_,rfl,e0,bf_no (by decide +kernel),x,r,a,m,p,rk,as,_,pl,lim,rfl,B2,Z.I,tt2,lp,fun v2 H3 hF2 k3 tt3 B3 => ?_⟩
      have ev:=first_one hF2 hF
      subst ev
      refine ⟨_,rfl,v2,rfl,first_scal hF,?_⟩
      have hst : ∀ b ∈ [st,t0,t1],b ∉ [a,p,P5]:=fun b hb => by
        obtain ⟨_,_,h3,_,h5⟩:=Z.bd hb
        have h6 : b ≠ P5:=by
          simp only [List.mem_cons,List.not_mem_nil,or_false] at hb
          rcases hb with rfl | rfl | rfl
          · exact Z.t.ne Z.S.at_ (by intro _ z; cases z)
          · exact Z.t.ne Z.S.a0 (by intro _ z; cases z)
          · exact Z.t.ne Z.S.a1 (by intro _ z; cases z)
        simp only [List.mem_cons,List.not_mem_nil,or_false,not_or]
        exact ⟨h3,h5,h6⟩
      have S3:=S2.to (H':=H3) fun b o hb e => k3 b o e (hst b (by simp only [List.mem_cons,List.not_mem_nil,or_false]; exact hb))
      have pr3:=k3 _ _ pr2 (by
        simp only [List.mem_cons,List.not_mem_nil,or_false,not_or]
        exact ⟨Z.prn.2.2.2.1,Z.prn.2.2.2.2.2.1,Z.t.ne Z.pr (by intro _ z; cases z)⟩)
      refine kk H3 _ _ _ (KeepBut.trans (KeepBut.trans s1 (k2.more ?_)) (k3.more ?_)) ⟨B3,S3,pr3,Z.I.take hF,tt3,Z.dis,Z.prd⟩ (takeP_len _ _)
      · intro z hz; simp only [List.mem_cons,List.not_mem_nil,or_false] at hz ⊢; rcases hz with e | e <;> simp [e]
      · intro z hz; simp only [List.mem_cons,List.not_mem_nil,or_false] at hz ⊢; rcases hz with e | e | e <;> simp [e]
    refine ⟨_,rfl,_,rfl,?_⟩
    rcases first_scal hF with rfl | ⟨i,rfl⟩
    · exact iteF (go H1 (KeepBut.refl _ _) Z1.B Z1.S Z1.pr Z1.t)
    · have hb:=bestL_mem hF.1
      have la:=Z.I.la
      refine iteT ⟨_,rfl,st,_,_,_,rfl,rfl,SqL.of Z1.S.at_,rfl,_,rfl,t0,_,_,_,rfl,rfl,Z1.S.a0,ixN_nat hb.1 (by rw [List.length_map]; omega),?_⟩
      rw [show (as.map V.bl).set i.toNat (.bl false) = (as.set i.toNat false).map V.bl from (List.map_set ..).symm]
      have B2:=Z1.board (z:=t0) (o:=.lst ((as.set i.toNat false).map V.bl)) (by simp)
      have S2 : St3 (upd H1 t0 (.lst ((as.set i.toNat false).map V.bl))) st t0 t1 (as.set i.toNat false) pl lim:=Z1.S.set0
      have pr2 : upd H1 t0 (.lst ((as.set i.toNat false).map V.bl)) pr = some (.lst (rk.map V.int)):=by rw [upd_ne Z.prn.2.1]; exact Z1.pr
      have tt2 : TabF (upd H1 t0 (.lst ((as.set i.toNat false).map V.bl))) P5:=Z1.t.lst Z1.S.a0
      have k2 : KeepBut [t0,t1] H1 (upd H1 t0 (.lst ((as.set i.toNat false).map V.bl))):=(KeepBut.refl _ _).upd (.inl (by simp))
      generalize upd H1 t0 (.lst ((as.set i.toNat false).map V.bl)) = H2 at B2 S2 pr2 tt2 k2 ⊢
      refine ⟨_,rfl,st,_,_,_,rfl,rfl,SqL.of S2.at_,rfl,.inl ⟨rfl,_,SqL.of S2.a1⟩,_,rfl,t1,_,_,rfl,rfl,S2.a1,by rw [List.length_map,sizeLine_eq]; omega,?_⟩
      rw [show pl.map V.int ++ [V.int i] = (pl ++ [i]).map V.int by simp]
      refine go _ (k2.upd (.inl (by simp))) (B2.to fun b o hb' e => ?_) S2.set1 (by rw [upd_ne Z.prn.2.2.1]; exact pr2) (tt2.lst S2.a1)
      obtain ⟨q1,q2,q3,q4,q5⟩:=Z.bd (z:=t1) (by simp)
      rw [upd_ne]
      · exact e
      · rcases hb' with rfl | rfl | rfl | rfl | rfl
        · exact Ne.symm q1
        · exact Ne.symm q2
        · exact Ne.symm q3
        · exact Ne.symm q4
        · exact Ne.symm q5
theorem scLaid : FnScope ["_law_board", "_law_ranks_here", "_law_state", "_law_last_here"] ["_law_board", "_law_ranks_here", "_law_state"] (defScope (top 48)):=⟨rfl,rfl,rfl,by decide +kernel,rfl,by decide +kernel,by decide +kernel⟩
theorem f_laid (D : Def K mg "_law_laid" (top 48) ["_law_board", "_law_ranks_here", "_law_state"]) (GL : Fu P w K mg base CX0 2 "_law_last" ["_law_ranks_here", "_law_pile"] (spLast K)) (GR : Fu P w K mg base CX0 7 "_law_rings" ["_law_board", "_law_state", "_law_line"] (spRings C P5)) (GT : Fu P w K mg base CX0 8 "_law_taken" ["_law_board", "_law_ranks_here", "_law_state"] (spTaken C P5)) :
    Fu P w K mg base CX0 9 "_law_laid" ["_law_board", "_law_ranks_here", "_law_state"] (spTaken C P5):=by
  refine D.fu scLaid (fun vs H Q E h => ?_) (fun f cdv A outer s H vs Q E hr h => ?_)
  · obtain ⟨x,r,a,m,p,pr,st,t0,t1,rk,as,pl,lim,rfl,_⟩:=h
    rfl
  · obtain ⟨x,r,a,m,p,pr,st,t0,t1,rk,as,pl,lim,rfl,Z,lp,kk⟩:=h
    refine ⟨_,pss_cons (ps_set (i:=3) scLaid.nd rfl (Or.inl rfl) (pc GL hr pass0 (pa_cons (pv 1) (pa_cons (pe_ix ix_list (pv 2) pe_int (fun _ _ => rfl)) pa_nil))))
      (pss_cons (ps_if (pw_and (pt_cmp (pc_notN (pv 3))) (pw_and1 (pt_not (pt_val (pc GR hr pass0 (pa_cons (pv 0) (pa_cons (pv 2) (pa_cons (pv 3) pa_nil)))))))).pt (pss_one (ps_ret pe_bl)) pss_nil)
      (pss_one (ps_ret (pc GT hr pass0 (pa_cons (pv 0) (pa_cons (pv 1) (pa_cons (pv 2) pa_nil))))))),?_⟩
    refine ⟨_,rfl,_,rfl,st,_,_,_,rfl,rfl,SqL.of Z.S.at_,rfl,pr,t1,rk,pl,rfl,Z.pr,Z.S.a1,Z.I.l60,Z.I.pr,fun v H1 s1 hv => ?_⟩
    have Z1:=Z.same s1
    refine ⟨_,rfl,_,rfl,?_⟩
    rcases hv with rfl | ⟨i,rfl,h0,h1⟩
    · refine iteF (iteF ?_)
      exact ⟨_,rfl,_,rfl,_,rfl,x,r,a,m,p,pr,st,t0,t1,rk,as,pl,lim,rfl,Z1,lp,kk.pre (kb_of s1)⟩
    · refine iteT ⟨_,rfl,_,rfl,_,rfl,x,r,a,m,p,pr,st,t0,t1,rk,as,pl,lim,i,rfl,Z1,h0,h1,fun H2 k2 Z2 => ⟨_,rfl,iteF ?_⟩⟩
      exact ⟨_,rfl,_,rfl,_,rfl,x,r,a,m,p,pr,st,t0,t1,rk,_,pl,lim,rfl,Z2,lp,kk.pre ((kb_of s1).trans k2)⟩
def spBars (C P5 : Addr) : Sp:=fun vs H Q _ => ∃ (x r a m p pr st t0 t1 : Addr) (rk : List Int) (as : List Bool) (pl : List Int) (lim : V) (c i : Int),vs = [.ref x,.ref pr,.ref st,.int c,.int i] ∧ Both C P5 H x r a m p pr st t0 t1 rk as pl lim ∧ 0 ≤ i ∧ i < rk.length ∧ (∀ y ∈ rk,0 ≤ y ∧ y < M60) ∧ Leaves C P5 H x r a m p pr st t0 t1 rk pl.length Q
theorem scBars : FnScope ["_law_board", "_law_ranks_here", "_law_state", "_law_cell", "_law_line", "_law_bars_here", "_law_old"] ["_law_board", "_law_ranks_here", "_law_state", "_law_cell", "_law_line"] (defScope (top 49)):=⟨rfl,rfl,rfl,by decide +kernel,rfl,by decide +kernel,by decide +kernel⟩
theorem seven {r i : Int} (h0 : 0 ≤ i) (h1 : i < 7) (r0 : 0 ≤ r) (r1 : r < M60) : ∃ v,atI [V.non,.non,.non,.int 0,.int r,.int (r + 1),.int (10 ^ (60 : Int).toNat)] i = some v ∧ BarV v:=by
  have hp:=M60_pos
  have hi : i = 0 ∨ i = 1 ∨ i = 2 ∨ i = 3 ∨ i = 4 ∨ i = 5 ∨ i = 6:=by omega
  rcases hi with rfl | rfl | rfl | rfl | rfl | rfl | rfl
  · exact ⟨_,rfl,.inl rfl⟩
  · exact ⟨_,rfl,.inl rfl⟩
  · exact ⟨_,rfl,.inl rfl⟩
  · exact ⟨_,rfl,.inr ⟨_,rfl,by omega,by omega⟩⟩
  · exact ⟨_,rfl,.inr ⟨_,rfl,by omega,by omega⟩⟩
  · exact ⟨_,rfl,.inr ⟨_,rfl,by omega,by omega⟩⟩
  · exact ⟨_,rfl,.inr ⟨_,rfl,(by show 0 ≤ M60; omega),Int.le_refl _⟩⟩
set_option maxHeartbeats 2000000 in
theorem f_bars (D : Def K mg "_law_bars" (top 49) ["_law_board", "_law_ranks_here", "_law_state", "_law_cell", "_law_line"]) (TB : BTxt K C) (GS : Fu P w K mg base CX0 2 "_law_same" ["_law_found", "_law_due"] spSame) (GBar : FuM P w K mg base CX0 4 C "bar" ["self", "rank"] (spBarM C)) : Fu P w K mg base CX0 5 "_law_bars" ["_law_board", "_law_ranks_here", "_law_state", "_law_cell", "_law_line"] (spBars C P5):=by
  refine D.fu scBars (fun vs H Q E h => ?_) (fun f cdv A outer s H vs Q E hr h => ?_)
  · obtain ⟨x,r,a,m,p,pr,st,t0,t1,rk,as,pl,lim,c,i,rfl,_⟩:=h
    rfl
  · obtain ⟨x,r,a,m,p,pr,st,t0,t1,rk,as,pl,lim,c,i,rfl,Z,h0,h1,hrk,kk⟩:=h
    refine ⟨_,pss_cons (ps_set (i:=5) scBars.nd rfl (Or.inl rfl) (pe_lst (pa_cons pe_non (pa_cons pe_non (pa_cons pe_non (pa_cons pe_int (pa_cons (pe_ix ix_list (pv 1) (pv 4) (fun _ _ => rfl)) (pa_cons (pe_op op_add (pe_ix ix_list (pv 1) (pv 4) (fun _ _ => rfl)) pe_int) (pa_cons (pe_op op_pow pe_int pe_int) pa_nil)))))))))
      (pss_cons (ps_set (i:=6) scBars.nd rfl (Or.inl rfl) (pe_ix ix_list (pv 2) pe_int (fun _ _ => rfl)))
      (pss_cons (ps_asg (pe_ix ix_list (pv 5) (pe_op op_mod (pv 3) pe_int) (fun _ _ => rfl)) (pg_sub (pv 2) pe_int set_list))
      (pss_one (ps_ret (pc GS hr pass0 (pa_cons (pm GBar TB.cl hr pass0 (pv 0) (pa_cons (pe_ix ix_list (pv 2) pe_int (fun _ _ => rfl)) pa_nil)) (pa_cons (pv 6) pa_nil))))))),?_⟩
    have at2 : ∀ lim : V,atI [V.ref t0,.ref t1,lim] 2 = some lim:=fun _ => rfl
    refine ⟨_,rfl,_,rfl,pr,_,_,_,rfl,rfl,SqL.of Z.pr,atI_int h0 h1,_,rfl,_,rfl,pr,_,_,_,rfl,rfl,SqL.of Z.pr,atI_int h0 h1,_,_,rfl,rfl,_,_,rfl,rfl,cpow _ _ (by decide +kernel),(by show 7 ≤ sizeLine; decide),fun d nd => ?_⟩
    have hb:=hrk (rk.getD i.toNat 0) (by
      have hlt : i.toNat < rk.length:=by omega
      simp only [List.getD,List.getElem?_eq_getElem hlt,Option.getD_some]
      exact List.getElem_mem _)
    obtain ⟨v,ev,bv⟩:=seven (r:=rk.getD i.toNat 0) (i:=c % 7) (by omega) (by omega) hb.1 hb.2
    have s1:=Same.new (o:=.lst [V.non,.non,.non,.int 0,.int (rk.getD i.toNat 0),.int (rk.getD i.toNat 0 + 1),.int (10 ^ (60 : Int).toNat)]) nd
    have ed:=upd_same (H:=H) (a:=d) (o:=.lst [V.non,.non,.non,.int 0,.int (rk.getD i.toNat 0),.int (rk.getD i.toNat 0 + 1),.int (10 ^ (60 : Int).toNat)])
    have Z2:=Z.same s1
    refine ⟨_,rfl,st,_,_,_,rfl,rfl,SqL.of Z2.S.at_,at2 lim,?_⟩
    refine ⟨_,rfl,_,rfl,_,_,rfl,rfl,(by show (0 : Int) < 7; decide),d,_,_,v,rfl,rfl,SqL.of ed,ev,?_⟩
    refine ⟨_,rfl,st,_,_,_,rfl,rfl,Z2.S.at_,rfl,?_⟩
    have S3 : St3 (upd (upd H d (.lst [V.non,.non,.non,.int 0,.int (rk.getD i.toNat 0),.int (rk.getD i.toNat 0 + 1),.int (10 ^ (60 : Int).toNat)])) st (.lst [.ref t0,.ref t1,v])) st t0 t1 as pl v:=Z2.S.set2
    have B3:=Z2.board (z:=st) (o:=.lst [.ref t0,.ref t1,v]) (by simp)
    have pr3 : upd (upd H d (.lst [V.non,.non,.non,.int 0,.int (rk.getD i.toNat 0),.int (rk.getD i.toNat 0 + 1),.int (10 ^ (60 : Int).toNat)])) st (.lst [.ref t0,.ref t1,v]) pr = some (.lst (rk.map V.int)):=by rw [upd_ne Z.prn.1]; exact Z2.pr
    have tt3 : TabF (upd (upd H d (.lst [V.non,.non,.non,.int 0,.int (rk.getD i.toNat 0),.int (rk.getD i.toNat 0 + 1),.int (10 ^ (60 : Int).toNat)])) st (.lst [.ref t0,.ref t1,v])) P5:=Z2.t.lst Z2.S.at_
    have k3 : KeepBut (SL P5 x a p st t0 t1) H (upd (upd H d (.lst [V.non,.non,.non,.int 0,.int (rk.getD i.toNat 0),.int (rk.getD i.toNat 0 + 1),.int (10 ^ (60 : Int).toNat)])) st (.lst [.ref t0,.ref t1,v])):=KeepBut.upd (kb_of s1) (.inl (by simp))
    obtain ⟨dx,e0⟩:=B3.at_
    refine ⟨_,rfl,x,dx,_,rfl,e0,bf_no (by decide +kernel),_,rfl,st,_,_,_,rfl,rfl,SqL.of S3.at_,at2 v,x,r,a,m,p,rk,as,_,pl,lim,v,rfl,B3,bv,fun H4 k4 B4 => ?_⟩
    refine ⟨_,rfl,lim,rfl,Z.I.li,?_⟩
    have q : ∀ b ∈ [st,t0,t1],b ∉ [x]:=fun b hb => by simpa using (Z.bd hb).1
    refine kk H4 as pl v (k3.trans (k4.more (by simp))) ⟨B4,S3.to fun b o hb e => k4 b o e (q b (by simp only [List.mem_cons,List.not_mem_nil,or_false]; exact hb)),k4 _ _ pr3 (by simpa using Z.prn.2.2.2.2.2.2),Z.I.setL (barv_scal bv),?_,Z.dis,Z.prd⟩ (Nat.le_refl _)
    exact tab_kb tt3 k4 fun z hz => by
      have e : z = x:=by simpa using hz
      subst e
      exact .inr ⟨_,_,_,e0⟩
end
end K05

namespace K05
open PySem L2 L3
section
variable {P : Program} {w : World} {K : PySem.W.Frag} {mg : Str → Option Value} {base : Heap} {C P5 CN CB CT CE : Addr}
theorem odd8 {p1 p2 : Addr} {H : Hp} {x : Str} {n : Nat} {j i : Int} (h0 : 0 ≤ i) (h1 : i < 8) (hj : (n : Int) ≤ j) (e1 : H p1 = some (.lst [.int 0])) (e2 : H p2 = some (.tup [.int 0])) :
    ∃ v,atI [V.int (-1),.int n,.int j,.bl true,.non,.str x,.ref p1,.ref p2] i = some v ∧ Odd K H n v:=by
  have hi : i = 0 ∨ i = 1 ∨ i = 2 ∨ i = 3 ∨ i = 4 ∨ i = 5 ∨ i = 6 ∨ i = 7:=by omega
  rcases hi with rfl | rfl | rfl | rfl | rfl | rfl | rfl | rfl
  · exact ⟨_,rfl,.inl ⟨_,rfl,by omega⟩⟩
  · exact ⟨_,rfl,.inl ⟨_,rfl,by omega⟩⟩
  · exact ⟨_,rfl,.inl ⟨_,rfl,by omega⟩⟩
  · exact ⟨_,rfl,.inr (whole_bl _)⟩
  · exact ⟨_,rfl,.inr whole_non⟩
  · exact ⟨_,rfl,.inr (whole_str _)⟩
  · exact ⟨_,rfl,.inr (whole_lst e1)⟩
  · exact ⟨_,rfl,.inr (whole_tup e2)⟩
theorem bad8 {p1 p2 : Addr} {H : Hp} {x : Str} {j i : Int} (h0 : 0 ≤ i) (h1 : i < 8) (hj : j < 0) (e1 : H p1 = some (.lst [.int 0])) (e2 : H p2 = some (.tup [.int 0])) :
    ∃ v,atI [V.int (-1),.int (10 ^ (60 : Int).toNat + 1),.int j,.bl true,.bl false,.str x,.ref p1,.ref p2] i = some v ∧ BadBar K H v:=by
  have hp:=M60_pos
  have hi : i = 0 ∨ i = 1 ∨ i = 2 ∨ i = 3 ∨ i = 4 ∨ i = 5 ∨ i = 6 ∨ i = 7:=by omega
  rcases hi with rfl | rfl | rfl | rfl | rfl | rfl | rfl | rfl
  · exact ⟨_,rfl,.inl ⟨_,rfl,by omega⟩⟩
  · exact ⟨_,rfl,.inl ⟨_,rfl,fun z => by have h2 : M60 + 1 ≤ M60:=z.2; omega⟩⟩
  · exact ⟨_,rfl,.inl ⟨_,rfl,by omega⟩⟩
  · exact ⟨_,rfl,.inr ⟨whole_bl _,by simp⟩⟩
  · exact ⟨_,rfl,.inr ⟨whole_bl _,by simp⟩⟩
  · exact ⟨_,rfl,.inr ⟨whole_str _,by simp⟩⟩
  · exact ⟨_,rfl,.inr ⟨whole_lst e1,by simp⟩⟩
  · exact ⟨_,rfl,.inr ⟨whole_tup e2,by simp⟩⟩
theorem six_words {i : Int} (h0 : 0 ≤ i) (h1 : i < 6) : ∃ wd : Int,atI [V.int 5,.int 5,.int 0,.int 1,.int 2,.int 3] i = some (.int wd) ∧ 0 ≤ wd ∧ wd ≤ 5 ∧ wd ≠ 4:=by
  have hi : i = 0 ∨ i = 1 ∨ i = 2 ∨ i = 3 ∨ i = 4 ∨ i = 5:=by omega
  rcases hi with rfl | rfl | rfl | rfl | rfl | rfl <;> exact ⟨_,rfl,by decide,by decide,by decide⟩
theorem int_eqF {a b : Int} (h : a ≠ b) : decide (V.int a = V.int b) = false:=decide_eq_false fun z => h (by injection z)
theorem int_eqT {a b : Int} (h : a = b) : decide (V.int a = V.int b) = true:=decide_eq_true (by rw [h])
def spDeed (C P5 : Addr) : Sp:=fun vs H Q _ => ∃ (x r a m p pr st t0 t1 : Addr) (rk : List Int) (as : List Bool) (pl : List Int) (lim : V) (c i : Int),vs = [.ref x,.ref pr,.ref st,.int c,.int i] ∧ Both C P5 H x r a m p pr st t0 t1 rk as pl lim ∧ pl.length ≤ 1000 ∧ 0 ≤ i ∧ i < rk.length ∧ (∀ y ∈ rk,0 ≤ y ∧ y < M60) ∧ Leaves C P5 H x r a m p pr st t0 t1 rk (pl.length + 1) Q
theorem scDeed : FnScope ["_law_board", "_law_ranks_here", "_law_state", "_law_cell", "_law_line", "_law_word", "_law_some", "_law_size", "_law_odd"] ["_law_board", "_law_ranks_here", "_law_state", "_law_cell", "_law_line"] (defScope (top 50)):=⟨rfl,rfl,rfl,by decide +kernel,rfl,by decide +kernel,by decide +kernel⟩
set_option maxHeartbeats 8000000 in
theorem f_deed (D : Def K mg "_law_deed" (top 50) ["_law_board", "_law_ranks_here", "_law_state", "_law_cell", "_law_line"]) (T : Txt K mg) (GL : Fu P w K mg base CX0 9 "_law_laid" ["_law_board", "_law_ranks_here", "_law_state"] (spTaken C P5)) (GR : Fu P w K mg base CX0 7 "_law_rings" ["_law_board", "_law_state", "_law_line"] (spRings C P5)) (GT : Fu P w K mg base CX0 8 "_law_taken" ["_law_board", "_law_ranks_here", "_law_state"] (spTaken C P5))
    (GE : Fu P w K mg base CX0 7 "_law_ended" ["_law_board", "_law_pile", "_law_line"] (spEnded C P5)) (GX : Fu P w K mg base CX0 8 "_law_refused" ["_law_board", "_law_word", "_law_odd"] (spRefu K C CN CB)) (GB : Fu P w K mg base CX0 5 "_law_bars" ["_law_board", "_law_ranks_here", "_law_state", "_law_cell", "_law_line"] (spBars C P5)) :
    Fu P w K mg base CX0 10 "_law_deed" ["_law_board", "_law_ranks_here", "_law_state", "_law_cell", "_law_line"] (spDeed C P5):=by
  refine D.fu scDeed (fun vs H Q E h => ?_) (fun f cdv A outer s H vs Q E hr h => ?_)
  · obtain ⟨x,r,a,m,p,pr,st,t0,t1,rk,as,pl,lim,c,i,rfl,_⟩:=h
    rfl
  · obtain ⟨x,r,a,m,p,pr,st,t0,t1,rk,as,pl,lim,c,i,rfl,Z,lp,h0,h1,hrk,kk⟩:=h
    refine ⟨_,pss_cons (ps_set (i:=5) scDeed.nd rfl (Or.inl rfl) (pe_op op_mod (pv 3) pe_int))
      (pss_cons (ps_set (i:=6) scDeed.nd rfl (Or.inl rfl) (pe_op op_fdiv (pv 3) pe_int))
      (pss_cons (ps_set (i:=7) scDeed.nd rfl (Or.inl rfl) (p_len T.len (pv 1)))
      (pss_cons (ps_if (pt_cmpR op_lt (pv 5) pe_int (nomark _)) (pss_one (ps_ret (pc GL hr pass0 (pa_cons (pv 0) (pa_cons (pv 1) (pa_cons (pv 2) pa_nil)))))) pss_nil)
      (pss_cons (ps_if (pt_cmpR op_eq (pv 5) pe_int (nomark _)) (pss_one (ps_ret (pc GR hr pass0 (pa_cons (pv 0) (pa_cons (pv 2) (pa_cons (pv 4) pa_nil)))))) pss_nil)
      (pss_cons (ps_if (pt_cmpR op_eq (pv 5) pe_int (nomark _)) (pss_one (ps_ret (pc GT hr pass0 (pa_cons (pv 0) (pa_cons (pv 1) (pa_cons (pv 2) pa_nil)))))) pss_nil)
      (pss_cons (ps_if (pw_and (pt_cmpR op_eq (pv 5) pe_int (nomark _)) (pw_and1 (pt_cmpR (op_neI hr.units) (pe_ix ix_list (pv 2) pe_int (fun _ _ => rfl)) (pe_lst pa_nil) (nomark _)))).pt (pss_one (ps_ret (pc GE hr pass0 (pa_cons (pv 0) (pa_cons (pe_ix ix_list (pv 2) pe_int (fun _ _ => rfl)) (pa_cons (pe_ix ix_list (pe_ix ix_list (pv 2) pe_int (fun _ _ => rfl)) (pe_un un_neg pe_int) (fun _ _ => rfl)) pa_nil)))))) pss_nil)
      (pss_cons (ps_if (pt_cmpR op_lt (pv 5) pe_int (nomark _)) (pss_one (ps_ret (pc GE hr pass0 (pa_cons (pv 0) (pa_cons (pe_ix ix_list (pv 2) pe_int (fun _ _ => rfl)) (pa_cons (pv 4) pa_nil)))))) pss_nil)
      (pss_cons (ps_if (pt_cmpR op_eq (pv 5) pe_int (nomark _))
        (pss_cons (ps_set (i:=8) scDeed.nd rfl (Or.inl rfl) (pe_ix ix_list (pe_lst (pa_cons (pe_un un_neg pe_int) (pa_cons (pv 7) (pa_cons (pe_op op_add (pv 7) (pe_op op_mod (pe_op op_fdiv (pv 6) pe_int) (pe_op op_pow pe_int pe_int))) (pa_cons pe_bl (pa_cons pe_non (pa_cons pe_str (pa_cons (pe_lst (pa_cons pe_int pa_nil)) (pa_cons (pe_tup (pa_cons pe_int pa_nil)) pa_nil))))))))) (pe_op op_mod (pv 6) pe_int) (fun _ _ => rfl)))
        (pss_one (ps_ret (pc GX hr pass0 (pa_cons (pv 0) (pa_cons (pe_ix ix_list (pe_lst (pa_cons pe_int (pa_cons pe_int (pa_cons pe_int (pa_cons pe_int (pa_cons pe_int (pa_cons pe_int pa_nil))))))) (pe_op op_mod (pe_op op_fdiv (pv 6) pe_int) pe_int) (fun _ _ => rfl)) (pa_cons (pv 8) pa_nil))))))) pss_nil)
      (pss_cons (ps_if (pt_cmpR op_eq (pv 5) pe_int (nomark _))
        (pss_cons (ps_set (i:=8) scDeed.nd rfl (Or.inl rfl) (pe_ix ix_list (pe_lst (pa_cons (pe_un un_neg pe_int) (pa_cons (pe_op op_add (pe_op op_pow pe_int pe_int) pe_int) (pa_cons (pe_op op_sub (pe_un un_neg pe_int) (pe_op op_mod (pe_op op_fdiv (pv 6) pe_int) (pe_op op_pow pe_int pe_int))) (pa_cons pe_bl (pa_cons pe_bl (pa_cons pe_str (pa_cons (pe_lst (pa_cons pe_int pa_nil)) (pa_cons (pe_tup (pa_cons pe_int pa_nil)) pa_nil))))))))) (pe_op op_mod (pv 6) pe_int) (fun _ _ => rfl)))
        (pss_one (ps_ret (pc GX hr pass0 (pa_cons (pv 0) (pa_cons pe_int (pa_cons (pv 8) pa_nil))))))) pss_nil)
      (pss_one (ps_ret (pc GB hr pass0 (pa_cons (pv 0) (pa_cons (pv 1) (pa_cons (pv 2) (pa_cons (pv 6) (pa_cons (pv 4) pa_nil))))))))))))))))),?_⟩
    refine ⟨_,rfl,_,_,rfl,rfl,(by show (0 : Int) < 10; decide),?_⟩
    refine ⟨_,rfl,_,_,rfl,rfl,⟨by decide,by decide⟩,?_⟩
    refine ⟨_,rfl,pr,_,rfl,.inl (SqL.of Z.pr),?_⟩
    rw [List.length_map]
    have w0 : 0 ≤ c % 10:=by omega
    have w9 : c % 10 < 10:=by omega
    refine ⟨_,rfl,_,_,rfl,rfl,_,rfl,ite2 (fun hc => ?_) (fun hc => ?_)⟩
    · exact ⟨_,rfl,_,rfl,_,rfl,x,r,a,m,p,pr,st,t0,t1,rk,as,pl,lim,rfl,Z,lp,kk⟩
    have w3 : ¬ c % 10 < 3:=fun z => hc (decide_eq_true z)
    by_cases e3 : c % 10 = 3
    · refine ⟨_,rfl,rfl,_,rfl,iteTe (int_eqT e3) ?_⟩
      exact ⟨_,rfl,_,rfl,_,rfl,x,r,a,m,p,pr,st,t0,t1,rk,as,pl,lim,i,rfl,Z,h0,h1,fun H' k Z' => kk H' _ _ _ k Z' (by omega)⟩
    refine ⟨_,rfl,rfl,_,rfl,iteFe (int_eqF e3) ?_⟩
    by_cases e4 : c % 10 = 4
    · refine ⟨_,rfl,rfl,_,rfl,iteTe (int_eqT e4) ?_⟩
      exact ⟨_,rfl,_,rfl,_,rfl,x,r,a,m,p,pr,st,t0,t1,rk,as,pl,lim,rfl,Z,lp,kk⟩
    refine ⟨_,rfl,rfl,_,rfl,iteFe (int_eqF e4) ?_⟩
    by_cases e5 : c % 10 = 5
    · refine ⟨_,rfl,rfl,_,rfl,iteTe (int_eqT e5) ⟨_,rfl,st,_,_,_,rfl,rfl,SqL.of Z.S.at_,rfl,(by show 0 ≤ sizeLine; decide),fun e ne => ⟨t1,e,pl,[],rfl,rfl,(Same.new ne).seq (SqL.of Z.S.a1),SqL.new (xs:=([] : List Int).map V.int),_,rfl,?_⟩⟩⟩
      have s1:=Same.new (o:=.lst []) ne
      have Z1:=Z.same s1
      cases el : pl.getLast? with
      | none =>
        have e' : pl = []:=List.getLast?_eq_none_iff.mp el
        refine iteFe (by rw [decide_eq_true e']; rfl) ?_
        refine ⟨_,rfl,_,_,rfl,rfl,_,rfl,iteTe (decide_eq_true (by rw [e5]; decide)) ?_⟩
        exact ⟨_,rfl,_,rfl,st,_,_,_,rfl,rfl,SqL.of Z1.S.at_,rfl,_,rfl,x,r,a,m,p,pr,st,t0,t1,rk,as,pl,lim,i,rfl,Z1,h0,h1,fun H' k Z' => kk H' _ _ _ ((kb_of s1).trans k) Z' (by have:=endP_len pl i; omega)⟩
      | some t =>
        have hne : pl ≠ []:=by intro z; rw [z] at el; cases el
        have hm:=Z.I.pr t (List.mem_of_getLast? el)
        refine iteTe (by rw [decide_eq_false hne]; rfl) ?_
        exact ⟨_,rfl,_,rfl,st,_,_,_,rfl,rfl,SqL.of Z1.S.at_,rfl,_,rfl,st,_,_,_,rfl,rfl,SqL.of Z1.S.at_,rfl,_,rfl,t1,_,_,_,rfl,rfl,SqL.of Z1.S.a1,last_atI el,x,r,a,m,p,pr,st,t0,t1,rk,as,pl,lim,t,rfl,Z1,hm.1,hm.2,fun H' k Z' => kk H' _ _ _ ((kb_of s1).trans k) Z' (by have:=endP_len pl t; omega)⟩
    refine ⟨_,rfl,rfl,_,rfl,iteFe (int_eqF e5) (iteF ?_)⟩
    by_cases e6 : c % 10 < 7
    · refine ⟨_,rfl,_,_,rfl,rfl,_,rfl,iteTe (decide_eq_true e6) ?_⟩
      exact ⟨_,rfl,_,rfl,st,_,_,_,rfl,rfl,SqL.of Z.S.at_,rfl,_,rfl,x,r,a,m,p,pr,st,t0,t1,rk,as,pl,lim,i,rfl,Z,h0,h1,fun H' k Z' => kk H' _ _ _ k Z' (by have:=endP_len pl i; omega)⟩
    refine ⟨_,rfl,_,_,rfl,rfl,_,rfl,iteFe (decide_eq_false e6) ?_⟩
    have hpos : (0 : Int) < 10 ^ (60 : Int).toNat:=by decide
    by_cases e7 : c % 10 = 7
    · refine ⟨_,rfl,rfl,_,rfl,iteTe (int_eqT e7) ?_⟩
      refine ⟨_,rfl,_,rfl,_,rfl,_,rfl,_,_,rfl,rfl,⟨by decide,by decide⟩,_,_,rfl,rfl,cpow _ _ (by decide +kernel),_,_,rfl,rfl,hpos,_,_,rfl,rfl,(by show 1 ≤ sizeLine; decide),fun p1 n1 => ⟨(by show 1 ≤ sizeLine; decide),fun p2 n2 => ⟨(by show 8 ≤ sizeLine; decide),fun d nd => ?_⟩⟩⟩
      have u1:=Same.new (o:=.lst [.int 0]) n1
      have u2:=Same.new (o:=.tup [.int 0]) n2
      have u3:=Same.new (o:=.lst [V.int (-1),.int (rk.length : Int),.int ((rk.length : Int) + (c / 10) / 8 % 10 ^ (60 : Int).toNat),.bl true,.non,.str "0",.ref p1,.ref p2]) nd
      obtain ⟨v,ev,hv⟩:=odd8 (K:=K) (x := "0") (n:=rk.length) (j:=(rk.length : Int) + (c / 10) / 8 % 10 ^ (60 : Int).toNat) (i:=(c / 10) % 8) (by omega) (by omega) (by have:=Int.emod_nonneg ((c / 10) / 8) (b:=10 ^ (60 : Int).toNat) (by decide); omega)
        ((u2.trans u3) _ _ (upd_same (H:=H) (a:=p1))) (u3 _ _ (upd_same (a:=p2)))
      refine ⟨_,rfl,_,_,rfl,rfl,(by show (0 : Int) < 8; decide),d,_,_,v,rfl,rfl,SqL.of upd_same,ev,?_⟩
      obtain ⟨wq,ew,q0,q5,q4⟩:=six_words (i:=(c / 10) / 8 % 6) (by omega) (by omega)
      have s3:=(u1.trans u2).trans u3
      have Z3:=Z.same s3
      refine ⟨_,rfl,(by show 6 ≤ sizeLine; decide),fun e ne => ⟨_,rfl,_,_,rfl,rfl,⟨by decide,by decide⟩,_,_,rfl,rfl,(by show (0 : Int) < 6; decide),e,_,_,_,rfl,rfl,SqL.of upd_same,ew,_,rfl,?_⟩⟩
      have u4:=Same.new (o:=.lst [V.int 5,.int 5,.int 0,.int 1,.int 2,.int 3]) ne
      have Z4:=Z3.same u4
      have R : Refd K CN CB (upd (upd (upd (upd H p1 (.lst [.int 0])) p2 (.tup [.int 0])) d (.lst [V.int (-1),.int (rk.length : Int),.int ((rk.length : Int) + (c / 10) / 8 % 10 ^ (60 : Int).toNat),.bl true,.non,.str "0",.ref p1,.ref p2])) e (.lst [V.int 5,.int 5,.int 0,.int 1,.int 2,.int 3])) rk.length wq v CN:=Refd.same (.inl ⟨q0,q5,q4,hv,rfl⟩) u4
      exact ⟨x,r,a,m,p,rk,as,_,pl,lim,wq,v,CN,rfl,Z4.B,R,fun H' s' => kk H' _ _ _ (kb_of ((s3.trans u4).trans s')) (Z4.same s') (by omega)⟩
    refine ⟨_,rfl,rfl,_,rfl,iteFe (int_eqF e7) ?_⟩
    by_cases e8 : c % 10 = 8
    · refine ⟨_,rfl,rfl,_,rfl,iteTe (int_eqT e8) ?_⟩
      refine ⟨_,rfl,_,_,rfl,rfl,cpow _ _ (by decide +kernel),_,_,rfl,rfl,_,rfl,_,rfl,_,_,rfl,rfl,⟨by decide,by decide⟩,_,_,rfl,rfl,cpow _ _ (by decide +kernel),_,_,rfl,rfl,hpos,_,_,rfl,rfl,(by show 1 ≤ sizeLine; decide),fun p1 n1 => ⟨(by show 1 ≤ sizeLine; decide),fun p2 n2 => ⟨(by show 8 ≤ sizeLine; decide),fun d nd => ?_⟩⟩⟩
      have u1:=Same.new (o:=.lst [.int 0]) n1
      have u2:=Same.new (o:=.tup [.int 0]) n2
      have u3:=Same.new (o:=.lst [V.int (-1),.int (10 ^ (60 : Int).toNat + 1),.int (-1 - (c / 10) / 8 % 10 ^ (60 : Int).toNat),.bl true,.bl false,.str "0",.ref p1,.ref p2]) nd
      obtain ⟨v,ev,hv⟩:=bad8 (K:=K) (x := "0") (j:=-1 - (c / 10) / 8 % 10 ^ (60 : Int).toNat) (i:=(c / 10) % 8) (by omega) (by omega) (by have:=Int.emod_nonneg ((c / 10) / 8) (b:=10 ^ (60 : Int).toNat) (by decide); omega)
        ((u2.trans u3) _ _ (upd_same (H:=H) (a:=p1))) (u3 _ _ (upd_same (a:=p2)))
      refine ⟨_,rfl,_,_,rfl,rfl,(by show (0 : Int) < 8; decide),d,_,_,v,rfl,rfl,SqL.of upd_same,ev,?_⟩
      have s3:=(u1.trans u2).trans u3
      have Z3:=Z.same s3
      exact ⟨_,rfl,_,rfl,x,r,a,m,p,rk,as,_,pl,lim,4,v,CB,rfl,Z3.B,.inr ⟨rfl,hv,rfl⟩,fun H' s' => kk H' _ _ _ (kb_of (s3.trans s')) (Z3.same s') (by omega)⟩
    refine ⟨_,rfl,rfl,_,rfl,iteFe (int_eqF e8) ?_⟩
    exact ⟨_,rfl,_,rfl,_,rfl,_,rfl,_,rfl,x,r,a,m,p,pr,st,t0,t1,rk,as,pl,lim,(c / 10),i,rfl,Z,h0,h1,hrk,fun H' _ _ _ k Z' hl => kk H' _ _ _ k Z' (by omega)⟩
theorem idx_no (n k : Nat) : idxL (noM n) k = []:=by
  induction k with
  | zero => rfl
  | succ k ih =>
    rw [idxL_succ,ih]
    have : (noM n).getD k false = false:=by
      unfold noM
      rw [List.getD_eq_getElem?_getD,List.getElem?_replicate]
      split <;> rfl
    rw [this]
    rfl
def spShows (C P5 : Addr) : Sp:=fun vs H Q _ => ∃ (x r a m p pr st t0 t1 : Addr) (rk : List Int) (as : List Bool) (pl : List Int) (lim : V),vs = [.ref x,.ref st] ∧ Both C P5 H x r a m p pr st t0 t1 rk as pl lim ∧ ∀ H',Same H H' → Q (.bl true) H'
theorem scShows : FnScope ["_law_board", "_law_state", "_law_found", "_law_dues", "_law_k", "_law_line"] ["_law_board", "_law_state"] (defScope (top 51)):=⟨rfl,rfl,rfl,by decide +kernel,rfl,by decide +kernel,by decide +kernel⟩
set_option maxHeartbeats 4000000 in
theorem f_shows (D : Def K mg "_law_shows" (top 51) ["_law_board", "_law_state"]) (T : Txt K mg) (TB : BTxt K C) (GT : FuM P w K mg base CX0 2 C "told" ["self"] (spTold C)) (GW : Fu P w K mg base CX0 1 "_law_whole" ["_law_found"] (spWhole K)) (GS : Fu P w K mg base CX0 2 "_law_same" ["_law_found", "_law_due"] spSame) :
    Fu P w K mg base CX0 3 "_law_shows" ["_law_board", "_law_state"] (spShows C P5):=by
  refine D.fu scShows (fun vs H Q E h => ?_) (fun f cdv A outer s H vs Q E hr h => ?_)
  · obtain ⟨x,r,a,m,p,pr,st,t0,t1,rk,as,pl,lim,rfl,_⟩:=h
    rfl
  · obtain ⟨x,r,a,m,p,pr,st,t0,t1,rk,as,pl,lim,rfl,Z,kk⟩:=h
    refine' ⟨_,pss_cons (ps_set (i:=2) scShows.nd rfl (Or.inl rfl) (pm0 GT TB.cl hr pass0 (pv 0)))
      (pss_cons (ps_if (pw_or (pt_not (pt_val (p_isi T.isi T.tuple boot_tuple' (pv 2)))) (pw_or1 (pt_cmpR op_ne (p_len T.len (pv 2)) pe_int (nomark _)))).pt (pss_one (ps_ret pe_bl)) pss_nil)
      (pss_cons (ps_set (i:=3) scShows.nd rfl (Or.inl rfl) (pe_lst (pa_cons (pe_comp (ts:=["_law_line"]) (fvs:=["_law_state"]) (js:=[1]) (cl:=[("_law_state",s.heap.objs.size + 1)]) rfl ?S (pi_range1 rfl T.range (pa_cons (p_len T.len (pe_ix ix_list (pv 1) pe_int (fun _ _ => rfl))) pa_nil)) (fun _ _ _ _ => pg_name (i:=0) (show List.Nodup (["_law_line", "_law_state"] : List Str) from by decide +kernel) rfl (Or.inl rfl) (Or.inr rfl))
          (fun _ _ _ _ => pif_one (pt_val (pe_ixK (K:=K) (pe_ixK (K:=K) (pv 1) pe_int (fun _ _ => rfl)) (pv 0) (fun _ _ => rfl)))) (fun _ _ _ _ => pv 0)) (pa_cons (pe_lst pa_nil) (pa_cons (pe_ix ix_list (pv 1) pe_int (fun _ _ => rfl)) pa_nil)))))
      (pss_cons (ps_for PassesOwn.never rfl (pi_range1 rfl T.range (pa_cons pe_int pa_nil)) (pg_name (i:=4) scShows.nd rfl (Or.inl rfl))
        (pss_cons (ps_if (pw_or (pt_not (pt_val (p_isi T.isi T.list boot_list' (pe_ix ix_tup (pv 2) (pv 4) (fun _ _ => rfl))))) (pw_or1 (pt_cmpR (op_neI hr.units) (pe_ix ix_tup (pv 2) (pv 4) (fun _ _ => rfl)) (pe_ix ix_list (pv 3) (pv 4) (fun _ _ => rfl)) (nomark _)))).pt (pss_one (ps_ret pe_bl)) pss_nil)
        (pss_one (ps_for PassesOwn.never rfl (pi_list (pe_ix ix_tup (pv 2) (pv 4) (fun _ _ => rfl))) (pg_name (i:=5) scShows.nd rfl (Or.inl rfl))
          (pss_one (ps_if (pt_not (pt_val (pc GW hr pass0 (pa_cons (pv 5) pa_nil)))) (pss_one (ps_ret pe_bl)) pss_nil))))))
      (pss_one (ps_ret (pc GS hr pass0 (pa_cons (pe_ix ix_tup (pv 2) pe_int (fun _ _ => rfl)) (pa_cons (pe_ix ix_list (pv 1) pe_int (fun _ _ => rfl)) pa_nil)))))))),?main⟩
    case S => exact site1 rfl rfl (by decide +kernel) (by decide +kernel) rfl (.inl rfl) rfl (.inl rfl) rfl
    case main =>
      have la:=Z.I.la
      have l60:=Z.I.l60
      obtain ⟨dx2,e2⟩:=Z.B.at_
      refine ⟨_,rfl,x,dx2,_,rfl,e2,bf_no (by decide +kernel),x,r,a,m,p,rk,as,_,pl,lim,rfl,Z.B,by omega,by simp; omega,fun t d0 d1 d2 H3 s3 nt n0 n1 n2 d01 d02 d12 gt g0 g1 g2 => ?_⟩
      have Z3:=Z.same s3
      rw [idx_no] at g1
      refine ⟨_,rfl,_, "tuple",_,true,rfl,.tup gt,kit_tuple,_,rfl,iteF ⟨_,rfl,t,_,rfl,.inr (SqT.of gt),rfl,_,rfl,iteFe (by first | rfl | simp) ?_⟩⟩
      refine ⟨_,rfl,st,_,_,_,rfl,rfl,SqL.of Z3.S.at_,rfl,t0,_,rfl,.inl (SqL.of Z3.S.a0),_,rfl,by omega,by rw [List.length_map]; omega,[.ref st],rfl,fun d nd => ?_⟩
      rw [List.length_map]
      refine comp_it as.length (by rw [sizeLine_eq]; omega) (fun j ys H5 => ys = (idxL as j).map V.int ∧ Same H3 H5 ∧ H5 d = some (.lst ys)) ⟨rfl,Same.new nd,upd_same⟩ (fun j ys H5 ⟨e,_,e2⟩ => ⟨e2,by rw [e,List.length_map]; exact idxL_len _ _⟩) ?_ ?_
      · rintro j ys H5 N hj ⟨rfl,sm5,hD⟩ rest
        refine ⟨hj,?_⟩
        rintro y H6 ⟨rfl,rfl⟩
        refine ⟨rfl,rfl,_,rfl,st,_,_,_,rfl,rfl,SqL.of (sm5 _ _ Z3.S.at_),rfl,_,rfl,t0,_,_,_,rfl,rfl,SqL.of (sm5 _ _ Z3.S.a0),atI_bl (by omega) (by omega),_,rfl,?_⟩
        rw [show (0 + (j : Int)).toNat = j by omega]
        refine ite2 (fun hc => ?_) (fun hc => ?_)
        · refine ⟨_,rfl,hD,rest _ _ ⟨?_,fun b o e => ?_,upd_same⟩⟩
          · rw [idxL_succ,if_pos hc,List.map_append]
            simp
          · rw [upd_ne (ne_of_none e nd)]
            exact sm5 b o e
        · refine rest _ _ ⟨?_,sm5,hD⟩
          rw [idxL_succ,if_neg hc]
      · rintro ys H5 ⟨rfl,sm5,hD⟩
        refine ⟨Nat.le_refl _,(by show 0 ≤ sizeLine; decide),fun e ne => ?_⟩
        have u1:=Same.new (o:=.lst []) ne
        have Z5:=(Z3.same sm5).same u1
        refine ⟨_,rfl,st,_,_,_,rfl,rfl,SqL.of Z5.S.at_,rfl,(by show 3 ≤ sizeLine; decide),fun du ndu => ?_⟩
        have u2:=Same.new (o:=.lst [.ref d,.ref e,.ref t1]) ndu
        have s35:=(sm5.trans u1).trans u2
        have Z6:=Z5.same u2
        have gt6:=s35 _ _ gt
        have g06:=s35 _ _ g0
        have g16:=s35 _ _ g1
        have g26:=s35 _ _ g2
        have hd6:=(u1.trans u2) _ _ hD
        have he6:=u2 _ _ (upd_same (H:=H5) (a:=e) (o:=.lst []))
        have hdu:=upd_same (H:=upd H5 e (.lst [])) (a:=du) (o:=.lst [.ref d,.ref e,.ref t1])
        have sA:=s3.trans s35
        generalize upd (upd H5 e (.lst [])) du (.lst [.ref d,.ref e,.ref t1]) = H6 at Z6 gt6 g06 g16 g26 hd6 he6 hdu sA ⊢
        refine ⟨_,rfl,by omega,by omega,?_⟩
        refine for_range (n:=(3 : Int).toNat) (fun i σ H' => ∃ v4 v5 : Option V,σ = [some (.ref x),some (.ref st),some (.ref t),some (.ref du),v4,v5] ∧ H' = H6) ⟨none,none,rfl,rfl⟩ ?_ ?_
        · rintro i σ H' hi ⟨v4,v5,rfl,rfl⟩
          have hi2 : i = 0 ∨ i = 1 ∨ i = 2:=by have : i < 3:=hi; omega
          obtain ⟨dd,ee,ll,hdd,hee,ed,ef⟩ : ∃ (dd ee : Addr) (ll : List Int),H' dd = some (.lst (ll.map V.int)) ∧ H' ee = some (.lst (ll.map V.int)) ∧ atI [V.ref d0,.ref d1,.ref d2,lim] (0 + (i : Int)) = some (.ref dd) ∧ atI [V.ref d,.ref e,.ref t1] (0 + (i : Int)) = some (.ref ee):=by
            rcases hi2 with rfl | rfl | rfl
            · exact ⟨d0,d,_,g06,hd6,rfl,rfl⟩
            · exact ⟨d1,e,[],g16,he6,rfl,rfl⟩
            · exact ⟨d2,t1,_,g26,Z6.S.a1,rfl,rfl⟩
          refine ⟨_,rfl,_,rfl,t,_,_,_,rfl,rfl,SqT.of gt6,ed,_, "list",_,true,rfl,.lst hdd,rfl,_,rfl,iteF ?_⟩
          refine ⟨_,rfl,_,rfl,t,_,_,_,rfl,rfl,SqT.of gt6,ed,_,rfl,_,rfl,du,_,_,_,rfl,rfl,SqL.of hdu,ef,dd,ee,ll,ll,rfl,rfl,SqL.of hdd,SqL.of hee,_,rfl,iteFe (by simp) ?_⟩
          refine ⟨_,rfl,_,rfl,t,_,_,_,rfl,rfl,SqT.of gt6,ed,dd,rfl,⟨_,SqL.of hdd⟩,?_⟩
          refine for_list (K:=K) (a:=dd) (xs:=ll.map V.int) (fun _ σ Hx => ∃ v5 : Option V,σ = [some (.ref x),some (.ref st),some (.ref t),some (.ref du),some (.int (0 + (i : Int))),v5] ∧ Hx = H') ⟨v5,rfl,rfl⟩ (fun _ σ Hx _ ⟨_,_,e⟩ => by rw [e]; exact SqL.of hdd) ?_ ?_
          · rintro j y σ Hx hy ⟨v5',rfl,rfl⟩
            rw [List.getElem?_map] at hy
            cases ey : ll[j]? with
            | none => rw [ey] at hy; cases hy
            | some z =>
              rw [ey] at hy
              cases hy
              exact ⟨_,rfl,_,true,rfl,whole_int z,_,rfl,iteF ⟨_,rfl,rfl⟩⟩
          · rintro σ Hx ⟨v5',rfl,rfl⟩
            exact ⟨_,_,rfl,rfl⟩
        · rintro σ H' ⟨v4,v5,rfl,rfl⟩
          have at2 : atI [V.ref t0,.ref t1,lim] 2 = some lim:=rfl
          have at3 : atI [V.ref d0,.ref d1,.ref d2,lim] 3 = some lim:=rfl
          exact ⟨_,rfl,t,_,_,_,rfl,rfl,SqT.of gt6,at3,_,rfl,st,_,_,_,rfl,rfl,SqL.of Z6.S.at_,at2,lim,rfl,Z.I.li,kk _ sA⟩
end
end K05

namespace K05
open PySem L2 L3
section
variable {P : Program} {w : World} {K : PySem.W.Frag} {mg : Str → Option Value} {base : Heap} {C P5 CN CB CT CE : Addr}
def spMade (C P5 : Addr) : Sp:=fun vs H Q _ => ∃ (x r a m p pr st t0 t1 : Addr) (rk : List Int) (as : List Bool) (pl : List Int) (lim : V) (c : Int),vs = [.ref x,.ref st,.int c] ∧ Both C P5 H x r a m p pr st t0 t1 rk as pl lim ∧ ∀ H',Q (.bl true) H'
theorem scMade : FnScope ["_law_board", "_law_state", "_law_cell", "_law_pile", "_law_line"] ["_law_board", "_law_state", "_law_cell"] (defScope (top 52)):=⟨rfl,rfl,rfl,by decide +kernel,rfl,by decide +kernel,by decide +kernel⟩
theorem in_drop {pl : List Int} {t l : Int} (h : pl.getLast? = some t) (hl : l ∈ pl) (hne : l ≠ t) : l ∈ pl.dropLast:=by
  have hn : pl ≠ []:=by intro z; rw [z] at h; cases h
  have e : pl.getLast hn = t:=by
    have:=List.getLast?_eq_getLast hn
    rw [this] at h
    injection h
  have:=List.dropLast_concat_getLast hn
  rw [← this,e] at hl
  rcases List.mem_append.mp hl with q | q
  · exact q
  · exact absurd (List.mem_singleton.mp q) hne
set_option maxHeartbeats 4000000 in
theorem f_made (D : Def K mg "_law_made_good" (top 52) ["_law_board", "_law_state", "_law_cell"]) (T : Txt K mg) (GE : Fu P w K mg base CX0 7 "_law_ended" ["_law_board", "_law_pile", "_law_line"] (spEnded C P5)) (GSh : Fu P w K mg base CX0 3 "_law_shows" ["_law_board", "_law_state"] (spShows C P5)) :
    Fu P w K mg base CX0 8 "_law_made_good" ["_law_board", "_law_state", "_law_cell"] (spMade C P5):=by
  refine D.fu scMade (fun vs H Q E h => ?_) (fun f cdv A outer s H vs Q E hr h => ?_)
  · obtain ⟨x,r,a,m,p,pr,st,t0,t1,rk,as,pl,lim,c,rfl,_⟩:=h
    rfl
  · obtain ⟨x,r,a,m,p,pr,st,t0,t1,rk,as,pl,lim,c,rfl,Z,kk⟩:=h
    refine ⟨_,pss_cons (ps_set (i:=3) scMade.nd rfl (Or.inl rfl) (pe_ix ix_list (pv 1) pe_int (fun _ _ => rfl)))
      (pss_cons (ps_if (pt_cmpR (op_eqI hr.units) (pv 3) (pe_lst pa_nil) (nomark _)) (pss_one (ps_ret pe_bl)) pss_nil)
      (pss_cons (ps_set (i:=4) scMade.nd rfl (Or.inl rfl) (pe_ix ix_list (pv 3) (pe_op op_mod (pv 2) (p_len T.len (pv 3))) (fun _ _ => rfl)))
      (pss_cons (ps_while PassesOwn.never (pt_cmpR op_ne (pe_ix ix_list (pv 3) (pe_un un_neg pe_int) (fun _ _ => rfl)) (pv 4) (nomark _))
        (pss_one (ps_if (pw_or (pt_not (pt_val (pc GE hr pass0 (pa_cons (pv 0) (pa_cons (pv 3) (pa_cons (pv 4) pa_nil)))))) (pw_or (pt_not (pt_val (pc GE hr pass0 (pa_cons (pv 0) (pa_cons (pv 3) (pa_cons (pe_ix ix_list (pv 3) (pe_un un_neg pe_int) (fun _ _ => rfl)) pa_nil)))))) (pw_or1 (pt_not (pt_val (pc GSh hr pass0 (pa_cons (pv 0) (pa_cons (pv 1) pa_nil)))))))).pt (pss_one (ps_ret pe_bl)) pss_nil)))
      (pss_one (ps_ret (pe_and (pc GE hr pass0 (pa_cons (pv 0) (pa_cons (pv 3) (pa_cons (pv 4) pa_nil)))) (pe_one (pc GSh hr pass0 (pa_cons (pv 0) (pa_cons (pv 1) pa_nil)))))))))),?_⟩
    refine ⟨_,rfl,st,_,_,_,rfl,rfl,SqL.of Z.S.at_,rfl,?_⟩
    refine ⟨_,rfl,(by show 0 ≤ sizeLine; decide),fun e ne => ⟨t1,e,pl,[],rfl,rfl,(Same.new ne).seq (SqL.of Z.S.a1),SqL.new (xs:=([] : List Int).map V.int),_,rfl,?_⟩⟩
    have Z1:=Z.same (Same.new (o:=.lst []) ne)
    refine ite2 (fun hc => kk _) (fun hc => ?_)
    have hne : pl ≠ []:=fun z => hc (decide_eq_true z)
    have hlen : 0 < pl.length:=List.length_pos_iff.mpr hne
    have m0:=Int.emod_nonneg c (b:=(pl.length : Int)) (by omega)
    have m1:=Int.emod_lt_of_pos c (b:=(pl.length : Int)) (by omega)
    refine ⟨_,rfl,_,rfl,_,rfl,t1,_,rfl,.inl (SqL.of Z1.S.a1),_,_,rfl,rfl,(by rw [List.length_map]; omega),t1,_,_,_,rfl,rfl,SqL.of Z1.S.a1,atI_int (by rw [List.length_map]; omega) (by rw [List.length_map]; omega),?_⟩
    rw [List.length_map]
    have hin : pl.getD (c % (pl.length : Int)).toNat 0 ∈ pl:=by
      have hlt : (c % (pl.length : Int)).toNat < pl.length:=by omega
      simp only [List.getD,List.getElem?_eq_getElem hlt,Option.getD_some]
      exact List.getElem_mem _
    generalize pl.getD (c % (pl.length : Int)).toNat 0 = ln at hin ⊢
    have hr0:=Z.I.pr ln hin
    refine ⟨fun n σ Hx => ∃ pl' : List Int,n = pl'.length ∧ σ = [some (.ref x),some (.ref st),some (.int c),some (.ref t1),some (.int ln)] ∧ Both C P5 Hx x r a m p pr st t0 t1 rk as pl' lim ∧ ln ∈ pl',⟨pl.length,pl,rfl,rfl,Z1,hin⟩,?_⟩
    rintro n σ Hx ⟨pl',rfl,rfl,Z2,hin2⟩
    have hne2 : pl' ≠ []:=List.ne_nil_of_mem hin2
    obtain ⟨t,ht⟩ : ∃ t,pl'.getLast? = some t:=⟨_,List.getLast?_eq_getLast hne2⟩
    have htm:=Z2.I.pr t (List.mem_of_getLast? ht)
    refine ⟨_,rfl,_,rfl,t1,_,_,_,rfl,rfl,SqL.of Z2.S.a1,last_atI ht,_,rfl,rfl,_,rfl,?_⟩
    by_cases et : t = ln
    · refine iteFe (by rw [et]; simp) ?_
      refine ⟨_,rfl,_,rfl,_,rfl,x,r,a,m,p,pr,st,t0,t1,rk,as,pl',lim,ln,rfl,Z2,hr0.1,hr0.2,fun H3 k3 Z3 => ⟨true,rfl,iteT ?_⟩⟩
      exact ⟨_,rfl,_,rfl,x,r,a,m,p,pr,st,t0,t1,rk,as,_,lim,rfl,Z3,fun H4 _ => kk H4⟩
    · refine iteTe (by simp [et]) ?_
      refine ⟨fun σ' H' => ∃ pl3 : List Int,pl3.length < pl'.length ∧ σ' = [some (.ref x),some (.ref st),some (.int c),some (.ref t1),some (.int ln)] ∧ Both C P5 H' x r a m p pr st t0 t1 rk as pl3 lim ∧ ln ∈ pl3,fun σ' H' ⟨pl3,h,e,z,i⟩ => ⟨pl3.length,h,pl3,rfl,e,z,i⟩,?_⟩
      refine ⟨_,rfl,_,rfl,_,rfl,x,r,a,m,p,pr,st,t0,t1,rk,as,pl',lim,ln,rfl,Z2,hr0.1,hr0.2,fun H3 k3 Z3 => ⟨_,rfl,iteF ?_⟩⟩
      have e3 : endP pl' ln = pl':=by
        unfold endP
        rw [if_neg]
        rw [ht]
        intro z
        injection z with z
        exact et z
      rw [e3] at Z3
      refine ⟨_,rfl,_,rfl,_,rfl,_,rfl,t1,_,_,_,rfl,rfl,SqL.of Z3.S.a1,last_atI ht,x,r,a,m,p,pr,st,t0,t1,rk,as,pl',lim,t,rfl,Z3,htm.1,htm.2,fun H4 k4 Z4 => ⟨_,rfl,iteF ?_⟩⟩
      have e4 : endP pl' t = pl'.dropLast:=by
        unfold endP
        rw [if_pos ht]
      rw [e4] at Z4
      refine ⟨_,rfl,_,rfl,x,r,a,m,p,pr,st,t0,t1,rk,as,_,lim,rfl,Z4,fun H5 s5 => ⟨_,rfl,iteF ?_⟩⟩
      refine ⟨pl'.dropLast,?_,rfl,Z4.same s5,in_drop ht hin2 (Ne.symm et)⟩
      rw [List.length_dropLast]
      have:=List.length_pos_iff.mpr hne2
      omega
def spLaw (K : PySem.W.Frag) (P5 : Addr) : Sp:=fun vs H Q _ => ∃ (a : Addr) (ns : List Int),vs = [.ref a] ∧ LI K H a ns ∧ ns.length ≤ 63 ∧ TabF H P5 ∧ ∀ H',Q (.bl true) H'
theorem scLaw : FnScope ["_law_script", "_law_size", "_law_ranks_here", "_law_board", "_law_state", "_law_cell", "_law_line"] ["_law_script"] (defScope (top 53)):=⟨rfl,rfl,rfl,by decide +kernel,rfl,by decide +kernel,by decide +kernel⟩
theorem rep_false (n : Nat) : (List.replicate n [V.bl false]).flatten = (List.replicate n false).map V.bl:=by
  induction n with
  | zero => rfl
  | succ n ih => rw [List.replicate_succ,List.flatten_cons,ih,List.replicate_succ,List.map_cons]; rfl
theorem li_away {H H' : Hp} {a : Addr} {ns : List Int} (h : LI K H a ns) (kp : ∀ o,(∀ ps,o ≠ .tbl ps) → H a = some o → H' a = some o) : LI K H' a ns:=by
  rcases h with (h | ⟨u,h⟩) | h
  · exact .inl (.inl (kp _ (by intro _ z; cases z) h))
  · exact .inl (.inr ⟨u,kp _ (by intro _ z; cases z) h⟩)
  · exact .inr h
set_option maxHeartbeats 8000000 in
theorem f_law (D : Def K mg "law" (top 53) ["_law_script"]) (T : Txt K mg) (TB : BTxt K C) (hW : mg "Wide" = some (.ref C)) (GCell : Fu P w K mg base CX0 1 "_law_cell_at" ["_law_script", "_law_k"] (spCell K)) (GRk : Fu P w K mg base CX0 1 "_law_ranks" ["_law_cell", "_law_many"] spRanks) (GI : FuKD P w K mg base CX0 7 C ["self", "ranks", "picture"] [.none] (spInit C))
    (GDr : Fu P w K mg base CX0 1 "_law_drawn" ["_law_cell", "_law_many"] spDrawn) (GDeed : Fu P w K mg base CX0 10 "_law_deed" ["_law_board", "_law_ranks_here", "_law_state", "_law_cell", "_law_line"] (spDeed C P5)) (GSh : Fu P w K mg base CX0 3 "_law_shows" ["_law_board", "_law_state"] (spShows C P5)) (GM : Fu P w K mg base CX0 8 "_law_made_good" ["_law_board", "_law_state", "_law_cell"] (spMade C P5)) :
    Fu P w K mg base CX0 11 "law" ["_law_script"] (spLaw K P5):=by
  refine D.fu scLaw (fun vs H Q E h => ?_) (fun f cdv A outer s H vs Q E hr h => ?_)
  · obtain ⟨a,ns,rfl,_⟩:=h
    rfl
  · obtain ⟨a,ns,rfl,hq,h63,tt0,kk⟩:=h
    refine' ⟨_,pss_cons (ps_set (i:=1) scLaw.nd rfl (Or.inl rfl) (pe_op op_add pe_int (pe_op op_mod (pe_op op_fdiv (pc GCell hr pass0 (pa_cons (pv 0) (pa_cons pe_int pa_nil))) pe_int) pe_int)))
      (pss_cons (ps_if (pt_cmpR op_eq (pe_op op_mod (pc GCell hr pass0 (pa_cons (pv 0) (pa_cons pe_int pa_nil))) pe_int) pe_int (nomark _)) (pss_one (ps_set (i:=1) scLaw.nd rfl (Or.inl rfl) (pe_op op_add pe_int (pe_op op_mod (pe_op op_fdiv (pc GCell hr pass0 (pa_cons (pv 0) (pa_cons pe_int pa_nil))) pe_int) pe_int)))) pss_nil)
      (pss_cons (ps_set (i:=2) scLaw.nd rfl (Or.inl rfl) (pc GRk hr pass0 (pa_cons (pc GCell hr pass0 (pa_cons (pv 0) (pa_cons pe_int pa_nil))) (pa_cons (pv 1) pa_nil))))
      (pss_cons (ps_set (i:=3) scLaw.nd rfl (Or.inl rfl) (pmkD (k:=9) (dvs:=[.non]) GI hr hW (.cons rfl .nil) pass0 (pa_cons (p_list T.list (pv 2)) pa_nil)))
      (pss_cons (ps_set (i:=4) scLaw.nd rfl (Or.inl rfl) (pe_lst (pa_cons (pe_op op_rep (pe_lst (pa_cons pe_bl pa_nil)) (pv 1)) (pa_cons (pe_lst pa_nil) (pa_cons pe_non pa_nil)))))
      (pss_cons (ps_if (pt_not (pt_val (pc GSh hr pass0 (pa_cons (pv 3) (pa_cons (pv 4) pa_nil))))) (pss_one (ps_ret pe_bl)) pss_nil)
      (pss_cons (ps_for PassesOwn.never rfl (pi_list (pe_slice sl_list (pv 0) (po_some pe_int) (po_some pe_int))) (pg_name (i:=5) scLaw.nd rfl (Or.inl rfl))
        (pss_cons (ps_set (i:=6) scLaw.nd rfl (Or.inl rfl) (pc GDr hr pass0 (pa_cons (pe_op op_fdiv (pv 5) pe_int) (pa_cons (pv 1) pa_nil))))
        (pss_one (ps_if (pw_or (pt_not (pt_val (pc GDeed hr pass0 (pa_cons (pv 3) (pa_cons (pv 2) (pa_cons (pv 4) (pa_cons (pv 5) (pa_cons (pv 6) pa_nil)))))))) (pw_or1 (pt_not (pt_val (pc GSh hr pass0 (pa_cons (pv 3) (pa_cons (pv 4) pa_nil))))))).pt (pss_one (ps_ret pe_bl)) pss_nil))))
      (pss_one (ps_ret (pc GM hr pass0 (pa_cons (pv 3) (pa_cons (pv 4) (pa_cons (pc GCell hr pass0 (pa_cons (pv 0) (pa_cons pe_int pa_nil))) pa_nil)))))))))))),?main⟩
    case main =>
      refine ⟨_,rfl,a,ns,0,rfl,hq,by omega,fun c0 => ⟨_,_,rfl,rfl,⟨by decide,by decide⟩,_,_,rfl,rfl,(by show (0 : Int) < 12; decide),_,_,rfl,rfl,?_⟩⟩
      refine ⟨_,rfl,a,ns,0,rfl,hq,by omega,fun c1 => ⟨_,_,rfl,rfl,(by show (0 : Int) < 8; decide),rfl,_,rfl,?_⟩⟩
      refine ite_join (fun σ H1 => ∃ m : Int,σ = [some (.ref a),some (.int m),none,none,none,none,none] ∧ H = H1 ∧ 1 ≤ m ∧ m ≤ 60) (fun hc rest => ?_) (fun hc => ?_) (fun σ H1 hM => ?_)
      · refine ⟨_,rfl,a,ns,0,rfl,hq,by omega,fun c2 => ⟨_,_,rfl,rfl,⟨by decide,by decide⟩,_,_,rfl,rfl,(by show (0 : Int) < 30; decide),_,_,rfl,rfl,?_⟩⟩
        exact rest _ _ ⟨_,rfl,rfl,by omega,by omega⟩
      · exact ⟨_,rfl,rfl,by omega,by omega⟩
      obtain ⟨m,rfl,rfl,hm1,hm2⟩:=hM
      refine ⟨_,rfl,a,ns,1,rfl,hq,by omega,fun c3 => ⟨_,rfl,c3,m,rfl,by omega,by omega,fun pr H1 rk s1 npr er1 hrl hrk => ?_⟩⟩
      have l1 : 1 ≤ rk.length:=by omega
      have l60 : rk.length ≤ 60:=by omega
      have tt1:=Tab.same tt0 s1
      refine ⟨_,rfl,pr,_,rfl,.inl (SqL.of er1),fun hn nhn => ?_⟩
      have s2:=Same.new (o:=.lst (rk.map V.int)) nhn
      have ehn : upd H1 hn (.lst (rk.map V.int)) hn = some (.lst (rk.map V.int)):=upd_same
      have er2:=s2 _ _ er1
      have tt2:=Tab.same tt1 s2
      have s12:=s1.trans s2
      refine fun x dx nx ndx ne => ?_
      have nx' : upd (upd H1 hn (.lst (rk.map V.int))) dx (.own x) x = none:=by rw [upd_ne (Ne.symm ne)]; exact nx
      have smB:=(Same.new (o:=.own x) ndx).trans (Same.new (o:=.ins C dx []) nx')
      have s13:=s12.trans smB
      refine ⟨x,hn,rk,rfl,⟨dx,upd_same⟩,smB _ _ ehn,l1,l60,hrk,fun H3 r aa mm pp k3 nr na nm np B3 => ⟨rfl,?_⟩⟩
      have k03 : ∀ z o,H z = some o → H3 z = some o:=fun z o e => k3 z o (s13 z o e) (by simpa using ne_of_none (s12 _ _ e) nx)
      have xz : H x = none:=s12.free nx
      have az : H aa = none:=s13.free na
      have pz : H pp = none:=s13.free np
      have fr : ∀ {z y : Addr} {o : HO},upd H1 hn (.lst (rk.map V.int)) z = some o → upd (upd (upd H1 hn (.lst (rk.map V.int))) dx (.own x)) x (.ins C dx []) y = none → z ≠ y:=fun e q => ne_of_none (smB _ _ e) q
      have pra:=fr er2 na
      have prm:=fr er2 nm
      have prp:=fr er2 np
      have prx : pr ≠ x:=ne_of_none er2 nx
      have tt3 : TabF H3 P5:=tab_kb (Tab.same tt2 smB) k3 fun z hz => by
        have e : z = x:=by simpa using hz
        subst e
        exact .inr ⟨_,_,_,upd_same⟩
      have er3 : H3 pr = some (.lst (rk.map V.int)):=k3 _ _ (smB _ _ er2) (by simpa using prx)
      clear k3 smB nx' fr nr na nm np nx ndx ne ehn er2 tt2 s2 nhn npr er1 tt1 s1 s12 s13
      have em : m.toNat = rk.length:=by omega
      refine ⟨(by show 1 ≤ sizeLine; decide),fun q0 nq0 => ⟨_,rfl,q0,m,_,rfl,rfl,upd_same,by omega,by omega,?_,fun t0 nt0 => ⟨(by show 0 ≤ sizeLine; decide),fun t1 nt1 => ⟨(by show 3 ≤ sizeLine; decide),fun st nst => ?_⟩⟩⟩⟩
      · show 1 * m.toNat ≤ sizeLine; rw [sizeLine_eq]; omega
      rw [rep_false,em] at nst ⊢
      rw [rep_false,em] at nt1
      have b0:=Same.new (o:=.lst [.bl false]) nq0
      have b1:=Same.new (o:=.lst ((List.replicate rk.length false).map V.bl)) nt0
      have b4:=Same.new (o:=.lst []) nt1
      have b5:=Same.new (o:=.lst [.ref t0,.ref t1,.non]) nst
      have z0 : H3 t0 = none:=b0.free nt0
      have z1 : H3 t1 = none:=(b0.trans b1).free nt1
      have z3 : H3 st = none:=((b0.trans b1).trans b4).free nst
      have g0:=(b4.trans b5) _ _ (upd_same (a:=t0) (o:=.lst ((List.replicate rk.length false).map V.bl)))
      have g1:=b5 _ _ (upd_same (a:=t1) (o:=.lst []))
      have n01 : t0 ≠ t1:=ne_of_none (upd_same (a:=t0)) nt1
      have ns0 : st ≠ t0:=Ne.symm (ne_of_none (b4 _ _ (upd_same (a:=t0))) nst)
      have ns1 : st ≠ t1:=Ne.symm (ne_of_none (upd_same (a:=t1)) nst)
      have sA:=((b0.trans b1).trans b4).trans b5
      have gs : upd (upd (upd (upd H3 q0 (.lst [.bl false])) t0 (.lst ((List.replicate rk.length false).map V.bl))) t1 (.lst [])) st (.lst [.ref t0,.ref t1,.non]) st = some (.lst [.ref t0,.ref t1,.non]):=upd_same
      generalize upd (upd (upd (upd H3 q0 (.lst [.bl false])) t0 (.lst ((List.replicate rk.length false).map V.bl))) t1 (.lst [])) st (.lst [.ref t0,.ref t1,.non]) = H5 at sA g0 g1 gs ⊢
      clear b0 b1 b4 b5 nq0 nt0 nt1 nst
      have free3 : ∀ {z : Addr},H3 z = none → H z = none:=fun {z} e => by
        cases q : H z with
        | none => rfl
        | some o => rw [k03 z o q] at e; cases e
      have Z5 : Both C P5 H5 x r aa mm pp pr st t0 t1 rk (List.replicate rk.length false) [] .non:=by
        have dn : ∀ z,H3 z = none → z ∉ [r,aa,mm,pp]:=fun z e => by
          simp only [List.mem_cons,List.not_mem_nil,or_false,not_or]
          exact ⟨Ne.symm (ne_of_none B3.rk e),Ne.symm (ne_of_none B3.as e),Ne.symm (ne_of_none B3.ms e),Ne.symm (ne_of_none B3.pl e)⟩
        refine ⟨B3.same sA,⟨gs,g0,g1,ns0,ns1,n01⟩,sA _ _ er3,⟨by simp,by simp,l1,l60,by simp,.inl rfl⟩,Tab.same tt3 sA,fun z hz => ?_,?_⟩
        · simp only [List.mem_cons,List.not_mem_nil,or_false] at hz
          rcases hz with rfl | rfl | rfl
          · exact dn _ z3
          · exact dn _ z0
          · exact dn _ z1
        · simp only [List.mem_cons,List.not_mem_nil,or_false,not_or]
          exact ⟨ne_of_none er3 z3,ne_of_none er3 z0,ne_of_none er3 z1,pra,prm,prp⟩
      have away : ∀ {Hx : Hp},KeepBut (SL P5 x aa pp st t0 t1) H5 Hx → LI K Hx a ns:=fun {Hx} kp => li_away hq fun o ho e => by
        refine kp _ _ (sA _ _ (k03 _ _ e)) ?_
        have eP : a ≠ P5:=tt0.ne e ho
        simp only [List.mem_cons,List.not_mem_nil,or_false,not_or]
        exact ⟨ne_of_none e xz,ne_of_none e az,ne_of_none e pz,ne_of_none e (free3 z3),ne_of_none e (free3 z0),ne_of_none e (free3 z1),eP⟩
      refine ⟨_,rfl,_,rfl,x,r,aa,mm,pp,pr,st,t0,t1,rk,_,[],.non,rfl,Z5,fun H6 s6 => ⟨_,rfl,iteF ?_⟩⟩
      have Z6:=Z5.same s6
      obtain ⟨cs,ecs,hcs⟩:=cutV_ints ns (some 2) (some 62)
      refine ⟨_,rfl,_,rfl,_,rfl,a,_,rfl,away (kb_of s6),fun qs nqs => ?_⟩
      rw [ecs]
      refine ⟨qs,rfl,⟨_,SqL.new⟩,?_⟩
      have u3:=Same.new (o:=.lst (cs.map V.int)) nqs
      have Z8:=Z6.same u3
      have eq8:=upd_same (H:=H6) (a:=qs) (o:=.lst (cs.map V.int))
      have mqs : qs ∉ SL P5 x aa pp st t0 t1:=fun hz => Z6.here qs hz nqs
      have s58:=s6.trans u3
      generalize upd H6 qs (.lst (cs.map V.int)) = H8 at Z8 eq8 s58 ⊢
      refine for_list (K:=K) (a:=qs) (xs:=cs.map V.int) (fun i σ Hx => ∃ (as : List Bool) (pl : List Int) (lim : V) (v5 v6 : Option V),σ = [some (.ref a),some (.int m),some (.ref pr),some (.ref x),some (.ref st),v5,v6] ∧ pl.length ≤ i ∧ KeepBut (SL P5 x aa pp st t0 t1) H8 Hx ∧ Both C P5 Hx x r aa mm pp pr st t0 t1 rk as pl lim)
        ⟨_,[],.non,none,none,rfl,Nat.le_refl _,KeepBut.refl _ _,Z8⟩
        (fun i σ Hx _ ⟨_,_,_,_,_,_,_,kp,_⟩ => SqL.of (kp _ _ eq8 mqs)) ?turn ?done
      case done =>
        rintro σ Hx ⟨as,pl,lim,v5,v6,rfl,hpl,kp,Zx⟩
        refine ⟨_,rfl,_,rfl,_,rfl,a,ns,0,rfl,away ((kb_of s58).trans kp),by omega,fun c9 => ?_⟩
        exact ⟨x,r,aa,mm,pp,pr,st,t0,t1,rk,as,pl,lim,c9,rfl,Zx,kk⟩
      case turn =>
        rintro i v σ Hx hv ⟨as,pl,lim,v5,v6,rfl,hpl,kp,Zx⟩
        rw [List.getElem?_map] at hv
        cases e : cs[i]? with
        | none => rw [e] at hv; cases hv
        | some zc =>
        rw [e] at hv
        cases hv
        have hi : i < cs.length:=(List.getElem?_eq_some_iff.mp e).1
        refine ⟨_,rfl,_,_,rfl,rfl,⟨by decide,by decide⟩,_,rfl,_,m,rfl,hm1,fun ln g0' g1' => ?_⟩
        refine ⟨_,rfl,_,rfl,_,rfl,_,rfl,_,rfl,x,r,aa,mm,pp,pr,st,t0,t1,rk,as,pl,lim,zc,ln,rfl,Zx,by omega,g0',by omega,hrk,fun H4' as' pl' lim' k4 Z4 hl => ⟨_,rfl,iteF ?_⟩⟩
        refine ⟨_,rfl,_,rfl,x,r,aa,mm,pp,pr,st,t0,t1,rk,as',pl',lim',rfl,Z4,fun H6' s6' => ⟨_,rfl,iteF ?_⟩⟩
        exact ⟨as',pl',lim',_,_,rfl,by omega,(kp.trans k4).trans (kb_of s6'),Z4.same s6'⟩
end
end K05

namespace K05
open PySem L2 L3
structure Defs (K : PySem.W.Frag) (mg : Str → Option Value) (c5 C CT : Addr) : Prop where
  d_is_whole : Def K mg "is_whole" (top 10) ["thing"]
  d_standing : Def K mg "standing" (top 11) ["ranks", "line"]
  d_is_up_to : Def K mg "is_up_to" (top 15) ["most", "thing"]
  d_is_rank : Def K mg "is_rank" (top 16) ["thing"]
  d_is_bar : Def K mg "is_bar" (top 17) ["thing"]
  d_is_line : Def K mg "is_line" (top 18) ["ranks", "thing"]
  d_are_ranks : Def K mg "are_ranks" (top 19) ["thing"]
  d_are_lines : Def K mg "are_lines" (top 20) ["ranks", "thing"]
  d_rises : Def K mg "rises" (top 21) ["numbers"]
  d_are_rising_lines : Def K mg "are_rising_lines" (top 22) ["ranks", "thing"]
  d_is_pile : Def K mg "is_pile" (top 23) ["ranks", "thing"]
  d_is_picture : Def K mg "is_picture" (top 24) ["ranks", "thing"]
  d_marks_of : Def K mg "marks_of" (top 25) ["ranks", "lines"]
  d_marked : Def K mg "marked" (top 26) ["marks"]
  d_top_of : Def K mg "top_of" (top 27) ["pile"]
  d__law_cell_at : Def K mg "_law_cell_at" (top 32) ["_law_script", "_law_k"]
  d__law_whole : Def K mg "_law_whole" (top 33) ["_law_found"]
  d__law_drawn : Def K mg "_law_drawn" (top 34) ["_law_cell", "_law_many"]
  d__law_ranks : Def K mg "_law_ranks" (top 35) ["_law_cell", "_law_many"]
  d__law_same : Def K mg "_law_same" (top 36) ["_law_found", "_law_due"]
  d__law_top : Def K mg "_law_top" (top 37) ["_law_pile"]
  d__law_below : Def K mg "_law_below" (top 38) ["_law_ranks_here", "_law_pile", "_law_line"]
  d__law_best : Def K mg "_law_best" (top 39) ["_law_ranks_here", "_law_state"]
  d__law_last : Def K mg "_law_last" (top 40) ["_law_ranks_here", "_law_pile"]
  d__law_said : Def K mg "_law_said" (top 41) ["_law_board", "_law_word", "_law_thing"]
  d__law_kinds : Def K mg "_law_kinds" (top 42) ["_law_e"]
  d__law_refused : Def K mg "_law_refused" (top 43) ["_law_board", "_law_word", "_law_odd"]
  d__law_not_top : Def K mg "_law_not_top" (top 44) ["_law_board", "_law_line", "_law_top_here"]
  d__law_ended : Def K mg "_law_ended" (top 45) ["_law_board", "_law_pile", "_law_line"]
  d__law_rings : Def K mg "_law_rings" (top 46) ["_law_board", "_law_state", "_law_line"]
  d__law_taken : Def K mg "_law_taken" (top 47) ["_law_board", "_law_ranks_here", "_law_state"]
  d__law_laid : Def K mg "_law_laid" (top 48) ["_law_board", "_law_ranks_here", "_law_state"]
  d__law_bars : Def K mg "_law_bars" (top 49) ["_law_board", "_law_ranks_here", "_law_state", "_law_cell", "_law_line"]
  d__law_deed : Def K mg "_law_deed" (top 50) ["_law_board", "_law_ranks_here", "_law_state", "_law_cell", "_law_line"]
  d__law_shows : Def K mg "_law_shows" (top 51) ["_law_board", "_law_state"]
  d__law_made_good : Def K mg "_law_made_good" (top 52) ["_law_board", "_law_state", "_law_cell"]
  d_law : Def K mg "law" (top 53) ["_law_script"]
  d_first_of : DefC K mg "first_of" (top 12) ["ranks", "lines"] c5
  b_ring : MDef K C "ring" "Board.ring" (bm 1) ["self", "line"]
  b_calm : MDef K C "calm" "Board.calm" (bm 2) ["self", "line"]
  b_mute : MDef K C "mute" "Board.mute" (bm 3) ["self", "line"]
  b_free : MDef K C "free" "Board.free" (bm 4) ["self", "line"]
  b_bar : MDef K C "bar" "Board.bar" (bm 5) ["self", "rank"]
  b_take : MDef K C "take" "Board.take" (bm 6) ["self"]
  b_end : MDef K C "end" "Board.end" (bm 7) ["self", "line"]
  b_told : MDef K C "told" "Board.told" (bm 8) ["self"]
  b_check_line : MDef K C "check_line" "Board.check_line" (bm 9) ["self", "line"]
  b_turn : MDef K C "turn" "Board.turn" (bm 10) ["self", "marks", "line", "wish"]
  b_wants : MDef K C "wants" "Board.wants" (bm 11) ["self", "line"]
  b_wanting : MDef K C "wanting" "Board.wanting" (bm 12) ["self"]
  b_is_open : MDef K C "is_open" "Board.is_open" (bm 13) ["self", "line"]
  w_best : MDef K C "best" "Wide.best" (wm 0) ["self"]
  w_line_comes : MDef K C "line_comes" "Wide.line_comes" (wm 1) ["self", "line"]
  w_line_goes : MDef K C "line_goes" "Wide.line_goes" (wm 2) ["self", "line"]
  k0 : KDefD K C "Board.__init__" (bm 0) ["self", "ranks", "picture"] [.none]
  x_nt : DefX K mg "NotTop" CT "NotTop.__init__" (nt 0) ["self", "line", "top"]
theorem law_fu {P : Program} {w : World} {K : PySem.W.Frag} {mg : Str → Option Value} {base : Heap} {c5 P5 C DE CN CB CT e5 e6 e7 e8 : Addr} (D : Defs K mg c5 C CT) (T : Txt K mg) (TB : BTxt K C) (hW : mg "Wide" = some (.ref C)) {u : Value} (hM : mg "MOST_LINES" = some u) (hu : RelV (.int 60) u) (h5 : PySem.W.CodeHd base c5 P5) (hB : BMod mg base)
    (XN : ExcC K mg "NoLine" CN) (XB : ExcC K mg "NoBar" CB) (BI : BInit K DE) (XC : XCls K CT) (XR : XRf K mg DE) (KN : XKd K mg CN true false false) (KB : XKd K mg CB false true false) (MN : PySem.W.mroIn K CN (.ref DE) = some true) (MB : PySem.W.mroIn K CB (.ref DE) = some true) (KT : XT K mg CT DE) (hVE : mg "ValueError" = none)
    (m1 : mg "NoLine" = some (.ref CN)) (m2 : mg "NoBar" = some (.ref CB)) (m3 : mg "NotTop" = some (.ref CT)) (m5 : mg "NoBoard" = some (.ref e5)) (m6 : mg "NoPicture" = some (.ref e6)) (m7 : mg "NoPegs" = some (.ref e7)) (m8 : mg "NoDeed" = some (.ref e8)) :
    Fu P w K mg base CX0 11 "law" ["_law_script"] (spLaw K P5):=by
  have gS:=f_standing (P:=P) (w:=w) (mg:=mg) (base:=base) D.d_standing
  have gU:=f_up_to (P:=P) (w:=w) (mg:=mg) (base:=base) D.d_is_up_to (f_is_whole D.d_is_whole T)
  have gL:=f_is_line (P:=P) (w:=w) (mg:=mg) (base:=base) D.d_is_line T gU
  have gBar:=f_bar (P:=P) (w:=w) (mg:=mg) (base:=base) D.d_is_bar gU
  have gAL:=f_are_lines (P:=P) (w:=w) (mg:=mg) (base:=base) D.d_are_lines T gL
  have gRi:=f_rises (P:=P) (w:=w) (mg:=mg) (base:=base) D.d_rises T
  have gPic:=f_is_picture (P:=P) (w:=w) (mg:=mg) (base:=base) D.d_is_picture T (f_rising_lines D.d_are_rising_lines gAL gRi) (f_is_pile D.d_is_pile T gAL gRi) gBar
  have gI:=f_init (P:=P) (w:=w) (mg:=mg) (base:=base) D.k0 T TB (f_are_ranks D.d_are_ranks T (f_rank D.d_is_rank gU) hM hu) gPic (f_marks_of D.d_marks_of T)
  have gT:=f_top_of (P:=P) (w:=w) (mg:=mg) (base:=base) D.d_top_of
  have gWa:=f_wants (P:=P) (w:=w) (mg:=mg) (base:=base) D.b_wants TB
  have gCk:=f_check (P:=P) (w:=w) (mg:=mg) (base:=base) D.b_check_line TB gL
  have gTu:=f_turn (P:=P) (w:=w) (mg:=mg) (base:=base) D.b_turn TB gCk gWa (f_comes D.w_line_comes) (f_goes D.w_line_goes)
  have gBe:=f_best (P:=P) (w:=w) (mg:=mg) (base:=base) D.w_best TB (f_first_of D.d_first_of T gS h5 hB) (f_wanting D.b_wanting T TB gWa) (f_open D.b_is_open TB gT)
  have gCa:=f_calm (P:=P) (w:=w) (mg:=mg) (base:=base) D.b_calm TB gTu
  have gTk:=f_take (P:=P) (w:=w) (mg:=mg) (base:=base) D.b_take TB gBe gCa
  have gLW:=f_law_whole (P:=P) (w:=w) (mg:=mg) (base:=base) D.d__law_whole T
  have gSm:=f_same (P:=P) (w:=w) (mg:=mg) (base:=base) D.d__law_same gLW
  have gBl:=f_below (P:=P) (w:=w) (mg:=mg) (base:=base) D.d__law_below
  have gLB:=f_lbest (P:=P) (w:=w) (mg:=mg) (base:=base) D.d__law_best T gBl
  have gLa:=f_last (P:=P) (w:=w) (mg:=mg) (base:=base) D.d__law_last T gBl
  have gTop:=f_ltop (P:=P) (w:=w) (mg:=mg) (base:=base) D.d__law_top
  have gCkX:=f_checkX (P:=P) (w:=w) (mg:=mg) (base:=base) D.b_check_line TB XN gL
  have gTuX:=f_turnX (P:=P) (w:=w) (mg:=mg) (base:=base) D.b_turn TB gCkX
  have gSaid:=f_said (P:=P) (w:=w) (mg:=mg) (base:=base) D.d__law_said TB (f_ringX D.b_ring TB gTuX) (f_calmX D.b_calm TB gTuX) (f_muteX D.b_mute TB gTuX) (f_freeX D.b_free TB gTuX) (f_barX D.b_bar XB (f_barF D.d_is_bar gU)) (f_endN D.b_end TB gCkX)
  have gRef:=f_refu (P:=P) (w:=w) (mg:=mg) (base:=base) D.d__law_refused XR KN KB MN MB gSaid (f_kinds D.d__law_kinds T hVE m1 m2 m3 m5 m6 m7 m8)
  have gNtp:=f_ntp (P:=P) (w:=w) (mg:=mg) (base:=base) D.d__law_not_top T TB XR.n KT (f_endX D.b_end TB gCk gT (f_nt D.x_nt XR.n BI XC KT.n1 KT.n2)) (f_kindsD D.d__law_kinds T hVE m1 m2 m3 m5 m6 m7 m8) gSm
  have gEd:=f_ended (P:=P) (w:=w) (mg:=mg) (base:=base) (P5:=P5) D.d__law_ended TB gTop gNtp gSm (f_end D.b_end TB gCk gT)
  have gRg:=f_rings (P:=P) (w:=w) (mg:=mg) (base:=base) (P5:=P5) D.d__law_rings T TB (f_ring D.b_ring TB gTu)
  have gTa:=f_taken (P:=P) (w:=w) (mg:=mg) (base:=base) D.d__law_taken TB gBe gTk gLB gSm
  have gLd:=f_laid (P:=P) (w:=w) (mg:=mg) (base:=base) D.d__law_laid gLa gRg gTa
  have gBs:=f_bars (P:=P) (w:=w) (mg:=mg) (base:=base) (P5:=P5) D.d__law_bars TB gSm (f_barM D.b_bar TB gBar)
  have gDd:=f_deed (P:=P) (w:=w) (mg:=mg) (base:=base) D.d__law_deed T gLd gRg gTa gEd gRef gBs
  have gSh:=f_shows (P:=P) (w:=w) (mg:=mg) (base:=base) (P5:=P5) D.d__law_shows T TB (f_told D.b_told T TB (f_marked D.d_marked T)) gLW gSm
  exact f_law D.d_law T TB hW (f_cell D.d__law_cell_at T) (f_ranks D.d__law_ranks T) gI (f_drawn D.d__law_drawn) gDd gSh (f_made D.d__law_made_good T gEd gSh)
theorem txt_of {K : PySem.W.Frag} {mg : Str → Option Value} {h : Heap} (X : K.In h) (G : h.Ns mainGlobals mg) (z0 : PySem.W.nsIn K mainGlobals "isinstance" = some none) (z1 : PySem.W.nsIn K mainGlobals "int" = some none) (z2 : PySem.W.nsIn K mainGlobals "bool" = some none) (z3 : PySem.W.nsIn K mainGlobals "list" = some none) (z4 : PySem.W.nsIn K mainGlobals "len" = some none) (z5 : PySem.W.nsIn K mainGlobals "range" = some none) (z6 : PySem.W.nsIn K mainGlobals "sorted" = some none) (z7 : PySem.W.nsIn K mainGlobals "min" = some none) (z8 : PySem.W.nsIn K mainGlobals "all" = some none) (z9 : PySem.W.nsIn K mainGlobals "zip" = some none) (z10 : PySem.W.nsIn K mainGlobals "reversed" = some none) (z11 : PySem.W.nsIn K mainGlobals "enumerate" = some none) (z12 : PySem.W.nsIn K mainGlobals "tuple" = some none) : Txt K mg :=
  ⟨PySem.W.mg_none_of X G z0,PySem.W.mg_none_of X G z1,PySem.W.mg_none_of X G z2,PySem.W.mg_none_of X G z3,PySem.W.mg_none_of X G z4,PySem.W.mg_none_of X G z5,PySem.W.mg_none_of X G z6,PySem.W.mg_none_of X G z7,PySem.W.mg_none_of X G z8,PySem.W.mg_none_of X G z9,PySem.W.mg_none_of X G z10,PySem.W.mg_none_of X G z11,PySem.W.mg_none_of X G z12⟩
end K05

/- The proof's own weight: the quick twins of these names (the text,its parts,the heaps and their trees) are not laid; the names are taken. The kernel then reckons with the names themselves. -/
def PySem.W.Fast.tw4102841049619775055 : Unit:=()
def PySem.W.Fast.tw899517065959918017 : Unit:=()
def PySem.W.Fast.tw6631045506371609926 : Unit:=()
def PySem.W.Fast.tw10555957153545073265 : Unit:=()
def PySem.W.Fast.tw13923427424359900904 : Unit:=()
def PySem.W.Fast.tw13177340696040884283 : Unit:=()
def PySem.W.Fast.tw2860339523861063096 : Unit:=()
def PySem.W.Fast.tw10754925576699886644 : Unit:=()
def PySem.W.Fast.tw8999018577092000922 : Unit:=()
def PySem.W.Fast.tw8206923188373289639 : Unit:=()
def PySem.W.Fast.tw10992974833199435058 : Unit:=()
def PySem.W.Fast.tw14174185814848803066 : Unit:=()
def PySem.W.Fast.tw6428093752726543335 : Unit:=()
def PySem.W.Fast.tw10885712022501275196 : Unit:=()
def PySem.W.Fast.tw6230238336295747414 : Unit:=()
def PySem.W.Fast.tw15140860640287939931 : Unit:=()
def PySem.W.Fast.tw16839592611841761298 : Unit:=()
def PySem.W.Fast.tw3901022064510766916 : Unit:=()
def PySem.W.Fast.tw2775816125874682662 : Unit:=()
def PySem.W.Fast.tw1651724637770376364 : Unit:=()
def PySem.W.Fast.tw13692918756330890643 : Unit:=()
def PySem.W.Fast.tw3774185149692333157 : Unit:=()
def PySem.W.Fast.tw4976119597875909854 : Unit:=()
def PySem.W.Fast.tw2882161353348776057 : Unit:=()
def PySem.W.Fast.tw8685872436565849207 : Unit:=()
def PySem.W.Fast.tw17613821050436719299 : Unit:=()
def PySem.W.Fast.tw18059570477180854952 : Unit:=()
def PySem.W.Fast.tw6128307309303065708 : Unit:=()
def PySem.W.Fast.tw16745882033584443732 : Unit:=()
def PySem.W.Fast.tw10577469856862302824 : Unit:=()
def PySem.W.Fast.tw15675113648061505016 : Unit:=()
def PySem.W.Fast.tw9859713986316059384 : Unit:=()
def PySem.W.Fast.tw13534638790524910399 : Unit:=()
def PySem.W.Fast.tw4228164504795949030 : Unit:=()
def PySem.W.Fast.tw5348625025116602221 : Unit:=()
def PySem.W.Fast.tw11815616329835055032 : Unit:=()
def PySem.W.Fast.tw16000512023944464016 : Unit:=()
def PySem.W.Fast.tw1032182267554502174 : Unit:=()
def PySem.W.Fast.tw16052087228596128506 : Unit:=()
def PySem.W.Fast.tw3673508999999692949 : Unit:=()
def PySem.W.Fast.tw6731075179258428067 : Unit:=()
def PySem.W.Fast.tw2212426190511319512 : Unit:=()
def PySem.W.Fast.tw8038916096572960634 : Unit:=()
def PySem.W.Fast.tw7795498380759110509 : Unit:=()
def PySem.W.Fast.tw11505601545685185273 : Unit:=()
def PySem.W.Fast.tw853766785385235189 : Unit:=()
def PySem.W.Fast.tw6952615221529954262 : Unit:=()
def PySem.W.Fast.tw18362279578038958037 : Unit:=()
def PySem.W.Fast.tw2053003707384325467 : Unit:=()
def PySem.W.Fast.tw3830835754771445487 : Unit:=()
def PySem.W.Fast.tw5182959991645286880 : Unit:=()
def PySem.W.Fast.tw9838614454642451676 : Unit:=()
def PySem.W.Fast.tw11929752488514576037 : Unit:=()
def PySem.W.Fast.tw11922366297005441627 : Unit:=()
def PySem.W.Fast.tw10033973889647525407 : Unit:=()
def PySem.W.Fast.tw7045876729110994298 : Unit:=()
def PySem.W.Fast.tw13969442977248725654 : Unit:=()
def PySem.W.Fast.tw6206606032585121890 : Unit:=()
def PySem.W.Fast.tw4017121271458310036 : Unit:=()
def PySem.W.Fast.tw4359778572390871673 : Unit:=()
def PySem.W.Fast.tw12887430685128638431 : Unit:=()
def PySem.W.Fast.tw14204897863157503941 : Unit:=()
def PySem.W.Fast.tw18075686003735014008 : Unit:=()
def PySem.W.Fast.tw8791769096468533136 : Unit:=()
def PySem.W.Fast.tw757866286073528560 : Unit:=()
def PySem.W.Fast.tw1958607016234043192 : Unit:=()
def PySem.W.Fast.tw1272703660651237370 : Unit:=()
def PySem.W.Fast.tw16577495845817150479 : Unit:=()
def PySem.W.Fast.tw6458657698484522091 : Unit:=()
def PySem.W.Fast.tw9062333012198823917 : Unit:=()
def PySem.W.Fast.tw18203704394904329965 : Unit:=()
def PySem.W.Fast.tw12782881926235198171 : Unit:=()
def PySem.W.Fast.tw17634823617458687690 : Unit:=()
def PySem.W.Fast.tw9685080573927915464 : Unit:=()
def PySem.W.Fast.tw11861597603553511383 : Unit:=()
def PySem.W.Fast.tw18197580726258428356 : Unit:=()
def PySem.W.Fast.tw14268243682692767112 : Unit:=()
def PySem.W.Fast.tw13614020706469623618 : Unit:=()
def PySem.W.Fast.tw6888959329504311863 : Unit:=()
def PySem.W.Fast.tw6189417735763526102 : Unit:=()
def PySem.W.Fast.tw13671141916935950588 : Unit:=()
def PySem.W.Fast.tw728427429948425051 : Unit:=()
def PySem.W.Fast.tw13422466618088881734 : Unit:=()
def PySem.W.Fast.tw4917319433912500759 : Unit:=()
def PySem.W.Fast.tw8583447767117294593 : Unit:=()
def PySem.W.Fast.tw12325541389715761744 : Unit:=()
def PySem.W.Fast.tw1766725131180395684 : Unit:=()
def PySem.W.Fast.tw11164662975717013590 : Unit:=()
def PySem.W.Fast.tw4293923935538786268 : Unit:=()
def PySem.W.Fast.tw15547997998618490764 : Unit:=()
def PySem.W.Fast.tw6251635265922983843 : Unit:=()
def PySem.W.Fast.tw12169220444974437957 : Unit:=()
def PySem.W.Fast.tw16212020634130856525 : Unit:=()
def PySem.W.Fast.tw9200746273724679157 : Unit:=()
def PySem.W.Fast.tw16824267929749869844 : Unit:=()
def PySem.W.Fast.tw977517739975654162 : Unit:=()
def PySem.W.Fast.tw6149453494337965107 : Unit:=()
def PySem.W.Fast.tw1122356588098729981 : Unit:=()
def PySem.W.Fast.tw12673886230214323333 : Unit:=()
def PySem.W.Fast.tw16686499371540895720 : Unit:=()
def PySem.W.Fast.tw10567565737818626532 : Unit:=()
def PySem.W.Fast.tw16224603255493237952 : Unit:=()
def PySem.W.Fast.tw2067579321323620929 : Unit:=()
def PySem.W.Fast.tw12421074927434824592 : Unit:=()
def PySem.W.Fast.tw7489917327500429077 : Unit:=()
def PySem.W.Fast.tw2525218060480279570 : Unit:=()
def PySem.W.Fast.tw3483918077085550155 : Unit:=()
def PySem.W.Fast.tw8061358305168361735 : Unit:=()
def PySem.W.Fast.tw15932129988437941581 : Unit:=()
def PySem.W.Fast.tw599745304587721517 : Unit:=()
def PySem.W.Fast.tw12801048465578261065 : Unit:=()
def PySem.W.Fast.tw17037453865637014277 : Unit:=()
def PySem.W.Fast.tw3879869038694809193 : Unit:=()
def PySem.W.Fast.tw4765546801464355312 : Unit:=()
def PySem.W.Fast.tw11843798217824879323 : Unit:=()
def PySem.W.Fast.tw14292148573317728154 : Unit:=()
def PySem.W.Fast.tw4025449326512718430 : Unit:=()
def PySem.W.Fast.tw10139524076891704191 : Unit:=()
def PySem.W.Fast.tw8817231203107424955 : Unit:=()
def PySem.W.Fast.tw11281776193556471548 : Unit:=()
def PySem.W.Fast.tw9240823903321052517 : Unit:=()
def PySem.W.Fast.tw8779644194155027617 : Unit:=()
def PySem.W.Fast.tw9359363506068942267 : Unit:=()
def PySem.W.Fast.tw16914883155153521249 : Unit:=()
def PySem.W.Fast.tw15403398874881839198 : Unit:=()
def PySem.W.Fast.tw6315650167500066569 : Unit:=()
def PySem.W.Fast.tw3338513351633202689 : Unit:=()
def PySem.W.Fast.tw17235582022228161898 : Unit:=()
def PySem.W.Fast.tw12561790957725516019 : Unit:=()
def PySem.W.Fast.tw7313190538768194528 : Unit:=()
def PySem.W.Fast.tw4173606623418395768 : Unit:=()
def PySem.W.Fast.tw17734833291265631610 : Unit:=()
def PySem.W.Fast.tw780998438188798092 : Unit:=()
def PySem.W.Fast.tw1236198923490445547 : Unit:=()
def PySem.W.Fast.tw8776722246322164589 : Unit:=()
def PySem.W.Fast.tw343267390596861418 : Unit:=()
def PySem.W.Fast.tw17757908800120799620 : Unit:=()
def PySem.W.Fast.tw14522924915609547510 : Unit:=()
def PySem.W.Fast.tw4831952169823169558 : Unit:=()
def PySem.W.Fast.tw14309197482075478428 : Unit:=()
def PySem.W.Fast.tw6893387240787245569 : Unit:=()
def PySem.W.Fast.tw4920888121030812221 : Unit:=()
def PySem.W.Fast.tw2415289540666195263 : Unit:=()
def PySem.W.Fast.tw7090416255087836139 : Unit:=()
def PySem.W.Fast.tw6316002601259323235 : Unit:=()
def PySem.W.Fast.tw3358758140206349003 : Unit:=()
def PySem.W.Fast.tw13788224554662083717 : Unit:=()
def PySem.W.Fast.tw17944718933570763564 : Unit:=()
def PySem.W.Fast.tw3198808894001293692 : Unit:=()
def PySem.W.Fast.tw14653857128779777212 : Unit:=()
def PySem.W.Fast.tw6648012453118441633 : Unit:=()
def PySem.W.Fast.tw15279222983052145246 : Unit:=()
def PySem.W.Fast.tw12144956559150259288 : Unit:=()
def PySem.W.Fast.tw3594101061857559290 : Unit:=()
def PySem.W.Fast.tw14004769717441486625 : Unit:=()
def PySem.W.Fast.tw18058604299678719596 : Unit:=()
def PySem.W.Fast.tw14951123548762490109 : Unit:=()
def PySem.W.Fast.tw11316845622832053111 : Unit:=()
def PySem.W.Fast.tw12012432030340412666 : Unit:=()
def PySem.W.Fast.tw18115643552317297082 : Unit:=()
def PySem.W.Fast.tw4147953621567561244 : Unit:=()
def PySem.W.Fast.tw8986275253133451272 : Unit:=()
def PySem.W.Fast.tw5879393169603133955 : Unit:=()
def PySem.W.Fast.tw3482541717511421273 : Unit:=()
def PySem.W.Fast.tw5066710221991009009 : Unit:=()
def PySem.W.Fast.tw9792983997946690394 : Unit:=()
def PySem.W.Fast.tw12987944083862048678 : Unit:=()
def PySem.W.Fast.tw11716771736029099668 : Unit:=()
def PySem.W.Fast.tw1330861555978670477 : Unit:=()
def PySem.W.Fast.tw15702785911569664818 : Unit:=()
def PySem.W.Fast.tw13963253075265562080 : Unit:=()
def PySem.W.Fast.tw691367828115021051 : Unit:=()
def PySem.W.Fast.tw4572112750610863361 : Unit:=()
def PySem.W.Fast.tw9712639100704164155 : Unit:=()
def PySem.W.Fast.tw184617575265495383 : Unit:=()
def PySem.W.Fast.tw302805639127127361 : Unit:=()
def PySem.W.Fast.tw2614992213404017333 : Unit:=()
def PySem.W.Fast.tw13430802999440772896 : Unit:=()
def PySem.W.Fast.tw423769059191226761 : Unit:=()
def PySem.W.Fast.tw7516741347182127528 : Unit:=()
def PySem.W.Fast.tw14850429552488338179 : Unit:=()
def PySem.W.Fast.tw4098617709573482626 : Unit:=()
def PySem.W.Fast.tw12231822009468971298 : Unit:=()
open PySem PySem.W PyProof.Rows
set_option maxRecDepth 100000 in
set_option maxHeartbeats 0 in
theorem PySem.Challenge.cw_fewpegs_k05_the_pile_holds : PySem.Challenge.rw_fewpegs_k05_the_pile.Holds := by
  w_on; o_law; k_head; (case hw => w_witness2)
  k_fill
  refine L3.walk_ofT (l:=PySem.Challenge.rw_fewpegs_k05_the_pile) (n:=63) (k:=11) (x := "_law_script") (CX:=fun _ _ => L2.CX0) (sp:=fun K => K05.spLaw K 141) (tabs:=[(145,141)]) rfl (by decide) rfl ⟨rfl,by decide,by decide⟩ (fun w h Y => km_in_of Y) ?T (fun p => by kernel_rfl) ?F ?S ?C
  case T =>
    intro w h Y
    have KX:=km_in_of Y
    have hT8:=km_tabs_of Y
    exact List.forall_mem_cons.mpr ⟨⟨codeHd_of_K (c:=145) (P:=141) KX (by kernel_rfl),hT8 141 (by k_mem)⟩,fun _ h => nomatch h⟩
  case S => exact fun K H a ns hl hS hT => ⟨a,ns,rfl,hS,hl,.inl (hT (145,141) (by simp)),fun _ => rfl⟩
  case C => exact fun _ _ _ _ _ _ z => z
  case F =>
    intro w mg h KX G base kb nb hB hC
    have T : K05.Txt (L2.KOf KX) mg:=by
      dsimp only [L2.KOf]
      refine' K05.txt_of KX G ?z0 ?z1 ?z2 ?z3 ?z4 ?z5 ?z6 ?z7 ?z8 ?z9 ?z10 ?z11 ?z12
      (case z0 => k_is); (case z1 => k_is); (case z2 => k_is); (case z3 => k_is); (case z4 => k_is); (case z5 => k_is); (case z6 => k_is); (case z7 => k_is); (case z8 => k_is); (case z9 => k_is); (case z10 => k_is); (case z11 => k_is); (case z12 => k_is)
    have hBE : mg "BoardError" = some (.ref 24):=by
      refine PySem.W.mg_of KX G ?a
      (case a => k_is)
    have hN : mg "NoLine" = some (.ref 37):=by
      refine PySem.W.mg_of KX G ?a
      (case a => k_is)
    have hNB : mg "NoBar" = some (.ref 85):=by
      refine PySem.W.mg_of KX G ?a
      (case a => k_is)
    have hQ : mg "NoPegs" = some (.ref 61):=by
      refine PySem.W.mg_of KX G ?a
      (case a => k_is)
    have hNT : mg "NotTop" = some (.ref 104):=by
      refine PySem.W.mg_of KX G ?a
      (case a => k_is)
    have hND : mg "NoDeed" = some (.ref 123):=by
      refine PySem.W.mg_of KX G ?a
      (case a => k_is)
    have hNBo : mg "NoBoard" = some (.ref 49):=by
      refine PySem.W.mg_of KX G ?a
      (case a => k_is)
    have hNPi : mg "NoPicture" = some (.ref 73):=by
      refine PySem.W.mg_of KX G ?a
      (case a => k_is)
    have hW : mg "Wide" = some (.ref 365):=by
      refine PySem.W.mg_of KX G ?a
      (case a => k_is)
    have hML : ∃ u,mg "MOST_LINES" = some u ∧ L2.RelV (.int 60) u:=by
      refine' L3.int_of KX G ?a
      (case a => k_is)
    have hVE : mg "ValueError" = none:=by
      refine PySem.W.mg_none_of KX G ?a
      (case a => k_is)
    have cw_pg : PySem.W.plainGet (L2.KOf KX) 365 Str.empty = true:=by
      dsimp only [L2.KOf]
      k_is
    have cw_hd : PySem.W.hasDictIn (L2.KOf KX) 365 = true:=by
      dsimp only [L2.KOf]
      k_is
    have cw_po : PySem.W.plainOver (L2.KOf KX) 365 = true:=by
      dsimp only [L2.KOf]
      k_is
    have cw_sa : PySem.W.findIn (L2.KOf KX) (.ref 365) "__setattr__" = some (some (.builtin "object.__setattr__")):=by
      dsimp only [L2.KOf]
      k_is
    have cw_n_ranks : PySem.W.findIn (L2.KOf KX) (.ref 365) "ranks" = some none:=by
      dsimp only [L2.KOf]
      k_is
    have cw_n_asks : PySem.W.findIn (L2.KOf KX) (.ref 365) "asks" = some none:=by
      dsimp only [L2.KOf]
      k_is
    have cw_n_muted : PySem.W.findIn (L2.KOf KX) (.ref 365) "muted" = some none:=by
      dsimp only [L2.KOf]
      k_is
    have cw_n_pile : PySem.W.findIn (L2.KOf KX) (.ref 365) "pile" = some none:=by
      dsimp only [L2.KOf]
      k_is
    have cw_n_limit : PySem.W.findIn (L2.KOf KX) (.ref 365) "limit" = some none:=by
      dsimp only [L2.KOf]
      k_is
    have knN : PySem.W.keepIn (L2.KOf KX) (.ref 37) = true:=by
      dsimp only [L2.KOf]
      k_is
    have xnN : PySem.W.excIn (L2.KOf KX) 37 [.type "ValueError",.type "Exception",.type "BaseException",.type "object"] "ValueError.__new__" = true:=by
      dsimp only [L2.KOf]
      kernel_rfl
    have knB : PySem.W.keepIn (L2.KOf KX) (.ref 85) = true:=by
      dsimp only [L2.KOf]
      k_is
    have xnB : PySem.W.excIn (L2.KOf KX) 85 [.type "ValueError",.type "Exception",.type "BaseException",.type "object"] "ValueError.__new__" = true:=by
      dsimp only [L2.KOf]
      kernel_rfl
    have tyE : PySem.W.typeIn (L2.KOf KX) (.ref 24) = some (.type "type"):=by
      dsimp only [L2.KOf]
      k_is
    have beE : PySem.W.mroIn (L2.KOf KX) 24 (.type "BaseException") = some true:=by
      dsimp only [L2.KOf]
      k_is
    have tyT : PySem.W.typeIn (L2.KOf KX) (.ref 104) = some (.type "type"):=by
      dsimp only [L2.KOf]
      k_is
    have gcg : PySem.W.specialIn (L2.KOf KX) (.builtin "object.__class__") "__get__" = some (some (.builtin "getset_descriptor.__get__")):=by
      dsimp only [L2.KOf]
      k_is
    have gct : PySem.W.takesIn (L2.KOf KX) (.builtin "object.__class__") = some true:=by
      dsimp only [L2.KOf]
      k_is
    have beN : PySem.W.mroIn (L2.KOf KX) 37 (.type "BaseException") = some true:=by
      dsimp only [L2.KOf]
      k_is
    have obN : PySem.W.mroIn (L2.KOf KX) 37 (.type "object") = some true:=by
      dsimp only [L2.KOf]
      k_is
    have gaN : PySem.W.findIn (L2.KOf KX) (.ref 37) "__getattribute__" = some (some (.builtin "BaseException.__getattribute__")):=by
      dsimp only [L2.KOf]
      k_is
    have ghN : PySem.W.findIn (L2.KOf KX) (.ref 37) "__getattr__" = some none:=by
      dsimp only [L2.KOf]
      k_is
    have gcN : PySem.W.findIn (L2.KOf KX) (.ref 37) "__class__" = some (some (.builtin "object.__class__")):=by
      dsimp only [L2.KOf]
      k_is
    have kN1 : PySem.W.kitOne (L2.KOf KX) (.ref 37) (.ref 37) = some true:=by
      dsimp only [L2.KOf]
      kernel_rfl
    have kN2 : PySem.W.kitOne (L2.KOf KX) (.ref 37) (.ref 85) = some false:=by
      dsimp only [L2.KOf]
      kernel_rfl
    have kN3 : PySem.W.kitOne (L2.KOf KX) (.ref 37) (.ref 104) = some false:=by
      dsimp only [L2.KOf]
      kernel_rfl
    have kN5 : PySem.W.kitOne (L2.KOf KX) (.ref 37) (.ref 49) = some false:=by
      dsimp only [L2.KOf]
      kernel_rfl
    have kN6 : PySem.W.kitOne (L2.KOf KX) (.ref 37) (.ref 73) = some false:=by
      dsimp only [L2.KOf]
      kernel_rfl
    have kN7 : PySem.W.kitOne (L2.KOf KX) (.ref 37) (.ref 61) = some false:=by
      dsimp only [L2.KOf]
      kernel_rfl
    have kN8 : PySem.W.kitOne (L2.KOf KX) (.ref 37) (.ref 123) = some false:=by
      dsimp only [L2.KOf]
      kernel_rfl
    have veN : PySem.W.kitOne (L2.KOf KX) (.ref 37) (.type "ValueError") = some true:=by
      dsimp only [L2.KOf]
      kernel_rfl
    have KDN : K05.XKd (L2.KOf KX) mg 37 true false false:=⟨⟨gaN,ghN,beN,obN,gcN,gcg,gct⟩,⟨_,hN,kN1⟩,⟨_,hNB,kN2⟩,⟨_,hNT,kN3⟩,⟨hVE,veN⟩,⟨_,hNBo,kN5⟩,⟨_,hNPi,kN6⟩,⟨_,hQ,kN7⟩,⟨_,hND,kN8⟩⟩
    have beB : PySem.W.mroIn (L2.KOf KX) 85 (.type "BaseException") = some true:=by
      dsimp only [L2.KOf]
      k_is
    have obB : PySem.W.mroIn (L2.KOf KX) 85 (.type "object") = some true:=by
      dsimp only [L2.KOf]
      k_is
    have gaB : PySem.W.findIn (L2.KOf KX) (.ref 85) "__getattribute__" = some (some (.builtin "BaseException.__getattribute__")):=by
      dsimp only [L2.KOf]
      k_is
    have ghB : PySem.W.findIn (L2.KOf KX) (.ref 85) "__getattr__" = some none:=by
      dsimp only [L2.KOf]
      k_is
    have gcB : PySem.W.findIn (L2.KOf KX) (.ref 85) "__class__" = some (some (.builtin "object.__class__")):=by
      dsimp only [L2.KOf]
      k_is
    have kB1 : PySem.W.kitOne (L2.KOf KX) (.ref 85) (.ref 37) = some false:=by
      dsimp only [L2.KOf]
      kernel_rfl
    have kB2 : PySem.W.kitOne (L2.KOf KX) (.ref 85) (.ref 85) = some true:=by
      dsimp only [L2.KOf]
      kernel_rfl
    have kB3 : PySem.W.kitOne (L2.KOf KX) (.ref 85) (.ref 104) = some false:=by
      dsimp only [L2.KOf]
      kernel_rfl
    have kB5 : PySem.W.kitOne (L2.KOf KX) (.ref 85) (.ref 49) = some false:=by
      dsimp only [L2.KOf]
      kernel_rfl
    have kB6 : PySem.W.kitOne (L2.KOf KX) (.ref 85) (.ref 73) = some false:=by
      dsimp only [L2.KOf]
      kernel_rfl
    have kB7 : PySem.W.kitOne (L2.KOf KX) (.ref 85) (.ref 61) = some false:=by
      dsimp only [L2.KOf]
      kernel_rfl
    have kB8 : PySem.W.kitOne (L2.KOf KX) (.ref 85) (.ref 123) = some false:=by
      dsimp only [L2.KOf]
      kernel_rfl
    have veB : PySem.W.kitOne (L2.KOf KX) (.ref 85) (.type "ValueError") = some true:=by
      dsimp only [L2.KOf]
      kernel_rfl
    have KDB : K05.XKd (L2.KOf KX) mg 85 false true false:=⟨⟨gaB,ghB,beB,obB,gcB,gcg,gct⟩,⟨_,hN,kB1⟩,⟨_,hNB,kB2⟩,⟨_,hNT,kB3⟩,⟨hVE,veB⟩,⟨_,hNBo,kB5⟩,⟨_,hNPi,kB6⟩,⟨_,hQ,kB7⟩,⟨_,hND,kB8⟩⟩
    have beT : PySem.W.mroIn (L2.KOf KX) 104 (.type "BaseException") = some true:=by
      dsimp only [L2.KOf]
      k_is
    have obT : PySem.W.mroIn (L2.KOf KX) 104 (.type "object") = some true:=by
      dsimp only [L2.KOf]
      k_is
    have gaT : PySem.W.findIn (L2.KOf KX) (.ref 104) "__getattribute__" = some (some (.builtin "BaseException.__getattribute__")):=by
      dsimp only [L2.KOf]
      k_is
    have ghT : PySem.W.findIn (L2.KOf KX) (.ref 104) "__getattr__" = some none:=by
      dsimp only [L2.KOf]
      k_is
    have gcT : PySem.W.findIn (L2.KOf KX) (.ref 104) "__class__" = some (some (.builtin "object.__class__")):=by
      dsimp only [L2.KOf]
      k_is
    have kT1 : PySem.W.kitOne (L2.KOf KX) (.ref 104) (.ref 37) = some false:=by
      dsimp only [L2.KOf]
      kernel_rfl
    have kT2 : PySem.W.kitOne (L2.KOf KX) (.ref 104) (.ref 85) = some false:=by
      dsimp only [L2.KOf]
      kernel_rfl
    have kT3 : PySem.W.kitOne (L2.KOf KX) (.ref 104) (.ref 104) = some true:=by
      dsimp only [L2.KOf]
      kernel_rfl
    have kT5 : PySem.W.kitOne (L2.KOf KX) (.ref 104) (.ref 49) = some false:=by
      dsimp only [L2.KOf]
      kernel_rfl
    have kT6 : PySem.W.kitOne (L2.KOf KX) (.ref 104) (.ref 73) = some false:=by
      dsimp only [L2.KOf]
      kernel_rfl
    have kT7 : PySem.W.kitOne (L2.KOf KX) (.ref 104) (.ref 61) = some false:=by
      dsimp only [L2.KOf]
      kernel_rfl
    have kT8 : PySem.W.kitOne (L2.KOf KX) (.ref 104) (.ref 123) = some false:=by
      dsimp only [L2.KOf]
      kernel_rfl
    have veT : PySem.W.kitOne (L2.KOf KX) (.ref 104) (.type "ValueError") = some true:=by
      dsimp only [L2.KOf]
      kernel_rfl
    have KDT : K05.XKd (L2.KOf KX) mg 104 false false true:=⟨⟨gaT,ghT,beT,obT,gcT,gcg,gct⟩,⟨_,hN,kT1⟩,⟨_,hNB,kT2⟩,⟨_,hNT,kT3⟩,⟨hVE,veT⟩,⟨_,hNBo,kT5⟩,⟨_,hNPi,kT6⟩,⟨_,hQ,kT7⟩,⟨_,hND,kT8⟩⟩
    have mNE : PySem.W.mroIn (L2.KOf KX) 37 (.ref 24) = some true:=by
      dsimp only [L2.KOf]
      k_is
    have mBE : PySem.W.mroIn (L2.KOf KX) 85 (.ref 24) = some true:=by
      dsimp only [L2.KOf]
      k_is
    have mTT : PySem.W.mroIn (L2.KOf KX) 104 (.ref 104) = some true:=by
      dsimp only [L2.KOf]
      k_is
    have kTE : PySem.W.kitOne (L2.KOf KX) (.ref 104) (.ref 24) = some true:=by
      dsimp only [L2.KOf]
      kernel_rfl
    have bga : PySem.W.specialIn (L2.KOf KX) (.ref 24) "__getattribute__" = some (some (.builtin "type.__getattribute__")):=by
      dsimp only [L2.KOf]
      k_is
    have brd : PySem.W.readsIn (L2.KOf KX) 24 (.type "type") = true:=by
      dsimp only [L2.KOf]
      k_is
    have bfi : PySem.W.findCls (L2.KOf KX) (.ref 24) (.type "type") "__init__" = some (.val (.builtin "ValueError.__init__")):=by
      dsimp only [L2.KOf]
      k_is
    have xce : L3.excIn1 (L2.KOf KX) 104 = true:=by
      dsimp only [L2.KOf]
      kernel_rfl
    have xsa : PySem.W.findIn (L2.KOf KX) (.ref 104) "__setattr__" = some (some (.builtin "object.__setattr__")):=by
      dsimp only [L2.KOf]
      k_is
    have xhd : PySem.W.hasDictIn (L2.KOf KX) 104 = true:=by
      dsimp only [L2.KOf]
      k_is
    have xkT : PySem.W.keepIn (L2.KOf KX) (.ref 104) = true:=by
      dsimp only [L2.KOf]
      k_is
    have xl : PySem.W.findIn (L2.KOf KX) (.ref 104) "line" = some none:=by
      dsimp only [L2.KOf]
      k_is
    have xt : PySem.W.findIn (L2.KOf KX) (.ref 104) "top" = some none:=by
      dsimp only [L2.KOf]
      k_is
    have XC : L3.XCls (L2.KOf KX) 104:=⟨xce,xsa,obT,beT,xhd⟩
    have x_nt : L3.DefX (L2.KOf KX) mg "NotTop" 104 "NotTop.__init__" (K05.nt 0) ["self", "line", "top"]:=by
      dsimp only [L2.KOf] at xkT XC tyT ⊢
      refine' L3.DefX.of ⟨hNT,xkT,XC,tyT,?i,?fn⟩ (fun _ _ _ _ _ _ us hl => match us,hl with | [_,_,_],_ => rfl) ?l ?c ?k
      (case i => k_is); (case fn => k_is); (case l => k_is); (case c => k_is); (case k => k_is)
    have d_is_whole : L3.Def (L2.KOf KX) mg "is_whole" (K05.top 10) ["thing"]:=by
      dsimp only [L2.KOf]
      refine' L3.Def.of KX G (fun _ _ _ _ _ _ us hl => match us,hl with | [_],_ => rfl) ?a ?l ?c ?k
      (case a => k_is); (case l => k_is); (case c => k_is); (case k => k_is)
    have d_standing : L3.Def (L2.KOf KX) mg "standing" (K05.top 11) ["ranks", "line"]:=by
      dsimp only [L2.KOf]
      refine' L3.Def.of KX G (fun _ _ _ _ _ _ us hl => match us,hl with | [_,_],_ => rfl) ?a ?l ?c ?k
      (case a => k_is); (case l => k_is); (case c => k_is); (case k => k_is)
    have d_is_up_to : L3.Def (L2.KOf KX) mg "is_up_to" (K05.top 15) ["most", "thing"]:=by
      dsimp only [L2.KOf]
      refine' L3.Def.of KX G (fun _ _ _ _ _ _ us hl => match us,hl with | [_,_],_ => rfl) ?a ?l ?c ?k
      (case a => k_is); (case l => k_is); (case c => k_is); (case k => k_is)
    have d_is_rank : L3.Def (L2.KOf KX) mg "is_rank" (K05.top 16) ["thing"]:=by
      dsimp only [L2.KOf]
      refine' L3.Def.of KX G (fun _ _ _ _ _ _ us hl => match us,hl with | [_],_ => rfl) ?a ?l ?c ?k
      (case a => k_is); (case l => k_is); (case c => k_is); (case k => k_is)
    have d_is_bar : L3.Def (L2.KOf KX) mg "is_bar" (K05.top 17) ["thing"]:=by
      dsimp only [L2.KOf]
      refine' L3.Def.of KX G (fun _ _ _ _ _ _ us hl => match us,hl with | [_],_ => rfl) ?a ?l ?c ?k
      (case a => k_is); (case l => k_is); (case c => k_is); (case k => k_is)
    have d_is_line : L3.Def (L2.KOf KX) mg "is_line" (K05.top 18) ["ranks", "thing"]:=by
      dsimp only [L2.KOf]
      refine' L3.Def.of KX G (fun _ _ _ _ _ _ us hl => match us,hl with | [_,_],_ => rfl) ?a ?l ?c ?k
      (case a => k_is); (case l => k_is); (case c => k_is); (case k => k_is)
    have d_are_ranks : L3.Def (L2.KOf KX) mg "are_ranks" (K05.top 19) ["thing"]:=by
      dsimp only [L2.KOf]
      refine' L3.Def.of KX G (fun _ _ _ _ _ _ us hl => match us,hl with | [_],_ => rfl) ?a ?l ?c ?k
      (case a => k_is); (case l => k_is); (case c => k_is); (case k => k_is)
    have d_are_lines : L3.Def (L2.KOf KX) mg "are_lines" (K05.top 20) ["ranks", "thing"]:=by
      dsimp only [L2.KOf]
      refine' L3.Def.of KX G (fun _ _ _ _ _ _ us hl => match us,hl with | [_,_],_ => rfl) ?a ?l ?c ?k
      (case a => k_is); (case l => k_is); (case c => k_is); (case k => k_is)
    have d_rises : L3.Def (L2.KOf KX) mg "rises" (K05.top 21) ["numbers"]:=by
      dsimp only [L2.KOf]
      refine' L3.Def.of KX G (fun _ _ _ _ _ _ us hl => match us,hl with | [_],_ => rfl) ?a ?l ?c ?k
      (case a => k_is); (case l => k_is); (case c => k_is); (case k => k_is)
    have d_are_rising_lines : L3.Def (L2.KOf KX) mg "are_rising_lines" (K05.top 22) ["ranks", "thing"]:=by
      dsimp only [L2.KOf]
      refine' L3.Def.of KX G (fun _ _ _ _ _ _ us hl => match us,hl with | [_,_],_ => rfl) ?a ?l ?c ?k
      (case a => k_is); (case l => k_is); (case c => k_is); (case k => k_is)
    have d_is_pile : L3.Def (L2.KOf KX) mg "is_pile" (K05.top 23) ["ranks", "thing"]:=by
      dsimp only [L2.KOf]
      refine' L3.Def.of KX G (fun _ _ _ _ _ _ us hl => match us,hl with | [_,_],_ => rfl) ?a ?l ?c ?k
      (case a => k_is); (case l => k_is); (case c => k_is); (case k => k_is)
    have d_is_picture : L3.Def (L2.KOf KX) mg "is_picture" (K05.top 24) ["ranks", "thing"]:=by
      dsimp only [L2.KOf]
      refine' L3.Def.of KX G (fun _ _ _ _ _ _ us hl => match us,hl with | [_,_],_ => rfl) ?a ?l ?c ?k
      (case a => k_is); (case l => k_is); (case c => k_is); (case k => k_is)
    have d_marks_of : L3.Def (L2.KOf KX) mg "marks_of" (K05.top 25) ["ranks", "lines"]:=by
      dsimp only [L2.KOf]
      refine' L3.Def.of KX G (fun _ _ _ _ _ _ us hl => match us,hl with | [_,_],_ => rfl) ?a ?l ?c ?k
      (case a => k_is); (case l => k_is); (case c => k_is); (case k => k_is)
    have d_marked : L3.Def (L2.KOf KX) mg "marked" (K05.top 26) ["marks"]:=by
      dsimp only [L2.KOf]
      refine' L3.Def.of KX G (fun _ _ _ _ _ _ us hl => match us,hl with | [_],_ => rfl) ?a ?l ?c ?k
      (case a => k_is); (case l => k_is); (case c => k_is); (case k => k_is)
    have d_top_of : L3.Def (L2.KOf KX) mg "top_of" (K05.top 27) ["pile"]:=by
      dsimp only [L2.KOf]
      refine' L3.Def.of KX G (fun _ _ _ _ _ _ us hl => match us,hl with | [_],_ => rfl) ?a ?l ?c ?k
      (case a => k_is); (case l => k_is); (case c => k_is); (case k => k_is)
    have d__law_cell_at : L3.Def (L2.KOf KX) mg "_law_cell_at" (K05.top 32) ["_law_script", "_law_k"]:=by
      dsimp only [L2.KOf]
      refine' L3.Def.of KX G (fun _ _ _ _ _ _ us hl => match us,hl with | [_,_],_ => rfl) ?a ?l ?c ?k
      (case a => k_is); (case l => k_is); (case c => k_is); (case k => k_is)
    have d__law_whole : L3.Def (L2.KOf KX) mg "_law_whole" (K05.top 33) ["_law_found"]:=by
      dsimp only [L2.KOf]
      refine' L3.Def.of KX G (fun _ _ _ _ _ _ us hl => match us,hl with | [_],_ => rfl) ?a ?l ?c ?k
      (case a => k_is); (case l => k_is); (case c => k_is); (case k => k_is)
    have d__law_drawn : L3.Def (L2.KOf KX) mg "_law_drawn" (K05.top 34) ["_law_cell", "_law_many"]:=by
      dsimp only [L2.KOf]
      refine' L3.Def.of KX G (fun _ _ _ _ _ _ us hl => match us,hl with | [_,_],_ => rfl) ?a ?l ?c ?k
      (case a => k_is); (case l => k_is); (case c => k_is); (case k => k_is)
    have d__law_ranks : L3.Def (L2.KOf KX) mg "_law_ranks" (K05.top 35) ["_law_cell", "_law_many"]:=by
      dsimp only [L2.KOf]
      refine' L3.Def.of KX G (fun _ _ _ _ _ _ us hl => match us,hl with | [_,_],_ => rfl) ?a ?l ?c ?k
      (case a => k_is); (case l => k_is); (case c => k_is); (case k => k_is)
    have d__law_same : L3.Def (L2.KOf KX) mg "_law_same" (K05.top 36) ["_law_found", "_law_due"]:=by
      dsimp only [L2.KOf]
      refine' L3.Def.of KX G (fun _ _ _ _ _ _ us hl => match us,hl with | [_,_],_ => rfl) ?a ?l ?c ?k
      (case a => k_is); (case l => k_is); (case c => k_is); (case k => k_is)
    have d__law_top : L3.Def (L2.KOf KX) mg "_law_top" (K05.top 37) ["_law_pile"]:=by
      dsimp only [L2.KOf]
      refine' L3.Def.of KX G (fun _ _ _ _ _ _ us hl => match us,hl with | [_],_ => rfl) ?a ?l ?c ?k
      (case a => k_is); (case l => k_is); (case c => k_is); (case k => k_is)
    have d__law_below : L3.Def (L2.KOf KX) mg "_law_below" (K05.top 38) ["_law_ranks_here", "_law_pile", "_law_line"]:=by
      dsimp only [L2.KOf]
      refine' L3.Def.of KX G (fun _ _ _ _ _ _ us hl => match us,hl with | [_,_,_],_ => rfl) ?a ?l ?c ?k
      (case a => k_is); (case l => k_is); (case c => k_is); (case k => k_is)
    have d__law_best : L3.Def (L2.KOf KX) mg "_law_best" (K05.top 39) ["_law_ranks_here", "_law_state"]:=by
      dsimp only [L2.KOf]
      refine' L3.Def.of KX G (fun _ _ _ _ _ _ us hl => match us,hl with | [_,_],_ => rfl) ?a ?l ?c ?k
      (case a => k_is); (case l => k_is); (case c => k_is); (case k => k_is)
    have d__law_last : L3.Def (L2.KOf KX) mg "_law_last" (K05.top 40) ["_law_ranks_here", "_law_pile"]:=by
      dsimp only [L2.KOf]
      refine' L3.Def.of KX G (fun _ _ _ _ _ _ us hl => match us,hl with | [_,_],_ => rfl) ?a ?l ?c ?k
      (case a => k_is); (case l => k_is); (case c => k_is); (case k => k_is)
    have d__law_said : L3.Def (L2.KOf KX) mg "_law_said" (K05.top 41) ["_law_board", "_law_word", "_law_thing"]:=by
      dsimp only [L2.KOf]
      refine' L3.Def.of KX G (fun _ _ _ _ _ _ us hl => match us,hl with | [_,_,_],_ => rfl) ?a ?l ?c ?k
      (case a => k_is); (case l => k_is); (case c => k_is); (case k => k_is)
    have d__law_kinds : L3.Def (L2.KOf KX) mg "_law_kinds" (K05.top 42) ["_law_e"]:=by
      dsimp only [L2.KOf]
      refine' L3.Def.of KX G (fun _ _ _ _ _ _ us hl => match us,hl with | [_],_ => rfl) ?a ?l ?c ?k
      (case a => k_is); (case l => k_is); (case c => k_is); (case k => k_is)
    have d__law_refused : L3.Def (L2.KOf KX) mg "_law_refused" (K05.top 43) ["_law_board", "_law_word", "_law_odd"]:=by
      dsimp only [L2.KOf]
      refine' L3.Def.of KX G (fun _ _ _ _ _ _ us hl => match us,hl with | [_,_,_],_ => rfl) ?a ?l ?c ?k
      (case a => k_is); (case l => k_is); (case c => k_is); (case k => k_is)
    have d__law_not_top : L3.Def (L2.KOf KX) mg "_law_not_top" (K05.top 44) ["_law_board", "_law_line", "_law_top_here"]:=by
      dsimp only [L2.KOf]
      refine' L3.Def.of KX G (fun _ _ _ _ _ _ us hl => match us,hl with | [_,_,_],_ => rfl) ?a ?l ?c ?k
      (case a => k_is); (case l => k_is); (case c => k_is); (case k => k_is)
    have d__law_ended : L3.Def (L2.KOf KX) mg "_law_ended" (K05.top 45) ["_law_board", "_law_pile", "_law_line"]:=by
      dsimp only [L2.KOf]
      refine' L3.Def.of KX G (fun _ _ _ _ _ _ us hl => match us,hl with | [_,_,_],_ => rfl) ?a ?l ?c ?k
      (case a => k_is); (case l => k_is); (case c => k_is); (case k => k_is)
    have d__law_rings : L3.Def (L2.KOf KX) mg "_law_rings" (K05.top 46) ["_law_board", "_law_state", "_law_line"]:=by
      dsimp only [L2.KOf]
      refine' L3.Def.of KX G (fun _ _ _ _ _ _ us hl => match us,hl with | [_,_,_],_ => rfl) ?a ?l ?c ?k
      (case a => k_is); (case l => k_is); (case c => k_is); (case k => k_is)
    have d__law_taken : L3.Def (L2.KOf KX) mg "_law_taken" (K05.top 47) ["_law_board", "_law_ranks_here", "_law_state"]:=by
      dsimp only [L2.KOf]
      refine' L3.Def.of KX G (fun _ _ _ _ _ _ us hl => match us,hl with | [_,_,_],_ => rfl) ?a ?l ?c ?k
      (case a => k_is); (case l => k_is); (case c => k_is); (case k => k_is)
    have d__law_laid : L3.Def (L2.KOf KX) mg "_law_laid" (K05.top 48) ["_law_board", "_law_ranks_here", "_law_state"]:=by
      dsimp only [L2.KOf]
      refine' L3.Def.of KX G (fun _ _ _ _ _ _ us hl => match us,hl with | [_,_,_],_ => rfl) ?a ?l ?c ?k
      (case a => k_is); (case l => k_is); (case c => k_is); (case k => k_is)
    have d__law_bars : L3.Def (L2.KOf KX) mg "_law_bars" (K05.top 49) ["_law_board", "_law_ranks_here", "_law_state", "_law_cell", "_law_line"]:=by
      dsimp only [L2.KOf]
      refine' L3.Def.of KX G (fun _ _ _ _ _ _ us hl => match us,hl with | [_,_,_,_,_],_ => rfl) ?a ?l ?c ?k
      (case a => k_is); (case l => k_is); (case c => k_is); (case k => k_is)
    have d__law_deed : L3.Def (L2.KOf KX) mg "_law_deed" (K05.top 50) ["_law_board", "_law_ranks_here", "_law_state", "_law_cell", "_law_line"]:=by
      dsimp only [L2.KOf]
      refine' L3.Def.of KX G (fun _ _ _ _ _ _ us hl => match us,hl with | [_,_,_,_,_],_ => rfl) ?a ?l ?c ?k
      (case a => k_is); (case l => k_is); (case c => k_is); (case k => k_is)
    have d__law_shows : L3.Def (L2.KOf KX) mg "_law_shows" (K05.top 51) ["_law_board", "_law_state"]:=by
      dsimp only [L2.KOf]
      refine' L3.Def.of KX G (fun _ _ _ _ _ _ us hl => match us,hl with | [_,_],_ => rfl) ?a ?l ?c ?k
      (case a => k_is); (case l => k_is); (case c => k_is); (case k => k_is)
    have d__law_made_good : L3.Def (L2.KOf KX) mg "_law_made_good" (K05.top 52) ["_law_board", "_law_state", "_law_cell"]:=by
      dsimp only [L2.KOf]
      refine' L3.Def.of KX G (fun _ _ _ _ _ _ us hl => match us,hl with | [_,_,_],_ => rfl) ?a ?l ?c ?k
      (case a => k_is); (case l => k_is); (case c => k_is); (case k => k_is)
    have d_law : L3.Def (L2.KOf KX) mg "law" (K05.top 53) ["_law_script"]:=by
      dsimp only [L2.KOf]
      refine' L3.Def.of KX G (fun _ _ _ _ _ _ us hl => match us,hl with | [_],_ => rfl) ?a ?l ?c ?k
      (case a => k_is); (case l => k_is); (case c => k_is); (case k => k_is)
    have d_first_of : L3.DefC (L2.KOf KX) mg "first_of" (K05.top 12) ["ranks", "lines"] 145:=by
      dsimp only [L2.KOf]
      refine' L3.DefC.of KX G (fun _ _ _ _ _ _ us hl => match us,hl with | [_,_],_ => rfl) ?a ?l ?c ?k
      (case a => k_is); (case l => k_is); (case c => k_is); (case k => k_is)
    have b_ring : L3.MDef (L2.KOf KX) 365 "ring" "Board.ring" (K05.bm 1) ["self", "line"]:=by
      dsimp only [L2.KOf]
      refine' L3.MDef.of (fun _ _ _ _ _ _ us hl => match us,hl with | [_,_],_ => rfl) ?a ?i ?l ?c ?k
      (case a => k_is); (case i => k_is); (case l => k_is); (case c => k_is); (case k => k_is)
    have b_calm : L3.MDef (L2.KOf KX) 365 "calm" "Board.calm" (K05.bm 2) ["self", "line"]:=by
      dsimp only [L2.KOf]
      refine' L3.MDef.of (fun _ _ _ _ _ _ us hl => match us,hl with | [_,_],_ => rfl) ?a ?i ?l ?c ?k
      (case a => k_is); (case i => k_is); (case l => k_is); (case c => k_is); (case k => k_is)
    have b_mute : L3.MDef (L2.KOf KX) 365 "mute" "Board.mute" (K05.bm 3) ["self", "line"]:=by
      dsimp only [L2.KOf]
      refine' L3.MDef.of (fun _ _ _ _ _ _ us hl => match us,hl with | [_,_],_ => rfl) ?a ?i ?l ?c ?k
      (case a => k_is); (case i => k_is); (case l => k_is); (case c => k_is); (case k => k_is)
    have b_free : L3.MDef (L2.KOf KX) 365 "free" "Board.free" (K05.bm 4) ["self", "line"]:=by
      dsimp only [L2.KOf]
      refine' L3.MDef.of (fun _ _ _ _ _ _ us hl => match us,hl with | [_,_],_ => rfl) ?a ?i ?l ?c ?k
      (case a => k_is); (case i => k_is); (case l => k_is); (case c => k_is); (case k => k_is)
    have b_bar : L3.MDef (L2.KOf KX) 365 "bar" "Board.bar" (K05.bm 5) ["self", "rank"]:=by
      dsimp only [L2.KOf]
      refine' L3.MDef.of (fun _ _ _ _ _ _ us hl => match us,hl with | [_,_],_ => rfl) ?a ?i ?l ?c ?k
      (case a => k_is); (case i => k_is); (case l => k_is); (case c => k_is); (case k => k_is)
    have b_take : L3.MDef (L2.KOf KX) 365 "take" "Board.take" (K05.bm 6) ["self"]:=by
      dsimp only [L2.KOf]
      refine' L3.MDef.of (fun _ _ _ _ _ _ us hl => match us,hl with | [_],_ => rfl) ?a ?i ?l ?c ?k
      (case a => k_is); (case i => k_is); (case l => k_is); (case c => k_is); (case k => k_is)
    have b_end : L3.MDef (L2.KOf KX) 365 "end" "Board.end" (K05.bm 7) ["self", "line"]:=by
      dsimp only [L2.KOf]
      refine' L3.MDef.of (fun _ _ _ _ _ _ us hl => match us,hl with | [_,_],_ => rfl) ?a ?i ?l ?c ?k
      (case a => k_is); (case i => k_is); (case l => k_is); (case c => k_is); (case k => k_is)
    have b_told : L3.MDef (L2.KOf KX) 365 "told" "Board.told" (K05.bm 8) ["self"]:=by
      dsimp only [L2.KOf]
      refine' L3.MDef.of (fun _ _ _ _ _ _ us hl => match us,hl with | [_],_ => rfl) ?a ?i ?l ?c ?k
      (case a => k_is); (case i => k_is); (case l => k_is); (case c => k_is); (case k => k_is)
    have b_check_line : L3.MDef (L2.KOf KX) 365 "check_line" "Board.check_line" (K05.bm 9) ["self", "line"]:=by
      dsimp only [L2.KOf]
      refine' L3.MDef.of (fun _ _ _ _ _ _ us hl => match us,hl with | [_,_],_ => rfl) ?a ?i ?l ?c ?k
      (case a => k_is); (case i => k_is); (case l => k_is); (case c => k_is); (case k => k_is)
    have b_turn : L3.MDef (L2.KOf KX) 365 "turn" "Board.turn" (K05.bm 10) ["self", "marks", "line", "wish"]:=by
      dsimp only [L2.KOf]
      refine' L3.MDef.of (fun _ _ _ _ _ _ us hl => match us,hl with | [_,_,_,_],_ => rfl) ?a ?i ?l ?c ?k
      (case a => k_is); (case i => k_is); (case l => k_is); (case c => k_is); (case k => k_is)
    have b_wants : L3.MDef (L2.KOf KX) 365 "wants" "Board.wants" (K05.bm 11) ["self", "line"]:=by
      dsimp only [L2.KOf]
      refine' L3.MDef.of (fun _ _ _ _ _ _ us hl => match us,hl with | [_,_],_ => rfl) ?a ?i ?l ?c ?k
      (case a => k_is); (case i => k_is); (case l => k_is); (case c => k_is); (case k => k_is)
    have b_wanting : L3.MDef (L2.KOf KX) 365 "wanting" "Board.wanting" (K05.bm 12) ["self"]:=by
      dsimp only [L2.KOf]
      refine' L3.MDef.of (fun _ _ _ _ _ _ us hl => match us,hl with | [_],_ => rfl) ?a ?i ?l ?c ?k
      (case a => k_is); (case i => k_is); (case l => k_is); (case c => k_is); (case k => k_is)
    have b_is_open : L3.MDef (L2.KOf KX) 365 "is_open" "Board.is_open" (K05.bm 13) ["self", "line"]:=by
      dsimp only [L2.KOf]
      refine' L3.MDef.of (fun _ _ _ _ _ _ us hl => match us,hl with | [_,_],_ => rfl) ?a ?i ?l ?c ?k
      (case a => k_is); (case i => k_is); (case l => k_is); (case c => k_is); (case k => k_is)
    have w_best : L3.MDef (L2.KOf KX) 365 "best" "Wide.best" (K05.wm 0) ["self"]:=by
      dsimp only [L2.KOf]
      refine' L3.MDef.of (fun _ _ _ _ _ _ us hl => match us,hl with | [_],_ => rfl) ?a ?i ?l ?c ?k
      (case a => k_is); (case i => k_is); (case l => k_is); (case c => k_is); (case k => k_is)
    have w_line_comes : L3.MDef (L2.KOf KX) 365 "line_comes" "Wide.line_comes" (K05.wm 1) ["self", "line"]:=by
      dsimp only [L2.KOf]
      refine' L3.MDef.of (fun _ _ _ _ _ _ us hl => match us,hl with | [_,_],_ => rfl) ?a ?i ?l ?c ?k
      (case a => k_is); (case i => k_is); (case l => k_is); (case c => k_is); (case k => k_is)
    have w_line_goes : L3.MDef (L2.KOf KX) 365 "line_goes" "Wide.line_goes" (K05.wm 2) ["self", "line"]:=by
      dsimp only [L2.KOf]
      refine' L3.MDef.of (fun _ _ _ _ _ _ us hl => match us,hl with | [_,_],_ => rfl) ?a ?i ?l ?c ?k
      (case a => k_is); (case i => k_is); (case l => k_is); (case c => k_is); (case k => k_is)
    have k0 : L3.KDefD (L2.KOf KX) 365 "Board.__init__" (K05.bm 0) ["self", "ranks", "picture"] [.none]:=by
      dsimp only [L2.KOf]
      refine' L3.KDefD.of (items:=#[.none]) (fun _ _ _ _ _ _ s us ob ho hd hl => match us,hl with | [_,_],_ => BindsTo.of_defaults rfl ho hd rfl rfl) ?mk ?kc ?a ?i ?l ?c ?l2
      (case mk => k_is); (case kc => k_is); (case a => k_is); (case i => k_is); (case l => k_is); (case c => k_is); (case l2 => k_is)
    obtain ⟨u,hM,hu⟩:=hML
    have D : K05.Defs (L2.KOf KX) mg 145 365 104:=⟨d_is_whole,d_standing,d_is_up_to,d_is_rank,d_is_bar,d_is_line,d_are_ranks,d_are_lines,d_rises,d_are_rising_lines,d_is_pile,d_is_picture,d_marks_of,d_marked,d_top_of,d__law_cell_at,d__law_whole,d__law_drawn,d__law_ranks,d__law_same,d__law_top,d__law_below,d__law_best,d__law_last,d__law_said,d__law_kinds,d__law_refused,d__law_not_top,d__law_ended,d__law_rings,d__law_taken,d__law_laid,d__law_bars,d__law_deed,d__law_shows,d__law_made_good,d_law,d_first_of,b_ring,b_calm,b_mute,b_free,b_bar,b_take,b_end,b_told,b_check_line,b_turn,b_wants,b_wanting,b_is_open,w_best,w_line_comes,w_line_goes,k0,x_nt⟩
    exact K05.law_fu D T ⟨⟨cw_pg,cw_hd,cw_po,cw_sa⟩,cw_n_ranks,cw_n_asks,cw_n_muted,cw_n_pile,cw_n_limit⟩ hW hM hu (hC (145,141) (by simp)) hB ⟨hN,knN,xnN⟩ ⟨hNB,knB,xnB⟩ ⟨bga,brd,bfi⟩ XC ⟨hBE,tyE,beE⟩ KDN KDB mNE mBE ⟨hNT,tyT,beT,mTT,KDT,kTE,xhd,xl,xt⟩ hVE hN hNB hNT hNBo hNPi hQ hND

